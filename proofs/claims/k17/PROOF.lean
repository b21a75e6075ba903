
import PyProof.Rows.All
import Wide.All
import OpenK.AllK
import Wide.FinOn
import Lean
import PyProof.EqAt
import PyProof.EqKinds
import PyProof.TupleCall
import KE.KIntText
import PyProof.CompFree
import PyProof.P3Eq
import PyProof.NeData
import PyProof.StrLawsTight
import PyProof.StrLawsReplace
import PyProof.StrCalls2
import KE.IntTextLaws
import KE.KMinBuiltin
import PyProof.WalkInts
import PyProof.Rows.CallKwBuiltin
import PyProof.Rows.CallKw2
import PyProof.SetScanFacts
import PyProof.SetKind
import PyProof.DictStraight
import PyProof.Rows.SetFrom
import PyProof.DictIter
import PyProof.Walks
import PyProof.FactsAll.set_1
import PyProof.Rows.TupIn
import PyProof.CollectWalk
import PyProof.FactsAll.set_2
import PyProof.Rows.SortWalk
import PyProof.MeetsStr
import PyProof.StrLaws
import PyProof.StrBlockL
import PyProof.ListRange
import PyProof.ZipIter
import PyProof.EnumMake
import PyProof.Rows.EnumRows
import PyProof.Rows.FactsT2
import PyProof.DictWalks
import PyProof.Conv_int_bool
import KE.KRevSl
import PySem.Challenge.RW_roadbook_k17_zones_and_tickets
set_option Elab.async false
set_option linter.all false
set_option maxRecDepth 100000
namespace L2
open PySem PySem.Spec PyProof.Rows

abbrev Key := Sum Int Str
def keyIs : Key → Value → Bool
  | .inl k, v => Value.isInt k v
  | .inr x, v => Value.isStrOf x v
def keyH (w : World) : Key → Int
  | .inl k => hashInt k
  | .inr x => hashStr w x
theorem keyIs_shape : ∀ {k : Key} {v : Value}, keyIs k v = true → (∃ i t, k = Sum.inl i ∧ v = Value.int i t) ∨ (∃ x t, k = Sum.inr x ∧ v = Value.str x t)
  | .inl i, v, h => by
    obtain ⟨t, e⟩ := Value.isInt_shape (k := i) (v := v) h
    exact .inl ⟨i, t, rfl, e⟩
  | .inr x, v, h => by
    obtain ⟨t, e⟩ := Value.isStrOf_shape (x := x) (v := v) h
    exact .inr ⟨x, t, rfl, e⟩
theorem keyIs_int (i : Int) (t : Tok) : keyIs (.inl i) (.int i t) = true := by simp [keyIs, Value.isInt]
theorem keyIs_str (x : Str) (t : Tok) : keyIs (.inr x) (.str x t) = true := by simp [keyIs, Value.isStrOf]
theorem key_ll (a b : Int) : decide ((Sum.inl a : Key) = Sum.inl b) = (a == b) := by
  by_cases e : a = b
  · subst e; simp
  · have h : ¬ (Sum.inl a : Key) = Sum.inl b := fun q => e (Sum.inl.inj q)
    rw [decide_eq_false h]
    exact (beq_eq_false_iff_ne.mpr e).symm
theorem key_rr (a b : Str) : decide ((Sum.inr a : Key) = Sum.inr b) = decide (a = b) := by
  by_cases e : a = b
  · subst e; simp
  · have h : ¬ (Sum.inr a : Key) = Sum.inr b := fun q => e (Sum.inr.inj q)
    rw [decide_eq_false h, decide_eq_false e]
theorem key_lr (a : Int) (b : Str) : decide ((Sum.inl a : Key) = Sum.inr b) = false := decide_eq_false (fun q => nomatch q)
theorem key_rl (a : Str) (b : Int) : decide ((Sum.inr a : Key) = Sum.inl b) = false := decide_eq_false (fun q => nomatch q)

def mixKind (prog : Program) (w : World) : PySem.KeyKind prog w Key where
  is := keyIs
  hash := keyH w
  inj := fun v a b ha hb => by
    rcases keyIs_shape ha with ⟨i, t, rfl, rfl⟩ | ⟨x, t, rfl, rfl⟩
    · rcases keyIs_shape hb with ⟨j, u, rfl, e⟩ | ⟨y, u, rfl, e⟩
      · injection e with e1 _; rw [e1]
      · exact nomatch e
    · rcases keyIs_shape hb with ⟨j, u, rfl, e⟩ | ⟨y, u, rfl, e⟩
      · exact nomatch e
      · injection e with e1 _; rw [e1]
  byValue := fun k v h => by
    rcases keyIs_shape h with ⟨i, t, rfl, rfl⟩ | ⟨x, t, rfl, rfl⟩ <;> rfl
  pyHash := fun hv h => by
    rcases keyIs_shape hv with ⟨i, t, rfl, rfl⟩ | ⟨x, t, rfl, rfl⟩
    · exact wpAny_pyHash_int h
    · exact wpAny_pyHash_str h
  eqBool := fun hu hv h => by
    rcases keyIs_shape hu with ⟨i, t, rfl, rfl⟩ | ⟨x, t, rfl, rfl⟩
    · rcases keyIs_shape hv with ⟨j, u, rfl, rfl⟩ | ⟨y, u, rfl, rfl⟩
      · rw [key_ll] at h; exact wpAny_eqBool_int h
      · rw [key_lr] at h; exact SeqAt.EqAt.int_str i t y u _ _ _ _ h
    · rcases keyIs_shape hv with ⟨j, u, rfl, rfl⟩ | ⟨y, u, rfl, rfl⟩
      · rw [key_rl] at h; exact SeqAt.EqAt.str_int x t j u _ _ _ _ h
      · rw [key_rr] at h; exact wpAny_eqBool_str h
  «strs» := fun k x t v h => by
    rcases keyIs_shape h with ⟨i, u, rfl, e⟩ | ⟨y, u, rfl, e⟩
    · exact nomatch e
    · injection e with e1 _
      subst e1
      cases v <;> rfl

theorem mixKind_int (prog : Program) (w : World) (i : Int) (t : Tok) : (mixKind prog w).is (.inl i) (.int i t) = true := keyIs_int i t
theorem mixKind_str (prog : Program) (w : World) (x : Str) (t : Tok) : (mixKind prog w).is (.inr x) (.str x t) = true := keyIs_str x t
end L2

namespace L2
open PySem PySem.Spec PyProof.Rows

inductive V where
  | non | bl (b : Bool) | int (i : Int) | str (x : Str) | byt (b : Array UInt8) | flt (b : UInt64) | ref (a : Addr) | ty (n : String)
  deriving DecidableEq

def RelV : V → Value → Prop
  | .non, u => u = Value.none
  | .bl b, u => u = Value.bool b
  | .int i, u => ∃ t, u = Value.int i t
  | .str x, u => ∃ t, u = Value.str x t
  | .byt b, u => ∃ t, u = Value.bytes b t
  | .flt b, u => ∃ t, u = Value.float b t
  | .ref a, u => u = Value.ref a
  | .ty n, u => u = Value.type n

abbrev Vals : List V → List Value → Prop := Paired RelV
theorem Vals.length {xs : List V} {us : List Value} (r : Vals xs us) : xs.length = us.length := Paired.length r
theorem Vals.get : ∀ {xs : List V} {us : List Value} {i : Nat} {x : V}, Vals xs us → xs[i]? = some x → ∃ u, us[i]? = some u ∧ RelV x u
  | _, _, _, _, .nil, e => by simp at e
  | _, _, 0, _, .cons r _, e => by simp at e; subst e; exact ⟨_, rfl, r⟩
  | _, _, i + 1, x, .cons _ t, e => by
    obtain ⟨u, h1, h2⟩ := Vals.get (i := i) (x := x) t (by simpa using e)
    exact ⟨u, by simpa using h1, h2⟩
theorem Vals.set {x : V} {u : Value} (r : RelV x u) : ∀ {xs : List V} {us : List Value} (i : Nat), Vals xs us → Vals (xs.set i x) (us.set i u)
  | _, _, _, .nil => .nil
  | _, _, 0, .cons _ t => .cons r t
  | _, _, i + 1, .cons q t => .cons q (Vals.set r i t)
theorem Vals.append : ∀ {xs ys : List V} {us ws : List Value}, Vals xs us → Vals ys ws → Vals (xs ++ ys) (us ++ ws)
  | _, _, _, _, .nil, s => s
  | _, _, _, _, .cons r t, s => .cons r (Vals.append t s)
theorem Vals.take : ∀ {xs : List V} {us : List Value} (n : Nat), Vals xs us → Vals (xs.take n) (us.take n)
  | _, _, 0, _ => .nil
  | _, _, _ + 1, .nil => .nil
  | _, _, n + 1, .cons r t => .cons r (Vals.take n t)
theorem Vals.drop : ∀ {xs : List V} {us : List Value} (n : Nat), Vals xs us → Vals (xs.drop n) (us.drop n)
  | _, _, 0, r => r
  | _, _, _ + 1, .nil => .nil
  | _, _, n + 1, .cons _ t => Vals.drop n t
theorem Vals.none_of : ∀ {xs : List V} {us : List Value} {i : Nat}, Vals xs us → xs[i]? = none → us[i]? = none := fun {xs us i} r e => by
  have h1 := r.length
  have h2 : xs.length ≤ i := List.getElem?_eq_none_iff.mp e
  exact List.getElem?_eq_none_iff.mpr (by omega)

def RelO : Option V → Option Value → Prop
  | some v, some u => RelV v u
  | none, none => True
  | _, _ => False
def KV {κ : Type} : List (κ × V) → List (κ × Value) → Prop := Paired fun (p : κ × V) (q : κ × Value) => p.1 = q.1 ∧ RelV p.2 q.2

def kV : Key → V
  | .inl i => .int i
  | .inr x => .str x

inductive HO where
  /-- a list -/
  | lst (xs : List V)
  /-- a tuple (never changes) -/
  | tup (xs : List V)
  /-- a dict whose keys are ints and texts; one whose keys are tuples of ints and texts (the empty one is both) -/
  | dK (kvs : List (Key × V)) | dT (kvs : List (List Key × V))
  /-- a set of ints: its members, its size -/
  | set (S : Int → Bool) (n : Nat)
  /-- an instance of the class at C, its dict at dx, its attributes -/
  | ins (C dx : Addr) (fs : List (Str × V))
  /-- the dict of the instance at x -/
  | own (x : Addr)
  /-- the dict of an exception -/
  | xd (fs : List (Str × V))
  /-- a bound method, f of x -/
  | met (f x : Addr)
  /-- a range object lo, lo + 1, .. below hi -/
  | rng (lo hi : Int)
  /-- a thing that is known to the object (the script; a dict while a loop walks it): read, never written while it is so -/
  | frz (o : Obj) (u : HO)
  /-- a code object's table -/
  | tbl (ps : Array Value)
  /-- any other thing, by what is true of its one object (a def of one's own: SetO a S n := HO.ext fun h => ..) -/
  | ext (φ : Heap → Prop)

abbrev Hp := Addr → Option HO
def upd (H : Hp) (a : Addr) (o : HO) : Hp := fun b => if b = a then some o else H b
theorem upd_same {H : Hp} {a : Addr} {o : HO} : upd H a o a = some o := by unfold upd; rw [if_pos rfl]
theorem upd_ne {H : Hp} {a b : Addr} {o : HO} (h : b ≠ a) : upd H a o b = H b := by unfold upd; rw [if_neg h]
theorem ne_of {H : Hp} {a b : Addr} {o u : HO} (h : H a = some o) (h' : H b = some u) (d : o ≠ u) : a ≠ b := by
  intro e; subst e; rw [h] at h'; exact d (Option.some.inj h')
theorem ne_of_none {H : Hp} {a b : Addr} {o : HO} (h : H a = some o) (h' : H b = none) : a ≠ b := by
  intro e; subst e; rw [h] at h'; cases h'

section
variable (P : Program) (w : World)
def ObjOk (H : Hp) (h : Heap) (a : Addr) : HO → Prop
  | .lst xs => xs.length ≤ sizeLine ∧ ∃ (its : List Value) (n : Nat), Vals xs its ∧ h.get? a = some { cls := .type "list", data := .seq its.toArray n }
  | .tup xs => xs.length ≤ sizeLine ∧ ∃ its : List Value, Vals xs its ∧ IsTup h a its.toArray
  | .dK kvs => kvs.length ≤ sizeLine ∧ (a == sysModules) = false ∧ ∃ vs, KV kvs vs ∧ h.DictOf (mixKind P w) a vs
  | .dT kvs => kvs.length ≤ sizeLine ∧ (a == sysModules) = false ∧ ∃ xs : List (List Key × Addr × Value),
      Paired (fun (p : List Key × V) (q : List Key × Addr × Value) => p.1 = q.1 ∧ H q.2.1 = some (.tup (p.1.map kV)) ∧ RelV p.2 q.2.2) kvs xs ∧
      ∃ o es ep, h.get? a = some o ∧ o.ExactDict ∧ o.data = .dict es ep ∧ es.toList = xs.map (entryOfKey (tupleKind (mixKind P w))) ∧ (xs.map (·.1)).Nodup
  | .set S n => h.SetOf (intKind P w) a S n
  | .ins C dx fs => H dx = some (.own a) ∧ fs.length ≤ 1000 ∧ dx ≠ a ∧ h.get? a = some (PySem.W.instObj C dx) ∧
      ∃ mA, h.Ns1 dx mA ∧ (∀ f, RelO (fs.lookup f) (mA f)) ∧ PySem.Within mA (fs.map (·.1))
  | .own _ => ∃ o, h.get? a = some o
  | .xd fs => ∃ mA, h.Ns1 a mA ∧ ∀ f, RelO (fs.lookup f) (mA f)
  | .rng lo hi => ∃ t u v, h.get? a = some { cls := .type "range", data := .fields #[.int lo t, .int hi u, .int 1 v] }
  | .frz o u => h.get? a = some o ∧ ObjOk H h a u
  | .tbl ps => h.get? a = some { cls := .none, data := .fields ps }
  | .met f x => h.get? a = some (PySem.W.methodObj (.ref f) (.ref x))
  | .ext φ => φ h ∧ (∃ o, h.get? a = some o) ∧ ∀ h1 h2 : Heap, φ h1 → (∀ o, h1.get? a = some o → h2.get? a = some o) → φ h2
def HOk (H : Hp) (h : Heap) : Prop := ∀ a o, H a = some o → ObjOk P w H h a o
end

section
variable {P : Program} {w : World} {H H' : Hp} {h h' : Heap} {a : Addr} {o : HO}
theorem ObjOk.lt (x : ObjOk P w H h a o) : a < h.objs.size := by
  cases o with
  | lst xs => obtain ⟨_, _, _, _, e⟩ := x; exact Heap.lt_size e
  | tup xs => obtain ⟨_, _, _, p⟩ := x; exact p.lt
  | dK kvs => obtain ⟨_, _, _, _, o, _, _, e, _⟩ := x; exact Heap.lt_size e
  | dT kvs => obtain ⟨_, _, _, _, o, _, _, e, _⟩ := x; exact Heap.lt_size e
  | set S n => obtain ⟨o, _, _, _, e, _⟩ := x; exact Heap.lt_size e
  | ins C dx fs => obtain ⟨_, _, _, e, _⟩ := x; exact Heap.lt_size e
  | own y => obtain ⟨_, e⟩ := x; exact Heap.lt_size e
  | xd fs => obtain ⟨_, ⟨_, _, _, e, _⟩, _⟩ := x; exact Heap.lt_size e
  | rng lo hi => obtain ⟨_, _, _, e⟩ := x; exact Heap.lt_size e
  | frz ob u => obtain ⟨e, _⟩ := x; exact Heap.lt_size e
  | tbl ps => exact Heap.lt_size (show h.get? a = some _ from x)
  | met f y => exact Heap.lt_size (show h.get? a = some _ from x)
  | ext φ => obtain ⟨_, ⟨_, e⟩, _⟩ := x; exact Heap.lt_size e
theorem Paired.mapP {α β : Type} {F G : α → β → Prop} : ∀ {l₁ : List α} {l₂ : List β}, Paired F l₁ l₂ → (∀ a b, F a b → G a b) → Paired G l₁ l₂
  | _, _, .nil, _ => .nil
  | _, _, .cons r t, f => .cons (f _ _ r) (Paired.mapP t f)
theorem ObjOk.stay (x : ObjOk P w H h a o) (k : ∀ b u, (b = a ∨ H b = some (.own a)) → h.get? b = some u → h'.get? b = some u)
    (ho : ∀ b, H b = some (.own a) → H' b = some (.own a)) (ht : ∀ b xs, H b = some (.tup xs) → H' b = some (.tup xs)) : ObjOk P w H' h' a o := by
  induction o with
  | lst xs => obtain ⟨z, its, n, r, e⟩ := x; exact ⟨z, its, n, r, k _ _ (.inl rfl) e⟩
  | tup xs => obtain ⟨z, its, r, ob, e, c⟩ := x; exact ⟨z, its, r, ob, k _ _ (.inl rfl) e, c⟩
  | dK kvs => obtain ⟨z, y, vs, r, ob, es, ep, e, c⟩ := x; exact ⟨z, y, vs, r, ob, es, ep, k _ _ (.inl rfl) e, c⟩
  | dT kvs =>
    obtain ⟨z, y, xs, r, ob, es, ep, e, c⟩ := x
    exact ⟨z, y, xs, Paired.mapP r fun p q z => ⟨z.1, ht _ _ z.2.1, z.2.2⟩, ob, es, ep, k _ _ (.inl rfl) e, c⟩
  | set S n => obtain ⟨ob, es, ep, t, e, c⟩ := x; exact ⟨ob, es, ep, t, k _ _ (.inl rfl) e, c⟩
  | ins C dx fs =>
    obtain ⟨d, z, ne, e, mA, ⟨od, es, ep, e2, c⟩, r⟩ := x
    exact ⟨ho _ d, z, ne, k _ _ (.inl rfl) e, mA, ⟨od, es, ep, k _ _ (.inr d) e2, c⟩, r⟩
  | own y => obtain ⟨ob, e⟩ := x; exact ⟨ob, k _ _ (.inl rfl) e⟩
  | xd fs => obtain ⟨mA, ⟨od, es, ep, e, c⟩, r⟩ := x; exact ⟨mA, ⟨od, es, ep, k _ _ (.inl rfl) e, c⟩, r⟩
  | rng lo hi => obtain ⟨t, u, v, e⟩ := x; exact ⟨t, u, v, k _ _ (.inl rfl) e⟩
  | frz ob u ih => obtain ⟨e, q⟩ := x; exact ⟨k _ _ (.inl rfl) e, ih q⟩
  | tbl ps =>
    have e : h.get? a = some { cls := .none, data := .fields ps } := x
    show h'.get? a = some { cls := .none, data := .fields ps }
    exact k a _ (.inl rfl) e
  | met f y =>
    have e : h.get? a = some (PySem.W.methodObj (.ref f) (.ref y)) := x
    show h'.get? a = some (PySem.W.methodObj (.ref f) (.ref y))
    exact k a _ (.inl rfl) e
  | ext φ => obtain ⟨p, ⟨o, e⟩, st⟩ := x; exact ⟨st _ _ p fun o q => k _ _ (.inl rfl) q, ⟨o, k _ _ (.inl rfl) e⟩, st⟩
theorem HOk.lt (x : HOk P w H h) (e : H a = some o) : a < h.objs.size := (x a o e).lt
theorem HOk.fresh (x : HOk P w H h) (e : h.objs.size ≤ a) : H a = none := by
  cases q : H a with
  | none => rfl
  | some u => exact absurd (Nat.lt_of_lt_of_le (x.lt q) e) (Nat.lt_irrefl _)
theorem HOk.kept (x : HOk P w H h) (k : ∀ b u, h.get? b = some u → h'.get? b = some u) : HOk P w H h' := fun a o e =>
  (x a o e).stay (fun b u _ q => k b u q) (fun _ q => q) fun _ _ q => q
theorem HOk.laid (x : HOk P w H h) (k : ∀ b u, h.get? b = some u → h'.get? b = some u) (hp : h.objs.size ≤ a) (new : ObjOk P w (upd H a o) h' a o) : HOk P w (upd H a o) h' := fun b u e => by
  have hn := x.fresh hp
  by_cases hb : b = a
  · subst hb; rw [upd_same] at e; cases e; exact new
  · rw [upd_ne hb] at e
    exact (x b u e).stay (fun c v _ q => k c v q) (fun c q => by rw [upd_ne (ne_of_none q hn)]; exact q) fun c xs q => by rw [upd_ne (ne_of_none q hn)]; exact q
end

def Rd (H : Hp) (a : Addr) (u : HO) : Prop := H a = some u ∨ ∃ o, H a = some (.frz o u)
theorem Rd.of {H : Hp} {a : Addr} {u : HO} (h : H a = some u) : Rd H a u := .inl h
theorem Rd.ok {P : Program} {w : World} {H : Hp} {h : Heap} {a : Addr} {u : HO} (r : Rd H a u) (x : HOk P w H h) : ObjOk P w H h a u := by
  rcases r with r | ⟨o, r⟩
  · exact x a u r
  · obtain ⟨_, q⟩ := x a _ r
    exact q
def Mut : Option HO → Prop
  | some (.lst _) => True
  | some (.dK _) => True
  | some (.dT _) => True
  | some (.set _ _) => True
  | some (.ins _ _ _) => True
  | some (.ext _) => True
  | _ => False
section
variable {P : Program} {w : World} {H : Hp} {h h' : Heap} {x e : Addr} {o' : HO}
theorem HOk.write (ok : HOk P w H h) (mu : Mut (H x)) (he : e = x ∨ H e = some (.own x)) (k : ∀ b u, b ≠ e → h.get? b = some u → h'.get? b = some u) (heo : ∃ u, h'.get? e = some u)
    (new : ObjOk P w (upd H x o') h' x o') : HOk P w (upd H x o') h' := fun b u q => by
  have nown : ∀ c y, H c = some (.own y) → c ≠ x := fun c y r z => by subst z; rw [r] at mu; exact mu
  have ntup : ∀ c xs, H c = some (.tup xs) → c ≠ x := fun c xs r z => by subst z; rw [r] at mu; exact mu
  by_cases hb : b = x
  · subst hb; rw [upd_same] at q; cases q; exact new
  · rw [upd_ne hb] at q
    by_cases hbe : b = e
    · have q' : H b = some (.own x) := by
        rcases he with z | z
        · exact absurd (hbe.trans z) hb
        · rw [hbe]; exact z
      rw [q] at q'; cases q'
      obtain ⟨v, hv⟩ := heo
      exact ⟨v, by rw [hbe]; exact hv⟩
    · refine (ok b u q).stay (fun c v hc r => k c v ?_ r) (fun c r => by rw [upd_ne (nown c b r)]; exact r) fun c xs r => by rw [upd_ne (ntup c xs r)]; exact r
      rcases hc with rfl | hc
      · exact hbe
      · rintro rfl
        rcases he with z | z
        · exact nown c b hc z
        · rw [hc] at z; cases z; exact hb rfl
end

structure Un (fs ex : List Addr) (H H' : Hp) (h h' : Heap) : Prop where
  keep : ∀ b o, h.get? b = some o → H b = none → b ∉ fs → b ∉ ex → h'.get? b = some o
  slot : ∀ b o, h.get? b = some o → H b = none → b ∈ fs → b ∉ ex → ∃ sl, h'.get? b = some { o with slots := sl }
  free : ∀ b o, h.get? b = some o → H b = none → b ∉ ex → H' b = none
  there : ∀ b o, h.get? b = some o → b ∉ ex → ∃ o', h'.get? b = some o'
  tups : ∀ b xs, H b = some (.tup xs) → H' b = some (.tup xs)
  frzs : ∀ b o u, H b = some (.frz o u) → H' b = some (.frz o u)
  tbls : ∀ b ps, H b = some (.tbl ps) → ∃ more, H' b = some (.tbl (ps ++ more))
section
variable {fs fs' ex ex' : List Addr} {H H1 H2 : Hp} {h h1 h2 h' : Heap} {a x e : Addr} {o : HO}
theorem Un.any (u : Un fs ex H H1 h h1) {b : Addr} {ob : Obj} (q : h.get? b = some ob) (n : H b = none) (hx : b ∉ ex) : ∃ sl, h1.get? b = some { ob with slots := sl } := by
  by_cases hb : b ∈ fs
  · exact u.slot b ob q n hb hx
  · exact ⟨ob.slots, u.keep b ob q n hb hx⟩
theorem Un.trans (a : Un fs ex H H1 h h1) (b : Un fs ex H1 H2 h1 h2) : Un fs ex H H2 h h2 where
  keep := fun c ob q n hc hx => b.keep c ob (a.keep c ob q n hc hx) (a.free c ob q n hx) hc hx
  slot := fun c ob q n hc hx => by
    obtain ⟨sl, e1⟩ := a.slot c ob q n hc hx
    obtain ⟨sl', e2⟩ := b.slot c _ e1 (a.free c ob q n hx) hc hx
    exact ⟨sl', e2⟩
  free := fun c ob q n hx => by
    obtain ⟨o', e1⟩ := a.there c ob q hx
    exact b.free c o' e1 (a.free c ob q n hx) hx
  there := fun c ob q hx => by
    obtain ⟨o', e1⟩ := a.there c ob q hx
    exact b.there c o' e1 hx
  tups := fun c xs q => b.tups c xs (a.tups c xs q)
  frzs := fun c ob xs q => b.frzs c ob xs (a.frzs c ob xs q)
  tbls := fun c ps q => by
    obtain ⟨m1, e1⟩ := a.tbls c ps q
    obtain ⟨m2, e2⟩ := b.tbls c _ e1
    exact ⟨m1 ++ m2, by rw [e2, Array.append_assoc]⟩
theorem Un.kept (k : ∀ b u, h.get? b = some u → h'.get? b = some u) : Un fs ex H H h h' :=
  ⟨fun b ob q _ _ _ => k b ob q, fun b ob q _ _ _ => ⟨ob.slots, k b ob q⟩, fun _ _ _ n _ => n, fun b ob q _ => ⟨ob, k b ob q⟩, fun _ _ q => q, fun _ _ _ q => q, fun _ ps q => ⟨#[], by rw [q]; simp⟩⟩
theorem Un.refl : Un fs ex H H h h := Un.kept fun _ _ q => q
theorem Un.laid (k : ∀ b u, h.get? b = some u → h'.get? b = some u) (hp : h.objs.size ≤ a) (hn : H a = none) : Un fs ex H (upd H a o) h h' where
  keep := fun b u q _ _ _ => k b u q
  slot := fun b u q _ _ _ => ⟨u.slots, k b u q⟩
  free := fun b u q n _ => by rw [upd_ne (Nat.ne_of_lt (Nat.lt_of_lt_of_le (Heap.lt_size q) hp))]; exact n
  there := fun b u q _ => ⟨u, k b u q⟩
  tups := fun b xs q => by rw [upd_ne (ne_of_none q hn)]; exact q
  frzs := fun b u xs q => by rw [upd_ne (ne_of_none q hn)]; exact q
  tbls := fun b ps q => ⟨#[], by rw [upd_ne (ne_of_none q hn), q]; simp⟩
theorem Un.write (mu : Mut (H x)) (he : e = x ∨ H e = some (.own x)) (k : ∀ b u, b ≠ e → h.get? b = some u → h'.get? b = some u) (heo : ∃ u, h'.get? e = some u) : Un fs ex H (upd H x o) h h' := by
  have hx : ∀ b, H b = none → b ≠ x := fun b n z => by subst z; rw [n] at mu; exact mu
  have hb : ∀ b, H b = none → b ≠ e := fun b n z => by
    subst z
    rcases he with r | r
    · exact hx b n r
    · rw [n] at r; cases r
  have hm : ∀ b u, H b = some u → ¬ Mut (some u) → b ≠ x := fun b u q nm z => by subst z; rw [q] at mu; exact nm mu
  refine ⟨fun b u q n _ _ => k b u (hb b n) q, fun b u q n _ _ => ⟨u.slots, k b u (hb b n) q⟩, fun b u q n _ => by rw [upd_ne (hx b n)]; exact n, fun b u q _ => ?_,
    fun b xs q => by rw [upd_ne (hm b _ q fun z => z)]; exact q, fun b u xs q => by rw [upd_ne (hm b _ q fun z => z)]; exact q, fun b ps q => ⟨#[], by rw [upd_ne (hm b _ q fun z => z), q]; simp⟩⟩
  by_cases hbe : b = e
  · subst hbe; exact heo
  · exact ⟨u, k b u hbe q⟩
theorem Un.mono (u : Un fs ex H H1 h h1) (hs : ∀ b ∈ fs, b ∈ fs') (hx : ∀ b ∈ ex, b ∈ ex') : Un fs' ex' H H1 h h1 :=
  ⟨fun b ob q n hb he => u.keep b ob q n (fun z => hb (hs b z)) fun z => he (hx b z), fun _ _ q n _ he => u.any q n fun z => he (hx _ z), fun b ob q n he => u.free b ob q n fun z => he (hx b z), fun b ob q he => u.there b ob q fun z => he (hx b z), u.tups, u.frzs, u.tbls⟩
end

def trk (h : Heap) (H : Hp) : List Addr := (List.range h.objs.size).filter fun a => (H a).isSome
def hidT (h : Heap) (H : Hp) : Heap := PySem.W.hideAll h (trk h H)
theorem hidT_size (h : Heap) (H : Hp) : (hidT h H).objs.size = h.objs.size := PySem.W.hideAll_size _ _
theorem hidT_get {h : Heap} {H : Hp} {b : Addr} {o : Obj} (e : h.get? b = some o) (n : H b = none) : (hidT h H).get? b = some o :=
  PySem.W.hideAll_get _ e fun hm => by
    have q : (H b).isSome = true := (List.mem_filter.mp hm).2
    rw [n] at q; simp at q
theorem of_hidT {h : Heap} {H : Hp} {b : Addr} {o : Obj} (e : (hidT h H).get? b = some o) : h.get? b = some o ∧ H b = none := by
  have e' : h.get? b = some o := PySem.W.of_hideAll (trk h H) e
  refine ⟨e', ?_⟩
  cases q : H b with
  | none => rfl
  | some x =>
    have hm : b ∈ trk h H := List.mem_filter.mpr ⟨List.mem_range.mpr (Heap.lt_size e'), by simp [q]⟩
    have z : (hidT h H).get? b = none := PySem.W.hideAll_none (trk h H) hm
    rw [z] at e; cases e

def allNews (g h : Heap) (L : Addr) : List (Addr × Obj) := (List.range h.objs.size).filterMap fun a => if a = L ∨ (g.get? a).isSome = true then none else (h.get? a).map fun o => (a, o)
def rest (g h : Heap) (L d : Addr) : List (Addr × Obj) := (allNews g h L).filter fun p => decide (p.1 ≠ d)
end L2

namespace L2
open PySem PySem.Spec PyProof.Rows

structure Mod (K : PySem.W.Frag) (mg : Str → Option Value) (base : Heap) : Prop where
  kin : K.In base
  glob : base.Ns mainGlobals mg
  blt : ∃ mb, base.Ns builtinsNs mb ∧ ∀ x : Str, x ≠ "__name__" → mb x = bootBuiltins x
  nolimit : base.NoLimit

/- the context: a def's body (or a comprehension's block) running. base: fixed through the whole law; s₀, H₀: the entry; outer: the frames whose slots others may change (a def's callers); stack: all frames that run;
   ex: iterators that were made ahead of the entry and are walked here (a comprehension's); fn: the names whose cells were made at the entry (a def: all; a comprehension's block: its own); calm: not within an except suite; pn: pins that every state bears; xe: what is wanted of an exception that leaves the code -/
structure Cx where
  prog : Program
  w : World
  K : PySem.W.Frag
  mg : Str → Option Value
  base : Heap
  A : Around
  N : List Str
  s₀ : Shared
  H₀ : Hp
  env : Env
  outer : List Env
  stack : List Env
  ex : List Addr
  fn : Str → Bool
  calm : Bool
  pn : List (Addr × Obj)
  xe : Value → Shared → Prop
def frs (l : List Env) : List Addr := l.filterMap (·.frame)
abbrev Cx.fs (X : Cx) : List Addr := frs X.outer

def Vis (sc : Scope) (x : Str) : Prop := sc.names.lookup x = some .local ∨ sc.names.lookup x = some .cell ∨ sc.names.lookup x = some .free
def Loc (sc : Scope) (x : Str) : Prop := sc.names.lookup x = some .local ∨ sc.names.lookup x = some .cell
def Look (env : Env) (h : Heap) (m : Str → Option Value) (x : Str) (u : Value) : Prop :=
  (env.kindOf x = some .local ∧ m x = some u) ∨ ((env.kindOf x = some .cell ∨ env.kindOf x = some .free) ∧ ∃ c, env.cells.lookup x = some c ∧ h.IsCell c (some u))

structure Cx.Ok (X : Cx) : Prop where
  mod : Mod X.K X.mg X.base
  kind : X.env.scope.kind = .function
  glob : X.env.globals = mainGlobals
  blt : X.env.builtins = builtinsNs
  above : X.s₀.heap.objs.size ≤ X.env.locals
  inj : ∀ x y c, X.env.cells.lookup x = some c → X.env.cells.lookup y = some c → x = y
  has : ∀ x, (X.env.kindOf x = some .cell ∨ X.env.kindOf x = some .free) → ∃ c, X.env.cells.lookup x = some c
  cab : ∀ x c, X.fn x = true → X.env.cells.lookup x = some c → X.s₀.heap.objs.size ≤ c
  hd : X.calm = true → X.A.handled = none
  frames : X.A.frames = some X.stack
  stk : X.stack = X.outer ∨ (X.stack = X.env :: X.outer ∧ X.env.frame = some X.env.locals)
  exf : ∀ b ∈ X.ex, b ≠ X.env.locals ∧ ∀ x c, X.env.cells.lookup x = some c → c ≠ b
  bs : ∀ b o, X.base.get? b = some o → X.s₀.heap.get? b = some o ∧ X.H₀ b = none
  bsz : X.base.objs.size ≤ X.s₀.heap.objs.size
  noex : ∀ b o, X.base.get? b = some o → b ∉ X.ex
  exfs : ∀ b ∈ X.ex, b ∉ X.fs
  funs : X.s₀.heap.FunFrames X.base X.outer
  frf : ∀ b ∈ X.fs, X.H₀ b = none

structure Inv (X : Cx) (pins : List (Addr × Obj)) (σ : List (Option V)) (H : Hp) (s : Shared) : Prop where
  ok : X.Ok
  os : s.os = X.s₀.os
  bare : AllBare s.gens
  base : Un X.fs X.ex X.H₀ H X.s₀.heap s.heap
  loc : ∃ m, s.heap.Ns X.env.locals m ∧ ∀ (i : Nat) (x : Str) (v : V), X.N[i]? = some x → σ[i]? = some (some v) → Vis X.env.scope x → ∃ u, RelV v u ∧ Look X.env s.heap m x u
  cell : ∀ x c, X.env.cells.lookup x = some c → ∃ v, s.heap.IsCell c v
  free : H X.env.locals = none
  freeC : ∀ x c, X.env.cells.lookup x = some c → H c = none
  pin : ∀ p ∈ X.pn ++ pins, s.heap.get? p.1 = some p.2 ∧ H p.1 = none ∧ p.1 ≠ X.env.locals ∧ p.1 ∉ X.fs ∧ ∀ v, p.2.data ≠ .cell v
  hok : HOk X.prog X.w H s.heap
  len : σ.length = X.N.length

section
variable {X : Cx} {pins : List (Addr × Obj)} {σ : List (Option V)} {H H' : Hp} {s : Shared} {h' : Heap}

theorem Cx.Ok.nofr (ok : X.Ok) {b : Addr} {o : Obj} (e : X.base.get? b = some o) : b ∉ X.fs := fun hb => by
  have := (ok.funs.mem hb).1
  rw [e] at this; cases this
theorem Inv.bs (I : Inv X pins σ H s) : ∀ b o, X.base.get? b = some o → s.heap.get? b = some o ∧ H b = none := fun b o e =>
  ⟨I.base.keep b o (I.ok.bs b o e).1 (I.ok.bs b o e).2 (I.ok.nofr e) (I.ok.noex b o e), I.base.free b o (I.ok.bs b o e).1 (I.ok.bs b o e).2 (I.ok.noex b o e)⟩
theorem Inv.bk (I : Inv X pins σ H s) : ∀ b o, X.base.get? b = some o → s.heap.get? b = some o := fun b o e => (I.bs b o e).1
theorem Inv.mod (I : Inv X pins σ H s) : Mod X.K X.mg X.base := I.ok.mod
theorem Inv.kIn (I : Inv X pins σ H s) : X.K.In s.heap := I.ok.mod.kin.keeps I.bk
theorem Inv.nolimit (I : Inv X pins σ H s) : s.heap.NoLimit := I.ok.mod.nolimit.keeps I.bk
theorem Inv.fr (I : Inv X pins σ H s) : ∃ m, Fr X.base X.env.locals s.heap m :=
  let ⟨m, hn, _⟩ := I.loc
  ⟨m, hn, I.bk, Nat.le_trans I.ok.bsz I.ok.above⟩
theorem Inv.lt (I : Inv X pins σ H s) : X.env.locals < s.heap.objs.size := let ⟨_, hn, _⟩ := I.loc; hn.lt
theorem Inv.sz (I : Inv X pins σ H s) : X.s₀.heap.objs.size ≤ s.heap.objs.size := Nat.le_trans I.ok.above (Nat.le_of_lt I.lt)
theorem Inv.nofs (I : Inv X pins σ H s) {a : Addr} (h : s.heap.objs.size ≤ a) : a ∉ X.fs := fun hb => by
  obtain ⟨_, o, ho, _⟩ := I.ok.funs.mem hb
  exact absurd (Nat.lt_of_lt_of_le (Heap.lt_size ho) (Nat.le_trans I.sz h)) (Nat.lt_irrefl _)
theorem Inv.cne (I : Inv X pins σ H s) : ∀ x c, X.env.cells.lookup x = some c → c ≠ X.env.locals := fun x c e z => by
  obtain ⟨v, o, ho, hd⟩ := I.cell x c e
  obtain ⟨m, ⟨o', es, ep, ho', hd', _⟩, _⟩ := I.loc
  rw [z, ho'] at ho; cases ho; rw [hd'] at hd; cases hd
theorem Inv.funs (I : Inv X pins σ H s) : s.heap.FunFrames X.base X.outer := by
  have all : ∀ (l : List Env), (∀ b ∈ frs l, b ∈ X.fs) → X.s₀.heap.FunFrames X.base l → s.heap.FunFrames X.base l := by
    intro l
    induction l with
    | nil => intro _ _; trivial
    | cons env r ih =>
      intro hs hl
      obtain ⟨hk, ⟨L, o, hf, hn, ho, hd⟩, hr⟩ := hl
      have hL : L ∈ X.fs := hs L (by unfold frs; rw [List.filterMap_cons, hf]; exact List.mem_cons_self)
      obtain ⟨sl, e⟩ := I.base.slot L o ho (I.ok.frf L hL) hL fun z => I.ok.exfs L z hL
      exact ⟨hk, ⟨L, _, hf, hn, e, hd⟩, ih (fun b hb => hs b (by unfold frs; rw [List.filterMap_cons, hf]; exact List.mem_cons_of_mem _ hb)) hr⟩
  exact all X.outer (fun _ hb => hb) I.ok.funs

theorem Inv.stack (I : Inv X pins σ H s) : s.heap.FunFrames X.base X.stack := by
  rcases I.ok.stk with e | ⟨e, hf⟩
  · rw [e]; exact I.funs
  · rw [e]
    obtain ⟨m, hn, _⟩ := I.loc
    refine .cons (by rw [I.ok.kind]; decide) hf hn ?_ I.funs
    exact Heap.get?_none_of_le (Nat.le_trans I.ok.bsz I.ok.above)
theorem Inv.stkSub (I : Inv X pins σ H s) : ∀ b ∈ frs X.stack, b ∈ X.env.locals :: X.fs := fun b hb => by
  rcases I.ok.stk with e | ⟨e, hf⟩
  · rw [e] at hb; exact List.mem_cons_of_mem _ hb
  · rw [e] at hb
    unfold frs at hb
    rw [List.filterMap_cons, hf] at hb
    exact hb
theorem Inv.stkFree (I : Inv X pins σ H s) : ∀ b ∈ frs X.stack, H b = none := fun b hb => by
  rcases List.mem_cons.mp (I.stkSub b hb) with e | hb
  · rw [e]; exact I.free
  · obtain ⟨_, o, ho, _⟩ := I.ok.funs.mem hb
    exact I.base.free b o ho (I.ok.frf b hb) fun z => I.ok.exfs b z hb

theorem Inv.step {g' : Array GenState} {t' : Nat} {d' : Drawn} {ch : List Addr} (I : Inv X pins σ H s)
    (hch : ∀ b ∈ ch, (b ∈ X.ex ∨ X.s₀.heap.objs.size ≤ b) ∧ b ≠ X.env.locals ∧ (∀ x c, X.env.cells.lookup x = some c → c ≠ b) ∧ ∀ p ∈ X.pn ++ pins, p.1 ≠ b)
    (keep : ∀ b o, b ≠ X.env.locals → b ∉ X.fs → b ∉ ch → s.heap.get? b = some o → H b = none → h'.get? b = some o)
    (slot : ∀ b o, b ≠ X.env.locals → b ∈ X.fs → b ∉ ch → s.heap.get? b = some o → H b = none → ∃ sl, h'.get? b = some { o with slots := sl }) (free : ∀ b o, b ∉ ch → s.heap.get? b = some o → H b = none → H' b = none)
    (there : ∀ b o, b ∉ ch → s.heap.get? b = some o → ∃ o', h'.get? b = some o')
    (tups : ∀ b xs, H b = some (.tup xs) → H' b = some (.tup xs)) (frzs : ∀ b o u, H b = some (.frz o u) → H' b = some (.frz o u)) (tbls : ∀ b ps, H b = some (.tbl ps) → ∃ more, H' b = some (.tbl (ps ++ more)))
    (ns : ∀ m, s.heap.Ns X.env.locals m → h'.Ns X.env.locals m) (hok : HOk X.prog X.w H' h') (hg : AllBare g') :
    Inv X pins σ H' { s with heap := h', gens := g', drawn := d', toks := t' } := by
  have neL : ∀ b o, X.s₀.heap.get? b = some o → b ≠ X.env.locals := fun b o e => Nat.ne_of_lt (Nat.lt_of_lt_of_le (Heap.lt_size e) I.ok.above)
  have neC : ∀ b o, X.s₀.heap.get? b = some o → b ∉ X.ex → b ∉ ch := fun b o e hx hb => by
    rcases (hch b hb).1 with z | z
    · exact hx z
    · exact absurd (Nat.lt_of_lt_of_le (Heap.lt_size e) z) (Nat.lt_irrefl _)
  have cellK : ∀ x c, X.env.cells.lookup x = some c → ∀ v, s.heap.IsCell c v → h'.IsCell c v := fun x c e v ⟨o, ho, hd⟩ => by
    have nch : c ∉ ch := fun z => (hch c z).2.2.1 x c e rfl
    by_cases hc : c ∈ X.fs
    · obtain ⟨sl, q⟩ := slot c o (I.cne x c e) hc nch ho (I.freeC x c e)
      exact ⟨_, q, hd⟩
    · exact ⟨o, keep c o (I.cne x c e) hc nch ho (I.freeC x c e), hd⟩
  refine ⟨I.ok, I.os, hg, ⟨fun b o e n hb hx => ?_, fun b o e n hb hx => ?_, fun b o e n hx => ?_, fun b o e hx => ?_, fun b xs e => tups b xs (I.base.tups b xs e), fun b o xs e => frzs b o xs (I.base.frzs b o xs e), fun b ps e => ?_⟩, ?_, fun x c e => ?_, ?_, fun x c e => ?_, fun p hp => ?_, hok, I.len⟩
  · exact keep b o (neL b o e) hb (neC b o e hx) (I.base.keep b o e n hb hx) (I.base.free b o e n hx)
  · obtain ⟨sl, e1⟩ := I.base.slot b o e n hb hx
    obtain ⟨sl', e2⟩ := slot b _ (neL b o e) hb (neC b o e hx) e1 (I.base.free b o e n hx)
    exact ⟨sl', e2⟩
  · obtain ⟨o', e1⟩ := I.base.there b o e hx
    exact free b o' (neC b o e hx) e1 (I.base.free b o e n hx)
  · obtain ⟨o', e1⟩ := I.base.there b o e hx
    exact there b o' (neC b o e hx) e1
  · obtain ⟨m1, e1⟩ := I.base.tbls b ps e
    obtain ⟨m2, e2⟩ := tbls b _ e1
    exact ⟨m1 ++ m2, by rw [e2, Array.append_assoc]⟩
  · obtain ⟨m, hn, hl⟩ := I.loc
    refine ⟨m, ns m hn, fun i x v e1 e2 e3 => ?_⟩
    obtain ⟨u, r, l⟩ := hl i x v e1 e2 e3
    refine ⟨u, r, ?_⟩
    rcases l with l | ⟨k, c, e, z⟩
    · exact .inl l
    · exact .inr ⟨k, c, e, cellK x c e _ z⟩
  · obtain ⟨v, z⟩ := I.cell x c e
    exact ⟨v, cellK x c e v z⟩
  · obtain ⟨m, ⟨o, _, _, ho, _⟩, _⟩ := I.loc
    exact free _ o (fun z => (hch _ z).2.1 rfl) ho I.free
  · obtain ⟨v, o, ho, hd⟩ := I.cell x c e
    exact free c o (fun z => (hch c z).2.2.1 x c e rfl) ho (I.freeC x c e)
  · obtain ⟨e, n, ne, nf, d⟩ := I.pin p hp
    have nch : p.1 ∉ ch := fun z => (hch p.1 z).2.2.2 p hp rfl
    exact ⟨keep p.1 p.2 ne nf nch e n, free p.1 p.2 nch e n, ne, nf, d⟩
theorem Inv.un {t' : Nat} (I : Inv X pins σ H s) (u : Un X.fs [] H H' s.heap h') (hok : HOk X.prog X.w H' h') : Inv X pins σ H' { s with heap := h', toks := t' } := by
  obtain ⟨m, ⟨o, es, ep, ho, r⟩, _⟩ := id I.loc
  obtain ⟨sl, hL⟩ := u.any ho I.free (by simp)
  exact I.step (g' := s.gens) (d' := s.drawn) (ch := []) (fun _ z => nomatch z) (fun b o _ hb _ e n => u.keep b o e n hb (by simp)) (fun b o _ hb _ e n => u.slot b o e n hb (by simp)) (fun b o _ e n => u.free b o e n (by simp)) (fun b o _ e => u.there b o e (by simp)) u.tups u.frzs u.tbls (fun m' hm => by
    obtain ⟨o', es', ep', ho', r'⟩ := hm
    rw [ho] at ho'; cases ho'
    exact ⟨_, es', ep', hL, r'⟩) hok I.bare
theorem Inv.call {g' : Array GenState} {t' : Nat} {d' : Drawn} {ch : List Addr} (I : Inv X pins σ H s) (u : Un (frs X.stack) ch H H' s.heap h') (hok : HOk X.prog X.w H' h') (hg : AllBare g')
    (hch : ∀ b ∈ ch, (b ∈ X.ex ∨ X.s₀.heap.objs.size ≤ b) ∧ b ≠ X.env.locals ∧ (∀ x c, X.env.cells.lookup x = some c → c ≠ b) ∧ ∀ p ∈ X.pn ++ pins, p.1 ≠ b) :
    Inv X pins σ H' { s with heap := h', gens := g', drawn := d', toks := t' } := by
  obtain ⟨m, ⟨o, es, ep, ho, r⟩, _⟩ := id I.loc
  obtain ⟨sl, hL⟩ := u.any ho I.free fun z => (hch _ z).2.1 rfl
  exact I.step (ch := ch) hch (fun b o hL hb hc e n => u.keep b o e n (fun z => (List.mem_cons.mp (I.stkSub b z)).elim hL hb) hc) (fun b o _ _ hc e n => u.any e n hc) (fun b o hc e n => u.free b o e n hc) (fun b o hc e => u.there b o e hc) u.tups u.frzs u.tbls (fun m' hm => by
    obtain ⟨o', es', ep', ho', r'⟩ := hm
    rw [ho] at ho'; cases ho'
    exact ⟨_, es', ep', hL, r'⟩) hok hg
theorem Inv.turned {t' : Nat} {it : Addr} (I : Inv X pins σ H s) (k : ∀ b o, b ≠ it → s.heap.get? b = some o → h'.get? b = some o) (hn : H it = none) (hL : it ≠ X.env.locals)
    (h1 : it ∈ X.ex ∨ X.s₀.heap.objs.size ≤ it) (h2 : ∀ x c, X.env.cells.lookup x = some c → c ≠ it) (h3 : ∀ p ∈ X.pn ++ pins, p.1 ≠ it) : Inv X pins σ H { s with heap := h', toks := t' } := by
  have nit : ∀ b u, H b = some u → b ≠ it := fun b u e z => by rw [z, hn] at e; cases e
  refine I.step (g' := s.gens) (d' := s.drawn) (ch := [it]) (fun b hb => ?_) (fun b o _ _ hc e _ => k b o (fun z => hc (by simp [z])) e) (fun b o _ _ hc e _ => ⟨o.slots, k b o (fun z => hc (by simp [z])) e⟩) (fun _ _ _ _ n => n)
    (fun b o hc e => ⟨o, k b o (fun z => hc (by simp [z])) e⟩) (fun _ _ e => e) (fun _ _ _ e => e) (fun b ps e => ⟨#[], by rw [e]; simp⟩) (fun m hm => ?_) (fun b u e => ?_) I.bare
  · have e : b = it := by simpa using hb
    subst e
    exact ⟨h1, hL, h2, h3⟩
  · obtain ⟨o, es, ep, ho, r⟩ := hm
    exact ⟨o, es, ep, k _ o (Ne.symm hL) ho, r⟩
  · refine (I.hok b u e).stay (fun c v hc q => k c v ?_ q) (fun _ q => q) fun _ _ q => q
    rcases hc with z | z
    · rw [z]; exact nit b u e
    · exact nit c _ z
theorem Inv.tok (I : Inv X pins σ H s) (t : Nat) : Inv X pins σ H { s with toks := t } := I.un (h' := s.heap) (t' := t) Un.refl I.hok
theorem Inv.kept {t' : Nat} (I : Inv X pins σ H s) (k : ∀ b u, s.heap.get? b = some u → h'.get? b = some u) : Inv X pins σ H { s with heap := h', toks := t' } := I.un (Un.kept k) (I.hok.kept k)
theorem Inv.laid {a : Addr} {o : HO} {t' : Nat} (I : Inv X pins σ H s) (k : ∀ b u, s.heap.get? b = some u → h'.get? b = some u) (hp : s.heap.objs.size ≤ a) (new : ObjOk X.prog X.w (upd H a o) h' a o) :
    Inv X pins σ (upd H a o) { s with heap := h', toks := t' } := I.un (Un.laid k hp (I.hok.fresh hp)) (I.hok.laid k hp new)
theorem Inv.write {x e : Addr} {o : HO} {t' : Nat} (I : Inv X pins σ H s) (mu : Mut (H x)) (he : e = x ∨ H e = some (.own x)) (k : ∀ b u, b ≠ e → s.heap.get? b = some u → h'.get? b = some u) (heo : ∃ u, h'.get? e = some u)
    (new : ObjOk X.prog X.w (upd H x o) h' x o) : Inv X pins σ (upd H x o) { s with heap := h', toks := t' } := I.un (Un.write mu he k heo) (I.hok.write mu he k heo new)
theorem Inv.weak {σ' : List (Option V)} (I : Inv X pins σ H s) (hl : σ'.length = σ.length) (w : ∀ (i : Nat) v, σ'[i]? = some (some v) → σ[i]? = some (some v)) : Inv X pins σ' H s :=
  ⟨I.ok, I.os, I.bare, I.base, let ⟨m, hn, hl'⟩ := I.loc; ⟨m, hn, fun i x v e1 e2 e3 => hl' i x v e1 (w i v e2) e3⟩, I.cell, I.free, I.freeC, I.pin, I.hok, hl.trans I.len⟩
theorem Inv.pins_of {pins' : List (Addr × Obj)} (I : Inv X pins σ H s) (h : ∀ p ∈ pins', s.heap.get? p.1 = some p.2 ∧ H p.1 = none ∧ p.1 ≠ X.env.locals ∧ p.1 ∉ X.fs ∧ ∀ v, p.2.data ≠ .cell v) : Inv X pins' σ H s :=
  ⟨I.ok, I.os, I.bare, I.base, I.loc, I.cell, I.free, I.freeC, fun p hp => (List.mem_append.mp hp).elim (fun z => I.pin p (List.mem_append_left _ z)) (h p), I.hok, I.len⟩

theorem nodup_ix {N : List Str} (hN : N.Nodup) {i j : Nat} {x : Str} (a : N[i]? = some x) (b : N[j]? = some x) : i = j := by
  obtain ⟨h1, e1⟩ := List.getElem?_eq_some_iff.mp a
  obtain ⟨h2, e2⟩ := List.getElem?_eq_some_iff.mp b
  exact (List.getElem_inj hN).mp (e1.trans e2.symm)

theorem store_ok2 {M : Model} {A : Around} {E : Value → Shared → Prop} {i : Nat} {x : Str} {v : V} {u : Value} {Q : Unit → Shared → Prop} (I : Inv X pins σ H s) (hN : X.N.Nodup) (hi : X.N[i]? = some x) (hx : Loc X.env.scope x) (r : RelV v u)
    (h : ∀ s', Inv X pins (σ.set i (some v)) H s' → (∃ a, Heap.SameBut a s.heap s'.heap ∧ (a = X.env.locals ∨ X.env.cells.lookup x = some a)) → Q () s') (hf : X.fn x = true ∨ X.env.scope.names.lookup x = some .local := by first | exact .inl rfl | exact .inr rfl | assumption) : wpAny M A (storeName X.env x u) Q E s := by
  obtain ⟨m, hn, hl⟩ := id I.loc
  have hcls : (X.env.scope.kind == .class || (X.env.scope.kind == .module && X.env.locals != X.env.globals)) = false := by rw [I.ok.kind]; rfl
  have hiσ : i < σ.length := by rw [I.len]; exact (List.getElem?_eq_some_iff.mp hi).1
  have cne := I.cne
  have tracked : ∀ {a : Addr} {h' : Heap}, (∃ o, s.heap.get? a = some o ∧ H a = none) → Heap.SameBut a s.heap h' → HOk X.prog X.w H h' := fun {a h'} ha hs b ob e => by
    obtain ⟨_, _, hfree⟩ := ha
    refine (I.hok b ob e).stay (fun c w' hc q => (hs.2 c ?_).trans q) (fun _ q => q) fun _ _ q => q
    rintro rfl
    rcases hc with rfl | hc
    · rw [hfree] at e; cases e
    · rw [hfree] at hc; cases hc
  rcases hx with hk | hk
  · refine wpAny_storeName_local hk hn (fun h' hn' hs => ?_) hcls
    obtain ⟨oL, _, _, hoL, _⟩ := id hn
    refine h _ ⟨I.ok, I.os, I.bare, ⟨fun b o e n hb hx => ?_, fun b o e n hb hx => ?_, I.base.free, fun b o e hx => ?_, I.base.tups, I.base.frzs, I.base.tbls⟩, ⟨_, hn', fun j y v' e1 e2 e3 => ?_⟩, fun y c e => ?_, I.free, I.freeC, fun p hp => ?_, tracked ⟨oL, hoL, I.free⟩ hs, by simpa using I.len⟩ ⟨_, hs, .inl rfl⟩
    · exact (hs.2 b (Nat.ne_of_lt (Nat.lt_of_lt_of_le (Heap.lt_size e) I.ok.above))).trans (I.base.keep b o e n hb hx)
    · obtain ⟨sl, e1⟩ := I.base.slot b o e n hb hx
      exact ⟨sl, (hs.2 b (Nat.ne_of_lt (Nat.lt_of_lt_of_le (Heap.lt_size e) I.ok.above))).trans e1⟩
    · obtain ⟨o', e1⟩ := I.base.there b o e hx
      exact ⟨o', (hs.2 b (Nat.ne_of_lt (Nat.lt_of_lt_of_le (Heap.lt_size e) I.ok.above))).trans e1⟩
    · by_cases hj : j = i
      · subst hj
        rw [hi] at e1; cases e1
        rw [List.getElem?_set_self hiσ] at e2
        cases e2
        exact ⟨u, r, .inl ⟨hk, by simp⟩⟩
      · rw [List.getElem?_set_ne (Ne.symm hj)] at e2
        obtain ⟨u', r', q⟩ := hl j y v' e1 e2 e3
        refine ⟨u', r', ?_⟩
        rcases q with ⟨k, e⟩ | ⟨k, c, e, z⟩
        · refine .inl ⟨k, ?_⟩
          have : y ≠ x := fun e => hj (nodup_ix hN e1 (e ▸ hi))
          simp [this, e]
        · exact .inr ⟨k, c, e, z.sameBut hs (cne y c e)⟩
    · obtain ⟨w', z⟩ := I.cell y c e
      exact ⟨w', z.sameBut hs (cne y c e)⟩
    · obtain ⟨e, n, ne, nf, d⟩ := I.pin p hp
      exact ⟨(hs.2 p.1 ne).trans e, n, ne, nf, d⟩
  · have hfn : X.fn x = true := by
      rcases hf with z | z
      · exact z
      · rw [z] at hk; cases hk
    obtain ⟨c, hc⟩ := I.ok.has x (.inl hk)
    obtain ⟨w', z⟩ := I.cell x c hc
    refine wpAny_storeName_cell I.ok.kind hk hc z (fun h' hc' hs => ?_)
    obtain ⟨oc, hoc, hocd⟩ := id z
    refine h { s with heap := h' } ⟨I.ok, I.os, I.bare, ⟨fun b o e n hb hx => ?_, fun b o e n hb hx => ?_, I.base.free, fun b o e hx => ?_, I.base.tups, I.base.frzs, I.base.tbls⟩, ⟨m, hn.sameBut hs (Ne.symm (cne x c hc)), fun j y v' e1 e2 e3 => ?_⟩, fun y c' e => ?_, I.free, I.freeC, fun p hp => ?_, tracked ⟨oc, hoc, I.freeC x c hc⟩ hs, by simpa using I.len⟩ ⟨c, hs, .inr hc⟩
    · exact (hs.2 b (Nat.ne_of_lt (Nat.lt_of_lt_of_le (Heap.lt_size e) (I.ok.cab x c hfn hc)))).trans (I.base.keep b o e n hb hx)
    · obtain ⟨sl, e1⟩ := I.base.slot b o e n hb hx
      exact ⟨sl, (hs.2 b (Nat.ne_of_lt (Nat.lt_of_lt_of_le (Heap.lt_size e) (I.ok.cab x c hfn hc)))).trans e1⟩
    · obtain ⟨o', e1⟩ := I.base.there b o e hx
      exact ⟨o', (hs.2 b (Nat.ne_of_lt (Nat.lt_of_lt_of_le (Heap.lt_size e) (I.ok.cab x c hfn hc)))).trans e1⟩
    · by_cases hj : j = i
      · subst hj
        rw [hi] at e1; cases e1
        rw [List.getElem?_set_self hiσ] at e2
        cases e2
        exact ⟨u, r, .inr ⟨.inl hk, c, hc, hc'⟩⟩
      · rw [List.getElem?_set_ne (Ne.symm hj)] at e2
        obtain ⟨u', r', q⟩ := hl j y v' e1 e2 e3
        refine ⟨u', r', ?_⟩
        rcases q with q | ⟨k, c', e, z'⟩
        · exact .inl q
        · refine .inr ⟨k, c', e, z'.sameBut hs ?_⟩
          rintro rfl
          exact hj (nodup_ix hN e1 (I.ok.inj _ _ _ e hc ▸ hi))
    · by_cases hcc : c' = c
      · subst hcc; exact ⟨_, hc'⟩
      · obtain ⟨w2, z2⟩ := I.cell y c' e
        exact ⟨w2, z2.sameBut hs hcc⟩
    · obtain ⟨e, n, ne, nf, d⟩ := I.pin p hp
      refine ⟨(hs.2 p.1 ?_).trans e, n, ne, nf, d⟩
      intro q
      rw [q, hoc] at e
      have q' : oc = p.2 := Option.some.inj e
      exact d w' (by rw [← q']; exact hocd)
theorem store_ok {M : Model} {A : Around} {E : Value → Shared → Prop} {i : Nat} {x : Str} {v : V} {u : Value} {Q : Unit → Shared → Prop} (I : Inv X pins σ H s) (hN : X.N.Nodup) (hi : X.N[i]? = some x) (hx : Loc X.env.scope x) (r : RelV v u)
    (h : ∀ s', Inv X pins (σ.set i (some v)) H s' → Q () s') (hf : X.fn x = true ∨ X.env.scope.names.lookup x = some .local := by first | exact .inl rfl | exact .inr rfl | assumption) : wpAny M A (storeName X.env x u) Q E s :=
  store_ok2 I hN hi hx r (fun s' I' _ => h s' I') hf
theorem Inv.call' {s' : Shared} {ch : List Addr} (I : Inv X pins σ H s) (ho : s'.os = s.os) (u : Un (frs X.stack) ch H H' s.heap s'.heap) (hok : HOk X.prog X.w H' s'.heap) (hg : AllBare s'.gens)
    (hch : ∀ b ∈ ch, (b ∈ X.ex ∨ X.s₀.heap.objs.size ≤ b) ∧ b ≠ X.env.locals ∧ (∀ x c, X.env.cells.lookup x = some c → c ≠ b) ∧ ∀ p ∈ X.pn ++ pins, p.1 ≠ b) : Inv X pins σ H' s' := by
  obtain ⟨h', g', d', t', o'⟩ := s'
  have e : o' = s.os := ho
  subst e
  exact I.call (g' := g') (t' := t') (d' := d') u hok hg hch
end

abbrev XK := Value → Option Addr → Hp → Prop
abbrev St := List (Option V)
abbrev VK := V → Hp → Prop
abbrev TE := St → Hp → VK → Prop
abbrev TT := St → Hp → (Bool → Hp → Prop) → Prop
abbrev TA := St → Hp → (List V → Hp → Prop) → Prop
structure Ends where
  nx : St → Hp → Prop
  rt : VK
  bk : St → Hp → Prop := fun _ _ => False
  ct : St → Hp → Prop := fun _ _ => False
abbrev TS := Ends → St → Hp → Prop

def EP (X : Cx) (pins : List (Addr × Obj)) (σ : St) (Q : VK) (u : Value) (s' : Shared) : Prop := ∃ v H', Inv X pins σ H' s' ∧ RelV v u ∧ Q v H'
def TP (X : Cx) (pins : List (Addr × Obj)) (σ : St) (Q : Bool → Hp → Prop) (b : Bool) (s' : Shared) : Prop := ∃ H', Inv X pins σ H' s' ∧ Q b H'
def AP (X : Cx) (pins : List (Addr × Obj)) (σ : St) (Q : List V → Hp → Prop) (us : List Value) (s' : Shared) : Prop := ∃ vs H', Inv X pins σ H' s' ∧ Vals vs us ∧ Q vs H'
def SP (X : Cx) (pins : List (Addr × Obj)) (D : Ends) (f : Flow) (s' : Shared) : Prop :=
  match f with
  | .next => ∃ σ' H', Inv X pins σ' H' s' ∧ D.nx σ' H'
  | .brk => ∃ σ' H', Inv X pins σ' H' s' ∧ D.bk σ' H'
  | .cont => ∃ σ' H', Inv X pins σ' H' s' ∧ D.ct σ' H'
  | .ret u => ∃ v σ' H', Inv X pins σ' H' s' ∧ RelV v u ∧ D.rt v H'

def PE (X : Cx) (e : Expr) (t : TE) : Prop :=
  ∀ (pins : List (Addr × Obj)) (s : Shared) (σ : St) (H : Hp) (Q : VK), Inv X pins σ H s → t σ H Q → wpAny (model X.prog X.w) X.A (eval e X.env) (EP X pins σ Q) X.xe s
def PT (X : Cx) (e : Expr) (t : TT) : Prop :=
  ∀ (pins : List (Addr × Obj)) (s : Shared) (σ : St) (H : Hp) (Q : Bool → Hp → Prop), Inv X pins σ H s → t σ H Q → wpAny (model X.prog X.w) X.A (isTrue e X.env (eval e X.env)) (TP X pins σ Q) X.xe s
def PW (X : Cx) (e : Expr) (t : TT) : Prop :=
  ∀ (whole : Sem Value) (pins : List (Addr × Obj)) (s : Shared) (σ : St) (H : Hp) (Q : Bool → Hp → Prop), Inv X pins σ H s → t σ H Q → wpAny (model X.prog X.w) X.A (isTrue e X.env whole) (TP X pins σ Q) X.xe s
theorem PW.pt {X : Cx} {e : Expr} {t : TT} (h : PW X e t) : PT X e t := h _
def PA (X : Cx) (es : List Expr) (t : TA) : Prop :=
  ∀ (pos : Pos) (pins : List (Addr × Obj)) (s : Shared) (σ : St) (H : Hp) (Q : List V → Hp → Prop), Inv X pins σ H s → t σ H Q → wpAny (model X.prog X.w) X.A (spliced (backTo pos (starEach es X.env))) (AP X pins σ Q) X.xe s
def PS (X : Cx) (st : Stmt) (t : TS) : Prop :=
  ∀ (pins : List (Addr × Obj)) (s : Shared) (σ : St) (H : Hp) (D : Ends), Inv X pins σ H s → t D σ H → wpAny (model X.prog X.w) X.A (exec st X.env) (SP X pins D) X.xe s
def PSs (X : Cx) (st : List Stmt) (t : TS) : Prop :=
  ∀ (pins : List (Addr × Obj)) (s : Shared) (σ : St) (H : Hp) (D : Ends), Inv X pins σ H s → t D σ H → wpAny (model X.prog X.w) X.A (execs st X.env) (SP X pins D) X.xe s
theorem thn {α : Type} {t : Sem α} {Q Q' : α → Shared → Prop} {M : Model} {A : Around} {E : Value → Shared → Prop} {s : Shared} (h : wpAny M A t Q E s) (hQ : ∀ a s, Q a s → Q' a s) : wpAny M A t Q' E s := wpAny_mono h hQ fun _ _ x => x
end L2

namespace L2
open PySem PySem.Spec PyProof.Rows
section
variable {X : Cx}

def tVar (i : Nat) : TE := fun σ H Q => ∃ v, σ[i]? = some (some v) ∧ Q v H
def tC (v : V) : TE := fun _ H Q => Q v H
theorem pe_var {i : Nat} {x : Str} {pos : Pos} (hN : X.N[i]? = some x) (hv : Vis X.env.scope x) (hd : (x == ("__debug__" : Str)) = false := by decide) (hcd : (x == ("__classdict__" : Str)) = false := by decide) : PE X (.Name x pos) (tVar i) := by
  intro pins s σ H Q I h
  obtain ⟨v, e, h⟩ := h
  obtain ⟨m, hn, hl⟩ := I.loc
  obtain ⟨u, r, l⟩ := hl i x v hN e hv
  have fin : EP X pins σ Q u s := ⟨v, H, I, r, h⟩
  rcases l with ⟨hk, hm⟩ | ⟨hk, c, hc, hcell⟩
  · exact wpAny_Name (wpAny_loadName_local I.ok.kind hk hn hm fin) hd
  · rcases hk with hk | hk
    · exact wpAny_Name (wpAny_loadName_cell I.ok.kind hk hc hcell fin) hd
    · exact wpAny_Name (wpAny_loadName_free I.ok.kind hk hc hcell fin hcd) hd
theorem pe_int {i j pos} : PE X (.Constant (.int i) j pos) (tC (.int i)) := fun _ _ _ H _ I h => wpAny_Constant_int ⟨.int i, H, I.tok _, ⟨_, rfl⟩, h⟩
theorem pe_bl {b j pos} : PE X (.Constant (.bool b) j pos) (tC (.bl b)) := fun _ _ _ H _ I h => Constant_bool ⟨.bl b, H, I, rfl, h⟩
theorem pe_non {j pos} : PE X (.Constant .none j pos) (tC .non) := fun _ _ _ H _ I h => Constant_none ⟨.non, H, I, rfl, h⟩
theorem pe_str {x j pos} : PE X (.Constant (.str x) j pos) (tC (.str x)) := fun _ _ _ H _ I h => Calls.Constant_str ⟨.str x, H, I.tok _, ⟨_, rfl⟩, h⟩

def Gl (X : Cx) (x : Str) : Prop := X.env.kindOf x = some .globalImplicit
theorem ld_glob {E : Value → Shared → Prop} {pins : List (Addr × Obj)} {s : Shared} {σ : St} {H : Hp} {x : Str} {u : Value} {pos : Pos} {Q : Value → Shared → Prop} (I : Inv X pins σ H s) (hg : Gl X x) (hm : X.mg x = some u) (h : Q u s)
    (hd : (x == ("__debug__" : Str)) = false := by decide) : wpAny (model X.prog X.w) X.A (eval (.Name x pos) X.env) Q E s :=
  Calls.Name_function_global I.ok.kind hg (Calls.loadGlobal_global (by rw [I.ok.glob]; exact I.mod.glob.keeps I.bk) hm h) hd
theorem ld_blt {E : Value → Shared → Prop} {pins : List (Addr × Obj)} {s : Shared} {σ : St} {H : Hp} {x : Str} {u : Value} {pos : Pos} {Q : Value → Shared → Prop} (I : Inv X pins σ H s) (hg : Gl X x) (hm : X.mg x = none) (hv : bootBuiltins x = some u) (h : Q u s)
    (hn : x ≠ "__name__" := by decide) (hd : (x == ("__debug__" : Str)) = false := by decide) : wpAny (model X.prog X.w) X.A (eval (.Name x pos) X.env) Q E s := by
  obtain ⟨mb, h1, h2⟩ := I.mod.blt
  exact Calls.Name_function_global I.ok.kind hg (Calls.loadGlobal_builtin (by rw [I.ok.glob]; exact I.mod.glob.keeps I.bk) hm (by rw [I.ok.blt]; exact h1.keeps I.bk) ((h2 x hn).trans hv) h) hd
theorem pe_glob {x : Str} {v : V} {u : Value} {pos : Pos} (hg : Gl X x) (hm : X.mg x = some u) (r : RelV v u) (hd : (x == ("__debug__" : Str)) = false := by decide) : PE X (.Name x pos) (tC v) :=
  fun _ _ _ H _ I h => ld_glob I hg hm ⟨v, H, I, r, h⟩ hd
theorem pe_bltn {x : Str} {v : V} {u : Value} {pos : Pos} (hg : Gl X x) (hm : X.mg x = none) (hv : bootBuiltins x = some u) (r : RelV v u) (hn : x ≠ "__name__" := by decide) (hd : (x == ("__debug__" : Str)) = false := by decide) : PE X (.Name x pos) (tC v) :=
  fun _ _ _ H _ I h => ld_blt I hg hm hv ⟨v, H, I, r, h⟩ hn hd

def t2I (ta tb : TE) (k : Int → Int → Hp → Prop) : St → Hp → Prop := fun σ H => ta σ H fun x H1 => tb σ H1 fun y H2 => ∃ i j, x = .int i ∧ y = .int j ∧ k i j H2
variable {a b : Expr} {ta tb : TE} {pos : Pos}
def PC (X : Cx) (op : CmpOp) (a b : Expr) (t : TE) : Prop :=
  ∀ (pins : List (Addr × Obj)) (s : Shared) (σ : St) (H : Hp) (Q : VK), Inv X pins σ H s → t σ H Q →
    wpAny (model X.prog X.w) X.A (eval a X.env) (fun v s₁ => wpAny (model X.prog X.w) X.A (eval b X.env) (fun u s₂ => wpAny (model X.prog X.w) X.A (compareOp op v u) (EP X pins σ Q) X.xe s₂) X.xe s₁) X.xe s
theorem nobehind (b : Expr) {op : CmpOp} (h : op ≠ .In) (h2 : op ≠ .NotIn) : behindInMarks op b = false := by
  have e1 : (op == CmpOp.In) = false := by cases op <;> first | rfl | exact absurd rfl h
  have e2 : (op == CmpOp.NotIn) = false := by cases op <;> first | rfl | exact absurd rfl h2
  cases b <;> simp [behindInMarks, e1, e2]
def tCmp (p : Int → Int → Bool) (ta tb : TE) : TE := fun σ H Q => t2I ta tb (fun i j H2 => Q (.bl (p i j)) H2) σ H
abbrev tLt : TE → TE → TE := tCmp fun i j => decide (i < j)
abbrev tLe : TE → TE → TE := tCmp fun i j => decide (i ≤ j)
abbrev tGt : TE → TE → TE := tCmp fun i j => decide (j < i)
abbrev tGe : TE → TE → TE := tCmp fun i j => decide (j ≤ i)
abbrev tEqI : TE → TE → TE := tCmp fun i j => decide (i = j)
abbrev tNeI : TE → TE → TE := tCmp fun i j => !decide (i = j)
def tIsN (ta : TE) : TE := fun σ H Q => ta σ H fun x H1 => Q (.bl (decide (x = .non))) H1
theorem RelV.none_iff {x : V} {v : Value} (r : RelV x v) : (v == Value.none) = decide (x = .non) := by
  cases x with
  | non => cases r; rfl
  | bl _ => cases r; rfl
  | int _ => obtain ⟨t, rfl⟩ := r; rfl
  | str _ => obtain ⟨t, rfl⟩ := r; rfl
  | byt _ => obtain ⟨t, rfl⟩ := r; rfl
  | flt _ => obtain ⟨t, rfl⟩ := r; rfl
  | ref _ => cases r; rfl
  | ty _ => cases r; rfl
theorem pc_isN {j pos'} (ha : PE X a ta) : PC X .Is a (.Constant .none j pos') (tIsN ta) := by
  intro pins s σ H Q I h
  refine thn (ha pins s σ H _ I h) fun v s1 ⟨x, H1, I1, r1, q1⟩ => ?_
  exact Constant_none (is_none_gen ⟨.bl _, H1, I1, by rw [r1.none_iff]; rfl, q1⟩)
def tB (t : TE) : TT := fun σ H Q => t σ H fun x H1 => ∃ c, x = .bl c ∧ Q c H1
theorem pe_cmp {op : CmpOp} {t : TE} (h : PC X op a b t) (h1 : behindInMarks op b = false := by first | exact nobehind _ (by decide) (by decide) | rfl) : PE X (.Compare a [op] [b] pos) t := fun pins s σ H Q I hw => wpAny_Compare1 (h pins s σ H Q I hw) h1
theorem pt_cmp {op : CmpOp} {t : TE} (h : PC X op a b t) (h1 : behindInMarks op b = false := by first | exact nobehind _ (by decide) (by decide) | rfl) : PT X (.Compare a [op] [b] pos) (tB t) := by
  intro pins s σ H Q I hw
  refine wpAny_isTrue_Compare1 (thn (h pins s σ H _ I hw) fun v s1 h1 => thn h1 fun u s2 h2 => thn h2 fun c s3 ⟨x, H1, I1, r1, q1⟩ => ?_) h1
  obtain ⟨d, rfl, q⟩ := q1
  cases r1
  exact wpAny_truthy_bool ⟨H1, I1, q⟩
theorem pt_val {e : Expr} {t : TE} (h : PE X e t) (he : ∀ whole, isTrue e X.env whole = (do let v ← whole; standAt e.pos; holding [v] (truthy v)) := by intro _; rfl) : PT X e (tB t) := by
  intro pins s σ H Q I hw
  refine isTrue_plain (thn (h pins s σ H _ I hw) fun v s1 ⟨x, H1, I1, r1, q1⟩ => ?_) (he _)
  obtain ⟨d, rfl, q⟩ := q1
  cases r1
  exact wpAny_truthy_bool ⟨H1, I1, q⟩

variable {tA tB' : TT} {rest : List Expr}
def tAnd (t u : TT) : TT := fun σ H Q => t σ H fun c H1 => if c = true then u σ H1 Q else Q false H1
def tOr (t u : TT) : TT := fun σ H Q => t σ H fun c H1 => if c = true then Q true H1 else u σ H1 Q
def tNot (t : TT) : TT := fun σ H Q => t σ H fun c H1 => Q (!c) H1
theorem pw_and1 (ha : PT X a tA) : PW X (.BoolOp .And [a] pos) tA := by
  intro wh pins s σ H Q I h
  refine isTrue_and (thn (ha pins s σ H Q I h) fun c s1 e => ?_)
  cases c with
  | true => exact isTrue_and_nil e
  | false => exact e
theorem pw_or1 (ha : PT X a tA) : PW X (.BoolOp .Or [a] pos) tA := by
  intro wh pins s σ H Q I h
  refine isTrue_or (thn (ha pins s σ H Q I h) fun c s1 e => ?_)
  cases c with
  | false => exact isTrue_or_nil e
  | true => exact e
theorem pw_and (ha : PT X a tA) (hb : PW X (.BoolOp .And (b :: rest) pos) tB') : PW X (.BoolOp .And (a :: b :: rest) pos) (tAnd tA tB') := by
  intro wh pins s σ H Q I h
  refine isTrue_and (thn (ha pins s σ H _ I h) fun c s1 ⟨H1, I1, q1⟩ => ?_)
  cases c with
  | true => exact hb wh pins s1 σ H1 Q I1 q1
  | false => exact ⟨H1, I1, q1⟩
theorem pw_or (ha : PT X a tA) (hb : PW X (.BoolOp .Or (b :: rest) pos) tB') : PW X (.BoolOp .Or (a :: b :: rest) pos) (tOr tA tB') := by
  intro wh pins s σ H Q I h
  refine isTrue_or (thn (ha pins s σ H _ I h) fun c s1 ⟨H1, I1, q1⟩ => ?_)
  cases c with
  | true => exact ⟨H1, I1, q1⟩
  | false => exact hb wh pins s1 σ H1 Q I1 q1
theorem pt_not (ha : PT X a tA) : PT X (.UnaryOp .Not a pos) (tNot tA) := by
  intro pins s σ H Q I h
  exact isTrue_not (ha pins s σ H (fun c H1 => Q (!c) H1) I h)
def tAndV (ta tb : TE) : TE := fun σ H Q => ta σ H fun x H1 => ∃ c, x = .bl c ∧ if c = true then tb σ H1 Q else Q (.bl false) H1
def tNotV (ta : TE) : TE := fun σ H Q => ta σ H fun x H1 => ∃ c, x = .bl c ∧ Q (.bl (!c)) H1
theorem pe_one {op} {t : TE} (h : PE X a t) : PE X (.BoolOp op [a] pos) t := fun pins s σ H Q I hw => BoolOp_one (h pins s σ H Q I hw)
theorem pe_and (ha : PE X a ta) (hb : PE X (.BoolOp .And (b :: rest) pos) tb) : PE X (.BoolOp .And (a :: b :: rest) pos) (tAndV ta tb) := by
  intro pins s σ H Q I h
  refine BoolOp_and (thn (ha pins s σ H _ I h) fun v s1 ⟨x, H1, I1, r1, q1⟩ => ?_)
  obtain ⟨c, rfl, q1⟩ := q1
  cases r1
  refine wpAny_truthy_bool ?_
  cases c with
  | true => exact hb pins s1 σ H1 Q I1 q1
  | false => exact ⟨.bl false, H1, I1, rfl, q1⟩
theorem pe_not (ha : PE X a ta) : PE X (.UnaryOp .Not a pos) (tNotV ta) := by
  intro pins s σ H Q I h
  refine UnaryOp_ (thn (ha pins s σ H _ I h) fun v s1 ⟨x, H1, I1, r1, q1⟩ => ?_)
  obtain ⟨c, rfl, q1⟩ := q1
  cases r1
  exact not_of (wpAny_truthy_bool ⟨.bl (!c), H1, I1, rfl, q1⟩)
def tIf (t : TT) (ta tb : TE) : TE := fun σ H Q => t σ H fun c H1 => if c = true then ta σ H1 Q else tb σ H1 Q
theorem pe_ifExp {c : Expr} (hc : PT X c tA) (ha : PE X a ta) (hb : PE X b tb) : PE X (.IfExp c a b pos) (tIf tA ta tb) := by
  intro pins s σ H Q I h
  refine wpAny_IfExp (thn (hc pins s σ H _ I h) fun d s1 ⟨H1, I1, q1⟩ => ?_)
  cases d with
  | true => exact ha pins s1 σ H1 Q I1 q1
  | false => exact hb pins s1 σ H1 Q I1 q1
end
end L2

namespace L2
open PySem PySem.Spec PyProof.Rows

def SqL (K : PySem.W.Frag) (H : Hp) (a : Addr) (xs : List V) : Prop :=
  Rd H a (.lst xs) ∨
    ∃ (o : Obj) (its : Array Value) (n : Nat), K.lookup a = some o ∧ o.cls = .type "list" ∧ o.dict = none ∧ o.data = .seq its n ∧ its.size ≤ sizeLine ∧ Vals xs its.toList
def SqT (K : PySem.W.Frag) (H : Hp) (a : Addr) (xs : List V) : Prop :=
  Rd H a (.tup xs) ∨
    ∃ (o : Obj) (its : Array Value) (n : Nat), K.lookup a = some o ∧ o.cls = .type "tuple" ∧ o.data = .seq its n ∧ its.size ≤ sizeLine ∧ Vals xs its.toList
def absV : Value → Option V
  | .none => some .non
  | .bool b => some (.bl b)
  | .int i _ => some (.int i)
  | .str x _ => some (.str x)
  | .bytes b _ => some (.byt b)
  | .float b _ => some (.flt b)
  | .ref a => some (.ref a)
  | .type n => some (.ty n)
  | _ => none
theorem RelV.abs {x : V} {u : Value} (r : RelV x u) : absV u = some x := by
  cases x with
  | non => cases r; rfl
  | bl _ => cases r; rfl
  | int _ => obtain ⟨t, rfl⟩ := r; rfl
  | str _ => obtain ⟨t, rfl⟩ := r; rfl
  | byt _ => obtain ⟨t, rfl⟩ := r; rfl
  | flt _ => obtain ⟨t, rfl⟩ := r; rfl
  | ref _ => cases r; rfl
  | ty _ => cases r; rfl
theorem RelV.inj {x y : V} {u : Value} (r : RelV x u) (q : RelV y u) : x = y := Option.some.inj (r.abs.symm.trans q.abs)
theorem Vals.inj : ∀ {xs ys : List V} {us : List Value}, Vals xs us → Vals ys us → xs = ys
  | _, _, _, .nil, .nil => rfl
  | _, _, _, .cons r t, .cons r' t' => by rw [r.inj r', Vals.inj t t']
section
variable {X : Cx} {pins : List (Addr × Obj)} {σ : St} {H : Hp} {s : Shared} {a : Addr} {xs ys : List V}
theorem SqL.of {K : PySem.W.Frag} (h : H a = some (.lst xs)) : SqL K H a xs := .inl (.inl h)
theorem SqT.of {K : PySem.W.Frag} (h : H a = some (.tup xs)) : SqT K H a xs := .inl (.inl h)
theorem Inv.list (I : Inv X pins σ H s) (h : SqL X.K H a xs) : ∃ its : List Value, Vals xs its ∧ PlainL s.heap a its.toArray ∧ xs.length ≤ sizeLine := by
  rcases h with h | ⟨o, its, n, hk, hc, hd, hs, hz, r⟩
  · obtain ⟨z, its, n, r, e⟩ := h.ok I.hok
    exact ⟨its, r, ⟨_, n, e, rfl, rfl, rfl⟩, z⟩
  · refine ⟨its.toList, r, ⟨o, n, I.kIn a o hk, hc, hd, by simpa using hs⟩, ?_⟩
    have e := r.length
    simp only [Array.length_toList] at e
    omega
theorem Inv.tuple (I : Inv X pins σ H s) (h : SqT X.K H a xs) : ∃ its : List Value, Vals xs its ∧ IsTup s.heap a its.toArray ∧ xs.length ≤ sizeLine := by
  rcases h with h | ⟨o, its, n, hk, hc, hs, hz, r⟩
  · obtain ⟨z, its, r, p⟩ := h.ok I.hok
    exact ⟨its, r, p, z⟩
  · refine ⟨its.toList, r, ⟨o, I.kIn a o hk, hc, n, by simpa using hs⟩, ?_⟩
    have e := r.length
    simp only [Array.length_toList] at e
    omega
theorem Inv.list_inj (I : Inv X pins σ H s) (h : SqL X.K H a xs) (h' : SqL X.K H a ys) : xs = ys := by
  obtain ⟨its, r, ⟨o, n, e, _, _, d⟩, _⟩ := I.list h
  obtain ⟨its', r', ⟨o', n', e', _, _, d'⟩, _⟩ := I.list h'
  rw [e] at e'; cases e'
  rw [d] at d'
  injection d' with d1 _
  have : its = its' := by simpa using congrArg Array.toList d1
  subst this
  exact r.inj r'
theorem Inv.tuple_inj (I : Inv X pins σ H s) (h : SqT X.K H a xs) (h' : SqT X.K H a ys) : xs = ys := by
  obtain ⟨its, r, ⟨o, e, _, n, d⟩, _⟩ := I.tuple h
  obtain ⟨its', r', ⟨o', e', _, n', d'⟩, _⟩ := I.tuple h'
  rw [e] at e'; cases e'
  rw [d] at d'
  injection d' with d1 _
  have : its = its' := by simpa using congrArg Array.toList d1
  subst this
  exact r.inj r'
end

abbrev Cx.wish (X : Cx) (E : Value → Shared → Prop) : Cx := { X with xe := E }
abbrev Cx.nox (X : Cx) : Cx := X.wish fun _ _ => False
theorem Cx.Ok.wish {X : Cx} (ok : X.Ok) (E : Value → Shared → Prop) : (X.wish E).Ok :=
  ⟨ok.mod, ok.kind, ok.glob, ok.blt, ok.above, ok.inj, ok.has, ok.cab, ok.hd, ok.frames, ok.stk, ok.exf, ok.bs, ok.bsz, ok.noex, ok.exfs, ok.funs, ok.frf⟩
theorem Cx.Ok.unwish {X : Cx} {E : Value → Shared → Prop} (ok : (X.wish E).Ok) : X.Ok :=
  ⟨ok.mod, ok.kind, ok.glob, ok.blt, ok.above, ok.inj, ok.has, ok.cab, ok.hd, ok.frames, ok.stk, ok.exf, ok.bs, ok.bsz, ok.noex, ok.exfs, ok.funs, ok.frf⟩
section
variable {X : Cx} {pins : List (Addr × Obj)} {σ : St} {H : Hp} {s : Shared} {E : Value → Shared → Prop}
theorem Inv.wish (I : Inv X pins σ H s) (E : Value → Shared → Prop) : Inv (X.wish E) pins σ H s := ⟨I.ok.wish E, I.os, I.bare, I.base, I.loc, I.cell, I.free, I.freeC, I.pin, I.hok, I.len⟩
theorem Inv.unwish (I : Inv (X.wish E) pins σ H s) : Inv X pins σ H s := ⟨I.ok.unwish, I.os, I.bare, I.base, I.loc, I.cell, I.free, I.freeC, I.pin, I.hok, I.len⟩
theorem SP.unwish {D : Ends} {f : Flow} {s' : Shared} (h : SP (X.wish E) pins D f s') : SP X pins D f s' := by
  cases f with
  | next => obtain ⟨σ', H', I, q⟩ := h; exact ⟨σ', H', I.unwish, q⟩
  | brk => obtain ⟨σ', H', I, q⟩ := h; exact ⟨σ', H', I.unwish, q⟩
  | cont => obtain ⟨σ', H', I, q⟩ := h; exact ⟨σ', H', I.unwish, q⟩
  | ret u => obtain ⟨v, σ', H', I, r, q⟩ := h; exact ⟨v, σ', H', I.unwish, r, q⟩
theorem PE.nox {e : Expr} {t : TE} (h : PE X.nox e t) : PE X e t := fun pins s σ H Q I hw =>
  wpAny_mono (h pins s σ H Q (I.wish _) hw) (fun _ _ ⟨v, H', I', r, q⟩ => ⟨v, H', I'.unwish, r, q⟩) fun _ _ z => False.elim z
theorem PT.nox {e : Expr} {t : TT} (h : PT X.nox e t) : PT X e t := fun pins s σ H Q I hw =>
  wpAny_mono (h pins s σ H Q (I.wish _) hw) (fun _ _ ⟨H', I', q⟩ => ⟨H', I'.unwish, q⟩) fun _ _ z => False.elim z
theorem PSs.nox {st : List Stmt} {t : TS} (h : PSs X.nox st t) : PSs X st t := fun pins s σ H D I hw =>
  wpAny_mono (h pins s σ H D (I.wish _) hw) (fun _ _ q => q.unwish) fun _ _ z => False.elim z
end

section
variable {X : Cx} {st : Stmt} {rest : List Stmt} {t u : TS} {e : Expr} {te : TE} {pos : Pos}
def tNext : TS := fun D σ H => D.nx σ H
def tSeq (t u : TS) : TS := fun D σ H => t { D with nx := u D } σ H
theorem pss_nil : PSs X [] tNext := fun _ _ σ H _ I h => wpAny_execs_nil ⟨σ, H, I, h⟩
theorem pss_cons (h1 : PS X st t) (h2 : PSs X rest u) : PSs X (st :: rest) (tSeq t u) := by
  intro pins s σ H D I h
  refine wpAny_execs_cons (thn (h1 pins s σ H { D with nx := u D } I h) fun f s1 q => ?_)
  cases f with
  | next =>
    obtain ⟨σ', H', I', q⟩ := q
    exact h2 pins s1 σ' H' D I' q
  | ret v => exact q
  | brk => exact q
  | cont => exact q
theorem pss_one (h1 : PS X st t) : PSs X [st] t := by
  intro pins s σ H D I h
  refine wpAny_execs_cons (thn (h1 pins s σ H D I h) fun f s1 q => ?_)
  cases f with
  | next => exact wpAny_execs_nil q
  | ret v => exact q
  | brk => exact q
  | cont => exact q
theorem Inv.quiet {pins : List (Addr × Obj)} {σ : St} {H : Hp} {s : Shared} (I : Inv X pins σ H s) : interactive X.env = false := by simp [interactive, I.ok.kind]
def tDrop (te : TE) : TS := fun D σ H => te σ H fun _ H1 => D.nx σ H1
theorem ps_expr (he : PE X e te) (hs : swapsWith e none pos.line X.env = pure false := by rfl) : PS X (.Expr e pos) (tDrop te) := by
  intro pins s σ H D I h
  exact wpAny_Expr_any (thn (he pins s σ H _ I h) fun v s1 ⟨x, H1, I1, r1, q1⟩ => ⟨σ, H1, I1, q1⟩) I.quiet hs
def tRet (te : TE) : TS := fun D σ H => te σ H D.rt
theorem ps_ret (he : PE X e te) : PS X (.Return (some e) pos) (tRet te) := by
  intro pins s σ H D I h
  exact wpAny_Return_some (thn (he pins s σ H _ I h) fun v s1 ⟨x, H1, I1, r1, q1⟩ => ⟨x, σ, H1, I1, r1, q1⟩)
def tIfS (c : TT) (t u : TS) : TS := fun D σ H => c σ H fun b H1 => if b = true then t D σ H1 else u D σ H1
theorem ps_if {c : Expr} {a b : List Stmt} {tc : TT} (hc : PT X c tc) (ha : PSs X a t) (hb : PSs X b u) : PS X (.If c a b pos) (tIfS tc t u) := by
  intro pins s σ H D I h
  refine wpAny_If (thn (hc pins s σ H _ I h) fun d s1 ⟨H1, I1, q1⟩ => ?_)
  cases d with
  | true => exact ha pins s1 σ H1 D I1 q1
  | false => exact hb pins s1 σ H1 D I1 q1
def tNever : TS := fun _ _ _ => False
theorem ps_never : PS X st tNever := fun _ _ _ _ _ _ h => h.elim
end

abbrev TG := V → St → Hp → (St → Hp → Prop) → Prop
abbrev TGs := List V → St → Hp → (St → Hp → Prop) → Prop
def PG (X : Cx) (target : Expr) (t : TG) : Prop :=
  ∀ (pins : List (Addr × Obj)) (s : Shared) (σ : St) (H : Hp) (v : V) (u : Value) (Q : St → Hp → Prop), Inv X pins σ H s → RelV v u → t v σ H Q →
    wpAny (model X.prog X.w) X.A (assign target X.env u) (fun _ s' => ∃ σ' H', Inv X pins σ' H' s' ∧ Q σ' H') X.xe s
def PGs (X : Cx) (ts : List Expr) (t : TGs) : Prop :=
  ∀ (pins : List (Addr × Obj)) (s : Shared) (σ : St) (H : Hp) (vs : List V) (us : List Value) (Q : St → Hp → Prop), Inv X pins σ H s → Vals vs us → t vs σ H Q →
    wpAny (model X.prog X.w) X.A (assignInOrder ((assignEach ts X.env).map (·.2)) us) (fun _ s' => ∃ σ' H', Inv X pins σ' H' s' ∧ Q σ' H') X.xe s
abbrev TSet := V → V → V → Hp → (Hp → Prop) → Prop
abbrev TIp := V → V → Hp → VK → Prop
section
variable {X : Cx} {pos : Pos}
def gName (i : Nat) : TG := fun v σ H Q => Q (σ.set i (some v)) H
theorem pg_name {i : Nat} {x : Str} (hN : X.N.Nodup) (hi : X.N[i]? = some x) (hx : Loc X.env.scope x) (hf : X.fn x = true ∨ X.env.scope.names.lookup x = some .local := by first | exact .inl rfl | exact .inr rfl | assumption) : PG X (.Name x pos) (gName i) := by
  intro pins s σ H v u Q I r h
  exact wpAny_assign_Name (store_ok I hN hi hx r (fun s' I' => ⟨_, H, I', h⟩) hf)
def gNil : TGs := fun vs σ H Q => vs = [] ∧ Q σ H
def gCons (t : TG) (u : TGs) : TGs := fun vs σ H Q => ∃ v r, vs = v :: r ∧ t v σ H fun σ' H' => u r σ' H' Q
theorem pgs_nil : PGs X [] gNil := by
  intro pins s σ H vs us Q I r h
  obtain ⟨e, h⟩ := h
  subst e
  cases r
  exact assignInOrder_nil ⟨σ, H, I, h⟩
theorem pgs_cons {e : Expr} {es : List Expr} {t : TG} {u : TGs} (h1 : PG X e t) (h2 : PGs X es u)
    (hs : (assignEach (e :: es) X.env).map (·.2) = assign e X.env :: (assignEach es X.env).map (·.2) := by rfl) : PGs X (e :: es) (gCons t u) := by
  intro pins s σ H vs us Q I r h
  obtain ⟨v, vr, e1, h⟩ := h
  subst e1
  cases r with
  | cons r rr =>
    rw [hs]
    refine assignInOrder_cons (thn (h1 pins s σ H _ _ _ I r h) fun _ s1 ⟨σ1, H1, I1, q1⟩ => ?_)
    exact h2 pins s1 σ1 H1 _ _ Q I1 rr q1
def gTup (K : PySem.W.Frag) (n : Nat) (t : TGs) : TG := fun v σ H Q => ∃ a xs, v = .ref a ∧ SqT K H a xs ∧ xs.length = n ∧ t xs σ H Q
theorem pg_tup {es : List Expr} {k : Nat} {t : TGs} {n : Nat} (hc : X.calm = true) (h : PGs X es t)
    (hn : (assignEach es X.env).length = n := by rfl) (hst : (assignEach es X.env).findIdx? (·.1) = none := by rfl) : PG X (.Tuple es k pos) (gTup X.K n t) := by
  intro pins s σ H v u Q I r hw
  obtain ⟨a, xs, e1, hq, hl, hw⟩ := hw
  subst e1
  cases r
  obtain ⟨its, rv, ht, hz⟩ := I.tuple hq
  refine assign_Tuple_tuple (I.ok.hd hc) ht (by simp [hn, ← hl, rv.length]) hst fun h' hx => ?_
  have I1 : Inv X pins σ H { s with heap := h' } := I.kept (t' := s.toks) fun b o e => hx b o (Nat.ne_of_lt (Heap.lt_size e)) e
  exact h pins _ σ H xs _ Q I1 (by simpa using rv) hw
def tAsg (te : TE) (g : TG) : TS := fun D σ H => te σ H fun x H1 => g x σ H1 D.nx
theorem ps_asg {tg e : Expr} {te : TE} {g : TG} (he : PE X e te) (hg : PG X tg g) (hs : swapsWithSole [tg] e pos.line X.env = pure false := by rfl) (hw : swappedStores [tg] e X.env = pure none := by rfl)
    (h1 : (assignEach [tg] X.env).map (·.2) = [assign tg X.env] := by rfl) : PS X (.Assign [tg] e pos) (tAsg te g) := by
  intro pins s σ H D I h
  refine wpAny_Assign_stores (thn (he pins s σ H _ I h) fun v s1 ⟨x, H1, I1, r1, q1⟩ => ?_) hs hw
  rw [h1]
  exact thn (hg pins s1 σ H1 x v _ I1 r1 q1) fun _ s2 q => q
theorem ps_set {i : Nat} {x : Str} {e : Expr} {te : TE} {pos' : Pos} (hN : X.N.Nodup) (hi : X.N[i]? = some x) (hx : Loc X.env.scope x) (he : PE X e te) (hs : swapsWith e (some (.Name x pos')) pos.line X.env = pure false := by rfl) (hf : X.fn x = true ∨ X.env.scope.names.lookup x = some .local := by first | exact .inl rfl | exact .inr rfl | assumption) :
    PS X (.Assign [.Name x pos'] e pos) (tAsg te (gName i)) := by
  intro pins s σ H D I h
  refine wpAny_Assign_Name (thn (he pins s σ H _ I h) fun v s1 ⟨y, H1, I1, r1, q1⟩ => ?_) hs
  exact store_ok I1 hN hi hx r1 (fun s2 I2 => ⟨_, H1, I2, q1⟩) hf
end

section
variable {X : Cx} {pos : Pos}
end

structure It where
  go : Nat → Hp → Prop
  yld : Nat → Hp → V → Hp → Prop
  stop : Nat → Hp → Prop
def FpOk (X : Cx) (pins : List (Addr × Obj)) (H : Hp) (b : Addr) : Prop :=
  H b = none ∧ b ≠ X.env.locals ∧ b ∉ X.fs ∧ (b ∈ X.ex ∨ X.s₀.heap.objs.size ≤ b) ∧ (∀ x c, X.env.cells.lookup x = some c → c ≠ b) ∧ ∀ p ∈ X.pn ++ pins, p.1 ≠ b
theorem Inv.fpOk {X : Cx} {pins : List (Addr × Obj)} {σ : St} {H H' : Hp} {s : Shared} {b : Addr} (I : Inv X pins σ H s) (hb : s.heap.objs.size ≤ b) (hn : H' b = none) : FpOk X pins H' b := by
  refine ⟨hn, Nat.ne_of_gt (Nat.lt_of_lt_of_le I.lt hb), I.nofs hb, .inr (Nat.le_trans I.sz hb), fun x c e z => ?_, fun p hp z => ?_⟩
  · obtain ⟨v, q⟩ := I.cell x c e
    exact absurd (Nat.lt_of_lt_of_le q.lt (by rw [z]; exact hb)) (Nat.lt_irrefl _)
  · exact absurd (Nat.lt_of_lt_of_le (Heap.lt_size (I.pin p hp).1) (by rw [z]; exact hb)) (Nat.lt_irrefl _)
structure Turn (P : Program) (w : World) (K : PySem.W.Frag) (tg : Expr) (J : It) (fp : List Addr) (it : Addr) (tn : Nat → Heap → Prop) : Prop where
  mem : it ∈ fp
  obj : ∀ i h, tn i h → ∀ b ∈ fp, ∃ o, h.get? b = some o ∧ ∀ v, o.data ≠ .cell v
  keep : ∀ i h h', tn i h → (∀ b ∈ fp, ∀ o, h.get? b = some o → h'.get? b = some o) → tn i h'
  item : ∀ (X : Cx), X.prog = P → X.w = w → X.K = K → X.calm = true → ∀ (i : Nat) (pins : List (Addr × Obj)) (s : Shared) (σ : St) (H : Hp) (E : Value → Shared → Prop), Inv X pins σ H s → (∀ b ∈ fp, FpOk X pins H b) → tn i s.heap → J.go i H →
    wpAny (model P w) X.A (pyNext (.ref it)) (fun r s1 => ∃ u, r = some u ∧
      wpAny (model P w) X.A (letOwnedTupleGo tg (.ref it) u) (fun _ s2 => ∃ x H', Inv X pins σ H' s2 ∧ RelV x u ∧ J.yld i H x H' ∧ tn (i + 1) s2.heap ∧ ∀ b ∈ fp, H' b = none) E s1) E s
  done : ∀ (X : Cx), X.prog = P → X.w = w → X.K = K → X.calm = true → ∀ (i : Nat) (pins : List (Addr × Obj)) (s : Shared) (σ : St) (H : Hp) (E : Value → Shared → Prop), Inv X pins σ H s → (∀ b ∈ fp, FpOk X pins H b) → tn i s.heap → J.stop i H →
    wpAny (model P w) X.A (pyNext (.ref it)) (fun r s1 => r = none ∧ Inv X pins σ H s1) E s
  self : ∀ (A : Around) (i : Nat) (s : Shared) (Q : Value → Shared → Prop) (E : Value → Shared → Prop), tn i s.heap → Q (.ref it) s → wpAny (model P w) A (pyIter (.ref it)) Q E s
abbrev TI := St → Hp → (It → Hp → Prop) → Prop
def PIE (X : Cx) (pins : List (Addr × Obj)) (σ : St) (tg : Expr) (R : It → Hp → Prop) (itv : Value) (s2 : Shared) : Prop :=
  ∃ (it : Addr) (fp : List Addr) (tn : Nat → Heap → Prop) (J : It) (H' : Hp), itv = .ref it ∧ Inv X pins σ H' s2 ∧ Turn X.prog X.w X.K tg J fp it tn ∧ tn 0 s2.heap ∧ (∀ b ∈ fp, FpOk X pins H' b) ∧ R J H'
def PI (X : Cx) (tg iter : Expr) (wi : TI) : Prop :=
  ∀ (pins : List (Addr × Obj)) (s : Shared) (σ : St) (H : Hp) (R : It → Hp → Prop), Inv X pins σ H s → wi σ H R →
    wpAny (model X.prog X.w) X.A (eval iter X.env) (fun v s1 => wpAny (model X.prog X.w) X.A (pyIter v) (PIE X pins σ tg R) X.xe s1) X.xe s

theorem go_of {M : Model} {A : Around} {E : Value → Shared → Prop} {s : Shared} {tg : Expr} {it : Addr} {u : Value} {o : Obj} {n : String} {vs : Array Value} {Q : Unit → Shared → Prop} (ho : s.heap.get? it = some o) (hc : o.cls = .type n) (hd : o.data = .fields vs)
    (hn : ["enumerate", "zip", "dict_itemiterator", "dict_reverseitemiterator", "odict_iterator", "itertools.zip_longest", "itertools.pairwise"].contains n = false) (hQ : Q () s) : wpAny M A (letOwnedTupleGo tg (.ref it) u) Q E s := by
  unfold letOwnedTupleGo
  cases tg <;> first
    | exact wpAny_pure hQ
    | (cases u <;> first
        | exact wpAny_pure hQ
        | (refine wpAny_bind (wpAny_load ho ?_)
           rw [hc, hd]
           show wpAny M A (if (["enumerate", "zip", "dict_itemiterator", "dict_reverseitemiterator", "odict_iterator", "itertools.zip_longest", "itertools.pairwise"].contains n && vs[0]? == some (rawInt _)) = true then _ else _) Q E s
           rw [if_neg (by intro h; rw [hn, Bool.false_and] at h; cases h)]
           exact wpAny_pure hQ))

def Itl (K : PySem.W.Frag) (a : Addr) : It :=
  ⟨fun i H => ∃ xs x, SqL K H a xs ∧ xs[i]? = some x, fun i H x H' => H' = H ∧ ∀ xs, SqL K H a xs → xs[i]? = some x, fun i H => ∃ xs, SqL K H a xs ∧ xs.length ≤ i⟩
def Itt (K : PySem.W.Frag) (a : Addr) : It :=
  ⟨fun i H => ∃ xs x, SqT K H a xs ∧ xs[i]? = some x, fun i H x H' => H' = H ∧ ∀ xs, SqT K H a xs → xs[i]? = some x, fun i H => ∃ xs, SqT K H a xs ∧ xs.length ≤ i⟩
def Itr (lo : Int) (n : Nat) : It := ⟨fun i _ => i < n, fun i H x H' => H' = H ∧ x = .int (lo + i), fun i _ => n ≤ i⟩
theorem turn_list {P : Program} {w : World} {K : PySem.W.Frag} {tg : Expr} (a it : Addr) : Turn P w K tg (Itl K a) [it] it (fun i h => h.IsListIter it a i) where
  mem := by simp
  obj := fun i h st b hb => by
    have e : b = it := by simpa using hb
    subst e
    obtain ⟨o, e, c, d⟩ := st
    exact ⟨o, e, fun v z => by rw [d] at z; cases z⟩
  keep := fun i h h' st k => st.at fun o e => k it (by simp) o e
  item := by
    intro X hP hw hK hc i pins s σ H E I hf st hg
    subst hP hw hK
    obtain ⟨xs, x, hq, hx⟩ := hg
    obtain ⟨its, rv, p, hz⟩ := I.list hq
    obtain ⟨u, hu, ru⟩ := rv.get hx
    obtain ⟨f0, f1, f2, f3, f4, f5⟩ := hf it (by simp)
    refine wpAny_pyNext_list_item st p.isList (x := u) (by simpa using hu) fun h' st' sb => ?_
    have I1 : Inv X pins σ H { s with heap := h' } := I.turned (t' := s.toks) (fun b o hb e => (sb.2 b hb).trans e) f0 f1 f3 f4 f5
    obtain ⟨o, e, c, d⟩ := id st'
    exact ⟨u, rfl, go_of (s := { s with heap := h' }) e c d (by decide) ⟨x, H, I1, ru, ⟨rfl, fun ys hy => by rw [I.list_inj hy hq]; exact hx⟩, st', fun b hb => (hf b hb).1⟩⟩
  done := by
    intro X hP hw hK hc i pins s σ H E I hf st hg
    subst hP hw hK
    obtain ⟨xs, hq, hx⟩ := hg
    obtain ⟨its, rv, p, hz⟩ := I.list hq
    obtain ⟨f0, f1, f2, f3, f4, f5⟩ := hf it (by simp)
    have hl := rv.length
    exact wpAny_pyNext_list_end (I.ok.hd hc) st p.isList (by simp; omega) fun h' eb => ⟨rfl, I.turned (t' := s.toks) (fun b o hb e => eb b o hb e) f0 f1 f3 f4 f5⟩
  self := fun _ _ _ _ _ st h => wpAny_pyIter_listiter st h
theorem turn_tuple {P : Program} {w : World} {K : PySem.W.Frag} {tg : Expr} (a it : Addr) : Turn P w K tg (Itt K a) [it] it (fun i h => h.IsTupleIter it a i) where
  mem := by simp
  obj := fun i h st b hb => by
    have e : b = it := by simpa using hb
    subst e
    obtain ⟨o, e, c, d⟩ := st
    exact ⟨o, e, fun v z => by rw [d] at z; cases z⟩
  keep := fun i h h' st k => st.at fun o e => k it (by simp) o e
  item := by
    intro X hP hw hK hc i pins s σ H E I hf st hg
    subst hP hw hK
    obtain ⟨xs, x, hq, hx⟩ := hg
    obtain ⟨its, rv, p, hz⟩ := I.tuple hq
    obtain ⟨u, hu, ru⟩ := rv.get hx
    obtain ⟨f0, f1, f2, f3, f4, f5⟩ := hf it (by simp)
    refine wpAny_pyNext_tuple_item st (show s.heap.IsTuple a its.toArray from p) (x := u) (by simpa using hu) fun h' st' sb => ?_
    have I1 : Inv X pins σ H { s with heap := h' } := I.turned (t' := s.toks) (fun b o hb e => (sb.2 b hb).trans e) f0 f1 f3 f4 f5
    obtain ⟨o, e, c, d⟩ := id st'
    exact ⟨u, rfl, go_of (s := { s with heap := h' }) e c d (by decide) ⟨x, H, I1, ru, ⟨rfl, fun ys hy => by rw [I.tuple_inj hy hq]; exact hx⟩, st', fun b hb => (hf b hb).1⟩⟩
  done := by
    intro X hP hw hK hc i pins s σ H E I hf st hg
    subst hP hw hK
    obtain ⟨xs, hq, hx⟩ := hg
    obtain ⟨its, rv, p, hz⟩ := I.tuple hq
    obtain ⟨f0, f1, f2, f3, f4, f5⟩ := hf it (by simp)
    have hl := rv.length
    exact wpAny_pyNext_tuple_end (I.ok.hd hc) st (show s.heap.IsTuple a its.toArray from p) (by simp; omega) fun h' eb => ⟨rfl, I.turned (t' := s.toks) (fun b o hb e => eb b o hb e) f0 f1 f3 f4 f5⟩
  self := fun _ _ _ _ _ st h => wpAny_pyIter_tupleiter st h
theorem turn_range {P : Program} {w : World} {K : PySem.W.Frag} {tg : Expr} (it : Addr) (lo : Int) (n : Nat) : Turn P w K tg (Itr lo n) [it] it (fun i h => IsRangeIter h it (lo + (i : Nat) * 1) ((n : Int) - (i : Nat)) 1) where
  mem := by simp
  obj := fun i h st b hb => by
    have e : b = it := by simpa using hb
    subst e
    exact ⟨_, st, fun v z => by
      have z' : Data.fields _ = Data.cell v := z
      cases z'⟩
  keep := fun i h h' st k => k it (by simp) _ st
  item := by
    intro X hP hw hK hc i pins s σ H E I hf st hg
    subst hP hw hK
    obtain ⟨f0, f1, f2, f3, f4, f5⟩ := hf it (by simp)
    have W := Walks.range (prog := X.prog) (w := X.w) (I.ok.hd hc) it lo 1 n
    refine W.item i s _ _ hg st fun v h' tk hv st' kk => ?_
    obtain ⟨t, rfl⟩ := hv
    have I1 : Inv X pins σ H { s with heap := h', toks := tk } := I.turned (fun b o hb e => kk b o (by simpa using hb) e) f0 f1 f3 f4 f5
    refine ⟨_, rfl, go_of (s := { s with heap := h', toks := tk }) (n := "range_iterator") st' rfl rfl (by decide) ⟨.int (lo + i), H, I1, ⟨t, ?_⟩, ⟨rfl, rfl⟩, st', fun b hb => (hf b hb).1⟩⟩
    rw [Int.mul_one]
  done := by
    intro X hP hw hK hc i pins s σ H E I hf st hg
    subst hP hw hK
    obtain ⟨f0, f1, f2, f3, f4, f5⟩ := hf it (by simp)
    exact wpAny_pyNext_range_end (I.ok.hd hc) st (by have : n ≤ i := hg; omega) fun h' eb => ⟨rfl, I.turned (t' := s.toks) (fun b o hb e => eb b o hb e) f0 f1 f3 f4 f5⟩
  self := fun _ _ _ _ _ st h => wpAny_pyIter_rangeiter st h
end L2

namespace L2
open PySem PySem.Spec PyProof.Rows
section
variable {X : Cx} {tg : Expr}
def iList (K : PySem.W.Frag) (tl : TE) : TI := fun σ H R => tl σ H fun x H1 => ∃ a, x = .ref a ∧ (∃ xs, SqL K H1 a xs) ∧ R (Itl K a) H1
def iTup (K : PySem.W.Frag) (tl : TE) : TI := fun σ H R => tl σ H fun x H1 => ∃ a, x = .ref a ∧ (∃ xs, SqT K H1 a xs) ∧ R (Itt K a) H1
theorem pi_list {l : Expr} {tl : TE} (hl : PE X l tl) : PI X tg l (iList X.K tl) := by
  intro pins s σ H R I h
  refine thn (hl pins s σ H _ I h) fun v s1 ⟨x, H1, I1, r1, q1⟩ => ?_
  obtain ⟨a, e, ⟨xs, hq⟩, q⟩ := q1
  subst e
  cases r1
  obtain ⟨its, rv, p, hz⟩ := I1.list hq
  refine wpAny_pyIter_list p.isList ?_
  refine ⟨s1.heap.objs.size, [s1.heap.objs.size], _, _, H1, rfl, I1.kept (t' := s1.toks) fun b o e => Heap.get?_push_of_some _ e, turn_list a _, ⟨_, Heap.get?_push_size _ rfl, rfl, rfl⟩, fun b hb => ?_, q⟩
  have e : b = s1.heap.objs.size := by simpa using hb
  subst e
  exact I1.fpOk (Nat.le_refl _) (I1.hok.fresh (Nat.le_refl _))
theorem pi_tup {l : Expr} {tl : TE} (hl : PE X l tl) : PI X tg l (iTup X.K tl) := by
  intro pins s σ H R I h
  refine thn (hl pins s σ H _ I h) fun v s1 ⟨x, H1, I1, r1, q1⟩ => ?_
  obtain ⟨a, e, ⟨xs, hq⟩, q⟩ := q1
  subst e
  cases r1
  obtain ⟨its, rv, p, hz⟩ := I1.tuple hq
  refine wpAny_pyIter_tuple (show s1.heap.IsTuple a its.toArray from p) ?_
  refine ⟨s1.heap.objs.size, [s1.heap.objs.size], _, _, H1, rfl, I1.kept (t' := s1.toks) fun b o e => Heap.get?_push_of_some _ e, turn_tuple a _, ⟨_, Heap.get?_push_size _ rfl, rfl, rfl⟩, fun b hb => ?_, q⟩
  have e : b = s1.heap.objs.size := by simpa using hb
  subst e
  exact I1.fpOk (Nat.le_refl _) (I1.hok.fresh (Nat.le_refl _))
theorem range_it {pins : List (Addr × Obj)} {σ : St} {H : Hp} {s : Shared} {R : It → Hp → Prop} {E : Value → Shared → Prop} {lo hi : Int} {t u v : Tok} {tk : Nat} (I : Inv X pins σ H s) (h1 : -(2 ^ 62) ≤ lo) (h2 : lo < 2 ^ 62) (h3 : -(2 ^ 62) ≤ hi) (h4 : hi < 2 ^ 62)
    (q : R (Itr lo (hi - lo).toNat) H) : wpAny (model X.prog X.w) X.A (pyIter (.ref s.heap.objs.size)) (PIE X pins σ tg R) E { s with heap := s.heap.push { cls := .type "range", data := .fields #[.int lo t, .int hi u, .int 1 v] }, toks := tk } := by
  refine wpAny_pyIter_range (IsRange.new ..) (small_one h1 h2 h3 h4) ?_
  have I1 : Inv X pins σ H { s with heap := s.heap.push { cls := .type "range", data := .fields #[.int lo t, .int hi u, .int 1 v] }, toks := tk } := I.kept fun b o e => Heap.get?_push_of_some _ e
  refine ⟨(s.heap.push { cls := .type "range", data := .fields #[.int lo t, .int hi u, .int 1 v] }).objs.size, [(s.heap.push { cls := .type "range", data := .fields #[.int lo t, .int hi u, .int 1 v] }).objs.size], _, _, H, rfl,
    I1.kept (t' := tk) fun b o e => Heap.get?_push_of_some _ e, turn_range _ lo (hi - lo).toNat, ?_, fun b hb => ?_, q⟩
  · have e1 : lo + ((0 : Nat) : Int) * 1 = lo := by simp
    have e2 : (((hi - lo).toNat : Nat) : Int) - ((0 : Nat) : Int) = Builtin.Range.rangeSize lo hi 1 := by rw [rangeSize_one]; split <;> omega
    show IsRangeIter _ _ (lo + ((0 : Nat) : Int) * 1) ((((hi - lo).toNat : Nat) : Int) - ((0 : Nat) : Int)) 1
    rw [e1, e2]
    exact Heap.get?_push_size _ rfl
  · have e : b = (s.heap.push { cls := .type "range", data := .fields #[.int lo t, .int hi u, .int 1 v] }).objs.size := by simpa using hb
    subst e
    exact I1.fpOk (Nat.le_refl _) (I1.hok.fresh (Nat.le_refl _))
def iRng1 (ta : TA) : TI := fun σ H R => ta σ H fun vs H1 => ∃ j : Int, vs = [.int j] ∧ -(2 ^ 62) ≤ j ∧ j < 2 ^ 62 ∧ R (Itr 0 j.toNat) H1
def iRng2 (ta : TA) : TI := fun σ H R => ta σ H fun vs H1 => ∃ i j : Int, vs = [.int i, .int j] ∧ (-(2 ^ 62) ≤ i ∧ i < 2 ^ 62 ∧ -(2 ^ 62) ≤ j ∧ j < 2 ^ 62) ∧ R (Itr i (j - i).toNat) H1
theorem pi_range1 {a : Expr} {ta : TA} {p pos : Pos} (hg : Gl X "range") (hm : X.mg "range" = none) (ha : PA X [a] ta) (hs : starEach [a] X.env = [(false, eval a X.env)] := by rfl) : PI X tg (.Call (.Name "range" p) [a] [] pos) (iRng1 ta) := by
  intro pins s σ H R I h
  refine Call_ (ld_blt I hg hm boot_range (PyProof.Rows.callWith_type1 (thn (ha pos pins s σ H _ I h) fun us s1 ⟨vs, H1, I1, r1, q1⟩ => ?_) hs rfl))
  obtain ⟨j, e, q1, q2, q⟩ := q1
  subst e
  cases r1 with
  | cons r rr =>
    cases rr
    obtain ⟨t, rfl⟩ := r
    exact call_range_1 (range_it I1 (by omega) (by omega) q1 q2 (by simpa using q))
theorem pi_range2 {a b : Expr} {ta : TA} {p pos : Pos} (hg : Gl X "range") (hm : X.mg "range" = none) (ha : PA X [a, b] ta) (hs : starEach [a, b] X.env = [(false, eval a X.env), (false, eval b X.env)] := by rfl) (hs2 : starEach [b] X.env = [(false, eval b X.env)] := by rfl) :
    PI X tg (.Call (.Name "range" p) [a, b] [] pos) (iRng2 ta) := by
  intro pins s σ H R I h
  refine Call_ (ld_blt I hg hm boot_range (PyProof.Rows.callWith_type1 (thn (ha pos pins s σ H _ I h) fun us s1 ⟨vs, H1, I1, r1, q1⟩ => ?_) (by rw [hs, hs2]) (by rw [hs2]; rfl)))
  obtain ⟨i, j, e, ⟨q1, q2, q3, q4⟩, q⟩ := q1
  subst e
  cases r1 with
  | cons r rr =>
    cases rr with
    | cons r' rr =>
      cases rr
      obtain ⟨t, rfl⟩ := r
      obtain ⟨t', rfl⟩ := r'
      exact call_range_2 (range_it I1 q1 q2 q3 q4 q)

def tFor (wi : TI) (g : TG) (tb : TS) : TS := fun D σ H => wi σ H fun J H1 => ∃ W : Nat → Nat → St → Hp → Prop, (∃ m, W 0 m σ H1) ∧ ∀ i m σ H, W i m σ H →
  (J.stop i H ∧ D.nx σ H) ∨ (J.go i H ∧ ∃ N : St → Hp → Prop, (∀ σ' H', N σ' H' → ∃ m', m' < m ∧ W (i + 1) m' σ' H') ∧ ∀ x H', J.yld i H x H' → g x σ H' fun σ2 H2 => tb { D with nx := N, ct := N, bk := D.nx } σ2 H2)
def pinsAt (fp : List Addr) (h : Heap) : List (Addr × Obj) := fp.filterMap fun b => (h.get? b).map fun o => (b, o)
theorem mem_pinsAt {fp : List Addr} {h : Heap} {b : Addr} {o : Obj} (hb : b ∈ fp) (e : h.get? b = some o) : (b, o) ∈ pinsAt fp h := List.mem_filterMap.mpr ⟨b, hb, by rw [e]; rfl⟩
theorem of_pinsAt {fp : List Addr} {h : Heap} {p : Addr × Obj} (hp : p ∈ pinsAt fp h) : p.1 ∈ fp ∧ h.get? p.1 = some p.2 := by
  obtain ⟨b, hb, e⟩ := List.mem_filterMap.mp hp
  cases q : h.get? b with
  | none => rw [q] at e; cases e
  | some o =>
    rw [q] at e
    have e' : (b, o) = p := Option.some.inj e
    subst e'
    exact ⟨hb, q⟩
theorem Inv.pinned {pins : List (Addr × Obj)} {σ : St} {H : Hp} {s : Shared} {fp : List Addr} (I : Inv X pins σ H s) (hf : ∀ b ∈ fp, FpOk X pins H b) (ho : ∀ b ∈ fp, ∃ o, s.heap.get? b = some o ∧ ∀ v, o.data ≠ .cell v) : Inv X (pins ++ pinsAt fp s.heap) σ H s :=
  I.pins_of fun p hp => (List.mem_append.mp hp).elim (fun z => I.pin p (List.mem_append_right _ z)) fun z => by
    obtain ⟨hb, e⟩ := of_pinsAt z
    obtain ⟨f0, f1, f2, _⟩ := hf p.1 hb
    obtain ⟨o, e', d⟩ := ho p.1 hb
    rw [e] at e'; cases e'
    exact ⟨e, f0, f1, f2, d⟩
theorem Inv.unpinned {pins pl : List (Addr × Obj)} {σ : St} {H : Hp} {s : Shared} (I : Inv X (pins ++ pl) σ H s) : Inv X pins σ H s := I.pins_of fun p hp => I.pin p (List.mem_append_right _ (List.mem_append_left _ hp))
theorem ps_for {iter : Expr} {body : List Stmt} {wi : TI} {g : TG} {tb : TS} {pos : Pos} (hp : PassesOwn (model X.prog X.w) X.A X.env X.xe) (hc : X.calm = true) (hi : PI X tg iter wi) (hg : PG X tg g) (hb : PSs X body tb)
    (hs : ∀ x, foldedSetIterable iter X.env x = pure x := by intro _; rfl) : PS X (.For tg iter body [] pos) (tFor wi g tb) := by
  intro pins s σ H D I h
  refine wpAny_For (thn (hi pins s σ H _ I h) fun v s1 h1 => thn h1 fun itv s2 h2 => ?_) hs
  obtain ⟨it, fp, tn, J, H2, e, I2, T, st2, f2, W, ⟨m0, w0⟩, turn⟩ := h2
  subst e
  -- what stays true of the iterator's objects through the loop
  have stat : ∀ {H' : Hp}, (∀ b ∈ fp, H' b = none) → ∀ b ∈ fp, FpOk X pins H' b := fun hn b hb => ⟨hn b hb, (f2 b hb).2⟩
  refine codeAny_forLoop_any (fun n s' => ∃ i σ' H', Inv X pins σ' H' s' ∧ tn i s'.heap ∧ (∀ b ∈ fp, H' b = none) ∧ W i n σ' H') ?_ m0 ⟨0, σ, H2, I2, st2, fun b hb => (f2 b hb).1, w0⟩
  rintro n s3 ⟨i, σ3, H3, I3, st3, fr3, w3⟩
  rcases turn i n σ3 H3 w3 with ⟨stop, qn⟩ | ⟨go, N, hN, step⟩
  · refine wpAny_passesOwn hp (thn (T.done X rfl rfl rfl hc i pins s3 σ3 H3 X.xe I3 (stat fr3) st3 stop) fun r s4 ⟨hr, I4⟩ => ?_)
    subst hr
    exact wpAny_execs_nil ⟨σ3, H3, I4, qn⟩
  · refine wpAny_passesOwn hp (thn (T.item X rfl rfl rfl hc i pins s3 σ3 H3 X.xe I3 (stat fr3) st3 go) fun r s4 ⟨u, hr, h4⟩ => ?_)
    subst hr
    refine wpAny_passesOwn hp (thn h4 fun _ s5 ⟨x, H5, I5, r5, y5, st5, fr5⟩ => ?_)
    have I5' := I5.pinned (stat fr5) (T.obj _ _ st5)
    refine wpAny_passesOwn hp (thn (hg _ s5 σ3 H5 x u _ I5' r5 (step x H5 y5)) fun _ s6 ⟨σ6, H6, I6, q6⟩ => ?_)
    refine wpAny_passesOwn hp (thn (hb _ s6 σ6 H6 _ I6 q6) fun f s7 q7 => ?_)
    have again : ∀ {σ7 : St} {H7 : Hp}, Inv X (pins ++ pinsAt fp s5.heap) σ7 H7 s7 → N σ7 H7 → ∃ m, m < n ∧ ∃ i σ' H', Inv X pins σ' H' s7 ∧ tn i s7.heap ∧ (∀ b ∈ fp, H' b = none) ∧ W i m σ' H' := fun {σ7 H7} I7 n7 => by
      obtain ⟨m', hm, w7⟩ := hN σ7 H7 n7
      refine ⟨m', hm, i + 1, σ7, H7, I7.unpinned, T.keep _ _ _ st5 fun b hb o e => (I7.pin (b, o) (List.mem_append_right _ (List.mem_append_right _ (mem_pinsAt hb e)))).1, fun b hb => ?_, w7⟩
      obtain ⟨o, e, d⟩ := T.obj _ _ st5 b hb
      exact (I7.pin (b, o) (List.mem_append_right _ (List.mem_append_right _ (mem_pinsAt hb e)))).2.1
    cases f with
    | next => obtain ⟨σ7, H7, I7, n7⟩ := q7; exact again I7 n7
    | cont => obtain ⟨σ7, H7, I7, n7⟩ := q7; exact again I7 n7
    | brk => obtain ⟨σ7, H7, I7, q7⟩ := q7; exact ⟨σ7, H7, I7.unpinned, q7⟩
    | ret v => obtain ⟨x7, σ7, H7, I7, r7, q7⟩ := q7; exact ⟨x7, σ7, H7, I7.unpinned, r7, q7⟩
end

theorem for_list {K : PySem.W.Frag} {a : Addr} {xs : List V} {g : TG} {tb : TS} {D : Ends} {σ : St} {H : Hp} (Pv : Nat → St → Hp → Prop) (h0 : Pv 0 σ H) (hl : ∀ i σ H, i ≤ xs.length → Pv i σ H → SqL K H a xs)
    (hs : ∀ i x σ H, xs[i]? = some x → Pv i σ H → g x σ H fun σ2 H2 => tb { D with nx := Pv (i + 1), ct := Pv (i + 1), bk := D.nx } σ2 H2) (hd : ∀ σ H, Pv xs.length σ H → D.nx σ H) :
    ∃ W : Nat → Nat → St → Hp → Prop, (∃ m, W 0 m σ H) ∧ ∀ i m σ H, W i m σ H →
      ((Itl K a).stop i H ∧ D.nx σ H) ∨ ((Itl K a).go i H ∧ ∃ N : St → Hp → Prop, (∀ σ' H', N σ' H' → ∃ m', m' < m ∧ W (i + 1) m' σ' H') ∧ ∀ x H', (Itl K a).yld i H x H' → g x σ H' fun σ2 H2 => tb { D with nx := N, ct := N, bk := D.nx } σ2 H2) := by
  refine ⟨fun i m σ H => m = xs.length - i ∧ i ≤ xs.length ∧ Pv i σ H, ⟨xs.length, by simp, Nat.zero_le _, h0⟩, ?_⟩
  rintro i m σ H ⟨rfl, hi, p⟩
  have q := hl i σ H hi p
  by_cases hlt : i < xs.length
  · refine .inr ⟨⟨xs, xs[i], q, by simp [hlt]⟩, Pv (i + 1), fun σ' H' p' => ⟨xs.length - (i + 1), by omega, rfl, hlt, p'⟩, fun x H' y => ?_⟩
    obtain ⟨e, y⟩ := y
    subst e
    exact hs i x σ _ (y xs q) p
  · have e : i = xs.length := by omega
    subst e
    exact .inl ⟨⟨xs, q, Nat.le_refl _⟩, hd σ H p⟩
theorem for_tup {K : PySem.W.Frag} {a : Addr} {xs : List V} {g : TG} {tb : TS} {D : Ends} {σ : St} {H : Hp} (Pv : Nat → St → Hp → Prop) (h0 : Pv 0 σ H) (hl : ∀ i σ H, i ≤ xs.length → Pv i σ H → SqT K H a xs)
    (hs : ∀ i x σ H, xs[i]? = some x → Pv i σ H → g x σ H fun σ2 H2 => tb { D with nx := Pv (i + 1), ct := Pv (i + 1), bk := D.nx } σ2 H2) (hd : ∀ σ H, Pv xs.length σ H → D.nx σ H) :
    ∃ W : Nat → Nat → St → Hp → Prop, (∃ m, W 0 m σ H) ∧ ∀ i m σ H, W i m σ H →
      ((Itt K a).stop i H ∧ D.nx σ H) ∨ ((Itt K a).go i H ∧ ∃ N : St → Hp → Prop, (∀ σ' H', N σ' H' → ∃ m', m' < m ∧ W (i + 1) m' σ' H') ∧ ∀ x H', (Itt K a).yld i H x H' → g x σ H' fun σ2 H2 => tb { D with nx := N, ct := N, bk := D.nx } σ2 H2) := by
  refine ⟨fun i m σ H => m = xs.length - i ∧ i ≤ xs.length ∧ Pv i σ H, ⟨xs.length, by simp, Nat.zero_le _, h0⟩, ?_⟩
  rintro i m σ H ⟨rfl, hi, p⟩
  have q := hl i σ H hi p
  by_cases hlt : i < xs.length
  · refine .inr ⟨⟨xs, xs[i], q, by simp [hlt]⟩, Pv (i + 1), fun σ' H' p' => ⟨xs.length - (i + 1), by omega, rfl, hlt, p'⟩, fun x H' y => ?_⟩
    obtain ⟨e, y⟩ := y
    subst e
    exact hs i x σ _ (y xs q) p
  · have e : i = xs.length := by omega
    subst e
    exact .inl ⟨⟨xs, q, Nat.le_refl _⟩, hd σ H p⟩
theorem for_range {lo : Int} {n : Nat} {g : TG} {tb : TS} {D : Ends} {σ : St} {H : Hp} (Pv : Nat → St → Hp → Prop) (h0 : Pv 0 σ H)
    (hs : ∀ i σ H, i < n → Pv i σ H → g (.int (lo + i)) σ H fun σ2 H2 => tb { D with nx := Pv (i + 1), ct := Pv (i + 1), bk := D.nx } σ2 H2) (hd : ∀ σ H, Pv n σ H → D.nx σ H) :
    ∃ W : Nat → Nat → St → Hp → Prop, (∃ m, W 0 m σ H) ∧ ∀ i m σ H, W i m σ H →
      ((Itr lo n).stop i H ∧ D.nx σ H) ∨ ((Itr lo n).go i H ∧ ∃ N : St → Hp → Prop, (∀ σ' H', N σ' H' → ∃ m', m' < m ∧ W (i + 1) m' σ' H') ∧ ∀ x H', (Itr lo n).yld i H x H' → g x σ H' fun σ2 H2 => tb { D with nx := N, ct := N, bk := D.nx } σ2 H2) := by
  refine ⟨fun i m σ H => m = n - i ∧ i ≤ n ∧ Pv i σ H, ⟨n, by simp, Nat.zero_le _, h0⟩, ?_⟩
  rintro i m σ H ⟨rfl, hi, p⟩
  by_cases hlt : i < n
  · refine .inr ⟨hlt, Pv (i + 1), fun σ' H' p' => ⟨n - (i + 1), by omega, rfl, hlt, p'⟩, fun x H' y => ?_⟩
    obtain ⟨e, y⟩ := y
    subst e y
    exact hs i σ _ hlt p
  · have e : i = n := by omega
    subst e
    exact .inl ⟨Nat.le_refl _, hd σ H p⟩
end L2

namespace L2
open PySem PySem.Spec PyProof.Rows

abbrev R2 := V → V → Hp → VK → Prop
def OpR (X : Cx) (f : Value → Value → Sem Value) (r : R2) : Prop :=
  ∀ (pins : List (Addr × Obj)) (s : Shared) (σ : St) (H : Hp) (x y : V) (v u : Value) (Q : VK), Inv X pins σ H s → RelV x v → RelV y u → r x y H Q →
    wpAny (model X.prog X.w) X.A (f v u) (EP X pins σ Q) X.xe s
def UnR (X : Cx) (f : Value → Sem Value) (r : V → Hp → VK → Prop) : Prop :=
  ∀ (pins : List (Addr × Obj)) (s : Shared) (σ : St) (H : Hp) (x : V) (v : Value) (Q : VK), Inv X pins σ H s → RelV x v → r x H Q →
    wpAny (model X.prog X.w) X.A (f v) (EP X pins σ Q) X.xe s
def CallR (X : Cx) (f : Value) (r : List V → Hp → VK → Prop) : Prop :=
  ∀ (pins : List (Addr × Obj)) (s : Shared) (σ : St) (H : Hp) (xs : List V) (us : List Value) (Q : VK), Inv X pins σ H s → Vals xs us → r xs H Q →
    wpAny (model X.prog X.w) X.A (call f us) (EP X pins σ Q) X.xe s
def TruR (X : Cx) (r : V → Hp → (Bool → Hp → Prop) → Prop) : Prop :=
  ∀ (pins : List (Addr × Obj)) (s : Shared) (σ : St) (H : Hp) (x : V) (v : Value) (Q : Bool → Hp → Prop), Inv X pins σ H s → RelV x v → r x H Q →
    wpAny (model X.prog X.w) X.A (truthy v) (TP X pins σ Q) X.xe s

def tOp (r : R2) (ta tb : TE) : TE := fun σ H Q => ta σ H fun x H1 => tb σ H1 fun y H2 => r x y H2 Q
def tUn (r : V → Hp → VK → Prop) (ta : TE) : TE := fun σ H Q => ta σ H fun x H1 => r x H1 Q
def rI (C : Int → Int → Prop) (g : Int → Int → V) : R2 := fun x y H Q => ∃ i j, x = .int i ∧ y = .int j ∧ C i j ∧ Q (g i j) H
def rI0 (g : Int → Int → V) : R2 := fun x y H Q => ∃ i j, x = .int i ∧ y = .int j ∧ Q (g i j) H
def rU (g : Int → V) : V → Hp → VK → Prop := fun x H Q => ∃ i, x = .int i ∧ Q (g i) H

section
variable {X : Cx} {a b c : Expr} {ta tb tc : TE} {pos : Pos}

theorem binT (ha : PE X a ta) (hb : PE X b tb) {pins : List (Addr × Obj)} {s : Shared} {σ : St} {H : Hp} {R : V → V → Hp → Prop} (I : Inv X pins σ H s)
    (h : ta σ H fun x H1 => tb σ H1 fun y H2 => R x y H2) {Q : Value → Shared → Prop} {f : Value → Value → Sem Value}
    (hf : ∀ v u s2 x y H2, Inv X pins σ H2 s2 → RelV x v → RelV y u → R x y H2 → wpAny (model X.prog X.w) X.A (f v u) Q X.xe s2) :
    wpAny (model X.prog X.w) X.A (eval a X.env) (fun v s₁ => wpAny (model X.prog X.w) X.A (eval b X.env) (fun u s₂ => wpAny (model X.prog X.w) X.A (f v u) Q X.xe s₂) X.xe s₁) X.xe s := by
  refine thn (ha pins s σ H _ I h) fun v s1 ⟨x, H1, I1, r1, q1⟩ => ?_
  refine thn (hb pins s1 σ H1 _ I1 q1) fun u s2 ⟨y, H2, I2, r2, q2⟩ => ?_
  exact hf v u s2 x y H2 I2 r1 r2 q2

theorem pe_op {op : Operator} {r : R2} (ho : OpR X (binaryOp op) r) (ha : PE X a ta) (hb : PE X b tb) : PE X (.BinOp a op b pos) (tOp r ta tb) := by
  intro pins s σ H Q I h
  exact wpAny_BinOp (binT ha hb I h fun v u s2 x y H2 I2 rx ry q => ho pins s2 σ H2 x y v u Q I2 rx ry q)
theorem pe_un {op : UnaryOp} {r : V → Hp → VK → Prop} (ho : UnR X (unaryOp op) r) (ha : PE X a ta) : PE X (.UnaryOp op a pos) (tUn r ta) := by
  intro pins s σ H Q I h
  exact UnaryOp_ (thn (ha pins s σ H _ I h) fun v s1 ⟨x, H1, I1, r1, q1⟩ => ho pins s1 σ H1 x v Q I1 r1 q1)
theorem opI {f : Value → Value → Sem Value} {C : Int → Int → Prop} {g : Int → Int → Int}
    (rule : ∀ (i j : Int) (t u : Tok) (s : Shared) (Q : Value → Shared → Prop) (E : Value → Shared → Prop), C i j → Q (.int (g i j) s.toks) { s with toks := s.toks + 1 } → wpAny (model X.prog X.w) X.A (f (.int i t) (.int j u)) Q E s) :
    OpR X f (rI C fun i j => .int (g i j)) := by
  intro pins s σ H x y v u Q I rx ry h
  obtain ⟨i, j, rfl, rfl, hc, q⟩ := h
  obtain ⟨t, rfl⟩ := rx
  obtain ⟨t', rfl⟩ := ry
  exact rule i j t t' s _ _ hc ⟨.int (g i j), H, I.tok _, ⟨_, rfl⟩, q⟩
theorem opI0 {f : Value → Value → Sem Value} {g : Int → Int → Int}
    (rule : ∀ (i j : Int) (t u : Tok) (s : Shared) (Q : Value → Shared → Prop) (E : Value → Shared → Prop), Q (.int (g i j) s.toks) { s with toks := s.toks + 1 } → wpAny (model X.prog X.w) X.A (f (.int i t) (.int j u)) Q E s) :
    OpR X f (rI0 fun i j => .int (g i j)) := by
  intro pins s σ H x y v u Q I rx ry h
  obtain ⟨i, j, rfl, rfl, q⟩ := h
  obtain ⟨t, rfl⟩ := rx
  obtain ⟨t', rfl⟩ := ry
  exact rule i j t t' s _ _ ⟨.int (g i j), H, I.tok _, ⟨_, rfl⟩, q⟩
theorem opB0 {f : Value → Value → Sem Value} {g : Int → Int → Bool}
    (rule : ∀ (i j : Int) (t u : Tok) (s : Shared) (Q : Value → Shared → Prop) (E : Value → Shared → Prop), Q (.bool (g i j)) s → wpAny (model X.prog X.w) X.A (f (.int i t) (.int j u)) Q E s) :
    OpR X f (rI0 fun i j => .bl (g i j)) := by
  intro pins s σ H x y v u Q I rx ry h
  obtain ⟨i, j, rfl, rfl, q⟩ := h
  obtain ⟨t, rfl⟩ := rx
  obtain ⟨t', rfl⟩ := ry
  exact rule i j t t' s _ _ ⟨.bl (g i j), H, I, rfl, q⟩

def CDiv (i j : Int) : Prop := 0 < j ∧ j < 1073741824
def CPow (i j : Int) : Prop := 0 ≤ j ∧ j ≤ 1000000 ∧ i.natAbs < 2 ^ 64
def CMul (i j : Int) : Prop := (-(2 ^ 64) < i ∧ i < 2 ^ 64) ∨ (-(2 ^ 64) < j ∧ j < 2 ^ 64)
theorem CMul.ok {i j : Int} (h : CMul i j) : IntMulOk i j := by
  rcases h with ⟨h1, h2⟩ | ⟨h1, h2⟩
  · exact .of_left (intBits_le_64 h1 h2)
  · exact .of_right (intBits_le_64 h1 h2)
theorem op_add : OpR X (binaryOp .Add) (rI0 fun i j => .int (i + j)) := opI0 fun _ _ _ _ _ _ _ q => add_int q
theorem op_sub : OpR X (binaryOp .Sub) (rI0 fun i j => .int (i - j)) := opI0 fun _ _ _ _ _ _ _ q => sub_int q
theorem op_mul : OpR X (binaryOp .Mult) (rI CMul fun i j => .int (i * j)) := opI fun _ _ _ _ _ _ _ hc q => mul_int q hc.ok
theorem op_fdiv : OpR X (binaryOp .FloorDiv) (rI CDiv fun i j => .int (i / j)) := opI fun i j _ _ _ _ _ hc q => by
  have h1 : (0 : Int) < j := hc.1
  have h2 : j < 1073741824 := hc.2
  exact floordiv_int (by omega) (by rw [Int.fdiv_eq_ediv_of_nonneg i (by omega)]; exact q) (.inl (PyProof.noPylong_small (by omega)))
theorem op_mod : OpR X (binaryOp .Mod) (rI (fun _ j => 0 < j) fun i j => .int (i % j)) := opI fun i j _ _ _ _ _ hc q => by
  have h1 : (0 : Int) < j := hc
  exact mod_int' (by omega) (by rw [Int.fmod_eq_emod_of_nonneg i (by omega)]; exact q)
theorem op_pow : OpR X (binaryOp .Pow) (rI CPow fun i j => .int (i ^ j.toNat)) := opI fun _ _ _ _ _ _ _ hc q => pow_int_small hc.1 hc.2.1 hc.2.2 q
theorem op_shl : OpR X (binaryOp .LShift) (rI CPow fun i j => .int (i * 2 ^ j.toNat)) := opI fun _ _ _ _ _ _ _ hc q => lshift_int_small hc.1 hc.2.1 hc.2.2 q
theorem op_and : OpR X (binaryOp .BitAnd) (rI0 fun i j => .int (Builtin.bitAnd i j)) := opI0 fun _ _ _ _ _ _ _ q => and_int q
theorem op_or : OpR X (binaryOp .BitOr) (rI0 fun i j => .int (Builtin.bitOr i j)) := opI0 fun _ _ _ _ _ _ _ q => or_int q
theorem unI {f : Value → Sem Value} {g : Int → Int}
    (rule : ∀ (i : Int) (t : Tok) (s : Shared) (Q : Value → Shared → Prop) (E : Value → Shared → Prop), Q (.int (g i) s.toks) { s with toks := s.toks + 1 } → wpAny (model X.prog X.w) X.A (f (.int i t)) Q E s) :
    UnR X f (rU fun i => .int (g i)) := by
  intro pins s σ H x v Q I rx h
  obtain ⟨i, rfl, q⟩ := h
  obtain ⟨t, rfl⟩ := rx
  exact rule i t s _ _ ⟨.int (g i), H, I.tok _, ⟨_, rfl⟩, q⟩
theorem un_neg : UnR X (unaryOp .USub) (rU fun i => .int (-i)) := unI fun _ _ _ _ _ q => neg_int q
end

def scal : V → V → Bool
  | .non, .non => true | .non, .int _ => true | .int _, .non => true | .non, .bl _ => true | .bl _, .non => true | .non, .str _ => true | .str _, .non => true
  | .int _, .int _ => true | .bl _, .bl _ => true | .str _, .str _ => true | .byt _, .byt _ => true
  | .int _, .str _ => true | .str _, .int _ => true | .bl _, .str _ => true | .str _, .bl _ => true
  | _, _ => false
def rEq : R2 := fun x y H Q => scal x y = true ∧ Q (.bl (decide (x = y))) H
def rNe : R2 := fun x y H Q => scal x y = true ∧ Q (.bl (!decide (x = y))) H

theorem dec_int {i j : Int} : decide (V.int i = V.int j) = (i == j) := by
  rw [Bool.eq_iff_iff]
  simp
theorem dec_bl {i j : Bool} : decide (V.bl i = V.bl j) = (i == j) := by
  rw [Bool.eq_iff_iff]
  simp
theorem dec_str {i j : Str} : decide (V.str i = V.str j) = (i == j) := by
  rw [Bool.eq_iff_iff]
  simp
theorem dec_byt {i j : Array UInt8} : decide (V.byt i = V.byt j) = (i.toList == j.toList) := by
  rw [Bool.eq_iff_iff]
  cases i
  cases j
  simp

section
variable {X : Cx} {a b c : Expr} {ta tb tc : TE} {pos : Pos}
theorem fin_bl {pins : List (Addr × Obj)} {σ : St} {H : Hp} {s : Shared} {Q : VK} {k k' : Bool} (I : Inv X pins σ H s) (q : Q (.bl k) H) (e : k = k') : EP X pins σ Q (.bool k') s := by
  subst e
  exact ⟨.bl k, H, I, rfl, q⟩
theorem op_eq : OpR X (compareOp .Eq) rEq := by
  intro pins s σ H x y v u Q I rx ry h
  obtain ⟨hs, q⟩ := h
  cases x with
  | non =>
    cases rx
    cases y with
    | non => cases ry; exact PySem.EqNone.eq_none_none (fin_bl I q (by simp))
    | bl j => cases ry; exact PySem.EqNone.eq_none_bool (fin_bl I q (by simp))
    | int j => obtain ⟨t', rfl⟩ := ry; exact PySem.EqNone.eq_none_int (fin_bl I q (by simp))
    | str j => obtain ⟨t', rfl⟩ := ry; exact PySem.EqNone.eq_none_str (fin_bl I q (by simp))
    | _ => exact absurd (show false = true from hs) Bool.false_ne_true
  | bl i =>
    cases rx
    cases y with
    | non => cases ry; exact PySem.EqNone.eq_bool_none (fin_bl I q (by simp))
    | bl j => cases ry; exact eq_bool (fin_bl I q dec_bl)
    | str j => obtain ⟨t', rfl⟩ := ry; exact PySem.EqMixed.eq_bool_str (fin_bl I q (by simp))
    | _ => exact absurd (show false = true from hs) Bool.false_ne_true
  | int i =>
    obtain ⟨t, rfl⟩ := rx
    cases y with
    | non => cases ry; exact PySem.EqNone.eq_int_none (fin_bl I q (by simp))
    | int j => obtain ⟨t', rfl⟩ := ry; exact eq_int (fin_bl I q dec_int)
    | str j => obtain ⟨t', rfl⟩ := ry; exact PySem.EqMixed.eq_int_str (fin_bl I q (by simp))
    | _ => exact absurd (show false = true from hs) Bool.false_ne_true
  | str i =>
    obtain ⟨t, rfl⟩ := rx
    cases y with
    | non => cases ry; exact PySem.EqNone.eq_str_none (fin_bl I q (by simp))
    | bl j => cases ry; exact PySem.EqMixed.eq_str_bool (fin_bl I q (by simp))
    | int j => obtain ⟨t', rfl⟩ := ry; exact PySem.EqMixed.eq_str_int (fin_bl I q (by simp))
    | str j => obtain ⟨t', rfl⟩ := ry; exact eq_str (fin_bl I q dec_str)
    | _ => exact absurd (show false = true from hs) Bool.false_ne_true
  | byt i =>
    obtain ⟨t, rfl⟩ := rx
    cases y with
    | byt j => obtain ⟨t', rfl⟩ := ry; exact PySem.W.eq_bytes (fin_bl I q dec_byt)
    | _ => exact absurd (show false = true from hs) Bool.false_ne_true
  | _ => cases y <;> exact absurd (show false = true from hs) Bool.false_ne_true
theorem op_ne : OpR X (compareOp .NotEq) rNe := by
  intro pins s σ H x y v u Q I rx ry h
  obtain ⟨hs, q⟩ := h
  cases x with
  | non =>
    cases rx
    cases y with
    | non => cases ry; exact PySem.EqNone.ne_none_none (fin_bl I q (by simp))
    | bl j => cases ry; exact PySem.EqNone.ne_none_bool (fin_bl I q (by simp))
    | int j => obtain ⟨t', rfl⟩ := ry; exact PySem.EqNone.ne_none_int (fin_bl I q (by simp))
    | str j => obtain ⟨t', rfl⟩ := ry; exact PySem.EqNone.ne_none_str (fin_bl I q (by simp))
    | _ => exact absurd (show false = true from hs) Bool.false_ne_true
  | bl i =>
    cases rx
    cases y with
    | non => cases ry; exact PySem.EqNone.ne_bool_none (fin_bl I q (by simp))
    | bl j => cases ry; exact ne_bool (fin_bl I q (congrArg not dec_bl))
    | str j => obtain ⟨t', rfl⟩ := ry; exact PySem.EqMixed.ne_bool_str (fin_bl I q (by simp))
    | _ => exact absurd (show false = true from hs) Bool.false_ne_true
  | int i =>
    obtain ⟨t, rfl⟩ := rx
    cases y with
    | non => cases ry; exact PySem.EqNone.ne_int_none (fin_bl I q (by simp))
    | int j => obtain ⟨t', rfl⟩ := ry; exact ne_int (fin_bl I q (congrArg not dec_int))
    | str j => obtain ⟨t', rfl⟩ := ry; exact PySem.EqMixed.ne_int_str (fin_bl I q (by simp))
    | _ => exact absurd (show false = true from hs) Bool.false_ne_true
  | str i =>
    obtain ⟨t, rfl⟩ := rx
    cases y with
    | non => cases ry; exact PySem.EqNone.ne_str_none (fin_bl I q (by simp))
    | bl j => cases ry; exact PySem.EqMixed.ne_str_bool (fin_bl I q (by simp))
    | int j => obtain ⟨t', rfl⟩ := ry; exact PySem.EqMixed.ne_str_int (fin_bl I q (by simp))
    | str j => obtain ⟨t', rfl⟩ := ry; exact ne_str (fin_bl I q (congrArg not dec_str))
    | _ => exact absurd (show false = true from hs) Bool.false_ne_true
  | byt i =>
    obtain ⟨t, rfl⟩ := rx
    cases y with
    | byt j => obtain ⟨t', rfl⟩ := ry; exact PySem.W.ne_bytes (fin_bl I q (congrArg not dec_byt))
    | _ => exact absurd (show false = true from hs) Bool.false_ne_true
  | _ => cases y <;> exact absurd (show false = true from hs) Bool.false_ne_true

theorem op_lt : OpR X (compareOp .Lt) (rI0 fun i j => .bl (decide (i < j))) := opB0 fun _ _ _ _ _ _ _ q => lt_int q
theorem op_le : OpR X (compareOp .LtE) (rI0 fun i j => .bl (decide (i ≤ j))) := opB0 fun _ _ _ _ _ _ _ q => le_int q
theorem op_gt : OpR X (compareOp .Gt) (rI0 fun i j => .bl (decide (j < i))) := opB0 fun _ _ _ _ _ _ _ q => gt_int q
theorem op_ge : OpR X (compareOp .GtE) (rI0 fun i j => .bl (decide (j ≤ i))) := opB0 fun _ _ _ _ _ _ _ q => ge_int q
theorem OpR.or {f : Value → Value → Sem Value} {r r' : R2} (h : OpR X f r) (h' : OpR X f r') : OpR X f (fun x y H Q => r x y H Q ∨ r' x y H Q) := by
  intro pins s σ H x y v u Q I rx ry q
  rcases q with q | q
  · exact h pins s σ H x y v u Q I rx ry q
  · exact h' pins s σ H x y v u Q I rx ry q

theorem nomark (b : Expr) {op : CmpOp} (h : op ≠ .In := by decide) (h2 : op ≠ .NotIn := by decide) : behindInMarks op b = false := by
  have e1 : (op == CmpOp.In) = false := by cases op <;> first | rfl | exact absurd rfl h
  have e2 : (op == CmpOp.NotIn) = false := by cases op <;> first | rfl | exact absurd rfl h2
  cases b <;> simp [behindInMarks, e1, e2]
theorem pe_cmpR {op : CmpOp} {r : R2} (ho : OpR X (compareOp op) r) (ha : PE X a ta) (hb : PE X b tb) (hm : behindInMarks op b = false) : PE X (.Compare a [op] [b] pos) (tOp r ta tb) := by
  intro pins s σ H Q I h
  exact wpAny_Compare1 (binT ha hb I h fun v u s2 x y H2 I2 rx ry q => ho pins s2 σ H2 x y v u Q I2 rx ry q) hm
def tTest (t : TE) : TT := fun σ H Q => t σ H fun x H' => ∃ k, x = .bl k ∧ Q k H'
theorem pt_cmpR {op : CmpOp} {r : R2} (ho : OpR X (compareOp op) r) (ha : PE X a ta) (hb : PE X b tb) (hm : behindInMarks op b = false) : PT X (.Compare a [op] [b] pos) (tTest (tOp r ta tb)) := by
  intro pins s σ H Q I h
  refine wpAny_isTrue_Compare1 (thn (ha pins s σ H _ I h) fun v s1 ⟨x, H1, I1, r1, q1⟩ => thn (hb pins s1 σ H1 _ I1 q1) fun u s2 ⟨y, H2, I2, r2, q2⟩ =>
    thn (ho pins s2 σ H2 x y v u _ I2 r1 r2 q2) fun c s3 ⟨z, H3, I3, r3, k, e, q3⟩ => ?_) hm
  subst e
  cases r3
  exact wpAny_truthy_bool ⟨H3, I3, q3⟩
def tChain (r r' : R2) (ta tb tc : TE) : TE := fun σ H Q => ta σ H fun x H1 => tb σ H1 fun y H2 => r x y H2 fun z H3 => ∃ k, z = .bl k ∧
  (if k = true then tc σ H3 fun w' H4 => r' y w' H4 Q else Q (.bl false) H3)
theorem pe_chain {op op' : CmpOp} {r r' : R2} (ho : OpR X (compareOp op) r) (ho' : OpR X (compareOp op') r') (ha : PE X a ta) (hb : PE X b tb) (hc : PE X c tc)
    (hm : lastMarks [op, op'] [b, c] = false := by with_unfolding_all rfl) : PE X (.Compare a [op, op'] [b, c] pos) (tChain r r' ta tb tc) := by
  intro pins s σ H Q I h
  refine Compare_chain (thn (ha pins s σ H _ I h) fun v s1 ⟨x, H1, I1, r1, q1⟩ => chain_link (thn (hb pins s1 σ H1 _ I1 q1) fun u s2 ⟨y, H2, I2, r2, q2⟩ =>
    thn (ho pins s2 σ H2 x y v u _ I2 r1 r2 q2) fun d s3 ⟨z, H3, I3, r3, k, e, q3⟩ => ?_)) hm
  subst e
  cases r3
  refine wpAny_truthy_bool ?_
  cases k with
  | false => exact ite_ff ⟨.bl false, H3, I3, rfl, q3⟩
  | true => exact ite_tt (chain_last (thn (hc pins s3 σ H3 _ I3 q3) fun w' s4 ⟨z', H4, I4, r4, q4⟩ => ho' pins s4 σ H4 y z' u w' Q I4 r2 r4 q4))
theorem pt_chain {op op' : CmpOp} {r r' : R2} (ho : OpR X (compareOp op) r) (ho' : OpR X (compareOp op') r') (ha : PE X a ta) (hb : PE X b tb) (hc : PE X c tc)
    (hm : lastMarks [op, op'] [b, c] = false := by with_unfolding_all rfl) : PT X (.Compare a [op, op'] [b, c] pos) (tTest (tChain r r' ta tb tc)) := by
  intro pins s σ H Q I h
  refine isTrue_chain (thn (ha pins s σ H _ I h) fun v s1 ⟨x, H1, I1, r1, q1⟩ => test_link (thn (hb pins s1 σ H1 _ I1 q1) fun u s2 ⟨y, H2, I2, r2, q2⟩ =>
    thn (ho pins s2 σ H2 x y v u _ I2 r1 r2 q2) fun d s3 ⟨z, H3, I3, r3, k, e, q3⟩ => ?_)) hm
  subst e
  cases r3
  refine wpAny_truthy_bool ?_
  cases k with
  | false =>
    obtain ⟨k', e', q'⟩ := q3
    cases e'
    exact ite_ff ⟨H3, I3, q'⟩
  | true =>
    refine ite_tt (test_last (thn (hc pins s3 σ H3 _ I3 q3) fun w' s4 ⟨z', H4, I4, r4, q4⟩ => thn (ho' pins s4 σ H4 y z' u w' _ I4 r2 r4 q4) fun d' s5 ⟨z2, H5, I5, r5, k2, e2, q5⟩ => ?_))
    subst e2
    cases r5
    exact wpAny_truthy_bool ⟨H5, I5, q5⟩

def TruV (K : PySem.W.Frag) (x : V) (H : Hp) (k : Bool) : Prop :=
  match x with
  | .non => k = false
  | .bl b => k = b
  | .int i => k = (i != 0)
  | .str y => y.length ≤ sizeLine ∧ k = ((y.length : Int) != 0)
  | .byt y => y.size ≤ sizeLine ∧ k = ((y.size : Int) != 0)
  | .ref p => (∃ xs, SqL K H p xs ∧ k = !xs.isEmpty) ∨ (∃ xs, SqT K H p xs ∧ k = !xs.isEmpty) ∨ ∃ kvs, H p = some (.dK kvs) ∧ k = !kvs.isEmpty
  | _ => False
theorem isEmpty_kv {κ : Type} {kvs : List (κ × V)} {vs : List (κ × Value)} (r : KV kvs vs) : (!vs.isEmpty) = !kvs.isEmpty := by
  cases r <;> rfl
theorem isEmpty_of {xs : List V} {its : List Value} (r : Vals xs its) : (!its.toArray.isEmpty) = !xs.isEmpty := by
  cases r <;> simp
theorem line63 : (sizeLine : Nat) < 2 ^ 63 := by rw [sizeLine_eq]; decide
theorem tru_ok : TruR X (fun x H Q => ∃ k, TruV X.K x H k ∧ Q k H) := by
  intro pins s σ H x v Q I rx h
  obtain ⟨k, e, q⟩ := h
  have hl := line63
  have hs : sizeLine = 16777216 := sizeLine_eq
  cases x with
  | non =>
    cases rx
    have e' : k = false := e
    subst e'
    exact truthy_none ⟨H, I, q⟩
  | bl b =>
    cases rx
    have e' : k = b := e
    subst e'
    exact wpAny_truthy_bool ⟨H, I, q⟩
  | int i =>
    obtain ⟨t, rfl⟩ := rx
    have e' : k = (i != 0) := e
    subst e'
    exact PySem.P.truthy_int ⟨H, I, q⟩
  | str y =>
    obtain ⟨t, rfl⟩ := rx
    obtain ⟨hy, e'⟩ : y.length ≤ sizeLine ∧ k = ((y.length : Int) != 0) := e
    subst e'
    exact PySem.P.truthy_str (by omega) ⟨H, I.tok _, q⟩
  | byt y =>
    obtain ⟨t, rfl⟩ := rx
    obtain ⟨hy, e'⟩ : y.size ≤ sizeLine ∧ k = ((y.size : Int) != 0) := e
    subst e'
    exact PySem.W.truthy_bytes (by omega) ⟨H, I.tok _, q⟩
  | ref p =>
    cases rx
    have e' : (∃ xs, SqL X.K H p xs ∧ k = !xs.isEmpty) ∨ (∃ xs, SqT X.K H p xs ∧ k = !xs.isEmpty) ∨ ∃ kvs, H p = some (.dK kvs) ∧ k = !kvs.isEmpty := e
    rcases e' with ⟨xs, hx, e'⟩ | ⟨xs, hx, e'⟩ | ⟨kvs, hx, e'⟩
    · subst e'
      obtain ⟨its, r, pl, hz⟩ := I.list hx
      have hlen := r.length
      exact wpAny_truthy_list pl.isList (by simp only [List.size_toArray]; omega) ⟨H, I.tok _, by rw [isEmpty_of r]; exact q⟩
    · subst e'
      obtain ⟨its, r, pl, hz⟩ := I.tuple hx
      have hlen := r.length
      exact truthy_tuple pl (by simp only [List.size_toArray]; omega) ⟨H, I.tok _, by rw [isEmpty_of r]; exact q⟩
    · subst e'
      obtain ⟨hz, hS, vs, r, m⟩ : kvs.length ≤ sizeLine ∧ (p == sysModules) = false ∧ ∃ vs, KV kvs vs ∧ s.heap.DictOf (mixKind X.prog X.w) p vs := I.hok p _ hx
      have hlen : kvs.length = vs.length := Paired.length r
      exact wpAny_truthy_dict hS m (by omega) ⟨H, I.tok _, by rw [isEmpty_kv r]; exact q⟩
  | _ => exact (show False from e).elim
theorem op_add_str : OpR X (binaryOp .Add) (fun x y H Q => ∃ i j, x = .str i ∧ y = .str j ∧ i.length + j.length ≤ sizeLine ∧ Q (.str (i ++ j)) H) := by
  intro pins s σ H x y v u Q I rx ry h
  obtain ⟨i, j, rfl, rfl, hz, q⟩ := h
  obtain ⟨t, rfl⟩ := rx
  obtain ⟨t', rfl⟩ := ry
  exact add_str (fun t' tk => ⟨.str (i ++ j), H, I.tok _, ⟨_, rfl⟩, q⟩) hz
theorem vals1 {x : V} {us : List Value} (r : Vals [x] us) : ∃ u, us = [u] ∧ RelV x u := by
  cases r with
  | cons r1 r2 => cases r2; exact ⟨_, rfl, r1⟩
theorem vals2 {x y : V} {us : List Value} (r : Vals [x, y] us) : ∃ u w', us = [u, w'] ∧ RelV x u ∧ RelV y w' := by
  cases r with
  | cons r1 r2 =>
    cases r2 with
    | cons r3 r4 => cases r4; exact ⟨_, _, rfl, r1, r3⟩
end
end L2

namespace L2
open PySem PySem.Spec PyProof.Rows

structure ObjM (h : Heap) (x dx C : Addr) (mA : Str → Option Value) : Prop where
  obj : h.get? x = some (PySem.W.instObj C dx)
  ns : h.Ns1 dx mA
  ne : dx ≠ x

theorem lookIn_ns {h : Heap} {dx : Addr} {mA : Str → Option Value} (n : h.Ns1 dx mA) : ∃ od, h.get? dx = some od ∧ ∀ name, PySem.W.lookIn name od = some (mA name) := by
  obtain ⟨o, es, ep, ho, hd, hk, _, hm⟩ := n
  refine ⟨o, ho, fun name => ?_⟩
  have e := hm name
  unfold nsFind findBy at e
  rw [← Array.find?_toList] at e
  unfold PySem.W.lookIn
  rw [hd]
  dsimp only
  split
  · rename_i y q
    rw [q] at e
    exact congrArg some e
  · rename_i q
    rw [q] at e
    have a : es.toList.any (·.refKey) = false := by
      rw [List.any_eq_false]
      intro y hy
      obtain ⟨z, t, hkey⟩ := hk y (Array.mem_toList_iff.mp hy)
      simp [DictEntry.refKey, hkey]
    have a' : ¬ es.toList.any (·.refKey) = true := by rw [a]; exact Bool.false_ne_true
    rw [if_neg a']
    exact congrArg some e

theorem ObjM.look {h : Heap} {x dx C : Addr} {mA : Str → Option Value} (I : ObjM h x dx C mA) : ∃ od, PySem.W.InstAt h x (PySem.W.instObj C dx) C (some od) ∧ ∀ name, PySem.W.lookIn name od = some (mA name) :=
  let ⟨od, ho, hl⟩ := lookIn_ns I.ns
  ⟨od, ⟨I.obj, rfl, rfl, ho⟩, hl⟩

section
variable {prog : Program} {w : World} {A : Around} {E : Value → Shared → Prop} {s : Shared} {K : PySem.W.Frag} {x dx C f : Addr} {mA : Str → Option Value} {name : Str} {v : Value}

theorem get_map {expr : Bool} {Q : Value → Shared → Prop} (X : K.In s.heap) (I : ObjM s.heap x dx C mA) (hg : PySem.W.plainGet K C name = true) (hh : PySem.W.hasDictIn K C = true)
    (ha : PySem.W.findIn K (.ref C) name = some none) (hv : mA name = some v) (hv' : PySem.W.handedIn v = true) (h : Q v { s with toks := s.toks + 1 }) :
    wpAny (model prog w) A (getAttr (.ref x) name expr) Q E s := by
  obtain ⟨od, J, hl⟩ := I.look
  exact PySem.W.get_value X J (PySem.W.plainGet_of hg).1 (PySem.W.findObj_own hh ha rfl (by rw [hl, hv])) hv' h

theorem get_meth {pl : Sem Bool} {Q : Value × List Value → Shared → Prop} (X : K.In s.heap) (I : ObjM s.heap x dx C mA) (hg : PySem.W.plainGet K C name = true)
    (hf : PySem.W.findIn K (.ref C) name = some (some (.ref f))) (ht : PySem.W.isFn K (.ref f) = true) (hv : mA name = none) (h : Q (.ref f, [.ref x]) s) :
    wpAny (model prog w) A (getMethod (.ref x) name pl) Q E s := by
  obtain ⟨od, J, hl⟩ := I.look
  exact PySem.W.method_fn X J (PySem.W.plainGet_of hg).1 (PySem.W.plainGet_of hg).2 hf (beq_iff_eq.mp ht) (by show (PySem.W.lookIn name od).map (·.isSome) = some false; rw [hl, hv]; rfl) h

theorem set_map {ns : List Str} {Q : Unit → Shared → Prop} (X : K.In s.heap) (I : ObjM s.heap x dx C mA)
    (hs : PySem.W.findIn K (.ref C) "__setattr__" = some (some (.builtin "object.__setattr__"))) (hp : PySem.W.plainOver K C = true) (ht : PySem.W.takerIn K C name = some none) (hh : PySem.W.hasDictIn K C = true)
    (hw : PySem.Within mA ns) (hsz : ns.length ≤ sizeLine)
    (h : ∀ h', ObjM h' x dx C (fun y => if y = name then some v else mA y) → Heap.SameBut dx s.heap h' → Q () { s with heap := h', toks := s.toks + 2 }) :
    wpAny (model prog w) A (setAttr (.ref x) name v) Q E s := by
  obtain ⟨od, J, hl⟩ := I.look
  refine PySem.W.set_plain X J hs (PySem.W.osa_open (s := { s with toks := s.toks + 1 }) (r := none) X J hp ht fun b => ?_)
  obtain ⟨cd, hc, hd'⟩ := PySem.W.any_some hh
  have hx : s.heap.get? x = some ⟨.ref C, some dx, .plain, #[]⟩ := I.obj
  refine wpAny_bind (wpAny_pure (wpAny_bind (wpAny_bind (wpAny_loadPart hx (wpAny_bind (PySem.W.Looks.here (s := { s with toks := s.toks + 1 }) (PySem.W.looks_clsIn X hc) ?_))))))
  rw [hd']
  refine wpAny_pure (a := some dx) (wpAny_bind (wpAny_pure (wpAny_bind ?_)))
  refine wpAny_nsSet1 (s := { s with toks := s.toks + 1 }) I.ns fun h' hn2 hs2 => ?_
  obtain ⟨oD, esD, epD, hoD, hdD, hcD⟩ := hn2.count (PySem.Within.cons name v hw)
  refine wpAny_bind (wpAny_lookBehind hoD (by rw [hdD]; exact pastItsLine_dict (Nat.le_trans hcD (by rw [List.length_cons]; omega))) ?_)
  exact wpAny_pure (h _ ⟨(hs2.2 _ (Ne.symm I.ne)).trans I.obj, hn2, I.ne⟩ hs2)

theorem make_map {R : Result → Shared → Prop} {vs : List Value} {kw : List (Str × Value)} (X : K.In s.heap) (hm : PySem.W.makesIn K C = true)
    (hi : PySem.W.findIn K (.ref C) "__init__" = some (some (.ref f))) (hf : PySem.W.typeIn K (.ref f) = some (.type "function"))
    (h : codeAny (model prog w) (A.under (.builtin "type.__call__" ⟨.ref C :: vs, kw⟩)) (.call (.ref f) ⟨.ref (s.heap.objs.size + 1) :: vs, kw⟩) (PySem.W.InitBack (s.heap.objs.size + 1) R)
      { s with heap := (s.heap.push PySem.W.emptyDict).push (PySem.W.instObj C s.heap.objs.size) }) :
    codeAny (model prog w) A (.call (.ref C) ⟨vs, kw⟩) R s := by
  obtain ⟨hh, g, d, t, os⟩ := s
  exact PySem.W.make_core (PySem.W.makes_of X hm) (PySem.W.looks_findIn X hi) (fun self => PySem.W.bind_fn X self hf) (.inl rfl) h
theorem make_map0 {R : Result → Shared → Prop} (X : K.In s.heap) (hm : PySem.W.makesIn K C = true)
    (hi : PySem.W.findIn K (.ref C) "__init__" = some (some (.builtin "object.__init__")))
    (hb : ∀ self, PySem.W.Looks (model prog w) s.heap (bindSpecial (.builtin "object.__init__") self) (.builtin "object.__init__", [self]))
    (h : codeAny (model prog w) (A.under (.builtin "type.__call__" ⟨[.ref C], []⟩)) (.call (.builtin "object.__init__") ⟨[.ref (s.heap.objs.size + 1)], []⟩) (PySem.W.InitBack (s.heap.objs.size + 1) R)
      { s with heap := (s.heap.push PySem.W.emptyDict).push (PySem.W.instObj C s.heap.objs.size) }) :
    codeAny (model prog w) A (.call (.ref C) ⟨[], []⟩) R s := by
  obtain ⟨hh, g, d, t, os⟩ := s
  exact PySem.W.make_core (PySem.W.makes_of X hm) (PySem.W.looks_findIn X hi) hb (.inr ⟨rfl, rfl⟩) h
end

def putF (f : Str) (v : V) : List (Str × V) → List (Str × V)
  | [] => [(f, v)]
  | (g, x) :: r => if g = f then (g, v) :: r else (g, x) :: putF f v r
theorem lookup_putF (f g : Str) (v : V) : ∀ fs : List (Str × V), (putF f v fs).lookup g = if g = f then some v else fs.lookup g
  | [] => by
    show List.lookup g [(f, v)] = _
    by_cases h : g = f
    · have hb : (g == f) = true := beq_iff_eq.mpr h
      simp only [List.lookup, hb, if_pos h]
    · have hb : (g == f) = false := beq_eq_false_iff_ne.mpr h
      simp only [List.lookup, hb, if_neg h]
  | (k, x) :: r => by
    have ih := lookup_putF f g v r
    rw [show putF f v ((k, x) :: r) = (if k = f then (k, v) :: r else (k, x) :: putF f v r) from rfl]
    by_cases hk : k = f
    · rw [if_pos hk]
      by_cases h : g = k
      · have hb : (g == k) = true := beq_iff_eq.mpr h
        simp only [List.lookup, hb, if_pos (h.trans hk)]
      · have hb : (g == k) = false := beq_eq_false_iff_ne.mpr h
        simp only [List.lookup, hb, if_neg (fun e : g = f => h (e.trans hk.symm))]
    · rw [if_neg hk]
      by_cases h : g = k
      · have hb : (g == k) = true := beq_iff_eq.mpr h
        simp only [List.lookup, hb, if_neg (fun e : g = f => hk (h.symm.trans e))]
      · have hb : (g == k) = false := beq_eq_false_iff_ne.mpr h
        simp only [List.lookup, hb]
        exact ih
theorem keys_putF (f : Str) (v : V) : ∀ fs : List (Str × V), f ∈ (putF f v fs).map (·.1) ∧ ∀ g, g ∈ fs.map (·.1) → g ∈ (putF f v fs).map (·.1)
  | [] => ⟨by simp [putF], fun g h => by simp at h⟩
  | (k, x) :: r => by
    obtain ⟨i1, i2⟩ := keys_putF f v r
    rw [show putF f v ((k, x) :: r) = (if k = f then (k, v) :: r else (k, x) :: putF f v r) from rfl]
    by_cases hk : k = f
    · rw [if_pos hk]
      subst hk
      exact ⟨by simp, fun g h => by simpa using h⟩
    · rw [if_neg hk]
      refine ⟨?_, fun g h => ?_⟩
      · rw [List.map_cons]
        exact List.mem_cons_of_mem _ i1
      · rw [List.map_cons] at h ⊢
        rcases List.mem_cons.mp h with e | e
        · exact List.mem_cons.mpr (.inl e)
        · exact List.mem_cons_of_mem _ (i2 g e)
theorem length_putF (f : Str) (v : V) : ∀ fs : List (Str × V), (putF f v fs).length ≤ fs.length + 1
  | [] => by simp [putF]
  | (k, x) :: r => by
    have ih := length_putF f v r
    rw [show putF f v ((k, x) :: r) = (if k = f then (k, v) :: r else (k, x) :: putF f v r) from rfl]
    by_cases hk : k = f
    · rw [if_pos hk, List.length_cons, List.length_cons]; omega
    · rw [if_neg hk, List.length_cons, List.length_cons]; omega

theorem RelO.some_of {v : V} {o : Option Value} (r : RelO (some v) o) : ∃ u, o = some u ∧ RelV v u := by
  cases o with
  | none => exact (show False from r).elim
  | some u => exact ⟨u, rfl, r⟩
theorem RelO.none_of {o : Option Value} (r : RelO none o) : o = none := by
  cases o with
  | none => rfl
  | some u => exact (show False from r).elim
theorem handed_of {v : V} {u : Value} (r : RelV v u) : PySem.W.handedIn u = true := by
  cases v with
  | non => cases (show u = Value.none from r); rfl
  | bl b => cases (show u = Value.bool b from r); rfl
  | int i => obtain ⟨t, e⟩ := (show ∃ t, u = Value.int i t from r); cases e; rfl
  | str x => obtain ⟨t, e⟩ := (show ∃ t, u = Value.str x t from r); cases e; rfl
  | byt b => obtain ⟨t, e⟩ := (show ∃ t, u = Value.bytes b t from r); cases e; rfl
  | flt b => obtain ⟨t, e⟩ := (show ∃ t, u = Value.float b t from r); cases e; rfl
  | ref a => cases (show u = Value.ref a from r); rfl
  | ty n => cases (show u = Value.type n from r); rfl

section
variable {P : Program} {w : World} {H H' : Hp} {h h' : Heap} {a C dx : Addr} {fs fs' : List (Str × V)}
theorem ins_get (hok : HOk P w H h) (e : H a = some (.ins C dx fs)) : ∃ mA, ObjM h a dx C mA ∧ (∀ f, RelO (fs.lookup f) (mA f)) ∧ PySem.Within mA (fs.map (·.1)) ∧ fs.length ≤ 1000 ∧ H dx = some (.own a) := by
  obtain ⟨d, z, ne, ob, mA, n, r, q⟩ := (show ObjOk P w H h a (.ins C dx fs) from hok a _ e)
  exact ⟨mA, ⟨ob, n, ne⟩, r, q, z, d⟩
end

structure Cls (K : PySem.W.Frag) (C : Addr) : Prop where
  pg : PySem.W.plainGet K C Str.empty = true
  hd : PySem.W.hasDictIn K C = true
  po : PySem.W.plainOver K C = true
  sa : PySem.W.findIn K (.ref C) "__setattr__" = some (some (.builtin "object.__setattr__"))
theorem Cls.get {K : PySem.W.Frag} {C : Addr} (c : Cls K C) (f : Str) : PySem.W.plainGet K C f = true := c.pg
def NoAttr (K : PySem.W.Frag) (C : Addr) (f : Str) : Prop := PySem.W.findIn K (.ref C) f = some none
theorem NoAttr.taker {K : PySem.W.Frag} {C : Addr} {f : Str} (n : NoAttr K C f) : PySem.W.takerIn K C f = some none := by
  unfold PySem.W.takerIn
  rw [show PySem.W.findIn K (.ref C) f = some none from n]
  rfl
structure Con (K : PySem.W.Frag) (C : Addr) (f : Str) (v : V) (u : Value) : Prop where
  at_ : PySem.W.findIn K (.ref C) f = some (some u)
  rel : RelV v u
  get : PySem.W.specialIn K u "__get__" = some none
  cp : PySem.W.copiedNames.contains f = false
structure Meth (K : PySem.W.Frag) (C : Addr) (m : Str) (f : Addr) : Prop where
  at_ : PySem.W.findIn K (.ref C) m = some (some (.ref f))
  fn : PySem.W.isFn K (.ref f) = true
  kp : PySem.W.keepIn K (.ref f) = true

section
variable {X : Cx} {pins : List (Addr × Obj)} {σ : St} {H : Hp} {s : Shared} {a C dx : Addr} {fs : List (Str × V)} {f : Str} {v : V} {A : Around} {E : Value → Shared → Prop}

theorem getattr_ok {b : Bool} {Q : Value → Shared → Prop} (I : Inv X pins σ H s) (e : H a = some (.ins C dx fs)) (c : Cls X.K C) (n : NoAttr X.K C f) (l : fs.lookup f = some v)
    (h : ∀ u s', Inv X pins σ H s' → RelV v u → Q u s') : wpAny (model X.prog X.w) A (getAttr (.ref a) f b) Q E s := by
  obtain ⟨mA, O, r, _, _, _⟩ := ins_get I.hok e
  obtain ⟨u, hu, ru⟩ := RelO.some_of (v := v) (o := mA f) (by rw [← l]; exact r f)
  exact get_map I.kIn O (c.get f) c.hd n hu (handed_of ru) (h u _ (I.tok _) ru)

theorem getmeth_ok {m : Str} {g : Addr} {pl : Sem Bool} {Q : Value × List Value → Shared → Prop} (I : Inv X pins σ H s) (e : H a = some (.ins C dx fs)) (c : Cls X.K C) (k : Meth X.K C m g) (l : fs.lookup m = none)
    (h : Q (.ref g, [.ref a]) s) : wpAny (model X.prog X.w) A (getMethod (.ref a) m pl) Q E s := by
  obtain ⟨mA, O, r, _, _, _⟩ := ins_get I.hok e
  have hn : mA m = none := RelO.none_of (by rw [← l]; exact r m)
  exact get_meth I.kIn O (c.get m) k.at_ k.fn hn h

theorem setattr_ok {y : V} {u : Value} {Q : Unit → Shared → Prop} (I : Inv X pins σ H s) (e : H a = some (.ins C dx fs)) (c : Cls X.K C) (n : NoAttr X.K C f) (hl : fs.length < 1000) (ry : RelV y u)
    (h : ∀ s', Inv X pins σ (upd H a (.ins C dx (putF f y fs))) s' → Q () s') : wpAny (model X.prog X.w) A (setAttr (.ref a) f u) Q E s := by
  obtain ⟨mA, O, r, wi, _, ho⟩ := ins_get I.hok e
  have hz : (fs.map (·.1)).length ≤ sizeLine := by rw [List.length_map, sizeLine_eq]; omega
  refine set_map I.kIn O c.sa c.po n.taker c.hd wi hz fun h' O' sb => h _ ?_
  have hd : ∃ o, h'.get? dx = some o := let ⟨o, _, _, e', _⟩ := O'.ns; ⟨o, e'⟩
  refine I.write (x := a) (e := dx) (by rw [e]; exact True.intro) (.inr ho) (fun b q hb z => (sb.2 b hb).trans z) hd ?_
  refine ⟨by rw [upd_ne O.ne]; exact ho, ?_, O.ne, O'.obj, _, O'.ns, fun g => ?_, fun g hg => ?_⟩
  · have := length_putF f y fs; omega
  · show RelO ((putF f y fs).lookup g) (if g = f then some u else mA g)
    rw [lookup_putF]
    by_cases q : g = f
    · rw [if_pos q, if_pos q]; exact ry
    · rw [if_neg q, if_neg q]; exact r g
  · by_cases q : g = f
    · rw [q]; exact (keys_putF f y fs).1
    · refine (keys_putF f y fs).2 g (wi g fun z => hg ?_)
      show (if g = f then some u else mA g) = none
      rw [if_neg q]; exact z

theorem Inv.made (I : Inv X pins σ H s) : Inv X pins σ (upd (upd H s.heap.objs.size (.own (s.heap.objs.size + 1))) (s.heap.objs.size + 1) (.ins C s.heap.objs.size []))
    { s with heap := (s.heap.push PySem.W.emptyDict).push (PySem.W.instObj C s.heap.objs.size) } := by
  have e1 : (s.heap.push PySem.W.emptyDict).get? s.heap.objs.size = some PySem.W.emptyDict := Heap.get?_push_size s.heap rfl
  have e2 : ((s.heap.push PySem.W.emptyDict).push (PySem.W.instObj C s.heap.objs.size)).get? (s.heap.objs.size + 1) = some (PySem.W.instObj C s.heap.objs.size) := by
    have := Heap.get?_push_size (s.heap.push PySem.W.emptyDict) (o := PySem.W.instObj C s.heap.objs.size) rfl
    rwa [Heap.size_push] at this
  have e3 : (s.heap.push PySem.W.emptyDict).Ns s.heap.objs.size (fun _ => none) := ⟨PySem.W.emptyDict, #[], _, e1, rfl, (fun e he => absurd he (by simp)), fun _ => rfl⟩
  have I1 := I.laid (a := s.heap.objs.size) (o := .own (s.heap.objs.size + 1)) (h' := s.heap.push PySem.W.emptyDict) (t' := s.toks) (fun b u q => Heap.get?_push_of_some _ q) (Nat.le_refl _) ⟨_, e1⟩
  refine I1.laid (a := s.heap.objs.size + 1) (o := .ins C s.heap.objs.size []) (t' := s.toks) (fun b u q => Heap.get?_push_of_some _ q) (Nat.le_of_eq (Heap.size_push _ _)) ?_
  have ne : s.heap.objs.size ≠ s.heap.objs.size + 1 := Nat.ne_of_lt (Nat.lt_succ_self _)
  refine ⟨by rw [upd_ne ne, upd_same], Nat.zero_le _, ne, e2, fun _ => none, (Heap.Ns1.of_empty e3).at fun o q => Heap.get?_push_of_some _ q, fun _ => True.intro, fun y hy => absurd rfl hy⟩

theorem attr_of {prog : Program} {w : World} {env : Env} {e : Expr} {f : Str} {pos : Pos} {s : Shared} {Q : Value → Shared → Prop} (hb : attributeBase e f env (eval e env) = eval e env)
    (h : wpAny (model prog w) A (eval e env) (fun o s₁ => wpAny (model prog w) A (getAttr o f true) Q E s₁) E s) : wpAny (model prog w) A (eval (.Attribute e f pos) env) Q E s :=
  Attribute_any_ h (by rw [arm_eval_Attribute, hb])
end

def tFld (K : PySem.W.Frag) (ta : TE) (f : Str) : TE := fun σ H Q => ta σ H fun x H1 => ∃ a C dx fs v, x = .ref a ∧ H1 a = some (.ins C dx fs) ∧ Cls K C ∧ NoAttr K C f ∧ fs.lookup f = some v ∧ Q v H1
def sFld (K : PySem.W.Frag) (ta tv : TE) (f : Str) : TS := fun D σ H => tv σ H fun y H1 => ta σ H1 fun x H2 => ∃ a C dx fs, x = .ref a ∧ H2 a = some (.ins C dx fs) ∧ Cls K C ∧ NoAttr K C f ∧ fs.length < 1000 ∧
  D.nx σ (upd H2 a (.ins C dx (putF f y fs)))
section
variable {X : Cx} {o e value : Expr} {f : Str} {pos pos' tpos : Pos} {ta tv : TE}
theorem pe_fld (he : PE X e ta) (hb : attributeBase e f X.env (eval e X.env) = eval e X.env) : PE X (.Attribute e f pos) (tFld X.K ta f) := by
  intro pins s σ H Q I h
  refine attr_of hb (thn (he pins s σ H _ I h) fun u s1 ⟨x, H1, I1, rx, a, C, dx, fs, v, ex, ea, c, n, l, q⟩ => ?_)
  subst ex
  obtain rfl : u = Value.ref a := rx
  exact getattr_ok I1 ea c n l fun u' s2 I2 ru => ⟨v, H1, I2, ru, q⟩
theorem ps_fld (ha : PE X o ta) (hv : PE X value tv) (hs : swapsWith value (some (.Attribute o f pos')) pos.line X.env = pure false) : PS X (.Assign [.Attribute o f pos'] value pos) (sFld X.K ta tv f) := by
  intro pins s σ H D I h
  refine plainObj_wpAny_Assign_Attribute (thn (hv pins s σ H _ I h) fun u s1 ⟨y, H1, I1, ry, q⟩ => thn (ha pins s1 σ H1 _ I1 q) fun ov s2 ⟨x, H2, I2, rx, a, C, dx, fs, ex, ea, c, n, l, q2⟩ => ?_) hs
  subst ex
  obtain rfl : ov = Value.ref a := rx
  exact setattr_ok I2 ea c n l ry fun s3 I3 => ⟨σ, _, I3, q2⟩
end

section
variable {X : Cx} {pins : List (Addr × Obj)} {σ : St} {H : Hp} {s : Shared} {A : Around} {E : Value → Shared → Prop} {Q : Value → Shared → Prop} {c : Value} {b : Bool}
inductive TyOf (K : PySem.W.Frag) (H : Hp) : V → Value → Prop where
  | non : TyOf K H .non (.type "NoneType")
  | bl (x : Bool) : TyOf K H (.bl x) (.type "bool")
  | int (i : Int) : TyOf K H (.int i) (.type "int")
  | str (x : Str) : TyOf K H (.str x) (.type "str")
  | flt (x : UInt64) : TyOf K H (.flt x) (.type "float")
  | lst {a : Addr} {xs : List V} (e : H a = some (.lst xs)) : TyOf K H (.ref a) (.type "list")
  | frz {a : Addr} {o : Obj} {xs : List V} (e : H a = some (.frz o (.lst xs))) : TyOf K H (.ref a) (.type "list")
  | tup {a : Addr} {xs : List V} (e : H a = some (.tup xs)) : TyOf K H (.ref a) (.type "tuple")
  | dK {a : Addr} {kvs : List (Key × V)} (e : H a = some (.dK kvs)) : TyOf K H (.ref a) (.type "dict")
  | dT {a : Addr} {kvs : List (List Key × V)} (e : H a = some (.dT kvs)) : TyOf K H (.ref a) (.type "dict")
  | ins {a C dx : Addr} {fs : List (Str × V)} (e : H a = some (.ins C dx fs)) (cl : Cls K C) (ha : PySem.W.findIn K (.ref C) "__class__" = some (some (.builtin "object.__class__")))
      (hn : PySem.W.specialIn K (.builtin "object.__class__") "__get__" = some (some (.builtin "getset_descriptor.__get__"))) (htk : PySem.W.takesIn K (.builtin "object.__class__") = some true)
      (hm : PySem.W.mroIn K C (.type "object") = some true) : TyOf K H (.ref a) (.ref C)
theorem isinst_ok {x : V} {u t : Value} (I : Inv X pins σ H s) (rx : RelV x u) (ty : TyOf X.K H x t) (e : PySem.W.kitOne X.K t c = some b) (h : ∀ tk, Q (.bool b) { s with toks := tk }) :
    wpAny (model X.prog X.w) A (call (.builtin "isinstance") [u, c]) Q E s := by
  cases ty with
  | non => cases (show u = Value.none from rx); exact PySem.W.kia_one PySem.W.kitx_none I.kIn True.intro e (fun z => nomatch z) h
  | bl y => cases (show u = Value.bool y from rx); exact PySem.W.kia_one PySem.W.kitx_bool I.kIn True.intro e (fun z => nomatch z) h
  | int i => obtain ⟨t, q⟩ := (show ∃ t, u = Value.int i t from rx); cases q; exact PySem.W.kia_one PySem.W.kitx_int I.kIn True.intro e (fun z => nomatch z) h
  | str y => obtain ⟨t, q⟩ := (show ∃ t, u = Value.str y t from rx); cases q; exact PySem.W.kia_one PySem.W.kitx_str I.kIn True.intro e (fun z => nomatch z) h
  | flt y => obtain ⟨t, q⟩ := (show ∃ t, u = Value.float y t from rx); cases q; exact PySem.W.kia_one PySem.W.kitx_float I.kIn True.intro e (fun z => nomatch z) h
  | @lst a xs ea =>
    cases (show u = Value.ref a from rx)
    obtain ⟨_, _, n, _, h1⟩ := (show ObjOk X.prog X.w H s.heap a (.lst xs) from I.hok a _ ea)
    exact PySem.W.kia_one PySem.W.kitx_list I.kIn ⟨_, h1, rfl⟩ e (fun z => nomatch z) h
  | @frz a ob xs ea =>
    cases (show u = Value.ref a from rx)
    obtain ⟨_, _, _, n, _, h1⟩ := (show ObjOk X.prog X.w H s.heap a (.frz ob (.lst xs)) from I.hok a _ ea)
    exact PySem.W.kia_one PySem.W.kitx_list I.kIn ⟨_, h1, rfl⟩ e (fun z => nomatch z) h
  | @tup a xs ea =>
    cases (show u = Value.ref a from rx)
    obtain ⟨_, _, _, p⟩ := (show ObjOk X.prog X.w H s.heap a (.tup xs) from I.hok a _ ea)
    obtain ⟨o, h1, h2, _⟩ := p
    exact PySem.W.kia_one PySem.W.kitx_tuple I.kIn ⟨o, h1, h2⟩ e (fun z => nomatch z) h
  | @dK a kvs ea =>
    cases (show u = Value.ref a from rx)
    obtain ⟨_, _, vs, _, p⟩ := (show ObjOk X.prog X.w H s.heap a (.dK kvs) from I.hok a _ ea)
    obtain ⟨o, es, ep, h1, h2, _⟩ := p
    exact PySem.W.kia_one PySem.W.kitx_dict I.kIn ⟨o, h1, h2.1⟩ e (fun z => nomatch z) h
  | @dT a kvs ea =>
    cases (show u = Value.ref a from rx)
    obtain ⟨_, _, xs, _, o, es, ep, h1, h2, _⟩ := (show ObjOk X.prog X.w H s.heap a (.dT kvs) from I.hok a _ ea)
    exact PySem.W.kia_one PySem.W.kitx_dict I.kIn ⟨o, h1, h2.1⟩ e (fun z => nomatch z) h
  | @ins a C dx fs ea cl ha hn htk hm =>
    cases (show u = Value.ref a from rx)
    obtain ⟨mA, O, _⟩ := ins_get I.hok ea
    obtain ⟨od, J, _⟩ := O.look
    exact PySem.W.kia_one (PySem.W.kitx_own (cl.get _) cl.hd ha hn htk hm) I.kIn J e (fun z => nomatch z) h
end
end L2

namespace L2
open PySem PySem.Spec PyProof.Rows

structure Room (k : Nat) (A : Around) : Prop where
  hd : A.handled = none
  dp : A.depth + 3 * k + 5 < recursionLimit
  un : A.units + 16 * k + 200 < cLine
theorem Room.mono {j k : Nat} {A : Around} (r : Room k A) (h : j ≤ k) : Room j A := ⟨r.hd, by have := r.dp; omega, by have := r.un; omega⟩
theorem Room.deeper {k : Nat} {A : Around} (r : Room (k + 1) A) (env : Env) : Room k (A.deeper env) :=
  ⟨r.hd, by have := r.dp; show A.depth + 1 + 3 * k + 5 < _; omega, by have := r.un; show A.units + 3 + 16 * k + 200 < _; omega⟩
theorem Room.in1 {k : Nat} {A : Around} (r : Room (k + 1) A) : Room k A.in1 :=
  ⟨r.hd, by have := r.dp; show A.depth + 3 * k + 5 < _; omega, by have := r.un; show A.units + 1 + 16 * k + 200 < _; omega⟩
theorem make_depth {A : Around} {C : Addr} {us : List Value} {kw : List (Str × Value)} : (A.under (.builtin "type.__call__" ⟨.ref C :: us, kw⟩)).depth = A.depth + 1 := by
  first | rfl | simp [Around.under, Code.weight, Code.isCreation, Code.isGuard, Code.isCaller, Code.frames, Code.isFrame, guardIds]
theorem make_units {A : Around} {C : Addr} {us : List Value} {kw : List (Str × Value)} : (A.under (.builtin "type.__call__" ⟨.ref C :: us, kw⟩)).units = A.units + 1 := by
  first | rfl | simp [Around.under, Code.cUnits, Code.frames, Code.isFrame]
theorem Room.make {k : Nat} {A : Around} (r : Room (k + 1) A) (C : Addr) (us : List Value) (kw : List (Str × Value)) : Room k (A.under (.builtin "type.__call__" ⟨.ref C :: us, kw⟩)) :=
  ⟨r.hd, by have := r.dp; rw [make_depth]; omega, by have := r.un; rw [make_units]; omega⟩
theorem Room.depth {k : Nat} {A : Around} (r : Room k A) : A.depth < recursionLimit := by have := r.dp; omega
theorem Room.units {k : Nat} {A : Around} (r : Room k A) : A.units + 64 < cLine := by have := r.un; omega
theorem Room.units0 {k : Nat} {A : Around} (r : Room k A) : A.units < cLine := by have := r.un; omega

def tNil : TA := fun _ H Q => Q [] H
def tCons (ta : TE) (tr : TA) : TA := fun σ H Q => ta σ H fun x H1 => tr σ H1 fun xs H2 => Q (x :: xs) H2
section
variable {X : Cx} {e : Expr} {es : List Expr} {te : TE} {t : TA} {pos : Pos}
theorem pa_nil : PA X [] tNil := fun _ _ _ _ H Q I h => Calls.spliced_nil ⟨[], H, I, .nil, h⟩
theorem pa_cons (ha : PE X e te) (hr : PA X es t) (hs : starEach (e :: es) X.env = (false, eval e X.env) :: starEach es X.env := by rfl) : PA X (e :: es) (tCons te t) := by
  intro pos pins s σ H Q I h
  rw [hs]
  show wpAny _ _ (spliced ((false, eval e X.env) :: backTo pos (starEach es X.env))) _ _ s
  refine Calls.spliced_cons (thn (ha pins s σ H _ I h) fun u s1 ⟨x, H1, I1, r1, q1⟩ => ?_)
  exact thn (hr pos pins s1 σ H1 _ I1 q1) fun us s2 ⟨xs, H2, I2, r2, q2⟩ => ⟨x :: xs, H2, I2, .cons r1 r2, q2⟩

def tTup (t : TA) : TE := fun σ H Q => t σ H fun xs H1 => xs.length ≤ sizeLine ∧ ∀ p, H1 p = none → Q (.ref p) (upd H1 p (.tup xs))
def tLst (t : TA) : TE := fun σ H Q => t σ H fun xs H1 => xs.length ≤ sizeLine ∧ ∀ p, H1 p = none → Q (.ref p) (upd H1 p (.lst xs))
theorem pe_tup {x1} (h : PA X es t) : PE X (.Tuple es x1 pos) (tTup t) := by
  intro pins s σ H Q I hq
  refine wpAny_Tuple_spliced (thn (h pos pins s σ H _ I hq) fun us s1 ⟨xs, H1, I1, r, z, q⟩ => ⟨by rw [← r.length]; exact z, ?_⟩)
  have hf : H1 s1.heap.objs.size = none := I1.hok.fresh (Nat.le_refl _)
  refine ⟨.ref s1.heap.objs.size, upd H1 s1.heap.objs.size (.tup xs), I1.laid (t' := s1.toks) (fun b u e => Heap.get?_push_of_some _ e) (Nat.le_refl _) ?_, rfl, q _ hf⟩
  exact ⟨z, us, r, ⟨_, Heap.get?_push_size _ rfl, rfl, _, rfl⟩⟩
theorem pe_lst (h : PA X es t) : PE X (.List es pos) (tLst t) := by
  intro pins s σ H Q I hq
  refine wpAny_List_spliced (thn (h pos pins s σ H _ I hq) fun us s1 ⟨xs, H1, I1, r, z, q⟩ => ⟨by rw [← r.length]; exact z, ?_⟩)
  have hf : H1 s1.heap.objs.size = none := I1.hok.fresh (Nat.le_refl _)
  refine ⟨.ref s1.heap.objs.size, upd H1 s1.heap.objs.size (.lst xs), I1.laid (t' := s1.toks) (fun b u e => Heap.get?_push_of_some _ e) (Nat.le_refl _) ?_, rfl, q _ hf⟩
  exact ⟨z, us, 0, r, Heap.get?_push_size _ rfl⟩
end

abbrev Sp := List V → Hp → VK → XK → Prop
abbrev CXT := List Env → Hp → Shared → XK → Value → Shared → Prop

structure Env0 (P : Program) (w : World) (K : PySem.W.Frag) (mg : Str → Option Value) (base : Heap) (A : Around) (outer : List Env) (s : Shared) (H : Hp) : Prop where
  frames : A.frames = some outer
  mod : Mod K mg base
  bs : ∀ b o, base.get? b = some o → s.heap.get? b = some o ∧ H b = none
  bsz : base.objs.size ≤ s.heap.objs.size
  funs : s.heap.FunFrames base outer
  frf : ∀ b ∈ frs outer, H b = none
  hok : HOk P w H s.heap
  bare : AllBare s.gens
def CE (outer : List Env) (P : Program) (w : World) (H : Hp) (s : Shared) (Q : VK) (u : Value) (s' : Shared) : Prop :=
  ∃ v H', s'.os = s.os ∧ AllBare s'.gens ∧ Un (frs outer) [] H H' s.heap s'.heap ∧ HOk P w H' s'.heap ∧ RelV v u ∧ Q v H'
def CR (CX : CXT) (outer : List Env) (P : Program) (w : World) (H : Hp) (s : Shared) (Q : VK) (E : XK) (r : Result) (s' : Shared) : Prop :=
  match r with
  | .ok (.ret u) => CE outer P w H s Q u s'
  | .ok _ => False
  | .error e => CX outer H s E e s'
structure FnOk (P : Program) (w : World) (K : PySem.W.Frag) (mg : Str → Option Value) (base : Heap) (CX : CXT) (k : Nat) (f : Addr) (fd : FuncData) (ps : List Str) (sp : Sp) : Prop where
  len : ∀ vs H Q E, sp vs H Q E → vs.length = ps.length
  run : ∀ (A : Around) (outer : List Env) (s : Shared) (H : Hp) (args : Args) (us : List Value) (vs : List V) (Q : VK) (E : XK), Room k A → Env0 P w K mg base A outer s H → BindsTo s fd args (ps.zip us) → Vals vs us → sp vs H Q E →
    codeAny (model P w) A (.call (.ref f) args) (CR CX outer P w H s Q E) s
theorem FnOk.mono {P : Program} {w : World} {K : PySem.W.Frag} {mg : Str → Option Value} {base : Heap} {CX : CXT} {j k : Nat} {f : Addr} {fd : FuncData} {ps : List Str} {sp : Sp} (F : FnOk P w K mg base CX j f fd ps sp) (h : j ≤ k) :
    FnOk P w K mg base CX k f fd ps sp := ⟨F.len, fun A outer s H args us vs Q E hr => F.run A outer s H args us vs Q E (hr.mono h)⟩
theorem FnOk.imp {P : Program} {w : World} {K : PySem.W.Frag} {mg : Str → Option Value} {base : Heap} {CX : CXT} {k : Nat} {f : Addr} {fd : FuncData} {ps : List Str} {sp sp' : Sp} (F : FnOk P w K mg base CX k f fd ps sp)
    (h : ∀ vs H Q E, sp' vs H Q E → sp vs H Q E) : FnOk P w K mg base CX k f fd ps sp' :=
  ⟨fun vs H Q E q => F.len vs H Q E (h _ _ _ _ q), fun A outer s H args us vs Q E hr he hb hv hs => F.run A outer s H args us vs Q E hr he hb hv (h _ _ _ _ hs)⟩

theorem Env0.make {P : Program} {w : World} {K : PySem.W.Frag} {mg : Str → Option Value} {base : Heap} {A : Around} {outer : List Env} {s : Shared} {H : Hp} (e : Env0 P w K mg base A outer s H) (C : Addr) (us : List Value) (kw : List (Str × Value)) :
    Env0 P w K mg base (A.under (.builtin "type.__call__" ⟨.ref C :: us, kw⟩)) outer s H := ⟨by first | exact e.frames | (simpa [Around.under, Code.envs, Code.isFrame, pushEnvs] using e.frames), e.mod, e.bs, e.bsz, e.funs, e.frf, e.hok, e.bare⟩
theorem Env0.in1 {P : Program} {w : World} {K : PySem.W.Frag} {mg : Str → Option Value} {base : Heap} {A : Around} {outer : List Env} {s : Shared} {H : Hp} (e : Env0 P w K mg base A outer s H) :
    Env0 P w K mg base A.in1 outer s H := ⟨e.frames, e.mod, e.bs, e.bsz, e.funs, e.frf, e.hok, e.bare⟩

section
variable {X : Cx} {pins : List (Addr × Obj)} {σ : St} {H : Hp} {s s' : Shared}
theorem Inv.env0 (I : Inv X pins σ H s) : Env0 X.prog X.w X.K X.mg X.base X.A X.stack s H :=
  ⟨I.ok.frames, I.ok.mod, I.bs, Nat.le_trans I.ok.bsz I.sz, I.stack, I.stkFree, I.hok, I.bare⟩
theorem Inv.after {Q : VK} {u : Value} (I : Inv X pins σ H s) (h : CE X.stack X.prog X.w H s Q u s') : EP X pins σ Q u s' := by
  obtain ⟨v, H', os, bare, un, hok, r, q⟩ := h
  obtain ⟨hh, g, d, t, os'⟩ := s'
  obtain rfl : os' = s.os := os
  exact ⟨v, H', I.call (h' := hh) (g' := g) (d' := d) (t' := t) (ch := []) un hok bare (fun b z => absurd z (by simp)), r, q⟩
end

def tCall (sp : Sp) (dvs : List V) (E : XK) (t : TA) : TE := fun σ H Q => t σ H fun vs H1 => sp (vs ++ dvs) H1 Q E
def tMeth (C : Addr) (m : Str) (sp : Sp) (dvs : List V) (E : XK) (ta : TE) (t : TA) : TE := fun σ H Q => ta σ H fun x H1 => ∃ a dx fs, x = .ref a ∧ H1 a = some (.ins C dx fs) ∧ fs.lookup m = none ∧
  t σ H1 fun vs H2 => sp (x :: (vs ++ dvs)) H2 Q E
def tMake (C : Addr) (sp : Sp) (dvs : List V) (E : XK) (t : TA) : TE := fun σ H Q => t σ H fun vs H1 => ∀ x dx, H1 x = none → H1 dx = none → dx ≠ x →
  sp (.ref x :: (vs ++ dvs)) (upd (upd H1 dx (.own x)) x (.ins C dx [])) (fun v H2 => v = .non ∧ Q (.ref x) H2) E

def Binds (K : PySem.W.Frag) (fd : FuncData) (ps : List Str) (ds : List Value) : Prop :=
  ∀ (s : Shared) (us : List Value), K.In s.heap → (us ++ ds).length = ps.length → BindsTo s fd ⟨us, []⟩ (ps.zip (us ++ ds))
theorem Binds.all {K : PySem.W.Frag} {fd : FuncData} {ps : List Str} (h : ∀ us : List Value, us.length = ps.length → bindArgs fd ⟨us, []⟩ = pure (ps.zip us)) : Binds K fd ps [] := fun s us _ hl => by
  rw [List.append_nil] at hl ⊢
  exact .of_eq (h us hl)

def Passes (CX : CXT) (X : Cx) (E : XK) : Prop := ∀ (pins : List (Addr × Obj)) (σ : St) (H : Hp) (s : Shared) (e : Value) (s' : Shared), Inv X pins σ H s → CX X.stack H s E e s' → X.xe e s'

section
variable {X : Cx} {CX : CXT} {k : Nat} {f C : Addr} {fd : FuncData} {ps : List Str} {sp : Sp} {dvs : List V} {ds : List Value} {E : XK} {x m : Str} {p pos apos : Pos} {e o : Expr} {es : List Expr} {ta : TE} {t : TA}

theorem run_fn {pins : List (Addr × Obj)} {σ : St} {H : Hp} {s : Shared} {Q : VK} {us : List Value} {vs : List V} (F : FnOk X.prog X.w X.K X.mg X.base CX k f fd ps sp) (hr : Room k X.A) (hb : Binds X.K fd ps ds) (hd : Vals dvs ds) (hx : Passes CX X E)
    (I : Inv X pins σ H s) (r : Vals vs us) (h : sp (vs ++ dvs) H Q E) : wpAny (model X.prog X.w) X.A (call (.ref f) us) (EP X pins σ Q) X.xe s := by
  have r2 : Vals (vs ++ dvs) (us ++ ds) := r.append hd
  have hl : (us ++ ds).length = ps.length := by rw [← r2.length]; exact F.len _ _ _ _ h
  refine wpAny_call (codeAny_mono (F.run X.A X.stack s H ⟨us, []⟩ (us ++ ds) (vs ++ dvs) Q E hr I.env0 (hb s us I.kIn hl) r2 h) fun r s' hq => ?_)
  cases r with
  | error e => exact hx pins σ H s e s' I hq
  | ok fl =>
    cases fl with
    | ret u => exact I.after hq
    | next => exact False.elim hq
    | brk => exact False.elim hq
    | cont => exact False.elim hq

theorem pe_call (F : FnOk X.prog X.w X.K X.mg X.base CX k f fd ps sp) (hr : Room k X.A) (hg : Gl X x) (hm : X.mg x = some (.ref f)) (hk : PySem.W.keepIn X.K (.ref f) = true) (hb : Binds X.K fd ps ds) (hd : Vals dvs ds) (hx : Passes CX X E)
    (ha : PA X (e :: es) t) (hdb : (x == ("__debug__" : Str)) = false := by decide) (he : starEach (e :: es) X.env = (false, eval e X.env) :: starEach es X.env := by rfl) (hpl : (backTo pos (starEach es X.env)).any (·.1) = false := by rfl) :
    PE X (.Call (.Name x p) (e :: es) [] pos) (tCall sp dvs E t) := by
  intro pins s σ H Q I h
  refine wpAny_Call_Name_kw (ld_glob I hg hm ?_ hdb)
  refine PySem.W.callWith_K (h₀ := X.base) I.ok.mod.kin hk (thn (ha pos pins s σ H _ I h) fun us s1 ⟨vs, H1, I1, r, q⟩ => ⟨I1.kIn, ?_⟩) he hpl
  exact run_fn F hr hb hd hx I1 r q
theorem pe_meth {pl : Sem Bool} (he : PE X o ta) (c : Cls X.K C) (hm : Meth X.K C m f) (F : FnOk X.prog X.w X.K X.mg X.base CX k f fd ps sp) (hr : Room k X.A) (hb : Binds X.K fd ps ds) (hd : Vals dvs ds) (hx : Passes CX X E) (ha : PA X (e :: es) t)
    (hst : starEach (e :: es) X.env = (false, eval e X.env) :: starEach es X.env := by rfl) (hpl : (backTo pos (starEach es X.env)).any (·.1) = false := by rfl)
    (ht : eval (.Call (.Attribute o m apos) (e :: es) [] pos) X.env = (do
      let ov ← eval o X.env
      standAt apos.atName
      let (f, first) ← holding [ov] (getMethod ov m pl)
      callWith pos f first (backTo pos (starEach (e :: es) X.env)) (backToKw pos (keywordEach [] X.env))) := by rfl) :
    PE X (.Call (.Attribute o m apos) (e :: es) [] pos) (tMeth C m sp dvs E ta t) := by
  intro pins s σ H Q I h
  refine PySem.W.methodCall_KW (pl := pl) (thn (he pins s σ H _ I h) fun u s1 ⟨x, H1, I1, rx, a, dx, fs, ex, ea, l, q⟩ => ?_) ht
  subst ex
  obtain rfl : u = Value.ref a := rx
  refine getmeth_ok I1 ea c hm l ?_
  refine PySem.W.callWith_K (first := [.ref a]) (h₀ := X.base) I.ok.mod.kin hm.kp (thn (ha pos pins s1 σ H1 _ I1 q) fun us s2 ⟨vs, H2, I2, r, q2⟩ => ⟨I2.kIn, ?_⟩) hst hpl
  exact run_fn (us := .ref a :: us) (vs := .ref a :: vs) F hr hb hd hx I2 (.cons rfl r) q2
theorem pe_meth0 {pl : Sem Bool} (he : PE X o ta) (c : Cls X.K C) (hm : Meth X.K C m f) (F : FnOk X.prog X.w X.K X.mg X.base CX k f fd ps sp) (hr : Room k X.A) (hb : Binds X.K fd ps ds) (hd : Vals dvs ds) (hx : Passes CX X E)
    (ht : eval (.Call (.Attribute o m apos) [] [] pos) X.env = (do
      let ov ← eval o X.env
      standAt apos.atName
      let (f, first) ← holding [ov] (getMethod ov m pl)
      callWith pos f first (backTo pos (starEach [] X.env)) (backToKw pos (keywordEach [] X.env))) := by rfl) :
    PE X (.Call (.Attribute o m apos) [] [] pos) (tMeth C m sp dvs E ta tNil) := by
  intro pins s σ H Q I h
  refine PySem.W.methodCall_KW (pl := pl) (thn (he pins s σ H _ I h) fun u s1 ⟨x, H1, I1, rx, a, dx, fs, ex, ea, l, q⟩ => ?_) ht
  subst ex
  obtain rfl : u = Value.ref a := rx
  refine getmeth_ok I1 ea c hm l ?_
  exact PySem.W.callWith_K0 (first := [.ref a]) I1.kIn hm.kp (run_fn (us := [.ref a]) (vs := [.ref a]) F hr hb hd hx I1 (.cons rfl .nil) q)

structure Mk (K : PySem.W.Frag) (C f : Addr) : Prop where
  makes : PySem.W.makesIn K C = true
  init : PySem.W.findIn K (.ref C) "__init__" = some (some (.ref f))
  fn : PySem.W.isFn K (.ref f) = true
  kp : PySem.W.keepIn K (.ref C) = true

theorem run_make {pins : List (Addr × Obj)} {σ : St} {H : Hp} {s : Shared} {Q : VK} {us : List Value} {vs : List V} (M : Mk X.K C f) (F : FnOk X.prog X.w X.K X.mg X.base CX k f fd ps sp) (hr : Room (k + 1) X.A) (hb : Binds X.K fd ps ds) (hd : Vals dvs ds)
    (hx : Passes CX X E) (I : Inv X pins σ H s) (r : Vals vs us)
    (h : ∀ x dx, H x = none → H dx = none → dx ≠ x → sp (.ref x :: (vs ++ dvs)) (upd (upd H dx (.own x)) x (.ins C dx [])) (fun v H2 => v = .non ∧ Q (.ref x) H2) E) :
    wpAny (model X.prog X.w) X.A (call (.ref C) us) (EP X pins σ Q) X.xe s := by
  have hq := h (s.heap.objs.size + 1) s.heap.objs.size (I.hok.fresh (Nat.le_succ _)) (I.hok.fresh (Nat.le_refl _)) (Nat.ne_of_lt (Nat.lt_succ_self _))
  have I2 := Inv.made (C := C) I
  have r2 : Vals (V.ref (s.heap.objs.size + 1) :: (vs ++ dvs)) (Value.ref (s.heap.objs.size + 1) :: (us ++ ds)) := .cons rfl (r.append hd)
  have hl : (Value.ref (s.heap.objs.size + 1) :: us ++ ds).length = ps.length := by
    have e := r2.length
    rw [F.len _ _ _ _ hq] at e
    exact e.symm
  refine wpAny_call (make_map (f := f) I.kIn M.makes M.init (beq_iff_eq.mp M.fn) (codeAny_mono (F.run _ X.stack _ _ ⟨Value.ref (s.heap.objs.size + 1) :: us, []⟩ (Value.ref (s.heap.objs.size + 1) :: (us ++ ds)) _ _ E (hr.make C us [])
    (I2.env0.make C us []) (hb _ (Value.ref (s.heap.objs.size + 1) :: us) I2.kIn hl) r2 hq) fun r s' hq' => ?_))
  cases r with
  | error e => exact hx pins σ _ _ e s' I2 hq'
  | ok fl =>
    cases fl with
    | ret u =>
      obtain ⟨v, H', I3, rv, ev, q3⟩ := I2.after hq'
      subst ev
      exact ⟨rv, ⟨V.ref (s.heap.objs.size + 1), H', I3, rfl, q3⟩⟩
    | next => exact False.elim hq'
    | brk => exact False.elim hq'
    | cont => exact False.elim hq'
theorem pe_make0 (M : Mk X.K C f) (F : FnOk X.prog X.w X.K X.mg X.base CX k f fd ps sp) (hr : Room (k + 1) X.A) (hg : Gl X x) (hm : X.mg x = some (.ref C)) (hb : Binds X.K fd ps ds) (hd : Vals dvs ds) (hx : Passes CX X E)
    (hdb : (x == ("__debug__" : Str)) = false := by decide) : PE X (.Call (.Name x p) [] [] pos) (tMake C sp dvs E tNil) := by
  intro pins s σ H Q I h
  refine wpAny_Call_Name_kw (ld_glob I hg hm ?_ hdb)
  exact PySem.W.callWith_K0 I.kIn M.kp (run_make (us := []) M F hr hb hd hx I .nil h)
end

section
variable {X : Cx} {CX : CXT} {k : Nat} {f C : Addr} {fd : FuncData} {ps ks : List Str} {sp : Sp} {E : XK} {x m : Str} {p pos apos kpos : Pos} {e o : Expr} {es : List Expr} {kws : List Keyword} {te ta : TE} {t tk : TA} {nm : Option Str}
structure KBinds (K : PySem.W.Frag) (fd : FuncData) (ps ks : List Str) (g : List Value → List Value → List Value) (gV : List V → List V → List V) : Prop where
  to : ∀ (s : Shared) (us ws : List Value), K.In s.heap → (g us ws).length = ps.length → BindsTo s fd ⟨us, ks.zip ws⟩ (ps.zip (g us ws))
  rel : ∀ {vs : List V} {us : List Value} {zs : List V} {ws : List Value}, Vals vs us → Vals zs ws → Vals (gV vs zs) (g us ws)
variable {g : List Value → List Value → List Value} {gV : List V → List V → List V}
end

structure FnScope (N P : List Str) (sc : Scope) : Prop where
  kind : sc.kind = .function
  co : sc.isCoroutine = false
  gen : sc.isGenerator = false
  nd : N.Nodup
  pre : N.take P.length = P
  par : ∀ x ∈ P, sc.names.lookup x = some .local ∨ sc.names.lookup x = some .cell
  nofree : ∀ y ∈ sc.names, y.2 ≠ .free

theorem bindL_out {kindOf : Str → Option NameKind} {x : Str} : ∀ {binds : List (Str × Value)} {m : Str → Option Value}, (∀ v, (x, v) ∉ binds) → bindL kindOf binds m x = m x
  | [], _, _ => rfl
  | (n, v) :: r, m, h => by
    unfold bindL
    rw [bindL_out fun w hw => h w (List.mem_cons_of_mem _ hw)]
    split
    · have : x ≠ n := by rintro rfl; exact h v List.mem_cons_self
      simp [this]
    · rfl
theorem bindC_out {kindOf : Str → Option NameKind} {x : Str} : ∀ {binds : List (Str × Value)} {m : Str → Option Value}, (∀ v, (x, v) ∉ binds) → bindC kindOf binds m x = m x
  | [], _, _ => rfl
  | (n, v) :: r, m, h => by
    unfold bindC
    rw [bindC_out fun w hw => h w (List.mem_cons_of_mem _ hw)]
    split
    · rfl
    · have : x ≠ n := by rintro rfl; exact h v List.mem_cons_self
      simp [this]
theorem bindL_get {kindOf : Str → Option NameKind} {x : Str} {v : Value} : ∀ {P : List Str} {vs : List Value} {i : Nat} {m : Str → Option Value}, P.Nodup → P[i]? = some x → vs[i]? = some v → kindOf x = some .local →
    bindL kindOf (P.zip vs) m x = some v
  | [], _, _, _, _, h, _, _ => by simp at h
  | _ :: _, [], _, _, _, _, h, _ => by simp at h
  | p :: P, w :: vs, 0, m, nd, h1, h2, hk => by
    simp at h1 h2; subst h1; subst h2
    show bindL kindOf ((p, w) :: P.zip vs) m p = _
    unfold bindL
    rw [bindL_out fun v hv => (List.nodup_cons.mp nd).1 (List.of_mem_zip hv).1, if_pos hk]
    simp
  | p :: P, w :: vs, i + 1, m, nd, h1, h2, hk => by
    show bindL kindOf ((p, w) :: P.zip vs) m x = _
    unfold bindL
    exact bindL_get (i := i) (List.nodup_cons.mp nd).2 (by simpa using h1) (by simpa using h2) hk
theorem bindC_get {kindOf : Str → Option NameKind} {x : Str} {v : Value} : ∀ {P : List Str} {vs : List Value} {i : Nat} {m : Str → Option Value}, P.Nodup → P[i]? = some x → vs[i]? = some v → kindOf x ≠ some .local →
    bindC kindOf (P.zip vs) m x = some v
  | [], _, _, _, _, h, _, _ => by simp at h
  | _ :: _, [], _, _, _, _, h, _ => by simp at h
  | p :: P, w :: vs, 0, m, nd, h1, h2, hk => by
    simp at h1 h2; subst h1; subst h2
    show bindC kindOf ((p, w) :: P.zip vs) m p = _
    unfold bindC
    rw [bindC_out fun v hv => (List.nodup_cons.mp nd).1 (List.of_mem_zip hv).1, if_neg hk]
    simp
  | p :: P, w :: vs, i + 1, m, nd, h1, h2, hk => by
    show bindC kindOf ((p, w) :: P.zip vs) m x = _
    unfold bindC
    exact bindC_get (i := i) (List.nodup_cons.mp nd).2 (by simpa using h1) (by simpa using h2) hk

def start (N : List Str) (vs : List V) : St := vs.map some ++ List.replicate (N.length - vs.length) none

def cxOf (CX : CXT) (P : Program) (w : World) (K : PySem.W.Frag) (mg : Str → Option Value) (base : Heap) (N : List Str) (qual : Str) (scope : Scope) (f : Addr) (cd : Value) (A : Around) (outer : List Env) (s : Shared) (H : Hp) (E : XK) : Cx where
  prog := P
  w := w
  K := K
  mg := mg
  base := base
  A := A.deeper (envOfC qual scope s.heap.objs.size f cd)
  N := N
  s₀ := s
  H₀ := H
  env := envOfC qual scope s.heap.objs.size f cd
  outer := outer
  stack := envOfC qual scope s.heap.objs.size f cd :: outer
  ex := []
  calm := true
  fn := fun _ => true
  pn := []
  xe := fun e s' => wpAny (model P w) (A.deeper (envOfC qual scope s.heap.objs.size f cd)) (leaving (envOfC qual scope s.heap.objs.size f cd) e) (fun _ s'' => CX outer H s E e s'') (fun e' s'' => CX outer H s E e' s'') s'

theorem cell_has {sc : Scope} {n : Nat} {x : Str} (h : sc.names.lookup x = some .cell) : ∃ c, (cellsFrom n sc.names []).lookup x = some c := by
  have q := PySem.W.cellsFrom_some sc.names n [] (.inl h)
  exact Option.isSome_iff_exists.mp q

theorem inv_start {CX : CXT} {P : Program} {w : World} {K : PySem.W.Frag} {mg : Str → Option Value} {base : Heap} {N ps : List Str} {qual : Str} {scope : Scope} {f : Addr} {cd : Value} {A : Around} {outer : List Env} {s s1 : Shared} {H : Hp} {E : XK} {us : List Value} {vs : List V}
    (S : FnScope N ps scope) (hd : A.handled = none) (e0 : Env0 P w K mg base A outer s H) (hl : vs.length = ps.length) (r : Vals vs us)
    (x : InCallC s s.heap.objs.size (bindL (envOfC qual scope s.heap.objs.size f cd).kindOf (ps.zip us) fun _ => none) (cellsFrom (s.heap.objs.size + 1) scope.names []) (bindC (envOfC qual scope s.heap.objs.size f cd).kindOf (ps.zip us) fun _ => none) s1) :
    Inv (cxOf CX P w K mg base N qual scope f cd A outer s H E) [] (start N vs) H s1 := by
  have hpl : ps.length ≤ N.length := by have := congrArg List.length S.pre; rw [List.length_take] at this; omega
  obtain ⟨h1, tk, rfl, hk⟩ := x.done
  have noA : ∀ b : Addr, b ∉ (cxOf CX P w K mg base N qual scope f cd A outer s H E).ex := fun b z => absurd (show b ∈ ([] : List Addr) from z) (by simp)
  refine ⟨⟨e0.mod, S.kind, rfl, rfl, Nat.le_refl _, fun y z c h1 h2 => ?_, fun y hy => ?_, fun y c _ h => ?_, fun _ => hd, Around.frames_deeper e0.frames, .inr ⟨rfl, rfl⟩, fun b z => absurd z (noA b), e0.bs, e0.bsz, fun b _ _ => noA b, fun b z => absurd z (noA b), e0.funs, e0.frf⟩,
    rfl, e0.bare, Un.kept hk, ⟨_, x.toInCall.ns, fun i y v h1 h2 h3 => ?_⟩, fun y c h => ⟨_, x.cell y c h⟩, e0.hok.fresh (Nat.le_refl _), fun y c h => ?_, fun p hp => absurd (show p ∈ ([] : List (Addr × Obj)) from hp) (by simp), e0.hok.kept hk, ?_⟩
  · exact name_of_addr x.apart (PySem.mem_of_lookup h1) (PySem.mem_of_lookup h2)
  · have hy : scope.names.lookup y = some .cell ∨ scope.names.lookup y = some .free := hy
    rcases hy with hy | hy
    · exact cell_has hy
    · exact absurd rfl (S.nofree _ (PySem.mem_of_lookup hy))
  · exact Nat.le_of_lt (x.above y c (PySem.mem_of_lookup h))
  · have hi : i < vs.length := by
      unfold start at h2
      by_cases hi : i < vs.length
      · exact hi
      · rw [List.getElem?_append_right (by simpa using hi)] at h2
        rw [List.getElem?_replicate] at h2
        split at h2 <;> cases h2
    have ha : vs[i]? = some v := by
      unfold start at h2
      rw [List.getElem?_append_left (by simpa using hi), List.getElem?_map] at h2
      cases e : vs[i]? with
      | none => rw [e] at h2; cases h2
      | some a => rw [e] at h2; cases h2; rfl
    obtain ⟨u, hu, rv⟩ := r.get ha
    have hp : ps[i]? = some y := by
      rw [← S.pre, List.getElem?_take_of_lt (by omega)]; exact h1
    have ndP : ps.Nodup := by rw [← S.pre]; exact S.nd.sublist (List.take_sublist _ _)
    refine ⟨u, rv, ?_⟩
    rcases S.par y (List.mem_of_getElem? hp) with k | k
    · exact .inl ⟨k, bindL_get ndP hp hu k⟩
    · obtain ⟨c, e⟩ := cell_has (n := s.heap.objs.size + 1) k
      refine .inr ⟨.inl k, c, e, ?_⟩
      have q := x.cell y c e
      rw [bindC_get ndP hp hu (by show scope.names.lookup y ≠ _; rw [k]; decide)] at q
      exact q
  · exact e0.hok.fresh (Nat.le_of_lt (x.above y c (PySem.mem_of_lookup h)))
  · unfold start
    show _ = N.length
    rw [List.length_append, List.length_map, List.length_replicate]
    omega

theorem fn_of {CX : CXT} {P : Program} {w : World} {K : PySem.W.Frag} {mg : Str → Option Value} {base : Heap} {k : Nat} {f : Addr} {name qual : Str} {params : Arguments} {body : List Stmt} {scope : Scope} {dV kV doc pm cdv ct oc : Value} {an od : Option Addr}
    {osl : Array (Option Value)} {N ps : List Str} {sp : Sp} (lk : K.lookup f = some ⟨oc, od, .func (PySem.W.fnOf name qual params body scope dV kV doc pm an cdv ct), osl⟩) (hcd : PySem.W.codeIn K cdv qual = true) (S : FnScope N ps scope)
    (len : ∀ vs H Q E, sp vs H Q E → vs.length = ps.length)
    (hbody : ∀ (A : Around) (outer : List Env) (s : Shared) (H : Hp) (vs : List V) (Q : VK) (E : XK), Room k (A.deeper (envOfC qual scope s.heap.objs.size f cdv)) → sp vs H Q E →
      ∃ t, PSs (cxOf CX P w K mg base N qual scope f cdv A outer s H E) body t ∧ t { nx := fun _ H' => Q .non H', rt := Q } (start N vs) H) :
    FnOk P w K mg base CX (k + 1) f (PySem.W.fnOf name qual params body scope dV kV doc pm an cdv ct) ps sp := by
  refine ⟨len, fun A outer s H args us vs Q E hr e0 hb r hsp => ?_⟩
  have hl := len _ _ _ _ hsp
  have KX : K.In s.heap := e0.mod.kin.keeps fun b o e => (e0.bs b o e).1
  have lim : s.heap.NoLimit := e0.mod.nolimit.keeps fun b o e => (e0.bs b o e).1
  have hkind : ∀ y ∈ ps.zip us, scope.names.lookup y.1 = some .local ∨ (scope.names.lookup y.1 = some .cell ∧ ((cellsFrom (s.heap.objs.size + 1) scope.names []).lookup y.1).isSome = true) := fun ⟨n, v⟩ hy => by
    rcases S.par n (List.of_mem_zip hy).1 with q | q
    · exact .inl q
    · exact .inr ⟨q, PySem.W.cellsFrom_some _ _ _ (.inl q)⟩
  refine codeAny_call_function hr.depth (KX _ _ lk) rfl S.co S.gen rfl (PySem.W.codeRec_of KX hcd) (hb _ _ _ _ ?_)
  refine wpAny_newFunctionEnv_cells S.kind hkind fun env he s1 x => ?_
  subst he
  refine ⟨lim.keeps x.toInCall.keep, codeAny_func ?_⟩
  obtain ⟨t, ht, hq⟩ := hbody A outer s H vs Q E (hr.deeper _) hsp
  have I : Inv (cxOf CX P w K mg base N qual scope f cdv A outer s H E) [] (start N vs) H s1 := inv_start S hr.hd e0 hl r x
  refine wpAny_mono (ht [] s1 (start N vs) H _ I hq) (fun fl s' hs => ?_) fun e s' hs => hs
  have fin : ∀ {σ' : St} {H' : Hp} {v : V} {u : Value}, Inv (cxOf CX P w K mg base N qual scope f cdv A outer s H E) [] σ' H' s' → RelV v u → Q v H' → CE outer P w H s Q u s' :=
    fun {σ' H' v u} J rv q => ⟨v, H', J.os, J.bare, J.base, J.hok, rv, q⟩
  cases fl with
  | ret u =>
    obtain ⟨v, σ', H', J, rv, q⟩ := hs
    exact fin J rv q
  | next =>
    obtain ⟨σ', H', J, q⟩ := hs
    exact fin (v := V.non) (u := Value.none) J rfl q
  | brk =>
    obtain ⟨_, _, _, q⟩ := hs
    exact False.elim q
  | cont =>
    obtain ⟨_, _, _, q⟩ := hs
    exact False.elim q
end L2

namespace L2
open PySem PySem.Spec PyProof.Rows
section
variable {X : Cx} {x : Str} {p pos : Pos} {e : Expr} {es : List Expr} {t : TA} {id T : String} {r : List V → Hp → VK → Prop}

def tCB (r : List V → Hp → VK → Prop) (t : TA) : TE := fun σ H Q => t σ H fun vs H1 => r vs H1 Q
theorem pe_callB (hc : CallR X (.builtin id) r) (hg : Gl X x) (hm : X.mg x = none) (hv : bootBuiltins x = some (.builtin id)) (ha : PA X (e :: es) t) (hn : x ≠ "__name__" := by decide) (hdb : (x == ("__debug__" : Str)) = false := by decide)
    (he : starEach (e :: es) X.env = (false, eval e X.env) :: starEach es X.env := by rfl) (hpl : (backTo pos (starEach es X.env)).any (·.1) = false := by rfl) : PE X (.Call (.Name x p) (e :: es) [] pos) (tCB r t) := by
  intro pins s σ H Q I h
  refine wpAny_Call_Name_kw (ld_blt I hg hm hv ?_ hn hdb)
  exact PyProof.Rows.callWith_builtin1 (thn (ha pos pins s σ H _ I h) fun us s1 ⟨vs, H1, I1, r1, q1⟩ => hc pins s1 σ H1 vs us Q I1 r1 q1) he hpl
theorem pe_callTy (hc : CallR X (.type T) r) (hg : Gl X x) (hm : X.mg x = none) (hv : bootBuiltins x = some (.type T)) (ha : PA X (e :: es) t) (hn : x ≠ "__name__" := by decide) (hdb : (x == ("__debug__" : Str)) = false := by decide)
    (he : starEach (e :: es) X.env = (false, eval e X.env) :: starEach es X.env := by rfl) (hpl : (backTo pos (starEach es X.env)).any (·.1) = false := by rfl) : PE X (.Call (.Name x p) (e :: es) [] pos) (tCB r t) := by
  intro pins s σ H Q I h
  refine wpAny_Call_Name_kw (ld_blt I hg hm hv ?_ hn hdb)
  exact PyProof.Rows.callWith_type1 (thn (ha pos pins s σ H _ I h) fun us s1 ⟨vs, H1, I1, r1, q1⟩ => hc pins s1 σ H1 vs us Q I1 r1 q1) he hpl
end
end L2

namespace HT
open PySem PyProof.Rows

section
open PySem.SeqAt
open PySem.AutoSeq1 (wpAny_loadPart')
open PySem.MeetsSeq PySem.MeetsSeq2 PySem.MeetsSeq3

end

section
variable {prog : Program} {w : World} {A : Around} {E : Value → Shared → Prop} {s : Shared}

def sIx (n d : Nat) : Option Int → Nat
  | none => d
  | some v => if v < 0 then (v + (n : Int)).toNat else min v.toNat n
theorem sIx_none (n d : Nat) : sIx n d none = d := rfl
theorem sIx_nat (n d k : Nat) : sIx n d (some (k : Int)) = min k n := by
  show (if (k : Int) < 0 then ((k : Int) + (n : Int)).toNat else min (k : Int).toNat n) = min k n
  rw [if_neg (by omega), Int.toNat_natCast]
end
end HT

namespace L2
open PySem PySem.Spec PyProof.Rows

abbrev TO := St → Hp → (Option Int → Hp → Prop) → Prop
def PO (X : Cx) (e : Option Expr) (t : TO) : Prop :=
  ∀ (pins : List (Addr × Obj)) (s : Shared) (σ : St) (H : Hp) (Q : Option Int → Hp → Prop), Inv X pins σ H s → t σ H Q →
    wpAny (model X.prog X.w) X.A (evalPart e X.env) (fun u s' => ∃ o H', Inv X pins σ H' s' ∧ IsPart u o ∧ Q o H') X.xe s
def tNoPart : TO := fun _ H Q => Q none H
def tPart (t : TE) : TO := fun σ H Q => t σ H fun x H1 => ∃ i, x = .int i ∧ Q (some i) H1

section
variable {X : Cx} {e : Expr} {te : TE} {lo hi : Option Expr} {tl th : TO} {pos p2 : Pos}

theorem po_none : PO X none tNoPart := by
  intro pins s σ H Q I h
  rw [evalPart_none]
  exact wpAny_pure ⟨none, H, I, .none, h⟩
theorem po_some (h : PE X e te) : PO X (some e) (tPart te) := by
  intro pins s σ H Q I hw
  rw [evalPart_some]
  refine thn (h pins s σ H _ I hw) fun u s1 ⟨x, H1, I1, r1, q1⟩ => ?_
  obtain ⟨i, rfl, q⟩ := q1
  obtain ⟨t, rfl⟩ := r1
  exact ⟨some i, H1, I1, .int i t, q⟩

def SlR (X : Cx) (r : V → Option Int → Option Int → Hp → VK → Prop) : Prop :=
  ∀ (pins : List (Addr × Obj)) (s : Shared) (σ : St) (H : Hp) (x : V) (v vl vu : Value) (lo hi : Option Int) (sl : Addr) (Q : VK), Inv X pins σ H s → RelV x v → s.heap.IsSliceOf sl vl vu .none → IsPart vl lo → IsPart vu hi → r x lo hi H Q →
    ∃ T id, typeLookup (.type T) "__getitem__" = pure (some (.builtin id)) ∧ s.TypeIs v T ∧ wpAny (model X.prog X.w) X.A (getItem v (.ref sl)) (EP X pins σ Q) X.xe s
theorem SlR.or {r r' : V → Option Int → Option Int → Hp → VK → Prop} (h : SlR X r) (h' : SlR X r') : SlR X (fun x lo hi H Q => r x lo hi H Q ∨ r' x lo hi H Q) := by
  intro pins s σ H x v vl vu lo hi sl Q I rx hs pl pu q
  rcases q with q | q
  · exact h pins s σ H x v vl vu lo hi sl Q I rx hs pl pu q
  · exact h' pins s σ H x v vl vu lo hi sl Q I rx hs pl pu q
def tSl (r : V → Option Int → Option Int → Hp → VK → Prop) (te : TE) (tl th : TO) : TE := fun σ H Q => te σ H fun x H1 => tl σ H1 fun l H2 => th σ H2 fun u H3 => r x l u H3 Q
theorem pe_slice {r : V → Option Int → Option Int → Hp → VK → Prop} (hr : SlR X r) (he : PE X e te) (hl : PO X lo tl) (hu : PO X hi th) : PE X (.Subscript e (.Slice lo hi none p2) pos) (tSl r te tl th) := by
  intro pins s σ H Q I h
  refine Subscript_ (thn (he pins s σ H _ I h) fun v s1 ⟨x, H1, I1, r1, q1⟩ => ?_)
  refine wpAny_Slice (thn (hl pins s1 σ H1 _ I1 q1) fun vl s2 ⟨l, H2, I2, pl, q2⟩ => thn (hu pins s2 σ H2 _ I2 q2) fun vu s3 ⟨u, H3, I3, pu, q3⟩ => ?_)
  rw [evalPart_none]
  refine wpAny_pure ?_
  have I4 : Inv X pins σ H3 { s3 with heap := s3.heap.push { cls := .type "slice", data := .fields #[vl, vu, .none] } } := I3.kept (t' := s3.toks) fun b ob q => Heap.get?_push_of_some _ q
  obtain ⟨T, id, hT, ht, hg⟩ := hr pins { s3 with heap := s3.heap.push { cls := .type "slice", data := .fields #[vl, vu, .none] } } σ H3 x v vl vu l u s3.heap.objs.size Q I4 r1 (Heap.IsSliceOf.new ..) pl pu q3
  show wpAny (model X.prog X.w) X.A (subscriptTail e (.Slice lo hi none p2) v (.ref s3.heap.objs.size)) (EP X pins σ Q) X.xe { s3 with heap := s3.heap.push { cls := .type "slice", data := .fields #[vl, vu, .none] } }
  exact tail_any (ops := [.ref s3.heap.objs.size, v]) ht hT hg (by with_unfolding_all rfl)

def cutV (xs : List V) (lo hi : Option Int) : List V := (xs.drop (HT.sIx xs.length 0 lo)).take (HT.sIx xs.length xs.length hi - HT.sIx xs.length 0 lo)
theorem cutV_length (xs : List V) (lo hi : Option Int) : (cutV xs lo hi).length ≤ xs.length := by
  unfold cutV
  rw [List.length_take, List.length_drop]
  omega
theorem Vals.nil_iff {xs : List V} {us : List Value} (r : Vals xs us) : us = [] ↔ xs = [] := by
  cases r with
  | nil => simp
  | cons _ _ => simp
end
end L2

namespace L2
open PySem PySem.Spec PyProof.Rows

def ixN (n : Nat) (i : Int) : Option Nat := if 0 ≤ i then (if i < n then some i.toNat else none) else if -(n : Int) ≤ i then some (i + n).toNat else none
def atI {α : Type} (xs : List α) (i : Int) : Option α := (ixN xs.length i).bind fun j => xs[j]?
theorem ixN_seq {n : Nat} {i : Int} {j : Nat} (h : ixN n i = some j) : seqIndex? i n = some j ∧ j < n ∧ -(n : Int) ≤ i ∧ i < n := by
  unfold ixN at h
  by_cases h0 : 0 ≤ i
  · rw [if_pos h0] at h
    by_cases h1 : i < n
    · rw [if_pos h1] at h
      have e : i.toNat = j := Option.some.inj h
      exact ⟨by rw [seqIndex_of h0 h1, e], by omega, by omega, h1⟩
    · rw [if_neg h1] at h; cases h
  · rw [if_neg h0] at h
    by_cases h1 : -(n : Int) ≤ i
    · rw [if_pos h1] at h
      have e : (i + n).toNat = j := Option.some.inj h
      exact ⟨by rw [seqIndex_neg (by omega) h1, e], by omega, h1, by omega⟩
    · rw [if_neg h1] at h; cases h
theorem atI_get {α : Type} {xs : List α} {i : Int} {v : α} (h : atI xs i = some v) : ∃ j, seqIndex? i xs.length = some j ∧ xs[j]? = some v ∧ j < xs.length ∧ -(xs.length : Int) ≤ i ∧ i < xs.length := by
  unfold atI at h
  cases e : ixN xs.length i with
  | none => rw [e] at h; cases h
  | some j =>
    rw [e] at h
    obtain ⟨h1, h2, h3, h4⟩ := ixN_seq e
    exact ⟨j, h1, h, h2, h3, h4⟩
theorem atI_nat {α : Type} {xs : List α} {j : Nat} {v : α} (h : xs[j]? = some v) : atI xs (j : Int) = some v := by
  have hj : j < xs.length := (List.getElem?_eq_some_iff.mp h).1
  have e : ixN xs.length (j : Int) = some j := by
    unfold ixN
    rw [if_pos (by omega), if_pos (by omega)]; simp
  unfold atI; rw [e]; exact h
def PlainIx (b : Expr) : Prop := ∀ o i, subscripted b false o i = operate [o, i] (getItem o i)
def IxR (X : Cx) (r : R2) : Prop :=
  ∀ (value slice : Expr) (pins : List (Addr × Obj)) (s : Shared) (σ : St) (H : Hp) (x y : V) (v u : Value) (Q : VK), Inv X pins σ H s → RelV x v → RelV y u → r x y H Q →
    subscripted slice false v u = operate [v, u] (getItem v u) → wpAny (model X.prog X.w) X.A (subscriptTail value slice v u) (EP X pins σ Q) X.xe s
def MtR (X : Cx) (id : String) (r : V → List V → Hp → VK → Prop) : Prop :=
  ∀ (pins : List (Addr × Obj)) (s : Shared) (σ : St) (H : Hp) (x : V) (xs : List V) (v : Value) (us : List Value) (Q : VK), Inv X pins σ H s → RelV x v → Vals xs us → r x xs H Q →
    wpAny (model X.prog X.w) X.A (call (.builtin id) (v :: us)) (EP X pins σ Q) X.xe s
section
variable {X : Cx} {a b : Expr} {ta tb : TE} {pos : Pos}
theorem IxR.or {r r' : R2} (h : IxR X r) (h' : IxR X r') : IxR X (fun x y H Q => r x y H Q ∨ r' x y H Q) := by
  intro value slice pins s σ H x y v u Q I rx ry q hs
  rcases q with q | q
  · exact h value slice pins s σ H x y v u Q I rx ry q hs
  · exact h' value slice pins s σ H x y v u Q I rx ry q hs
theorem MtR.or {id : String} {r r' : V → List V → Hp → VK → Prop} (h : MtR X id r) (h' : MtR X id r') : MtR X id (fun x xs H Q => r x xs H Q ∨ r' x xs H Q) := by
  intro pins s σ H x xs v us Q I rx rs q
  rcases q with q | q
  · exact h pins s σ H x xs v us Q I rx rs q
  · exact h' pins s σ H x xs v us Q I rx rs q
theorem pe_ix {r : R2} (hr : IxR X r) (ha : PE X a ta) (hb : PE X b tb) (hs : PlainIx b) : PE X (.Subscript a b pos) (tOp r ta tb) := by
  intro pins s σ H Q I h
  exact Subscript_ (binT ha hb I h fun v u s2 x y H2 I2 rx ry q => hr a b pins s2 σ H2 x y v u Q I2 rx ry q (hs _ _))

def rIxL (K : PySem.W.Frag) : R2 := fun x y H Q => ∃ p xs i v, x = .ref p ∧ y = .int i ∧ SqL K H p xs ∧ atI xs i = some v ∧ Q v H
def rIxT (K : PySem.W.Frag) : R2 := fun x y H Q => ∃ p xs i v, x = .ref p ∧ y = .int i ∧ SqT K H p xs ∧ atI xs i = some v ∧ Q v H
def rIxS : R2 := fun x y H Q => ∃ z i c, x = .str z ∧ y = .int i ∧ z.length ≤ sizeLine ∧ atI z.cps.toList i = some c ∧ Q (.str ⟨#[c]⟩) H
theorem ix_list : IxR X (rIxL X.K) := by
  intro value slice pins s σ H x y v u Q I rx ry h hs
  obtain ⟨p, xs, i, z, rfl, rfl, hq, he, q⟩ := h
  cases rx
  obtain ⟨t, rfl⟩ := ry
  obtain ⟨its, r, pl, hz⟩ := I.list hq
  obtain ⟨j, h1, h2, h3, h4, h5⟩ := atI_get he
  obtain ⟨w, ew, rw'⟩ := r.get h2
  have hl := r.length
  have hn := line63
  have fin : EP X pins σ Q w s := ⟨z, H, I, rw', q⟩
  by_cases h0 : 0 ≤ i
  · have hj : i.toNat = j := by
      rw [seqIndex_of h0 h5] at h1
      exact Option.some.inj h1
    exact item_listR pl.isList h0 (by omega) (by rw [hj]; simpa using ew) fin hs
  · have hj : (i + (its.toArray.size : Int)).toNat = j := by
      rw [seqIndex_neg (by omega) h4] at h1
      rw [List.size_toArray, ← hl]
      exact Option.some.inj h1
    exact subscriptTail_builtinR (x := w) pl.isList.typeIs slot_list_getitem.lookup
      (wpAny_getItem_list_neg (Q := fun r s' => r = w ∧ EP X pins σ Q r s') pl.isList (by omega) (by rw [List.size_toArray] <;> omega) (by omega) (by rw [hj]; simpa using ew) ⟨rfl, fin⟩) hs
theorem ix_tup : IxR X (rIxT X.K) := by
  intro value slice pins s σ H x y v u Q I rx ry h hs
  obtain ⟨p, xs, i, z, rfl, rfl, hq, he, q⟩ := h
  cases rx
  obtain ⟨t, rfl⟩ := ry
  obtain ⟨its, r, pl, hz⟩ := I.tuple hq
  obtain ⟨j, h1, h2, h3, h4, h5⟩ := atI_get he
  obtain ⟨w, ew, rw'⟩ := r.get h2
  have hl := r.length
  have hn := line63
  have fin : EP X pins σ Q w s := ⟨z, H, I, rw', q⟩
  exact subscriptTail_builtinR (x := w) pl.typeIs slot_tuple_getitem.lookup
    (getItem_tuple (j := j) (Q := fun r s' => r = w ∧ EP X pins σ Q r s') pl (by omega) (by omega) (by rw [List.size_toArray, ← hl]; exact h1) (by simpa using ew) ⟨rfl, fin⟩) hs
theorem ix_str : IxR X rIxS := by
  intro value slice pins s σ H x y v u Q I rx ry h hs
  obtain ⟨z, i, c, rfl, rfl, hz, he, q⟩ := h
  obtain ⟨t, rfl⟩ := rx
  obtain ⟨t', rfl⟩ := ry
  obtain ⟨j, h1, h2, h3, h4, h5⟩ := atI_get he
  have hl : z.cps.toList.length = z.length := by simp [Str.length]
  rw [hl] at h1 h4 h5
  have hn := line63
  exact tail_any (typeIs_str s z t) slot_str_getitem.lookup (getItem_str (c := c) (by
    have e1 : decide (i < -(2 ^ 63 : Int)) = false := decide_eq_false (by omega)
    have e2 : decide (i ≥ 2 ^ 63) = false := decide_eq_false (by omega)
    rw [e1, e2, Bool.or_false]) (by rw [h1]; simpa using h2) ⟨.str ⟨#[c]⟩, H, I.tok _, ⟨_, rfl⟩, q⟩) hs
theorem Inv.lst {pins : List (Addr × Obj)} {σ : St} {H : Hp} {s : Shared} {p : Addr} {xs : List V} (I : Inv X pins σ H s) (h : H p = some (.lst xs)) :
    ∃ (its : List Value) (n : Nat), Vals xs its ∧ s.heap.get? p = some { cls := .type "list", data := .seq its.toArray n } ∧ xs.length ≤ sizeLine := by
  obtain ⟨z, its, n, r, e⟩ := I.hok p _ h
  exact ⟨its, n, r, e, z⟩
theorem slice_bounds (lo hi : Option Int) (n : Nat) : (sliceBounds lo hi none n).1 = ((HT.sIx n 0 lo : Nat) : Int) ∧ (sliceBounds lo hi none n).2.1 = ((HT.sIx n n hi : Nat) : Int) ∧ (sliceBounds lo hi none n).2.2 = 1 := by
  refine ⟨?_, ?_, rfl⟩
  · cases lo with
    | none => simp [sliceBounds, HT.sIx]
    | some i =>
      simp only [sliceBounds, HT.sIx, Option.getD_none, show (1 : Int) > 0 by decide, if_true]
      by_cases h : i < 0
      · simp only [h, if_true] <;> omega
      · simp only [h, if_false] <;> omega
  · cases hi with
    | none => simp [sliceBounds, HT.sIx]
    | some i =>
      simp only [sliceBounds, HT.sIx, Option.getD_none, show (1 : Int) > 0 by decide, if_true]
      by_cases h : i < 0
      · simp only [h, if_true] <;> omega
      · simp only [h, if_false] <;> omega
theorem slicePick_cut (its : List Value) (lo hi : Option Int) : slicePick its.toArray lo hi none = ((its.drop (HT.sIx its.length 0 lo)).take (HT.sIx its.length its.length hi - HT.sIx its.length 0 lo)).toArray := by
  obtain ⟨h1, h2, h3⟩ := slice_bounds lo hi its.toArray.size
  unfold slicePick
  rw [h1, h2, h3]
  simp only [sliceRange_one, pick_run, List.size_toArray] <;> rfl
def rSlL (K : PySem.W.Frag) : V → Option Int → Option Int → Hp → VK → Prop := fun x lo hi H Q => ∃ a xs, x = .ref a ∧ SqL K H a xs ∧ ∀ p, H p = none → Q (.ref p) (upd H p (.lst (cutV xs lo hi)))
theorem sl_list : SlR X (rSlL X.K) := by
  intro pins s σ H x v vl vu lo hi sl Q I rx hs pl pu h
  obtain ⟨a, xs, rfl, hx, q⟩ := h
  cases rx
  obtain ⟨its, r, ht, hz⟩ := I.list hx
  have hlen := r.length
  refine ⟨"list", _, slot_list_getitem.lookup, ht.isList.typeIs, ?_⟩
  refine wpAny_getItem_list_slice ht.isList hs pl pu .none (by simp) ?_ (by rw [List.size_toArray] <;> omega)
  rw [slicePick_cut, ← hlen]
  refine ⟨.ref s.heap.objs.size, _, I.laid (t' := s.toks) (o := .lst (cutV xs lo hi)) (fun b ob q => Heap.get?_push_of_some _ q) (Nat.le_refl _) ?_, rfl, q _ (I.hok.fresh (Nat.le_refl _))⟩
  exact ⟨Nat.le_trans (cutV_length xs lo hi) hz, _, 0, (r.drop (HT.sIx xs.length 0 lo)).take (HT.sIx xs.length xs.length hi - HT.sIx xs.length 0 lo), Heap.get?_push_size _ rfl⟩

def flatV : V → Bool
  | .non => true
  | .bl _ => true
  | .int _ => true
  | .str _ => true
  | _ => false
def eqV : V → V → Bool
  | .non, .non => true
  | .bl a, .bl b => a == b
  | .bl a, .int b => (if a then 1 else 0) == b
  | .int a, .bl b => a == (if b then 1 else 0)
  | .int a, .int b => a == b
  | .str a, .str b => a == b
  | _, _ => false
theorem eqAt_V {A : Around} {s : Shared} {y x : V} {u v : Value} (ry : RelV y u) (rx : RelV x v) (fy : flatV y = true) (fx : flatV x = true) : SeqAt.EqAt A s u v (eqV y x) := by
  cases y with
  | non =>
    cases ry
    cases x with
    | non => cases rx; exact SeqAt.EqAt.same _
    | bl b => cases rx; exact SeqAt.EqAt.none_bool b
    | int b => obtain ⟨t, rfl⟩ := rx; exact SeqAt.EqAt.none_int b t
    | str b => obtain ⟨t, rfl⟩ := rx; exact SeqAt.EqAt.none_str b t
    | _ => exact absurd (show false = true from fx) Bool.false_ne_true
  | bl a =>
    cases ry
    cases x with
    | non => cases rx; exact SeqAt.EqAt.bool_none a
    | bl b => cases rx; exact SeqAt.EqAt.bool_bool a b
    | int b => obtain ⟨t, rfl⟩ := rx; exact SeqAt.EqAt.bool_int a b t
    | str b => obtain ⟨t, rfl⟩ := rx; exact SeqAt.EqAt.bool_str a b t
    | _ => exact absurd (show false = true from fx) Bool.false_ne_true
  | int a =>
    obtain ⟨t', rfl⟩ := ry
    cases x with
    | non => cases rx; exact SeqAt.EqAt.int_none a t'
    | bl b => cases rx; exact SeqAt.EqAt.int_bool a t' b
    | int b => obtain ⟨t, rfl⟩ := rx; exact SeqAt.EqAt.int_int a t' b t
    | str b => obtain ⟨t, rfl⟩ := rx; exact SeqAt.EqAt.int_str a t' b t
    | _ => exact absurd (show false = true from fx) Bool.false_ne_true
  | str a =>
    obtain ⟨t', rfl⟩ := ry
    cases x with
    | non => cases rx; exact SeqAt.EqAt.str_none a t'
    | bl b => cases rx; exact SeqAt.EqAt.str_bool a t' b
    | int b => obtain ⟨t, rfl⟩ := rx; exact SeqAt.EqAt.str_int a t' b t
    | str b => obtain ⟨t, rfl⟩ := rx; exact SeqAt.EqAt.str_str a t' b t
    | _ => exact absurd (show false = true from fx) Bool.false_ne_true
  | _ => exact absurd (show false = true from fy) Bool.false_ne_true
def eqU (x : V) (u : Value) : Bool := match u with
  | .none => eqV .non x
  | .bool b => eqV (.bl b) x
  | .int i _ => eqV (.int i) x
  | .str z _ => eqV (.str z) x
  | _ => false
theorem eqU_of {x y : V} {u : Value} (r : RelV y u) (f : flatV y = true) : eqU x u = eqV y x := by
  cases y with
  | non => cases r; rfl
  | bl b => cases r; rfl
  | int i => obtain ⟨t, rfl⟩ := r; rfl
  | str z => obtain ⟨t, rfl⟩ := r; rfl
  | _ => exact absurd (show false = true from f) Bool.false_ne_true
theorem any_eqU {x : V} : ∀ {xs : List V} {us : List Value}, Vals xs us → xs.all flatV = true → us.any (eqU x) = xs.any fun y => eqV y x
  | _, _, .nil, _ => rfl
  | y :: xs, u :: us, .cons r t, f => by
    rw [List.all_cons, Bool.and_eq_true] at f
    rw [List.any_cons, List.any_cons, eqU_of r f.1, any_eqU t f.2]
theorem mem_eqAt {A : Around} {s : Shared} {x : V} {v : Value} (rx : RelV x v) (fx : flatV x = true) : ∀ {xs : List V} {us : List Value}, Vals xs us → xs.all flatV = true → ∀ u ∈ us, SeqAt.EqAt A s u v (eqU x u)
  | _, _, .nil, _ => fun u hu => by cases hu
  | y :: xs, u :: us, .cons r t, f => fun u' hu => by
    rw [List.all_cons, Bool.and_eq_true] at f
    rcases List.mem_cons.mp hu with rfl | hu
    · rw [eqU_of r f.1]; exact eqAt_V r rx f.1 fx
    · exact mem_eqAt rx fx t f.2 u' hu
def inV (x : V) (xs : List V) : Bool := xs.any fun y => eqV y x
def rIn (K : PySem.W.Frag) (neg : Bool) : R2 := fun x y H Q => ∃ p xs, y = .ref p ∧ (SqL K H p xs ∨ SqT K H p xs) ∧ flatV x = true ∧ xs.all flatV = true ∧ Q (.bl (if neg then !inV x xs else inV x xs)) H
theorem op_notIn_seq : OpR X (compareOp .NotIn) (rIn X.K true) := by
  intro pins s σ H x y v u Q I rx ry h
  obtain ⟨p, xs, rfl, hq, fx, fs, q⟩ := h
  cases ry
  rcases hq with hq | hq
  · obtain ⟨its, r, pl, hz⟩ := I.list hq
    refine SeqAt.notIn_listAt (eqU x) pl.isList (fun w hw => mem_eqAt rx fx r fs w (by simpa using hw)) ⟨.bl _, H, I, rfl, ?_⟩
    rw [show its.toArray.any (eqU x) = its.any (eqU x) by simp, any_eqU r fs]
    exact q
  · obtain ⟨its, r, pl, hz⟩ := I.tuple hq
    refine SeqAt.notIn_tupleAt (eqU x) pl (fun w hw => mem_eqAt rx fx r fs w (by simpa using hw)) ⟨.bl _, H, I, rfl, ?_⟩
    rw [show its.toArray.any (eqU x) = its.any (eqU x) by simp, any_eqU r fs]
    exact q
theorem call_len_seq : CallR X (.builtin "len") (fun xs H Q => ∃ p ys, xs = [.ref p] ∧ (SqL X.K H p ys ∨ SqT X.K H p ys) ∧ Q (.int ys.length) H) := by
  intro pins s σ H xs us Q I r h
  obtain ⟨p, ys, rfl, hq, q⟩ := h
  obtain ⟨u, rfl, rx⟩ := vals1 r
  cases rx
  have hn := line63
  rcases hq with hq | hq
  · obtain ⟨its, r', pl, hz⟩ := I.list hq
    have hlen := r'.length
    exact Calls.call_len_list pl.isList (by simp only [List.size_toArray] <;> omega) ⟨.int ys.length, H, I.tok _, ⟨s.toks + 1, by rw [List.size_toArray, hlen]⟩, q⟩
  · obtain ⟨its, r', pl, hz⟩ := I.tuple hq
    have hlen := r'.length
    exact len_tuple pl (by simp only [List.size_toArray] <;> omega) ⟨.int ys.length, H, I.tok _, ⟨s.toks + 1, by rw [List.size_toArray, hlen]⟩, q⟩
theorem call_len_str : CallR X (.builtin "len") (fun xs H Q => ∃ z, xs = [.str z] ∧ z.length ≤ sizeLine ∧ Q (.int z.length) H) := by
  intro pins s σ H xs us Q I r h
  obtain ⟨z, rfl, hz, q⟩ := h
  obtain ⟨u, rfl, t, rfl⟩ := vals1 r
  have hn := line63
  exact len_str (by omega) ⟨.int z.length, H, I.tok _, ⟨_, rfl⟩, q⟩
theorem CallR.or {f : Value} {r r' : List V → Hp → VK → Prop} (h : CallR X f r) (h' : CallR X f r') : CallR X f (fun xs H Q => r xs H Q ∨ r' xs H Q) := by
  intro pins s σ H xs us Q I rs q
  rcases q with q | q
  · exact h pins s σ H xs us Q I rs q
  · exact h' pins s σ H xs us Q I rs q
theorem call_list_of : CallR X (.type "list") (fun xs H Q => ∃ p ys, xs = [.ref p] ∧ (SqL X.K H p ys ∨ SqT X.K H p ys) ∧ ∀ l, H l = none → Q (.ref l) (upd H l (.lst ys))) := by
  intro pins s σ H xs us Q I r h
  obtain ⟨p, ys, rfl, hq, q⟩ := h
  obtain ⟨u, rfl, rx⟩ := vals1 r
  cases rx
  have fin : ∀ (its : List Value), Vals ys its → ys.length ≤ sizeLine → ∀ (h' : Heap) (c' : Nat), (∀ b o', s.heap.get? b = some o' → h'.get? b = some o') →
      h'.get? s.heap.objs.size = some { cls := .type "list", dict := none, data := .seq its.toArray c', slots := #[] } → EP X pins σ Q (.ref s.heap.objs.size) { s with heap := h' } := fun its r' hz h' c' kp e =>
    ⟨.ref s.heap.objs.size, _, I.laid (t' := s.toks) kp (Nat.le_refl _) (show ObjOk X.prog X.w _ h' _ (.lst ys) from ⟨hz, its, c', r', e⟩), rfl, q _ (I.hok.fresh (Nat.le_refl _))⟩
  rcases hq with hq | hq
  · obtain ⟨its, r', pl, hz⟩ := I.list hq
    have hlen := r'.length
    obtain ⟨o, ho, hc, n, hd⟩ := pl.isList
    exact call_list_seq p (.inl rfl) ho hc hd (fun h' c' kp e => fin its r' hz h' c' kp e) (by simp only [List.size_toArray] <;> omega)
  · obtain ⟨its, r', pl, hz⟩ := I.tuple hq
    have hlen := r'.length
    obtain ⟨o, ho, hc, n, hd⟩ := pl
    exact call_list_seq p (.inr rfl) ho hc hd (fun h' c' kp e => fin its r' hz h' c' kp e) (by simp only [List.size_toArray] <;> omega)
theorem call_tuple_of : CallR X (.type "tuple") (fun xs H Q => ∃ p ys, xs = [.ref p] ∧ ((SqL X.K H p ys ∧ ∀ l, H l = none → Q (.ref l) (upd H l (.tup ys))) ∨ (SqT X.K H p ys ∧ Q (.ref p) H))) := by
  intro pins s σ H xs us Q I r h
  obtain ⟨p, ys, rfl, h⟩ := h
  obtain ⟨u, rfl, rx⟩ := vals1 r
  cases rx
  rcases h with ⟨hq, q⟩ | ⟨hq, q⟩
  · obtain ⟨its, r', pl, hz⟩ := I.list hq
    have hlen := r'.length
    refine call_tuple_list pl.isList (fun h' kp => ?_) (by simp only [List.size_toArray] <;> omega)
    have I1 : Inv X pins σ H { s with heap := h' } := I.kept (t' := s.toks) kp
    have I2 : Inv X pins σ (upd H h'.objs.size (.tup ys)) { s with heap := h'.push { cls := .type "tuple", data := .seq its.toArray } } :=
      I1.laid (t' := s.toks) (fun b o e => Heap.get?_push_of_some _ e) (Nat.le_refl _) (show ObjOk X.prog X.w _ _ _ (.tup ys) from ⟨hz, its, r', IsTup.new _ _⟩)
    exact ⟨.ref h'.objs.size, _, I2, rfl, q _ (I1.hok.fresh (Nat.le_refl _))⟩
  · obtain ⟨its, r', pl, hz⟩ := I.tuple hq
    exact call_tuple_same pl ⟨.ref p, H, I, rfl, q⟩

def tyV (K : PySem.W.Frag) (T : String) (x : V) (H : Hp) : Prop := match x with
  | .str _ => T = "str"
  | .int _ => T = "int"
  | .ref p => (T = "list" ∧ ∃ xs, SqL K H p xs) ∨ (T = "tuple" ∧ ∃ o, K.lookup p = some o ∧ o.cls = .type "tuple" ∧ o.dict = none) ∨
      (T = "dict" ∧ ((∃ kvs, H p = some (.dK kvs)) ∨ ∃ kvs, H p = some (.dT kvs))) ∨ (T = "set" ∧ ∃ S n, H p = some (.set S n))
  | _ => False
theorem tyV_is {pins : List (Addr × Obj)} {σ : St} {H : Hp} {s : Shared} {T : String} {x : V} {v : Value} (I : Inv X pins σ H s) (r : RelV x v) (ty : tyV X.K T x H) :
    s.TypeIs v T ∧ ∀ a, v = .ref a → ∃ ob, s.heap.get? a = some ob ∧ ob.dict = none := by
  cases x with
  | str z =>
    obtain ⟨t, rfl⟩ := r
    cases (show T = "str" from ty)
    exact ⟨typeIs_str s z t, fun _ e => nomatch e⟩
  | int i =>
    obtain ⟨t, rfl⟩ := r
    cases (show T = "int" from ty)
    exact ⟨typeIs_int s i t, fun _ e => nomatch e⟩
  | ref p =>
    cases r
    rcases ty with ⟨rfl, xs, hq⟩ | ⟨rfl, o, hk, hc, hd⟩ | ⟨rfl, hk⟩ | ⟨rfl, S, n, hk⟩
    · obtain ⟨its, _, pl, _⟩ := I.list hq
      refine ⟨pl.isList.typeIs, fun a e => ?_⟩
      cases e
      obtain ⟨o, n, e, c, hd, _⟩ := pl
      exact ⟨o, e, hd⟩
    · refine ⟨⟨o, I.kIn p o hk, hc⟩, fun a e => ?_⟩
      cases e
      exact ⟨o, I.kIn _ o hk, hd⟩
    · have z : ∃ o, s.heap.get? p = some o ∧ o.ExactDict := by
        rcases hk with ⟨kvs, hk⟩ | ⟨kvs, hk⟩
        · obtain ⟨_, _, _, _, o, _, _, e, ex, _⟩ := I.hok p _ hk
          exact ⟨o, e, ex⟩
        · obtain ⟨_, _, _, _, o, _, _, e, ex, _⟩ := I.hok p _ hk
          exact ⟨o, e, ex⟩
      obtain ⟨o, e, ex⟩ := z
      refine ⟨⟨o, e, ex.1⟩, fun a e2 => ?_⟩
      cases e2
      exact ⟨o, e, ex.2.1⟩
    · obtain ⟨o, _, _, _, e, ex, _⟩ := I.hok p _ hk
      refine ⟨⟨o, e, ex.1⟩, fun a e2 => ?_⟩
      cases e2
      exact ⟨o, e, ex.2.1⟩
  | _ => exact False.elim ty
def tBM (K : PySem.W.Frag) (T : String) (r : V → List V → Hp → VK → Prop) (to : TE) (t : TA) : TE := fun σ H Q => to σ H fun x H1 => tyV K T x H1 ∧ t σ H1 fun xs H2 => r x xs H2 Q
variable {o e : Expr} {es : List Expr} {to : TE} {t : TA} {name : Str} {apos cpos : Pos} {T id : String} {r : V → List V → Hp → VK → Prop}
theorem pe_bm (pa : PlainAttrs T) (slot : Slot T name id) (hty : typeOf (.builtin id) = pure (.type "method_descriptor")) (hm : MtR X id r) (ho : PE X o to) (ha : PA X (e :: es) t)
    (hbase : attributeBase o name X.env (eval o X.env) = eval o X.env := by rfl)
    (hfew : ((backTo cpos (starEach (e :: es) X.env)).all (fun x => !x.1) && (backToKw cpos (keywordEach [] X.env)).all (fun x => x.1.isSome)
      && decide ((e :: es).length + ([] : List Keyword).length + (if ([] : List Keyword).isEmpty then 0 else 1) < 30)) = true := by rfl)
    (hline : (apos.endLine == cpos.line) = true := by rfl) (hs : starEach (e :: es) X.env = (false, eval e X.env) :: starEach es X.env := by rfl) (hplain : (backTo cpos (starEach es X.env)).any (·.1) = false := by rfl) :
    PE X (.Call (.Attribute o name apos) (e :: es) [] cpos) (tBM X.K T r to t) := by
  intro pins s σ H Q I h
  refine wpAny_Call_method_late hbase hfew hline rfl (thn (ho pins s σ H _ I h) fun v s1 ⟨x, H1, I1, r1, ty, q1⟩ => ?_)
  obtain ⟨h1, h2⟩ := tyV_is I1 r1 ty
  refine ⟨T, id, pa, slot, hty, h1, h2, ?_⟩
  have hA := ha cpos pins s1 σ H1 _ I1 q1
  rw [hs] at hA ⊢
  refine Calls.callWith_builtin (by show (false || (backTo cpos (starEach es X.env)).any (·.1)) = false; rw [hplain] <;> rfl) (Calls.evalArgs_plain ?_)
  exact thn hA fun us s2 ⟨vs, H2, I2, r2, q2⟩ => hm pins s2 σ H2 x vs v us Q I2 r1 r2 q2
end
end L2

namespace L2
open PySem PySem.Spec PyProof.Rows

def MtM (X : Cx) (id : String) (r : V → List V → Hp → VK → Prop) : Prop :=
  ∀ (pins : List (Addr × Obj)) (s : Shared) (σ : St) (H : Hp) (x : V) (xs : List V) (v : Value) (us : List Value) (Q : VK), Inv X pins σ H s → RelV x v → Vals xs us → r x xs H Q →
    wpAny (model X.prog X.w) X.A (call (.builtin id) (v :: us)) (EP X pins σ Q) X.xe s

theorem Vals.one : ∀ {x : V} {us : List Value}, Vals [x] us → ∃ u, us = [u] ∧ RelV x u
  | _, _, .cons r .nil => ⟨_, rfl, r⟩
theorem Vals.two : ∀ {x y : V} {us : List Value}, Vals [x, y] us → ∃ u v, us = [u, v] ∧ RelV x u ∧ RelV y v
  | _, _, _, .cons r (.cons q .nil) => ⟨_, _, rfl, r, q⟩
theorem Vals.zero : ∀ {us : List Value}, Vals [] us → us = []
  | _, .nil => rfl
theorem Vals.eraseIdx : ∀ {xs : List V} {us : List Value} (i : Nat), Vals xs us → Vals (xs.eraseIdx i) (us.eraseIdx i)
  | _, _, _, .nil => .nil
  | _, _, 0, .cons _ t => t
  | _, _, i + 1, .cons r t => .cons r (Vals.eraseIdx i t)
theorem Vals.rep {xs : List V} {us : List Value} (h : Vals xs us) : ∀ k : Nat, Vals (List.replicate k xs).flatten (List.replicate k us).flatten
  | 0 => .nil
  | k + 1 => by
    rw [List.replicate_succ, List.replicate_succ, List.flatten_cons, List.flatten_cons]
    exact Vals.append h (Vals.rep h k)
theorem foldl_rep (its : List Value) : ∀ (k : Nat) (acc : List Value),
    List.foldl (fun x1 x2 => x1 ++ x2) acc.toArray (List.replicate k its.toArray) = (acc ++ (List.replicate k its).flatten).toArray
  | 0, acc => by simp
  | k + 1, acc => by
    have e : acc.toArray ++ its.toArray = (acc ++ its).toArray := by simp
    have e2 : (acc ++ its) ++ (List.replicate k its).flatten = acc ++ (List.replicate (k + 1) its).flatten := by
      rw [List.replicate_succ, List.flatten_cons, List.append_assoc]
    rw [← e2, ← foldl_rep its k (acc ++ its), ← e, List.replicate_succ, List.foldl_cons]

section
variable {X : Cx} {pins : List (Addr × Obj)} {σ : St} {H : Hp} {s : Shared} {l b : Addr} {xs ys zs : List V}

theorem Inv.lset {its its' : List Value} {n : Nat} {f : Array Value → Array Value} {t' : Nat} (I : Inv X pins σ H s) (hH : H l = some (.lst xs))
    (e : s.heap.get? l = some { cls := .type "list", data := .seq its.toArray n }) (hf : f its.toArray = its'.toArray) (hv : Vals ys its') (hz : ys.length ≤ sizeLine) :
    Inv X pins σ (upd H l (.lst ys)) { s with heap := s.heap.update l (Obj.mapSeq f), toks := t' } := by
  have q := PySem.IsL.update e f
  rw [hf] at q
  refine I.write (x := l) (e := l) (by rw [hH]; exact trivial) (.inl rfl) (fun b' u hb hu => (Heap.get?_update_other s.heap (Obj.mapSeq f) (Ne.symm hb)).trans hu) ⟨_, q⟩ ?_
  exact ⟨hz, its', _, hv, q⟩
theorem Inv.lnew {its : List Value} {t' : Nat} (I : Inv X pins σ H s) (hv : Vals ys its) (hz : ys.length ≤ sizeLine) :
    Inv X pins σ (upd H s.heap.objs.size (.lst ys)) { s with heap := s.heap.push { cls := .type "list", data := .seq its.toArray }, toks := t' } :=
  I.laid (fun _ _ q => Heap.get?_push_of_some _ q) (Nat.le_refl _) ⟨hz, its, 0, hv, Heap.get?_push_size _ rfl⟩
theorem Inv.fresh (I : Inv X pins σ H s) : H s.heap.objs.size = none := I.hok.fresh (Nat.le_refl _)
theorem Inv.lstM (I : Inv X pins σ H s) (hH : H l = some (.lst xs)) : xs.length ≤ sizeLine ∧ ∃ (its : List Value) (n : Nat), Vals xs its ∧ xs.length = its.length ∧ s.heap.get? l = some { cls := .type "list", data := .seq its.toArray n } := by
  obtain ⟨z, its, n, r, e⟩ := I.hok l _ hH
  exact ⟨z, its, n, r, r.length, e⟩

theorem notLongL {n : Nat} (h : n ≤ sizeLine) : Builtin.List.listTooLong n = false := by
  unfold Builtin.List.listTooLong
  exact decide_eq_false (by omega)
end

section
variable {X : Cx}

def rAppend : V → List V → Hp → VK → Prop := fun x vs H Q => ∃ l xs y, x = .ref l ∧ vs = [y] ∧ H l = some (.lst xs) ∧ xs.length < sizeLine ∧ Q .non (upd H l (.lst (xs ++ [y])))
theorem mt_append : MtM X "list.append" rAppend := by
  intro pins s σ H x vs v us Q I rx rv h
  obtain ⟨l, xs, y, rfl, rfl, hH, hz, q⟩ := h
  cases rx
  obtain ⟨u, rfl, ru⟩ := rv.one
  obtain ⟨z, its, n, r, hl, e⟩ := I.lstM hH
  refine call_meets F.slot_list_append ⟨_, e, rfl⟩ F.entry_list_append (F.args_list_append_2 _ _) (PySem.list_append l its.toArray n u (by rw [List.size_toArray]; omega)) ⟨e, ?_⟩
  refine ⟨.non, _, I.lset (its' := its ++ [u]) hH e (by simp) (r.append (.cons ru .nil)) ?_, rfl, q⟩
  rw [List.length_append, List.length_singleton]
  omega

def rCat : R2 := fun x y H Q => ∃ l b xs zs, x = .ref l ∧ y = .ref b ∧ H l = some (.lst xs) ∧ H b = some (.lst zs) ∧ xs.length + zs.length ≤ sizeLine ∧ ∀ p, H p = none → Q (.ref p) (upd H p (.lst (xs ++ zs)))
theorem op_cat : OpR X (binaryOp .Add) rCat := by
  intro pins s σ H x y v u Q I rx ry h
  obtain ⟨l, b, xs, zs, rfl, rfl, hH, hB, hz, q⟩ := h
  cases rx
  cases ry
  obtain ⟨z, its, n, r, hl, e⟩ := I.lstM hH
  obtain ⟨z2, its2, n2, r2, hl2, e2⟩ := I.lstM hB
  refine PySem.P.add_list e e2 ?_ (by rw [List.size_toArray, List.size_toArray]; omega)
  have ea : its.toArray ++ its2.toArray = (its ++ its2).toArray := by simp
  rw [ea]
  exact ⟨.ref _, _, I.lnew (t' := s.toks) (r.append r2) (by rw [List.length_append]; omega), rfl, q _ I.fresh⟩
def rRep : R2 := fun x y H Q => ∃ l k xs, x = .ref l ∧ y = .int k ∧ H l = some (.lst xs) ∧ -(2 ^ 63) ≤ k ∧ k < 2 ^ 63 ∧ xs.length * k.toNat ≤ sizeLine ∧
  ∀ p, H p = none → Q (.ref p) (upd H p (.lst (List.replicate k.toNat xs).flatten))
theorem len_rep {α : Type} (xs : List α) (k : Nat) : (List.replicate k xs).flatten.length = k * xs.length := by
  induction k with
  | zero => simp
  | succ k ih => rw [List.replicate_succ, List.flatten_cons, List.length_append, ih, Nat.succ_mul, Nat.add_comm]
theorem op_rep : OpR X (binaryOp .Mult) rRep := by
  intro pins s σ H x y v u Q I rx ry h
  obtain ⟨l, k, xs, rfl, rfl, hH, h1, h2, hz, q⟩ := h
  cases rx
  obtain ⟨t, rfl⟩ := ry
  obtain ⟨z, its, n, r, hl, e⟩ := I.lstM hH
  have hlen : its.toArray.size * k.toNat ≤ sizeLine := by rw [List.size_toArray, ← hl]; exact hz
  have hcap : ¬ its.toArray.size * k.toNat > (2 ^ 63 - 1) / 8 := by
    have : (sizeLine : Nat) ≤ (2 ^ 63 - 1) / 8 := by decide
    omega
  have hfit : ¬ (!Builtin.List.listFitsIndex k) = true := by
    rw [fitsIndex_both h1 h2]
    exact Bool.false_ne_true
  have hlong : ¬ Builtin.List.listTooLong (its.toArray.size * k.toNat) = true := by
    rw [notLongL hlen]
    exact Bool.false_ne_true
  have hnew : List.foldl (fun x1 x2 => x1 ++ x2) #[] (List.replicate (if its.toArray.isEmpty = true then 0 else k.toNat) its.toArray) = (List.replicate k.toNat its).flatten.toArray := by
    have f0 : ∀ m : Nat, List.foldl (fun x1 x2 => x1 ++ x2) #[] (List.replicate m its.toArray) = (List.replicate m its).flatten.toArray := fun m => by
      have := foldl_rep its m []
      rw [List.nil_append] at this
      exact this
    rw [f0]
    cases its with
    | nil => simp
    | cons a r' => rw [if_neg (by simp)]
  refine wpAny_binaryOp_repeat_ref (T := "list") (U := "int") (by decide) ⟨_, e, rfl⟩ (fun s' => typeIs_int s' k t) noFill_list_mul F.fills_int_mul F.slot_int_rmul repeat_list F.slot_int_index.lookup
    (call_meets F.slot_int_rmul (typeIs_int s k t) F.entry_int_rmul (F.args_int_rmul_2 _ _) (int___rmul___int_list k t l its.toArray n)
      ⟨e, rfl, ⟨_, e, rfl⟩, call_meets F.slot_list_mul ⟨_, e, rfl⟩ F.entry_list_mul (F.args_list_mul_2 _ _) (AutoListH.list___mul___list_int_3 l its.toArray n k t hfit hcap hlong) ⟨e, ?_⟩⟩)
  rw [hnew]
  exact ⟨.ref _, _, I.lnew (t' := s.toks) (r.rep k.toNat) (by rw [len_rep, Nat.mul_comm]; exact hz), rfl, q _ I.fresh⟩

end

section
variable {prog : Program} {w : World} {A : Around} {E : Value → Shared → Prop} {s : Shared}
set_option maxRecDepth 100000 in
end

section
variable {X : Cx}
end
end L2

namespace Att
open PySem PySem.W PySem.Calls PyProof.Rows

theorem ints_of_wellAll {P : Params} {h : Heap} : ∀ (ns : List Int) (vs : List Value), WellAll P h vs (ns.map WData.int) → IntsAre vs ns := by
  intro ns
  induction ns with
  | nil =>
    intro vs w
    rw [List.map_nil] at w
    cases w
    exact .nil
  | cons n ns ih =>
    intro vs w
    rw [List.map_cons] at w
    cases w with
    | cons a b =>
      cases a
      exact .cons _ _ (ih _ b)

theorem script_of {l : OpenLaw} {n : Nat} (hn : l.most = some n) {P : Params} {h : Heap} {args : List WData} {vals : List Value}
    (hpre : l.row.toRowW.claim.pre args = true) (hwl : WellAll P h vals args) :
    ∃ a vs ns, vals = [Value.ref a] ∧ args = [WData.list (ns.map WData.int)] ∧ h.get? a = some { cls := .type "list", data := .seq vs.toArray } ∧ IntsAre vs ns ∧ ns.length ≤ n := by
  have hsh : WShape.hasAll [] args [.list .int] = true := (pre_splitW hpre).1
  have hc : l.pre.holds [] { args := args } = true := (pre_splitW hpre).2
  obtain ⟨d, r, rfl, h1, h2⟩ := hasAllW_cons hsh
  obtain rfl := hasAllW_nil h2
  obtain ⟨xs, rfl, h3⟩ := hasW_list h1
  obtain ⟨ns, rfl⟩ := items_int h3
  have hlen : ns.length ≤ n := by
    unfold OpenLaw.pre at hc
    have h4 : (WTm.not (.lt (.lit (.int (n : Int))) (.len (.arg 0)))).holds [] { args := [.list (ns.map .int)] } = true := by
      have h4 := (holds_andW hc).1
      rw [hn] at h4
      exact h4
    have h5 := condW_of h4 (w_not (w_lt w_lit (w_len_list (w_arg rfl))))
    rw [List.length_map] at h5
    refine Nat.le_of_not_lt fun q => ?_
    have q' : (n : Int) < ((ns.length : Nat) : Int) := by omega
    first
      | (rw [decide_eq_true q'] at h5; exact absurd h5 (by decide))
      | (simp at h5; omega)
  cases hwl with
  | cons w1 w2 =>
    cases w2
    cases w1 with
    | list ho hall => exact ⟨_, _, ns, rfl, rfl, ho, ints_of_wellAll ns _ hall, hlen⟩

theorem post_true (l : OpenLaw) (args : List WData) : l.row.toRowW.claim.post args (.bool true) args = true :=
  postW_of (r := l.row.toRowW) (X := (true == true))
    (show WShape.has [] (.bool true) .bool = true by first | rfl | decide | simp [WShape.has, WShape.arms, WShape.armsAll])
    (show (WTm.eq .res (.lit (.bool true))).value [] { args := args, res := some (.bool true), after := args } = some (.bool (true == true)) from w_eq_bool (w_res rfl) w_lit) rfl

theorem attach_call {l : OpenLaw} {n : Nat} {q : Program} {loose : List Str} {XP : (Str → Option Value) → Heap → Prop} {YP : World → Heap → Prop} {d : DefRec}
    (hn : l.most = some n) (hdf : d.params.defaults = [])
    (call : ∀ (w : World) (s₀ s₁ : Shared) (mg mb : Str → Option Value) (fa : Addr) (o : Obj) (pm cd doc : Value) (a : Addr) (vs : List Value) (ns : List Int),
      Ground q loose [] XP w s₀ mg mb s₁.heap → YP w s₁.heap →
      s₁.heap.get? fa = some o → o.data = .func (docDef d.name d.params d.body d.scope pm cd doc) → s₁.heap.CodeRec cd d.name → mg d.name = some (.ref fa) →
      s₁.heap.get? a = some { cls := .type "list", data := .seq vs.toArray } → IntsAre vs ns → ns.length ≤ n → s₁.gens = #[] →
      codeAny (model l.prog w) callerA (.call (.ref fa) ⟨[.ref a], []⟩) (fun r s' => r = .ok (.ret (.bool true)) ∧ OldK s₁.heap s'.heap ∧ s'.os = s₁.os ∧ AllBare s'.gens) s₁) :
    WalkO q loose XP YP l.row.toRowW d [] (fun f vs => PySem.call f vs) := by
  intro w s₀ s₁ mg mb G Y fa o pm cd doc dV kV ho hd hcd hD hmg hg args vals as hpre hlay hrd hwl hlo
  obtain rfl : dV = .none := Dflts.none hD hdf
  obtain rfl : kV = .none := Dflts.noKw hD
  obtain ⟨a, vs, ns, rfl, rfl, hobj, hints, hlen⟩ := script_of hn hpre hwl
  refine enter_call (codeAny_mono (call w s₀ s₁ mg mb fa o pm cd doc a vs ns G Y ho (fd_plain hd) hcd hmg hobj hints hlen hg) fun r s' hq => ?_)
  obtain ⟨rfl, h2, h3, h4⟩ := hq
  exact ⟨.inl ⟨.bool true, .bool true, [], rfl, fun _ => rfl, .bool true, post_true l _, fun _ => ⟨List.Pairwise.nil, fun _ hm => (nomatch hm)⟩⟩, h2, h3, h4⟩

section
variable {prog : Program} {w : World} {A : Around} {E : Value → Shared → Prop} {s : Shared} {K : Frag}

end
end Att

namespace L2
open PySem PySem.Spec PyProof.Rows

theorem vals_ints : ∀ {vs : List Value} {ns : List Int}, IntsAre vs ns → Vals (ns.map V.int) vs
  | _, _, .nil => .nil
  | _, _, .cons n t h => .cons ⟨t, rfl⟩ (vals_ints h)

def Only (H : Hp) : Prop := ∀ b, H b = none ∨ ∃ o xs, H b = some (.frz o (.lst xs))

theorem law_call {P : Program} {w : World} {K : PySem.W.Frag} {mg mb : Str → Option Value} {CX : CXT} {k : Nat} {fa a : Addr} {fd : FuncData} {x : Str} {sp : Sp} {s₁ : Shared} {vs : List Value} {ns : List Int}
    (KX : K.In s₁.heap) (hns : s₁.heap.Ns mainGlobals mg) (hb : s₁.heap.Ns builtinsNs mb) (hbb : ∀ x : Str, x ≠ "__name__" → mb x = bootBuiltins x) (hlim : s₁.heap.NoLimit) (hg : s₁.gens = #[])
    (ha : s₁.heap.get? a = some { cls := .type "list", data := .seq vs.toArray }) (hi : IntsAre vs ns) (hl : ns.length ≤ sizeLine) (hr : Room k callerA)
    (F : ∀ base : Heap, K.In base → base.Ns mainGlobals mg → FnOk P w K mg base CX k fa fd [x] sp) (hbind : ∀ (s : Shared) (u : Value), BindsTo s fd ⟨[u], []⟩ [(x, u)])
    (hsp : ∀ H : Hp, Only H → SqL K H a (ns.map V.int) → sp [.ref a] H (fun v _ => v = .bl true) fun _ _ _ => False)
    (hCX : ∀ H e s', CX [] H s₁ (fun _ _ _ => False) e s' → False) :
    codeAny (model P w) callerA (.call (.ref fa) ⟨[.ref a], []⟩) (fun r s' => r = .ok (.ret (.bool true)) ∧ OldK s₁.heap s'.heap ∧ s'.os = s₁.os ∧ AllBare s'.gens) s₁ := by
  have rv := vals_ints hi
  have lenV := hi.length
  -- from an abstract heap in which nothing but the script may be tracked
  have core : ∀ H : Hp, Only H → SqL K H a (ns.map V.int) → HOk P w H s₁.heap → (∀ b, H b ≠ none → b = a) → (H a ≠ none → K.lookup a = none) →
      codeAny (model P w) callerA (.call (.ref fa) ⟨[.ref a], []⟩) (fun r s' => r = .ok (.ret (.bool true)) ∧ OldK s₁.heap s'.heap ∧ s'.os = s₁.os ∧ AllBare s'.gens) s₁ := by
    intro H hO hS hok hA hK
    have base_of : ∀ {b : Addr} {o : Obj}, s₁.heap.get? b = some o → H b = none → (hidT s₁.heap H).get? b = some o := fun e n => hidT_get e n
    have noA : ∀ {b : Addr} {o : Obj} {es : Array DictEntry} {ep : Nat}, s₁.heap.get? b = some o → o.data = .dict es ep → H b = none := fun {b o es ep} e d => by
      cases q : H b with
      | none => rfl
      | some u =>
        have e' : b = a := hA b (by rw [q]; simp)
        subst e'
        rw [ha] at e; cases e
        have d' : Data.seq vs.toArray _ = Data.dict es ep := d
        cases d'
    have nsK : ∀ {b : Addr} {m : Str → Option Value}, s₁.heap.Ns b m → (hidT s₁.heap H).Ns b m := fun {b m} ⟨o, es, ep, e, d, r⟩ => ⟨o, es, ep, base_of e (noA e d), d, r⟩
    have hKb : K.In (hidT s₁.heap H) := fun b o e => base_of (KX b o e) (by
      cases q : H b with
      | none => rfl
      | some u =>
        have e' : b = a := hA b (by rw [q]; simp)
        subst e'
        rw [hK (by rw [q]; simp)] at e; cases e)
    have hM : Mod K mg (hidT s₁.heap H) := ⟨hKb, nsK hns, ⟨mb, nsK hb, hbb⟩, let ⟨mc, h1, h2⟩ := hlim; ⟨mc, nsK h1, h2⟩⟩
    have e0 : Env0 P w K mg (hidT s₁.heap H) callerA [] s₁ H := ⟨rfl, hM, fun b o e => of_hidT e, Nat.le_of_eq (hidT_size _ _), trivial, fun b hb => absurd (show b ∈ ([] : List Addr) from hb) (by simp), hok, .of_eq hg⟩
    refine codeAny_mono ((F _ hKb (nsK hns)).run callerA [] s₁ H ⟨[.ref a], []⟩ [.ref a] [.ref a] _ _ hr e0 (hbind s₁ (.ref a)) (.cons rfl .nil) (hsp H hO hS)) fun r s' h => ?_
    cases r with
    | error e => exact (hCX H e s' h).elim
    | ok fl =>
      cases fl with
      | next => exact False.elim h
      | brk => exact False.elim h
      | cont => exact False.elim h
      | ret u =>
        obtain ⟨v, H', os, bare, un, hok', r', q⟩ := h
        have q' : v = .bl true := q
        subst q'
        obtain rfl : u = Value.bool true := r'
        refine ⟨rfl, OldK.of_keep fun b o e => ?_, os, bare⟩
        cases q : H b with
        | none => exact un.keep b o e q (by intro z; exact absurd (show b ∈ ([] : List Addr) from z) (by simp)) (by simp)
        | some u =>
          rcases hO b with z | ⟨ob, xs, z⟩
          · rw [q] at z; cases z
          · have z2 := un.frzs b ob _ z
            obtain ⟨e1, _⟩ := hok b _ z
            obtain ⟨e2, _⟩ := hok' b _ z2
            rw [e] at e1; cases e1
            exact e2
  cases hk : K.lookup a with
  | some o =>
    -- the script is one of the module's own objects
    have e := KX a o hk
    rw [ha] at e
    cases e
    refine core (fun _ => none) (fun _ => .inl rfl) (.inr ⟨_, vs.toArray, _, hk, rfl, rfl, rfl, by rw [List.size_toArray, lenV]; exact hl, by simpa using rv⟩) (fun b u z => by have z' : (none : Option HO) = some u := z; cases z') (fun b z => absurd rfl z) fun z => absurd rfl z
  | none =>
    refine core (fun b => if b = a then some (.frz { cls := .type "list", data := .seq vs.toArray } (.lst (ns.map V.int))) else none) (fun b => ?_) (.inl (.inr ⟨{ cls := .type "list", data := .seq vs.toArray }, if_pos rfl⟩)) (fun b u z => ?_) (fun b z => ?_) fun _ => hk
    · by_cases hb : b = a
      · exact .inr ⟨_, _, if_pos hb⟩
      · exact .inl (if_neg hb)
    · by_cases hb : b = a
      · have z' := (if_pos hb).symm.trans z
        cases z'
        subst hb
        exact ⟨ha, by rw [List.length_map]; exact hl, vs, _, rv, ha⟩
      · have z' := (if_neg hb).symm.trans z
        cases z'
    · by_cases hb : b = a
      · exact hb
      · exact absurd (if_neg hb) z
end L2

namespace L2
open PySem PySem.Spec PyProof.Rows

abbrev KOf {K : PySem.W.Frag} {h : Heap} (_ : K.In h) : PySem.W.Frag := K

theorem walk_of {l : PySem.W.OpenLaw} {n k : Nat} {q : Program} {loose : List Str} {XP : (Str → Option Value) → Heap → Prop} {YP : World → Heap → Prop} {d : DefRec} {K : Params → PySem.W.Frag} {CX : World → CXT} {sp : World → Sp} {x : Str}
    (hn : l.most = some n) (hn2 : n ≤ sizeLine) (hdf : d.params.defaults = []) (hr : Room k callerA)
    (hY : ∀ (w : World) (h : Heap), YP w h → (K w.params).In h)
    (F : ∀ (w : World) (mg : Str → Option Value) (fa : Addr) (h : Heap), (K w.params).In h → h.Ns mainGlobals mg → mg d.name = some (.ref fa) →
      ∃ fd : FuncData, (∀ (s : Shared) (u : Value), BindsTo s fd ⟨[u], []⟩ [(x, u)]) ∧
        ∀ base : Heap, (K w.params).In base → base.Ns mainGlobals mg → FnOk l.prog w (K w.params) mg base (CX w) k fa fd [x] (sp w))
    (hsp : ∀ (w : World) (H : Hp) (a : Addr) (ns : List Int), ns.length ≤ n → Only H → SqL (K w.params) H a (ns.map V.int) → sp w [.ref a] H (fun v _ => v = .bl true) fun _ _ _ => False)
    (hCX : ∀ (w : World) (H : Hp) (s : Shared) (e : Value) (s' : Shared), CX w [] H s (fun _ _ _ => False) e s' → False) :
    PySem.W.WalkO q loose XP YP l.row.toRowW d [] (fun f vs => PySem.call f vs) := by
  refine Att.attach_call hn hdf fun w s₀ s₁ mg mb fa o pm cd doc a vs ns G Y ho hd hcd hmg hobj hints hlen hg => ?_
  have KX := hY w _ Y
  obtain ⟨fd, hb, hF⟩ := F w mg fa _ KX G.T.g hmg
  exact law_call KX G.T.g G.T.b G.T.builtins G.T.nolimit hg hobj hints (Nat.le_trans hlen hn2) hr hF hb (fun H hO hS => hsp w H a ns hlen hO hS) fun H e s' => hCX w H s₁ e s'
theorem walk_ofK {l : PySem.W.OpenLaw} {n k : Nat} {q : Program} {loose : List Str} {XP : (Str → Option Value) → Heap → Prop} {YP : World → Heap → Prop} {d : DefRec} {K : Params → PySem.W.Frag} {CX : CXT} {sp : PySem.W.Frag → Sp} {x : Str}
    (hn : l.most = some n) (hn2 : n ≤ sizeLine) (hdf : d.params.defaults = []) (hr : Room k callerA)
    (hY : ∀ (w : World) (h : Heap), YP w h → (K w.params).In h)
    (F : ∀ (w : World) (mg : Str → Option Value) (fa : Addr) (h : Heap), (K w.params).In h → h.Ns mainGlobals mg → mg d.name = some (.ref fa) →
      ∃ fd : FuncData, (∀ (s : Shared) (u : Value), BindsTo s fd ⟨[u], []⟩ [(x, u)]) ∧
        ∀ base : Heap, (K w.params).In base → base.Ns mainGlobals mg → FnOk l.prog w (K w.params) mg base CX k fa fd [x] (sp (K w.params)))
    (hsp : ∀ (K : PySem.W.Frag) (H : Hp) (a : Addr) (ns : List Int), ns.length ≤ n → Only H → SqL K H a (ns.map V.int) → sp K [.ref a] H (fun v _ => v = .bl true) fun _ _ _ => False)
    (hCX : ∀ (H : Hp) (s : Shared) (e : Value) (s' : Shared), CX [] H s (fun _ _ _ => False) e s' → False) :
    PySem.W.WalkO q loose XP YP l.row.toRowW d [] (fun f vs => PySem.call f vs) :=
  walk_of (K := K) (CX := fun _ => CX) (sp := fun w => sp (K w.params)) hn hn2 hdf hr hY F (fun w H a ns h1 h2 h3 => hsp (K w.params) H a ns h1 h2 h3) fun _ H s e s' => hCX H s e s'
end L2

/- THE LAST THEOREM (shape; LID, My.* are yours):
   My.Adr: a structure of the addresses that your layer names (classes, functions); My.Txt K t: a structure (Prop) of the equations over K;
   My.txt_mk : {K} {implicit addresses ..} (e1 : nsIn K mainGlobals "law" = some (some (.ref f))) (e2 : K.lookup f = some ⟨oc, od, .func (fnOf "law" "law" params body scope dV kV doc pm an cdv ct), sl⟩) (e3 : codeIn K cdv "law" = true) .. : ∃ t, My.Txt K t

set_option maxRecDepth 100000 in
set_option maxHeartbeats 0 in
theorem PySem.Challenge.cw_LID_holds : PySem.Challenge.rw_LID.Holds := by
  w_on; o_law; k_head; (case hw => w_witness2)
  k_fill
  refine L2.walk_of (l := PySem.Challenge.rw_LID) (n := 63) (k := 40) (x := "script") (CX := fun w => ..) (sp := fun _ => My.sp_law) rfl (by decide) rfl ⟨rfl, by decide, by decide⟩ (fun w h Y => PySem.W.kIn_of Y) ?F ?S ?C
  case F =>
    intro w mg fa h KX G hmg
    have T : ∃ t, My.Txt (L2.KOf KX) t := by
      dsimp only [L2.KOf]                          -- K must stand as «<heap const> w.params» for k_is
      refine' My.txt_mk ?e1 ?e2 ?e3 ..
      (case e1 => PySem.W.k_is)                    -- in the order: a name -> its address -> its object -> its parts
      (case e2 => PySem.W.k_is)
      ..
    obtain ⟨t, T⟩ := T
    have e0 := hmg.symm.trans (PySem.W.mg_of KX G T.law)
    cases e0                                       -- fa is the law's own address
    exact ⟨_, fun s u => .of_eq rfl, fun base kb nb => My.law_fn T kb nb⟩     -- if «.of_eq rfl» comes too early: refine' ⟨_, ?b, fun base kb nb => My.law_fn T kb nb⟩; exact fun s u => .of_eq rfl
  case S => exact fun w H a ns hl hO hS => ..
  case C => exact ..
(the tactic k_is has no namespace: write k_is) -/

namespace L2
open PySem PySem.Spec PyProof.Rows

def inClass (s : Stmt) (j : Nat) : Stmt := match s with
  | .ClassDef _ _ _ body _ _ _ _ _ _ _ => body.getD j (.Pass ⟨0, 0, 0, 0⟩)
  | _ => .Pass ⟨0, 0, 0, 0⟩
def defArgs (s : Stmt) : Arguments := match s with
  | .FunctionDef _ a _ _ _ _ _ _ _ _ => a
  | _ => { posonlyargs := [], args := [], vararg := none, kwonlyargs := [], kw_defaults := [], kwarg := none, defaults := [] }
def defBody (s : Stmt) : List Stmt := match s with
  | .FunctionDef _ _ b _ _ _ _ _ _ _ => b
  | _ => []
def defScope (s : Stmt) : Scope := match s with
  | .FunctionDef _ _ _ _ _ _ sc _ _ _ => sc
  | _ => { kind := .function, names := [], isGenerator := false, isCoroutine := false }

abbrev CX0 : CXT := fun _ _ _ _ _ _ => False
abbrev E0 : XK := fun _ _ _ => False
theorem pass0 {X : Cx} : Passes CX0 X E0 := fun _ _ _ _ _ _ _ h => h.elim

structure Fun (K : PySem.W.Frag) (x qual : Str) (st : Stmt) (f : Addr) (fd : FuncData) : Prop where
  ex : ∃ (oc : Value) (od : Option Addr) (kV doc pm : Value) (an : Option Addr) (cdv ct : Value) (osl : Array (Option Value)),
    fd = PySem.W.fnOf x qual (defArgs st) (defBody st) (defScope st) .none kV doc pm an cdv ct ∧ K.lookup f = some ⟨oc, od, .func fd, osl⟩ ∧ PySem.W.codeIn K cdv qual = true
  kp : PySem.W.keepIn K (.ref f) = true
section
variable {P : Program} {w : World} {K : PySem.W.Frag} {mg : Str → Option Value} {base : Heap}
theorem Fun.ok {x qual : Str} {st : Stmt} {f : Addr} {fd : FuncData} {N ps : List Str} {k : Nat} {sp : Sp} (F : Fun K x qual st f fd) (S : FnScope N ps (defScope st)) (len : ∀ vs H Q E, sp vs H Q E → vs.length = ps.length)
    (hbody : ∀ (cdv : Value) (A : Around) (outer : List Env) (s : Shared) (H : Hp) (vs : List V) (Q : VK) (E : XK), Room k (A.deeper (envOfC qual (defScope st) s.heap.objs.size f cdv)) → sp vs H Q E →
      ∃ t, PSs (cxOf CX0 P w K mg base N qual (defScope st) f cdv A outer s H E).nox (defBody st) t ∧ t { nx := fun _ H' => Q .non H', rt := Q } (start N vs) H) : FnOk P w K mg base CX0 (k + 1) f fd ps sp := by
  obtain ⟨oc, od, kV, doc, pm, an, cdv, ct, osl, rfl, lk, hcd⟩ := F.ex
  refine fn_of lk hcd S len fun A outer s H vs Q E hr hsp => ?_
  obtain ⟨t, h, q⟩ := hbody cdv A outer s H vs Q E hr hsp
  exact ⟨t, h.nox, q⟩
theorem Fun.binds {x qual : Str} {st : Stmt} {f : Addr} {fd : FuncData} {ps : List Str} (F : Fun K x qual st f fd)
    (h : ∀ (kV doc pm : Value) (an : Option Addr) (cdv ct : Value) (us : List Value), us.length = ps.length → bindArgs (PySem.W.fnOf x qual (defArgs st) (defBody st) (defScope st) .none kV doc pm an cdv ct) ⟨us, []⟩ = pure (ps.zip us)) : Binds K fd ps [] := by
  obtain ⟨oc, od, kV, doc, pm, an, cdv, ct, osl, rfl, lk, hcd⟩ := F.ex
  exact .all (h kV doc pm an cdv ct)
theorem fun_mk {x qual : Str} {st : Stmt} {f : Addr} {oc : Value} {od an : Option Addr} {osl : Array (Option Value)} {kV doc pm cdv ct : Value} (l : K.lookup f = some ⟨oc, od, .func (PySem.W.fnOf x qual (defArgs st) (defBody st) (defScope st) .none kV doc pm an cdv ct), osl⟩)
    (c : PySem.W.codeIn K cdv qual = true) (k : PySem.W.keepIn K (.ref f) = true) : Fun K x qual st f (PySem.W.fnOf x qual (defArgs st) (defBody st) (defScope st) .none kV doc pm an cdv ct) := ⟨⟨oc, od, kV, doc, pm, an, cdv, ct, osl, rfl, l, c⟩, k⟩
end
theorem hu_of {A : Around} {k : Nat} (hr : Room k A) : A.units + 1 < cLine := Nat.lt_of_le_of_lt (Nat.add_le_add_left (by decide : 1 ≤ 64) _) hr.units
section
variable {X : Cx}
theorem pv (i : Nat) {x : Str} {pos : Pos} (hN : X.N[i]? = some x := by rfl) (hv : Vis X.env.scope x := by first | exact Or.inl rfl | exact Or.inr (Or.inl rfl) | exact Or.inr (Or.inr rfl)) (hd : (x == ("__debug__" : Str)) = false := by decide)
    (hcd : (x == ("__classdict__" : Str)) = false := by decide) : PE X (.Name x pos) (tVar i) := pe_var hN hv hd hcd
end

theorem ite2 {c A B : Prop} [Decidable c] (h1 : c → A) (h2 : ¬ c → B) : if c then A else B := by
  by_cases h : c
  · rw [if_pos h]
    exact h1 h
  · rw [if_neg h]
    exact h2 h
def Same (H H' : Hp) : Prop := ∀ b o, H b = some o → H' b = some o
theorem Same.refl (H : Hp) : Same H H := fun _ _ h => h
theorem Same.trans {H H1 H2 : Hp} (a : Same H H1) (b : Same H1 H2) : Same H H2 := fun c o h => b c o (a c o h)
theorem Same.free {H H' : Hp} (e : Same H H') {l : Addr} (h : H' l = Option.none) : H l = Option.none := by
  cases q : H l with
  | none => rfl
  | some o =>
    rw [e l o q] at h
    cases h
theorem Same.seq {K : PySem.W.Frag} {H H' : Hp} {a : Addr} {xs : List V} (e : Same H H') (h : SqL K H a xs) : SqL K H' a xs := by
  rcases h with (h | ⟨o, h⟩) | h
  · exact .inl (.inl (e _ _ h))
  · exact .inl (.inr ⟨o, e _ _ h⟩)
  · exact .inr h

end L2

set_option Elab.async false
set_option linter.all false
set_option maxRecDepth 100000
set_option maxHeartbeats 4000000
namespace L2
open PySem PySem.Spec PyProof.Rows


theorem ObjOk.has {P : Program} {w : World} {H : Hp} {h : Heap} {a : Addr} {o : HO} (x : ObjOk P w H h a o) : ∃ u, h.get? a = some u := by
  cases o with
  | lst xs => obtain ⟨_, _, _, _, q⟩ := x; exact ⟨_, q⟩
  | tup xs => obtain ⟨_, _, _, ob, q, _⟩ := x; exact ⟨ob, q⟩
  | dK kvs => obtain ⟨_, _, _, _, ob, _, _, q, _⟩ := x; exact ⟨ob, q⟩
  | dT kvs => obtain ⟨_, _, _, _, ob, _, _, q, _⟩ := x; exact ⟨ob, q⟩
  | set S n => obtain ⟨ob, _, _, _, q, _⟩ := x; exact ⟨ob, q⟩
  | ins C dx fs => obtain ⟨_, _, _, q, _⟩ := x; exact ⟨_, q⟩
  | own y => obtain ⟨ob, q⟩ := x; exact ⟨ob, q⟩
  | xd fs => obtain ⟨_, ⟨ob, _, _, q, _⟩, _⟩ := x; exact ⟨ob, q⟩
  | rng lo hi => obtain ⟨_, _, _, q⟩ := x; exact ⟨_, q⟩
  | frz ob u => obtain ⟨q, _⟩ := x; exact ⟨_, q⟩
  | tbl ps => exact ⟨_, (show h.get? a = some _ from x)⟩
  | met f y => exact ⟨_, (show h.get? a = some _ from x)⟩
  | ext φ => obtain ⟨_, ⟨ob, q⟩, _⟩ := x; exact ⟨ob, q⟩

def Fly (l : List Env) (g : Heap) (H : Hp) (a : Addr) (C : Value) (h : Heap) : Prop :=
  ∃ (B : Heap) (t : Addr), Heap.FlyingW B l a C (.ref t) h ∧ H a = none ∧
    ∀ b o, h.get? b = some o → ((∃ u, g.get? b = some u) ∨ ∃ u, H b = some u) → b ∉ frs l → B.get? b = some o
def CXO (P : Program) (w : World) : CXT := fun outer H s E e s' =>
  ∃ (a : Addr) (C : Value) (H' : Hp), e = .ref a ∧ s'.os = s.os ∧ AllBare s'.gens ∧ Un (frs outer) [] H H' s.heap s'.heap ∧ HOk P w H' s'.heap ∧ Fly outer s.heap H' a C s'.heap ∧ E C none H'

theorem mem_frs_cons {env : Env} {outer : List Env} {L b : Addr} (hf : env.frame = some L) (hb : b ∈ frs (env :: outer)) : b = L ∨ b ∈ frs outer := by
  obtain ⟨e, he, q⟩ := List.mem_filterMap.mp hb
  rcases List.mem_cons.mp he with rfl | he
  · rw [hf] at q; exact .inl (Option.some.inj q).symm
  · exact .inr (List.mem_filterMap.mpr ⟨e, he, q⟩)
theorem frs_cons_of {env : Env} {outer : List Env} {b : Addr} (hb : b ∈ frs outer) : b ∈ frs (env :: outer) := by
  obtain ⟨e, he, q⟩ := List.mem_filterMap.mp hb
  exact List.mem_filterMap.mpr ⟨e, List.mem_cons_of_mem _ he, q⟩

theorem fly_out {P : Program} {w : World} {env : Env} {outer : List Env} {L : Addr} {H H' : Hp} {g h1 h2 B : Heap} {a t : Addr} {C : Value}
    (hf : env.frame = some L) (hL : g.get? L = none) (U : Un (frs outer) [] H H' g h1) (ok : HOk P w H' h1) (frf : ∀ b ∈ frs (env :: outer), H' b = none)
    (frd : ∀ b ∈ frs outer, ∀ o, h1.get? b = some o → ∀ vs, o.data ≠ .fields vs)
    (inB : ∀ b o, h1.get? b = some o → ((∃ u, g.get? b = some u) ∨ ∃ u, H' b = some u) → b ∉ frs (env :: outer) → B.get? b = some o)
    (fl : Heap.FlyingW B outer a C (.ref t) h2) (ha : H' a = none) (up : h1.UpToSlots h2) : Un (frs outer) [] H H' g h2 ∧ HOk P w H' h2 ∧ Fly outer g H' a C h2 := by
  have stay : ∀ b o, h1.get? b = some o → ((∃ u, g.get? b = some u) ∨ ∃ u, H' b = some u) → b ∉ frs outer → h2.get? b = some o ∧ B.get? b = some o := fun b o e hb hn => by
    have nf : b ∉ frs (env :: outer) := fun z => by
      rcases mem_frs_cons hf z with rfl | z2
      · rcases hb with ⟨u, q⟩ | ⟨u, q⟩
        · rw [hL] at q; cases q
        · rw [frf _ z] at q; cases q
      · exact hn z2
    have q := inB b o e hb nf
    exact ⟨fl.1 b o q, q⟩
  have nx : ([] : List Addr) = [] := rfl
  have hx : ∀ b : Addr, b ∉ ([] : List Addr) := fun b z => nomatch z
  have track : ∀ b u, H' b = some u → b ∉ frs outer := fun b u q z => by
    rw [frf b (frs_cons_of z)] at q; cases q
  refine ⟨⟨fun b o e n hb hx => ?_, fun b o e n hb hx => ?_, U.free, fun b o e hx => ?_, U.tups, U.frzs, U.tbls⟩, fun b u q => ?_, B, t, fl, ha, fun b o e hb hn => ?_⟩
  · exact (stay b o (U.keep b o e n hb hx) (.inl ⟨o, e⟩) hb).1
  · obtain ⟨sl, e1⟩ := U.slot b o e n hb hx
    obtain ⟨sl2, e2⟩ := up b _ e1 (frd b hb _ e1)
    exact ⟨sl2, e2⟩
  · obtain ⟨o', e1⟩ := U.there b o e hx
    by_cases hb : b ∈ frs outer
    · obtain ⟨sl2, e2⟩ := up b _ e1 (frd b hb _ e1)
      exact ⟨_, e2⟩
    · exact ⟨o', (stay b o' e1 (.inl ⟨o, e⟩) hb).1⟩
  · refine (ok b u q).stay (fun c v hc e => ?_) (fun _ z => z) fun _ _ z => z
    have tc : ∃ u', H' c = some u' := by
      rcases hc with rfl | hc
      · exact ⟨u, q⟩
      · exact ⟨_, hc⟩
    obtain ⟨u', q'⟩ := tc
    exact (stay c v e (.inr ⟨u', q'⟩) (track c u' q')).1
  · have h1b : ∃ o', h1.get? b = some o' := by
      rcases hb with ⟨u, q⟩ | ⟨u, q⟩
      · exact U.there b u q (hx b)
      · exact (ok b u q).has
    obtain ⟨o', e1⟩ := h1b
    obtain ⟨e2, e3⟩ := stay b o' e1 hb hn
    rw [e] at e2; cases e2
    exact e3

def Raises (X : Cx) (E : XK) : Prop := ∀ (pins : List (Addr × Obj)) (σ : St) (H : Hp) (s : Shared) (a : Addr) (C : Value) (vs : List Value) (h' : Heap), Inv X pins σ H s → Heap.MadeExcOf s.heap h' a C vs → E C none H → X.xe (.ref a) { s with heap := h' }

section
variable {P : Program} {w : World} {K : PySem.W.Frag} {mg : Str → Option Value} {base : Heap} {N : List Str} {qual : Str} {scope : Scope} {f : Addr} {cd : Value} {A : Around} {outer : List Env} {s : Shared} {H : Hp} {E : XK}

theorem Inv.frd {X : Cx} {pins : List (Addr × Obj)} {σ : St} {H : Hp} {s : Shared} (I : Inv X pins σ H s) : ∀ b ∈ frs X.stack, ∀ o, s.heap.get? b = some o → ∀ vs, o.data ≠ .fields vs := fun b hb o e => by
  obtain ⟨_, o', e', d⟩ := I.stack.mem hb
  rw [e] at e'; cases e'
  exact d
theorem Inv.hasNo {X : Cx} {pins : List (Addr × Obj)} {σ : St} {H : Hp} {s : Shared} {a : Addr} (I : Inv X pins σ H s) (e : s.heap.get? a = none) : H a = none := by
  cases q : H a with
  | none => rfl
  | some u =>
    obtain ⟨o, z⟩ := (I.hok a u q).has
    rw [e] at z; cases z

theorem raises_fn : Raises (cxOf (CXO P w) P w K mg base N qual scope f cd A outer s H E) E := by
  intro pins σ H1 s1 a C vs h' I hx hE
  have hin : ∀ env ∈ (envOfC qual scope s.heap.objs.size f cd :: outer), ∀ b, env.frame = some b → b ∈ frs (envOfC qual scope s.heap.objs.size f cd :: outer) := fun env he b hb => List.mem_filterMap.mpr ⟨env, he, hb⟩
  have fr0 : (A.deeper (envOfC qual scope s.heap.objs.size f cd)).frames = some (envOfC qual scope s.heap.objs.size f cd :: outer) := I.ok.frames
  have sn : s.heap.get? s.heap.objs.size = none := Heap.get?_none_of_le (Nat.le_refl _)
  refine wpAny_leaves_madeW (L := s.heap.objs.size) (base := PySem.W.hideAll s1.heap (frs (envOfC qual scope s.heap.objs.size f cd :: outer))) (h := s1.heap) fr0 rfl (fun b o q => PySem.W.of_hideAll _ q) (PySem.W.funFrames_hide I.stack hin) hx fun h2 t fl _ _ up => ?_
  have frd := I.frd
  obtain ⟨u1, u2, u3⟩ := fly_out (P := P) (w := w) (L := s.heap.objs.size) (h1 := s1.heap) rfl sn I.base I.hok I.stkFree (fun b hb o e => frd b (frs_cons_of hb) o e) (fun b o e _ hn => PySem.W.hideAll_get _ e hn) fl (I.hasNo hx.new) ((Heap.UpToSlots.of_keeps hx.keeps).trans up)
  exact ⟨a, C, H1, rfl, I.os, I.bare, u1, u2, u3, hE⟩

theorem passes_fn : Passes (CXO P w) (cxOf (CXO P w) P w K mg base N qual scope f cd A outer s H E) E := by
  intro pins σ H1 s1 e s' I hc
  obtain ⟨a, C, H', rfl, os, bare, un, hok, ⟨B, t, fl, ha, inB⟩, hE⟩ := hc
  have I' : Inv (cxOf (CXO P w) P w K mg base N qual scope f cd A outer s H E) pins σ H' s' := I.call' os un hok bare fun b z => nomatch z
  have fr0 : (A.deeper (envOfC qual scope s.heap.objs.size f cd)).frames = some (envOfC qual scope s.heap.objs.size f cd :: outer) := I.ok.frames
  have sn : s.heap.get? s.heap.objs.size = none := Heap.get?_none_of_le (Nat.le_refl _)
  refine wpAny_leaves_onW (L := s.heap.objs.size) fr0 rfl fl fun h2 fl2 up => ?_
  have frd := I'.frd
  obtain ⟨u1, u2, u3⟩ := fly_out (P := P) (w := w) (L := s.heap.objs.size) (h1 := s'.heap) rfl sn I'.base I'.hok I'.stkFree (fun b hb o e => frd b (frs_cons_of hb) o e) (fun b o e hb hn => inB b o e (hb.imp (fun ⟨u, q⟩ => I.base.there b u q fun z => nomatch z) id) hn) fl2 ha up
  exact ⟨a, C, H', rfl, I'.os, I'.bare, u1, u2, u3, hE⟩
end

theorem Fun.okX {P : Program} {w : World} {K : PySem.W.Frag} {mg : Str → Option Value} {base : Heap} {x qual : Str} {st : Stmt} {f : Addr} {fd : FuncData} {N ps : List Str} {k : Nat} {sp : Sp} (F : Fun K x qual st f fd) (S : FnScope N ps (defScope st)) (len : ∀ vs H Q E, sp vs H Q E → vs.length = ps.length)
    (hbody : ∀ (cdv : Value) (A : Around) (outer : List Env) (s : Shared) (H : Hp) (vs : List V) (Q : VK) (E : XK), Room k (A.deeper (envOfC qual (defScope st) s.heap.objs.size f cdv)) → sp vs H Q E →
      ∃ t, PSs (cxOf (CXO P w) P w K mg base N qual (defScope st) f cdv A outer s H E) (defBody st) t ∧ t { nx := fun _ H' => Q .non H', rt := Q } (start N vs) H) : FnOk P w K mg base (CXO P w) (k + 1) f fd ps sp := by
  obtain ⟨oc, od, kV, doc, pm, an, cdv, ct, osl, rfl, lk, hcd⟩ := F.ex
  exact fn_of lk hcd S len fun A outer s H vs Q E hr hsp => hbody cdv A outer s H vs Q E hr hsp

structure ExC (K : PySem.W.Frag) (C : Addr) : Prop where
  ex : PySem.W.excIn K C [.type "ValueError", .type "Exception", .type "BaseException", .type "object"] "ValueError.__new__" = true

theorem exc_obj {K : PySem.W.Frag} {h : Heap} {C : Addr} {bmB : List Value} {nid : String} (Y : K.In h) (z : PySem.W.excIn K C bmB nid = true) :
    ∃ bm Nn nm qn bs hd sn sub ab col dd k0 k1 k2 k3 k5 mN, h.get? C = some (excClassObj nm qn C Nn bs bm hd sn sub ab col dd k0 k1 k2 k3 k5 nid) ∧ h.Ns Nn mN ∧ mN "__init__" = none ∧ OwnTail h bmB bm := by
  unfold PySem.W.excIn at z
  split at z
  · next d1 c1 s1 hlk =>
    split at z
    · next C1 b1 j0 j1 j2 j3 n1 j5 em es =>
      simp only [Bool.and_eq_true, beq_iff_eq, Bool.not_eq_true'] at z
      obtain ⟨⟨⟨⟨⟨z1, z2⟩, z3⟩, z4⟩, z5⟩, z6⟩ := z
      subst z1 z2
      obtain ⟨a1, a2, a3, a4, a5, a6, a7, a8, a9, a10, a11⟩ := c1
      dsimp only at em z3 z5 z6
      subst em z3
      obtain ⟨l1⟩ := s1
      have es' : l1 = [j0, j1, j2, j3, some (.builtin n1), j5] := es
      subst es'
      exact ⟨b1, a4, a1, a5, a2, a6, a7, a8, a9, a10, d1, j0, j1, j2, j3, j5, _, Y _ _ hlk, .of_isNs (PySem.W.isNs_of_in Y z5), PySem.W.nsMap_none_of_in Y z5 z6, PySem.W.tail_of_in Y z4⟩
    · exact absurd z (by decide)
  · exact absurd z (by decide)

section
variable {X : Cx} {E : XK} {x : Str} {C : Addr} {e : Expr} {es : List Expr} {t : TA} {np cpos pos : Pos}
def tRaise (E : XK) (C : Addr) (t : TA) : TS := fun _ σ H => t σ H fun vs H1 => vs.length ≤ sizeLine ∧ E (.ref C) none H1
theorem ps_raise (R : Raises X E) (c : ExC X.K C) (hc : X.calm = true) (hg : Gl X x) (hm : X.mg x = some (.ref C)) (ha : PA X (e :: es) t) (hdb : (x == ("__debug__" : Str)) = false := by decide)
    (he : starEach (e :: es) X.env = (false, eval e X.env) :: starEach es X.env := by rfl) (hpl : (backTo cpos (starEach es X.env)).any (·.1) = false := by rfl) :
    PS X (.Raise (some (.Call (.Name x np) (e :: es) [] cpos)) none pos) (tRaise E C t) := by
  intro pins s σ H D I h
  obtain ⟨bm, Nn, nm, qn, bs, hd, sn, sub, ab, col, dd, k0, k1, k2, k3, k5, mN, hC, hN, hni, TL⟩ := exc_obj I.ok.mod.kin c.ex
  refine wpAny_Raise_call_subT (C := C) (nm := nm) (q := qn) (N := Nn) (bs := bs) (bm := bm) (hdct := hd) (sn := sn) (sub := sub) (ab := ab) (col := col) (dd := dd) (k0 := k0) (k1 := k1) (k2 := k2) (k3 := k3) (k5 := k5)
    PySem.F.excBase_ValueError (mN := mN) (TL.hasType PySem.F.excBase_ValueError.hasBase) (I.ok.hd hc) ?_ hni (ld_glob I hg hm ⟨rfl, ?_⟩ hdb)
  · rw [he]
    show (false || (backTo cpos (starEach es X.env)).any (·.1)) = false
    rw [hpl]; rfl
  · have q := ha cpos pins s σ H _ I h
    rw [he] at q ⊢
    refine Calls.evalArgs_plain (thn q fun us s2 hs => ?_)
    obtain ⟨vs, H2, I2, r, hl, hE⟩ := hs
    exact ⟨rfl, by rw [← r.length]; exact hl, I2.bk _ _ hC, hN.keeps I2.bk, TL.keeps I2.bk, fun h' a hx => R pins σ H2 s2 a _ us h' I2 hx hE⟩
end

theorem Inv.moved {X : Cx} {pins : List (Addr × Obj)} {σ : St} {H : Hp} {s : Shared} {h' : Heap} (I : Inv X pins σ H s)
    (keep : ∀ b o, s.heap.get? b = some o → ((∃ u, X.s₀.heap.get? b = some u ∧ b ∉ X.ex) ∨ (∃ u, H b = some u) ∨ ∃ p ∈ X.pn ++ pins, p.1 = b) → b ∉ frs X.stack → h'.get? b = some o) (up : s.heap.UpToSlots h') : Inv X pins σ H { s with heap := h' } := by
  have neL : ∀ b o, X.s₀.heap.get? b = some o → b ≠ X.env.locals := fun b o e => Nat.ne_of_lt (Nat.lt_of_lt_of_le (Heap.lt_size e) I.ok.above)
  have nst : ∀ b, b ≠ X.env.locals → b ∉ X.fs → b ∉ frs X.stack := fun b h1 h2 z => (List.mem_cons.mp (I.stkSub b z)).elim h1 h2
  have fsd : ∀ b ∈ X.fs, ∀ o, X.s₀.heap.get? b = some o → ∀ vs, o.data ≠ .fields vs := fun b hb o e => by
    obtain ⟨_, o', e', d⟩ := I.ok.funs.mem hb
    rw [e] at e'; cases e'
    exact d
  have cellK : ∀ c v, s.heap.IsCell c v → h'.IsCell c v := fun c v ⟨o, ho, hd⟩ => by
    obtain ⟨sl, q⟩ := up c o ho fun vs z => by rw [hd] at z; cases z
    exact ⟨_, q, hd⟩
  refine ⟨I.ok, I.os, I.bare, ⟨fun b o e n hb hx => ?_, fun b o e n hb hx => ?_, I.base.free, fun b o e hx => ?_, I.base.tups, I.base.frzs, I.base.tbls⟩, ?_, fun y c e => ?_, I.free, I.freeC, fun p hp => ?_, fun b u q => ?_, I.len⟩
  · exact keep b o (I.base.keep b o e n hb hx) (.inl ⟨o, e, hx⟩) (nst b (neL b o e) hb)
  · obtain ⟨sl, e1⟩ := I.base.slot b o e n hb hx
    obtain ⟨sl2, e2⟩ := up b _ e1 (fsd b hb o e)
    exact ⟨sl2, e2⟩
  · obtain ⟨o', e1⟩ := I.base.there b o e hx
    by_cases hb : b ∈ X.fs
    · obtain ⟨sl, e2⟩ := I.base.slot b o e (I.ok.frf b hb) hb hx
      obtain ⟨sl2, e3⟩ := up b _ e2 (fsd b hb o e)
      exact ⟨_, e3⟩
    · exact ⟨o', keep b o' e1 (.inl ⟨o, e, hx⟩) (nst b (neL b o e) hb)⟩
  · obtain ⟨m, hn, hl⟩ := I.loc
    refine ⟨m, up.ns hn, fun i y v e1 e2 e3 => ?_⟩
    obtain ⟨u, r, l⟩ := hl i y v e1 e2 e3
    refine ⟨u, r, ?_⟩
    rcases l with l | ⟨k, c, e, z⟩
    · exact .inl l
    · exact .inr ⟨k, c, e, cellK c _ z⟩
  · obtain ⟨v, z⟩ := I.cell y c e
    exact ⟨v, cellK c v z⟩
  · obtain ⟨e, n, ne, nf, d⟩ := I.pin p hp
    exact ⟨keep p.1 p.2 e (.inr (.inr ⟨p, hp, rfl⟩)) (nst p.1 ne nf), n, ne, nf, d⟩
  · refine (I.hok b u q).stay (fun c v hc e => ?_) (fun _ z => z) fun _ _ z => z
    have tc : ∃ u', H c = some u' := by
      rcases hc with rfl | hc
      · exact ⟨u, q⟩
      · exact ⟨_, hc⟩
    obtain ⟨u', q'⟩ := tc
    refine keep c v e (.inr (.inl ⟨u', q'⟩)) fun z => ?_
    rw [I.stkFree c z] at q'; cases q'

theorem Inv.track {X : Cx} {pins : List (Addr × Obj)} {σ : St} {H : Hp} {s : Shared} {a : Addr} {ob : Obj} {vs : Array Value} {o : HO} (I : Inv X pins σ H s) (ha : H a = none) (hob : s.heap.get? a = some ob) (hd : ob.data = .fields vs)
    (h0 : X.s₀.heap.get? a = none) (hp : ∀ p ∈ X.pn ++ pins, p.1 ≠ a) (new : ObjOk X.prog X.w (upd H a o) s.heap a o) : Inv X pins σ (upd H a o) s := by
  have nt : ∀ b u, H b = some u → b ≠ a := fun b u q => ne_of_none q ha
  refine ⟨I.ok, I.os, I.bare, ⟨I.base.keep, I.base.slot, fun b u e n hx => ?_, I.base.there, fun b xs q => ?_, fun b u xs q => ?_, fun b ps q => ?_⟩, I.loc, I.cell, ?_, fun y c e => ?_, fun p q => ?_, fun b u q => ?_, I.len⟩
  · have ne : b ≠ a := fun z => by rw [z, h0] at e; cases e
    rw [upd_ne ne]; exact I.base.free b u e n hx
  · have z := I.base.tups b xs q
    rw [upd_ne (nt _ _ z)]; exact z
  · have z := I.base.frzs b u xs q
    rw [upd_ne (nt _ _ z)]; exact z
  · obtain ⟨m, z⟩ := I.base.tbls b ps q
    exact ⟨m, by rw [upd_ne (nt _ _ z)]; exact z⟩
  · have ne : X.env.locals ≠ a := fun z => by
      obtain ⟨m, ⟨oL, es, ep, e1, e2, _⟩, _⟩ := I.loc
      rw [z, hob] at e1; cases e1
      rw [hd] at e2; cases e2
    rw [upd_ne ne]; exact I.free
  · have ne : c ≠ a := fun z => by
      obtain ⟨v, oc, e1, e2⟩ := I.cell y c e
      rw [z, hob] at e1; cases e1
      rw [hd] at e2; cases e2
    rw [upd_ne ne]; exact I.freeC y c e
  · obtain ⟨e, n, r⟩ := I.pin p q
    exact ⟨e, by rw [upd_ne (hp p q)]; exact n, r⟩
  · by_cases hb : b = a
    · subst hb; rw [upd_same] at q; cases q; exact new
    · rw [upd_ne hb] at q
      exact (I.hok b u q).stay (fun c v _ z => z) (fun c z => by rw [upd_ne (nt _ _ z)]; exact z) fun c xs z => by rw [upd_ne (nt _ _ z)]; exact z

def exO (a : Addr) (C : Value) : HO := .ext fun h => ∃ ob vs, h.get? a = some ob ∧ ob.cls = C ∧ ob.data = .fields vs

def Landed (X : Cx) (pins : List (Addr × Obj)) (Kx : Value → Hp → Prop) (e : Value) (s' : Shared) : Prop :=
  ∃ (a : Addr) (C : Value) (σ : St) (H : Hp) (g : Heap), e = .ref a ∧ Inv X pins σ H s' ∧ Fly X.stack g H a C s'.heap ∧ (∀ p ∈ X.pn ++ pins, ∃ u, g.get? p.1 = some u) ∧
    (∀ b u, X.s₀.heap.get? b = some u → b ∉ X.ex → ∃ u', g.get? b = some u') ∧ Kx C H
abbrev tryCx (X : Cx) (pins : List (Addr × Obj)) (Kx : Value → Hp → Prop) : Cx := { X with pn := X.pn ++ pins, xe := Landed X pins Kx }
abbrev suiteCx (X : Cx) (a : Addr) : Cx := { X with A := X.A.mark (some (.ref a)), calm := false, xe := fun _ _ => False }
section
variable {X : Cx} {pins pins' : List (Addr × Obj)} {σ : St} {H : Hp} {s : Shared} {Kx : Value → Hp → Prop} {a : Addr}
theorem Inv.toTry (I : Inv X pins σ H s) : Inv (tryCx X pins Kx) [] σ H s :=
  ⟨⟨I.ok.mod, I.ok.kind, I.ok.glob, I.ok.blt, I.ok.above, I.ok.inj, I.ok.has, I.ok.cab, I.ok.hd, I.ok.frames, I.ok.stk, I.ok.exf, I.ok.bs, I.ok.bsz, I.ok.noex, I.ok.exfs, I.ok.funs, I.ok.frf⟩,
    I.os, I.bare, I.base, I.loc, I.cell, I.free, I.freeC, fun p hp => I.pin p (by simpa using hp), I.hok, I.len⟩
theorem Inv.ofTry (I : Inv (tryCx X pins Kx) pins' σ H s) : Inv X pins σ H s :=
  ⟨⟨I.ok.mod, I.ok.kind, I.ok.glob, I.ok.blt, I.ok.above, I.ok.inj, I.ok.has, I.ok.cab, I.ok.hd, I.ok.frames, I.ok.stk, I.ok.exf, I.ok.bs, I.ok.bsz, I.ok.noex, I.ok.exfs, I.ok.funs, I.ok.frf⟩,
    I.os, I.bare, I.base, I.loc, I.cell, I.free, I.freeC, fun p hp => I.pin p (List.mem_append_left _ hp), I.hok, I.len⟩
theorem Inv.toSuite (I : Inv X pins σ H s) : Inv (suiteCx X a) pins σ H s :=
  ⟨⟨I.ok.mod, I.ok.kind, I.ok.glob, I.ok.blt, I.ok.above, I.ok.inj, I.ok.has, I.ok.cab, (fun z => nomatch z), I.ok.frames, I.ok.stk, I.ok.exf, I.ok.bs, I.ok.bsz, I.ok.noex, I.ok.exfs, I.ok.funs, I.ok.frf⟩,
    I.os, I.bare, I.base, I.loc, I.cell, I.free, I.freeC, I.pin, I.hok, I.len⟩
theorem Inv.ofSuite (hd : X.calm = true → X.A.handled = none) (I : Inv (suiteCx X a) pins σ H s) : Inv X pins σ H s :=
  ⟨⟨I.ok.mod, I.ok.kind, I.ok.glob, I.ok.blt, I.ok.above, I.ok.inj, I.ok.has, I.ok.cab, hd, I.ok.frames, I.ok.stk, I.ok.exf, I.ok.bs, I.ok.bsz, I.ok.noex, I.ok.exfs, I.ok.funs, I.ok.frf⟩,
    I.os, I.bare, I.base, I.loc, I.cell, I.free, I.freeC, I.pin, I.hok, I.len⟩
theorem passes_try : Passes (CXO X.prog X.w) (tryCx X pins Kx) (fun C _ H => Kx C H) := by
  intro p2 σ1 H1 s1 e s' I hc
  obtain ⟨a, C, H', rfl, os, bare, un, hok, fly, hE⟩ := hc
  have I0 : Inv X pins σ1 H1 s1 := I.ofTry
  have I' : Inv X pins σ1 H' s' := I0.call' os un hok bare fun b z => nomatch z
  exact ⟨a, C, σ1, H', s1.heap, rfl, I', fly, fun p hp => ⟨p.2, (I0.pin p hp).1⟩, fun b u q hx => I0.base.there b u q hx, hE⟩

theorem Inv.frame {σ' : St} {h' : Heap} {m' : Str → Option Value} {t' : Nat} (I : Inv X pins σ H s) (hn : h'.Ns X.env.locals m') (hs : Heap.SameBut X.env.locals s.heap h')
    (hl : ∀ (i : Nat) (x : Str) (v : V), X.N[i]? = some x → σ'[i]? = some (some v) → Vis X.env.scope x → ∃ u, RelV v u ∧ Look X.env h' m' x u) (hlen : σ'.length = σ.length) : Inv X pins σ' H { s with heap := h', toks := t' } := by
  have neL : ∀ b o, X.s₀.heap.get? b = some o → b ≠ X.env.locals := fun b o e => Nat.ne_of_lt (Nat.lt_of_lt_of_le (Heap.lt_size e) I.ok.above)
  refine ⟨I.ok, I.os, I.bare, ⟨fun b o e n hb hx => (hs.2 b (neL b o e)).trans (I.base.keep b o e n hb hx), fun b o e n hb hx => ?_, I.base.free, fun b o e hx => ?_, I.base.tups, I.base.frzs, I.base.tbls⟩, ⟨m', hn, hl⟩, fun y c e => ?_, I.free, I.freeC, fun p hp => ?_, fun b u q => ?_, hlen.trans I.len⟩
  · obtain ⟨sl, e1⟩ := I.base.slot b o e n hb hx
    exact ⟨sl, (hs.2 b (neL b o e)).trans e1⟩
  · obtain ⟨o', e1⟩ := I.base.there b o e hx
    exact ⟨o', (hs.2 b (neL b o e)).trans e1⟩
  · obtain ⟨v, z⟩ := I.cell y c e
    exact ⟨v, z.sameBut hs (I.cne y c e)⟩
  · obtain ⟨e, n, ne, nf, d⟩ := I.pin p hp
    exact ⟨(hs.2 p.1 ne).trans e, n, ne, nf, d⟩
  · refine (I.hok b u q).stay (fun c v hc e => (hs.2 c ?_).trans e) (fun _ z => z) fun _ _ z => z
    intro z
    have fr := I.free
    rcases hc with rfl | hc
    · rw [z, fr] at q; cases q
    · rw [z, fr] at hc; cases hc
theorem unset_ok {M : Model} {A : Around} {E : Value → Shared → Prop} {i : Nat} {n : Str} {pos : Pos} {Q : Unit → Shared → Prop} (I : Inv X pins σ H s) (hi : X.N[i]? = some n) (hN : X.N.Nodup) (hk : X.env.scope.names.lookup n = some .local)
    (h : ∀ s', Inv X pins (σ.set i none) H s' → Q () s') : wpAny M A (do bindName X.env n .none; unbindBehindTheSuite X.env n pos) Q E s := by
  obtain ⟨m, hn, hl⟩ := id I.loc
  refine wpAny_nameGoes_keeps (m := m) hk hn (by rw [I.ok.kind]; rfl) fun h' v hn' hs => h _ (I.frame hn' hs (fun j y v' e1 e2 e3 => ?_) (by simp))
  have hij : j ≠ i := fun z => by
    rw [z] at e2
    have hiσ : i < σ.length := by rw [I.len]; exact (List.getElem?_eq_some_iff.mp hi).1
    rw [List.getElem?_set_self hiσ] at e2
    cases e2
  rw [List.getElem?_set_ne (Ne.symm hij)] at e2
  obtain ⟨u, r, q⟩ := hl j y v' e1 e2 e3
  refine ⟨u, r, ?_⟩
  rcases q with ⟨k, e⟩ | ⟨k, c, e, z⟩
  · have ne : y ≠ n := fun z => hij (nodup_ix hN e1 (z ▸ hi))
    exact .inl ⟨k, by simp [ne, e]⟩
  · exact .inr ⟨k, c, e, z.sameBut hs (I.cne y c e)⟩
end

section
variable {X : Cx} {body suite : List Stmt} {b₀ : Stmt} {n x : Str} {i : Nat} {R : Addr} {np hpos pos : Pos} {tb : (Value → Hp → Prop) → TS} {th : TS}
def tTry (K : PySem.W.Frag) (R : Addr) (i N : Nat) (tb : (Value → Hp → Prop) → TS) (th : TS) : TS := fun D σ H =>
  tb (fun C H' => PySem.W.exmOne K C (.ref R) = some true ∧ ∀ a, H' a = none →
    th { nx := fun σ' H2 => D.nx (σ'.set i none) H2, rt := D.rt, bk := fun σ' H2 => D.bk (σ'.set i none) H2, ct := fun σ' H2 => D.ct (σ'.set i none) H2 } ((List.replicate N none).set i (some (.ref a))) (upd H' a (exO a C))) D σ H
theorem ps_try (hst : X.stack = X.env :: X.outer ∧ X.env.frame = some X.env.locals) (hex : X.ex = []) (hN : X.N.Nodup) (hi : X.N[i]? = some n) (hk : X.env.scope.names.lookup n = some .local) (hg : Gl X x) (hm : X.mg x = some (.ref R))
    (hb : ∀ pins Kx, PSs (tryCx X pins Kx) body (tb Kx)) (hs : ∀ a, PSs (suiteCx X a) (b₀ :: suite) th) (hdb : (x == ("__debug__" : Str)) = false := by decide) :
    PS X (.Try body [.ExceptHandler (some (.Name x np)) (some n) (b₀ :: suite) hpos] [] [] pos) (tTry X.K R i X.N.length tb th) := by
  intro pins s σ H D I h
  refine wpAny_Try_except (wpAny_mono (hb pins _ [] s σ H D I.toTry h) (fun f s1 q => ?_) fun e s1 q => ?_)
  · cases f with
    | next => obtain ⟨σ', H', I', q⟩ := q; exact wpAny_execs_nil ⟨σ', H', I'.ofTry, q⟩
    | brk => obtain ⟨σ', H', I', q⟩ := q; exact ⟨σ', H', I'.ofTry, q⟩
    | cont => obtain ⟨σ', H', I', q⟩ := q; exact ⟨σ', H', I'.ofTry, q⟩
    | ret u => obtain ⟨v, σ', H', I', r, q⟩ := q; exact ⟨v, σ', H', I'.ofTry, r, q⟩
  · obtain ⟨a, C, σ1, H1, g, rfl, I1, ⟨B, t, fl, ha, inB⟩, hpn, hg0, hm1, hk1⟩ := q
    obtain ⟨es1, es2⟩ := hst
    have mv : ∀ h', Heap.FlyingW B X.stack a C (.ref t) h' → s1.heap.UpToSlots h' → Inv X pins σ1 H1 { s1 with heap := h' } := fun h' fl' up => I1.moved (fun b o e hb hn => fl'.1 b o (inB b o e (by
      rcases hb with ⟨u, q, hx⟩ | ⟨u, q⟩ | ⟨p, hp, rfl⟩
      · exact .inl (hg0 b u q hx)
      · exact .inr ⟨u, q⟩
      · exact .inl (hpn p hp)) hn)) up
    have frA : X.A.frames = some (X.env :: X.outer) := by rw [← es1]; exact I.ok.frames
    rw [es1] at fl
    refine wpAny_looks_onW frA es2 fl fun h4 hl4 up4 => ?_
    refine wpAny_landsW hl4 fun h5 fl5 up5 => ?_
    have I5 := mv h5 (by rw [es1]; exact fl5) (up4.trans up5)
    obtain ⟨ob5, hob5, hc5⟩ := fl5.there
    have LT : PySem.W.Looks (model X.prog X.w) h5 (typeOf (.ref a)) C := hc5 ▸ (PySem.W.Looks.ld hob5).andThen .now
    refine wpAny_handleBy_cons (codeAny_handlers_test (ld_glob (X := suiteCx X a) I5.toSuite hg hm ?_ hdb)) (by intro z; cases z)
    refine (PySem.W.exm_one (K := X.K) (I5.kIn : X.K.In h5) LT hm1) _ _ _ _ (fun _ _ z => z) ?_
    refine codeAny_handlers_suite_as ?_
    refine lands_againW fl5 fun h6 fl6 up6 => ?_
    have I6 := mv h6 (by rw [es1]; exact fl6) ((up4.trans up5).trans up6)
    obtain ⟨ob6, vs6, hob6, hc6, hd6, _⟩ := fl6.first
    have nfr : ∀ o, s1.heap.get? a = some o → a ∉ frs X.stack := fun o e z => by
      obtain ⟨ob, vs, q1, _, q2, _⟩ := fl.first
      exact I1.frd a z ob q1 vs q2
    have notin : ∀ u, g.get? a = some u → False := fun u q => by
      obtain ⟨ob, vs, q1, _, q2, _⟩ := fl.first
      have z := inB a ob q1 (.inl ⟨u, q⟩) (nfr ob q1)
      rw [fl.2.1] at z; cases z
    have h0 : X.s₀.heap.get? a = none := by
      cases q : X.s₀.heap.get? a with
      | none => rfl
      | some u =>
        obtain ⟨u', z⟩ := hg0 a u q (by rw [hex]; exact fun z => nomatch z)
        exact (notin u' z).elim
    have hp : ∀ p ∈ X.pn ++ pins, p.1 ≠ a := fun p hp z => by
      obtain ⟨u, q⟩ := hpn p hp
      rw [z] at q
      exact notin u q
    have I7 : Inv X pins σ1 (upd H1 a (exO a C)) { s1 with heap := h6 } := I6.track ha hob6 hd6 h0 hp
      ⟨⟨ob6, vs6, hob6, hc6, hd6⟩, ⟨ob6, hob6⟩, fun ha hb ⟨o, v, z1, z2⟩ k => ⟨o, v, k o z1, z2⟩⟩
    have I8 : Inv X pins (List.replicate X.N.length none) (upd H1 a (exO a C)) { s1 with heap := h6 } := I7.weak (by rw [List.length_replicate, I7.len]) fun j v q => by
      rw [List.getElem?_replicate] at q
      split at q <;> cases q
    refine store_ok (X := suiteCx X a) I8.toSuite hN hi (.inl hk) (v := .ref a) rfl (fun s9 I9 => ?_) (.inr hk)
    refine wpAny_mono (hs a pins s9 _ _ _ I9 (hk1 a ha)) (fun f s10 q => ?_) fun _ _ z => z.elim
    have out : ∀ {σ' : St} {H' : Hp}, Inv (suiteCx X a) pins σ' H' s10 → Inv X pins σ' H' s10 := fun J => J.ofSuite I.ok.hd
    cases f with
    | next => obtain ⟨σ', H', J, q⟩ := q; exact unset_ok (out J) hi hN hk fun s11 J2 => ⟨_, H', J2, q⟩
    | brk => obtain ⟨σ', H', J, q⟩ := q; exact unset_ok (out J) hi hN hk fun s11 J2 => ⟨_, H', J2, q⟩
    | cont => obtain ⟨σ', H', J, q⟩ := q; exact unset_ok (out J) hi hN hk fun s11 J2 => ⟨_, H', J2, q⟩
    | ret u => obtain ⟨v, σ', H', J, r, q⟩ := q; exact unset_ok (out J) hi hN hk fun s11 J2 => ⟨v, _, H', J2, r, q⟩
end
end L2

set_option Elab.async false
set_option linter.all false
set_option maxRecDepth 100000
set_option maxHeartbeats 4000000
namespace L2
open PySem PySem.Spec PyProof.Rows

section
variable {X : Cx}
def rSlS : V → Option Int → Option Int → Hp → VK → Prop := fun x lo hi H Q => ∃ z, x = .str z ∧ z.length ≤ sizeLine ∧ Q (.str (Txt.slice z lo hi)) H
theorem part_of {v : Value} {o : Option Int} (p : IsPart v o) : ∃ l : Option (Int × Tok), v = partValue l ∧ l.map (·.1) = o := by
  cases p with
  | none => exact ⟨none, rfl, rfl⟩
  | int i t => exact ⟨some (i, t), rfl, rfl⟩
theorem sl_str : SlR X rSlS := by
  intro pins s σ H x v vl vu lo hi sl Q I rx hs pl pu h
  obtain ⟨z, rfl, hz, q⟩ := h
  obtain ⟨t, rfl⟩ := rx
  obtain ⟨l, rfl, rfl⟩ := part_of pl
  obtain ⟨u, rfl, rfl⟩ := part_of pu
  refine ⟨"str", _, PySem.F.slot_str_getitem.lookup, typeIs_str s z t, wpAny_getItem_str_slice (l := l) (u := u) (st := none) hs rfl ?_⟩
  exact post_val_or_str ⟨Nat.le_trans (Txt.slice_le z _ _) hz, fun t' k => ⟨.str _, H, I.tok _, ⟨_, rfl⟩, q⟩⟩

theorem mt_index : MtR X "list.index" (fun x vs H Q => ∃ l xs y j z, x = .ref l ∧ vs = [y] ∧ H l = some (.lst xs) ∧ flatV y = true ∧ xs.all flatV = true ∧ xs[j]? = some z ∧ eqV z y = true ∧ (∀ m z', m < j → xs[m]? = some z' → eqV z' y = false) ∧ Q (.int (j : Nat)) H) := by
  intro pins s σ H x vs v us Q I rx rv h
  obtain ⟨l, xs, y, j, z, rfl, rfl, hH, fy, fx, hj, hz, hno, q⟩ := h
  cases rx
  obtain ⟨u, rfl, ru⟩ := rv.one
  obtain ⟨zz, its, n, r, hl, e⟩ := I.lstM hH
  have hjl : j < its.length := by rw [← hl]; exact (List.getElem?_eq_some_iff.mp hj).1
  have ans : ∀ (m : Nat) (hm : m < its.length) (w : V), xs[m]? = some w → eqU y its[m] = eqV w y := fun m hm w hw => by
    obtain ⟨uu, e1, e2⟩ := r.get hw
    have e3 : its[m] = uu := by rw [List.getElem?_eq_getElem hm] at e1; exact Option.some.inj e1
    rw [e3]
    exact eqU_of e2 (List.all_eq_true.mp fx w (List.mem_of_getElem? hw))
  have hline := line63
  have hsm : (j : Int) < 2 ^ 63 - 1 := by
    have : j < sizeLine := by omega
    have h2 : sizeLine = 16777216 := sizeLine_eq
    omega
  refine call_meets PySem.F.slot_list_index ⟨_, e, rfl⟩ PySem.F.entry_list_index (PySem.F.args_list_index_2 _ _) (SeqAt.list_indexAt l its.toArray n none #[] u (eqU y) j (by simpa using hjl) hsm ?_ ?_) ⟨e, fun w hw => mem_eqAt ru fy r fx w (by simpa using hw), ?_⟩
  · show eqU y its.toArray[j] = true
    rw [List.getElem_toArray, ans j hjl z hj]; exact hz
  · intro m hm hmj
    have hm' : m < its.length := by simpa using hm
    have hx : m < xs.length := by omega
    show eqU y its.toArray[m] = false
    rw [List.getElem_toArray, ans m hm' xs[m] (List.getElem?_eq_getElem hx)]
    exact hno m _ hmj (List.getElem?_eq_getElem hx)
  · exact ⟨.int _, H, I.tok _, ⟨_, rfl⟩, q⟩

def eqL : List V → List V → Bool
  | [], [] => true
  | x :: xs, y :: ys => eqV x y && eqL xs ys
  | _, _ => false
theorem eqL_len : ∀ {xs ys : List V}, xs.length ≠ ys.length → eqL xs ys = false
  | [], [], h => absurd rfl h
  | [], _ :: _, _ => rfl
  | _ :: _, [], _ => rfl
  | x :: xs, y :: ys, h => by
    have : eqL xs ys = false := eqL_len fun z => h (by rw [List.length_cons, List.length_cons, z])
    show (eqV x y && eqL xs ys) = false
    rw [this, Bool.and_false]
theorem eqL_all : ∀ (xs ys : List V), xs.length = ys.length → (List.range xs.length).all (fun j => eqV (xs.getD j .non) (ys.getD j .non)) = eqL xs ys
  | [], [], _ => rfl
  | [], _ :: _, h => nomatch h
  | _ :: _, [], h => nomatch h
  | x :: xs, y :: ys, h => by
    have ih := eqL_all xs ys (by simpa using h)
    rw [List.length_cons, List.range_succ_eq_map, List.all_cons, List.all_map]
    show (eqV x y && _) = (eqV x y && eqL xs ys)
    rw [← ih]
    rfl
def rEqL (K : PySem.W.Frag) (neg : Bool) : R2 := fun x y H Q => ∃ l b xs ys, x = .ref l ∧ y = .ref b ∧ SqL K H l xs ∧ SqL K H b ys ∧ xs.all flatV = true ∧ ys.all flatV = true ∧ Q (.bl (if neg then !eqL xs ys else eqL xs ys)) H
theorem flat_at {xs ys : List V} {its its2 : List Value} {A : Around} {s : Shared} (r : Vals xs its) (r2 : Vals ys its2) (fx : xs.all flatV = true) (fy : ys.all flatV = true) :
    ∀ (j : Nat) (h1 : j < its.toArray.size) (h2 : j < its2.toArray.size), SeqAt.EqAt A s its.toArray[j] its2.toArray[j] (eqV (xs.getD j .non) (ys.getD j .non)) := by
  intro j h1 h2
  have l1 := r.length
  have l2 := r2.length
  have hx : j < xs.length := by rw [l1]; simpa using h1
  have hy : j < ys.length := by rw [l2]; simpa using h2
  obtain ⟨u, e1, q1⟩ := r.get (List.getElem?_eq_getElem hx)
  obtain ⟨w, e2, q2⟩ := r2.get (List.getElem?_eq_getElem hy)
  have e3 : its.toArray[j] = u := by
    rw [List.getElem_toArray]; rw [List.getElem?_eq_getElem (by simpa using h1)] at e1; exact Option.some.inj e1
  have e4 : its2.toArray[j] = w := by
    rw [List.getElem_toArray]; rw [List.getElem?_eq_getElem (by simpa using h2)] at e2; exact Option.some.inj e2
  have g1 : xs.getD j .non = xs[j] := by rw [List.getD_eq_getElem?_getD, List.getElem?_eq_getElem hx]; rfl
  have g2 : ys.getD j .non = ys[j] := by rw [List.getD_eq_getElem?_getD, List.getElem?_eq_getElem hy]; rfl
  rw [e3, e4, g1, g2]
  exact eqAt_V q1 q2 (List.all_eq_true.mp fx _ (List.getElem_mem hx)) (List.all_eq_true.mp fy _ (List.getElem_mem hy))
theorem op_eq_lst (hu : X.A.units < cLine) : OpR X (compareOp .Eq) (rEqL X.K false) := by
  intro pins s σ H x y v u Q I rx ry h
  obtain ⟨l, b, xs, ys, rfl, rfl, hx, hy, fx, fy, q⟩ := h
  cases rx; cases ry
  obtain ⟨its, r, pl, _⟩ := I.list hx
  obtain ⟨its2, r2, pl2, _⟩ := I.list hy
  have l1 := r.length
  have l2 := r2.length
  by_cases hl : xs.length = ys.length
  · refine SeqAt.eq_listAt pl.isList pl2.isList (by simp; omega) hu (flat_at r r2 fx fy) ?_
    rw [List.size_toArray, ← l1, eqL_all xs ys hl]
    exact ⟨.bl _, H, I, rfl, q⟩
  · refine SeqAt.eq_list_lengthsAt pl.isList pl2.isList (by simp; omega) hu ?_
    rw [show (if false = true then !eqL xs ys else eqL xs ys) = false from eqL_len hl] at q
    exact ⟨.bl _, H, I, rfl, q⟩
theorem op_ne_lst (hu : X.A.units < cLine) : OpR X (compareOp .NotEq) (rEqL X.K true) := by
  intro pins s σ H x y v u Q I rx ry h
  obtain ⟨l, b, xs, ys, rfl, rfl, hx, hy, fx, fy, q⟩ := h
  cases rx; cases ry
  obtain ⟨its, r, pl, _⟩ := I.list hx
  obtain ⟨its2, r2, pl2, _⟩ := I.list hy
  have l1 := r.length
  have l2 := r2.length
  by_cases hl : xs.length = ys.length
  · refine SeqAt.RcNeAt.lists pl.isList pl2.isList (by simp; omega) hu (flat_at r r2 fx fy) _ _ _ _ ?_
    rw [List.size_toArray, ← l1, eqL_all xs ys hl]
    exact ⟨.bl _, H, I, rfl, q⟩
  · refine SeqAt.RcNeAt.lists_lengths pl.isList pl2.isList (by simp; omega) hu _ _ _ _ ?_
    rw [show (if true = true then !eqL xs ys else eqL xs ys) = true by rw [eqL_len hl]; rfl] at q
    exact ⟨.bl _, H, I, rfl, q⟩

theorem all_range : ∀ bs : List Bool, (List.range bs.length).all (fun i => bs.getD i false) = bs.all id
  | [] => rfl
  | b :: bs => by
    rw [List.length_cons, List.range_succ_eq_map, List.all_cons, List.all_map, List.all_cons]
    show (b && _) = (b && _)
    rw [← all_range bs]
    rfl
theorem call_all_list (hc : X.calm = true) : CallR X (.builtin "all") (fun xs H Q => ∃ (p : Addr) (bs : List Bool), xs = [.ref p] ∧ SqL X.K H p (bs.map V.bl) ∧ Q (.bl (bs.all id)) H) := by
  intro pins s σ H xs us Q I r h
  obtain ⟨p, bs, rfl, hq, q⟩ := h
  obtain ⟨u, rfl, rx⟩ := vals1 r
  cases rx
  obtain ⟨its, r', pl, hz⟩ := I.list hq
  have hlen := r'.length
  obtain ⟨o, n, ho, _⟩ := id pl
  have hne : p ≠ s.heap.objs.size := Nat.ne_of_lt (Heap.lt_size ho)
  have tr : TruthOf X.prog X.w X.A.in1 (fun i v => its.toArray[i]? = some v) (fun i => bs.getD i false) := by
    intro i v s2 Q2 E2 hv hq2
    have hv' : its[i]? = some v := by simpa using hv
    have hi : i < bs.length := by
      have := (List.getElem?_eq_some_iff.mp hv').1
      rw [← hlen, List.length_map] at this; exact this
    obtain ⟨w, e1, e2⟩ := r'.get (i := i) (x := .bl bs[i]) (by rw [List.getElem?_map, List.getElem?_eq_getElem hi]; rfl)
    rw [hv'] at e1
    cases e1
    cases e2
    refine wpAny_truthy_bool ?_
    have e3 : bs.getD i false = bs[i] := by rw [List.getD_eq_getElem?_getD, List.getElem?_eq_getElem hi]; rfl
    have q3 : Q2 (bs.getD i false) s2 := hq2
    rw [e3] at q3
    exact q3
  refine call_all_walk (wpAny_pyIter_list pl.isList ?_)
  refine ⟨s.heap.objs.size, [s.heap.objs.size, p], [s.heap.objs.size], its.toArray.size, _, _, _, rfl, Walks.list (A := X.A.in1) (I.ok.hd hc) _ _ hne its.toArray, ⟨⟨_, Heap.get?_push_size _ rfl, rfl, rfl⟩, ?_⟩, tr, fun h' tk hk => ?_⟩
  · obtain ⟨o2, e2, r2⟩ := pl.isList
    exact ⟨o2, Heap.get?_push_of_some _ e2, r2⟩
  · have hk2 : ∀ b o, s.heap.get? b = some o → h'.get? b = some o := fun b o e => hk b o (fun z => by
      have e1 := Heap.lt_size e
      rw [List.mem_singleton.mp z] at e1
      exact absurd e1 (Nat.lt_irrefl _)) (Heap.get?_push_of_some _ e)
    have e : (List.range its.toArray.size).all (fun i => bs.getD i false) = bs.all id := by
      rw [List.size_toArray, ← hlen, List.length_map]; exact all_range bs
    rw [e]
    exact ⟨.bl _, H, I.kept (t' := tk) hk2, rfl, q⟩
end

theorem Inv.laidN {X : Cx} {pins : List (Addr × Obj)} {σ : St} {H : Hp} {s : Shared} {h' : Heap} {a : Addr} {o : HO} {t' : Nat} (I : Inv X pins σ H s) (k : ∀ b u, s.heap.get? b = some u → h'.get? b = some u) (hn : s.heap.get? a = none)
    (new : ObjOk X.prog X.w (upd H a o) h' a o) : Inv X pins σ (upd H a o) { s with heap := h', toks := t' } := by
  have ha : H a = none := I.hasNo hn
  have nt : ∀ b u, H b = some u → b ≠ a := fun b u q => ne_of_none q ha
  refine I.un ⟨fun b u q _ _ _ => k b u q, fun b u q _ _ _ => ⟨u.slots, k b u q⟩, fun b u q n _ => ?_, fun b u q _ => ⟨u, k b u q⟩, fun b xs q => ?_, fun b u xs q => ?_, fun b ps q => ⟨#[], ?_⟩⟩ fun b u q => ?_
  · have ne : b ≠ a := fun z => by rw [z, hn] at q; cases q
    rw [upd_ne ne]; exact n
  · rw [upd_ne (nt _ _ q)]; exact q
  · rw [upd_ne (nt _ _ q)]; exact q
  · rw [upd_ne (nt _ _ q), q]; simp
  · by_cases hb : b = a
    · subst hb; rw [upd_same] at q; cases q; exact new
    · rw [upd_ne hb] at q
      exact (I.hok b u q).stay (fun c v _ z => k c v z) (fun c z => by rw [upd_ne (nt _ _ z)]; exact z) fun c xs z => by rw [upd_ne (nt _ _ z)]; exact z

def inS (z : Str) (c : Nat) : Bool := !(Builtin.Str.occurrences z ⟨#[c]⟩ 0 z.length 1).isEmpty
theorem vals_signs {g : Nat → Bool} : ∀ (cs : List Nat) (vs rs : List Value), vs.length = cs.length → (∀ (j : Nat) (v : Value), vs[j]? = some v → ∃ c u, cs[j]? = some c ∧ v = .str ⟨#[c]⟩ u) →
    Paired (fun v r => ∀ c u, v = .str ⟨#[c]⟩ u → r = .bool (g c)) vs rs → Vals (cs.map fun c => V.bl (g c)) rs
  | [], [], _, _, _, .nil => .nil
  | [], _ :: _, _, h, _, _ => nomatch h
  | _ :: _, [], _, h, _, _ => nomatch h
  | c :: cs, v :: vs, _, h, hg, .cons r t => by
    obtain ⟨c', u, e1, e2⟩ := hg 0 v rfl
    have e3 : c = c' := by simpa using e1
    subst e3
    exact .cons (r c u e2) (vals_signs cs vs _ (by simpa using h) (fun j w hw => by simpa using hg (j + 1) w (by simpa using hw)) t)
section
variable {X : Cx} {x z : Str} {p1 p2 p3 px pos : Pos} {iter : Expr} {ti : TE} {scope : Scope} {cl : List (Str × Addr)} {zs : Str}
def ZRead (X : Cx) (scope : Scope) (cl : List (Str × Addr)) (z : Str) (p2 : Pos) (zs : Str) (σ : St) : Prop :=
  ∀ (pins : List (Addr × Obj)) (H : Hp) (s1 s3 : Shared) (C : Addr) (Q : Value → Shared → Prop) (E : Value → Shared → Prop), Inv X pins σ H s1 → (∀ b o, s1.heap.get? b = some o → s3.heap.get? b = some o) → (∀ t, Q (.str zs t) s3) →
    wpAny (model X.prog X.w) X.A (eval (.Name z p2) (compEnvC scope cl C X.env)) Q E s3
def tCompIn (X : Cx) (scope : Scope) (cl : List (Str × Addr)) (z : Str) (p2 : Pos) (ti : TE) : TE := fun σ H Q => ∃ zs, ZRead X scope cl z p2 zs σ ∧ ti σ H fun v H1 => ∃ y, v = .str y ∧ y.length ≤ sizeLine ∧
  ∀ p, H1 p = none → Q (.ref p) (upd H1 p (.lst (y.cps.toList.map fun c => V.bl (inS zs c))))
theorem pe_compIn (hc : X.calm = true) (hi : PE X iter ti) (hclos : closureFor scope X.env = pure cl) (hcell : ∀ y ∈ scope.names, y.2 ≠ .cell) (hkind : scope.kind = .function)
    (hnames : ∀ y ∈ scope.names, y.2 = .local → scope.names.lookup y.1 = some .local) (hx : scope.names.lookup x = some .local) (hs : ∀ v, foldedSetIterable iter X.env v = pure v := by intro _; rfl) (hd : (x == ("__debug__" : Str)) = false := by decide) :
    PE X (.ListComp (.Compare (.Name x p1) [.In] [.Name z p2] p3) [⟨.Name x px, iter, [], 0⟩] scope pos) (tCompIn X scope cl z p2 ti) := by
  intro pins s σ H Q I h
  obtain ⟨zs, zr, h⟩ := h
  refine wpAny_ListComp_free (cl := cl) (fun _ => true) (fun v r => ∀ c u, v = .str ⟨#[c]⟩ u → r = .bool (inS zs c)) hclos hcell hkind hnames hx (thn (hi pins s σ H _ I h) fun xv s1 ⟨v, H1, I1, r1, y, ev, hy, q⟩ => ?_) hs
  subst ev
  obtain ⟨t, rfl⟩ := r1
  refine wpAny_pyIter_str fun o St W hst => ?_
  have old : ∀ (h' : Heap), (∀ b o', b ∉ [s1.heap.objs.size] → (s1.heap.push o).get? b = some o' → h'.get? b = some o') → ∀ b o', s1.heap.get? b = some o' → h'.get? b = some o' := fun h' hk b o' e =>
    hk b o' (fun z => by
      have e1 := Heap.lt_size e
      rw [List.mem_singleton.mp z] at e1
      exact absurd e1 (Nat.lt_irrefl _)) (Heap.get?_push_of_some _ e)
  refine ⟨s1.heap.objs.size, [s1.heap.objs.size], [s1.heap.objs.size], y.cps.size, SignAt y, St, rfl, W X.A (I1.ok.hd hc), hy, hst, fun b hb => ?_, ⟨?_, ?_⟩, ?_⟩
  · rw [List.mem_singleton.mp hb]
    show s1.heap.objs.size < (s1.heap.push o).objs.size
    rw [Heap.size_push]; exact Nat.lt_succ_self _
  · intro C i v s3 m3 E' _ hP hn hm hk _
    exact wpAny_pure ⟨rfl, s3.heap, s3.toks, rfl, fun _ _ e => e⟩
  · intro C i v s3 m3 E' _ hP _ hn hm hk _
    obtain ⟨c, u, _, rfl⟩ := hP
    refine wpAny_Compare1 (wpAny_Name (wpAny_loadName_local (env := compEnvC scope cl C X.env) (m := m3) hkind (lookup_relabel_local hx) hn hm ?_) hd)
    refine zr pins H1 s1 s3 C _ _ I1 (old _ hk) fun t3 => ?_
    refine in_str ⟨fun c' u' e => ?_, s3.heap, s3.toks, rfl, fun _ _ e => e⟩
    injection e with e1 _
    injection e1 with e2
    have e3 : c = c' := by simpa using e2
    subst e3
    rfl
  · intro D h' tk ys vs hnew hl hpl hlen hP hF hk
    have hn1 : s1.heap.get? D = none := by
      cases e : s1.heap.get? D with
      | none => rfl
      | some u =>
        have := Heap.get?_push_of_some o e
        rw [show (s1.heap.push o).get? D = none from hnew] at this
        cases this
    obtain ⟨n, hD⟩ := hpl
    have hfil : vs.filter (fun _ => true) = vs := List.filter_eq_self.mpr fun _ _ => rfl
    rw [hfil] at hF
    have V1 : Vals (y.cps.toList.map fun c => V.bl (inS zs c)) ys.toList := vals_signs y.cps.toList vs ys.toList (by rw [hlen]; simp) (fun j v hv => by
      obtain ⟨c, u, e1, e2⟩ := hP j v hv
      exact ⟨c, u, by simpa using e1, e2⟩) hF
    have new : ObjOk X.prog X.w (upd H1 D (.lst (y.cps.toList.map fun c => V.bl (inS zs c)))) h' D (.lst (y.cps.toList.map fun c => V.bl (inS zs c))) := by
      refine ⟨?_, ys.toList, n, V1, ?_⟩
      · rw [List.length_map]
        have : y.cps.toList.length = y.length := by simp [Str.length]
        omega
      · rw [Array.toArray_toList]; exact hD
    exact ⟨.ref D, _, I1.laidN (t' := tk) (old h' hk) hn1 new, rfl, q D (I1.hasNo hn1)⟩
theorem zread_glob {σ : St} {t : Tok} (hg : (relabel scope X.env).names.lookup z = some .globalImplicit) (hkind : scope.kind = .function) (hm : X.mg z = some (.str zs t)) (hd : (z == ("__debug__" : Str)) = false := by decide) : ZRead X scope cl z p2 zs σ := by
  intro pins H s1 s3 C Q E I k q
  exact Calls.Name_function_global (env := compEnvC scope cl C X.env) hkind hg (Calls.loadGlobal_global (env := compEnvC scope cl C X.env) (by
    show s3.heap.Ns X.env.globals X.mg
    rw [I.ok.glob]; exact (I.mod.glob.keeps I.bk).keeps k) hm (q t)) hd
end

section
variable {X : Cx}
theorem call_isi_ty : CallR X (.builtin "isinstance") (fun xs H Q => ∃ x T t b, xs = [x, .ty T] ∧ TyOf X.K H x t ∧ PySem.W.kitOne X.K t (.type T) = some b ∧ Q (.bl b) H) := by
  intro pins s σ H xs us Q I r h
  obtain ⟨x, T, t, b, rfl, ty, e, q⟩ := h
  obtain ⟨u, w', rfl, rx, ry⟩ := vals2 r
  cases (show w' = Value.type T from ry)
  exact isinst_ok I rx ty e fun tk => ⟨.bl b, H, I.tok _, rfl, q⟩
theorem call_isi_own : CallR X (.builtin "isinstance") (fun xs H Q => ∃ x C t b, xs = [x, .ref C] ∧ TyOf X.K H x t ∧ PySem.W.kitOne X.K t (.ref C) = some b ∧ Q (.bl b) H) := by
  intro pins s σ H xs us Q I r h
  obtain ⟨x, C, t, b, rfl, ty, e, q⟩ := h
  obtain ⟨u, w', rfl, rx, ry⟩ := vals2 r
  cases (show w' = Value.ref C from ry)
  exact isinst_ok I rx ty e fun tk => ⟨.bl b, H, I.tok _, rfl, q⟩
end

section
variable {X : Cx} {x : Str} {pos : Pos}
theorem pe_gref {a : Addr} (hg : Gl X x) (hm : X.mg x = some (.ref a)) (hd : (x == ("__debug__" : Str)) = false := by decide) : PE X (.Name x pos) (tC (.ref a)) := pe_glob hg hm rfl hd
theorem pe_gty {T : String} (hg : Gl X x) (hm : X.mg x = none) (hv : bootBuiltins x = some (.type T)) (hn : x ≠ "__name__" := by decide) (hd : (x == ("__debug__" : Str)) = false := by decide) : PE X (.Name x pos) (tC (.ty T)) := pe_bltn hg hm hv rfl hn hd
end
end L2

set_option Elab.async false
set_option linter.all false
set_option maxRecDepth 100000
set_option maxHeartbeats 4000000
namespace L2
open PySem PySem.Spec PyProof.Rows PySem.W PySem.Calls Builtin Builtin.ObjectAttr Builtin.Getset_descriptor

section
variable {prog : Program} {w : World} {A : Around} {E : Value → Shared → Prop} {s : Shared} {K : PySem.W.Frag} {a C : Addr} {o : Obj} {R : Result → Shared → Prop}
structure ExI (K : PySem.W.Frag) (C : Addr) : Prop where
  cl : (PySem.W.clsIn K C).isSome = true
  g1 : PySem.W.findIn K (.ref C) "__getattribute__" = some (some (.builtin "BaseException.__getattribute__"))
  g2 : PySem.W.findIn K (.ref C) "__getattr__" = some none
  g3 : PySem.W.findIn K (.ref C) "__class__" = some (some (.builtin "object.__class__"))
  g4 : PySem.W.mroIn K C (.type "object") = some true
  g5 : PySem.W.mroIn K C (.type "BaseException") = some true
  g6 : PySem.W.specialIn K (.builtin "object.__class__") "__get__" = some (some (.builtin "getset_descriptor.__get__"))
  g7 : PySem.W.takesIn K (.builtin "object.__class__") = some true
theorem exc_get {tp : Value} (Y : K.In s.heap) (c : ExI K C) (hx : s.heap.get? a = some o) (hc : o.cls = .ref C) (h : R (.ok (.ret (.ref C))) s) :
    codeAny (model prog w) A (.call (.builtin "getset_descriptor.__get__") ⟨[.builtin "object.__class__", .ref a, tp], []⟩) R s := by
  obtain ⟨hh, g, dr, t, os⟩ := s
  have L0 : Looks (model prog w) hh (typeOf (.ref a)) (.ref C) := hc ▸ (Looks.ld hx).andThen .now
  have L1 := looks_mroIn (M := model prog w) Y c.g4
  refine codeAny_call_builtin KF.slot_gs.plain KF.entry_gs (KF.slot_gs.check _ _ _ _ _ _ _ _ KF.type_class (KF.args_gs _ _ _) ?_)
  unfold Builtin.«getset_descriptor.__get__» descrGet
  rw [dga_obj]
  refine wpAny_bind (wpAny_pure ?_)
  unfold descrGetter descrCheckInstance descrNameAndClass isInstance
  simp only [KF.owner_class]
  repeat lk
  refine ⟨Code.quiet_builtin _ (by decide +kernel), codeAny_builtin KF.entry_class ?_⟩
  unfold Builtin.«object.__class__» shownTypeOf
  repeat lk
  exact h
theorem exc_entry {tk : Tok} {Q : Fin → Shared → Prop} (Y : K.In s.heap) (c : ExI K C) (hx : s.heap.get? a = some o) (hc : o.cls = .ref C) (h : Q (.done (.ret (.ref C))) s) :
    wpAny (model prog w) A (Builtin.«object.__getattribute__» ⟨[.ref a, .str "__class__" tk], []⟩) Q E s := by
  obtain ⟨hh, g, dr, t, os⟩ := s
  have L0 : Looks (model prog w) hh (typeOf (.ref a)) (.ref C) := hc ▸ (Looks.ld hx).andThen .now
  have L1 := looks_findIn (M := model prog w) Y c.g3
  have L2 := looks_specialIn (M := model prog w) Y c.g6
  have L3 := looks_takesIn (M := model prog w) Y c.g7
  unfold Builtin.«object.__getattribute__»
  repeat lk
  refine wpAny_run (c := .call (.builtin "getset_descriptor.__get__") ⟨[.builtin "object.__class__", .ref a, .ref C], []⟩) (h := none) (exc_get (R := _) Y c hx hc ?_)
  exact wpAny_pure (wpAny_pure h)
theorem exc_check {M : Model} {nameV : Value} {Q : Unit → Shared → Prop} (Y : K.In s.heap) (c : ExI K C) (hx : s.heap.get? a = some o) (hc : o.cls = .ref C) (h : Q () s) :
    wpAny M A (checkBuiltinCall "BaseException.__getattribute__" ⟨[.ref a, nameV], []⟩) Q E s := by
  obtain ⟨hh, g, dr, t, os⟩ := s
  have L0 : Looks M hh (typeOf (.ref a)) (.ref C) := hc ▸ (Looks.ld hx).andThen .now
  have L1 := looks_mroIn (M := M) Y c.g5
  have hk : builtinKind "BaseException.__getattribute__" = some .slot := by decide +kernel
  have hsplit : splitId "BaseException.__getattribute__" = some ("BaseException", "__getattribute__") := by decide +kernel
  have ha := PySem.F.args_bexc_ga (.ref a) nameV
  simp only [checkBuiltinCall, hk, hsplit]
  refine wpAny_bind ?_
  unfold isInstance
  refine wpAny_bind (L0.at ?_)
  refine L1.at ?_
  rw [if_neg (by decide)]
  exact wpAny_of_eq ha h
theorem exc_attr {Q : Option Value → Shared → Prop} (Y : K.In s.heap) (c : ExI K C) (hx : s.heap.get? a = some o) (hc : o.cls = .ref C) (h : Q (some (.ref C)) { s with toks := s.toks + 1 }) :
    wpAny (model prog w) A (getAttr? (.ref a) "__class__") Q E s := by
  obtain ⟨hh, g, dr, t, os⟩ := s
  have L0 : Looks (model prog w) hh (typeOf (.ref a)) (.ref C) := hc ▸ (Looks.ld hx).andThen .now
  have L1 := looks_findIn (M := model prog w) Y c.g1
  have L2 := looks_findIn (M := model prog w) Y c.g2
  have f3 := PySem.F.excAttr_ValueError.ga.bind (.ref a)
  unfold getAttr? getAttrBy? getAttrBy
  refine wpAny_bind (wpAny_mkText (wpAny_bind (wpAny_attempt (wpAny_holding (wpAny_bind (L0.at (wpAny_bind (L1.at ?_))))))))
  dsimp only
  rw [if_neg (show ¬ ((onTheHeap (Value.ref C) && Value.builtin "BaseException.__getattribute__" == Value.builtin "object.__getattribute__") = true) by
    rw [show (Value.builtin "BaseException.__getattribute__" == Value.builtin "object.__getattribute__") = false by decide +kernel, Bool.and_false]; decide)]
  unfold getAttrByItsOwn hookBefore
  rw [if_pos (show onTheHeap (Value.ref C) = true from rfl)]
  refine wpAny_bind (L2.at ?_)
  unfold callGetattribute
  rw [if_neg (by decide)]
  unfold boundAndCalled
  refine wpAny_bind (wpAny_attempt (wpAny_holding (wpAny_bind (wpAny_of_eq f3 ?_))))
  refine wpAny_call (codeAny_call_builtin PySem.F.excAttr_ValueError.ga.plain PySem.F.entry_bexc_ga (exc_check Y c hx hc (exc_entry Y c hx hc ?_)))
  exact wpAny_pure (wpAny_pure h)

theorem kitx_exc (c : ExI K C) : KitX K (.ref a) (.ref C) (fun h => ∃ ob vs, h.get? a = some ob ∧ ob.cls = .ref C ∧ ob.data = .fields vs) where
  ty := fun M h Y ⟨ob, vs, hx, hc, _⟩ => hc ▸ (Looks.ld hx).andThen .now
  it := fun M h Y _ => by
    obtain ⟨cd, hcd⟩ := Option.isSome_iff_exists.mp c.cl
    unfold clsIn at hcd
    split at hcd
    · next ho =>
      intro A' Q' E' s' k q
      unfold isType loadHead
      exact wpAny_bind (wpAny_loadPart (k _ _ (Y _ _ ho)) (wpAny_pure q))
    · cases hcd
  ne := fun h tp dd its n sl Y htp => by
    obtain ⟨cd, hcd⟩ := Option.isSome_iff_exists.mp c.cl
    refine Bool.eq_false_iff.mpr fun q => ?_
    have e : C = tp := Value.ref.inj (beq_iff_eq.mp q)
    subst e
    unfold clsIn at hcd
    split at hcd
    · next ho =>
      have z := (Y _ _ ho).symm.trans htp
      cases z
    · cases hcd
  ca := fun Y ⟨ob, vs, hx, hc, _⟩ k => exc_attr Y c hx hc k
end
theorem call_isi_exc {X : Cx} : CallR X (.builtin "isinstance") (fun xs H Q => ∃ (a C D : Addr) (b : Bool), xs = [.ref a, .ref D] ∧ H a = some (exO a (.ref C)) ∧ ExI X.K C ∧ PySem.W.kitOne X.K (.ref C) (.ref D) = some b ∧ Q (.bl b) H) := by
  intro pins s σ H xs us Q I r h
  obtain ⟨a, C, D, b, rfl, ha, c, e, q⟩ := h
  obtain ⟨u, w', rfl, rx, ry⟩ := vals2 r
  cases (show u = Value.ref a from rx)
  cases (show w' = Value.ref D from ry)
  obtain ⟨p, _⟩ := I.hok a _ ha
  exact kia_one (kitx_exc c) I.kIn p e (fun z => nomatch z) fun tk => ⟨.bl b, H, I.tok _, rfl, q⟩
theorem call_isi_excT {X : Cx} : CallR X (.builtin "isinstance") (fun xs H Q => ∃ (a C : Addr) (T : String) (b : Bool), xs = [.ref a, .ty T] ∧ H a = some (exO a (.ref C)) ∧ ExI X.K C ∧ PySem.W.kitOne X.K (.ref C) (.type T) = some b ∧ Q (.bl b) H) := by
  intro pins s σ H xs us Q I r h
  obtain ⟨a, C, T, b, rfl, ha, c, e, q⟩ := h
  obtain ⟨u, w', rfl, rx, ry⟩ := vals2 r
  cases (show u = Value.ref a from rx)
  cases (show w' = Value.type T from ry)
  obtain ⟨p, _⟩ := I.hok a _ ha
  exact kia_one (kitx_exc c) I.kIn p e (fun z => nomatch z) fun tk => ⟨.bl b, H, I.tok _, rfl, q⟩
end L2

set_option Elab.async false
set_option linter.all false
set_option maxRecDepth 100000
set_option maxHeartbeats 4000000
namespace L2
open PySem PySem.Spec PyProof.Rows

theorem thnF {α : Type} {t : Sem α} {Q Q' : α → Shared → Prop} {M : Model} {A : Around} {E : Value → Shared → Prop} {s : Shared} (h : wpAny M A t Q (fun _ _ => False) s) (hQ : ∀ a s, Q a s → Q' a s) : wpAny M A t Q' E s := wpAny_mono h hQ fun _ _ z => z.elim

abbrev testsOf (ifs : List Expr) (env : Env) : Sem Bool := forIn ifs true fun c r => if r = true then do let ok ← isTrue c env (eval c env); pure (ForInStep.yield ok) else pure (ForInStep.yield r)

theorem comp_turns {prog : Program} {w : World} {A : Around} {R : Result → Shared → Prop} {s : Shared} {elt tg iter : Expr} {ifs : List Expr} {scope : Scope} {pos : Pos} {it acc : Value} {env : Env} (J : Nat → Shared → Prop)
    (turn : ∀ k s1, J k s1 → wpAny (model prog w) A (pyNext it) (fun r s2 => match r with
      | none => R (.ok .next) s2
      | some v => wpAny (model prog w) A (letOwnedTupleGo tg it v) (fun _ s3 => wpAny (model prog w) A (assign tg env v) (fun _ s4 => wpAny (model prog w) A (testsOf ifs env) (fun ok s5 =>
          if ok = true then wpAny (model prog w) A (eval elt env) (fun x s6 => wpAny (model prog w) A (call (.builtin "list.append") [acc, x]) (fun _ s7 => ∃ m, m < k ∧ J m s7) (fun _ _ => False) s6) (fun _ _ => False) s5
          else ∃ m, m < k ∧ J m s5) (fun _ _ => False) s4) (fun _ _ => False) s3) (fun _ _ => False) s2) (fun _ _ => False) s1)
    (k : Nat) (h : J k s) : codeAny (model prog w) A (.compLoop (.ListComp elt [⟨tg, iter, ifs, 0⟩] scope pos) 0 it acc env) R s := by
  refine codeAny_loop rfl J (fun k s1 hJ => ?_) k h
  refine wpAny_noted ?_
  rw [compTurn_list]
  refine wpAny_bind (wpAny_standAt (wpAny_bind (thnF (turn k s1 hJ) fun r s2 h2 => ?_)))
  cases r with
  | none => exact wpAny_pure h2
  | some v =>
    refine wpAny_bind (thnF h2 fun _ s3 h3 => wpAny_bind (thnF h3 fun _ s4 h4 => wpAny_bind (thnF h4 fun ok s5 h5 => ?_)))
    cases ok with
    | false => exact wpAny_pure ⟨rfl, h5⟩
    | true => exact wpAny_bind (wpAny_bind (thnF h5 fun x s6 h6 => wpAny_bind (thnF h6 fun _ s7 h7 => wpAny_pure (wpAny_pure ⟨rfl, h7⟩))))

abbrev compCx (X : Cx) (N : List Str) (scope : Scope) (cl : List (Str × Addr)) (C : Addr) (s0 : Shared) (H0 : Hp) (ex : List Addr) (pins : List (Addr × Obj)) : Cx :=
  { X with N := N, s₀ := s0, H₀ := H0, env := compEnvC scope cl C X.env, outer := X.stack, stack := X.stack, ex := ex, fn := fun _ => false, pn := X.pn ++ pins, xe := fun _ _ => False }
def FreeOk (X : Cx) (scope : Scope) (cl : List (Str × Addr)) : List Str → List (Option Nat) → Prop
  | [], [] => True
  | _ :: N, none :: fr => FreeOk X scope cl N fr
  | y :: N, some i :: fr => (X.N[i]? = some y ∧ (X.env.kindOf y = some .cell ∨ X.env.kindOf y = some .free) ∧ ((relabel scope X.env).names.lookup y = some .cell ∨ (relabel scope X.env).names.lookup y = some .free) ∧
      ∃ c, X.env.cells.lookup y = some c ∧ cl.lookup y = some c) ∧ FreeOk X scope cl N fr
  | _, _ => False
def compSt (fr : List (Option Nat)) (σ : St) : St := fr.map fun o => match o with | none => none | some i => (σ[i]?).getD none
theorem FreeOk.len {X : Cx} {scope : Scope} {cl : List (Str × Addr)} : ∀ {N : List Str} {fr : List (Option Nat)}, FreeOk X scope cl N fr → fr.length = N.length
  | [], [], _ => rfl
  | _ :: N, none :: fr, h => by rw [List.length_cons, List.length_cons, FreeOk.len (N := N) h]
  | _ :: N, some i :: fr, h => by rw [List.length_cons, List.length_cons, FreeOk.len (N := N) h.2]
  | [], _ :: _, h => h.elim
  | _ :: _, [], h => h.elim
theorem FreeOk.at {X : Cx} {scope : Scope} {cl : List (Str × Addr)} {σ : St} {v : V} {y : Str} : ∀ {N : List Str} {fr : List (Option Nat)} {j : Nat}, FreeOk X scope cl N fr → N[j]? = some y → (compSt fr σ)[j]? = some (some v) →
    ∃ i : Nat, σ[i]? = some (some v) ∧ X.N[i]? = some y ∧ (X.env.kindOf y = some .cell ∨ X.env.kindOf y = some .free) ∧ ((relabel scope X.env).names.lookup y = some .cell ∨ (relabel scope X.env).names.lookup y = some .free) ∧
      ∃ c, X.env.cells.lookup y = some c ∧ cl.lookup y = some c
  | [], [], j, _, e, _ => by simp at e
  | [], _ :: _, _, h, _, _ => h.elim
  | _ :: _, [], _, h, _, _ => h.elim
  | _ :: N, none :: fr, 0, _, _, q => by cases q
  | _ :: N, none :: fr, j + 1, h, e, q => FreeOk.at (N := N) (fr := fr) (j := j) h e q
  | x :: N, some i :: fr, 0, h, e, q => by
    have e' : x = y := Option.some.inj e
    subst e'
    have q' : some ((σ[i]?).getD none) = some (some v) := q
    refine ⟨i, ?_, h.1⟩
    cases z : σ[i]? with
    | none => rw [z] at q'; cases q'
    | some o => rw [z] at q'; exact congrArg some (Option.some.inj q')
  | _ :: N, some i :: fr, j + 1, h, e, q => FreeOk.at (N := N) (fr := fr) (j := j) h.2 e q
def ClOk (X : Cx) : List (Str × Addr) → Prop
  | [] => True
  | (y, c) :: r => X.env.cells.lookup y = some c ∧ ClOk X r
theorem ClOk.at {X : Cx} {y : Str} {c : Addr} : ∀ {cl : List (Str × Addr)}, ClOk X cl → cl.lookup y = some c → X.env.cells.lookup y = some c
  | [], _, e => by cases e
  | (z, d) :: r, h, e => by
    rw [List.lookup_cons] at e
    cases q : y == z with
    | true =>
      rw [q] at e
      have e1 : y = z := by simpa using q
      have e2 : d = c := Option.some.inj e
      subst e1 e2
      exact h.1
    | false =>
      rw [q] at e
      exact ClOk.at h.2 e
theorem lookup_all {α : Type} {p : Str × α → Bool} {y : Str} {k : α} : ∀ {l : List (Str × α)}, l.all p = true → l.lookup y = some k → p (y, k) = true
  | [], _, e => by cases e
  | (z, d) :: r, h, e => by
    rw [List.all_cons, Bool.and_eq_true] at h
    rw [List.lookup_cons] at e
    cases q : y == z with
    | true =>
      rw [q] at e
      have e1 : y = z := by simpa using q
      have e2 : d = k := Option.some.inj e
      subst e1 e2
      exact h.1
    | false =>
      rw [q] at e
      exact lookup_all h.2 e

section
variable {X : Cx} {pins : List (Addr × Obj)} {σ : St} {H : Hp} {s : Shared} {N : List Str} {fr : List (Option Nat)} {scope : Scope} {cl : List (Str × Addr)}
theorem Inv.block {ex : List Addr} {h' : Heap} {C : Addr} {m : Str → Option Value} {tk : Nat} (I : Inv X pins σ H s) (hkind : scope.kind = .function) (hfr : FreeOk X scope cl N fr) (hcl : ClOk X cl)
    (hhas : ((relabel scope X.env).names.all fun p => !(p.2 == .cell || p.2 == .free) || (cl.lookup p.1).isSome) = true) (hex : ∀ b ∈ ex, FpOk X pins H b) (hlt : ∀ b ∈ ex, b < s.heap.objs.size)
    (old : ∀ b o, s.heap.get? b = some o → h'.get? b = some o) (hC : s.heap.objs.size ≤ C) (hns : h'.Ns C m) : Inv (compCx X N scope cl C s H ex pins) [] (compSt fr σ) H { s with heap := h', toks := tk } := by
  have nst : ∀ b, b ≠ X.env.locals → b ∉ X.fs → b ∉ frs X.stack := fun b h1 h2 z => (List.mem_cons.mp (I.stkSub b z)).elim h1 h2
  have ltC : ∀ b o, s.heap.get? b = some o → b ≠ C := fun b o e => Nat.ne_of_lt (Nat.lt_of_lt_of_le (Heap.lt_size e) hC)
  refine ⟨⟨I.ok.mod, hkind, I.ok.glob, I.ok.blt, hC, fun x y c e1 e2 => I.ok.inj x y c (hcl.at e1) (hcl.at e2), fun x hx => ?_, (fun _ _ z => nomatch z), I.ok.hd, I.ok.frames, .inl rfl, fun b hb => ⟨Nat.ne_of_lt (Nat.lt_of_lt_of_le (hlt b hb) hC), fun x c e => (hex b hb).2.2.2.2.1 x c (hcl.at e)⟩,
      I.bs, Nat.le_trans I.ok.bsz I.sz, fun b o e hb => ?_, fun b hb => nst b (hex b hb).2.1 (hex b hb).2.2.1, I.stack, I.stkFree⟩, rfl, I.bare, Un.kept old, ⟨m, hns, fun i x v e1 e2 e3 => ?_⟩, fun x c e => ?_, ?_, fun x c e => I.freeC x c (hcl.at e), fun p hp => ?_, I.hok.kept old, ?_⟩
  · have q : ∃ k, (relabel scope X.env).names.lookup x = some k ∧ (k = .cell ∨ k = .free) := hx.elim (fun z => ⟨_, z, .inl rfl⟩) fun z => ⟨_, z, .inr rfl⟩
    obtain ⟨k, q1, q2⟩ := q
    have z := lookup_all hhas q1
    have z2 : (cl.lookup x).isSome = true := by
      rcases q2 with rfl | rfl
      · simpa using z
      · simpa using z
    exact Option.isSome_iff_exists.mp z2
  · rcases (hex b hb).2.2.2.1 with z | z
    · exact I.ok.noex b o e z
    · exact absurd (Nat.lt_of_lt_of_le (Nat.lt_of_lt_of_le (Heap.lt_size e) I.ok.bsz) z) (Nat.lt_irrefl _)
  · obtain ⟨j, q1, q2, q3, q4, c, q5, q6⟩ := hfr.at e1 e2
    obtain ⟨m0, hn0, hl0⟩ := I.loc
    obtain ⟨u, r, l⟩ := hl0 j x v q2 q1 (q3.elim (fun z => .inr (.inl z)) fun z => .inr (.inr z))
    refine ⟨u, r, .inr ⟨q4, c, q6, ?_⟩⟩
    rcases l with ⟨k, _⟩ | ⟨_, c', e', o, ho, hd⟩
    · rcases q3 with z | z
      · rw [z] at k; cases k
      · rw [z] at k; cases k
    · rw [q5] at e'; cases e'
      exact ⟨o, old _ _ ho, hd⟩
  · obtain ⟨v, o, ho, hd⟩ := I.cell x c (hcl.at e)
    exact ⟨v, o, old _ _ ho, hd⟩
  · exact I.hok.fresh hC
  · have hp' : p ∈ X.pn ++ pins := by simpa using hp
    obtain ⟨e, n, ne, nf, d⟩ := I.pin p hp'
    exact ⟨old _ _ e, n, ltC _ _ e, nst _ ne nf, d⟩
  · show (compSt fr σ).length = N.length
    unfold compSt
    rw [List.length_map, hfr.len]

theorem Inv.trackS {a : Addr} {ob : Obj} {vs : Array Value} {n : Nat} {o : HO} (I : Inv X pins σ H s) (ha : H a = none) (hob : s.heap.get? a = some ob) (hd : ob.data = .seq vs n)
    (h0 : X.s₀.heap.get? a = none) (hp : ∀ p ∈ X.pn ++ pins, p.1 ≠ a) (new : ObjOk X.prog X.w (upd H a o) s.heap a o) : Inv X pins σ (upd H a o) s := by
  have nt : ∀ b u, H b = some u → b ≠ a := fun b u q => ne_of_none q ha
  refine ⟨I.ok, I.os, I.bare, ⟨I.base.keep, I.base.slot, fun b u e n hx => ?_, I.base.there, fun b xs q => ?_, fun b u xs q => ?_, fun b ps q => ?_⟩, I.loc, I.cell, ?_, fun y c e => ?_, fun p q => ?_, fun b u q => ?_, I.len⟩
  · have ne : b ≠ a := fun z => by rw [z, h0] at e; cases e
    rw [upd_ne ne]; exact I.base.free b u e n hx
  · have z := I.base.tups b xs q
    rw [upd_ne (nt _ _ z)]; exact z
  · have z := I.base.frzs b u xs q
    rw [upd_ne (nt _ _ z)]; exact z
  · obtain ⟨m, z⟩ := I.base.tbls b ps q
    exact ⟨m, by rw [upd_ne (nt _ _ z)]; exact z⟩
  · have ne : X.env.locals ≠ a := fun z => by
      obtain ⟨m, ⟨oL, es, ep, e1, e2, _⟩, _⟩ := I.loc
      rw [z, hob] at e1; cases e1
      rw [hd] at e2; cases e2
    rw [upd_ne ne]; exact I.free
  · have ne : c ≠ a := fun z => by
      obtain ⟨v, oc, e1, e2⟩ := I.cell y c e
      rw [z, hob] at e1; cases e1
      rw [hd] at e2; cases e2
    rw [upd_ne ne]; exact I.freeC y c e
  · obtain ⟨e, n, r⟩ := I.pin p q
    exact ⟨e, by rw [upd_ne (hp p q)]; exact n, r⟩
  · by_cases hb : b = a
    · subst hb; rw [upd_same] at q; cases q; exact new
    · rw [upd_ne hb] at q
      exact (I.hok b u q).stay (fun c v _ z => z) (fun c z => by rw [upd_ne (nt _ _ z)]; exact z) fun c xs z => by rw [upd_ne (nt _ _ z)]; exact z
end

def PTs (X : Cx) (ifs : List Expr) (t : TT) : Prop :=
  ∀ (pins : List (Addr × Obj)) (s : Shared) (σ : St) (H : Hp) (Q : Bool → Hp → Prop), Inv X pins σ H s → t σ H Q → wpAny (model X.prog X.w) X.A (testsOf ifs X.env) (TP X pins σ Q) X.xe s
def tTrue : TT := fun _ H Q => Q true H
theorem pts_nil {X : Cx} : PTs X [] tTrue := fun _ _ _ H _ I h => wpAny_tests_nil ⟨H, I, h⟩
theorem pts_one {X : Cx} {c : Expr} {t : TT} (h : PT X c t) : PTs X [c] t := fun pins s σ H Q I q => wpAny_tests_one (h pins s σ H Q I q)

def endC (Q : VK) (acc : List V) (H : Hp) : Prop := ∀ p, H p = none → Q (.ref p) (upd H p (.lst acc))
def tComp (fr : List (Option Nat)) (wi : TI) (g : TG) (tt : TT) (te : TE) : TE := fun σ H Q => wi σ H fun J H1 => ∃ W : Nat → Nat → List V → St → Hp → Prop, (∃ m, W 0 m [] (compSt fr σ) H1) ∧ ∀ i m acc σ1 H, W i m acc σ1 H →
  (J.stop i H ∧ endC Q acc H) ∨
  (J.go i H ∧ acc.length < sizeLine ∧ ∃ N : List V → St → Hp → Prop, (∀ acc' σ' H', N acc' σ' H' → ∃ m', m' < m ∧ W (i + 1) m' acc' σ' H') ∧ ∀ x H', J.yld i H x H' → g x σ1 H' fun σ2 H2 => tt σ2 H2 fun b H3 => if b = true then te σ2 H3 fun y H4 => N (acc ++ [y]) σ2 H4 else N acc σ2 H3)
theorem pe_comp {X : Cx} {elt tg iter : Expr} {ifs : List Expr} {scope : Scope} {cl : List (Str × Addr)} {pos : Pos} {N : List Str} {fr : List (Option Nat)} {wi : TI} {g : TG} {tt : TT} {te : TE}
    (hc : X.calm = true) (hi : PI X tg iter wi) (hclos : closureFor scope X.env = pure cl) (hcell : ∀ y ∈ scope.names, y.2 ≠ .cell) (hkind : scope.kind = .function)
    (hnames : ∀ y ∈ scope.names, y.2 = .local → scope.names.lookup y.1 = some .local) (hfr : FreeOk X scope cl N fr) (hcl : ClOk X cl)
    (hhas : ((relabel scope X.env).names.all fun p => !(p.2 == .cell || p.2 == .free) || (cl.lookup p.1).isSome) = true)
    (hg : ∀ C s0 H0 ex pins, PG (compCx X N scope cl C s0 H0 ex pins) tg g) (ht : ∀ C s0 H0 ex pins, PTs (compCx X N scope cl C s0 H0 ex pins) ifs tt) (he : ∀ C s0 H0 ex pins, PE (compCx X N scope cl C s0 H0 ex pins) elt te)
    (hs : ∀ v, foldedSetIterable iter X.env v = pure v := by intro _; rfl) : PE X (.ListComp elt [⟨tg, iter, ifs, 0⟩] scope pos) (tComp fr wi g tt te) := by
  intro pins s σ H Q I h
  rw [eval_ListComp]
  refine wpAny_comprehension_free (use := none) rfl hs hclos hkind hnames (thn (hi pins s σ H _ I h) fun xv s1 h1 => thn h1 fun itv s2 h2 => ?_)
  obtain ⟨it, fp, tn, J, H2, e, I2, T, st2, f2, W, ⟨m0, w0⟩, turn⟩ := h2
  subst e
  refine wpAny_newObj_type (wpAny_newFunctionEnv hcell (fun y hy => nomatch hy) (fun h4 hns hsb => ?_) hkind)
  dsimp only at hns hsb ⊢
  generalize hD : s2.heap.objs.size = D at *
  generalize hG : s2.heap.push { cls := .type "list", dict := none, data := .seq ([] : List Value).toArray } = G at hns hsb ⊢
  have hC : G.objs.size = D + 1 := by rw [← hG, Heap.size_push, hD]
  generalize hCC : G.objs.size = C at hns hsb hC ⊢
  subst hC
  have old : ∀ b o, s2.heap.get? b = some o → h4.get? b = some o := fun b o e => by
    have lt := Heap.lt_size e
    rw [hD] at lt
    exact hsb.extBut b o (Nat.ne_of_lt (Nat.lt_succ_of_lt lt)) (Heap.get?_push_of_some _ (hG ▸ Heap.get?_push_of_some _ e))
  have hDl : h4.get? D = some { cls := .type "list", dict := none, data := .seq ([] : List Value).toArray 0 } :=
    hsb.extBut _ _ (Nat.ne_of_lt (Nat.lt_succ_self _)) (Heap.get?_push_of_some _ (hG ▸ hD ▸ Heap.get?_push_size _ rfl))
  have flt : ∀ b ∈ fp, b < D := fun b hb => by
    obtain ⟨o, e, _⟩ := T.obj 0 _ st2 b hb
    have lt := Heap.lt_size e
    rw [hD] at lt
    exact lt
  have nst : ∀ b, b ≠ X.env.locals → b ∉ X.fs → b ∉ frs X.stack := fun b h1 h2 z => (List.mem_cons.mp (I2.stkSub b z)).elim h1 h2
  have pl : ∀ p ∈ X.pn ++ pins, p.1 < D := fun p hp => by
    have lt := Heap.lt_size (I2.pin p hp).1
    rw [hD] at lt
    exact lt
  have I4 : ∀ tk, Inv (compCx X N scope cl (D + 1) s2 H2 fp pins) [] (compSt fr σ) H2 { s2 with heap := h4, toks := tk } := fun tk =>
    I2.block hkind hfr hcl hhas f2 (fun b hb => by rw [hD]; exact flt b hb) old (by rw [hD]; exact Nat.le_succ _) hns
  have stat : ∀ {H' : Hp} {o : Obj}, (∀ b ∈ fp, H' b = none) → ∀ b ∈ fp, FpOk (compCx X N scope cl (D + 1) s2 H2 fp pins) [(D, o)] H' b := fun {H' o} hn b hb => by
    obtain ⟨_, k1, k2, _, k4, k5⟩ := f2 b hb
    refine ⟨hn b hb, Nat.ne_of_lt (Nat.lt_succ_of_lt (flt b hb)), nst b k1 k2, .inl hb, fun x c e => k4 x c (hcl.at e), fun p hp => ?_⟩
    rcases List.mem_append.mp hp with hp | hp
    · exact k5 p hp
    · rw [List.mem_singleton.mp hp]
      exact (Nat.ne_of_lt (flt b hb)).symm
  have dnf : D ∉ frs X.stack := fun z => by
    obtain ⟨_, o, e, _⟩ := I2.stack.mem z
    have lt := Heap.lt_size e
    rw [hD] at lt
    exact absurd lt (Nat.lt_irrefl _)
  have loop : ∀ tk, codeAny (model X.prog X.w) X.A (.compLoop (.ListComp elt [⟨tg, iter, ifs, 0⟩] scope pos) 0 (.ref it) (.ref D) (compEnvC scope cl (D + 1) X.env)) (compPost (model X.prog X.w) X.A X.xe none (EP X pins σ Q) (.ref D) (D + 1)) { s2 with heap := h4, toks := tk } := fun tk => by
    refine comp_turns (fun k s' => ∃ i σ' H' its nD acc, Inv (compCx X N scope cl (D + 1) s2 H2 fp pins) [] σ' H' s' ∧
        s'.heap.get? D = some { cls := .type "list", dict := none, data := .seq (List.toArray its) nD } ∧ H' D = none ∧ Vals acc its ∧ acc.length ≤ sizeLine ∧ tn i s'.heap ∧ (∀ b ∈ fp, H' b = none) ∧ W i k acc σ' H') ?_ m0
      ⟨0, _, H2, [], 0, [], I4 tk, hDl, I2.hok.fresh (by rw [hD]; exact Nat.le_refl _), .nil, Nat.zero_le _, T.keep 0 _ _ st2 fun b _ o e => old b o e, fun b hb => (f2 b hb).1, w0⟩
    rintro k s5 ⟨i, σ5, H5, its, nD, acc, I5, hL, hn5, va, hacc, st5, fr5, w5⟩
    have dcell : ∀ x c, cl.lookup x = some c → c ≠ D := fun x c e z => by
      obtain ⟨v, q⟩ := I2.cell x c (hcl.at e)
      have lt := q.lt
      rw [hD, z] at lt
      exact absurd lt (Nat.lt_irrefl _)
    have I5' : Inv (compCx X N scope cl (D + 1) s2 H2 fp pins) [(D, { cls := .type "list", dict := none, data := .seq (List.toArray its) nD })] σ5 H5 s5 := I5.pins_of fun p hp => by
      rw [List.mem_singleton.mp hp]
      exact ⟨hL, hn5, Nat.ne_of_lt (Nat.lt_succ_self _), dnf, fun v z => by cases z⟩
    rcases turn i k acc σ5 H5 w5 with ⟨stop, qn⟩ | ⟨go, hlt, N1, hN1, step⟩
    · refine thnF (T.done (compCx X N scope cl (D + 1) s2 H2 fp pins) rfl rfl rfl hc i _ s5 _ H5 _ I5' (stat fr5) st5 stop) fun r s6 ⟨hr, I6⟩ => ?_
      subst hr
      obtain ⟨m6, hn6, _⟩ := I6.loc
      refine ⟨m6, hn6, fun h7 hs7 => ?_⟩
      have hL7 : h7.get? D = some { cls := .type "list", dict := none, data := .seq (List.toArray its) nD } := hs7.extBut _ _ (Nat.ne_of_lt (Nat.lt_succ_self _)) (I6.pin (D, _) (List.mem_append_right _ (List.mem_singleton.mpr rfl))).1
      have neC : ∀ b o, s2.heap.get? b = some o → b ≠ D + 1 := fun b o e => by
        have lt := Heap.lt_size e
        rw [hD] at lt
        exact Nat.ne_of_lt (Nat.lt_succ_of_lt lt)
      have nt : ∀ b u, H5 b = some u → b ≠ D + 1 := fun b u q z => by
        have f := I6.free
        rw [z] at q
        rw [show H5 (D + 1) = none from f] at q
        cases q
      have un : Un (frs X.stack) fp H2 H5 s2.heap h7 := ⟨fun b o e n hb hx => hs7.extBut b o (neC b o e) (I6.base.keep b o e n hb hx),
        fun b o e n hb hx => let ⟨sl, q⟩ := I6.base.slot b o e n hb hx; ⟨sl, hs7.extBut b _ (neC b o e) q⟩, I6.base.free, fun b o e hx => let ⟨o', q⟩ := I6.base.there b o e hx; ⟨o', hs7.extBut b _ (neC b o e) q⟩, I6.base.tups, I6.base.frzs, I6.base.tbls⟩
      have hok : HOk X.prog X.w H5 h7 := fun b u q => (I6.hok b u q).stay (fun c v hc e => hs7.extBut c v (by
        rcases hc with rfl | hc
        · exact nt _ _ q
        · exact nt _ _ hc) e) (fun _ z => z) fun _ _ z => z
      have I8 : Inv X pins σ H5 { s6 with heap := h7 } := I2.call' (s' := { s6 with heap := h7 }) I6.os un hok I6.bare fun b hb => let ⟨_, k1, _, k3, k4, k5⟩ := f2 b hb; ⟨k3, k1, k4, k5⟩
      have I9 : Inv X pins σ (upd H5 D (.lst acc)) { s6 with heap := h7 } := I8.trackS hn5 hL7 rfl (by
          cases z : X.s₀.heap.get? D with
          | none => rfl
          | some o =>
            have lt := Nat.lt_of_lt_of_le (Heap.lt_size z) I2.sz
            rw [hD] at lt
            exact absurd lt (Nat.lt_irrefl _)) (fun p hp => Nat.ne_of_lt (pl p hp)) ⟨hacc, its, nD, va, hL7⟩
      exact ⟨.ref D, _, I9, rfl, qn D hn5⟩
    · refine thnF (T.item (compCx X N scope cl (D + 1) s2 H2 fp pins) rfl rfl rfl hc i _ s5 _ H5 _ I5' (stat fr5) st5 go) fun r s6 ⟨u, hr, h6⟩ => ?_
      subst hr
      refine thnF h6 fun _ s7 ⟨x, H7, I7, r7, y7, st7, fr7⟩ => ?_
      have I7' : Inv (compCx X N scope cl (D + 1) s2 H2 fp pins) ([(D, { cls := .type "list", dict := none, data := .seq (List.toArray its) nD })] ++ pinsAt fp s7.heap) σ5 H7 s7 := I7.pinned (stat fr7) (T.obj _ _ st7)
      refine thnF (hg _ _ _ _ _ _ s7 _ H7 x u _ I7' r7 (step x H7 y7)) fun _ s8 ⟨σ8, H8, I8, q8⟩ => ?_
      refine thnF (ht _ _ _ _ _ _ s8 σ8 H8 _ I8 q8) fun ok s9 ⟨H9, I9, q9⟩ => ?_
      have wk : ∀ {σ' : St} {H' : Hp} {s' : Shared}, Inv (compCx X N scope cl (D + 1) s2 H2 fp pins) ([(D, { cls := .type "list", dict := none, data := .seq (List.toArray its) nD })] ++ pinsAt fp s7.heap) σ' H' s' →
          tn (i + 1) s'.heap ∧ (∀ b ∈ fp, H' b = none) ∧ s'.heap.get? D = some { cls := .type "list", dict := none, data := .seq (List.toArray its) nD } ∧ H' D = none := fun {σ' H' s'} J' => by
        have pin : ∀ p ∈ ([(D, { cls := .type "list", dict := none, data := .seq (List.toArray its) nD })] : List (Addr × Obj)) ++ pinsAt fp s7.heap, s'.heap.get? p.1 = some p.2 ∧ H' p.1 = none := fun p hp => let ⟨e, n, _⟩ := J'.pin p (List.mem_append_right _ hp); ⟨e, n⟩
        refine ⟨T.keep _ _ _ st7 fun b hb o e => (pin (b, o) (List.mem_append_right _ (mem_pinsAt hb e))).1, fun b hb => ?_, (pin (D, _) (List.mem_append_left _ (List.mem_singleton.mpr rfl))).1, (pin (D, _) (List.mem_append_left _ (List.mem_singleton.mpr rfl))).2⟩
        obtain ⟨o, e, _⟩ := T.obj _ _ st7 b hb
        exact (pin (b, o) (List.mem_append_right _ (mem_pinsAt hb e))).2
      cases ok with
      | false =>
        obtain ⟨m', hm, w9⟩ := hN1 _ _ _ q9
        obtain ⟨k1, k2, k3, k4⟩ := wk I9
        exact ⟨m', hm, i + 1, σ8, H9, its, nD, acc, I9.pins_of (fun _ z => nomatch z), k3, k4, va, hacc, k1, k2, w9⟩
      | true =>
        refine thnF (he _ _ _ _ _ _ s9 σ8 H9 _ I9 q9) fun y s10 ⟨v, H10, I10, r10, q10⟩ => ?_
        obtain ⟨m', hm, w10⟩ := hN1 _ _ _ q10
        obtain ⟨k1, k2, k3, k4⟩ := wk I10
        refine call_meets F.slot_list_append ⟨_, k3, rfl⟩ F.entry_list_append (F.args_list_append_2 _ _) (PySem.list_append D its.toArray nD y (by rw [List.size_toArray, ← va.length]; omega)) ⟨k3, ?_⟩
        have up : ∀ b o, b ≠ D → s10.heap.get? b = some o → (s10.heap.update D (Obj.mapSeq fun z => z.push y)).get? b = some o := fun b o hb e => (Heap.get?_update_other s10.heap _ (Ne.symm hb)).trans e
        have I11 : Inv (compCx X N scope cl (D + 1) s2 H2 fp pins) [] σ8 H10 { s10 with heap := s10.heap.update D (Obj.mapSeq fun z => z.push y), toks := s10.toks } :=
          (I10.pins_of (pins' := []) fun _ z => nomatch z).turned up k4 (Nat.ne_of_lt (Nat.lt_succ_self _)) (.inr (by rw [hD]; exact Nat.le_refl _)) dcell fun p hp => by
            have hp' : p ∈ X.pn ++ pins := by simpa using hp
            exact Nat.ne_of_lt (pl p hp')
        have q := PySem.IsL.update k3 (fun z => z.push y)
        rw [show (List.toArray its).push y = (its ++ [y]).toArray by simp] at q
        refine ⟨m', hm, i + 1, σ8, H10, its ++ [y], _, acc ++ [v], I11, q, k4, va.append (.cons r10 .nil), ?_, T.keep _ _ _ k1 fun b hb o e => up b o (Nat.ne_of_lt (flt b hb)) e, k2, w10⟩
        rw [List.length_append, List.length_singleton]
        omega
  exact codeAny_compStart_list (loop _) (T.self _ 0 _ _ _ (T.keep 0 _ _ st2 fun b _ o e => old b o e) (loop _))
theorem comp_list {K : PySem.W.Frag} {a : Addr} {xs : List V} {g : TG} {tt : TT} {te : TE} {σ0 : St} {H : Hp} {Q : VK} (Pv : Nat → List V → St → Hp → Prop) (h0 : Pv 0 [] σ0 H) (hz : xs.length ≤ sizeLine) (hl : ∀ i acc σ H, i ≤ xs.length → Pv i acc σ H → SqL K H a xs)
    (hs : ∀ i x acc σ H, acc.length ≤ i → xs[i]? = some x → Pv i acc σ H → g x σ H fun σ2 H2 => tt σ2 H2 fun b H3 => if b = true then te σ2 H3 fun y H4 => (acc ++ [y]).length ≤ i + 1 ∧ Pv (i + 1) (acc ++ [y]) σ2 H4 else acc.length ≤ i + 1 ∧ Pv (i + 1) acc σ2 H3)
    (hd : ∀ acc σ H, acc.length ≤ xs.length → Pv xs.length acc σ H → endC Q acc H) :
    ∃ W : Nat → Nat → List V → St → Hp → Prop, (∃ m, W 0 m [] σ0 H) ∧ ∀ i m acc σ1 H, W i m acc σ1 H →
      ((Itl K a).stop i H ∧ endC Q acc H) ∨
      ((Itl K a).go i H ∧ acc.length < sizeLine ∧ ∃ N : List V → St → Hp → Prop, (∀ acc' σ' H', N acc' σ' H' → ∃ m', m' < m ∧ W (i + 1) m' acc' σ' H') ∧ ∀ x H', (Itl K a).yld i H x H' → g x σ1 H' fun σ2 H2 => tt σ2 H2 fun b H3 => if b = true then te σ2 H3 fun y H4 => N (acc ++ [y]) σ2 H4 else N acc σ2 H3) := by
  refine ⟨fun i m acc σ H => m = xs.length - i ∧ i ≤ xs.length ∧ acc.length ≤ i ∧ Pv i acc σ H, ⟨xs.length, by simp, Nat.zero_le _, Nat.zero_le _, h0⟩, ?_⟩
  rintro i m acc σ1 H ⟨rfl, hi, ha, p⟩
  have q := hl i acc σ1 H hi p
  by_cases hlt : i < xs.length
  · refine .inr ⟨⟨xs, xs[i], q, by simp [hlt]⟩, by omega, fun acc' σ' H' => acc'.length ≤ i + 1 ∧ Pv (i + 1) acc' σ' H', fun acc' σ' H' z => ⟨xs.length - (i + 1), by omega, rfl, hlt, z.1, z.2⟩, fun x H' y => ?_⟩
    obtain ⟨e, y⟩ := y
    subst e
    exact hs i x acc σ1 _ ha (y xs q) p
  · have e : i = xs.length := by omega
    subst e
    exact .inl ⟨⟨xs, q, Nat.le_refl _⟩, hd acc σ1 H ha p⟩
theorem comp_range {lo : Int} {n : Nat} {g : TG} {tt : TT} {te : TE} {σ0 : St} {H : Hp} {Q : VK} (Pv : Nat → List V → St → Hp → Prop) (h0 : Pv 0 [] σ0 H) (hz : n ≤ sizeLine)
    (hs : ∀ i acc σ H, i < n → acc.length ≤ i → Pv i acc σ H → g (.int (lo + i)) σ H fun σ2 H2 => tt σ2 H2 fun b H3 => if b = true then te σ2 H3 fun y H4 => (acc ++ [y]).length ≤ i + 1 ∧ Pv (i + 1) (acc ++ [y]) σ2 H4 else acc.length ≤ i + 1 ∧ Pv (i + 1) acc σ2 H3)
    (hd : ∀ acc σ H, acc.length ≤ n → Pv n acc σ H → endC Q acc H) :
    ∃ W : Nat → Nat → List V → St → Hp → Prop, (∃ m, W 0 m [] σ0 H) ∧ ∀ i m acc σ1 H, W i m acc σ1 H →
      ((Itr lo n).stop i H ∧ endC Q acc H) ∨
      ((Itr lo n).go i H ∧ acc.length < sizeLine ∧ ∃ N : List V → St → Hp → Prop, (∀ acc' σ' H', N acc' σ' H' → ∃ m', m' < m ∧ W (i + 1) m' acc' σ' H') ∧ ∀ x H', (Itr lo n).yld i H x H' → g x σ1 H' fun σ2 H2 => tt σ2 H2 fun b H3 => if b = true then te σ2 H3 fun y H4 => N (acc ++ [y]) σ2 H4 else N acc σ2 H3) := by
  refine ⟨fun i m acc σ H => m = n - i ∧ i ≤ n ∧ acc.length ≤ i ∧ Pv i acc σ H, ⟨n, by simp, Nat.zero_le _, Nat.zero_le _, h0⟩, ?_⟩
  rintro i m acc σ1 H ⟨rfl, hi, ha, p⟩
  by_cases hlt : i < n
  · refine .inr ⟨hlt, by omega, fun acc' σ' H' => acc'.length ≤ i + 1 ∧ Pv (i + 1) acc' σ' H', fun acc' σ' H' z => ⟨n - (i + 1), by omega, rfl, hlt, z.1, z.2⟩, fun x H' y => ?_⟩
    obtain ⟨e, y⟩ := y
    subst e y
    exact hs i acc σ1 _ hlt ha p
  · have e : i = n := by omega
    subst e
    exact .inl ⟨Nat.le_refl _, hd acc σ1 H ha p⟩
end L2

set_option Elab.async false
set_option linter.all false
set_option maxRecDepth 100000
set_option maxHeartbeats 4000000
namespace L2
open PySem PySem.Spec PyProof.Rows

mutual
inductive DV (K : PySem.W.Frag) (H : Hp) : V → PyData → Prop
  | non : DV K H .non .none
  | bl (b : Bool) : DV K H (.bl b) (.bool b)
  | int (i : Int) : DV K H (.int i) (.int i)
  | str (x : Str) (h : (PyData.str x).canLay0 = true) : DV K H (.str x) (.str x)
  | lst {a : Addr} {xs : List V} {ds : List PyData} (h : SqL K H a xs) (r : DVs K H xs ds) : DV K H (.ref a) (.list ds)
  | tup {a : Addr} {xs : List V} {ds : List PyData} (h : SqT K H a xs) (r : DVs K H xs ds) : DV K H (.ref a) (.tuple ds)
inductive DVs (K : PySem.W.Frag) (H : Hp) : List V → List PyData → Prop
  | nil : DVs K H [] []
  | cons {x : V} {xs : List V} {d : PyData} {ds : List PyData} (h : DV K H x d) (r : DVs K H xs ds) : DVs K H (x :: xs) (d :: ds)
end
mutual
theorem DV.can {K : PySem.W.Frag} {H : Hp} : ∀ {x : V} {d : PyData}, DV K H x d → d.canLay0 = true
  | _, _, .non => by simp only [PyData.canLay0]
  | _, _, .bl _ => by simp only [PyData.canLay0]
  | _, _, .int _ => by simp only [PyData.canLay0]
  | _, _, .str _ h => h
  | _, _, .lst _ r => by simp only [PyData.canLay0]; exact DVs.can r
  | _, _, .tup _ r => by simp only [PyData.canLay0]; exact DVs.can r
theorem DVs.can {K : PySem.W.Frag} {H : Hp} : ∀ {xs : List V} {ds : List PyData}, DVs K H xs ds → PyData.canLayAll0 ds = true
  | _, _, .nil => by simp only [PyData.canLayAll0]
  | _, _, .cons h r => by simp only [PyData.canLayAll0, Bool.and_eq_true]; exact ⟨DV.can h, DVs.can r⟩
end
theorem SqT.sameT {K : PySem.W.Frag} {H H' : Hp} {a : Addr} {xs : List V} (e : Same H H') (h : SqT K H a xs) : SqT K H' a xs := by
  rcases h with (h | ⟨o, h⟩) | h
  · exact .inl (.inl (e _ _ h))
  · exact .inl (.inr ⟨o, e _ _ h⟩)
  · exact .inr h
mutual
theorem DV.same {K : PySem.W.Frag} {H H' : Hp} (s : Same H H') : ∀ {x : V} {d : PyData}, DV K H x d → DV K H' x d
  | _, _, .non => .non
  | _, _, .bl b => .bl b
  | _, _, .int i => .int i
  | _, _, .str x h => .str x h
  | _, _, .lst h r => .lst (s.seq h) (DVs.same s r)
  | _, _, .tup h r => .tup (SqT.sameT s h) (DVs.same s r)
theorem DVs.same {K : PySem.W.Frag} {H H' : Hp} (s : Same H H') : ∀ {xs : List V} {ds : List PyData}, DVs K H xs ds → DVs K H' xs ds
  | _, _, .nil => .nil
  | _, _, .cons h r => .cons (DV.same s h) (DVs.same s r)
end
section
variable {X : Cx} {pins : List (Addr × Obj)} {σ : St} {H : Hp} {s : Shared}
mutual
theorem DV.reads (I : Inv X pins σ H s) : ∀ {x : V} {d : PyData} {u : Value}, DV X.K H x d → RelV x u → ∃ as, Reads s.heap u d as
  | _, _, _, .non, r => by cases r; exact ⟨_, .none⟩
  | _, _, _, .bl b, r => by cases r; exact ⟨_, .bool b⟩
  | _, _, _, .int i, r => by obtain ⟨t, rfl⟩ := r; exact ⟨_, .int i t⟩
  | _, _, _, .str x _, r => by obtain ⟨t, rfl⟩ := r; exact ⟨_, .str x t⟩
  | _, _, _, .lst h rs, r => by
    cases r
    obtain ⟨its, v, pl, _⟩ := I.list h
    obtain ⟨o, n, ho, hc, _, hd⟩ := pl
    obtain ⟨as, q⟩ := DVs.reads I rs v
    exact ⟨_, .list ho hc hd (by simpa using q)⟩
  | _, _, _, .tup h rs, r => by
    cases r
    obtain ⟨its, v, pl, _⟩ := I.tuple h
    obtain ⟨o, ho, hc, n, hd⟩ := pl
    obtain ⟨as, q⟩ := DVs.reads I rs v
    exact ⟨_, .tuple ho hc hd (by simpa using q)⟩
theorem DVs.reads (I : Inv X pins σ H s) : ∀ {xs : List V} {ds : List PyData} {us : List Value}, DVs X.K H xs ds → Vals xs us → ∃ as, ReadsAll s.heap us ds as
  | _, _, _, .nil, .nil => ⟨_, .nil⟩
  | _, _, _, .cons h r, .cons v vs => by
    obtain ⟨as, q1⟩ := DV.reads I h v
    obtain ⟨bs, q2⟩ := DVs.reads I r vs
    exact ⟨_, .cons q1 q2⟩
end
end
end L2

set_option Elab.async false
set_option linter.all false
set_option maxRecDepth 100000
set_option maxHeartbeats 4000000
namespace L2
open PySem PySem.Spec PyProof.Rows

section
variable {X : Cx}
end
end L2

set_option Elab.async false
set_option linter.all false
set_option maxRecDepth 100000
set_option maxHeartbeats 4000000
namespace L2
open PySem PySem.Spec PyProof.Rows
section
variable {X : Cx} {x : Str} {pos : Pos}
theorem pe_gintE {k : Int} (hg : Gl X x) (hm : ∃ t, X.mg x = some (.int k t)) (hd : (x == ("__debug__" : Str)) = false := by decide) : PE X (.Name x pos) (tC (.int k)) := by
  obtain ⟨t, hm⟩ := hm
  exact pe_glob hg hm ⟨t, rfl⟩ hd
def tDNew : TE := fun _ H Q => ∀ p, H p = none → Q (.ref p) (upd H p (.dK []))
theorem pe_dnew {X : Cx} {pos : Pos} : PE X (.Dict [] [] pos) tDNew := by
  intro pins s σ H Q I h
  have lt : sysModules < s.heap.objs.size := Nat.lt_trans (show sysModules < mainGlobals by decide) (I.mod.glob.keeps I.bk).lt
  have new : ObjOk X.prog X.w (upd H s.heap.objs.size (.dK [])) (s.heap.push { cls := .type "dict", data := .dict #[] }) s.heap.objs.size (.dK []) :=
    ⟨Nat.zero_le _, beq_eq_false_iff_ne.mpr (Ne.symm (Nat.ne_of_lt lt)), [], .nil, Heap.DictOf.new s.heap⟩
  exact wpAny_Dict_empty ⟨.ref s.heap.objs.size, _, I.laid (t' := s.toks) (fun _ _ q => Heap.get?_push_of_some _ q) (Nat.le_refl _) new, rfl, h _ (I.hok.fresh (Nat.le_refl _))⟩
theorem nd1 (x : Str) : [x].Nodup := by simp
def notStar : Expr → Bool
  | .Starred _ _ => false
  | _ => true
theorem star_cons {e : Expr} {es : List Expr} {env : Env} (h : notStar e = true) : starEach (e :: es) env = (false, eval e env) :: starEach es env := by
  cases e <;> first | rfl | cases h
theorem pac {e : Expr} {es : List Expr} {te : TE} {t : TA} (ha : PE X e te) (hr : PA X es t) (h : notStar e = true := by rfl) : PA X (e :: es) (tCons te t) := pa_cons ha hr (star_cons h)
end
end L2
namespace K1
open PySem L2
def two (n : Nat) : Str := ⟨#[48 + n / 10, 48 + n % 10]⟩
theorem sl2 (a b c d e : Nat) : Txt.slice ⟨#[a, b, c, d, e]⟩ none (some 2) = ⟨#[a, b]⟩ := by rfl
def numV : V → Int → Int → Bool
  | .int i, lo, hi => decide (lo ≤ i ∧ i ≤ hi)
  | _, _, _ => false
inductive Kd (H : Hp) : V → String → Prop where
  | non : Kd H .non "NoneType"
  | bl (b : Bool) : Kd H (.bl b) "bool"
  | int (i : Int) : Kd H (.int i) "int"
  | str (x : Str) : Kd H (.str x) "str"
  | lst {a : Addr} {xs : List V} (e : H a = some (.lst xs)) : Kd H (.ref a) "list"
  | tup {a : Addr} {xs : List V} (e : H a = some (.tup xs)) : Kd H (.ref a) "tuple"
  | dK {a : Addr} {kvs : List (Key × V)} (e : H a = some (.dK kvs)) : Kd H (.ref a) "dict"
theorem Kd.ty {K : PySem.W.Frag} {H : Hp} {v : V} {T : String} (k : Kd H v T) : TyOf K H v (.type T) := by
  cases k with
  | non => exact .non
  | bl b => exact .bl b
  | int i => exact .int i
  | str x => exact .str x
  | lst e => exact .lst e
  | tup e => exact .tup e
  | dK e => exact .dK e
theorem Kd.same {H H' : Hp} {v : V} {T : String} (s : Same H H') (k : Kd H v T) : Kd H' v T := by
  cases k with
  | non => exact .non
  | bl b => exact .bl b
  | int i => exact .int i
  | str x => exact .str x
  | lst e => exact .lst (s _ _ e)
  | tup e => exact .tup (s _ _ e)
  | dK e => exact .dK (s _ _ e)
theorem kit_int {K : PySem.W.Frag} {H : Hp} {v : V} {T : String} (k : Kd H v T) : PySem.W.kitOne K (.type T) (.type "int") = some (decide (T = "int" ∨ T = "bool")) := by
  cases k <;> rfl
theorem kit_bool {K : PySem.W.Frag} {H : Hp} {v : V} {T : String} (k : Kd H v T) : PySem.W.kitOne K (.type T) (.type "bool") = some (decide (T = "bool")) := by
  cases k <;> rfl
theorem kit_str {K : PySem.W.Frag} {H : Hp} {v : V} {T : String} (k : Kd H v T) : PySem.W.kitOne K (.type T) (.type "str") = some (decide (T = "str")) := by
  cases k <;> rfl

theorem itT {c A B : Prop} [Decidable c] (h : c) (a : A) : if c then A else B := by rw [if_pos h]; exact a
theorem itF {c A B : Prop} [Decidable c] (h : ¬ c) (b : B) : if c then A else B := by rw [if_neg h]; exact b


def dg (c : Nat) : Bool := decide (48 ≤ c ∧ c ≤ 57)

theorem same_new {H : Hp} {p : Addr} (h : H p = none) (o : HO) : Same H (upd H p o) := fun b u q => by rw [upd_ne (ne_of_none q h)]; exact q

theorem map_bl {α : Type} (g : α → Bool) (l : List α) : (l.map fun c => V.bl (g c)) = (l.map g).map V.bl := by rw [List.map_map]; rfl

def wr (m : Nat) : Str := two (m / 60) ++ Str.ofString ":" ++ two (m % 60)

def wholeV : V → Bool
  | .int _ => true
  | _ => false

theorem flat_ints (ns : List Int) : (ns.map V.int).all flatV = true := by
  rw [List.all_map]; exact List.all_eq_true.mpr fun _ _ => rfl

structure Bump (tp : Addr) (k : Int) (H H' : Hp) : Prop where
  keep : ∀ b o, b ≠ tp → H b = some o → H' b = some o
  tape : H' tp = some (.lst [.int k])

theorem Bump.trans {tp : Addr} {k k' : Int} {H H1 H2 : Hp} (a : Bump tp k H H1) (b : Bump tp k' H1 H2) : Bump tp k' H H2 := ⟨fun c o n h => b.keep c o n (a.keep c o n h), b.tape⟩

theorem Bump.same {tp : Addr} {k : Int} {H H1 H2 : Hp} (a : Bump tp k H H1) (s : Same H1 H2) : Bump tp k H H2 := ⟨fun c o n h => s _ _ (a.keep c o n h), s _ _ a.tape⟩

def Own (K : PySem.W.Frag) (a : Addr) (xs : List V) : Prop := ∃ (o : Obj) (its : Array Value) (n : Nat), K.lookup a = some o ∧ o.cls = .type "list" ∧ o.dict = none ∧ o.data = .seq its n ∧ its.size ≤ sizeLine ∧ Vals xs its.toList
def Scr (K : PySem.W.Frag) (H : Hp) (a tp : Addr) (ns : List Int) : Prop := (a ≠ tp ∧ Rd H a (.lst (ns.map V.int))) ∨ Own K a (ns.map V.int)
theorem Scr.same {K : PySem.W.Frag} {H H' : Hp} {a tp : Addr} {ns : List Int} (h : Scr K H a tp ns) (s : Same H H') : Scr K H' a tp ns :=
  h.imp (fun ⟨n, r⟩ => ⟨n, r.imp (s _ _) fun ⟨o, q⟩ => ⟨o, s _ _ q⟩⟩) id
theorem Scr.new {K : PySem.W.Frag} {H : Hp} {a tp : Addr} {ns : List Int} (h : SqL K H a (ns.map V.int)) (n : H tp = none) (o : HO) : Scr K (upd H tp o) a tp ns := by
  rcases h with (h | ⟨u, h⟩) | h
  · exact .inl ⟨ne_of_none h n, .inl (by rw [upd_ne (ne_of_none h n)]; exact h)⟩
  · exact .inl ⟨ne_of_none h n, .inr ⟨u, by rw [upd_ne (ne_of_none h n)]; exact h⟩⟩
  · exact .inr h
theorem mulM {x y : Int} (h0 : 0 ≤ y) (h1 : y < 18446744073709551616) : CMul x y := .inr ⟨by omega, by omega⟩

theorem len2 {a b : Str} {n m : Nat} (ha : a.length ≤ n) (hb : b.length ≤ m) : (a ++ b).length ≤ n + m := by rw [Str.length_append]; omega

theorem at_all {p : V → Prop} {xs : List V} {d : Int} (h : ∀ v ∈ xs, p v) (h0 : 0 ≤ d) (h1 : d < xs.length) : ∃ v, atI xs d = some v ∧ p v := by
  have hl : d.toNat < xs.length := by omega
  refine ⟨xs[d.toNat], ?_, h _ (List.getElem_mem hl)⟩
  have q : atI xs ((d.toNat : Nat) : Int) = some xs[d.toNat] := atI_nat (List.getElem?_eq_getElem hl)
  rw [show ((d.toNat : Nat) : Int) = d by omega] at q
  exact q
end K1

set_option Elab.async false
set_option linter.all false
set_option maxRecDepth 100000
set_option maxHeartbeats 4000000
namespace K1
open PySem L2
abbrev valL (l : List Nat) : Nat := PySem.NumText.digitsVal l
theorem str_len (z : Str) : z.cps.toList.length = z.length := by simp [Str.length]
theorem sl_to (z : Str) (j : Nat) (h : j ≤ z.length) : Txt.slice z none (some (j : Int)) = ⟨(z.cps.toList.take j).toArray⟩ := by
  have e := StrLaws.sliceText_to (x := z) (j := (j : Int)) ⟨by omega, by rw [str_len]; omega⟩
  rw [List.drop_zero, show ((j : Int) - 0).toNat = j by omega] at e
  exact e
theorem sl_from (z : Str) (j : Nat) (h : j ≤ z.length) : Txt.slice z (some (j : Int)) none = ⟨(z.cps.toList.drop j).toArray⟩ := by
  have e := StrLaws.sliceText_from (x := z) (i := (j : Int)) ⟨by omega, by rw [str_len]; omega⟩
  rw [show ((j : Int)).toNat = j by omega, List.take_of_length_le (by rw [List.length_drop]; omega)] at e
  exact e
end K1

set_option Elab.async false
set_option linter.all false
set_option maxRecDepth 100000
set_option maxHeartbeats 4000000
namespace L2
open PySem PySem.Spec PyProof.Rows

section
variable {X : Cx} {m : Str} {o e : Expr} {es : List Expr} {ta : TE} {t : TA} {pos apos : Pos}
structure MkN (K : PySem.W.Frag) (C : Addr) : Prop where
  makes : PySem.W.makesIn K C = true
  init : PySem.W.findIn K (.ref C) "__init__" = some (some (.builtin "object.__init__"))
  kp : PySem.W.keepIn K (.ref C) = true
def tMakeN (C : Addr) : TE := fun _ H Q => ∀ x dx, H x = none → H dx = none → dx ≠ x → Q (.ref x) (upd (upd H dx (.own x)) x (.ins C dx []))
theorem pe_makeN {C : Addr} {x : Str} {p : Pos} (M : MkN X.K C) (hg : Gl X x) (hm : X.mg x = some (.ref C)) (hdb : (x == ("__debug__" : Str)) = false := by decide) : PE X (.Call (.Name x p) [] [] pos) (tMakeN C) := by
  intro pins s σ H Q I h
  refine wpAny_Call_Name_kw (ld_glob I hg hm ?_ hdb)
  refine PySem.W.callWith_K0 I.kIn M.kp ?_
  have q := h (s.heap.objs.size + 1) s.heap.objs.size (I.hok.fresh (Nat.le_succ _)) (I.hok.fresh (Nat.le_refl _)) (Nat.ne_of_lt (Nat.lt_succ_self _))
  have I2 := Inv.made (C := C) I
  have Y := PySem.W.makes_of (M := model X.prog X.w) I.kIn M.makes
  refine wpAny_call (make_map0 (C := C) I.kIn M.makes M.init (fun self => PySem.W.Looks.of_pure (PySem.W.oi_bind self)) ?_)
  have g1 : ((s.heap.push PySem.W.emptyDict).push (PySem.W.instObj C s.heap.objs.size)).get? (s.heap.objs.size + 1) = some (PySem.W.instObj C s.heap.objs.size) := by
    have := Heap.get?_push_size (s.heap.push PySem.W.emptyDict) (o := PySem.W.instObj C s.heap.objs.size) rfl
    rw [Heap.size_push] at this
    exact this
  have t1 : PySem.W.Looks (model X.prog X.w) ((s.heap.push PySem.W.emptyDict).push (PySem.W.instObj C s.heap.objs.size)) (typeOf (.ref (s.heap.objs.size + 1))) (.ref C) := (PySem.W.Looks.ld g1).andThen .now
  have t2 : PySem.W.Looks (model X.prog X.w) ((s.heap.push PySem.W.emptyDict).push (PySem.W.instObj C s.heap.objs.size)) (isInstance (.ref (s.heap.objs.size + 1)) (.type "object")) true :=
    t1.andThen (Y.top.keeps fun b o e => Heap.get?_push_of_some _ (Heap.get?_push_of_some _ e))
  refine codeAny_call_builtin PySem.W.oi_plain PySem.W.entry_oi ?_
  refine @PySem.W.check_slot (model X.prog X.w) _ _ _ "object.__init__" "object" "__init__" (.ref (s.heap.objs.size + 1)) [] [] _ PySem.W.oi_kind PySem.W.oi_split t2 (PySem.W.oi_args _) ?_
  rw [PySem.W.oi_run]
  exact wpAny_pure (And.intro rfl ⟨.ref _, _, I2, rfl, q⟩)
end

theorem preSum_take (ns : List Int) : ∀ k, k ≤ ns.length → preSum (fun i => ns.getD i 0) k = (ns.take k).sum
  | 0, _ => by simp [preSum]
  | k + 1, h => by
    have ih := preSum_take ns k (by omega)
    show preSum (fun i => ns.getD i 0) k + ns.getD k 0 = _
    rw [ih, List.take_add_one, List.sum_append]
    have hk : k < ns.length := by omega
    rw [List.getD_eq_getElem?_getD, List.getElem?_eq_getElem hk]
    simp
theorem call_sum_list {X : Cx} (hc : X.calm = true) : CallR X (.builtin "sum") (fun xs H Q => ∃ (p : Addr) (ns : List Int), xs = [.ref p] ∧ SqL X.K H p (ns.map V.int) ∧ (∀ n ∈ ns, 0 ≤ n ∧ n ≤ 1000000) ∧ ns.length ≤ 1000 ∧ Q (.int ns.sum) H) := by
  intro pins s σ H xs us Q I r h
  obtain ⟨p, ns, rfl, hq, hb, hl, q⟩ := h
  obtain ⟨u, rfl, rx⟩ := vals1 r
  cases rx
  obtain ⟨its, r', pl, hz⟩ := I.list hq
  have hlen := r'.length
  obtain ⟨o, n, ho, _⟩ := id pl
  have hne : p ≠ s.heap.objs.size := Nat.ne_of_lt (Heap.lt_size ho)
  have bound : ∀ k, k ≤ ns.length → 0 ≤ (ns.take k).sum ∧ (ns.take k).sum ≤ 1000000 * k := by
    intro k
    induction k with
    | zero => intro _; simp
    | succ k ih =>
      intro hk
      have hk' : k < ns.length := by omega
      have := ih (by omega)
      have b := hb ns[k] (List.getElem_mem hk')
      rw [List.take_add_one, List.sum_append, List.getElem?_eq_getElem hk']
      simp only [Option.toList_some, List.sum_cons, List.sum_nil]
      omega
  refine call_sum_walk (wpAny_pyIter_list pl.isList ?_)
  refine ⟨s.heap.objs.size, [s.heap.objs.size, p], [s.heap.objs.size], its.toArray.size, _, _, fun i => ns.getD i 0, rfl, Walks.list (A := X.A.in1) (I.ok.hd hc) _ _ hne its.toArray, ⟨⟨_, Heap.get?_push_size _ rfl, rfl, rfl⟩, ?_⟩, ?_, ?_, ?_, fun h' tk t' hk => ?_⟩
  · obtain ⟨o2, e2, r2⟩ := pl.isList
    exact ⟨o2, Heap.get?_push_of_some _ e2, r2⟩
  · intro b hb'
    show b < (s.heap.push _).objs.size
    rw [Heap.size_push]
    rcases List.mem_cons.mp hb' with rfl | hb'
    · exact Nat.lt_succ_self _
    · rw [List.mem_singleton.mp hb']
      exact Nat.lt_succ_of_lt (Heap.lt_size ho)
  · intro i v hv
    have hv' : its[i]? = some v := by simpa using hv
    have hi : i < ns.length := by
      have := (List.getElem?_eq_some_iff.mp hv').1
      rw [← hlen, List.length_map] at this; exact this
    obtain ⟨w, e1, e2⟩ := r'.get (i := i) (x := .int ns[i]) (by rw [List.getElem?_map, List.getElem?_eq_getElem hi]; rfl)
    rw [hv'] at e1
    cases e1
    obtain ⟨t, rfl⟩ := e2
    exact ⟨t, by dsimp only; rw [List.getD_eq_getElem?_getD, List.getElem?_eq_getElem hi]; rfl⟩
  · intro j hj
    have hj' : j < ns.length := by
      rw [List.size_toArray, ← hlen, List.length_map] at hj; exact hj
    have b1 := hb ns[j] (List.getElem_mem hj')
    have b2 := bound (j + 1) (by omega)
    have e1 : ns.getD j 0 = ns[j] := by rw [List.getD_eq_getElem?_getD, List.getElem?_eq_getElem hj']; rfl
    rw [preSum_take ns (j + 1) (by omega)]
    dsimp only
    rw [e1]
    have b3 : (1000000 : Int) * ((j + 1 : Nat) : Int) ≤ 1000000000 := by omega
    unfold InLong
    omega
  · have hk2 : ∀ b o, s.heap.get? b = some o → h'.get? b = some o := fun b o e => hk b o (fun z => by
      have e1 := Heap.lt_size e
      rw [List.mem_singleton.mp z] at e1
      exact absurd e1 (Nat.lt_irrefl _)) (Heap.get?_push_of_some _ e)
    have e : preSum (fun i => ns.getD i 0) its.toArray.size = ns.sum := by
      rw [List.size_toArray, ← hlen, List.length_map, preSum_take ns _ (Nat.le_refl _), List.take_length]
    rw [e]
    exact ⟨.int _, H, I.kept (t' := tk) hk2, ⟨_, rfl⟩, q⟩

structure FunD (K : PySem.W.Frag) (x qual : Str) (st : Stmt) (f : Addr) (fd : FuncData) (D : Addr) (ds : List Value) : Prop where
  ex : ∃ (oc : Value) (od : Option Addr) (kV doc pm : Value) (an : Option Addr) (cdv ct : Value) (osl : Array (Option Value)),
    fd = PySem.W.fnOf x qual (defArgs st) (defBody st) (defScope st) (.ref D) kV doc pm an cdv ct ∧ K.lookup f = some ⟨oc, od, .func fd, osl⟩ ∧ PySem.W.codeIn K cdv qual = true
  dt : ∃ (o : Obj) (n : Nat), K.lookup D = some o ∧ o.data = .seq ds.toArray n
  kp : PySem.W.keepIn K (.ref f) = true
section
variable {P : Program} {w : World} {K : PySem.W.Frag} {mg : Str → Option Value} {base : Heap} {x qual : Str} {st : Stmt} {f D : Addr} {fd : FuncData} {ds : List Value}
theorem FunD.ok {N ps : List Str} {k : Nat} {sp : Sp} (F : FunD K x qual st f fd D ds) (S : FnScope N ps (defScope st)) (len : ∀ vs H Q E, sp vs H Q E → vs.length = ps.length)
    (hbody : ∀ (cdv : Value) (A : Around) (outer : List Env) (s : Shared) (H : Hp) (vs : List V) (Q : VK) (E : XK), Room k (A.deeper (envOfC qual (defScope st) s.heap.objs.size f cdv)) → sp vs H Q E →
      ∃ t, PSs (cxOf CX0 P w K mg base N qual (defScope st) f cdv A outer s H E).nox (defBody st) t ∧ t { nx := fun _ H' => Q .non H', rt := Q } (start N vs) H) : FnOk P w K mg base CX0 (k + 1) f fd ps sp := by
  obtain ⟨oc, od, kV, doc, pm, an, cdv, ct, osl, rfl, lk, hcd⟩ := F.ex
  refine fn_of lk hcd S len fun A outer s H vs Q E hr hsp => ?_
  obtain ⟨t, h, q⟩ := hbody cdv A outer s H vs Q E hr hsp
  exact ⟨t, h.nox, q⟩
theorem FunD.okX {N ps : List Str} {k : Nat} {sp : Sp} (F : FunD K x qual st f fd D ds) (S : FnScope N ps (defScope st)) (len : ∀ vs H Q E, sp vs H Q E → vs.length = ps.length)
    (hbody : ∀ (cdv : Value) (A : Around) (outer : List Env) (s : Shared) (H : Hp) (vs : List V) (Q : VK) (E : XK), Room k (A.deeper (envOfC qual (defScope st) s.heap.objs.size f cdv)) → sp vs H Q E →
      ∃ t, PSs (cxOf (CXO P w) P w K mg base N qual (defScope st) f cdv A outer s H E) (defBody st) t ∧ t { nx := fun _ H' => Q .non H', rt := Q } (start N vs) H) : FnOk P w K mg base (CXO P w) (k + 1) f fd ps sp := by
  obtain ⟨oc, od, kV, doc, pm, an, cdv, ct, osl, rfl, lk, hcd⟩ := F.ex
  exact fn_of lk hcd S len fun A outer s H vs Q E hr hsp => hbody cdv A outer s H vs Q E hr hsp
end
end L2

set_option Elab.async false
set_option linter.all false
set_option maxRecDepth 100000
set_option maxHeartbeats 4000000
namespace K1
open PySem L2
inductive RT where
  | always
  | week (b : Nat)
  | span (a b : Nat) (r : RT)
  | each (n : Nat) (ss : List Nat)
  | either (r s : RT)
  | both (r s : RT)
  | but (ds : List Nat) (r : RT)
def RT.weight : RT → Nat
  | .always | .week _ | .each _ _ => 1
  | .span _ _ r | .but _ r => 1 + r.weight
  | .either r s | .both r s => 1 + (r.weight + s.weight)
def RT.depth : RT → Nat
  | .always | .week _ | .each _ _ => 1
  | .span _ _ r | .but _ r => 1 + r.depth
  | .either r s | .both r s => 1 + max r.depth s.depth
def RT.runs : RT → Nat → Bool
  | .always, _ => true
  | .week b, d => b / 2 ^ (d % 7) % 2 == 1
  | .span a b r, d => decide (a ≤ d) && decide (d ≤ b) && r.runs d
  | .each n ss, d => ss.contains (d % n)
  | .either r s, d => r.runs d || s.runs d
  | .both r s, d => r.runs d && s.runs d
  | .but ds r, d => r.runs d != ds.contains d
structure RC where
  rule : Addr
  week : Addr
  span : Addr
  each : Addr
  either : Addr
  both : Addr
  but : Addr
abbrev natV (l : List Nat) : List V := l.map fun n => V.int (n : Nat)
inductive RAt (c : RC) (K : PySem.W.Frag) (H : Hp) : Addr → RT → Prop
  | always {a dx : Addr} (h : H a = some (.ins c.rule dx [])) : RAt c K H a .always
  | week {a dx : Addr} {b : Nat} (h : H a = some (.ins c.week dx [("bits", .int (b : Nat))])) (hb : b ≤ 127) : RAt c K H a (.week b)
  | span {a dx i : Addr} {x y : Nat} {r : RT} (h : H a = some (.ins c.span dx [("first", .int (x : Nat)), ("last", .int (y : Nat)), ("inner", .ref i)])) (hx : x ≤ y) (hy : y ≤ 9999) (hi : RAt c K H i r) : RAt c K H a (.span x y r)
  | each {a dx p : Addr} {n : Nat} {ss : List Nat} (h : H a = some (.ins c.each dx [("length", .int (n : Nat)), ("starts", .ref p)])) (hn : 1 ≤ n) (hn2 : n ≤ 28) (hp : SqT K H p (natV ss)) : RAt c K H a (.each n ss)
  | either {a dx i j : Addr} {r s : RT} (h : H a = some (.ins c.either dx [("one", .ref i), ("other", .ref j)])) (hi : RAt c K H i r) (hj : RAt c K H j s) : RAt c K H a (.either r s)
  | both {a dx i j : Addr} {r s : RT} (h : H a = some (.ins c.both dx [("one", .ref i), ("other", .ref j)])) (hi : RAt c K H i r) (hj : RAt c K H j s) : RAt c K H a (.both r s)
  | but {a dx p i : Addr} {ds : List Nat} {r : RT} (h : H a = some (.ins c.but dx [("days", .ref p), ("inner", .ref i)])) (hp : SqT K H p (natV ds)) (hi : RAt c K H i r) : RAt c K H a (.but ds r)
theorem RAt.same {c : RC} {K : PySem.W.Frag} {H H' : Hp} (s : Same H H') {a : Addr} {r : RT} (h : RAt c K H a r) : RAt c K H' a r := by
  induction h with
  | always h => exact .always (s _ _ h)
  | week h hb => exact .week (s _ _ h) hb
  | span h hx hy _ ih => exact .span (s _ _ h) hx hy ih
  | each h hn hn2 hp => exact .each (s _ _ h) hn hn2 (SqT.sameT s hp)
  | either h _ _ i1 i2 => exact .either (s _ _ h) i1 i2
  | both h _ _ i1 i2 => exact .both (s _ _ h) i1 i2
  | but h hp _ ih => exact .but (s _ _ h) (SqT.sameT s hp) ih
end K1

set_option Elab.async false
set_option linter.all false
set_option maxRecDepth 100000
set_option maxHeartbeats 600000
namespace L2
open PySem PySem.Spec PyProof.Rows
def MxAt (S : Addr) (h : Heap) (b : Option Int) : Prop := ∃ (vs : Array Value) (c : Nat), h.get? S = some { cls := .type "list", dict := none, data := .seq vs c, slots := #[] } ∧ match b with
  | none => vs = #[]
  | some x => ∃ t, vs = #[.int x t, .int x t]
theorem MxAt.keep {S : Addr} {h h' : Heap} {b : Option Int} (m : MxAt S h b) (k : ∀ o, h.get? S = some o → h'.get? S = some o) : MxAt S h' b :=
  let ⟨vs, c, e, z⟩ := m
  ⟨vs, c, k _ e, z⟩
end L2

set_option Elab.async false
set_option linter.all false
namespace L2
open PySem
abbrev Ris (xs : Array Nat) : Prop := xs.toList.Pairwise (· < ·)
theorem ris_lt {xs : Array Nat} (h : Ris xs) {i k d : Nat} (hik : i < k) (hk : k < xs.size) : xs.getD i d < xs.getD k d := by
  have q := List.pairwise_iff_getElem.mp h i k (by simpa using Nat.lt_trans hik hk) (by simpa using hk) hik
  simpa [Array.getD, Nat.lt_trans hik hk, hk] using q
theorem below_go {xs : Array Nat} {j : Nat} (h : Ris xs) : ∀ (n lo hi : Nat), hi - lo ≤ n → lo ≤ hi → hi ≤ xs.size → (∀ i, i < lo → xs.getD i j < j) → (∀ i, hi ≤ i → i < xs.size → j ≤ xs.getD i j) →
    SetTable.below.go xs j n lo hi ≤ xs.size ∧ (∀ i, i < SetTable.below.go xs j n lo hi → xs.getD i j < j) ∧ ∀ i, SetTable.below.go xs j n lo hi ≤ i → i < xs.size → j ≤ xs.getD i j
  | 0, lo, hi, hn, hl, hs, h1, h2 => by
    have e : lo = hi := by omega
    subst e
    exact ⟨hs, h1, h2⟩
  | n + 1, lo, hi, hn, hl, hs, h1, h2 => by
    unfold SetTable.below.go
    by_cases c : lo < hi
    · rw [if_pos c]
      dsimp only
      by_cases d : xs.getD ((lo + hi) / 2) j < j
      · rw [if_pos d]
        refine below_go h n _ hi (by omega) (by omega) hs (fun i hi' => ?_) h2
        by_cases e : i = (lo + hi) / 2
        · rw [e]; exact d
        · exact Nat.lt_trans (ris_lt h (show i < (lo + hi) / 2 by omega) (by omega)) d
      · rw [if_neg d]
        refine below_go h n lo _ (by omega) (by omega) (by omega) h1 (fun i hi' hz => ?_)
        by_cases e : i = (lo + hi) / 2
        · rw [e]; omega
        · have := ris_lt (d := j) h (show (lo + hi) / 2 < i by omega) hz
          omega
    · rw [if_neg c]
      have e : lo = hi := by omega
      subst e
      exact ⟨hs, h1, h2⟩
theorem below_is {xs : Array Nat} {j : Nat} (h : Ris xs) : SetTable.below xs j ≤ xs.size ∧ (∀ i, i < SetTable.below xs j → xs.getD i j < j) ∧ ∀ i, SetTable.below xs j ≤ i → i < xs.size → j ≤ xs.getD i j :=
  below_go h _ 0 _ (by omega) (Nat.zero_le _) (Nat.le_refl _) (fun i z => absurd z (Nat.not_lt_zero _)) (fun i a b => by omega)
theorem ris_insert {xs : Array Nat} {j : Nat} (h : Ris xs) (hn : xs[SetTable.below xs j]? ≠ some j) : Ris (SetTable.insertAt xs (SetTable.below xs j) j) := by
  obtain ⟨hb, h1, h2⟩ := below_is (j := j) h
  show List.Pairwise _ _
  rw [SetTable.toList_insertAt]
  have get : ∀ i (hi : i < xs.size), xs.getD i j = xs.toList[i]'(by simpa using hi) := fun i hi => by simp [Array.getD, hi]
  have far : ∀ b ∈ xs.toList.drop (SetTable.below xs j), j < b := fun b hb' => by
    obtain ⟨i, hi, rfl⟩ := List.getElem_of_mem hb'
    rw [List.length_drop] at hi
    have hz : SetTable.below xs j + i < xs.size := by simpa using (show SetTable.below xs j + i < xs.toList.length by omega)
    rw [List.getElem_drop, ← get _ hz]
    have g := h2 _ (Nat.le_add_right (SetTable.below xs j) i) hz
    refine Nat.lt_of_le_of_ne g fun e => ?_
    by_cases i0 : i = 0
    · subst i0
      refine hn ?_
      rw [Nat.add_zero] at e hz
      rw [Array.getElem?_eq_getElem hz]
      have := get _ hz
      rw [← e] at this
      simpa using this.symm
    · have l := ris_lt (d := j) h (show SetTable.below xs j < SetTable.below xs j + i by omega) hz
      have g0 := h2 _ (Nat.le_refl _) (show SetTable.below xs j < xs.size by omega)
      omega
  refine List.pairwise_append.mpr ⟨h.sublist (List.take_sublist _ _), List.pairwise_cons.mpr ⟨far, h.sublist (List.drop_sublist _ _)⟩, fun a ha b hb' => ?_⟩
  have ha' : a < j := by
    obtain ⟨i, hi, rfl⟩ := List.getElem_of_mem ha
    rw [List.length_take] at hi
    have hz : i < xs.size := by have : xs.toList.length = xs.size := by simp
                                omega
    rw [List.getElem_take, ← get _ hz]
    exact h1 i (by omega)
  rcases List.mem_cons.mp hb' with rfl | hb'
  · exact ha'
  · exact Nat.lt_trans ha' (far b hb')
structure TabOk (t : SetTable) : Prop where
  du : t.dummies = #[]
  ri : t.plain = true → Ris t.place
theorem has_none (j : Nat) : SetTable.has #[] j = false := rfl
theorem slot_empty {t : SetTable} {j : Nat} (h : t.slot j = .empty) : t.place[SetTable.below t.place j]? ≠ some j := by
  intro e
  unfold SetTable.slot at h
  dsimp only at h
  rw [e] at h
  simp at h
theorem slot_dummy {t : SetTable} (ht : TabOk t) {j : Nat} : t.slot j ≠ .dummy := by
  unfold SetTable.slot
  rw [ht.du]
  dsimp only
  split
  · intro z; cases z
  · rw [has_none]
    intro z; cases z
theorem probe_go {t : SetTable} (ht : TabOk t) {g : Nat → Int} {h : Int} : ∀ (n : Nat) (p : SetTable.Probe) (j : Nat) (d : Option Nat), p.dummy = none → SetTable.probe.go t g h n p = some (.empty j d) → t.slot j = .empty ∧ d = none
  | 0, p, j, d, _, e => by cases e
  | n + 1, p, j, d, hp, e => by
    unfold SetTable.probe.go at e
    cases c : t.slot p.j with
    | empty =>
      rw [c] at e
      injection e with e
      injection e with e1 e2
      subst e1
      exact ⟨c, e2.symm.trans hp⟩
    | dummy => exact absurd c (slot_dummy ht)
    | live i =>
      rw [c] at e
      dsimp only at e
      split at e
      · injection e with e; cases e
      · refine probe_go ht n _ j d ?_ e
        unfold SetTable.advance
        split
        · exact hp
        · exact hp
theorem lay_ok {t : SetTable} (ht : TabOk t) (es : Array (Int × Value)) (h : Int) (x : Value) : TabOk (layNew t es h x).2.1 ∧ (layNew t es h x).2.1.led = t.led := by
  unfold layNew
  cases c : t.freeSlot h with
  | none => exact ⟨⟨rfl, fun z => by cases z⟩, rfl⟩
  | some q =>
    obtain ⟨j, wd⟩ := q
    have hj : t.slot j = .empty := by
      unfold SetTable.freeSlot at c
      split at c
      · rename_i j' d' e'
        obtain ⟨e1, rfl⟩ := probe_go ht _ _ _ _ rfl e'
        injection c with c
        injection c with c1 c2
        rw [← c1]
        exact e1
      · cases c
    dsimp only
    unfold SetTable.orStandIn
    split
    · refine ⟨⟨?_, fun z => ?_⟩, rfl⟩
      · show (if SetTable.has t.dummies j = true then _ else t.dummies) = #[]
        rw [ht.du, has_none]
        rfl
      · exact ris_insert (ht.ri z) (slot_empty hj)
    · exact ⟨⟨rfl, fun z => by cases z⟩, rfl⟩
theorem relay_ok {t : SetTable} (ht : TabOk t) (es : Array (Int × Value)) (n : Nat) : TabOk (relayAll t es n).2.1 ∧ (relayAll t es n).2.1.led = t.led := by
  unfold relayAll
  cases c : t.relaid (es.map (·.1)) n with
  | none => exact ⟨⟨rfl, fun z => by cases z⟩, rfl⟩
  | some q =>
    obtain ⟨t', ord⟩ := q
    dsimp only
    split
    · unfold SetTable.relaid SetTable.laid at c
      cases c2 : SetTable.layClean (SetTable.sizeAbove n - 1) (es.map (·.1)) with
      | none => rw [c2] at c; cases c
      | some ow =>
        rw [c2] at c
        injection c with c
        injection c with c1 c3
        subst c1
        refine ⟨⟨rfl, fun _ => ?_⟩, rfl⟩
        show List.Pairwise _ _
        rw [List.toList_toArray]
        rw [List.map_filterMap]
        refine List.Pairwise.sublist (l₂ := List.range (SetTable.sizeAbove n - 1 + 1)) ?_ List.pairwise_lt_range
        have key : ∀ l : List Nat, List.Sublist (l.filterMap fun j => Option.map (fun p : Nat × Nat => p.1) ((ow.getD j none).map fun y => (j, y))) l := by
          intro l
          induction l with
          | nil => exact .slnil
          | cons a r ih =>
            rw [List.filterMap_cons]
            cases ow.getD a none with
            | none => exact ih.cons _
            | some y => exact ih.cons_cons _
        exact key _
    · exact ⟨⟨rfl, fun z => by cases z⟩, rfl⟩
end L2

set_option Elab.async false
set_option linter.all false
set_option maxRecDepth 100000
set_option maxHeartbeats 4000000
namespace L2
open PySem
def keyOf (e : Int × Value) : Int := match e.2 with
  | .int k _ => k
  | _ => 0
section
variable {prog : Program} {w : World}
theorem elem_int {l : List (Int × Value)} (h : ElemsOf (intKind prog w) l) {e : Int × Value} (he : e ∈ l) : ∃ t, e.2 = .int (keyOf e) t := by
  obtain ⟨⟨k, hk, _⟩, _⟩ := h e he
  obtain ⟨t, q⟩ := Value.isInt_shape (k := k) (v := e.2) hk
  refine ⟨t, ?_⟩
  unfold keyOf
  rw [q]
theorem elem_is {l : List (Int × Value)} (h : ElemsOf (intKind prog w) l) {e : Int × Value} (he : e ∈ l) {k : Int} (q : (intKind prog w).is k e.2 = true) : keyOf e = k := by
  obtain ⟨t, q⟩ := Value.isInt_shape (k := k) (v := e.2) q
  unfold keyOf
  rw [q]
def ISet (prog : Program) (w : World) (h : Heap) (a : Addr) (ks : List Int) : Prop := ∃ (o : Obj) (es : Array (Int × Value)) (ep : Nat) (t : SetTable),
  h.get? a = some o ∧ o.ExactSet ∧ o.data = .set es ep t ∧ ElemsOf (intKind prog w) es.toList ∧ t.fits es.size = true ∧ TabOk t ∧ (w.params.followText "set-order" = false → t.led = true) ∧
  (es.toList.map keyOf).Nodup ∧ (∀ k, k ∈ es.toList.map keyOf ↔ k ∈ ks) ∧ es.size ≤ ks.length
theorem ISet.keep {h h' : Heap} {a : Addr} {ks : List Int} (x : ISet prog w h a ks) (k : ∀ o, h.get? a = some o → h'.get? a = some o) : ISet prog w h' a ks :=
  let ⟨o, es, ep, t, ho, r⟩ := x
  ⟨o, es, ep, t, k _ ho, r⟩
theorem iset_store {h : Heap} {a : Addr} {o : Obj} {es es' : Array (Int × Value)} {ep : Nat} {t t' : SetTable} {ks : List Int} (ho : h.get? a = some o) (hex : o.ExactSet) (hd : o.data = .set es ep t)
    (hel : ElemsOf (intKind prog w) es'.toList) (hf : t'.fits es'.size = true) (ht : TabOk t') (hl : w.params.followText "set-order" = false → t'.led = true) (nd : (es'.toList.map keyOf).Nodup)
    (mem : ∀ k, k ∈ es'.toList.map keyOf ↔ k ∈ ks) (sz : es'.size ≤ ks.length) :
    (h.update a (Obj.putSet es' t')).get? a = some { o with data := .set es' (ep + 1) t' } ∧ ISet prog w (h.update a (Obj.putSet es' t')) a ks := by
  have g : (h.update a (Obj.putSet es' t')).get? a = some { o with data := .set es' (ep + 1) t' } := by
    have q := Heap.get?_update_self (Obj.putSet es' t') ho (by rw [putSet_of es' t' hd]; rfl)
    rw [putSet_of es' t' hd] at q; exact q
  exact ⟨g, _, es', ep + 1, t', g, hex, rfl, hel, hf, ht, hl, nd, mem, sz⟩
theorem perm_size {es es' : Array (Int × Value)} (p : List.Perm es'.toList es.toList) : es'.size = es.size := by
  have := p.length_eq
  simpa using this
theorem iset_add {A : Around} {E : Value → Shared → Prop} {s : Shared} {a : Addr} {ks : List Int} {k : Int} {tk : Tok} {Q : Bool → Shared → Prop} (hS : ISet prog w s.heap a ks) (hr : ks.length + 1 < scanBound)
    (h : ∀ b h', Heap.SameBut a s.heap h' → ISet prog w h' a (ks ++ [k]) → Q b { s with heap := h' }) : wpAny (model prog w) A (setAddHashed a (.int k tk) ((intKind prog w).hash k)) Q E s := by
  obtain ⟨o, es, ep, t, ho, hex, hd, hel, hf, ht, hl, nd, mem, sz⟩ := hS
  have hz : es.size < scanBound := by omega
  have hkey : (intKind prog w).is k (.int k tk) = true := intKind_is _ _ _ _
  unfold setAddHashed setAddHashedIn
  refine wpAny_holding (wpAny_bind (wpAny_setState_of ho hd hf ?_))
  dsimp only; rw [byScan_of (knd := intKind prog w) (x := .int k tk) rfl hz hel]
  simp only [↓reduceIte]; unfold setAddByScan
  refine wpAny_bind (wpAny_bind (wpAny_rule (wpAny_bind (wpAny_setScan_of hkey ho hd hf hel ?_))))
  cases hc : List.findIdx? (fun e => (intKind prog w).is k e.2) es.toList with
  | some j =>
    dsimp only
    obtain ⟨hj, hp, _⟩ := List.findIdx?_eq_some_iff_getElem.mp hc
    have hk : k ∈ es.toList.map keyOf := List.mem_map.mpr ⟨es.toList[j], List.getElem_mem hj, elem_is hel (List.getElem_mem hj) hp⟩
    have q := h false s.heap (Heap.SameBut.refl a s.heap) ⟨o, es, ep, t, ho, hex, hd, hel, hf, ht, hl, nd, fun k' => by
      rw [List.mem_append, List.mem_singleton, mem k']
      exact ⟨.inl, fun z => z.elim id fun e => by rw [e]; exact (mem k).mp hk⟩, by rw [List.length_append]; omega⟩
    exact wpAny_pure (wpAny_pure q)
  | none =>
    dsimp only
    have hk : k ∉ es.toList.map keyOf := fun z => by
      obtain ⟨e, he, ek⟩ := List.mem_map.mp z
      have q := List.findIdx?_eq_none_iff.mp hc e he
      obtain ⟨te, ee⟩ := elem_int hel he
      rw [ee, ek, intKind_is] at q
      cases q
    have gw : ∀ (b : Bool) {s1 : Shared} {Q' : Unit → Shared → Prop}, Q' () s1 → wpAny (model prog w) A (match b with | true => rule "set.scan.the-table-gave-way" | false => pure ()) Q' E s1 :=
      fun b s1 Q' q => by
        cases b
        · exact wpAny_pure q
        · exact wpAny_rule q
    have pm := layNew_perm t es ((intKind prog w).hash k) (.int k tk); have fm := layNew_fits t es ((intKind prog w).hash k) (.int k tk)
    obtain ⟨tm, lm⟩ := lay_ok ht es ((intKind prog w).hash k) (.int k tk)
    generalize layNew t es ((intKind prog w).hash k) (.int k tk) = L at pm fm tm lm ⊢
    obtain ⟨es1, t1, wd, gv⟩ := L
    dsimp only at pm fm tm lm ⊢; rw [Array.toList_push] at pm
    have hel1 : ElemsOf (intKind prog w) es1.toList := (hel.push hkey rfl).perm pm
    have km : List.Perm (es1.toList.map keyOf) (es.toList.map keyOf ++ [k]) := by
      have := pm.map keyOf
      rw [List.map_append] at this
      exact this
    have nd1 : (es1.toList.map keyOf).Nodup := km.nodup_iff.mpr (List.nodup_append.mpr ⟨nd, by simp, fun a ha b hb => by
      rw [List.mem_singleton] at hb
      subst hb
      intro e
      subst e
      exact hk ha⟩)
    have mem1 : ∀ k', k' ∈ es1.toList.map keyOf ↔ k' ∈ ks ++ [k] := fun k' => by
      rw [km.mem_iff, List.mem_append, List.mem_append, mem k']
    have sz1 : es1.size = es.size + 1 := by
      have := pm.length_eq
      simpa using this
    have z1 : es1.size ≤ (ks ++ [k]).length := by rw [List.length_append, List.length_singleton]; omega
    have l1 : w.params.followText "set-order" = false → t1.led = true := fun z => lm.trans (hl z)
    refine wpAny_bind (gw _ ?_)
    have tail : ∀ {R : Option Bool → Shared → Prop}, (∀ h', Heap.SameBut a s.heap h' → ISet prog w h' a (ks ++ [k]) → R (some true) { s with heap := h' }) →
        wpAny (model prog w) A (do
          storeSet a es1 t1
          if (!wd && t1.tooFull) = true then do
            (match (relayAll t1 es1 (SetTable.grown es1.size)).2.2 with | true => rule "set.scan.the-table-gave-way" | false => pure ())
            storeSet a (relayAll t1 es1 (SetTable.grown es1.size)).1 (relayAll t1 es1 (SetTable.grown es1.size)).2.1
            pure (some true)
          else pure (some true)) R E s := by
      intro R hR
      refine wpAny_bind (wpAny_storeSet_of ho hd ?_ (fits_of_scanBound (by omega)))
      obtain ⟨g1, i1⟩ := iset_store (prog := prog) (w := w) ho hex hd hel1 fm tm l1 nd1 mem1 z1
      have b1 := Heap.SameBut.update s.heap a (Obj.putSet es1 t1)
      split
      · have p2 := relayAll_perm t1 es1 (SetTable.grown es1.size); have f2 := relayAll_fits t1 es1 (SetTable.grown es1.size)
        obtain ⟨t2, l2⟩ := relay_ok tm es1 (SetTable.grown es1.size)
        generalize relayAll t1 es1 (SetTable.grown es1.size) = Y at p2 f2 t2 l2 ⊢
        obtain ⟨es2, t3, gv2⟩ := Y
        dsimp only at p2 f2 t2 l2 ⊢
        have s2 := perm_size p2
        refine wpAny_bind (gw _ (wpAny_bind (wpAny_storeSet_of g1 rfl ?_ (fits_of_scanBound (by omega)))))
        obtain ⟨_, i2⟩ := iset_store (prog := prog) (w := w) (ks := ks ++ [k]) g1 hex rfl (hel1.perm p2) f2 t2 (fun z => l2.trans (l1 z)) ((p2.map keyOf).nodup_iff.mpr nd1) (fun k' => by rw [(p2.map keyOf).mem_iff]; exact mem1 k') (by omega)
        exact wpAny_pure (hR _ (b1.trans (Heap.SameBut.update _ a _)) i2)
      · exact wpAny_pure (hR _ b1 i1)
    split
    · refine wpAny_bind ?_
      rw [hashByValue_scannable 8 (show Value.scannable (.int k tk) = true from rfl)]
      refine wpAny_pure ?_
      show wpAny _ _ _ _ _ _
      exact tail fun h' hb hi => wpAny_pure (h true h' hb hi)
    · refine wpAny_bind (wpAny_pure ?_)
      exact tail fun h' hb hi => wpAny_pure (h true h' hb hi)
end
end L2

set_option Elab.async false
set_option linter.all false
set_option maxRecDepth 100000
set_option maxHeartbeats 4000000
namespace L2
open PySem PySem.Spec PyProof.Rows
section
variable {prog : Program} {w : World} {A : Around} {R : Result → Shared → Prop} {I : Addr} {fp wr : List Addr} {G : Array GenState → Array GenState → Prop} {n : Nat} {P : Nat → Value → Prop} {St : Nat → Shared → Prop}
theorem iset_loop (W : WalksS prog w A.in1 I fp wr G n P St) (S : Addr) (hSf : S ∉ fp) (val : Nat → Int) (hval : ∀ i v, P i v → ∃ t, v = .int (val i) t) (hb : n + 1 < scanBound) :
    ∀ (k i : Nat) (s : Shared), n - i = k → i ≤ n → St i s → ISet prog w s.heap S ((List.range i).map val) → (∀ s', Moved (S :: wr) G s s' → ISet prog w s'.heap S ((List.range n).map val) → R (.ok (.ret .none)) s') →
      codeAny (model prog w) A (.builtin "set.update.loop" ⟨[.ref S, .ref I], []⟩) R s := by
  have nw : S ∉ wr := fun z => hSf (W.sub _ z)
  have sb : ∀ b ∈ wr, b ∈ S :: wr := fun b z => List.mem_cons_of_mem _ z
  intro k
  induction k with
  | zero =>
    intro i s hk hi st hS hR
    obtain rfl : i = n := by omega
    refine codeAny_builtin PyProof.Rows.F.entry_set_update_loop ?_
    rw [Around.under_plainId PyProof.Rows.F.plain_set_update_loop _]
    refine wpAny_bind (m := pyNext (.ref I)) (W.done s _ _ st fun s' hm => ?_)
    exact wpAny_pure (hR s' (hm.mono sb) (hS.keep fun o e => hm.heap S o nw e))
  | succ k ih =>
    intro i s hk hi st hS hR
    have lt : i < n := by omega
    refine codeAny_builtin PyProof.Rows.F.entry_set_update_loop ?_
    rw [Around.under_plainId PyProof.Rows.F.plain_set_update_loop _]
    refine wpAny_bind (m := pyNext (.ref I)) (W.item i s _ _ lt st fun v s' hP st' hm => ?_)
    obtain ⟨tk, rfl⟩ := hval i v hP
    have hS' := hS.keep fun o e => hm.heap S o nw e
    refine wpAny_bind (m := holding [Value.int (val i) tk] (setAdd S (.int (val i) tk))) (wpAny_holding ?_)
    unfold setAdd
    refine wpAny_holding (wpAny_bind ((intKind prog w).pyHash (k := val i) (intKind_is _ _ _ _) ?_))
    refine iset_add (s := { s' with toks := s'.toks + 1 }) hS' (by rw [List.length_map, List.length_range]; omega) fun b h' hsb hi => ?_
    have e : ((List.range i).map val) ++ [val i] = (List.range (i + 1)).map val := by rw [List.range_succ, List.map_append]; rfl
    rw [e] at hi
    refine wpAny_pure ⟨plainId_quiet PyProof.Rows.F.plain_set_update_loop _, ih (i + 1) _ (by omega) lt (W.frame _ s' _ _ st' (Nat.le_succ _) fun b hb o e => ?_) hi fun s'' hm'' hS'' => ?_⟩
    · rw [hsb.2 b (fun z : b = S => hSf (by rw [← z]; exact hb))]; exact e
    · refine hR s'' (Moved.trans W.gtrans ((hm.mono sb).then_heap (Nat.le_succ _) fun b o hb e => ?_) hm'') hS''
      rw [hsb.2 b (fun z : b = S => hb (by rw [z]; exact List.mem_cons_self))]; exact e
end
end L2

set_option Elab.async false
set_option linter.all false
set_option maxRecDepth 100000
set_option maxHeartbeats 4000000
namespace L2
open PySem
theorem erase_perm {α : Type} : ∀ (l : List α) (i : Nat) (x : α), l[i]? = some x → List.Perm (x :: l.eraseIdx i) l
  | [], i, x, h => by cases h
  | a :: r, 0, x, h => by cases h; exact .refl _
  | a :: r, i + 1, x, h => (List.Perm.swap a x _).trans ((erase_perm r i x h).cons a)
theorem pick_go {α : Type} (f : Nat → Nat) : ∀ (n k : Nat) (l : List α) (out : Array α), l.length = n → List.Perm (pickOrder.go f n k l out).toList (out.toList ++ l)
  | 0, k, l, out, h => by
    cases l with
    | nil => unfold pickOrder.go; rw [List.append_nil]
    | cons a r => cases h
  | n + 1, k, l, out, h => by
    unfold pickOrder.go
    have hl : f k % l.length < l.length := Nat.mod_lt _ (by omega)
    rw [List.getElem?_eq_getElem hl]
    dsimp only
    have p := erase_perm l _ _ (List.getElem?_eq_getElem hl)
    refine (pick_go f n (k + 1) _ _ ?_).trans ?_
    · have := p.length_eq
      rw [List.length_cons] at this
      omega
    · rw [Array.toList_push, List.append_assoc]
      exact List.Perm.append_left _ p
theorem pick_perm {α : Type} (f : Nat → Nat) (xs : Array α) : List.Perm (pickOrder f xs).toList xs.toList := by
  have := pick_go f xs.size 0 xs.toList #[] (by simp)
  rw [show (#[] : Array α).toList ++ xs.toList = xs.toList from rfl] at this
  exact this
section
variable {prog : Program} {w : World} {A : Around} {E : Value → Shared → Prop} {s : Shared}
theorem wp_choose {M : Model} {src : Source} {n : Nat} {Q : Nat → Shared → Prop} (hn : n ≠ 0) (h : ∀ i d, i < n → Q i { s with drawn := d }) : wpAny M A (choose src n) Q E s := fun Γ p hΓ => by
  show Sem.wp M Γ (Sem.choose src n Sem.pure) _ _ p s
  unfold Sem.wp
  refine ⟨hn, ?_⟩
  unfold Sem.wp
  exact h _ _ (Nat.mod_lt _ (Nat.pos_of_ne_zero hn))
theorem wp_order {M : Model} {α : Type} : ∀ (n : Nat) (xs : List α) (s : Shared) {Q : List α → Shared → Prop}, xs.length = n → (∀ ys d, List.Perm ys xs → Q ys { s with drawn := d }) → wpAny M A (drawOrder n xs) Q E s
  | 0, xs, s, Q, hl, h => by
    cases xs with
    | nil => exact wpAny_pure (h [] s.drawn .nil)
    | cons a r => cases hl
  | n + 1, xs, s, Q, hl, h => by
    cases xs with
    | nil => cases hl
    | cons a r =>
      unfold drawOrder
      refine wpAny_bind (wp_choose (by simp) fun i d hi => ?_)
      rw [List.getElem?_eq_getElem hi]
      dsimp only
      have p := erase_perm (a :: r) _ _ (List.getElem?_eq_getElem hi)
      refine wpAny_bind (wp_order n _ _ (by have := p.length_eq; rw [List.length_cons] at this; omega) fun ys d' hp => ?_)
      exact wpAny_pure (h _ d' ((hp.cons _).trans p))
def SIt (h : Heap) (I : Addr) (f : Value) (i : Nat) (p n ep : Nat) : Prop := ∃ o, h.get? I = some o ∧ o.cls = .type "set_iterator" ∧ o.data = .fields #[f, .int i 0, .ref p, .int n 0, .int ep 0]
theorem SIt.ty {I p n ep i : Nat} {f : Value} (x : SIt s.heap I f i p n ep) : s.TypeIs (.ref I) "set_iterator" := let ⟨o, ho, hc, _⟩ := x; ⟨o, ho, hc⟩
def SAt (h : Heap) (p ep : Nat) (es : Array (Int × Value)) (t : SetTable) : Prop := ∃ o, h.get? p = some o ∧ o.ExactSet ∧ o.data = .set es ep t ∧ t.fits es.size = true
theorem slot_sit_next : Slot "set_iterator" "__next__" "set_iterator.__next__" := .of (owner := "set_iterator") (n := "__next__") (by rw [typeLookup_type, builtinLookup_eq_fast]; kernel_rfl) (by decide +kernel) (by decide +kernel) (by decide +kernel) (by first | exact .inl (by decide +kernel) | exact .inr (by decide +kernel)) (by rw [isSubtype_type]; kernel_rfl)
theorem entry_sit_next : entryFor table "set_iterator.__next__" = some Builtin.«set_iterator.__next__» := entryFor_of_tree (by kernel_rfl)
theorem args_sit_next (a : Value) : argsOk "set_iterator.__next__" ⟨[a], []⟩ := by unfold argsOk; kernel_rfl
theorem entry_s_iter : entryFor table "set.__iter__" = some Builtin.«frozenset.__iter__» := entryFor_alias (id' := "frozenset.__iter__") (by kernel_rfl) rfl (by decide +kernel) (by kernel_rfl)
theorem look_sit : typeLookup (.type "set_iterator") "__next__" = pure (some (.builtin "set_iterator.__next__")) := slot_sit_next.lookup
theorem iter_set {p ep : Nat} {es : Array (Int × Value)} {t : SetTable} {Q : Value → Shared → Prop} (hS : SAt s.heap p ep es t)
    (hq : (w.params.followText "set-order" = true ∨ (t.plain = true ∨ es.size ≤ 1)) → Q (.ref s.heap.objs.size) { s with heap := s.heap.push { cls := .type "set_iterator", data := .fields #[.int 0 0, .int 0 0, .ref p, .int es.size 0, .int ep 0] } })
    (hd : ∀ (ys : List Nat) (d : Drawn), List.Perm ys (List.range es.size) → Q (.ref (s.heap.objs.size + 1)) { s with heap := (s.heap.push { cls := .type "tuple", data := .seq (ys.map fun i => rawInt (i : Nat)).toArray }).push { cls := .type "set_iterator", data := .fields #[.ref s.heap.objs.size, .int 0 0, .ref p, .int es.size 0, .int ep 0] }, drawn := d })
    (hz : es.size ≤ sizeLine) : wpAny (model prog w) A (pyIter (.ref p)) Q E s := by
  obtain ⟨o, ho, hex, hdt, hf⟩ := hS
  have hT : s.TypeIs (.ref p) "set" := ⟨o, ho, hex.1⟩
  refine wpAny_pyIter_slot hT F.slot_set_iter (wpAny_call_entry F.slot_set_iter hT entry_s_iter ?_ (F.args_set_iter_1 _))
  unfold Builtin.«frozenset.__iter__»
  refine wpAny_bind (m := Builtin.Frozenset.slot0 "__iter__" _) (wpAny_pure ?_)
  refine wpAny_bind (m := Builtin.Frozenset.sizeOf p) ?_
  unfold Builtin.Frozenset.sizeOf setEntries
  refine wpAny_bind (wpAny_bind (wpAny_setState_of ho hdt hf (wpAny_pure (wpAny_pure ?_))))
  unfold setDrawn setsByText
  refine wpAny_bind (wpAny_bind (wpAny_setState_of ho hdt hf (wpAny_bind (wpAny_bind (wpAny_askSetting (wpAny_pure (wpAny_pure ?_)))))))
  have low : ∀ {f : Value} {h2 : Heap} {d : Drawn}, h2.get? p = some o → Q (.ref h2.objs.size) { s with heap := h2.push { cls := .type "set_iterator", data := .fields #[f, .int 0 0, .ref p, .int es.size 0, .int ep 0] }, drawn := d } →
      wpAny (model prog w) A.in1 (do
        let ep' ← setEpoch p
        let it ← newFields "set_iterator" [f, rawInt 0, Value.ref p, rawInt (es.size : Nat), rawInt (ep' : Nat)]
        ret it) (fun fin s' => ∃ v, fin = Fin.done (Flow.ret v) ∧ ∃ T' r, s'.TypeIs v T' ∧ typeLookup (Value.type T') (Str.ofString "__next__") = pure (some r) ∧ Q v s') E { s with heap := h2, drawn := d } := fun {f h2 d} g q => by
    refine wpAny_bind (wpAny_setEpoch_of (s := { s with heap := h2, drawn := d }) g hdt hf ?_)
    exact wpAny_bind (wpAny_newObj_type (wpAny_pure ⟨_, rfl, "set_iterator", _, ⟨_, Heap.get?_push_size _ rfl, rfl⟩, look_sit, q⟩))
  refine wpAny_ite_split (fun c => ?_) (fun c => ?_)
  · refine wpAny_bind (wp_order es.size _ _ (by simp) fun ys d hp => ?_)
    have hy : ys.length = es.size := by have := hp.length_eq; simpa using this
    refine wpAny_bind (m := newTuple _) (wpAny_newObj_type ?_ (by show (ys.map fun i => rawInt (i : Nat)).toArray.size ≤ sizeLine; rw [List.size_toArray, List.length_map, hy]; exact hz))
    have q := hd ys d hp
    have e : s.heap.objs.size + 1 = (s.heap.push { cls := .type "tuple", data := .seq (ys.map fun i => rawInt (i : Nat)).toArray }).objs.size := (Heap.size_push _ _).symm
    rw [e] at q
    exact low (Heap.get?_push_of_some _ ho) q
  · refine wpAny_bind (wpAny_pure (low (d := s.drawn) ho (hq ?_)))
    have c' : ¬ (!w.params.followText "set-order" && (!t.plain && decide (es.size > 1))) = true := c
    cases h1 : w.params.followText "set-order" with
    | true => exact .inl rfl
    | false =>
      right
      cases h2 : t.plain with
      | true => exact .inl rfl
      | false =>
        right
        rw [h1, h2] at c'
        simp at c'
        exact c'
end
end L2

set_option Elab.async false
set_option linter.all false
set_option maxRecDepth 100000
set_option maxHeartbeats 4000000
namespace L2
open PySem
section
variable {prog : Program} {w : World} {A : Around} {E : Value → Shared → Prop} {s : Shared}
theorem sit_upd {h : Heap} {I p n ep i : Nat} {f g : Value} (x : SIt h I f i p n ep) :
    SIt ((h.update I (Obj.mapFields (·.setIfInBounds 0 g))).update I (Obj.mapFields (·.setIfInBounds 1 (rawInt ((i : Int) + 1))))) I g (i + 1) p n ep := by
  obtain ⟨o, ho, hc, hd⟩ := x
  have d1 := Obj.data_mapFields hd (·.setIfInBounds 0 g)
  have g1 := Heap.get?_update_self (Obj.mapFields (·.setIfInBounds 0 g)) ho (Obj.isFreed_of_fields d1)
  have d2 := Obj.data_mapFields d1 (·.setIfInBounds 1 (rawInt ((i : Int) + 1)))
  refine ⟨_, Heap.get?_update_self _ g1 (Obj.isFreed_of_fields d2), (Obj.cls_mapFields ..).trans ((Obj.cls_mapFields ..).trans hc), ?_⟩
  rw [d2]
  simp [rawInt]
theorem next_some {I p ep i slot nx : Nat} {es : Array (Int × Value)} {t : SetTable} {x : Value} {Q : Option Value → Shared → Prop} (hI : SIt s.heap I (.int slot 0) i p es.size ep) (hS : SAt s.heap p ep es t)
    (hN : ∀ (A' : Around) (E' : Value → Shared → Prop) (Q' : Option (Value × Nat) → Shared → Prop), Q' (some (x, nx)) s → wpAny (model prog w) A' (setNext p slot i ep) Q' E' s)
    (hQ : ∀ h', SIt h' I (.int nx 0) (i + 1) p es.size ep → Heap.SameBut I s.heap h' → Q (some x) { s with heap := h' }) : wpAny (model prog w) A (pyNext (.ref I)) Q E s := by
  obtain ⟨o, ho, hc, hd⟩ := id hI
  obtain ⟨op, hop, hex, hdp, hf⟩ := hS
  unfold pyNext
  refine wpAny_bind (wpAny_attempt (wpAny_callSpecial?_slot (name := Str.ofString "__next__") hI.ty slot_sit_next (wpAny_call_entry slot_sit_next hI.ty entry_sit_next ?_ (args_sit_next _))))
  unfold Builtin.«set_iterator.__next__»
  refine wpAny_bind (m := slotArgs "__next__" 0 _) (wpAny_pure ?_)
  refine wpAny_bind (wpAny_fieldsOf ho hd ?_)
  dsimp only
  unfold setEntries
  refine wpAny_bind (wpAny_bind (wpAny_setState_of hop hdp hf (wpAny_pure ?_)))
  rw [if_neg (by simp)]
  simp only [Int.toNat_natCast]
  refine wpAny_bind (hN _ _ _ ?_)
  dsimp only
  refine wpAny_bind (wpAny_setField ho hd (by simp) ?_)
  have d1 := Obj.data_mapFields hd (·.setIfInBounds 0 (rawInt ((nx : Nat) : Int)))
  have g1 := Heap.get?_update_self (Obj.mapFields (·.setIfInBounds 0 (rawInt ((nx : Nat) : Int)))) ho (Obj.isFreed_of_fields d1)
  refine wpAny_bind (wpAny_setField (s := { s with heap := s.heap.update I (Obj.mapFields (·.setIfInBounds 0 (rawInt ((nx : Nat) : Int)))) }) g1 d1 (by simp) ?_)
  exact wpAny_pure ⟨_, rfl, wpAny_pure (hQ _ (sit_upd hI) ((Heap.SameBut.update ..).trans (Heap.SameBut.update ..)))⟩
theorem next_none {I p ep i slot : Nat} {es : Array (Int × Value)} {t : SetTable} {Q : Option Value → Shared → Prop} (hh : A.handled = none) (hI : SIt s.heap I (.int slot 0) i p es.size ep) (hS : SAt s.heap p ep es t)
    (hN : ∀ (A' : Around) (E' : Value → Shared → Prop) (Q' : Option (Value × Nat) → Shared → Prop), Q' none s → wpAny (model prog w) A' (setNext p slot i ep) Q' E' s)
    (hQ : ∀ h', Heap.ExtBut I s.heap h' → Q none { s with heap := h' }) : wpAny (model prog w) A (pyNext (.ref I)) Q E s := by
  obtain ⟨o, ho, hc, hd⟩ := id hI
  obtain ⟨op, hop, hex, hdp, hf⟩ := id hS
  unfold pyNext
  refine wpAny_bind (wpAny_attempt (wpAny_callSpecial?_slot (name := Str.ofString "__next__") hI.ty slot_sit_next (wpAny_call_entry slot_sit_next hI.ty entry_sit_next ?_ (args_sit_next _))))
  unfold Builtin.«set_iterator.__next__»
  refine wpAny_bind (m := slotArgs "__next__" 0 _) (wpAny_pure ?_)
  refine wpAny_bind (wpAny_fieldsOf ho hd ?_)
  dsimp only
  unfold setEntries
  refine wpAny_bind (wpAny_bind (wpAny_setState_of hop hdp hf (wpAny_pure ?_)))
  rw [if_neg (by simp)]
  simp only [Int.toNat_natCast]
  refine wpAny_bind (hN _ _ _ ?_)
  dsimp only
  refine wpAny_bind (wpAny_setField ho hd (by simp) ?_)
  have s1 := Heap.SameBut.update s.heap I (Obj.mapFields (·.setIfInBounds 2 Value.none))
  simp only [newExc, newTuple]
  refine wpAny_bind (wpAny_bind (wpAny_newObj_type (wpAny_bind (m := firstArgMember _ _) (wpAny_of_eq (a := Value.none) (by simp only [firstArgMember]; rfl) (wpAny_newObj_type ?_ (by size_fits)))) (by size_fits)))
  simp only [raiseNew]
  refine wpAny_bind (wpAny_handled ?_)
  rw [show A.in1.handled = none from hh]
  refine wpAny_bind (wpAny_pure (wpAny_throw ?_)); refine wpAny_bind (wpAny_isInstance (T := "StopIteration") (b := true) ⟨_, Heap.get?_push_size _ rfl, rfl⟩ isSubtype_stop ?_)
  exact wpAny_pure (hQ _ ((s1.extBut.push _).push _))
def TAt (h : Heap) (T : Nat) (ys : List Nat) : Prop := ∃ o, h.get? T = some o ∧ o.cls = .type "tuple" ∧ ∃ n, o.data = .seq (ys.map fun i => rawInt (i : Nat)).toArray n
theorem tup_some {I p ep i T j : Nat} {es : Array (Int × Value)} {t : SetTable} {ys : List Nat} {e : Int × Value} {Q : Option Value → Shared → Prop} (hI : SIt s.heap I (.ref T) i p es.size ep) (hS : SAt s.heap p ep es t) (hT : TAt s.heap T ys)
    (hj : ys[i]? = some j) (he : es[j]? = some e) (hQ : ∀ h', SIt h' I (.ref T) (i + 1) p es.size ep → Heap.SameBut I s.heap h' → Q (some e.2) { s with heap := h' }) : wpAny (model prog w) A (pyNext (.ref I)) Q E s := by
  obtain ⟨o, ho, hc, hd⟩ := id hI
  obtain ⟨op, hop, hex, hdp, hf⟩ := id hS
  unfold pyNext
  refine wpAny_bind (wpAny_attempt (wpAny_callSpecial?_slot (name := Str.ofString "__next__") hI.ty slot_sit_next (wpAny_call_entry slot_sit_next hI.ty entry_sit_next ?_ (args_sit_next _))))
  unfold Builtin.«set_iterator.__next__»
  refine wpAny_bind (m := slotArgs "__next__" 0 _) (wpAny_pure ?_)
  refine wpAny_bind (wpAny_fieldsOf ho hd ?_)
  dsimp only
  unfold setEntries
  refine wpAny_bind (wpAny_bind (wpAny_setState_of hop hdp hf (wpAny_pure ?_)))
  rw [if_neg (by simp)]
  obtain ⟨oT, hoT, hcT, nT, hdT⟩ := hT
  refine wpAny_bind (wpAny_seqItems hoT hdT ?_)
  dsimp only
  rw [Int.toNat_natCast, List.getElem?_toArray, List.getElem?_map, hj]
  show wpAny _ _ (setNextDrawn p j ep >>= _) _ _ s
  unfold setNextDrawn
  refine wpAny_bind (wpAny_bind (wpAny_setState_of hop hdp hf ?_))
  dsimp only
  rw [if_neg (by simp)]
  rw [he]
  refine wpAny_pure (wpAny_bind (wpAny_setField ho hd (by simp) ?_))
  have d1 := Obj.data_mapFields hd (·.setIfInBounds 1 (rawInt ((i : Int) + 1)))
  refine wpAny_pure ⟨_, rfl, wpAny_pure (hQ _ ⟨_, Heap.get?_update_self _ ho (Obj.isFreed_of_fields d1), (Obj.cls_mapFields ..).trans hc, ?_⟩ (Heap.SameBut.update ..))⟩
  rw [d1]
  simp [rawInt]
theorem tup_none {I p ep i T : Nat} {es : Array (Int × Value)} {t : SetTable} {ys : List Nat} {Q : Option Value → Shared → Prop} (hh : A.handled = none) (hI : SIt s.heap I (.ref T) i p es.size ep) (hS : SAt s.heap p ep es t) (hT : TAt s.heap T ys)
    (hj : ys[i]? = none) (hQ : ∀ h', Heap.ExtBut I s.heap h' → Q none { s with heap := h' }) : wpAny (model prog w) A (pyNext (.ref I)) Q E s := by
  obtain ⟨o, ho, hc, hd⟩ := id hI
  obtain ⟨op, hop, hex, hdp, hf⟩ := id hS
  unfold pyNext
  refine wpAny_bind (wpAny_attempt (wpAny_callSpecial?_slot (name := Str.ofString "__next__") hI.ty slot_sit_next (wpAny_call_entry slot_sit_next hI.ty entry_sit_next ?_ (args_sit_next _))))
  unfold Builtin.«set_iterator.__next__»
  refine wpAny_bind (m := slotArgs "__next__" 0 _) (wpAny_pure ?_)
  refine wpAny_bind (wpAny_fieldsOf ho hd ?_)
  dsimp only
  unfold setEntries
  refine wpAny_bind (wpAny_bind (wpAny_setState_of hop hdp hf (wpAny_pure ?_)))
  rw [if_neg (by simp)]
  obtain ⟨oT, hoT, hcT, nT, hdT⟩ := hT
  refine wpAny_bind (wpAny_seqItems hoT hdT ?_)
  dsimp only
  rw [Int.toNat_natCast, List.getElem?_toArray, List.getElem?_map, hj]
  dsimp only [Option.map_none]
  refine wpAny_bind (wpAny_setField ho hd (by simp) ?_)
  have d1 := Obj.data_mapFields hd (·.setIfInBounds 0 (rawInt 0))
  have g1 := Heap.get?_update_self (Obj.mapFields (·.setIfInBounds 0 (rawInt 0))) ho (Obj.isFreed_of_fields d1)
  refine wpAny_bind (wpAny_setField (s := { s with heap := s.heap.update I (Obj.mapFields (·.setIfInBounds 0 (rawInt 0))) }) g1 d1 (by simp) ?_)
  have s1 := (Heap.SameBut.update s.heap I (Obj.mapFields (·.setIfInBounds 0 (rawInt 0)))).trans (Heap.SameBut.update (s.heap.update I (Obj.mapFields (·.setIfInBounds 0 (rawInt 0)))) I (Obj.mapFields (·.setIfInBounds 2 Value.none)))
  simp only [newExc, newTuple]
  refine wpAny_bind (wpAny_bind (wpAny_newObj_type (wpAny_bind (m := firstArgMember _ _) (wpAny_of_eq (a := Value.none) (by simp only [firstArgMember]; rfl) (wpAny_newObj_type ?_ (by size_fits)))) (by size_fits)))
  simp only [raiseNew]
  refine wpAny_bind (wpAny_handled ?_)
  rw [show A.in1.handled = none from hh]
  refine wpAny_bind (wpAny_pure (wpAny_throw ?_)); refine wpAny_bind (wpAny_isInstance (T := "StopIteration") (b := true) ⟨_, Heap.get?_push_size _ rfl, rfl⟩ isSubtype_stop ?_)
  exact wpAny_pure (hQ _ ((s1.extBut.push _).push _))
theorem setNext_text {p ep slot i : Nat} {es : Array (Int × Value)} {t : SetTable} {Q : Option (Value × Nat) → Shared → Prop} (hx : w.params.followText "set-order" = true) (hS : SAt s.heap p ep es t)
    (h : Q (((pickOrder (w.params.setOrder p ep) es)[i]?).map fun e => (e.2, slot)) s) : wpAny (model prog w) A (setNext p slot i ep) Q E s := by
  obtain ⟨op, hop, hex, hdp, hf⟩ := hS
  unfold setNext setsByText
  refine wpAny_bind (wpAny_setState_of hop hdp hf (wpAny_bind (wpAny_bind (wpAny_askSetting (wpAny_pure ?_)))))
  dsimp only
  rw [if_pos (show (model prog w).w.params.followText "set-order" = true from hx), if_neg (by simp)]
  unfold setWalk setsByText
  refine wpAny_bind (wpAny_bind (wpAny_setState_of hop hdp hf (wpAny_bind (wpAny_bind (wpAny_askSetting (wpAny_pure ?_))))))
  dsimp only
  rw [if_pos (show (model prog w).w.params.followText "set-order" = true from hx)]
  exact wpAny_bind (wpAny_askSetting (wpAny_pure (wpAny_pure h)))
theorem setNext_place {p ep slot i : Nat} {es : Array (Int × Value)} {t : SetTable} {Q : Option (Value × Nat) → Shared → Prop} (hx : w.params.followText "set-order" = false) (hp : t.plain = true ∨ es.size ≤ 1) (hl : t.led = true) (hS : SAt s.heap p ep es t)
    (h : Q (match es[SetTable.below t.place slot]?, t.place[SetTable.below t.place slot]? with | some (_, x), some j => some (x, j + 1) | _, _ => none) s) : wpAny (model prog w) A (setNext p slot i ep) Q E s := by
  obtain ⟨op, hop, hex, hdp, hf⟩ := hS
  unfold setNext setsByText
  refine wpAny_bind (wpAny_setState_of hop hdp hf (wpAny_bind (wpAny_bind (wpAny_askSetting (wpAny_pure ?_)))))
  dsimp only
  rw [if_neg (show ¬ (model prog w).w.params.followText "set-order" = true by intro z; rw [show (model prog w).w.params.followText "set-order" = w.params.followText "set-order" from rfl, hx] at z; cases z)]
  refine wpAny_ite_split (fun c => ?_) (fun c => ?_)
  · exfalso
    have c' : (!t.plain && decide (es.size > 1)) = true := c
    rw [Bool.and_eq_true, decide_eq_true_eq] at c'
    rcases hp with hp | hp
    · rw [hp] at c'; cases c'.1
    · omega
  · refine wpAny_bind ?_
    show wpAny _ _ (if (!t.led && !es.isEmpty) = true then unsupported _ else pure ()) _ _ _
    rw [if_neg (by rw [hl]; simp)]
    exact wpAny_pure (wpAny_pure h)
end
end L2

set_option Elab.async false
set_option linter.all false
set_option maxRecDepth 100000
set_option maxHeartbeats 4000000
namespace L2
open PySem PyProof.Rows
section
variable {prog : Program} {w : World} {A : Around} {E : Value → Shared → Prop} {s : Shared}
theorem slot_sit_iter : Slot "set_iterator" "__iter__" "set_iterator.__iter__" := .of (owner := "set_iterator") (n := "__iter__") (by rw [typeLookup_type, builtinLookup_eq_fast]; kernel_rfl) (by decide +kernel) (by decide +kernel) (by decide +kernel) (by first | exact .inl (by decide +kernel) | exact .inr (by decide +kernel)) (by rw [isSubtype_type]; kernel_rfl)
theorem entry_sit_iter : entryFor table "set_iterator.__iter__" = some Builtin.«dict_keyiterator.__iter__» := entryFor_alias (id' := "dict_keyiterator.__iter__") (by kernel_rfl) rfl (by decide +kernel) (by kernel_rfl)
theorem args_sit_iter (a : Value) : argsOk "set_iterator.__iter__" ⟨[a], []⟩ := by unfold argsOk; kernel_rfl
theorem iter_sit {I p n ep i : Nat} {f : Value} {Q : Value → Shared → Prop} (x : SIt s.heap I f i p n ep) (h : Q (.ref I) s) : wpAny (model prog w) A (pyIter (.ref I)) Q E s := by
  refine wpAny_pyIter_slot x.ty slot_sit_iter (wpAny_call_entry slot_sit_iter x.ty entry_sit_iter (show wpAny _ _ (ret (.ref I)) _ _ s from ?_) (args_sit_iter _))
  exact wpAny_pure ⟨_, rfl, "set_iterator", _, x.ty, look_sit, h⟩
theorem SIt.keep {h h' : Heap} {I p n ep i : Nat} {f : Value} (x : SIt h I f i p n ep) (k : ∀ o, h.get? I = some o → h'.get? I = some o) : SIt h' I f i p n ep := let ⟨o, ho, r⟩ := x; ⟨o, k _ ho, r⟩
theorem SAt.keep {h h' : Heap} {p ep : Nat} {es : Array (Int × Value)} {t : SetTable} (x : SAt h p ep es t) (k : ∀ o, h.get? p = some o → h'.get? p = some o) : SAt h' p ep es t := let ⟨o, ho, r⟩ := x; ⟨o, k _ ho, r⟩
theorem TAt.keep {h h' : Heap} {T : Nat} {ys : List Nat} (x : TAt h T ys) (k : ∀ o, h.get? T = some o → h'.get? T = some o) : TAt h' T ys := let ⟨o, ho, r⟩ := x; ⟨o, k _ ho, r⟩
theorem walk_text (hh : A.handled = none) (I p ep : Nat) (hne : p ≠ I) (es : Array (Int × Value)) (t : SetTable) (hx : w.params.followText "set-order" = true) :
    Walks prog w A I [I, p] [I] es.size (fun i v => ((pickOrder (w.params.setOrder p ep) es).toList.map (·.2))[i]? = some v) (fun i h => SIt h I (.int 0 0) i p es.size ep ∧ SAt h p ep es t) where
  sub := fun b hb => by rw [List.mem_singleton] at hb; rw [hb]; exact List.mem_cons_self
  frame := fun _ _ _ st k => ⟨st.1.keep (k I List.mem_cons_self), st.2.keep (k p (List.mem_cons_of_mem _ List.mem_cons_self))⟩
  item := fun i s Q E hi st hQ => by
    have hl : i < (pickOrder (w.params.setOrder p ep) es).size := by
      have := (pick_perm (w.params.setOrder p ep) es).length_eq
      rw [Array.length_toList, Array.length_toList] at this
      omega
    have g := Array.getElem?_eq_getElem hl
    refine next_some (nx := 0) (x := ((pickOrder (w.params.setOrder p ep) es)[i]).2) (slot := 0) st.1 st.2 (fun A' E' Q' q => setNext_text hx st.2 (by rw [g]; exact q)) fun h' hI hb => ?_
    refine hQ _ h' s.toks ?_ ⟨hI, st.2.keep fun o e => hb.extBut p o hne e⟩ fun b o hn e => hb.extBut b o (fun z => hn (by rw [z]; exact List.mem_singleton.mpr rfl)) e
    rw [List.getElem?_map, Array.getElem?_toList, g]; rfl
  done := fun s Q E st hQ => by
    have g : (pickOrder (w.params.setOrder p ep) es)[es.size]? = none := by
      have := (pick_perm (w.params.setOrder p ep) es).length_eq
      rw [Array.length_toList, Array.length_toList] at this
      exact Array.getElem?_eq_none (by omega)
    exact next_none (slot := 0) hh st.1 st.2 (fun A' E' Q' q => setNext_text hx st.2 (by rw [g]; exact q)) fun h' hb => hQ h' s.toks fun b o hn e => hb b o (fun z => hn (by rw [z]; exact List.mem_singleton.mpr rfl)) e
  self := fun _ _ _ _ st hQ => iter_sit st.1 hQ
def slotAt (t : SetTable) : Nat → Nat
  | 0 => 0
  | i + 1 => t.place.getD i 0 + 1
theorem below_at {t : SetTable} (h : Ris t.place) : ∀ i, i ≤ t.place.size → SetTable.below t.place (slotAt t i) = i
  | 0, _ => by
    obtain ⟨b0, b1, b2⟩ := below_is (j := slotAt t 0) h
    by_cases c : SetTable.below t.place (slotAt t 0) = 0
    · exact c
    · exact absurd (b1 0 (by omega)) (Nat.not_lt_zero _)
  | i + 1, hi => by
    obtain ⟨b0, b1, b2⟩ := below_is (j := slotAt t (i + 1)) h
    have e : ∀ k d, k < t.place.size → t.place.getD k d = t.place.getD k 0 := fun k d hk => by simp [Array.getD, hk]
    have c1 : i < SetTable.below t.place (slotAt t (i + 1)) := by
      by_cases c : SetTable.below t.place (slotAt t (i + 1)) ≤ i
      · have := b2 i c hi
        rw [e i _ hi] at this
        exact absurd this (Nat.not_succ_le_self _)
      · omega
    by_cases c2 : SetTable.below t.place (slotAt t (i + 1)) = i + 1
    · exact c2
    · have l := b1 (i + 1) (by omega)
      have hk : i + 1 < t.place.size := by omega
      rw [e _ _ hk] at l
      have r : t.place.getD i 0 < t.place.getD (i + 1) 0 := ris_lt (d := 0) h (Nat.lt_succ_self i) hk
      have l' : t.place.getD (i + 1) 0 < t.place.getD i 0 + 1 := l
      omega
theorem walk_place (hh : A.handled = none) (I p ep : Nat) (hne : p ≠ I) (es : Array (Int × Value)) (t : SetTable) (hx : w.params.followText "set-order" = false) (hp : t.plain = true ∨ es.size ≤ 1) (hl : t.led = true) (hz : t.place.size = es.size) (hr : Ris t.place) :
    Walks prog w A I [I, p] [I] es.size (fun i v => (es.toList.map (·.2))[i]? = some v) (fun i h => SIt h I (.int (slotAt t i) 0) i p es.size ep ∧ SAt h p ep es t) where
  sub := fun b hb => by rw [List.mem_singleton] at hb; rw [hb]; exact List.mem_cons_self
  frame := fun _ _ _ st k => ⟨st.1.keep (k I List.mem_cons_self), st.2.keep (k p (List.mem_cons_of_mem _ List.mem_cons_self))⟩
  item := fun i s Q E hi st hQ => by
    have g := Array.getElem?_eq_getElem hi
    have hi2 : i < t.place.size := by omega
    have g2 := Array.getElem?_eq_getElem hi2
    have e2 : slotAt t (i + 1) = t.place[i] + 1 := by
      show t.place.getD i 0 + 1 = _
      simp [Array.getD, hi2]
    refine next_some (nx := t.place[i] + 1) (x := (es[i]).2) (slot := slotAt t i) st.1 st.2 (fun A' E' Q' q => setNext_place hx hp hl st.2 (by rw [below_at hr i (by omega), g, g2]; exact q)) fun h' hI hb => ?_
    refine hQ _ h' s.toks ?_ ⟨by rw [e2]; exact hI, st.2.keep fun o e => hb.extBut p o hne e⟩ fun b o hn e => hb.extBut b o (fun z => hn (by rw [z]; exact List.mem_singleton.mpr rfl)) e
    rw [List.getElem?_map, Array.getElem?_toList, g]; rfl
  done := fun s Q E st hQ => by
    have g : es[es.size]? = none := Array.getElem?_eq_none (Nat.le_refl _)
    exact next_none (slot := slotAt t es.size) hh st.1 st.2 (fun A' E' Q' q => setNext_place hx hp hl st.2 (by rw [below_at hr _ (by omega), g]; exact q)) fun h' hb => hQ h' s.toks fun b o hn e => hb b o (fun z => hn (by rw [z]; exact List.mem_singleton.mpr rfl)) e
  self := fun _ _ _ _ st hQ => iter_sit st.1 hQ
theorem walk_drawn (hh : A.handled = none) (I p T ep : Nat) (hne : p ≠ I) (hnT : T ≠ I) (es : Array (Int × Value)) (t : SetTable) (ys : List Nat) (hy : List.Perm ys (List.range es.size)) :
    Walks prog w A I [I, p, T] [I] es.size (fun i v => (ys.map fun j => (es.getD j (0, .none)).2)[i]? = some v) (fun i h => SIt h I (.ref T) i p es.size ep ∧ SAt h p ep es t ∧ TAt h T ys) where
  sub := fun b hb => by rw [List.mem_singleton] at hb; rw [hb]; exact List.mem_cons_self
  frame := fun _ _ _ st k => ⟨st.1.keep (k I (by simp)), st.2.1.keep (k p (by simp)), st.2.2.keep (k T (by simp))⟩
  item := fun i s Q E hi st hQ => by
    have hl : i < ys.length := by have := hy.length_eq; rw [List.length_range] at this; omega
    have g := List.getElem?_eq_getElem hl
    have hj : ys[i] < es.size := List.mem_range.mp (hy.mem_iff.mp (List.getElem_mem hl))
    refine tup_some st.1 st.2.1 st.2.2 g (Array.getElem?_eq_getElem hj) fun h' hI hb => ?_
    refine hQ _ h' s.toks ?_ ⟨hI, st.2.1.keep fun o e => hb.extBut p o hne e, st.2.2.keep fun o e => hb.extBut T o hnT e⟩ fun b o hn e => hb.extBut b o (fun z => hn (by rw [z]; exact List.mem_singleton.mpr rfl)) e
    rw [List.getElem?_map, g]
    simp [Array.getD, hj]
  done := fun s Q E st hQ => by
    have g : ys[es.size]? = none := List.getElem?_eq_none (by have := hy.length_eq; rw [List.length_range] at this; omega)
    exact tup_none hh st.1 st.2.1 st.2.2 g fun h' hb => hQ h' s.toks fun b o hn e => hb b o (fun z => hn (by rw [z]; exact List.mem_singleton.mpr rfl)) e
  self := fun _ _ _ _ st hQ => iter_sit st.1 hQ
theorem ints_of {l : List (Int × Value)} (h : ∀ e ∈ l, ∃ t, e.2 = .int (keyOf e) t) : IntsAre (l.map (·.2)) (l.map keyOf) := by
  induction l with
  | nil => exact .nil
  | cons e r ih =>
    obtain ⟨t, q⟩ := h e List.mem_cons_self
    rw [List.map_cons, List.map_cons, q]
    exact .cons _ t (ih fun x hx => h x (List.mem_cons_of_mem _ hx))
theorem range_getD {α : Type} (es : Array α) (d : α) : (List.range es.size).map (fun j => es.getD j d) = es.toList := by
  refine List.ext_getElem (by simp) fun i h1 h2 => ?_
  have hi : i < es.size := by simpa using h2
  simp [Array.getD, hi]
theorem iter_iset {p : Addr} {ks : List Int} {Q : Value → Shared → Prop} (hh : A.handled = none) (hS : ISet prog w s.heap p ks) (hk : ks.length ≤ 1000)
    (h : ∀ (I : Addr) (fp : List Addr) (St : Nat → Heap → Prop) (h' : Heap) (d : Drawn) (its : List Value) (ns : List Int), Walks prog w A I fp [I] its.length (fun i v => its[i]? = some v) St → St 0 h' →
      (∀ b o, s.heap.get? b = some o → h'.get? b = some o) → (∀ b ∈ fp, b = p ∨ s.heap.objs.size ≤ b) → s.heap.objs.size ≤ I → IntsAre its ns → ns.Nodup → (∀ k, k ∈ ns ↔ k ∈ ks) → its.length ≤ ks.length → Q (.ref I) { s with heap := h', drawn := d }) :
    wpAny (model prog w) A (pyIter (.ref p)) Q E s := by
  obtain ⟨o, es, ep, t, ho, hex, hd, hel, hf, ht, hl, nd, mem, sz⟩ := hS
  have hS : SAt s.heap p ep es t := ⟨o, ho, hex, hd, hf⟩
  have hp : p < s.heap.objs.size := Heap.lt_size ho
  have hz : t.place.size = es.size := by
    unfold SetTable.fits at hf
    rw [Bool.and_eq_true] at hf
    exact beq_iff_eq.mp hf.1
  have fin : ∀ (l : List (Int × Value)), List.Perm l es.toList → IntsAre (l.map (·.2)) (l.map keyOf) ∧ (l.map keyOf).Nodup ∧ (∀ k, k ∈ l.map keyOf ↔ k ∈ ks) ∧ (l.map (·.2)).length = es.size := fun l pl =>
    ⟨ints_of fun e he => elem_int hel (pl.mem_iff.mp he), (pl.map keyOf).nodup_iff.mpr nd, fun k => ((pl.map keyOf).mem_iff).trans (mem k), by rw [List.length_map, pl.length_eq, Array.length_toList]⟩
  have lf : ∀ b ∈ [s.heap.objs.size, p], b = p ∨ s.heap.objs.size ≤ b := fun b hb => by
    simp only [List.mem_cons, List.not_mem_nil, or_false] at hb
    rcases hb with rfl | rfl
    · exact .inr (Nat.le_refl _)
    · exact .inl rfl
  refine iter_set hS (fun c => ?_) (fun ys d hy => ?_) (Nat.le_trans (Nat.le_trans sz hk) (by decide))
  · cases hx : w.params.followText "set-order" with
    | true =>
      obtain ⟨f1, f2, f3, f4⟩ := fin _ (pick_perm (w.params.setOrder p ep) es)
      have W := walk_text (prog := prog) hh s.heap.objs.size p ep (Nat.ne_of_lt hp) es t hx
      rw [← f4] at W
      exact h _ _ _ _ s.drawn _ _ W ⟨⟨_, Heap.get?_push_size _ rfl, rfl, by rw [f4]; rfl⟩, hS.keep fun o e => Heap.get?_push_of_some _ e⟩ (fun b o e => Heap.get?_push_of_some _ e) lf (Nat.le_refl _) f1 f2 f3 (by omega)
    | false =>
      have c' : t.plain = true ∨ es.size ≤ 1 := by
        rcases c with c | c
        · rw [hx] at c; cases c
        · exact c
      have hr : Ris t.place := by
        rcases c' with c' | c'
        · exact ht.ri c'
        · have hl1 : t.place.toList.length ≤ 1 := by rw [Array.length_toList]; omega
          show List.Pairwise _ _
          match t.place.toList, hl1 with
          | [], _ => exact .nil
          | [a], _ => exact List.pairwise_singleton _ _
      obtain ⟨f1, f2, f3, f4⟩ := fin _ (.refl _)
      have W := walk_place (prog := prog) hh s.heap.objs.size p ep (Nat.ne_of_lt hp) es t hx c' (hl hx) hz hr
      rw [← f4] at W
      exact h _ _ _ _ s.drawn _ _ W ⟨⟨_, Heap.get?_push_size _ rfl, rfl, by rw [f4]; rfl⟩, hS.keep fun o e => Heap.get?_push_of_some _ e⟩ (fun b o e => Heap.get?_push_of_some _ e) lf (Nat.le_refl _) f1 f2 f3 (by omega)
  · have pl : List.Perm (ys.map fun j => es.getD j (0, .none)) es.toList := by
      have := hy.map fun j => es.getD j (0, Value.none)
      rw [range_getD] at this
      exact this
    obtain ⟨f1, f2, f3, f4⟩ := fin _ pl
    have W := walk_drawn (prog := prog) (w := w) (A := A) hh (s.heap.objs.size + 1) p s.heap.objs.size ep (Nat.ne_of_lt (Nat.lt_succ_of_lt hp)) (Nat.ne_of_lt (Nat.lt_succ_self _)) es t ys hy
    rw [List.map_map] at f1 f4
    have f4' : (ys.map fun j => (es.getD j (0, .none)).2).length = es.size := f4
    rw [← f4'] at W
    have gI : ((s.heap.push { cls := .type "tuple", data := .seq (ys.map fun i => rawInt (i : Nat)).toArray }).push { cls := .type "set_iterator", data := .fields #[.ref s.heap.objs.size, .int 0 0, .ref p, .int es.size 0, .int ep 0] }).get? (s.heap.objs.size + 1) = some { cls := .type "set_iterator", data := .fields #[.ref s.heap.objs.size, .int 0 0, .ref p, .int es.size 0, .int ep 0] } := by
      have := Heap.get?_push_size (s.heap.push { cls := .type "tuple", data := .seq (ys.map fun i => rawInt (i : Nat)).toArray }) (o := { cls := .type "set_iterator", data := .fields #[.ref s.heap.objs.size, .int 0 0, .ref p, .int es.size 0, .int ep 0] }) rfl
      rw [Heap.size_push] at this
      exact this
    refine h _ _ _ _ d _ _ W ⟨⟨_, gI, rfl, by rw [f4']; rfl⟩, hS.keep fun o e => Heap.get?_push_of_some _ (Heap.get?_push_of_some _ e), ⟨_, Heap.get?_push_of_some _ (Heap.get?_push_size _ rfl), rfl, _, rfl⟩⟩ (fun b o e => Heap.get?_push_of_some _ (Heap.get?_push_of_some _ e)) (fun b hb => ?_) (Nat.le_succ _) f1 f2 f3 (by omega)
    · simp only [List.mem_cons, List.not_mem_nil, or_false] at hb
      rcases hb with rfl | rfl | rfl
      · exact .inr (Nat.le_succ _)
      · exact .inl rfl
      · exact .inr (Nat.le_refl _)
end
end L2

set_option Elab.async false
set_option linter.all false
set_option maxRecDepth 100000
set_option maxHeartbeats 4000000
namespace L2
open PySem PyProof.Rows
section
variable {prog : Program} {w : World} {A : Around} {E : Value → Shared → Prop} {s : Shared}
theorem hint_set {r : Addr} {Q : Bool → Shared → Prop} (hT : s.TypeIs (.ref r) "set") (h : Q false s) : wpAny (model prog w) A (Builtin.List.listLengthHint (.ref r)) Q E s := by
  unfold Builtin.List.listLengthHint
  refine wpAny_bind (wpAny_specialOf hT F.slot_set_len.lookup ?_)
  generalize hi : ("set.__len__" : String) = idx
  wp_delta; rw [show splitId idx = some ("set", "__len__") from by subst hi; decide +kernel]
  subst hi; refine wpAny_bind (wpAny_isInstance (T := "set") (b := true) hT (by rw [isSubtype_type]; kernel_rfl) ?_)
  refine wpAny_ite_split (fun z => absurd z (by decide)) (fun _ => wpAny_ite_split (fun _ => ?_) (fun z => absurd (by decide +kernel) z))
  exact wpAny_bind (wpAny_typeOf hT (wpAny_pure h))
def Met (ks : List Int) (its : List Value) : Prop := ∃ ns, IntsAre its ns ∧ ns.Nodup ∧ (∀ k, k ∈ ns ↔ k ∈ ks) ∧ its.length ≤ ks.length
theorem ISet.ty {p : Addr} {ks : List Int} (x : ISet prog w s.heap p ks) : s.TypeIs (.ref p) "set" := let ⟨o, _, _, _, ho, hex, _⟩ := x; ⟨o, ho, hex.1⟩
theorem ISet.lt {h : Heap} {p : Addr} {ks : List Int} (x : ISet prog w h p ks) : p < h.objs.size := let ⟨_, _, _, _, ho, _⟩ := x; Heap.lt_size ho
theorem items_eq {its : List Value} {acc : Array Value} (h : ItemsOf (fun i v => its[i]? = some v) acc its.length) : acc.toList = its := by
  refine List.ext_getElem? fun i => ?_
  by_cases hi : i < its.length
  · have ha : i < acc.size := by rw [h.1]; exact hi
    have := h.2 i acc[i] (Array.getElem?_eq_getElem ha)
    rw [Array.getElem?_toList, Array.getElem?_eq_getElem ha, this]
  · have e : acc.toList.length = its.length := by rw [Array.length_toList, h.1]
    rw [List.getElem?_eq_none (l := its) (by omega), List.getElem?_eq_none (l := acc.toList) (by omega)]
theorem extend_iset {R : Result → Shared → Prop} {p S : Addr} {ks : List Int} {res : Value} {c₀ : Nat} (hh : A.handled = none) (hS : ISet prog w s.heap p ks) (hk : ks.length ≤ 1000) (hne : S ≠ p)
    (hl : s.heap.get? S = some { cls := .type "list", data := .seq #[] c₀ })
    (hR : ∀ h' d tk acc c, (∀ b o, b ≠ S → s.heap.get? b = some o → h'.get? b = some o) → h'.get? S = some { cls := .type "list", dict := none, data := .seq acc c, slots := #[] } → Met ks acc.toList → R (.ok (.ret res)) { s with heap := h', drawn := d, toks := tk }) :
    wpAny (model prog w) A.in1 (Builtin.List.listExtendWith (.ref S) (.ref p) res) (fun fin s' => match fin with | .done f => R (.ok f) s' | .again c' => c'.quiet = true ∧ codeAny (model prog w) A c' R s') (fun e s' => R (.error e) s') s := by
  unfold Builtin.List.listExtendWith
  refine wpAny_bind (wpAny_typeOf (T := "set") hS.ty ?_)
  have e1 : Builtin.List.listSameRef (.ref S) (.ref p) = false := by simp [Builtin.List.listSameRef, hne]
  have e2 : (Value.type "set" == Value.type "list") = false := by decide
  have e3 : (Value.type "set" == Value.type "tuple") = false := by decide
  simp only [e1, e2, e3, Bool.or_false, Bool.false_eq_true, if_false]
  refine wpAny_bind (iter_iset (A := A.in1) hh hS hk fun I fp St h1 d its ns W st keep hfp hI i1 i2 i3 i4 => ?_)
  have hSlt := Heap.lt_size hl
  have hSf : S ∉ fp := fun z => by
    rcases hfp S z with e | e
    · exact hne e
    · exact absurd hSlt (Nat.not_lt.mpr e)
  have hIS : I ≠ S := fun z => absurd hSlt (Nat.not_lt.mpr (by rw [← z]; exact hI))
  have g1 := keep _ _ hl
  have fin : ∀ (h : Heap) (c : Nat) (tk : Nat), St 0 h → (∀ b o, b ≠ S → s.heap.get? b = some o → h.get? b = some o) → h.get? S = some { cls := .type "list", data := .seq #[] c } →
      codeAny (model prog w) A (.builtin "list.extend.loop" ⟨[.ref S, .ref I, res], []⟩) R { s with heap := h, drawn := d, toks := tk } := fun h c tk st' k g => by
    refine codeAny_extend_loopS W.toS (Nat.le_trans (Nat.le_trans i4 hk) (by decide)) S hSf res its.length 0 _ #[] c rfl (Nat.zero_le _) st' g (ItemsOf.nil _) fun s' acc c' hm g' hacc => ?_
    have e := items_eq hacc
    have es : s' = { s with heap := s'.heap, drawn := d, toks := s'.toks } := by
      obtain ⟨a1, a2, a3, a4, a5⟩ := s'
      have b1 : a2 = s.gens := hm.gens
      have b2 : a3 = d := hm.drawn
      have b3 : a5 = s.os := hm.os
      subst b1 b2 b3
      rfl
    rw [es]
    refine hR s'.heap d s'.toks acc c' (fun b o hb q => hm.heap b o (fun z => ?_) (k b o hb q)) g' (by rw [e]; exact ⟨ns, i1, i2, i3, i4⟩)
    rcases List.mem_cons.mp z with z | z
    · exact hb z
    · exact absurd (Heap.lt_size q) (Nat.not_lt.mpr (by rw [List.mem_singleton.mp z]; exact hI))
  refine wpAny_bind (wpAny_holding (hint_set (s := { s with heap := h1, drawn := d }) (hS.keep (keep p)).ty ?_))
  refine wpAny_ite_split (fun _ => ?_) (fun _ => wpAny_pure ⟨plainId_quiet F.plain_extend_loop _, fin _ c₀ _ st (fun b o _ e => keep b o e) g1⟩)
  refine wpAny_bind (wpAny_rule (wpAny_bind ?_))
  show wpAny _ _ (updateSeq S (fun xs => xs.push .none) >>= fun _ => updateSeq S (fun xs => xs.pop)) _ _ _
  refine wpAny_bind (wpAny_updateSeq (s := { s with heap := h1, drawn := d }) g1 rfl ?_)
  have g2 := Heap.get?_update_self (Obj.mapSeq (fun xs => xs.push Value.none)) g1 rfl
  refine wpAny_updateSeq (s := { s with heap := h1.update S (Obj.mapSeq (fun xs => xs.push Value.none)), drawn := d }) (hz := by seq_fits) g2 rfl ?_
  have g3 := Heap.get?_update_self (Obj.mapSeq (fun xs => xs.pop)) g2 rfl
  refine wpAny_pure ⟨plainId_quiet F.plain_extend_loop _, fin _ _ _ (W.frame 0 _ _ st fun b hb o e => ?_) (fun b o hb e => ?_) g3⟩
  · have hb' : b ≠ S := fun z => hSf (z ▸ hb)
    exact (Heap.get?_update_other _ _ (Ne.symm hb')).trans ((Heap.get?_update_other _ _ (Ne.symm hb')).trans e)
  · exact (Heap.get?_update_other _ _ (Ne.symm hb)).trans ((Heap.get?_update_other _ _ (Ne.symm hb)).trans (keep b o e))
theorem collect_iset {R : List Value → Shared → Prop} {p : Addr} {ks : List Int} (hh : A.handled = none) (hS : ISet prog w s.heap p ks) (hk : ks.length ≤ 1000)
    (h : ∀ h' d tk its, (∀ b o, s.heap.get? b = some o → h'.get? b = some o) → Met ks its → R its { s with heap := h', drawn := d, toks := tk }) : wpAny (model prog w) A (collect (.ref p)) R E s := by
  have lt := hS.lt
  unfold collect
  refine wpAny_bind (wpAny_runValue (codeAny_builtin F.entry_proto_collect ?_))
  rw [Around.under_plainId F.plain_proto_collect _]
  show wpAny _ A.in1 (newList [] >>= fun l0 => again (.builtin "list.__iadd__" ⟨[l0, .ref p], []⟩)) _ _ s
  refine wpAny_bind (wpAny_newObj_type (wpAny_pure ⟨plainId_quiet F.plain_list_iadd _, codeAny_builtin F.entry_list_iadd ?_⟩))
  rw [Around.under_plainId F.plain_list_iadd _]
  have g0 : (s.heap.push { cls := .type "list", data := .seq ([] : List Value).toArray }).get? s.heap.objs.size = some { cls := .type "list", data := .seq #[] } := Heap.get?_push_size _ rfl
  have key := extend_iset (A := A) (s := { s with heap := s.heap.push { cls := .type "list", data := .seq ([] : List Value).toArray } }) (res := .ref s.heap.objs.size)
    (R := fun (q : Result) (s' : Shared) => ∃ (h' : Heap) (d : Drawn) (tk : Nat) (acc : Array Value) (c : Nat), q = .ok (.ret (.ref s.heap.objs.size)) ∧ s' = { s with heap := h', drawn := d, toks := tk } ∧ (∀ b o, s.heap.get? b = some o → h'.get? b = some o) ∧
      h'.get? s.heap.objs.size = some { cls := .type "list", dict := none, data := .seq acc c, slots := #[] } ∧ Met ks acc.toList) hh (hS.keep fun o e => Heap.get?_push_of_some _ e) hk (Nat.ne_of_gt lt) g0
    (fun h' d tk acc c k g m => ⟨h', d, tk, acc, c, rfl, rfl, fun b o e => k b o (Nat.ne_of_lt (Heap.lt_size e)) (Heap.get?_push_of_some _ e), g, m⟩)
  show wpAny _ A.in1 (Builtin.List.listExtendWith (.ref s.heap.objs.size) (.ref p) (.ref s.heap.objs.size)) _ _ _
  refine wpAny_mono key (fun fi s' x => ?_) fun e s' x => ?_
  · cases fi with
    | done f =>
      obtain ⟨h', d, tk, acc, c, e, rfl, k, g, m⟩ := x
      cases e
      exact wpAny_bind (m := load s.heap.objs.size) (wpAny_load g (wpAny_pure (h h' d tk _ k m)))
    | again c1 =>
      refine ⟨x.1, codeAny_mono x.2 fun q s2 y => ?_⟩
      obtain ⟨h', d, tk, acc, c, rfl, rfl, k, g, m⟩ := y
      exact wpAny_bind (m := load s.heap.objs.size) (wpAny_load g (wpAny_pure (h h' d tk _ k m)))
  · obtain ⟨_, _, _, _, _, e', _⟩ := x
    cases e'
end
end L2

set_option Elab.async false
set_option linter.all false
set_option maxRecDepth 100000
set_option maxHeartbeats 4000000
namespace L2
open PySem PySem.Spec PyProof.Rows
section
variable {prog : Program} {w : World} {A : Around} {E : Value → Shared → Prop} {s : Shared}
theorem IntsAre.len {vs : List Value} {ns : List Int} (h : IntsAre vs ns) : vs.length = ns.length := by
  induction h with
  | nil => rfl
  | cons n t _ ih => rw [List.length_cons, List.length_cons, ih]
theorem lt_of_le_nodup {zs : List Int} (h : zs.Pairwise (· ≤ ·)) (n : zs.Nodup) : zs.Pairwise (· < ·) :=
  (List.Pairwise.and h n).imp fun ⟨a, b⟩ => by omega
theorem sorted_iset {p : Addr} {ks : List Int} {Q : Value → Shared → Prop} (hh : A.handled = none) (hS : ISet prog w s.heap p ks) (hk : ks.length < 64)
    (h : ∀ (D : Addr) (h' : Heap) (d : Drawn) (tk : Nat) (out : Array Value) (e : Nat) (zs : List Int), (∀ b o, s.heap.get? b = some o → h'.get? b = some o) → s.heap.get? D = none → h'.get? D = some (seqObj "list" out e) → IntsAre out.toList zs → zs.Pairwise (· < ·) →
      (∀ k, k ∈ zs ↔ k ∈ ks) → zs.length ≤ ks.length → Q (.ref D) { s with heap := h', drawn := d, toks := tk }) : wpAny (model prog w) A (call (.builtin "sorted") [.ref p]) Q E s := by
  refine Calls.call_function_entry kind_sorted plain_sorted entry_sorted (args_sorted1 _) ?_
  unfold Builtin.«sorted»
  refine wpAny_bind (m := checkCount "sorted" 1 1 _) (wpAny_pure (wpAny_bind (collect_iset (A := A.in1) hh hS (by omega) fun h1 d tk its keep mt => ?_)))
  obtain ⟨ns, i1, i2, i3, i4⟩ := mt
  have hz : its.length ≤ sizeLine := Nat.le_trans (Nat.le_trans i4 (Nat.le_of_lt hk)) (by decide)
  refine wpAny_bind (wpAny_newList ?_ hz)
  have g : (h1.push (seqObj "list" its.toArray 0)).get? h1.objs.size = some (seqObj "list" its.toArray 0) := Heap.get?_push_size _ rfl
  have no : s.heap.get? h1.objs.size = none := by
    cases c : s.heap.get? h1.objs.size with
    | none => rfl
    | some o => exact absurd (Heap.lt_size (keep _ _ c)) (Nat.lt_irrefl _)
  refine wpAny_bind (wpAny_holding (wpAny_call_entry (s := { s with heap := h1.push (seqObj "list" its.toArray 0), drawn := d, toks := tk }) slot_list_sort ⟨_, g, rfl⟩ entry_list_sort (list_sort_tree g i1 (by omega) fun out ns' a1 a2 a3 => ⟨_, rfl, ?_⟩) (args_list_sort _)))
  obtain ⟨e, ge⟩ := sortedHeap_at (out := out) g
  have nz : ns'.Nodup := a2.nodup_iff.mpr i2
  refine wpAny_pure ⟨_, rfl, h h1.objs.size _ d tk out e ns' (fun b o q => ?_) no ge a1 (lt_of_le_nodup a3 nz) (fun k => (a2.mem_iff).trans (i3 k)) (by have := a2.length_eq; have := IntsAre.len i1; omega)⟩
  have lb := Heap.lt_size (keep b o q)
  exact (sortedHeap_old (Nat.ne_of_lt lb) (by rw [Heap.size_push]; exact Nat.lt_succ_of_lt lb)).trans (Heap.get?_push_of_some _ (keep b o q))
def freshS (w : World) : Obj := { cls := .type "set", dict := none, data := .set #[] 0 (.fresh 0 0 (!w.params.followText "set-order")) }
theorem iset_fresh {h : Heap} {a : Addr} (g : h.get? a = some (freshS w)) : ISet prog w h a [] :=
  ⟨_, #[], 0, _, g, ⟨rfl, rfl, rfl⟩, rfl, (fun e he => by cases he), rfl, ⟨rfl, fun _ => List.Pairwise.nil⟩, (fun z => by show (!w.params.followText "set-order") = true; rw [z]; rfl), List.Pairwise.nil, (fun k => by simp), Nat.zero_le _⟩
theorem set_new1 (x : Value) {Q : Value → Shared → Prop} (h : Q (.ref s.heap.objs.size) { s with heap := s.heap.push (freshS w) }) :
    codeAny (model prog w) A (.call (.builtin "set.__new__") ⟨[.type "set", x], []⟩) (wants Q E) s := by
  refine codeAny_of_tree (show wpAny _ A.in1 (do checkBuiltinCall "set.__new__" ⟨[.type "set", x], []⟩; again (.builtin "set.__new__" ⟨[.type "set", x], []⟩)) _ _ s from ?_)
  refine wpAny_bind (wpAny_of_eq (PySem.F.newCall_set_1 x) (wpAny_pure ⟨plainId_quiet PySem.F.plain_set_new _, codeAny_builtin PySem.F.entry_set_new ?_⟩))
  rw [Around.under_plainId PySem.F.plain_set_new _]; unfold Builtin.«set.__new__» Builtin.Frozenset.newClass
  have sb := sub_set_self
  obtain ⟨hp, g, d, tk, os⟩ := s
  dsimp only; wp_walk
  refine wpAny_askSetting (wpAny_pure ?_); dsimp only; simp only [newObj]
  exact wpAny_bind (wpAny_alloc (wpAny_pure (wpAny_pure h)))
theorem call_iset {l : Addr} {items : Array Value} {ns : List Int} {Q : Value → Shared → Prop} (hh : A.handled = none) (hl : s.heap.IsList l items) (hi : IntsAre items.toList ns) (hb : items.size + 1 < scanBound)
    (h : ∀ (h' : Heap) (tk : Nat), ISet prog w h' s.heap.objs.size ((List.range items.size).map fun i => ns.getD i 0) → (∀ b o, s.heap.get? b = some o → h'.get? b = some o) → Q (.ref s.heap.objs.size) { s with heap := h', toks := tk }) :
    wpAny (model prog w) A (call (.type "set") [.ref l]) Q E s := by
  obtain ⟨c, tl, mr⟩ := PySem.F.called_set.mro
  have md := PySem.F.called_set.made
  have sb := PySem.F.called_set.sub
  refine wpAny_call (codeAny_of_tree (show wpAny _ _ (callAny (.type "set") _) _ _ _ from wpAny_pure ⟨Code.quiet_builtin _ (by decide +kernel), codeAny_builtin PySem.F.entry_type_call ?_⟩))
  rw [Around.under_plain (weight_type_call_type "set" [.ref l] []) rfl]
  have k1 := PySem.F.called_set.notType
  have k2 := PySem.F.called_set.canCreate
  have k3 := PySem.F.typeCall_set_1 (.ref l)
  repeat (any_goals (first | assumption | wp_step))
  refine codeAny_mono (set_new1 (.ref l) (E := E) (Q := fun ob s1 => ob = .ref s.heap.objs.size ∧ s1 = { s with heap := s.heap.push (freshS w) }) ⟨rfl, rfl⟩) fun r s1 hr => ?_
  cases r with
  | error e => exact hr
  | ok fl =>
    cases fl with
    | ret ob =>
      obtain ⟨rfl, rfl⟩ := hr
      have g0 : (s.heap.push (freshS w)).get? s.heap.objs.size = some (freshS w) := Heap.get?_push_size _ rfl
      have hT : Shared.TypeIs { s with heap := s.heap.push (freshS w) } (.ref s.heap.objs.size) "set" := ⟨_, g0, rfl⟩
      have u1 := PySem.F.called_set.init.lookup
      have u2 := PySem.F.called_set.init.bind (.ref s.heap.objs.size)
      repeat (any_goals (first | assumption | wp_step))
      refine codeAny_mono (codeAny_call_builtin (R := wants (fun r s2 => r = .none ∧ ∃ h' tk, s2 = { s with heap := h', toks := tk } ∧ ISet prog w h' s.heap.objs.size ((List.range items.size).map fun i => ns.getD i 0) ∧ (∀ b o, s.heap.get? b = some o → h'.get? b = some o)) E)
        PySem.F.called_set.init.plain PySem.F.entry_set_init (check_set_init_1 hT ?_)) fun r2 s2 hr2 => ?_
      · obtain ⟨ol, hol, hcl, nl, hdl⟩ := id hl
        obtain ⟨oc, od, oda, os⟩ := ol
        simp only at hcl hdl
        subst hcl; subst hdl
        have v1 : (s.heap.push (freshS w)).get? l = some { cls := .type "list", dict := od, data := .seq items nl, slots := os } := Heap.get?_push_of_some _ hol
        have v2 := PySem.F.sub_list_set
        have v3 := PySem.F.sub_list_frozenset
        have v4 : (Value.type "list" == Value.type "dict") = false := by decide
        have hl1 : (s.heap.push (freshS w)).IsList l items := ⟨_, v1, rfl, nl, rfl⟩
        have fd : (freshS w).data = .set #[] 0 (.fresh 0 0 (!w.params.followText "set-order")) := rfl
        unfold Builtin.«set.__init__» noKeywords Builtin.Frozenset.updateFrom
        generalize hPI : pyIter = PI
        wp_walk
        subst hPI
        refine wpAny_pyIter_list hl1 (wpAny_bind (wpAny_runValue ?_))
        have lS : l < s.heap.objs.size := Heap.lt_size hol
        have h3 : A.in1.in1.in1.handled = none := by simp [hh]
        have nI : l ≠ (s.heap.push (freshS w)).objs.size := by rw [Heap.size_push]; exact Nat.ne_of_lt (Nat.lt_succ_of_lt lS)
        have nS : s.heap.objs.size ∉ [(s.heap.push (freshS w)).objs.size, l] := by
          rw [Heap.size_push]; intro z
          simp only [List.mem_cons, List.not_mem_nil, or_false] at z
          rcases z with z | z
          · exact absurd z (Nat.ne_of_lt (Nat.lt_succ_self _))
          · exact absurd z (Nat.ne_of_gt lS)
        refine iset_loop ((Walks.list h3 _ l nI items).toS) s.heap.objs.size nS (fun i => ns.getD i 0) (fun i v hv => IntsAre.int_at hi i v (by rw [Array.getElem?_toList]; exact hv)) hb (items.size - 0) 0 _ (by omega) (Nat.zero_le _)
          ⟨⟨_, Heap.get?_push_size _ rfl, rfl, rfl⟩, (hl1.push _)⟩ (iset_fresh (Heap.get?_push_of_some _ g0)) fun s' hm hS' => ?_
        obtain ⟨h', g', d', tk', os'⟩ := s'
        have eg : g' = s.gens := hm.gens
        have ed : d' = s.drawn := hm.drawn
        have eo : os' = s.os := hm.os
        subst eg ed eo
        refine wpAny_pure (wpAny_pure ⟨rfl, h', tk', rfl, hS', fun b o e => ?_⟩)
        have lb := Heap.lt_size e
        refine hm.heap b o (fun z => ?_) (Heap.get?_push_of_some _ (Heap.get?_push_of_some _ e))
        simp only [List.mem_cons, List.not_mem_nil, or_false] at z
        rcases z with z | z
        · exact absurd z (Nat.ne_of_lt lb)
        · rw [Heap.size_push] at z
          exact absurd z (Nat.ne_of_lt (Nat.lt_succ_of_lt lb))
      · cases r2 with
        | error e => exact hr2
        | ok f2 =>
          cases f2 with
          | ret r =>
            obtain ⟨rfl, h', tk, rfl, hS', hk'⟩ := hr2
            repeat (any_goals (first | assumption | wp_step))
            exact h _ _ hS' hk'
          | _ => exact hr2.elim
    | _ => exact hr.elim
end
end L2

set_option Elab.async false
set_option linter.all false
set_option maxRecDepth 100000
set_option maxHeartbeats 4000000
namespace L2
open PySem PySem.Spec PyProof.Rows
theorem Inv.drawnTo {X : Cx} {pins : List (Addr × Obj)} {σ : St} {H : Hp} {s : Shared} (I : Inv X pins σ H s) (d : Drawn) : Inv X pins σ H { s with drawn := d } := ⟨I.ok, I.os, I.bare, I.base, I.loc, I.cell, I.free, I.freeC, I.pin, I.hok, I.len⟩
def setO (P : Program) (w : World) (a : Addr) (ks : List Int) : HO := .ext fun h => ISet P w h a ks
theorem setO_ok {P : Program} {w : World} {H : Hp} {h : Heap} {a : Addr} {ks : List Int} (x : ISet P w h a ks) : ObjOk P w H h a (setO P w a ks) :=
  ⟨x, let ⟨o, _, _, _, ho, _⟩ := id x; ⟨o, ho⟩, fun h1 h2 y k => ISet.keep (h := h1) y k⟩
theorem ints_vals : ∀ {ns : List Int} {us : List Value}, Vals (ns.map V.int) us → IntsAre us ns
  | [], _, .nil => .nil
  | n :: r, _, .cons (b := u) h t => by
    obtain ⟨tk, rfl⟩ := h
    exact .cons n tk (ints_vals t)
theorem vals_of_ints : ∀ {ns : List Int} {us : List Value}, IntsAre us ns → Vals (ns.map V.int) us
  | _, _, .nil => .nil
  | _, _, .cons n t h => .cons ⟨t, rfl⟩ (vals_of_ints h)
theorem call_setI {X : Cx} (hc : X.calm = true) : CallR X (.type "set") (fun xs H Q => ∃ (p : Addr) (ns : List Int), xs = [.ref p] ∧ SqL X.K H p (ns.map V.int) ∧ ns.length ≤ 1000 ∧ ∀ l, H l = none → Q (.ref l) (upd H l (setO X.prog X.w l ns))) := by
  intro pins s σ H xs us Q I r h
  obtain ⟨p, ns, rfl, hq, hl, q⟩ := h
  obtain ⟨u, rfl, rx⟩ := vals1 r
  cases rx
  obtain ⟨its, r', pl, hz⟩ := I.list hq
  have ia : IntsAre its ns := ints_vals r'
  have ln : its.length = ns.length := IntsAre.len ia
  refine call_iset (I.ok.hd hc) pl.isList (by simpa using ia) (by rw [List.size_toArray, ln]; show _ < 4096; omega) fun h' tk hS keep => ?_
  have e : (List.range its.toArray.size).map (fun i => ns.getD i 0) = ns := by
    rw [List.size_toArray, ln]
    refine List.ext_getElem (by simp) fun i h1 h2 => ?_
    simp [List.getD_eq_getElem?_getD, h2]
  rw [e] at hS
  exact ⟨.ref _, _, I.laid (t' := tk) keep (Nat.le_refl _) (setO_ok hS), rfl, q _ (I.hok.fresh (Nat.le_refl _))⟩
theorem call_sortedI {X : Cx} (hc : X.calm = true) : CallR X (.builtin "sorted") (fun xs H Q => ∃ (p : Addr) (ks : List Int), xs = [.ref p] ∧ H p = some (setO X.prog X.w p ks) ∧ ks.length < 64 ∧
    ∀ (l : Addr) (zs : List Int), H l = none → zs.Pairwise (· < ·) → (∀ k, k ∈ zs ↔ k ∈ ks) → zs.length ≤ ks.length → Q (.ref l) (upd H l (.lst (zs.map V.int)))) := by
  intro pins s σ H xs us Q I r h
  obtain ⟨p, ks, rfl, hp, hl, q⟩ := h
  obtain ⟨u, rfl, rx⟩ := vals1 r
  cases rx
  have hS : ISet X.prog X.w s.heap p ks := (I.hok p _ hp).1
  refine sorted_iset (I.ok.hd hc) hS hl fun D h' d tk out e zs keep no g ia pw mem le => ?_
  have hz : (zs.map V.int).length ≤ sizeLine := by
    rw [List.length_map]
    exact Nat.le_trans (Nat.le_trans le (Nat.le_of_lt hl)) (by decide)
  have new : ObjOk X.prog X.w (upd H D (.lst (zs.map V.int))) h' D (.lst (zs.map V.int)) := ⟨hz, out.toList, e, vals_of_ints ia, by rw [Array.toArray_toList]; exact g⟩
  exact ⟨.ref D, _, (I.laidN (t' := tk) keep no new).drawnTo d, rfl, q D zs (I.hasNo no) pw mem le⟩
end L2

set_option Elab.async false
set_option linter.all false
set_option maxRecDepth 100000
set_option maxHeartbeats 4000000
namespace L2
open PySem PySem.Spec PyProof.Rows
theorem ps_setc {X : Cx} {i0 : Nat} {x0 : Str} {pos' spos : Pos} {elt tg iter : Expr} {ifs : List Expr} {scope : Scope} {cl : List (Str × Addr)} {pos : Pos} {N : List Str} {fr : List (Option Nat)} {wi : TI} {g : TG} {tt : TT} {te : TE}
    (hN0 : X.N.Nodup) (hi0 : X.N[i0]? = some x0) (hx0 : Loc X.env.scope x0) (hc : X.calm = true) (hi : PI X tg iter wi) (hclos : closureFor scope X.env = pure cl) (hcell : ∀ y ∈ scope.names, y.2 ≠ .cell) (hkind : scope.kind = .function)
    (hnames : ∀ y ∈ scope.names, y.2 = .local → scope.names.lookup y.1 = some .local) (hfr : FreeOk X scope cl N fr) (hcl : ClOk X cl)
    (hhas : ((relabel scope X.env).names.all fun p => !(p.2 == .cell || p.2 == .free) || (cl.lookup p.1).isSome) = true)
    (hg : ∀ C s0 H0 ex pins, PG (compCx X N scope cl C s0 H0 ex pins) tg g) (ht : ∀ C s0 H0 ex pins, PTs (compCx X N scope cl C s0 H0 ex pins) ifs tt) (he : ∀ C s0 H0 ex pins, PE (compCx X N scope cl C s0 H0 ex pins) elt te)
    (hsw : swapsWith (.ListComp elt [⟨tg, iter, ifs, 0⟩] scope pos) (some (.Name x0 pos')) spos.line X.env = pure true := by rfl) (hf0 : X.fn x0 = true ∨ X.env.scope.names.lookup x0 = some .local := by first | exact .inl rfl | exact .inr rfl)
    (hs : ∀ v, foldedSetIterable iter X.env v = pure v := by intro _; rfl) : PS X (.Assign [.Name x0 pos'] (.ListComp elt [⟨tg, iter, ifs, 0⟩] scope pos) spos) (tAsg (tComp fr wi g tt te) (gName i0)) := by
  intro pins s σ H D0 I h
  rw [exec_Assign_Name_used _ _ _ _ hsw]
  refine wpAny_bind (wpAny_standAt (wpAny_bind ?_))
  show wpAny _ _ (do let _ ← comprehension (.ListComp elt [⟨tg, iter, ifs, 0⟩] scope pos) scope X.env _ (newList []) false (eval iter X.env) (some (assign (.Name x0 pos') X.env))) _ _ s
  refine wpAny_bind (thn (wpAny_comprehension_free (use := some (assign (.Name x0 pos') X.env)) (Q := fun _ s' => SP X pins D0 .next s') rfl hs hclos hkind hnames (thn (hi pins s σ H _ I h) fun xv s1 h1 => thn h1 fun itv s2 h2 => ?_)) fun _ s' hq => wpAny_pure (wpAny_pure hq))
  obtain ⟨it, fp, tn, J, H2, e, I2, T, st2, f2, W, ⟨m0, w0⟩, turn⟩ := h2
  subst e
  refine wpAny_newObj_type (wpAny_newFunctionEnv hcell (fun y hy => nomatch hy) (fun h4 hns hsb => ?_) hkind)
  dsimp only at hns hsb ⊢
  generalize hD : s2.heap.objs.size = D at *
  generalize hG : s2.heap.push { cls := .type "list", dict := none, data := .seq ([] : List Value).toArray } = G at hns hsb ⊢
  have hC : G.objs.size = D + 1 := by rw [← hG, Heap.size_push, hD]
  generalize hCC : G.objs.size = C at hns hsb hC ⊢
  subst hC
  have old : ∀ b o, s2.heap.get? b = some o → h4.get? b = some o := fun b o e => by
    have lt := Heap.lt_size e
    rw [hD] at lt
    exact hsb.extBut b o (Nat.ne_of_lt (Nat.lt_succ_of_lt lt)) (Heap.get?_push_of_some _ (hG ▸ Heap.get?_push_of_some _ e))
  have hDl : h4.get? D = some { cls := .type "list", dict := none, data := .seq ([] : List Value).toArray 0 } :=
    hsb.extBut _ _ (Nat.ne_of_lt (Nat.lt_succ_self _)) (Heap.get?_push_of_some _ (hG ▸ hD ▸ Heap.get?_push_size _ rfl))
  have flt : ∀ b ∈ fp, b < D := fun b hb => by
    obtain ⟨o, e, _⟩ := T.obj 0 _ st2 b hb
    have lt := Heap.lt_size e
    rw [hD] at lt
    exact lt
  have nst : ∀ b, b ≠ X.env.locals → b ∉ X.fs → b ∉ frs X.stack := fun b h1 h2 z => (List.mem_cons.mp (I2.stkSub b z)).elim h1 h2
  have pl : ∀ p ∈ X.pn ++ pins, p.1 < D := fun p hp => by
    have lt := Heap.lt_size (I2.pin p hp).1
    rw [hD] at lt
    exact lt
  have I4 : ∀ tk, Inv (compCx X N scope cl (D + 1) s2 H2 fp pins) [] (compSt fr σ) H2 { s2 with heap := h4, toks := tk } := fun tk =>
    I2.block hkind hfr hcl hhas f2 (fun b hb => by rw [hD]; exact flt b hb) old (by rw [hD]; exact Nat.le_succ _) hns
  have stat : ∀ {H' : Hp} {o : Obj}, (∀ b ∈ fp, H' b = none) → ∀ b ∈ fp, FpOk (compCx X N scope cl (D + 1) s2 H2 fp pins) [(D, o)] H' b := fun {H' o} hn b hb => by
    obtain ⟨_, k1, k2, _, k4, k5⟩ := f2 b hb
    refine ⟨hn b hb, Nat.ne_of_lt (Nat.lt_succ_of_lt (flt b hb)), nst b k1 k2, .inl hb, fun x c e => k4 x c (hcl.at e), fun p hp => ?_⟩
    rcases List.mem_append.mp hp with hp | hp
    · exact k5 p hp
    · rw [List.mem_singleton.mp hp]
      exact (Nat.ne_of_lt (flt b hb)).symm
  have dnf : D ∉ frs X.stack := fun z => by
    obtain ⟨_, o, e, _⟩ := I2.stack.mem z
    have lt := Heap.lt_size e
    rw [hD] at lt
    exact absurd lt (Nat.lt_irrefl _)
  have loop : ∀ tk, codeAny (model X.prog X.w) X.A (.compLoop (.ListComp elt [⟨tg, iter, ifs, 0⟩] scope pos) 0 (.ref it) (.ref D) (compEnvC scope cl (D + 1) X.env)) (compPost (model X.prog X.w) X.A X.xe (some (assign (.Name x0 pos') X.env)) (fun _ s' => SP X pins D0 .next s') (.ref D) (D + 1)) { s2 with heap := h4, toks := tk } := fun tk => by
    refine comp_turns (fun k s' => ∃ i σ' H' its nD acc, Inv (compCx X N scope cl (D + 1) s2 H2 fp pins) [] σ' H' s' ∧
        s'.heap.get? D = some { cls := .type "list", dict := none, data := .seq (List.toArray its) nD } ∧ H' D = none ∧ Vals acc its ∧ acc.length ≤ sizeLine ∧ tn i s'.heap ∧ (∀ b ∈ fp, H' b = none) ∧ W i k acc σ' H') ?_ m0
      ⟨0, _, H2, [], 0, [], I4 tk, hDl, I2.hok.fresh (by rw [hD]; exact Nat.le_refl _), .nil, Nat.zero_le _, T.keep 0 _ _ st2 fun b _ o e => old b o e, fun b hb => (f2 b hb).1, w0⟩
    rintro k s5 ⟨i, σ5, H5, its, nD, acc, I5, hL, hn5, va, hacc, st5, fr5, w5⟩
    have dcell : ∀ x c, cl.lookup x = some c → c ≠ D := fun x c e z => by
      obtain ⟨v, q⟩ := I2.cell x c (hcl.at e)
      have lt := q.lt
      rw [hD, z] at lt
      exact absurd lt (Nat.lt_irrefl _)
    have I5' : Inv (compCx X N scope cl (D + 1) s2 H2 fp pins) [(D, { cls := .type "list", dict := none, data := .seq (List.toArray its) nD })] σ5 H5 s5 := I5.pins_of fun p hp => by
      rw [List.mem_singleton.mp hp]
      exact ⟨hL, hn5, Nat.ne_of_lt (Nat.lt_succ_self _), dnf, fun v z => by cases z⟩
    rcases turn i k acc σ5 H5 w5 with ⟨stop, qn⟩ | ⟨go, hlt, N1, hN1, step⟩
    · refine thnF (T.done (compCx X N scope cl (D + 1) s2 H2 fp pins) rfl rfl rfl hc i _ s5 _ H5 _ I5' (stat fr5) st5 stop) fun r s6 ⟨hr, I6⟩ => ?_
      subst hr
      obtain ⟨m6, hn6, _⟩ := I6.loc
      have hL6 := (I6.pin (D, { cls := .type "list", dict := none, data := .seq (List.toArray its) nD }) (List.mem_append_right _ (List.mem_singleton.mpr rfl))).1
      have I8 : Inv X pins σ H5 s6 := I2.call' (s' := s6) I6.os I6.base I6.hok I6.bare fun b hb => let ⟨_, k1, _, k3, k4, k5⟩ := f2 b hb; ⟨k3, k1, k4, k5⟩
      have I9 : Inv X pins σ (upd H5 D (.lst acc)) s6 := I8.trackS hn5 hL6 rfl (by
          cases z : X.s₀.heap.get? D with
          | none => rfl
          | some o =>
            have lt := Nat.lt_of_lt_of_le (Heap.lt_size z) I2.sz
            rw [hD] at lt
            exact absurd lt (Nat.lt_irrefl _)) (fun p hp => Nat.ne_of_lt (pl p hp)) ⟨hacc, its, nD, va, hL6⟩
      have ltL : X.env.locals < D + 1 := by
        have := I2.lt
        rw [hD] at this
        exact Nat.lt_succ_of_lt this
      have ltC : ∀ x c, X.env.cells.lookup x = some c → c < D + 1 := fun x c e => by
        obtain ⟨v, q⟩ := I2.cell x c e
        have lt := q.lt
        rw [hD] at lt
        exact Nat.lt_succ_of_lt lt
      refine wpAny_assign_Name (store_ok2 (v := .ref D) I9 hN0 hi0 hx0 rfl (fun s7 I10 hz => ?_) hf0)
      obtain ⟨aa, sb, ha⟩ := hz
      have nC : D + 1 ≠ aa := by
        rcases ha with rfl | ha
        · exact Nat.ne_of_gt ltL
        · exact Nat.ne_of_gt (ltC _ _ ha)
      refine ⟨m6, hn6.sameBut sb nC, fun h8 hs8 => ⟨_, _, I10.turned (h' := h8) (t' := s7.toks) (fun b o hb e => hs8.extBut b o hb e) ?_ (Nat.ne_of_gt ltL) (.inr ?_) (fun x c e => Nat.ne_of_lt (ltC x c e)) (fun p hp => Nat.ne_of_lt (Nat.lt_succ_of_lt (pl p hp))), qn D hn5⟩⟩
      · rw [upd_ne (Nat.ne_of_gt (Nat.lt_succ_self D))]
        exact I6.free
      · have := I2.sz
        rw [hD] at this
        exact Nat.le_succ_of_le this
    · refine thnF (T.item (compCx X N scope cl (D + 1) s2 H2 fp pins) rfl rfl rfl hc i _ s5 _ H5 _ I5' (stat fr5) st5 go) fun r s6 ⟨u, hr, h6⟩ => ?_
      subst hr
      refine thnF h6 fun _ s7 ⟨x, H7, I7, r7, y7, st7, fr7⟩ => ?_
      have I7' : Inv (compCx X N scope cl (D + 1) s2 H2 fp pins) ([(D, { cls := .type "list", dict := none, data := .seq (List.toArray its) nD })] ++ pinsAt fp s7.heap) σ5 H7 s7 := I7.pinned (stat fr7) (T.obj _ _ st7)
      refine thnF (hg _ _ _ _ _ _ s7 _ H7 x u _ I7' r7 (step x H7 y7)) fun _ s8 ⟨σ8, H8, I8, q8⟩ => ?_
      refine thnF (ht _ _ _ _ _ _ s8 σ8 H8 _ I8 q8) fun ok s9 ⟨H9, I9, q9⟩ => ?_
      have wk : ∀ {σ' : St} {H' : Hp} {s' : Shared}, Inv (compCx X N scope cl (D + 1) s2 H2 fp pins) ([(D, { cls := .type "list", dict := none, data := .seq (List.toArray its) nD })] ++ pinsAt fp s7.heap) σ' H' s' →
          tn (i + 1) s'.heap ∧ (∀ b ∈ fp, H' b = none) ∧ s'.heap.get? D = some { cls := .type "list", dict := none, data := .seq (List.toArray its) nD } ∧ H' D = none := fun {σ' H' s'} J' => by
        have pin : ∀ p ∈ ([(D, { cls := .type "list", dict := none, data := .seq (List.toArray its) nD })] : List (Addr × Obj)) ++ pinsAt fp s7.heap, s'.heap.get? p.1 = some p.2 ∧ H' p.1 = none := fun p hp => let ⟨e, n, _⟩ := J'.pin p (List.mem_append_right _ hp); ⟨e, n⟩
        refine ⟨T.keep _ _ _ st7 fun b hb o e => (pin (b, o) (List.mem_append_right _ (mem_pinsAt hb e))).1, fun b hb => ?_, (pin (D, _) (List.mem_append_left _ (List.mem_singleton.mpr rfl))).1, (pin (D, _) (List.mem_append_left _ (List.mem_singleton.mpr rfl))).2⟩
        obtain ⟨o, e, _⟩ := T.obj _ _ st7 b hb
        exact (pin (b, o) (List.mem_append_right _ (mem_pinsAt hb e))).2
      cases ok with
      | false =>
        obtain ⟨m', hm, w9⟩ := hN1 _ _ _ q9
        obtain ⟨k1, k2, k3, k4⟩ := wk I9
        exact ⟨m', hm, i + 1, σ8, H9, its, nD, acc, I9.pins_of (fun _ z => nomatch z), k3, k4, va, hacc, k1, k2, w9⟩
      | true =>
        refine thnF (he _ _ _ _ _ _ s9 σ8 H9 _ I9 q9) fun y s10 ⟨v, H10, I10, r10, q10⟩ => ?_
        obtain ⟨m', hm, w10⟩ := hN1 _ _ _ q10
        obtain ⟨k1, k2, k3, k4⟩ := wk I10
        refine call_meets F.slot_list_append ⟨_, k3, rfl⟩ F.entry_list_append (F.args_list_append_2 _ _) (PySem.list_append D its.toArray nD y (by rw [List.size_toArray, ← va.length]; omega)) ⟨k3, ?_⟩
        have up : ∀ b o, b ≠ D → s10.heap.get? b = some o → (s10.heap.update D (Obj.mapSeq fun z => z.push y)).get? b = some o := fun b o hb e => (Heap.get?_update_other s10.heap _ (Ne.symm hb)).trans e
        have I11 : Inv (compCx X N scope cl (D + 1) s2 H2 fp pins) [] σ8 H10 { s10 with heap := s10.heap.update D (Obj.mapSeq fun z => z.push y), toks := s10.toks } :=
          (I10.pins_of (pins' := []) fun _ z => nomatch z).turned up k4 (Nat.ne_of_lt (Nat.lt_succ_self _)) (.inr (by rw [hD]; exact Nat.le_refl _)) dcell fun p hp => by
            have hp' : p ∈ X.pn ++ pins := by simpa using hp
            exact Nat.ne_of_lt (pl p hp')
        have q := PySem.IsL.update k3 (fun z => z.push y)
        rw [show (List.toArray its).push y = (its ++ [y]).toArray by simp] at q
        refine ⟨m', hm, i + 1, σ8, H10, its ++ [y], _, acc ++ [v], I11, q, k4, va.append (.cons r10 .nil), ?_, T.keep _ _ _ k1 fun b hb o e => up b o (Nat.ne_of_lt (flt b hb)) e, k2, w10⟩
        rw [List.length_append, List.length_singleton]
        omega
  exact codeAny_compStart_list (loop _) (T.self _ 0 _ _ _ (T.keep 0 _ _ st2 fun b _ o e => old b o e) (loop _))
end L2

set_option Elab.async false
set_option linter.all false
set_option maxRecDepth 100000
set_option maxHeartbeats 4000000
namespace K1
open PySem L2
structure Rsg (l : List Nat) (lo hi : Nat) : Prop where
  one : 1 ≤ l.length
  few : l.length ≤ 12
  up : l.Pairwise (· < ·)
  all : ∀ x ∈ l, lo ≤ x ∧ x ≤ hi
structure OwnC (K : PySem.W.Frag) (C : Addr) : Prop where
  ha : PySem.W.findIn K (.ref C) "__class__" = some (some (.builtin "object.__class__"))
  hn : PySem.W.specialIn K (.builtin "object.__class__") "__get__" = some (some (.builtin "getset_descriptor.__get__"))
  tk : PySem.W.takesIn K (.builtin "object.__class__") = some true
  hm : PySem.W.mroIn K C (.type "object") = some true
theorem OwnC.ty {K : PySem.W.Frag} {C : Addr} (o : OwnC K C) (c : Cls K C) {H : Hp} {a dx : Addr} {fs : List (Str × V)} (e : H a = some (.ins C dx fs)) : TyOf K H (.ref a) (.ref C) := .ins e c o.ha o.hn o.tk o.hm
theorem num_ok {b : Nat} {lo hi : Int} (h1 : lo ≤ b) (h2 : (b : Int) ≤ hi) : numV (.int (b : Nat)) lo hi = true := decide_eq_true ⟨h1, h2⟩
inductive TAtr (tp : Addr) (H : Hp) : V → RT → Prop
  | always {a : Addr} (h : H a = some (.tup [.str (Str.ofString "always")])) : TAtr tp H (.ref a) .always
  | week {a : Addr} {b : Nat} (h : H a = some (.tup [.str (Str.ofString "week"), .int (b : Nat)])) : TAtr tp H (.ref a) (.week b)
  | span {a : Addr} {x y : Nat} {v : V} {r : RT} (h : H a = some (.tup [.str (Str.ofString "span"), .int (x : Nat), .int (y : Nat), v])) (hv : TAtr tp H v r) : TAtr tp H (.ref a) (.span x y r)
  | each {a l : Addr} {n : Nat} {ss : List Nat} (h : H a = some (.tup [.str (Str.ofString "each"), .int (n : Nat), .ref l])) (hl : H l = some (.lst (natV ss))) (ne : l ≠ tp) : TAtr tp H (.ref a) (.each n ss)
  | either {a : Addr} {v u : V} {r s : RT} (h : H a = some (.tup [.str (Str.ofString "either"), v, u])) (hv : TAtr tp H v r) (hu : TAtr tp H u s) : TAtr tp H (.ref a) (.either r s)
  | both {a : Addr} {v u : V} {r s : RT} (h : H a = some (.tup [.str (Str.ofString "both"), v, u])) (hv : TAtr tp H v r) (hu : TAtr tp H u s) : TAtr tp H (.ref a) (.both r s)
  | but {a l : Addr} {ds : List Nat} {v : V} {r : RT} (h : H a = some (.tup [.str (Str.ofString "but"), .ref l, v])) (hl : H l = some (.lst (natV ds))) (ne : l ≠ tp) (hv : TAtr tp H v r) : TAtr tp H (.ref a) (.but ds r)
theorem TAtr.keep {tp : Addr} {H H' : Hp} (k : ∀ b o, b ≠ tp → H b = some o → H' b = some o) (nt : ∀ xs, H tp ≠ some (.tup xs)) {v : V} {r : RT} (h : TAtr tp H v r) : TAtr tp H' v r := by
  have q : ∀ {a xs}, H a = some (.tup xs) → H' a = some (.tup xs) := fun {a xs} e => k _ _ (fun z => by rw [z] at e; exact nt _ e) e
  induction h with
  | always h => exact .always (q h)
  | week h => exact .week (q h)
  | span h _ ih => exact .span (q h) ih
  | each h hl ne => exact .each (q h) (k _ _ ne hl) ne
  | either h _ _ i1 i2 => exact .either (q h) i1 i2
  | both h _ _ i1 i2 => exact .both (q h) i1 i2
  | but h hl ne _ ih => exact .but (q h) (k _ _ ne hl) ne ih
theorem TAtr.same {tp : Addr} {H H' : Hp} (s : Same H H') {v : V} {r : RT} (h : TAtr tp H v r) : TAtr tp H' v r := by
  induction h with
  | always h => exact .always (s _ _ h)
  | week h => exact .week (s _ _ h)
  | span h _ ih => exact .span (s _ _ h) ih
  | each h hl ne => exact .each (s _ _ h) (s _ _ hl) ne
  | either h _ _ i1 i2 => exact .either (s _ _ h) i1 i2
  | both h _ _ i1 i2 => exact .both (s _ _ h) i1 i2
  | but h hl ne _ ih => exact .but (s _ _ h) (s _ _ hl) ne ih
theorem tape_tup {H : Hp} {tp : Addr} {ys : List V} (h : H tp = some (.lst ys)) (xs : List V) : H tp ≠ some (.tup xs) := fun e => by rw [h] at e; cases e
theorem TAtr.bump {tp : Addr} {k : Int} {ys : List V} {H H' : Hp} (ht : H tp = some (.lst ys)) (b : Bump tp k H H') {v : V} {r : RT} (h : TAtr tp H v r) : TAtr tp H' v r := h.keep b.keep (tape_tup ht)
theorem RAt.bump {c : RC} {K : PySem.W.Frag} {tp : Addr} {k : Int} {ys : List V} {H H' : Hp} (ht : H tp = some (.lst ys)) (b : Bump tp k H H') {a : Addr} {r : RT} (h : RAt c K H a r) : RAt c K H' a r := by
  have q : ∀ {x C dx fs}, H x = some (.ins C dx fs) → H' x = some (.ins C dx fs) := fun {x C dx fs} e => b.keep _ _ (fun z => by rw [z, ht] at e; cases e) e
  have qt : ∀ {p xs}, SqT K H p xs → SqT K H' p xs := fun {p xs} e => e.imp (fun r => r.imp (fun e => b.keep _ _ (fun z => by rw [z, ht] at e; cases e) e) (fun ⟨o, e⟩ => ⟨o, b.keep _ _ (fun z => by rw [z, ht] at e; cases e) e⟩)) id
  induction h with
  | always h => exact .always (q h)
  | week h hb => exact .week (q h) hb
  | span h hx hy _ ih => exact .span (q h) hx hy ih
  | each h hn hn2 hp => exact .each (q h) hn hn2 (qt hp)
  | either h _ _ i1 i2 => exact .either (q h) i1 i2
  | both h _ _ i1 i2 => exact .both (q h) i1 i2
  | but h hp _ ih => exact .but (q h) (qt hp) ih
end K1
namespace L2
open PySem PySem.Spec PyProof.Rows
end L2
namespace K1
open PySem L2
def Fst (f : Nat → Bool) (lo n : Nat) : Option Nat → Prop
  | none => ∀ j, j < n → f (lo + j) = false
  | some x => ∃ i, i < n ∧ x = lo + i ∧ f (lo + i) = true ∧ ∀ j, j < i → f (lo + j) = false
theorem Fst.one {f g : Nat → Bool} {lo n m : Nat} {x y : Option Nat} (h : Fst f lo n x) (h' : Fst g lo m y) (fg : ∀ j, j < n → j < m → f (lo + j) = g (lo + j)) (fn : ∀ j, m ≤ j → j < n → f (lo + j) = false) (gm : ∀ j, n ≤ j → j < m → g (lo + j) = false) : x = y := by
  cases x with
  | none =>
    cases y with
    | none => rfl
    | some y =>
      obtain ⟨i, hi, rfl, hy, _⟩ := h'
      by_cases c : i < n
      · have := h i c
        rw [fg i c hi, hy] at this
        cases this
      · rw [gm i (by omega) hi] at hy
        cases hy
  | some x =>
    obtain ⟨i, hi, rfl, hx, hb⟩ := h
    have im : i < m := by
      by_cases c : i < m
      · exact c
      · rw [fn i (by omega) hi] at hx
        cases hx
    rw [fg i hi im] at hx
    cases y with
    | none =>
      rw [h' i im] at hx
      cases hx
    | some y =>
      obtain ⟨j, hj, rfl, hy, hc⟩ := h'
      have e : i = j := by
        rcases Nat.lt_trichotomy i j with c | c | c
        · rw [hc i c] at hx; cases hx
        · exact c
        · have jn : j < n := by omega
          rw [← fg j jn hj, hb j c] at hy
          cases hy
      rw [e]
end K1

set_option Elab.async false
set_option linter.all false
set_option maxRecDepth 100000
set_option maxHeartbeats 4000000
namespace L2
open PySem PySem.Spec PyProof.Rows
theorem strs_of : ∀ {ts : List Str} {us : List Value}, Vals (ts.map V.str) us → ∃ l : List (Str × Tok), us = strValues l ∧ l.map (·.1) = ts
  | [], _, .nil => ⟨[], rfl, rfl⟩
  | t :: r, _, .cons (b := u) h q => by
    obtain ⟨tk, rfl⟩ := h
    obtain ⟨l, rfl, e⟩ := strs_of q
    exact ⟨(t, tk) :: l, rfl, by rw [List.map_cons, e]⟩
theorem fold_le (n : Nat) : ∀ (ts : List Str) (k : Nat), ts.foldl (fun a x => a + x.length + n) k = k + (ts.map fun x => x.length + n).sum
  | [], k => by simp
  | t :: r, k => by
    rw [List.foldl_cons, fold_le n r, List.map_cons, List.sum_cons]
    omega
theorem sum_len (n : Nat) : ∀ ts : List Str, (ts.map fun x => x.length + n).sum = (ts.map (·.length)).sum + ts.length * n
  | [] => by simp
  | y :: r => by
    have ih := sum_len n r
    simp only [List.map_cons, List.sum_cons, List.length_cons, Nat.succ_mul]
    omega
def rJoin (K : PySem.W.Frag) : V → List V → Hp → VK → Prop := fun x xs H Q => ∃ (z : Str) (p : Addr) (ts : List Str), x = .str z ∧ xs = [.ref p] ∧ SqL K H p (ts.map V.str) ∧ (ts.map fun x => x.length + z.length).sum ≤ sizeLine ∧ Q (.str (Str.join z ts)) H
theorem mt_join {X : Cx} : MtR X "str.join" (rJoin X.K) := by
  intro pins s σ H x xs v us Q I rx r h
  obtain ⟨z, p, ts, rfl, rfl, hq, hz, q⟩ := h
  obtain ⟨t, rfl⟩ := rx
  obtain ⟨u, rfl, e⟩ := vals1 r
  cases e
  obtain ⟨its, r', pl, _⟩ := I.list hq
  obtain ⟨l, rfl, el⟩ := strs_of r'
  have hl : Builtin.Str.tooLong ((l.map (·.1)).toArray.foldl (· + ·.length + z.length) 0) = false := by
    rw [el, List.foldl_toArray, fold_le]
    unfold Builtin.Str.tooLong
    exact decide_eq_false (by omega)
  refine call_meets F.slot_str_join (typeIs_str _ _ _) F.entry_str_join (F.args_str_join_2 _ _) (meets_str_join_list z t p l hl) ⟨pl.isList, ?_⟩
  have ej : Builtin.Str.glued z (l.map (·.1)) = Str.join z ts := by rw [el]; exact StrLaws.glued_eq_join z ts
  have le : (Str.join z ts).length ≤ sizeLine := by
    have h1 := StrLaws.join_length_le z ts
    have h2 := sum_len z.length ts
    omega
  have many : ∀ (m : Made), m = .str (Builtin.Str.glued z (l.map (·.1))) → m.post (fun v s' => wants (EP X pins σ Q) X.xe (.ok (.ret v)) s') s := fun m e => by
    subst e
    refine ⟨by rw [ej]; exact le, ?_⟩
    rw [ej]
    exact ⟨.str _, H, I.tok _, ⟨_, rfl⟩, q⟩
  match l, el, many with
  | [], el, many => exact many _ rfl
  | [y], el, many =>
    obtain ⟨yz, yt⟩ := y
    have e2 : Str.join z ts = yz := by rw [← el]; rfl
    rw [e2] at q
    exact ⟨.str yz, H, I, ⟨yt, rfl⟩, q⟩
  | y :: y2 :: r2, el, many => exact many _ rfl
end L2

set_option Elab.async false
set_option linter.all false
set_option maxRecDepth 100000
set_option maxHeartbeats 4000000
namespace K1
open PySem L2
def numT (n : Nat) : Str := Str.ofString (toString ((n : Nat) : Int))
def lstT (ss : List Nat) : Str := Str.join (Str.ofString ",") (ss.map numT)
def bitT (b d : Nat) : Str := if (RT.week b).runs d then Str.ofString "1" else Str.ofString "0"
def signT (b : Nat) : Str := Str.join (Str.ofString "") ((List.range 7).map (bitT b))
def RT.words : RT → List Str
  | .always => [Str.ofString "always"]
  | .week b => [Str.ofString "week", signT b]
  | .span a b r => [Str.ofString "span", numT a, numT b] ++ r.words
  | .each n ss => [Str.ofString "each", numT n, lstT ss]
  | .either r s => [Str.ofString "either"] ++ r.words ++ s.words
  | .both r s => [Str.ofString "both"] ++ r.words ++ s.words
  | .but ds r => [Str.ofString "but", lstT ds] ++ r.words
theorem join_room {z : Str} {ts : List Str} {m : Nat} (hz : z.length ≤ 1) (hm : ts.length ≤ 20) (h : ∀ x ∈ ts, x.length ≤ 10) : (ts.map fun x => x.length + z.length).sum ≤ sizeLine := by
  have key : ∀ l : List Str, (∀ x ∈ l, x.length ≤ 10) → (l.map fun x => x.length + z.length).sum ≤ 11 * l.length := by
    intro l
    induction l with
    | nil => intro _; simp
    | cons y r ih =>
      intro h
      have h1 := h y List.mem_cons_self
      have h2 := ih fun x hx => h x (List.mem_cons_of_mem _ hx)
      simp only [List.map_cons, List.sum_cons, List.length_cons]
      omega
  have := key ts h
  exact Nat.le_trans (show _ ≤ 1000 by omega) (by decide)
end K1

set_option Elab.async false
set_option linter.all false
set_option maxRecDepth 100000
set_option maxHeartbeats 600000
namespace L2
open PySem PySem.Spec PyProof.Rows
end L2

set_option Elab.async false
set_option linter.all false
set_option maxRecDepth 100000
set_option maxHeartbeats 4000000
namespace L2
open PySem PySem.Spec PyProof.Rows
def Odd1 (H : Hp) (v : V) : Prop := flatV v = true ∨ (∃ (a : Addr) (xs : List V), v = .ref a ∧ H a = some (.lst xs)) ∨ (∃ (a : Addr) (xs : List V), v = .ref a ∧ H a = some (.tup xs)) ∨ (∃ (a : Addr) (kvs : List (Key × V)), v = .ref a ∧ H a = some (.dK kvs))
theorem Odd1.same {H H' : Hp} {v : V} (s : Same H H') (h : Odd1 H v) : Odd1 H' v := by
  rcases h with h | ⟨a, xs, e, h⟩ | ⟨a, xs, e, h⟩ | ⟨a, xs, e, h⟩
  · exact .inl h
  · exact .inr (.inl ⟨a, xs, e, s _ _ h⟩)
  · exact .inr (.inr (.inl ⟨a, xs, e, s _ _ h⟩))
  · exact .inr (.inr (.inr ⟨a, xs, e, s _ _ h⟩))
end L2

set_option Elab.async false
set_option linter.all false
namespace L2
open PySem PySem.Spec PyProof.Rows
def tJoin (t u : TS) : TS := fun D σ H => ∃ J : St → Hp → Prop, t { D with nx := J } σ H ∧ ∀ σ' H', J σ' H' → u D σ' H'
theorem pss_join {X : Cx} {st : Stmt} {rest : List Stmt} {t u : TS} (h1 : PS X st t) (h2 : PSs X rest u) : PSs X (st :: rest) (tJoin t u) := by
  intro pins s σ H D I h
  obtain ⟨J, h, hJ⟩ := h
  refine wpAny_execs_cons (thn (h1 pins s σ H { D with nx := J } I h) fun f s1 q => ?_)
  cases f with
  | next =>
    obtain ⟨σ', H', I', q⟩ := q
    exact h2 pins s1 σ' H' D I' (hJ _ _ q)
  | ret v => exact q
  | brk => exact q
  | cont => exact q
end L2

set_option Elab.async false
set_option linter.all false
set_option maxRecDepth 100000
set_option maxHeartbeats 4000000
namespace L2
open PySem PySem.Spec PyProof.Rows

section
variable {X : Cx} {pins : List (Addr × Obj)} {σ : St} {H : Hp} {s : Shared} {h' : Heap}
theorem Inv.turnedL {t' : Nat} {fp : List Addr} (I : Inv X pins σ H s) (k : ∀ b o, b ∉ fp → s.heap.get? b = some o → h'.get? b = some o) (hf : ∀ b ∈ fp, FpOk X pins H b) : Inv X pins σ H { s with heap := h', toks := t' } := by
  have nit : ∀ b u, H b = some u → b ∉ fp := fun b u e z => by rw [(hf b z).1] at e; cases e
  refine I.step (g' := s.gens) (d' := s.drawn) (ch := fp) (fun b hb => ⟨(hf b hb).2.2.2.1, (hf b hb).2.1, (hf b hb).2.2.2.2.1, (hf b hb).2.2.2.2.2⟩) (fun b o _ _ hc e _ => k b o hc e) (fun b o _ _ hc e _ => ⟨o.slots, k b o hc e⟩) (fun _ _ _ _ n => n)
    (fun b o hc e => ⟨o, k b o hc e⟩) (fun _ _ e => e) (fun _ _ _ e => e) (fun b ps e => ⟨#[], by rw [e]; simp⟩) (fun m hm => ?_) (fun b u e => ?_) I.bare
  · obtain ⟨o, es, ep, ho, r⟩ := hm
    exact ⟨o, es, ep, k _ o (fun z => (hf _ z).2.1 rfl) ho, r⟩
  · refine (I.hok b u e).stay (fun c v hc q => k c v ?_ q) (fun _ q => q) fun _ _ q => q
    rcases hc with z | z
    · rw [z]; exact nit b u e
    · exact nit c _ z
theorem Inv.paired {t' : Nat} {fp : List Addr} {x y : V} {u v : Value} (I : Inv X pins σ H s) (hf : ∀ b ∈ fp, FpOk X pins H b) (ht : ∀ b ∈ fp, ∃ o, s.heap.get? b = some o)
    (k : ∀ b o, b ∉ fp → s.heap.get? b = some o → h'.get? b = some o) (hT : h'.get? s.heap.objs.size = some { cls := .type "tuple", data := .seq #[u, v] }) (rx : RelV x u) (ry : RelV y v) :
    Inv X pins σ (upd H s.heap.objs.size (.tup [x, y])) { s with heap := h', toks := t' } ∧ ∀ b ∈ fp, upd H s.heap.objs.size (.tup [x, y]) b = none := by
  have I1 : Inv X pins σ (upd H s.heap.objs.size (.tup [x, y])) { s with heap := s.heap.push { cls := .type "tuple", data := .seq #[u, v] }, toks := t' } :=
    I.laid (fun b ob q => Heap.get?_push_of_some _ q) (Nat.le_refl _) ⟨show 2 ≤ sizeLine by decide, [u, v], .cons rx (.cons ry .nil), IsTup.new _ _⟩
  have ne : ∀ b ∈ fp, b ≠ s.heap.objs.size := fun b hb e => by
    obtain ⟨o, q⟩ := ht b hb
    exact absurd (Heap.lt_size q) (by rw [e]; exact Nat.lt_irrefl _)
  have nn : ∀ b ∈ fp, upd H s.heap.objs.size (.tup [x, y]) b = none := fun b hb => by rw [upd_ne (ne b hb)]; exact (hf b hb).1
  refine ⟨Inv.turnedL (s := { s with heap := s.heap.push { cls := .type "tuple", data := .seq #[u, v] }, toks := t' }) (t' := t') (fp := fp) I1 (fun b o hb e => ?_) (fun b hb => ⟨nn b hb, (hf b hb).2⟩), nn⟩
  have e' : (s.heap.push { cls := .type "tuple", data := .seq #[u, v] }).get? b = some o := e
  by_cases hb2 : b = s.heap.objs.size
  · subst hb2
    rw [Heap.get?_push_size _ rfl] at e'
    cases e'
    exact hT
  · rw [Heap.get?_push_ne _ _ _ hb2] at e'
    exact k b o hb e'
end
def Ite (K : PySem.W.Frag) (l : Addr) : It :=
  ⟨fun i H => ∃ xs x, SqL K H l xs ∧ xs[i]? = some x, fun i H v H' => ∃ p x, H p = none ∧ (∀ xs, SqL K H l xs → xs[i]? = some x) ∧ v = .ref p ∧ H' = upd H p (.tup [.int i, x]), fun i H => ∃ xs, SqL K H l xs ∧ xs.length ≤ i⟩
theorem turn_enum {P : Program} {w : World} {K : PySem.W.Frag} {es : List Expr} {k : Nat} {pos : Pos} (l e it : Addr) (hei : e ≠ it) : Turn P w K (.Tuple es k pos) (Ite K l) [e, it] e (fun i h => (∃ old, IsEnum h e it i old) ∧ h.IsListIter it l i) where
  mem := by simp
  obj := fun i h st b hb => by
    obtain ⟨⟨old, he⟩, o, ho, hc, hd⟩ := st
    have e' : b = e ∨ b = it := by simpa using hb
    rcases e' with rfl | rfl
    · exact ⟨_, he, fun v z => by cases z⟩
    · exact ⟨o, ho, fun v z => by rw [hd] at z; cases z⟩
  keep := fun i h h' st kk => ⟨let ⟨old, he⟩ := st.1; ⟨old, kk e (by simp) _ he⟩, st.2.at fun o q => kk it (by simp) o q⟩
  item := by
    intro X hP hw hK hc i pins s σ H E I hf st hg
    subst hP hw hK
    obtain ⟨xs, x, hq, hx⟩ := hg
    obtain ⟨its, rv, p, hz⟩ := I.list hq
    obtain ⟨u, hu, ru⟩ := rv.get hx
    obtain ⟨⟨old, he⟩, hit⟩ := st
    have hit0 := hit
    refine wpAny_pyNext_enum_item he hit p.isList (x := u) (by simpa using hu) hei fun h1 ho hit' hT hsz hk => ⟨_, rfl, ?_⟩
    refine wpAny_letOwnedTupleGo_enum (s := { s with heap := h1, toks := s.toks + 1 }) ho fun h2 he2 hs2 => ?_
    have hlt : e < s.heap.objs.size := Heap.lt_size he
    have hilt : it < s.heap.objs.size := by obtain ⟨_, q, _⟩ := hit; exact Heap.lt_size q
    have hT2 : h2.get? s.heap.objs.size = some { cls := .type "tuple", data := .seq #[.int i s.toks, u] } := (hs2.2 _ (Nat.ne_of_gt hlt)).trans hT
    obtain ⟨I2, n2⟩ := I.paired (t' := s.toks + 1) (fp := [e, it]) (x := .int i) (y := x) (h' := h2) hf (fun b hb => by
      have e' : b = e ∨ b = it := by simpa using hb
      rcases e' with rfl | rfl
      · exact ⟨_, he⟩
      · obtain ⟨o, q, _⟩ := hit0; exact ⟨o, q⟩) (fun b o hb q => by
      have hb1 : b ≠ e := fun z => hb (by simp [z])
      have hb2 : b ≠ it := fun z => hb (by simp [z])
      exact (hs2.2 b hb1).trans (hk b o hb1 hb2 q)) hT2 ⟨s.toks, rfl⟩ ru
    refine ⟨.ref s.heap.objs.size, _, I2, rfl, ⟨_, x, I.hok.fresh (Nat.le_refl _), fun ys hy => by rw [I.list_inj hy hq]; exact hx, rfl, rfl⟩, ⟨⟨_, by simpa using he2⟩, hit'.at fun o q => (hs2.2 it hei.symm).trans q⟩, n2⟩
  done := by
    intro X hP hw hK hc i pins s σ H E I hf st hg
    subst hP hw hK
    obtain ⟨xs, hq, hx⟩ := hg
    obtain ⟨its, rv, p, hz⟩ := I.list hq
    obtain ⟨⟨old, he⟩, hit⟩ := st
    have hl := rv.length
    exact wpAny_pyNext_enum_end (I.ok.hd hc) he hit p.isList (by simp; omega) fun h' eb => ⟨rfl, I.turnedL (t' := s.toks) (fp := [e, it]) (fun b o hb q => eb b o (fun z => hb (by simp [z])) q) hf⟩
  self := fun _ _ _ _ _ st h => by
    obtain ⟨⟨old, he⟩, _⟩ := st
    exact wpAny_pyIter_enum he h
section
variable {X : Cx}
def iEnum (K : PySem.W.Frag) (ta : TA) : TI := fun σ H R => ta σ H fun vs H1 => ∃ a, vs = [.ref a] ∧ (∃ xs, SqL K H1 a xs) ∧ R (Ite K a) H1
theorem pi_enum {es : List Expr} {k : Nat} {tp : Pos} {a : Expr} {ta : TA} {p pos : Pos} (hg : Gl X "enumerate") (hm : X.mg "enumerate" = none) (ha : PA X [a] ta) (hs : starEach [a] X.env = [(false, eval a X.env)] := by rfl) : PI X (.Tuple es k tp) (.Call (.Name "enumerate" p) [a] [] pos) (iEnum X.K ta) := by
  intro pins s σ H R I h
  refine Call_ (ld_blt I hg hm boot_enumerate (PyProof.Rows.callWith_type1 (thn (ha pos pins s σ H _ I h) fun us s1 ⟨vs, H1, I1, r1, q1⟩ => ?_) hs rfl))
  obtain ⟨l, e, ⟨xs, hq⟩, q⟩ := q1
  subst e
  cases r1 with
  | cons r rr =>
    cases rr
    cases r
    obtain ⟨its, rv, pl, hz⟩ := I1.list hq
    refine call_enumerate_list pl.isList fun h' he hit hsz hk => ?_
    refine wpAny_pyIter_enum (s := { s1 with heap := h' }) he ?_
    refine ⟨s1.heap.objs.size + 1, [s1.heap.objs.size + 1, s1.heap.objs.size], _, _, H1, rfl, I1.kept (t' := s1.toks) hk, turn_enum l _ _ (Nat.succ_ne_self _), ⟨⟨_, he⟩, hit⟩, fun b hb => ?_, q⟩
    have e' : b = s1.heap.objs.size + 1 ∨ b = s1.heap.objs.size := by simpa using hb
    have hb' : s1.heap.objs.size ≤ b := by rcases e' with rfl | rfl; exact Nat.le_succ _; exact Nat.le_refl _
    exact I1.fpOk hb' (I1.hok.fresh hb')
end
theorem for_enum {K : PySem.W.Frag} {a : Addr} {xs : List V} {g : TG} {tb : TS} {D : Ends} {σ : St} {H : Hp} (Pv : Nat → St → Hp → Prop) (h0 : Pv 0 σ H) (hl : ∀ i σ H, i ≤ xs.length → Pv i σ H → SqL K H a xs)
    (hs : ∀ i x p σ H, xs[i]? = some x → H p = none → Pv i σ H → g (.ref p) σ (upd H p (.tup [.int i, x])) fun σ2 H2 => tb { D with nx := Pv (i + 1), ct := Pv (i + 1), bk := D.nx } σ2 H2) (hd : ∀ σ H, Pv xs.length σ H → D.nx σ H) :
    ∃ W : Nat → Nat → St → Hp → Prop, (∃ m, W 0 m σ H) ∧ ∀ i m σ H, W i m σ H →
      ((Ite K a).stop i H ∧ D.nx σ H) ∨ ((Ite K a).go i H ∧ ∃ N : St → Hp → Prop, (∀ σ' H', N σ' H' → ∃ m', m' < m ∧ W (i + 1) m' σ' H') ∧ ∀ x H', (Ite K a).yld i H x H' → g x σ H' fun σ2 H2 => tb { D with nx := N, ct := N, bk := D.nx } σ2 H2) := by
  refine ⟨fun i m σ H => m = xs.length - i ∧ i ≤ xs.length ∧ Pv i σ H, ⟨xs.length, by simp, Nat.zero_le _, h0⟩, ?_⟩
  rintro i m σ H ⟨rfl, hi, p⟩
  have q := hl i σ H hi p
  by_cases hlt : i < xs.length
  · refine .inr ⟨⟨xs, xs[i], q, by simp [hlt]⟩, Pv (i + 1), fun σ' H' p' => ⟨xs.length - (i + 1), by omega, rfl, hlt, p'⟩, fun v H' y => ?_⟩
    obtain ⟨r, x, hr, y, rfl, rfl⟩ := y
    exact hs i x r σ _ (y xs q) hr p
  · have e : i = xs.length := by omega
    subst e
    exact .inl ⟨⟨xs, q, Nat.le_refl _⟩, hd σ H p⟩
end L2

set_option Elab.async false
set_option linter.all false
set_option maxRecDepth 100000
namespace L2
open PySem PySem.Spec PyProof.Rows

section
variable {κ : Type} [DecidableEq κ]
def valV (kvs : List (κ × V)) (k : κ) : Option V := (kvs.find? fun kv => decide (kv.1 = k)).map (·.2)
def putK (kvs : List (κ × V)) (k : κ) (v : V) : List (κ × V) :=
  if (kvs.any fun kv => decide (kv.1 = k)) = true then kvs.map (fun kv => if kv.1 = k then (kv.1, v) else kv) else kvs ++ [(k, v)]
def dropK (kvs : List (κ × V)) (k : κ) : List (κ × V) := kvs.filter fun kv => decide (kv.1 ≠ k)

theorem valV_pos {p : κ × V} {r : List (κ × V)} {k : κ} (e : p.1 = k) : valV (p :: r) k = some p.2 := by simp [valV, List.find?_cons, e]
theorem valV_neg {p : κ × V} {r : List (κ × V)} {k : κ} (e : ¬ p.1 = k) : valV (p :: r) k = valV r k := by simp [valV, List.find?_cons, e]
theorem valV_any (k : κ) : ∀ kvs : List (κ × V), (kvs.any fun kv => decide (kv.1 = k)) = (valV kvs k).isSome
  | [] => rfl
  | p :: r => by
    rw [List.any_cons]
    by_cases e : p.1 = k
    · simp only [valV_pos e, decide_eq_true e, Bool.true_or, Option.isSome_some]
    · rw [valV_neg e, decide_eq_false e, Bool.false_or]; exact valV_any k r
theorem length_putK (kvs : List (κ × V)) (k : κ) (v : V) : (putK kvs k v).length ≤ kvs.length + 1 := by
  unfold putK
  split
  · rw [List.length_map]; omega
  · rw [List.length_append, List.length_cons, List.length_nil]; omega
theorem putK_new {kvs : List (κ × V)} {k : κ} (v : V) (h : valV kvs k = none) : putK kvs k v = kvs ++ [(k, v)] := by
  unfold putK
  rw [valV_any, h]
  exact if_neg (by decide)

theorem RelO.isSome_eq {o : Option V} {u : Option Value} (r : RelO o u) : o.isSome = u.isSome := by
  cases o with
  | none => cases u with
    | none => rfl
    | some _ => exact (show False from r).elim
  | some _ => cases u with
    | none => exact (show False from r).elim
    | some _ => rfl
theorem RelO.getD {o : Option V} {u : Option Value} {d : V} {d' : Value} (r : RelO o u) (rd : RelV d d') : RelV (o.getD d) (u.getD d') := by
  cases o with
  | none => cases u with
    | none => exact rd
    | some _ => exact (show False from r).elim
  | some _ => cases u with
    | none => exact (show False from r).elim
    | some _ => exact r

theorem KV.val {kvs : List (κ × V)} {vs : List (κ × Value)} (r : KV kvs vs) (k : κ) : RelO (valV kvs k) (valueAt vs k) := by
  unfold KV at r
  induction r with
  | nil => exact True.intro
  | @cons p q ps qs h t ih =>
    obtain ⟨h1, h2⟩ := h
    by_cases e : p.1 = k
    · have e' : q.1 = k := h1.symm.trans e
      have b : valueAt (q :: qs) k = some q.2 := by simp [valueAt, List.find?_cons, e']
      rw [valV_pos e, b]; exact h2
    · have e' : ¬ q.1 = k := fun z => e (h1.trans z)
      have b : valueAt (q :: qs) k = valueAt qs k := by simp [valueAt, List.find?_cons, e']
      rw [valV_neg e, b]; exact ih
theorem KV.any {kvs : List (κ × V)} {vs : List (κ × Value)} (r : KV kvs vs) (k : κ) : (kvs.any fun kv => decide (kv.1 = k)) = vs.any fun kv => decide (kv.1 = k) := by
  unfold KV at r
  induction r with
  | nil => rfl
  | cons h t ih => rw [List.any_cons, List.any_cons, ih, h.1]
theorem KV.repl {kvs : List (κ × V)} {vs : List (κ × Value)} (r : KV kvs vs) (k : κ) {y : V} {u : Value} (ry : RelV y u) :
    KV (kvs.map fun kv => if kv.1 = k then (kv.1, y) else kv) (vs.map fun kv => if kv.1 = k then (kv.1, u) else kv) := by
  unfold KV at r ⊢
  induction r with
  | nil => exact .nil
  | @cons p q ps qs h t ih =>
    rw [List.map_cons, List.map_cons]
    refine .cons ?_ ih
    obtain ⟨h1, h2⟩ := h
    by_cases e : p.1 = k
    · rw [if_pos e, if_pos (h1.symm.trans e)]; exact ⟨h1, ry⟩
    · rw [if_neg e, if_neg (fun z => e (h1.trans z))]; exact ⟨h1, h2⟩
theorem KV.put {kvs : List (κ × V)} {vs : List (κ × Value)} (r : KV kvs vs) (k : κ) {y : V} {u : Value} (ry : RelV y u) : KV (putK kvs k y) (stored vs k u) := by
  unfold putK stored
  rw [r.any k]
  by_cases e : (vs.any fun kv => decide (kv.1 = k)) = true
  · rw [if_pos e, if_pos e]; exact r.repl k ry
  · rw [if_neg e, if_neg e]; exact Paired.snoc r ⟨rfl, ry⟩
theorem KV.drop {kvs : List (κ × V)} {vs : List (κ × Value)} (r : KV kvs vs) (k : κ) : KV (dropK kvs k) (without vs k) := by
  unfold KV at r ⊢
  unfold dropK without
  induction r with
  | nil => exact .nil
  | @cons p q ps qs h t ih =>
    obtain ⟨h1, h2⟩ := h
    rw [List.filter_cons, List.filter_cons]
    by_cases e : p.1 = k
    · have a : ¬ decide (p.1 ≠ k) = true := by simp [e]
      have b : ¬ decide (q.1 ≠ k) = true := by simp [h1.symm.trans e]
      rw [if_neg a, if_neg b]; exact ih
    · have e' : ¬ q.1 = k := fun z => e (h1.trans z)
      have a : decide (p.1 ≠ k) = true := by simp [e]
      have b : decide (q.1 ≠ k) = true := by simp [e']
      rw [if_pos a, if_pos b]; exact .cons ⟨h1, h2⟩ ih
theorem KV.keys {kvs : List (κ × V)} {vs : List (κ × Value)} (r : KV kvs vs) : kvs.map (·.1) = vs.map (·.1) := by
  unfold KV at r
  induction r with
  | nil => rfl
  | cons h t ih => rw [List.map_cons, List.map_cons, ih, h.1]
theorem KV.length {kvs : List (κ × V)} {vs : List (κ × Value)} (r : KV kvs vs) : kvs.length = vs.length := Paired.length r
end


theorem kV_is {P : Program} {w : World} {k : Key} {u : Value} (r : RelV (kV k) u) : (mixKind P w).is k u = true := by
  cases k with
  | inl i => obtain ⟨t, e⟩ := (show ∃ t, u = Value.int i t from r); subst e; exact mixKind_int P w i t
  | inr x => obtain ⟨t, e⟩ := (show ∃ t, u = Value.str x t from r); subst e; exact mixKind_str P w x t
theorem items_are {P : Program} {w : World} : ∀ {ks : List Key} {us : List Value}, Vals (ks.map kV) us → ItemsAre (mixKind P w) ks us
  | [], _, r => by rw [List.map_nil] at r; cases r; exact .nil
  | k :: ks, _, r => by
    rw [List.map_cons] at r
    cases r with
    | cons h t => exact .cons (kV_is h) (items_are t)

abbrev KT (H : Hp) : List (List Key × V) → List (List Key × Addr × Value) → Prop := Paired fun p q => p.1 = q.1 ∧ H q.2.1 = some (.tup (p.1.map kV)) ∧ RelV p.2 q.2.2
theorem KT.val {H : Hp} {kvs : List (List Key × V)} {xs : List (List Key × Addr × Value)} (r : KT H kvs xs) (k : List Key) : RelO (valV kvs k) ((atKey xs k).map (·.2)) := by
  induction r with
  | nil => exact True.intro
  | @cons p q ps qs h t ih =>
    obtain ⟨h1, _, h2⟩ := h
    by_cases e : p.1 = k
    · have e' : q.1 = k := h1.symm.trans e
      have b : atKey (q :: qs) k = some q.2 := by simp [atKey, List.find?_cons, e']
      rw [valV_pos e, b]; exact h2
    · have e' : ¬ q.1 = k := fun z => e (h1.trans z)
      have b : atKey (q :: qs) k = atKey qs k := by simp [atKey, List.find?_cons, e']
      rw [valV_neg e, b]; exact ih
theorem KT.repl {H : Hp} {kvs : List (List Key × V)} {xs : List (List Key × Addr × Value)} (r : KT H kvs xs) (k : List Key) {y : V} {u : Value} (ry : RelV y u) :
    KT H (kvs.map fun kv => if kv.1 = k then (kv.1, y) else kv) (xs.map (putAt k u)) := by
  induction r with
  | nil => exact .nil
  | @cons p q ps qs h t ih =>
    rw [List.map_cons, List.map_cons]
    refine .cons ?_ ih
    obtain ⟨h1, h2, h3⟩ := h
    unfold putAt
    by_cases e : p.1 = k
    · rw [if_pos e, if_pos (h1.symm.trans e)]; exact ⟨h1, h2, ry⟩
    · rw [if_neg e, if_neg (fun z => e (h1.trans z))]; exact ⟨h1, h2, h3⟩
theorem KT.put {H : Hp} {kvs : List (List Key × V)} {xs : List (List Key × Addr × Value)} (r : KT H kvs xs) (k : List Key) {b : Addr} {y : V} {u : Value} (hb : H b = some (.tup (k.map kV))) (ry : RelV y u) :
    KT H (putK kvs k y) (storedH xs k b u) := by
  have e : (kvs.any fun kv => decide (kv.1 = k)) = (atKey xs k).isSome := by
    rw [valV_any, (r.val k).isSome_eq, Option.isSome_map]
  unfold putK storedH
  rw [e]
  by_cases q : (atKey xs k).isSome = true
  · rw [if_pos q, if_pos q]; exact r.repl k ry
  · rw [if_neg q, if_neg q]; exact Paired.snoc r ⟨rfl, hb, ry⟩
theorem KT.keeps {H H' : Hp} {kvs : List (List Key × V)} {xs : List (List Key × Addr × Value)} (r : KT H kvs xs) (ht : ∀ b ys, H b = some (.tup ys) → H' b = some (.tup ys)) : KT H' kvs xs :=
  Paired.mapP r fun _ _ z => ⟨z.1, ht _ _ z.2.1, z.2.2⟩

section
variable {P : Program} {w : World} {H : Hp} {h : Heap} {a : Addr}
theorem rd_of {u : HO} (ok : HOk P w H h) (e : Rd H a u) : ObjOk P w H h a u := e.ok ok
theorem dk_rd {kvs : List (Key × V)} (ok : HOk P w H h) (e : Rd H a (.dK kvs)) : kvs.length ≤ sizeLine ∧ (a == sysModules) = false ∧ ∃ vs, KV kvs vs ∧ h.DictOf (mixKind P w) a vs :=
  show ObjOk P w H h a (.dK kvs) from rd_of ok e
theorem dk_of {kvs : List (Key × V)} (ok : HOk P w H h) (e : H a = some (.dK kvs)) : kvs.length ≤ sizeLine ∧ (a == sysModules) = false ∧ ∃ vs, KV kvs vs ∧ h.DictOf (mixKind P w) a vs := dk_rd ok (.inl e)
theorem key_of {ks : List Key} (ok : HOk P w H h) (e : H a = some (.tup (ks.map kV))) : (tupleKind (mixKind P w)).is h ks a := by
  obtain ⟨_, its, r, o, h1, h2, n, h3⟩ := (show ObjOk P w H h a (.tup (ks.map kV)) from ok a _ e)
  exact ⟨o, its.toArray, n, h1, h2, h3, by simpa using items_are r⟩
theorem dt_rd {kvs : List (List Key × V)} (ok : HOk P w H h) (e : Rd H a (.dT kvs)) : kvs.length ≤ sizeLine ∧ (a == sysModules) = false ∧
    ∃ xs, KT H kvs xs ∧ h.DictOfH (tupleKind (mixKind P w)) a xs := by
  obtain ⟨z, y, xs, r, o, es, ep, h1, h2, h3, h4, h5⟩ := (show ObjOk P w H h a (.dT kvs) from rd_of ok e)
  refine ⟨z, y, xs, r, o, es, ep, h1, h2, h3, h4, fun x hx => ?_, h5⟩
  have all : ∀ {l : List (List Key × V)} {m : List (List Key × Addr × Value)}, KT H l m → ∀ x ∈ m, (tupleKind (mixKind P w)).is h x.1 x.2.1 := by
    intro l m q
    induction q with
    | nil => intro x hx; exact nomatch hx
    | @cons p q ps qs hq t ih =>
      intro x hx
      rcases List.mem_cons.mp hx with e | hx
      · subst e
        exact key_of ok (by rw [← hq.1]; exact hq.2.1)
      · exact ih x hx
  exact all r x hx
theorem dt_of {kvs : List (List Key × V)} (ok : HOk P w H h) (e : H a = some (.dT kvs)) : kvs.length ≤ sizeLine ∧ (a == sysModules) = false ∧
    ∃ xs, KT H kvs xs ∧ h.DictOfH (tupleKind (mixKind P w)) a xs := dt_rd ok (.inl e)
end

def DGet (H : Hp) (a : Addr) (y : V) (r : Option V) : Prop :=
  (∃ kvs k, Rd H a (.dK kvs) ∧ y = kV k ∧ r = valV kvs k) ∨ ∃ kvs k b, Rd H a (.dT kvs) ∧ y = .ref b ∧ H b = some (.tup (k.map kV)) ∧ r = valV kvs k
def DPut (H : Hp) (a : Addr) (y v : V) (H' : Hp) : Prop :=
  (∃ kvs k, H a = some (.dK kvs) ∧ y = kV k ∧ kvs.length < sizeLine ∧ H' = upd H a (.dK (putK kvs k v))) ∨
  ∃ kvs k b, H a = some (.dT kvs) ∧ y = .ref b ∧ H b = some (.tup (k.map kV)) ∧ kvs.length < sizeLine ∧ H' = upd H a (.dT (putK kvs k v))
theorem DGet.k {H : Hp} {a : Addr} {kvs : List (Key × V)} {k : Key} (e : H a = some (.dK kvs)) : DGet H a (kV k) (valV kvs k) := .inl ⟨kvs, k, .inl e, rfl, rfl⟩
theorem DGet.t {H : Hp} {a b : Addr} {kvs : List (List Key × V)} {k : List Key} (e : H a = some (.dT kvs)) (eb : H b = some (.tup (k.map kV))) : DGet H a (.ref b) (valV kvs k) := .inr ⟨kvs, k, b, .inl e, rfl, eb, rfl⟩
theorem DPut.k {H : Hp} {a : Addr} {kvs : List (Key × V)} {k : Key} {v : V} (e : H a = some (.dK kvs)) (hl : kvs.length < sizeLine) : DPut H a (kV k) v (upd H a (.dK (putK kvs k v))) := .inl ⟨kvs, k, e, rfl, hl, rfl⟩
theorem DPut.t {H : Hp} {a b : Addr} {kvs : List (List Key × V)} {k : List Key} {v : V} (e : H a = some (.dT kvs)) (eb : H b = some (.tup (k.map kV))) (hl : kvs.length < sizeLine) :
    DPut H a (.ref b) v (upd H a (.dT (putK kvs k v))) := .inr ⟨kvs, k, b, e, rfl, eb, hl, rfl⟩


section
variable {X : Cx} {pins : List (Addr × Obj)} {σ : St} {H : Hp} {s : Shared} {a : Addr} {y v : V} {u r : Value} {o : Option V} {A : Around} {E : Value → Shared → Prop}

theorem d_getItem {Q : Value → Shared → Prop} (hu : A.units + 1 < cLine) (I : Inv X pins σ H s) (g : DGet H a y (some v)) (ry : RelV y u) (h : ∀ w' s', Inv X pins σ H s' → RelV v w' → Q w' s') :
    wpAny (model X.prog X.w) A (getItem (.ref a) u) Q E s := by
  rcases g with ⟨kvs, k, e, ey, l⟩ | ⟨kvs, k, b, e, ey, eb, l⟩
  · subst ey
    obtain ⟨z, hd, vs, rel, dd⟩ := dk_rd I.hok e
    obtain ⟨w', hw, rw'⟩ := RelO.some_of (v := v) (o := valueAt vs k) (by rw [l]; exact rel.val k)
    exact wpAny_getItem_of (kV_is ry) dd.mapOf hw (h w' _ (I.tok _) rw')
  · subst ey
    cases (show u = Value.ref b from ry)
    obtain ⟨z, hd, xs, rel, dd⟩ := dt_rd I.hok e
    obtain ⟨w', hw, rw'⟩ := RelO.some_of (v := v) (o := (atKey xs k).map (·.2)) (by rw [l]; exact rel.val k)
    obtain ⟨p, hp, hp2⟩ := Option.map_eq_some_iff.mp hw
    refine wpAny_getItem_heap (tupleKind_room_in1 hu) (key_of I.hok eb) dd hp ?_
    rw [hp2]
    exact h w' _ (I.tok _) rw'
theorem d_in {Q : Value → Shared → Prop} (hu : A.units + 1 < cLine) (I : Inv X pins σ H s) (g : DGet H a y o) (ry : RelV y u) (h : ∀ s', Inv X pins σ H s' → Q (.bool o.isSome) s') :
    wpAny (model X.prog X.w) A (compareOp .In u (.ref a)) Q E s := by
  rcases g with ⟨kvs, k, e, ey, l⟩ | ⟨kvs, k, b, e, ey, eb, l⟩
  · subst ey
    obtain ⟨z, hd, vs, rel, dd⟩ := dk_rd I.hok e
    refine wpAny_in_of (kV_is ry) hd dd.mapOf ?_
    rw [← (rel.val k).isSome_eq, ← l]
    exact h _ (I.tok _)
  · subst ey
    cases (show u = Value.ref b from ry)
    obtain ⟨z, hd, xs, rel, dd⟩ := dt_rd I.hok e
    refine wpAny_in_heap (tupleKind_room_in1 hu) (key_of I.hok eb) hd dd ?_
    have q := (rel.val k).isSome_eq
    rw [Option.isSome_map] at q
    rw [← q, ← l]
    exact h _ (I.tok _)
theorem d_write {h' : Heap} {t' : Nat} {ob : HO} (I : Inv X pins σ H s) (mu : Mut (H a)) (hs : Heap.SameBut a s.heap h') (he : ∃ q, h'.get? a = some q) (new : ObjOk X.prog X.w (upd H a ob) h' a ob) :
    Inv X pins σ (upd H a ob) { s with heap := h', toks := t' } :=
  I.write (x := a) (e := a) mu (.inl rfl) (fun b q hb z => (hs.2 b hb).trans z) he new
theorem dk_new {P : Program} {w : World} {H' : Hp} {h' : Heap} {kvs : List (Key × V)} {vs : List (Key × Value)} (z : kvs.length ≤ sizeLine) (hd : (a == sysModules) = false) (rel : KV kvs vs) (dd : h'.DictOf (mixKind P w) a vs) :
    ObjOk P w H' h' a (.dK kvs) := ⟨z, hd, vs, rel, dd⟩
theorem d_setItem {H' : Hp} {Q : Unit → Shared → Prop} (hu : A.units + 1 < cLine) (I : Inv X pins σ H s) (g : DPut H a y v H') (ry : RelV y u) (rv : RelV v r) (h : ∀ s', Inv X pins σ H' s' → Q () s') :
    wpAny (model X.prog X.w) A (setItem (.ref a) u r) Q E s := by
  rcases g with ⟨kvs, k, e, ey, l, eH⟩ | ⟨kvs, k, b, e, ey, eb, l, eH⟩
  · subst ey eH
    obtain ⟨z, hd, vs, rel, dd⟩ := dk_of I.hok e
    have hz : vs.length ≤ sizeLine := by rw [← rel.length]; exact z
    have hl : (putK kvs k v).length ≤ sizeLine := by have := length_putK kvs k v; omega
    refine wpAny_setItem_pairs (hsz := hz) (kV_is ry) dd fun h' dd' hs => h _ ?_
    have he : ∃ q, h'.get? a = some q := let ⟨q, _, _, hq, _⟩ := dd'; ⟨q, hq⟩
    exact d_write I (by rw [e]; exact True.intro) hs he (dk_new hl hd (rel.put k rv) dd')
  · subst ey eH
    cases (show u = Value.ref b from ry)
    obtain ⟨z, hd, xs, rel, dd⟩ := dt_of I.hok e
    have hz : xs.length ≤ sizeLine := by rw [← Paired.length rel]; exact z
    have hl : (putK kvs k v).length ≤ sizeLine := by have := length_putK kvs k v; omega
    refine wpAny_setItem_heap (hsz := hz) (tupleKind_room_in1 hu) (key_of I.hok eb) dd fun h' dd' hs => h _ ?_
    obtain ⟨q, es, ep, hq, h2, h3, h4, _, h5⟩ := dd'
    refine d_write I (by rw [e]; exact True.intro) hs ⟨q, hq⟩ ⟨hl, hd, _, (rel.put k eb rv).keeps fun c ys ec => ?_, q, es, ep, hq, h2, h3, h4, h5⟩
    rw [upd_ne (ne_of ec e (fun z => nomatch z))]
    exact ec
end

section
variable {X : Cx} {pins : List (Addr × Obj)} {σ : St} {H : Hp} {s : Shared} {a : Addr} {kvs : List (Key × V)} {k : Key} {u : Value} {A : Around} {E : Value → Shared → Prop}
theorem d_len {Q : Value → Shared → Prop} (I : Inv X pins σ H s) (e : Rd H a (.dK kvs)) (h : ∀ t s', Inv X pins σ H s' → Q (.int kvs.length t) s') : wpAny (model X.prog X.w) A (call (.builtin "len") [.ref a]) Q E s := by
  obtain ⟨z, hd, vs, rel, dd⟩ := dk_rd I.hok e
  refine call_len_dict hd dd (by rw [← rel.length]; rw [sizeLine_eq] at z; omega) ?_
  rw [← rel.length]
  exact h _ _ (I.tok _)
end


def NoSl (i : Expr) : Prop := ∀ ov iv, subscripted i false ov iv = operate [ov, iv] (getItem ov iv)
theorem subD_of {prog : Program} {w : World} {A : Around} {E : Value → Shared → Prop} {s : Shared} {env : Env} {value slice : Expr} {pos : Pos} {T id : String} {Q : Value → Shared → Prop}
    (hl : typeLookup (.type T) "__getitem__" = pure (some (.builtin id))) (hs : NoSl slice)
    (h : wpAny (model prog w) A (eval value env) (fun o s₁ => wpAny (model prog w) A (eval slice env) (fun i s₂ => s₂.TypeIs o T ∧ wpAny (model prog w) A (getItem o i) Q E s₂) E s₁) E s) :
    wpAny (model prog w) A (eval (.Subscript value slice pos) env) Q E s := by
  refine Subscript_ (wpAny_mono h (fun o s₁ h₁ => wpAny_mono h₁ (fun i s₂ h₂ => ?_) fun _ _ x => x) fun _ _ x => x)
  obtain ⟨hT, h₂⟩ := h₂
  unfold subscriptTail
  refine wpAny_bind ?_
  rw [getitemInPython_of_ne hT.not_modules]
  refine wpAny_bind (wpAny_specialOf hT hl ?_)
  have fin : wpAny (model prog w) A (subscripted slice false o i) (fun r s₃ => wpAny (model prog w) A (letTemporaryGo value o r >>= fun _ => pure r) Q E s₃) E s₂ := by
    rw [hs o i]
    exact wpAny_operating (wpAny_mono h₂ (fun r s₃ h₃ => wpAny_bind (wpAny_letTemporaryGo (wpAny_pure h₃))) fun _ _ x => x)
  first
    | exact wpAny_pure (wpAny_bind fin)
    | exact wpAny_bind (wpAny_pure (wpAny_bind fin))
    | exact wpAny_bind fin

theorem dict_typeIs {X : Cx} {pins : List (Addr × Obj)} {σ : St} {H : Hp} {s : Shared} {a : Addr} {y : V} {o : Option V} (I : Inv X pins σ H s) (g : DGet H a y o) : s.TypeIs (.ref a) "dict" := by
  rcases g with ⟨kvs, k, e, _, _⟩ | ⟨kvs, k, b, e, _, _, _⟩
  · obtain ⟨_, _, vs, _, dd⟩ := dk_rd I.hok e
    exact dd.typeIs
  · obtain ⟨_, _, xs, _, dd⟩ := dt_rd I.hok e
    exact dd.typeIs
def tDGet (td ty : TE) : TE := fun σ H Q => td σ H fun x H1 => ty σ H1 fun y H2 => ∃ a v, x = .ref a ∧ DGet H2 a y (some v) ∧ Q v H2
def tDIn (ty td : TE) : TE := fun σ H Q => ty σ H fun y H1 => td σ H1 fun x H2 => ∃ a o, x = .ref a ∧ DGet H2 a y o ∧ Q (.bl o.isSome) H2
def sDPut (td ty tv : TE) : TS := fun D σ H => tv σ H fun v H1 => td σ H1 fun x H2 => ty σ H2 fun y H3 => ∃ a H4, x = .ref a ∧ DPut H3 a y v H4 ∧ D.nx σ H4
section
variable {X : Cx} {o i e value : Expr} {pos pos' tpos : Pos} {td ty tv : TE}
theorem pe_dget (hu : X.A.units + 1 < cLine) (ho : PE X o td) (hi : PE X i ty) (hs : NoSl i) : PE X (.Subscript o i pos) (tDGet td ty) := by
  intro pins s σ H Q I h
  refine subD_of PySem.F.slot_dict_getitem.lookup hs (thn (ho pins s σ H _ I h) fun u s1 ⟨x, H1, I1, rx, q1⟩ => thn (hi pins s1 σ H1 _ I1 q1) fun iv s2 ⟨y, H2, I2, ry, a, v, ex, g, q2⟩ => ?_)
  subst ex
  obtain rfl : u = Value.ref a := rx
  exact ⟨dict_typeIs I2 g, d_getItem hu I2 g ry fun w' s3 I3 rw' => ⟨v, H2, I3, rw', q2⟩⟩
theorem pc_din (hu : X.A.units + 1 < cLine) (hi : PE X i ty) (ho : PE X o td) : PC X .In i o (tDIn ty td) := by
  intro pins s σ H Q I h
  refine thn (hi pins s σ H _ I h) fun iv s1 ⟨y, H1, I1, ry, q1⟩ => thn (ho pins s1 σ H1 _ I1 q1) fun u s2 ⟨x, H2, I2, rx, a, ov, ex, g, q2⟩ => ?_
  subst ex
  obtain rfl : u = Value.ref a := rx
  exact d_in hu I2 g ry fun s3 I3 => ⟨.bl ov.isSome, H2, I3, rfl, q2⟩
theorem ps_dput (hu : X.A.units + 1 < cLine) (ho : PE X o td) (hi : PE X i ty) (hv : PE X value tv) (hs : swapsWith value (some (.Subscript o i pos')) pos.line X.env = pure false) :
    PS X (.Assign [.Subscript o i pos'] value pos) (sDPut td ty tv) := by
  intro pins s σ H D I h
  refine wpAny_Assign_Subscript (thn (hv pins s σ H _ I h) fun r s1 ⟨v, H1, I1, rv, q1⟩ => thn (ho pins s1 σ H1 _ I1 q1) fun u s2 ⟨x, H2, I2, rx, q2⟩ => thn (hi pins s2 σ H2 _ I2 q2) fun iv s3 ⟨y, H3, I3, ry, a, H4, ex, g, q3⟩ => ?_) hs
  subst ex
  obtain rfl : u = Value.ref a := rx
  exact d_setItem hu I3 g ry rv fun s4 I4 => ⟨σ, H4, I4, q3⟩
end


section
variable {X : Cx} {pos : Pos}
end

abbrev VV : List (V × V) → List (Value × Value) → Prop := Paired fun p q => RelV p.1 q.1 ∧ RelV p.2 q.2
structure M1 (X : Cx) (o : Expr) (m : Str) (apos : Pos) (e : Expr) (cpos : Pos) : Prop where
  base : attributeBase o m X.env (eval o X.env) = eval o X.env
  few : ((backTo cpos (starEach [e] X.env)).all (fun x => !x.1) && (backToKw cpos (keywordEach [] X.env)).all (fun x => x.1.isSome)
    && decide (([e] : List Expr).length + ([] : List Keyword).length + (if ([] : List Keyword).isEmpty then 0 else 1) < 30)) = true
  line : (apos.endLine == cpos.line) = true
  trees : backTo cpos (starEach [e] X.env) = [(false, eval e X.env)]
structure M2 (X : Cx) (o : Expr) (m : Str) (apos : Pos) (e f : Expr) (cpos : Pos) : Prop where
  base : attributeBase o m X.env (eval o X.env) = eval o X.env
  few : ((backTo cpos (starEach [e, f] X.env)).all (fun x => !x.1) && (backToKw cpos (keywordEach [] X.env)).all (fun x => x.1.isSome)
    && decide (([e, f] : List Expr).length + ([] : List Keyword).length + (if ([] : List Keyword).isEmpty then 0 else 1) < 30)) = true
  line : (apos.endLine == cpos.line) = true
  trees : backTo cpos (starEach [e, f] X.env) = [(false, eval e X.env), (false, eval f X.env)]

section
variable {X : Cx} {pins : List (Addr × Obj)} {σ : St} {H : Hp} {s : Shared} {a : Addr} {y d : V} {u r : Value} {o : Option V} {A : Around} {E : Value → Shared → Prop}
end

section
variable {X : Cx} {o e f : Expr} {apos cpos : Pos} {td ty tx : TE}
end

section
variable {X : Cx} {pins : List (Addr × Obj)} {σ : St} {H : Hp} {s : Shared} {a : Addr} {kvs : List (Key × V)} {A : Around} {E : Value → Shared → Prop}
end


section
variable {X : Cx} {pins : List (Addr × Obj)} {σ : St} {H : Hp} {s : Shared} {a : Addr} {y : V} {u : Value} {A : Around} {E : Value → Shared → Prop}
end
end L2

namespace L2
open PySem PySem.Spec PyProof.Rows
section
variable {X : Cx}
theorem call_lenD : CallR X (.builtin "len") (fun xs H Q => ∃ a kvs, xs = [V.ref a] ∧ H a = some (.dK kvs) ∧ Q (.int kvs.length) H) := by
  intro pins s σ H xs us Q I r h
  obtain ⟨a, kvs, rfl, ha, q⟩ := h
  obtain ⟨u, rfl, ru⟩ := vals1 r
  cases ru
  exact d_len I (.inl ha) fun t s' I' => ⟨.int kvs.length, H, I', ⟨t, rfl⟩, q⟩
end
section
variable {κ : Type} [DecidableEq κ]
end
end L2

set_option Elab.async false
set_option linter.all false
set_option maxRecDepth 100000
set_option maxHeartbeats 4000000
namespace L2
open PySem PySem.Spec PyProof.Rows

section
variable {prog : Program} {w : World} {A : Around} {E : Value → Shared → Prop} {s : Shared} {κ : Type} [DecidableEq κ] {knd : KeyKind prog w κ}
end
section
variable {X : Cx}
theorem call_int_bl : CallR X (.type "int") (fun xs H Q => ∃ b, xs = [.bl b] ∧ Q (.int (if b = true then 1 else 0)) H) := by
  intro pins s σ H xs us Q I r h
  obtain ⟨b, rfl, q⟩ := h
  obtain ⟨u, rfl, rx⟩ := vals1 r
  cases rx
  refine PySem.call_int_bool ⟨.int (if b = true then 1 else 0), H, I.tok _, ⟨_, rfl⟩, q⟩
end
end L2

set_option Elab.async false
set_option linter.all false
set_option maxRecDepth 100000
set_option maxHeartbeats 4000000
namespace K1
open PySem L2

def wo (H : Hp) (l : Addr) : Hp := fun a => if a = l then none else H a
theorem wo_ne {H : Hp} {l a : Addr} (h : a ≠ l) : wo H l a = H a := if_neg h
theorem wo_same {H : Hp} {l : Addr} : Same (wo H l) H := fun a o e => by
  by_cases h : a = l
  · rw [wo, if_pos h] at e; cases e
  · rw [wo_ne h] at e; exact e
theorem wo_of {H : Hp} {l a : Addr} {o : HO} (e : wo H l a = some o) : a ≠ l ∧ H a = some o := by
  by_cases h : a = l
  · rw [wo, if_pos h] at e; cases e
  · rw [wo_ne h] at e; exact ⟨h, e⟩
theorem wo_mono {H H' : Hp} {l : Addr} (s : Same H H') : Same (wo H l) (wo H' l) := fun a o e => by
  obtain ⟨h, e⟩ := wo_of e
  rw [wo_ne h]; exact s _ _ e
theorem wo_upd {H : Hp} {l : Addr} {o : HO} : wo (upd H l o) l = wo H l := by
  funext a
  by_cases h : a = l
  · rw [wo, wo, if_pos h, if_pos h]
  · rw [wo_ne h, wo_ne h, upd_ne h]
theorem wo_at {H : Hp} {l a : Addr} {o : HO} (e : H a = some o) (h : a ≠ l) : wo H l a = some o := by rw [wo_ne h]; exact e
theorem same_put {H0 H : Hp} {l : Addr} (s : Same H0 H) (n : H0 l = none) (o : HO) : Same H0 (upd H l o) := fun a u e => by
  rw [upd_ne (ne_of_none e n)]; exact s _ _ e
inductive Al {β α : Type} (R : β → α → Prop) : List β → List α → Prop where
  | nil : Al R [] []
  | cons {v : β} {x : α} {vs : List β} {xs : List α} : R v x → Al R vs xs → Al R (v :: vs) (x :: xs)
section
variable {β α : Type} {R R' : β → α → Prop}
theorem Al.length {vs : List β} {xs : List α} (h : Al R vs xs) : vs.length = xs.length := by
  induction h with
  | nil => rfl
  | cons _ _ ih => rw [List.length_cons, List.length_cons, ih]
theorem Al.imp {vs : List β} {xs : List α} (h : Al R vs xs) (f : ∀ v x, R v x → R' v x) : Al R' vs xs := by
  induction h with
  | nil => exact .nil
  | cons a _ ih => exact .cons (f _ _ a) ih
theorem Al.app {vs us : List β} {xs ys : List α} (h : Al R vs xs) (g : Al R us ys) : Al R (vs ++ us) (xs ++ ys) := by
  induction h with
  | nil => exact g
  | cons a _ ih => exact .cons a ih
theorem Al.snoc {vs : List β} {xs : List α} {v : β} {x : α} (h : Al R vs xs) (g : R v x) : Al R (vs ++ [v]) (xs ++ [x]) := h.app (.cons g .nil)
theorem Al.get {vs : List β} {xs : List α} (h : Al R vs xs) : ∀ {i : Nat} {v : β}, vs[i]? = some v → ∃ x, xs[i]? = some x ∧ R v x := by
  induction h with
  | nil => intro i v e; cases e
  | cons a _ ih =>
    intro i v e
    cases i with
    | zero => cases e; exact ⟨_, rfl, a⟩
    | succ i => exact ih e
theorem Al.take {vs : List β} {xs : List α} (h : Al R vs xs) : ∀ n, Al R (vs.take n) (xs.take n) := by
  induction h with
  | nil => intro n; rw [List.take_nil, List.take_nil]; exact .nil
  | cons a _ ih =>
    intro n
    cases n with
    | zero => exact .nil
    | succ n => exact .cons a (ih n)
theorem Al.drop {vs : List β} {xs : List α} (h : Al R vs xs) : ∀ n, Al R (vs.drop n) (xs.drop n) := by
  induction h with
  | nil => intro n; rw [List.drop_nil, List.drop_nil]; exact .nil
  | cons a b ih =>
    intro n
    cases n with
    | zero => exact .cons a b
    | succ n => exact ih n
theorem Al.nil_iff {vs : List β} {xs : List α} (h : Al R vs xs) : vs = [] ↔ xs = [] := by
  have := h.length
  constructor
  · intro e; rw [e] at this; exact List.eq_nil_of_length_eq_zero this.symm
  · intro e; rw [e] at this; exact List.eq_nil_of_length_eq_zero this
end
def NameOk (z : Str) : Prop := 1 ≤ z.length ∧ z.length ≤ 8 ∧ (∀ c ∈ z.cps.toList, 97 ≤ c ∧ c ≤ 122) ∧ z ≠ Str.ofString "nowhere"
theorem bitAnd_nat (a b : Nat) : Builtin.bitAnd (a : Int) (b : Int) = ((a &&& b : Nat) : Int) := by
  unfold Builtin.bitAnd
  rw [decide_eq_true (show (0 : Int) ≤ (a : Int) by omega), decide_eq_true (show (0 : Int) ≤ (b : Int) by omega)]
  rfl
theorem bitNot_bitNot (x : Int) : Builtin.bitNot (Builtin.bitNot x) = x := by
  unfold Builtin.bitNot; omega
theorem bitOr_nat (a b : Nat) : Builtin.bitOr (a : Int) (b : Int) = ((a ||| b : Nat) : Int) := by
  unfold Builtin.bitOr Builtin.bitAnd
  rw [decide_eq_false (show ¬ (0 : Int) ≤ Builtin.bitNot (a : Int) by unfold Builtin.bitNot; omega), decide_eq_false (show ¬ (0 : Int) ≤ Builtin.bitNot (b : Int) by unfold Builtin.bitNot; omega)]
  show Builtin.bitNot (Builtin.bitNot _) = _
  rw [bitNot_bitNot, bitNot_bitNot, bitNot_bitNot]
  rfl
end K1

set_option Elab.async false
set_option linter.all false
namespace L2
open PySem PySem.Spec PyProof.Rows
section
variable {X : Cx} {a b : Expr} {rest : List Expr} {ta tb : TE} {pos : Pos}
def tOrL (K : PySem.W.Frag) (ta tb : TE) : TE := fun σ H Q => ta σ H fun x H1 => ∃ c, TruV K x H1 c ∧ if c = true then Q x H1 else tb σ H1 Q
theorem pe_orL (ha : PE X a ta) (hb : PE X (.BoolOp .Or (b :: rest) pos) tb) : PE X (.BoolOp .Or (a :: b :: rest) pos) (tOrL X.K ta tb) := by
  intro pins s σ H Q I h
  refine BoolOp_or (thn (ha pins s σ H _ I h) fun v s1 ⟨x, H1, I1, r1, q1⟩ => ?_)
  obtain ⟨c, tr, q1⟩ := q1
  refine thn (tru_ok pins s1 σ H1 x v (fun c' H' => c' = c ∧ H' = H1) I1 r1 ⟨c, tr, rfl, rfl⟩) fun c' s2 ⟨H2, I2, e1, e2⟩ => ?_
  subst e1 e2
  cases c' with
  | false => exact hb pins s2 σ _ Q I2 q1
  | true => exact ⟨x, _, I2, r1, q1⟩
end
end L2

set_option Elab.async false
set_option linter.all false
set_option maxRecDepth 100000
set_option maxHeartbeats 4000000
namespace K17
open PySem L2 K1
seal PySem.wpAny
def top (i : Nat) : Stmt := PySem.Challenge.pw_roadbook_k17_zones_and_tickets.main.body.getD i (.Pass ⟨0, 0, 0, 0⟩)
abbrev s_wall : Stmt := top 0
abbrev s_is_any_number : Stmt := top 23
theorem sc_is_any_number : FnScope ["value"] ["value"] (defScope s_is_any_number) := ⟨rfl, rfl, rfl, by decide +kernel, rfl, by decide +kernel, by decide +kernel⟩
abbrev s_is_number : Stmt := top 24
theorem sc_is_number : FnScope ["value", "least", "most"] ["value", "least", "most"] (defScope s_is_number) := ⟨rfl, rfl, rfl, by decide +kernel, rfl, by decide +kernel, by decide +kernel⟩
abbrev s_check_number : Stmt := top 25
theorem sc_check_number : FnScope ["value", "least", "most"] ["value", "least", "most"] (defScope s_check_number) := ⟨rfl, rfl, rfl, by decide +kernel, rfl, by decide +kernel, by decide +kernel⟩
abbrev s_are_rising : Stmt := top 26
theorem sc_are_rising : FnScope ["values", "longest", "least", "most", "floor", "value"] ["values", "longest", "least", "most"] (defScope s_are_rising) := ⟨rfl, rfl, rfl, by decide +kernel, rfl, by decide +kernel, by decide +kernel⟩
abbrev s_is_name : Stmt := top 27
theorem sc_is_name : FnScope ["value"] ["value"] (defScope s_is_name) := ⟨rfl, rfl, rfl, by decide +kernel, rfl, by decide +kernel, by decide +kernel⟩
abbrev s_is_known : Stmt := top 28
theorem sc_is_known : FnScope ["value", "named"] ["value", "named"] (defScope s_is_known) := ⟨rfl, rfl, rfl, by decide +kernel, rfl, by decide +kernel, by decide +kernel⟩
abbrev s_zone_bits : Stmt := top 30
theorem sc_zone_bits : FnScope ["zones", "bits", "zone"] ["zones"] (defScope s_zone_bits) := ⟨rfl, rfl, rfl, by decide +kernel, rfl, by decide +kernel, by decide +kernel⟩
abbrev s_zones_of : Stmt := top 31
theorem sc_zones_of : FnScope ["net", "trip", "board", "off", "calls"] ["net", "trip", "board", "off"] (defScope s_zones_of) := ⟨rfl, rfl, rfl, by decide +kernel, rfl, by decide +kernel, by decide +kernel⟩
abbrev s_fits : Stmt := top 32
theorem sc_fits : FnScope ["net", "ticket", "bits"] ["net", "ticket", "bits"] (defScope s_fits) := ⟨rfl, rfl, rfl, by decide +kernel, rfl, by decide +kernel, by decide +kernel⟩
abbrev s_copy_of : Stmt := top 35
theorem sc_copy_of : FnScope ["rule"] ["rule"] (defScope s_copy_of) := ⟨rfl, rfl, rfl, by decide +kernel, rfl, by decide +kernel, by decide +kernel⟩
abbrev s_check_new : Stmt := top 48
theorem sc_check_new : FnScope ["name", "named"] ["name", "named"] (defScope s_check_new) := ⟨rfl, rfl, rfl, by decide +kernel, rfl, by decide +kernel, by decide +kernel⟩
abbrev s_check_room : Stmt := top 49
theorem sc_check_room : FnScope ["kept", "most"] ["kept", "most"] (defScope s_check_room) := ⟨rfl, rfl, rfl, by decide +kernel, rfl, by decide +kernel, by decide +kernel⟩
abbrev s_have_calls_form : Stmt := top 50
theorem sc_have_calls_form : FnScope ["calls"] ["calls"] (defScope s_have_calls_form) := ⟨rfl, rfl, rfl, by decide +kernel, rfl, by decide +kernel, by decide +kernel⟩
abbrev s_can_follow : Stmt := top 51
theorem sc_can_follow : FnScope ["call", "ahead"] ["call", "ahead"] (defScope s_can_follow) := ⟨rfl, rfl, rfl, by decide +kernel, rfl, by decide +kernel, by decide +kernel⟩
abbrev s_law_draw : Stmt := top 54
theorem sc_law_draw : FnScope ["_law_script", "_law_k", "_law_cell", "_law_number"] ["_law_script", "_law_k"] (defScope s_law_draw) := ⟨rfl, rfl, rfl, by decide +kernel, rfl, by decide +kernel, by decide +kernel⟩
abbrev s_law_whole : Stmt := top 55
theorem sc_law_whole : FnScope ["_law_found"] ["_law_found"] (defScope s_law_whole) := ⟨rfl, rfl, rfl, by decide +kernel, rfl, by decide +kernel, by decide +kernel⟩
abbrev s_law_word : Stmt := top 56
theorem sc_law_word : FnScope ["_law_e", "_law_some"] ["_law_e"] (defScope s_law_word) := ⟨rfl, rfl, rfl, by decide +kernel, rfl, by decide +kernel, by decide +kernel⟩
abbrev s_law_names : Stmt := top 57
theorem sc_law_names : FnScope ["_law_script", "_law_k", "_law_many", "_law_letters", "_law_number", "_law_row", "_law_size", "_law_at", "_law_rest"] ["_law_script", "_law_k", "_law_many"] (defScope s_law_names) := ⟨rfl, rfl, rfl, by decide +kernel, rfl, by decide +kernel, by decide +kernel⟩
abbrev s_law_calls : Stmt := top 58
theorem sc_law_calls : FnScope ["_law_script", "_law_k", "_law_names_here", "_law_calls_here", "_law_stop", "_law_minute", "_law_j", "_law_number", "_law_arrive"] ["_law_script", "_law_k", "_law_names_here"] (defScope s_law_calls) := ⟨rfl, rfl, rfl, by decide +kernel, rfl, by decide +kernel, by decide +kernel⟩
abbrev s_law_zones : Stmt := top 59
theorem sc_law_zones : FnScope ["_law_bits_here"] ["_law_bits_here"] (defScope s_law_zones) := ⟨rfl, rfl, rfl, by decide +kernel, rfl, by decide +kernel, by decide +kernel⟩
abbrev s_law_tickets : Stmt := top 60
theorem sc_law_tickets : FnScope ["_law_script", "_law_k", "_law_many", "_law_found", "_law_j", "_law_name", "_law_number", "_law_price", "_law_lasts", "_law_bits_here"] ["_law_script", "_law_k", "_law_many"] (defScope s_law_tickets) := ⟨rfl, rfl, rfl, by decide +kernel, rfl, by decide +kernel, by decide +kernel⟩
abbrev s_law_bits : Stmt := top 61
theorem sc_law_bits : FnScope ["_law_zones_here"] ["_law_zones_here"] (defScope s_law_bits) := ⟨rfl, rfl, rfl, by decide +kernel, rfl, by decide +kernel, by decide +kernel⟩
abbrev s_law_net : Stmt := top 62
theorem sc_law_net : FnScope ["_law_script", "_law_names_here", "_law_zones_here", "_law_tickets_here", "_law_net_here", "_law_k", "_law_name", "_law_price", "_law_lasts", "_law_its", "_law_trips"] ["_law_script", "_law_names_here", "_law_zones_here", "_law_tickets_here"] (defScope s_law_net) := ⟨rfl, rfl, rfl, by decide +kernel, rfl, by decide +kernel, by decide +kernel⟩
abbrev s_law_refused : Stmt := top 63
theorem sc_law_refused : FnScope ["_law_way", "_law_net_here", "_law_name", "_law_board", "_law_off", "_law_caught", "_law_e"] ["_law_way", "_law_net_here", "_law_name", "_law_board", "_law_off"] (defScope s_law_refused) := ⟨rfl, rfl, rfl, by decide +kernel, rfl, by decide +kernel, by decide +kernel⟩
abbrev s_law_rides_right : Stmt := top 64
theorem sc_law_rides_right : FnScope ["_law_script", "_law_net_here", "_law_trip", "_law_k", "_law_names_here", "_law_zones_here", "_law_calls_here", "_law_board", "_law_off", "_law_met", "_law_found", "_law_number", "_law_last", "_law_odd"] ["_law_script", "_law_net_here", "_law_trip", "_law_k", "_law_names_here", "_law_zones_here"] (defScope s_law_rides_right) := ⟨rfl, rfl, rfl, by decide +kernel, rfl, by decide +kernel, by decide +kernel⟩
abbrev s_law : Stmt := top 65
theorem sc_law : FnScope ["_law_script", "_law_names_here", "_law_zones_here", "_law_tickets_here", "_law_net_here", "_law_trips", "_law_k", "_law_trip", "_law_number", "_law_some", "_law_handed", "_law_found", "_law_more", "_law_wanted", "_law_ticket", "_law_left", "_law_odd"] ["_law_script"] (defScope s_law) := ⟨rfl, rfl, rfl, by decide +kernel, rfl, by decide +kernel, by decide +kernel⟩
abbrev s_Rule_copied : Stmt := inClass (top 36) 0
theorem sc_Rule_copied : FnScope ["self"] ["self"] (defScope s_Rule_copied) := ⟨rfl, rfl, rfl, by decide +kernel, rfl, by decide +kernel, by decide +kernel⟩
abbrev s_Rule_parts : Stmt := inClass (top 36) 1
abbrev s_Rule_runs : Stmt := inClass (top 36) 2
abbrev s_Rule_words : Stmt := inClass (top 36) 3
abbrev s_Rule_weight : Stmt := inClass (top 36) 4
abbrev s_Rule_depth : Stmt := inClass (top 36) 5
abbrev s_Net_init : Stmt := inClass (top 52) 0
theorem sc_Net_init : FnScope ["self"] ["self"] (defScope s_Net_init) := ⟨rfl, rfl, rfl, by decide +kernel, rfl, by decide +kernel, by decide +kernel⟩
abbrev s_Net_copied : Stmt := inClass (top 52) 1
abbrev s_Net_add_stop : Stmt := inClass (top 52) 2
theorem sc_Net_add_stop : FnScope ["self", "name", "zone", "change"] ["self", "name", "zone", "change"] (defScope s_Net_add_stop) := ⟨rfl, rfl, rfl, by decide +kernel, rfl, by decide +kernel, by decide +kernel⟩
abbrev s_Net_add_walk : Stmt := inClass (top 52) 3
abbrev s_Net_add_rule : Stmt := inClass (top 52) 4
theorem sc_Net_add_rule : FnScope ["self", "name", "rule", "kept"] ["self", "name", "rule"] (defScope s_Net_add_rule) := ⟨rfl, rfl, rfl, by decide +kernel, rfl, by decide +kernel, by decide +kernel⟩
abbrev s_Net_add_ticket : Stmt := inClass (top 52) 5
theorem sc_Net_add_ticket : FnScope ["self", "name", "price", "lasts", "zones"] ["self", "name", "price", "lasts", "zones"] (defScope s_Net_add_ticket) := ⟨rfl, rfl, rfl, by decide +kernel, rfl, by decide +kernel, by decide +kernel⟩
abbrev s_Net_add_trip : Stmt := inClass (top 52) 6
theorem sc_Net_add_trip : FnScope ["self", "name", "rule", "calls", "number", "call"] ["self", "name", "rule", "calls"] (defScope s_Net_add_trip) := ⟨rfl, rfl, rfl, by decide +kernel, rfl, by decide +kernel, by decide +kernel⟩
abbrev s_Net_check_stop : Stmt := inClass (top 52) 7
theorem sc_Net_check_stop : FnScope ["self", "name"] ["self", "name"] (defScope s_Net_check_stop) := ⟨rfl, rfl, rfl, by decide +kernel, rfl, by decide +kernel, by decide +kernel⟩
abbrev s_Net_check_trip : Stmt := inClass (top 52) 8
theorem sc_Net_check_trip : FnScope ["self", "name"] ["self", "name"] (defScope s_Net_check_trip) := ⟨rfl, rfl, rfl, by decide +kernel, rfl, by decide +kernel, by decide +kernel⟩
abbrev s_Net_check_call : Stmt := inClass (top 52) 9
theorem sc_Net_check_call : FnScope ["self", "call"] ["self", "call"] (defScope s_Net_check_call) := ⟨rfl, rfl, rfl, by decide +kernel, rfl, by decide +kernel, by decide +kernel⟩
abbrev s_Net_has_walk : Stmt := inClass (top 52) 10
abbrev s_Net_stops : Stmt := inClass (top 52) 11
abbrev s_Net_walks : Stmt := inClass (top 52) 12
abbrev s_Net_rules : Stmt := inClass (top 52) 13
abbrev s_Net_tickets : Stmt := inClass (top 52) 14
abbrev s_Net_trips : Stmt := inClass (top 52) 15
abbrev s_Net_zone : Stmt := inClass (top 52) 16
theorem sc_Net_zone : FnScope ["self", "stop"] ["self", "stop"] (defScope s_Net_zone) := ⟨rfl, rfl, rfl, by decide +kernel, rfl, by decide +kernel, by decide +kernel⟩
abbrev s_Net_change : Stmt := inClass (top 52) 17
abbrev s_Net_rule : Stmt := inClass (top 52) 18
abbrev s_Net_ticket : Stmt := inClass (top 52) 19
theorem sc_Net_ticket : FnScope ["self", "name", "row"] ["self", "name"] (defScope s_Net_ticket) := ⟨rfl, rfl, rfl, by decide +kernel, rfl, by decide +kernel, by decide +kernel⟩
abbrev s_Net_rule_name : Stmt := inClass (top 52) 20
abbrev s_Net_calls : Stmt := inClass (top 52) 21
theorem sc_Net_calls : FnScope ["self", "trip"] ["self", "trip"] (defScope s_Net_calls) := ⟨rfl, rfl, rfl, by decide +kernel, rfl, by decide +kernel, by decide +kernel⟩
theorem b_ValueError : bootBuiltins "ValueError" = some (.type "ValueError") := by decide +kernel
theorem b_all : bootBuiltins "all" = some (.builtin "all") := by decide +kernel
theorem b_bool : bootBuiltins "bool" = some (.type "bool") := by decide +kernel
theorem b_int : bootBuiltins "int" = some (.type "int") := by decide +kernel
theorem b_isinstance : bootBuiltins "isinstance" = some (.builtin "isinstance") := by decide +kernel
theorem b_len : bootBuiltins "len" = some (.builtin "len") := by decide +kernel
theorem b_list : bootBuiltins "list" = some (.type "list") := by decide +kernel
theorem b_set : bootBuiltins "set" = some (.type "set") := by decide +kernel
theorem b_sorted : bootBuiltins "sorted" = some (.builtin "sorted") := by decide +kernel
theorem b_str : bootBuiltins "str" = some (.type "str") := by decide +kernel
theorem b_sum : bootBuiltins "sum" = some (.builtin "sum") := by decide +kernel
theorem b_tuple : bootBuiltins "tuple" = some (.type "tuple") := by decide +kernel
structure Adr where
  f_wall : Addr
  d_wall : FuncData
  f_is_any_number : Addr
  d_is_any_number : FuncData
  f_is_number : Addr
  d_is_number : FuncData
  f_check_number : Addr
  d_check_number : FuncData
  f_are_rising : Addr
  d_are_rising : FuncData
  f_is_name : Addr
  d_is_name : FuncData
  f_is_known : Addr
  d_is_known : FuncData
  f_zone_bits : Addr
  d_zone_bits : FuncData
  f_zones_of : Addr
  d_zones_of : FuncData
  f_fits : Addr
  d_fits : FuncData
  f_copy_of : Addr
  d_copy_of : FuncData
  f_check_new : Addr
  d_check_new : FuncData
  f_check_room : Addr
  d_check_room : FuncData
  f_have_calls_form : Addr
  d_have_calls_form : FuncData
  f_can_follow : Addr
  d_can_follow : FuncData
  f_law_draw : Addr
  d_law_draw : FuncData
  f_law_whole : Addr
  d_law_whole : FuncData
  f_law_word : Addr
  d_law_word : FuncData
  f_law_names : Addr
  d_law_names : FuncData
  f_law_calls : Addr
  d_law_calls : FuncData
  f_law_zones : Addr
  d_law_zones : FuncData
  f_law_tickets : Addr
  d_law_tickets : FuncData
  f_law_bits : Addr
  d_law_bits : FuncData
  f_law_net : Addr
  d_law_net : FuncData
  f_law_refused : Addr
  d_law_refused : FuncData
  f_law_rides_right : Addr
  d_law_rides_right : FuncData
  f_law : Addr
  d_law : FuncData
  f_Rule_copied : Addr
  d_Rule_copied : FuncData
  f_Rule_parts : Addr
  d_Rule_parts : FuncData
  f_Rule_runs : Addr
  d_Rule_runs : FuncData
  f_Rule_words : Addr
  d_Rule_words : FuncData
  f_Rule_weight : Addr
  d_Rule_weight : FuncData
  f_Rule_depth : Addr
  d_Rule_depth : FuncData
  f_Net_init : Addr
  d_Net_init : FuncData
  f_Net_copied : Addr
  d_Net_copied : FuncData
  f_Net_add_stop : Addr
  d_Net_add_stop : FuncData
  f_Net_add_walk : Addr
  d_Net_add_walk : FuncData
  f_Net_add_rule : Addr
  d_Net_add_rule : FuncData
  f_Net_add_ticket : Addr
  d_Net_add_ticket : FuncData
  f_Net_add_trip : Addr
  d_Net_add_trip : FuncData
  f_Net_check_stop : Addr
  d_Net_check_stop : FuncData
  f_Net_check_trip : Addr
  d_Net_check_trip : FuncData
  f_Net_check_call : Addr
  d_Net_check_call : FuncData
  f_Net_has_walk : Addr
  d_Net_has_walk : FuncData
  f_Net_stops : Addr
  d_Net_stops : FuncData
  f_Net_walks : Addr
  d_Net_walks : FuncData
  f_Net_rules : Addr
  d_Net_rules : FuncData
  f_Net_tickets : Addr
  d_Net_tickets : FuncData
  f_Net_trips : Addr
  d_Net_trips : FuncData
  f_Net_zone : Addr
  d_Net_zone : FuncData
  f_Net_change : Addr
  d_Net_change : FuncData
  f_Net_rule : Addr
  d_Net_rule : FuncData
  f_Net_ticket : Addr
  d_Net_ticket : FuncData
  f_Net_rule_name : Addr
  d_Net_rule_name : FuncData
  f_Net_calls : Addr
  d_Net_calls : FuncData
  c_RoadError : Addr
  c_BadClock : Addr
  c_BadRule : Addr
  c_TooMany : Addr
  c_BadName : Addr
  c_Twice : Addr
  c_NoStop : Addr
  c_NoRule : Addr
  c_NoTicket : Addr
  c_NoTrip : Addr
  c_BadNumber : Addr
  c_BadCalls : Addr
  c_BadRow : Addr
  c_NoRun : Addr
  c_NoPlan : Addr
  c_TooLate : Addr
  c_NoTraveller : Addr
  c_BadLine : Addr
  c_Rule : Addr
  c_Net : Addr
structure Tab (K : W.Frag) (mg : Str → Option Value) (t : Adr) : Prop where
  z_ValueError : mg "ValueError" = none
  z_all : mg "all" = none
  z_bool : mg "bool" = none
  z_dict : mg "dict" = none
  z_enumerate : mg "enumerate" = none
  z_int : mg "int" = none
  z_isinstance : mg "isinstance" = none
  z_len : mg "len" = none
  z_list : mg "list" = none
  z_range : mg "range" = none
  z_set : mg "set" = none
  z_sorted : mg "sorted" = none
  z_str : mg "str" = none
  z_sum : mg "sum" = none
  z_tuple : mg "tuple" = none
  m_LETTERS : ∃ tk, mg "LETTERS" = some (.str (Str.ofString "abcdefghijklmnopqrstuvwxyz") tk)
  m_MOST_LETTERS : ∃ tk, mg "MOST_LETTERS" = some (.int 8 tk)
  m_LAST_MINUTE : ∃ tk, mg "LAST_MINUTE" = some (.int 2879 tk)
  m_MOST_STOPS : ∃ tk, mg "MOST_STOPS" = some (.int 8 tk)
  m_MOST_RULES : ∃ tk, mg "MOST_RULES" = some (.int 6 tk)
  m_MOST_TICKETS : ∃ tk, mg "MOST_TICKETS" = some (.int 3 tk)
  m_MOST_TRIPS : ∃ tk, mg "MOST_TRIPS" = some (.int 10 tk)
  m_LAST_ZONE : ∃ tk, mg "LAST_ZONE" = some (.int 6 tk)
  m_MOST_CHANGE : ∃ tk, mg "MOST_CHANGE" = some (.int 30 tk)
  m_MOST_PRICE : ∃ tk, mg "MOST_PRICE" = some (.int 10000 tk)
  m_MOST_LASTING : ∃ tk, mg "MOST_LASTING" = some (.int 1440 tk)
  m_LEAST_CALLS : ∃ tk, mg "LEAST_CALLS" = some (.int 2 tk)
  m_MOST_CALLS : ∃ tk, mg "MOST_CALLS" = some (.int 6 tk)
  F_wall : Fun K "_wall" "_wall" s_wall t.f_wall t.d_wall
  m_wall : mg "_wall" = some (.ref t.f_wall)
  b_wall : Binds K t.d_wall ["k"] []
  F_is_any_number : Fun K "is_any_number" "is_any_number" s_is_any_number t.f_is_any_number t.d_is_any_number
  m_is_any_number : mg "is_any_number" = some (.ref t.f_is_any_number)
  b_is_any_number : Binds K t.d_is_any_number ["value"] []
  F_is_number : Fun K "is_number" "is_number" s_is_number t.f_is_number t.d_is_number
  m_is_number : mg "is_number" = some (.ref t.f_is_number)
  b_is_number : Binds K t.d_is_number ["value", "least", "most"] []
  F_check_number : Fun K "check_number" "check_number" s_check_number t.f_check_number t.d_check_number
  m_check_number : mg "check_number" = some (.ref t.f_check_number)
  b_check_number : Binds K t.d_check_number ["value", "least", "most"] []
  F_are_rising : Fun K "are_rising" "are_rising" s_are_rising t.f_are_rising t.d_are_rising
  m_are_rising : mg "are_rising" = some (.ref t.f_are_rising)
  b_are_rising : Binds K t.d_are_rising ["values", "longest", "least", "most"] []
  F_is_name : Fun K "is_name" "is_name" s_is_name t.f_is_name t.d_is_name
  m_is_name : mg "is_name" = some (.ref t.f_is_name)
  b_is_name : Binds K t.d_is_name ["value"] []
  F_is_known : Fun K "is_known" "is_known" s_is_known t.f_is_known t.d_is_known
  m_is_known : mg "is_known" = some (.ref t.f_is_known)
  b_is_known : Binds K t.d_is_known ["value", "named"] []
  F_zone_bits : Fun K "zone_bits" "zone_bits" s_zone_bits t.f_zone_bits t.d_zone_bits
  m_zone_bits : mg "zone_bits" = some (.ref t.f_zone_bits)
  b_zone_bits : Binds K t.d_zone_bits ["zones"] []
  F_zones_of : Fun K "zones_of" "zones_of" s_zones_of t.f_zones_of t.d_zones_of
  m_zones_of : mg "zones_of" = some (.ref t.f_zones_of)
  b_zones_of : Binds K t.d_zones_of ["net", "trip", "board", "off"] []
  F_fits : Fun K "fits" "fits" s_fits t.f_fits t.d_fits
  m_fits : mg "fits" = some (.ref t.f_fits)
  b_fits : Binds K t.d_fits ["net", "ticket", "bits"] []
  F_copy_of : Fun K "copy_of" "copy_of" s_copy_of t.f_copy_of t.d_copy_of
  m_copy_of : mg "copy_of" = some (.ref t.f_copy_of)
  b_copy_of : Binds K t.d_copy_of ["rule"] []
  F_check_new : Fun K "check_new" "check_new" s_check_new t.f_check_new t.d_check_new
  m_check_new : mg "check_new" = some (.ref t.f_check_new)
  b_check_new : Binds K t.d_check_new ["name", "named"] []
  F_check_room : Fun K "check_room" "check_room" s_check_room t.f_check_room t.d_check_room
  m_check_room : mg "check_room" = some (.ref t.f_check_room)
  b_check_room : Binds K t.d_check_room ["kept", "most"] []
  F_have_calls_form : Fun K "have_calls_form" "have_calls_form" s_have_calls_form t.f_have_calls_form t.d_have_calls_form
  m_have_calls_form : mg "have_calls_form" = some (.ref t.f_have_calls_form)
  b_have_calls_form : Binds K t.d_have_calls_form ["calls"] []
  F_can_follow : Fun K "can_follow" "can_follow" s_can_follow t.f_can_follow t.d_can_follow
  m_can_follow : mg "can_follow" = some (.ref t.f_can_follow)
  b_can_follow : Binds K t.d_can_follow ["call", "ahead"] []
  F_law_draw : Fun K "_law_draw" "_law_draw" s_law_draw t.f_law_draw t.d_law_draw
  m_law_draw : mg "_law_draw" = some (.ref t.f_law_draw)
  b_law_draw : Binds K t.d_law_draw ["_law_script", "_law_k"] []
  F_law_whole : Fun K "_law_whole" "_law_whole" s_law_whole t.f_law_whole t.d_law_whole
  m_law_whole : mg "_law_whole" = some (.ref t.f_law_whole)
  b_law_whole : Binds K t.d_law_whole ["_law_found"] []
  F_law_word : Fun K "_law_word" "_law_word" s_law_word t.f_law_word t.d_law_word
  m_law_word : mg "_law_word" = some (.ref t.f_law_word)
  b_law_word : Binds K t.d_law_word ["_law_e"] []
  F_law_names : Fun K "_law_names" "_law_names" s_law_names t.f_law_names t.d_law_names
  m_law_names : mg "_law_names" = some (.ref t.f_law_names)
  b_law_names : Binds K t.d_law_names ["_law_script", "_law_k", "_law_many"] []
  F_law_calls : Fun K "_law_calls" "_law_calls" s_law_calls t.f_law_calls t.d_law_calls
  m_law_calls : mg "_law_calls" = some (.ref t.f_law_calls)
  b_law_calls : Binds K t.d_law_calls ["_law_script", "_law_k", "_law_names_here"] []
  F_law_zones : Fun K "_law_zones" "_law_zones" s_law_zones t.f_law_zones t.d_law_zones
  m_law_zones : mg "_law_zones" = some (.ref t.f_law_zones)
  b_law_zones : Binds K t.d_law_zones ["_law_bits_here"] []
  F_law_tickets : Fun K "_law_tickets" "_law_tickets" s_law_tickets t.f_law_tickets t.d_law_tickets
  m_law_tickets : mg "_law_tickets" = some (.ref t.f_law_tickets)
  b_law_tickets : Binds K t.d_law_tickets ["_law_script", "_law_k", "_law_many"] []
  F_law_bits : Fun K "_law_bits" "_law_bits" s_law_bits t.f_law_bits t.d_law_bits
  m_law_bits : mg "_law_bits" = some (.ref t.f_law_bits)
  b_law_bits : Binds K t.d_law_bits ["_law_zones_here"] []
  F_law_net : Fun K "_law_net" "_law_net" s_law_net t.f_law_net t.d_law_net
  m_law_net : mg "_law_net" = some (.ref t.f_law_net)
  b_law_net : Binds K t.d_law_net ["_law_script", "_law_names_here", "_law_zones_here", "_law_tickets_here"] []
  F_law_refused : Fun K "_law_refused" "_law_refused" s_law_refused t.f_law_refused t.d_law_refused
  m_law_refused : mg "_law_refused" = some (.ref t.f_law_refused)
  b_law_refused : Binds K t.d_law_refused ["_law_way", "_law_net_here", "_law_name", "_law_board", "_law_off"] []
  F_law_rides_right : Fun K "_law_rides_right" "_law_rides_right" s_law_rides_right t.f_law_rides_right t.d_law_rides_right
  m_law_rides_right : mg "_law_rides_right" = some (.ref t.f_law_rides_right)
  b_law_rides_right : Binds K t.d_law_rides_right ["_law_script", "_law_net_here", "_law_trip", "_law_k", "_law_names_here", "_law_zones_here"] []
  F_law : Fun K "law" "law" s_law t.f_law t.d_law
  m_law : mg "law" = some (.ref t.f_law)
  b_law : Binds K t.d_law ["_law_script"] []
  F_Rule_copied : Fun K "copied" "Rule.copied" s_Rule_copied t.f_Rule_copied t.d_Rule_copied
  b_Rule_copied : Binds K t.d_Rule_copied ["self"] []
  F_Rule_parts : Fun K "parts" "Rule.parts" s_Rule_parts t.f_Rule_parts t.d_Rule_parts
  b_Rule_parts : Binds K t.d_Rule_parts ["self"] []
  F_Rule_runs : Fun K "runs" "Rule.runs" s_Rule_runs t.f_Rule_runs t.d_Rule_runs
  b_Rule_runs : Binds K t.d_Rule_runs ["self", "day"] []
  F_Rule_words : Fun K "words" "Rule.words" s_Rule_words t.f_Rule_words t.d_Rule_words
  b_Rule_words : Binds K t.d_Rule_words ["self"] []
  F_Rule_weight : Fun K "weight" "Rule.weight" s_Rule_weight t.f_Rule_weight t.d_Rule_weight
  b_Rule_weight : Binds K t.d_Rule_weight ["self"] []
  F_Rule_depth : Fun K "depth" "Rule.depth" s_Rule_depth t.f_Rule_depth t.d_Rule_depth
  b_Rule_depth : Binds K t.d_Rule_depth ["self"] []
  F_Net_init : Fun K "__init__" "Net.__init__" s_Net_init t.f_Net_init t.d_Net_init
  b_Net_init : Binds K t.d_Net_init ["self"] []
  F_Net_copied : Fun K "copied" "Net.copied" s_Net_copied t.f_Net_copied t.d_Net_copied
  b_Net_copied : Binds K t.d_Net_copied ["self"] []
  F_Net_add_stop : Fun K "add_stop" "Net.add_stop" s_Net_add_stop t.f_Net_add_stop t.d_Net_add_stop
  b_Net_add_stop : Binds K t.d_Net_add_stop ["self", "name", "zone", "change"] []
  F_Net_add_walk : Fun K "add_walk" "Net.add_walk" s_Net_add_walk t.f_Net_add_walk t.d_Net_add_walk
  b_Net_add_walk : Binds K t.d_Net_add_walk ["self", "one", "other", "minutes"] []
  F_Net_add_rule : Fun K "add_rule" "Net.add_rule" s_Net_add_rule t.f_Net_add_rule t.d_Net_add_rule
  b_Net_add_rule : Binds K t.d_Net_add_rule ["self", "name", "rule"] []
  F_Net_add_ticket : Fun K "add_ticket" "Net.add_ticket" s_Net_add_ticket t.f_Net_add_ticket t.d_Net_add_ticket
  b_Net_add_ticket : Binds K t.d_Net_add_ticket ["self", "name", "price", "lasts", "zones"] []
  F_Net_add_trip : Fun K "add_trip" "Net.add_trip" s_Net_add_trip t.f_Net_add_trip t.d_Net_add_trip
  b_Net_add_trip : Binds K t.d_Net_add_trip ["self", "name", "rule", "calls"] []
  F_Net_check_stop : Fun K "check_stop" "Net.check_stop" s_Net_check_stop t.f_Net_check_stop t.d_Net_check_stop
  b_Net_check_stop : Binds K t.d_Net_check_stop ["self", "name"] []
  F_Net_check_trip : Fun K "check_trip" "Net.check_trip" s_Net_check_trip t.f_Net_check_trip t.d_Net_check_trip
  b_Net_check_trip : Binds K t.d_Net_check_trip ["self", "name"] []
  F_Net_check_call : Fun K "check_call" "Net.check_call" s_Net_check_call t.f_Net_check_call t.d_Net_check_call
  b_Net_check_call : Binds K t.d_Net_check_call ["self", "call"] []
  F_Net_has_walk : Fun K "has_walk" "Net.has_walk" s_Net_has_walk t.f_Net_has_walk t.d_Net_has_walk
  b_Net_has_walk : Binds K t.d_Net_has_walk ["self", "one", "other"] []
  F_Net_stops : Fun K "stops" "Net.stops" s_Net_stops t.f_Net_stops t.d_Net_stops
  b_Net_stops : Binds K t.d_Net_stops ["self"] []
  F_Net_walks : Fun K "walks" "Net.walks" s_Net_walks t.f_Net_walks t.d_Net_walks
  b_Net_walks : Binds K t.d_Net_walks ["self"] []
  F_Net_rules : Fun K "rules" "Net.rules" s_Net_rules t.f_Net_rules t.d_Net_rules
  b_Net_rules : Binds K t.d_Net_rules ["self"] []
  F_Net_tickets : Fun K "tickets" "Net.tickets" s_Net_tickets t.f_Net_tickets t.d_Net_tickets
  b_Net_tickets : Binds K t.d_Net_tickets ["self"] []
  F_Net_trips : Fun K "trips" "Net.trips" s_Net_trips t.f_Net_trips t.d_Net_trips
  b_Net_trips : Binds K t.d_Net_trips ["self"] []
  F_Net_zone : Fun K "zone" "Net.zone" s_Net_zone t.f_Net_zone t.d_Net_zone
  b_Net_zone : Binds K t.d_Net_zone ["self", "stop"] []
  F_Net_change : Fun K "change" "Net.change" s_Net_change t.f_Net_change t.d_Net_change
  b_Net_change : Binds K t.d_Net_change ["self", "stop"] []
  F_Net_rule : Fun K "rule" "Net.rule" s_Net_rule t.f_Net_rule t.d_Net_rule
  b_Net_rule : Binds K t.d_Net_rule ["self", "name"] []
  F_Net_ticket : Fun K "ticket" "Net.ticket" s_Net_ticket t.f_Net_ticket t.d_Net_ticket
  b_Net_ticket : Binds K t.d_Net_ticket ["self", "name"] []
  F_Net_rule_name : Fun K "rule_name" "Net.rule_name" s_Net_rule_name t.f_Net_rule_name t.d_Net_rule_name
  b_Net_rule_name : Binds K t.d_Net_rule_name ["self", "trip"] []
  F_Net_calls : Fun K "calls" "Net.calls" s_Net_calls t.f_Net_calls t.d_Net_calls
  b_Net_calls : Binds K t.d_Net_calls ["self", "trip"] []
  cl_Rule : Cls K t.c_Rule
  mkn_Rule : MkN K t.c_Rule
  me_Rule_copied : Meth K t.c_Rule "copied" t.f_Rule_copied
  me_Rule_depth : Meth K t.c_Rule "depth" t.f_Rule_depth
  me_Rule_parts : Meth K t.c_Rule "parts" t.f_Rule_parts
  me_Rule_runs : Meth K t.c_Rule "runs" t.f_Rule_runs
  me_Rule_weight : Meth K t.c_Rule "weight" t.f_Rule_weight
  me_Rule_words : Meth K t.c_Rule "words" t.f_Rule_words
  cl_Net : Cls K t.c_Net
  mk_Net : Mk K t.c_Net t.f_Net_init
  me_Net_add_rule : Meth K t.c_Net "add_rule" t.f_Net_add_rule
  me_Net_add_stop : Meth K t.c_Net "add_stop" t.f_Net_add_stop
  me_Net_add_ticket : Meth K t.c_Net "add_ticket" t.f_Net_add_ticket
  me_Net_add_trip : Meth K t.c_Net "add_trip" t.f_Net_add_trip
  me_Net_add_walk : Meth K t.c_Net "add_walk" t.f_Net_add_walk
  me_Net_calls : Meth K t.c_Net "calls" t.f_Net_calls
  me_Net_change : Meth K t.c_Net "change" t.f_Net_change
  me_Net_check_call : Meth K t.c_Net "check_call" t.f_Net_check_call
  me_Net_check_stop : Meth K t.c_Net "check_stop" t.f_Net_check_stop
  me_Net_check_trip : Meth K t.c_Net "check_trip" t.f_Net_check_trip
  me_Net_copied : Meth K t.c_Net "copied" t.f_Net_copied
  me_Net_has_walk : Meth K t.c_Net "has_walk" t.f_Net_has_walk
  me_Net_rule : Meth K t.c_Net "rule" t.f_Net_rule
  me_Net_rule_name : Meth K t.c_Net "rule_name" t.f_Net_rule_name
  me_Net_rules : Meth K t.c_Net "rules" t.f_Net_rules
  me_Net_stops : Meth K t.c_Net "stops" t.f_Net_stops
  me_Net_ticket : Meth K t.c_Net "ticket" t.f_Net_ticket
  me_Net_tickets : Meth K t.c_Net "tickets" t.f_Net_tickets
  me_Net_trips : Meth K t.c_Net "trips" t.f_Net_trips
  me_Net_walks : Meth K t.c_Net "walks" t.f_Net_walks
  me_Net_zone : Meth K t.c_Net "zone" t.f_Net_zone
  na_Net_stop_rows : NoAttr K t.c_Net "stop_rows"
  na_Net_walk_rows : NoAttr K t.c_Net "walk_rows"
  na_Net_rule_rows : NoAttr K t.c_Net "rule_rows"
  na_Net_ticket_rows : NoAttr K t.c_Net "ticket_rows"
  na_Net_trip_rows : NoAttr K t.c_Net "trip_rows"
  ow_Rule : OwnC K t.c_Rule
  ki_Rule_Rule : W.kitOne K (.ref t.c_Rule) (.ref t.c_Rule) = some true
  m_RoadError : mg "RoadError" = some (.ref t.c_RoadError)
  m_BadClock : mg "BadClock" = some (.ref t.c_BadClock)
  m_BadRule : mg "BadRule" = some (.ref t.c_BadRule)
  m_TooMany : mg "TooMany" = some (.ref t.c_TooMany)
  m_BadName : mg "BadName" = some (.ref t.c_BadName)
  m_Twice : mg "Twice" = some (.ref t.c_Twice)
  m_NoStop : mg "NoStop" = some (.ref t.c_NoStop)
  m_NoRule : mg "NoRule" = some (.ref t.c_NoRule)
  m_NoTicket : mg "NoTicket" = some (.ref t.c_NoTicket)
  m_NoTrip : mg "NoTrip" = some (.ref t.c_NoTrip)
  m_BadNumber : mg "BadNumber" = some (.ref t.c_BadNumber)
  m_BadCalls : mg "BadCalls" = some (.ref t.c_BadCalls)
  m_BadRow : mg "BadRow" = some (.ref t.c_BadRow)
  m_NoRun : mg "NoRun" = some (.ref t.c_NoRun)
  m_NoPlan : mg "NoPlan" = some (.ref t.c_NoPlan)
  m_TooLate : mg "TooLate" = some (.ref t.c_TooLate)
  m_NoTraveller : mg "NoTraveller" = some (.ref t.c_NoTraveller)
  m_BadLine : mg "BadLine" = some (.ref t.c_BadLine)
  m_Rule : mg "Rule" = some (.ref t.c_Rule)
  m_Net : mg "Net" = some (.ref t.c_Net)
  e_NoTrip : ExC K t.c_NoTrip
  i_NoTrip : ExI K t.c_NoTrip
  k_NoTrip_BadCalls : W.kitOne K (.ref t.c_NoTrip) (.ref t.c_BadCalls) = some false
  k_NoTrip_BadClock : W.kitOne K (.ref t.c_NoTrip) (.ref t.c_BadClock) = some false
  k_NoTrip_BadLine : W.kitOne K (.ref t.c_NoTrip) (.ref t.c_BadLine) = some false
  k_NoTrip_BadName : W.kitOne K (.ref t.c_NoTrip) (.ref t.c_BadName) = some false
  k_NoTrip_BadNumber : W.kitOne K (.ref t.c_NoTrip) (.ref t.c_BadNumber) = some false
  k_NoTrip_BadRow : W.kitOne K (.ref t.c_NoTrip) (.ref t.c_BadRow) = some false
  k_NoTrip_BadRule : W.kitOne K (.ref t.c_NoTrip) (.ref t.c_BadRule) = some false
  k_NoTrip_NoPlan : W.kitOne K (.ref t.c_NoTrip) (.ref t.c_NoPlan) = some false
  k_NoTrip_NoRule : W.kitOne K (.ref t.c_NoTrip) (.ref t.c_NoRule) = some false
  k_NoTrip_NoRun : W.kitOne K (.ref t.c_NoTrip) (.ref t.c_NoRun) = some false
  k_NoTrip_NoStop : W.kitOne K (.ref t.c_NoTrip) (.ref t.c_NoStop) = some false
  k_NoTrip_NoTicket : W.kitOne K (.ref t.c_NoTrip) (.ref t.c_NoTicket) = some false
  k_NoTrip_NoTraveller : W.kitOne K (.ref t.c_NoTrip) (.ref t.c_NoTraveller) = some false
  k_NoTrip_NoTrip : W.kitOne K (.ref t.c_NoTrip) (.ref t.c_NoTrip) = some true
  k_NoTrip_TooLate : W.kitOne K (.ref t.c_NoTrip) (.ref t.c_TooLate) = some false
  k_NoTrip_TooMany : W.kitOne K (.ref t.c_NoTrip) (.ref t.c_TooMany) = some false
  k_NoTrip_Twice : W.kitOne K (.ref t.c_NoTrip) (.ref t.c_Twice) = some false
  v_NoTrip : W.kitOne K (.ref t.c_NoTrip) (.type "ValueError") = some true
  x_NoTrip : W.exmOne K (.ref t.c_NoTrip) (.ref t.c_RoadError) = some true
  e_NoTicket : ExC K t.c_NoTicket
  i_NoTicket : ExI K t.c_NoTicket
  k_NoTicket_BadCalls : W.kitOne K (.ref t.c_NoTicket) (.ref t.c_BadCalls) = some false
  k_NoTicket_BadClock : W.kitOne K (.ref t.c_NoTicket) (.ref t.c_BadClock) = some false
  k_NoTicket_BadLine : W.kitOne K (.ref t.c_NoTicket) (.ref t.c_BadLine) = some false
  k_NoTicket_BadName : W.kitOne K (.ref t.c_NoTicket) (.ref t.c_BadName) = some false
  k_NoTicket_BadNumber : W.kitOne K (.ref t.c_NoTicket) (.ref t.c_BadNumber) = some false
  k_NoTicket_BadRow : W.kitOne K (.ref t.c_NoTicket) (.ref t.c_BadRow) = some false
  k_NoTicket_BadRule : W.kitOne K (.ref t.c_NoTicket) (.ref t.c_BadRule) = some false
  k_NoTicket_NoPlan : W.kitOne K (.ref t.c_NoTicket) (.ref t.c_NoPlan) = some false
  k_NoTicket_NoRule : W.kitOne K (.ref t.c_NoTicket) (.ref t.c_NoRule) = some false
  k_NoTicket_NoRun : W.kitOne K (.ref t.c_NoTicket) (.ref t.c_NoRun) = some false
  k_NoTicket_NoStop : W.kitOne K (.ref t.c_NoTicket) (.ref t.c_NoStop) = some false
  k_NoTicket_NoTicket : W.kitOne K (.ref t.c_NoTicket) (.ref t.c_NoTicket) = some true
  k_NoTicket_NoTraveller : W.kitOne K (.ref t.c_NoTicket) (.ref t.c_NoTraveller) = some false
  k_NoTicket_NoTrip : W.kitOne K (.ref t.c_NoTicket) (.ref t.c_NoTrip) = some false
  k_NoTicket_TooLate : W.kitOne K (.ref t.c_NoTicket) (.ref t.c_TooLate) = some false
  k_NoTicket_TooMany : W.kitOne K (.ref t.c_NoTicket) (.ref t.c_TooMany) = some false
  k_NoTicket_Twice : W.kitOne K (.ref t.c_NoTicket) (.ref t.c_Twice) = some false
  v_NoTicket : W.kitOne K (.ref t.c_NoTicket) (.type "ValueError") = some true
  x_NoTicket : W.exmOne K (.ref t.c_NoTicket) (.ref t.c_RoadError) = some true
  e_BadNumber : ExC K t.c_BadNumber
  i_BadNumber : ExI K t.c_BadNumber
  k_BadNumber_BadCalls : W.kitOne K (.ref t.c_BadNumber) (.ref t.c_BadCalls) = some false
  k_BadNumber_BadClock : W.kitOne K (.ref t.c_BadNumber) (.ref t.c_BadClock) = some false
  k_BadNumber_BadLine : W.kitOne K (.ref t.c_BadNumber) (.ref t.c_BadLine) = some false
  k_BadNumber_BadName : W.kitOne K (.ref t.c_BadNumber) (.ref t.c_BadName) = some false
  k_BadNumber_BadNumber : W.kitOne K (.ref t.c_BadNumber) (.ref t.c_BadNumber) = some true
  k_BadNumber_BadRow : W.kitOne K (.ref t.c_BadNumber) (.ref t.c_BadRow) = some false
  k_BadNumber_BadRule : W.kitOne K (.ref t.c_BadNumber) (.ref t.c_BadRule) = some false
  k_BadNumber_NoPlan : W.kitOne K (.ref t.c_BadNumber) (.ref t.c_NoPlan) = some false
  k_BadNumber_NoRule : W.kitOne K (.ref t.c_BadNumber) (.ref t.c_NoRule) = some false
  k_BadNumber_NoRun : W.kitOne K (.ref t.c_BadNumber) (.ref t.c_NoRun) = some false
  k_BadNumber_NoStop : W.kitOne K (.ref t.c_BadNumber) (.ref t.c_NoStop) = some false
  k_BadNumber_NoTicket : W.kitOne K (.ref t.c_BadNumber) (.ref t.c_NoTicket) = some false
  k_BadNumber_NoTraveller : W.kitOne K (.ref t.c_BadNumber) (.ref t.c_NoTraveller) = some false
  k_BadNumber_NoTrip : W.kitOne K (.ref t.c_BadNumber) (.ref t.c_NoTrip) = some false
  k_BadNumber_TooLate : W.kitOne K (.ref t.c_BadNumber) (.ref t.c_TooLate) = some false
  k_BadNumber_TooMany : W.kitOne K (.ref t.c_BadNumber) (.ref t.c_TooMany) = some false
  k_BadNumber_Twice : W.kitOne K (.ref t.c_BadNumber) (.ref t.c_Twice) = some false
  v_BadNumber : W.kitOne K (.ref t.c_BadNumber) (.type "ValueError") = some true
  x_BadNumber : W.exmOne K (.ref t.c_BadNumber) (.ref t.c_RoadError) = some true
section
variable {P : Program} {w : World} {K : W.Frag} {mg : Str → Option Value} {base : Heap} {t : Adr}
def spAnyN : Sp := fun vs H Q _ => ∃ (v : V) (T : String), vs = [v] ∧ Kd H v T ∧ Q (.bl (wholeV v)) H
theorem ok_is_any_number (Tx : Tab K mg t) : FnOk P w K mg base CX0 1 t.f_is_any_number t.d_is_any_number ["value"] spAnyN := by
  refine Tx.F_is_any_number.ok sc_is_any_number (fun vs H Q E h => ?_) (fun cdv A outer s H vs Q E hr h => ?_)
  · obtain ⟨v, T, rfl, _⟩ := h
    rfl
  obtain ⟨v, T, rfl, kd, q⟩ := h
  refine ⟨_, (pss_one (ps_ret (pe_and (pe_callB call_isi_ty rfl Tx.z_isinstance b_isinstance (pac (pv 0) (pac (pe_gty rfl Tx.z_int b_int) pa_nil))) (pe_one (pe_not (pe_callB call_isi_ty rfl Tx.z_isinstance b_isinstance (pac (pv 0) (pac (pe_gty rfl Tx.z_bool b_bool) pa_nil)))))))), ?_⟩
  refine ⟨_, rfl, v, "int", _, _, rfl, kd.ty, kit_int kd, _, rfl, ?_⟩
  cases kd with
  | non => exact itF (by decide) q
  | str x => exact itF (by decide) q
  | lst e => exact itF (by decide) q
  | tup e => exact itF (by decide) q
  | dK e => exact itF (by decide) q
  | bl b => exact itT (by decide) ⟨_, rfl, _, "bool", _, _, rfl, (Kd.bl b).ty (H := H), kit_bool (H := H) (.bl b), _, rfl, q⟩
  | int i => exact itT (by decide) ⟨_, rfl, _, "bool", _, _, rfl, (Kd.int i).ty (H := H), kit_bool (H := H) (.int i), _, rfl, q⟩

def spNum : Sp := fun vs H Q _ => ∃ (v : V) (lo hi : Int) (T : String), vs = [v, .int lo, .int hi] ∧ Kd H v T ∧ Q (.bl (numV v lo hi)) H
theorem ok_is_number (Tx : Tab K mg t) : FnOk P w K mg base CX0 2 t.f_is_number t.d_is_number ["value", "least", "most"] spNum := by
  refine Tx.F_is_number.ok sc_is_number (fun vs H Q E h => ?_) (fun cdv A outer s H vs Q E hr h => ?_)
  · obtain ⟨v, lo, hi, T, rfl, _⟩ := h
    rfl
  obtain ⟨v, lo, hi, T, rfl, kd, q⟩ := h
  refine ⟨_, (pss_one (ps_ret (pe_and (pe_call (ok_is_any_number Tx) (hr.mono (by omega)) rfl Tx.m_is_any_number Tx.F_is_any_number.kp Tx.b_is_any_number .nil pass0 (pac (pv 0) pa_nil)) (pe_one (pe_chain op_le op_le (pv 1) (pv 0) (pv 2)))))), ?_⟩
  refine ⟨_, rfl, v, T, rfl, kd, _, rfl, ?_⟩
  cases kd with
  | non => exact itF Bool.false_ne_true q
  | str x => exact itF Bool.false_ne_true q
  | lst e => exact itF Bool.false_ne_true q
  | tup e => exact itF Bool.false_ne_true q
  | dK e => exact itF Bool.false_ne_true q
  | bl b => exact itF Bool.false_ne_true q
  | int i =>
    refine itT rfl ?_
    refine ⟨_, rfl, _, rfl, _, _, rfl, rfl, _, rfl, ?_⟩
    refine ite2 (fun c => ?_) (fun c => ?_)
    · refine ⟨_, rfl, _, _, rfl, rfl, ?_⟩
      have c' : lo ≤ i := of_decide_eq_true c
      have e : decide (i ≤ hi) = numV (.int i) lo hi := by
        show decide (i ≤ hi) = decide (lo ≤ i ∧ i ≤ hi)
        exact decide_eq_decide.mpr ⟨fun z => ⟨c', z⟩, fun z => z.2⟩
      rw [← e] at q; exact q
    · have c' : ¬ lo ≤ i := of_decide_eq_false (Bool.eq_false_iff.mpr c)
      have e : false = numV (.int i) lo hi := by
        show false = decide (lo ≤ i ∧ i ≤ hi)
        exact (decide_eq_false fun z => c' z.1).symm
      rw [← e] at q; exact q


theorem num_ok {b : Nat} {lo hi : Int} (h1 : lo ≤ b) (h2 : (b : Int) ≤ hi) : numV (.int (b : Nat)) lo hi = true := decide_eq_true ⟨h1, h2⟩
def letters : Str := ⟨#[97, 98, 99, 100, 101, 102, 103, 104, 105, 106, 107, 108, 109, 110, 111, 112, 113, 114, 115, 116, 117, 118, 119, 120, 121, 122]⟩
theorem letters_eq : Str.ofString "abcdefghijklmnopqrstuvwxyz" = letters := by decide +kernel
theorem inS_letters : ∀ i : Nat, i < 26 → inS letters (97 + i) = true := by decide +kernel
theorem name_all {z : Str} (h : NameOk z) : ((z.cps.toList.map fun c => inS letters c).all id) = true := by
  rw [List.all_eq_true]
  intro b hb
  obtain ⟨c, hc, rfl⟩ := List.mem_map.mp hb
  have := h.2.2.1 c hc
  have e := inS_letters (c - 97) (by omega)
  rw [show 97 + (c - 97) = c by omega] at e
  exact e
def spChk : Sp := fun vs H Q _ => ∃ (b : Nat) (lo hi : Int), vs = [.int (b : Nat), .int lo, .int hi] ∧ lo ≤ b ∧ (b : Int) ≤ hi ∧ Q .non H
theorem ok_check_number (Tx : Tab K mg t) : FnOk P w K mg base CX0 3 t.f_check_number t.d_check_number ["value", "least", "most"] spChk := by
  refine Tx.F_check_number.ok sc_check_number (fun vs H Q E h => ?_) (fun cdv A outer s H vs Q E hr h => ?_)
  · obtain ⟨b, lo, hi, rfl, _⟩ := h
    rfl
  obtain ⟨b, lo, hi, rfl, h1, h2, q⟩ := h
  refine ⟨_, (pss_one (ps_if (pt_not (pt_val (pe_call (ok_is_number Tx) (hr.mono (by omega)) rfl Tx.m_is_number Tx.F_is_number.kp Tx.b_is_number .nil pass0 (pac (pv 0) (pac (pv 1) (pac (pv 2) pa_nil))))))
    (pss_one ps_never)
    pss_nil)), ?_⟩
  exact ⟨_, rfl, _, rfl, _, rfl, .int (b : Nat), lo, hi, "int", rfl, .int _, _, rfl, itF (by rw [num_ok h1 h2]; decide) q⟩
def spIsName : Sp := fun vs H Q _ => ∃ z : Str, vs = [.str z] ∧ NameOk z ∧ ∀ H', Same H H' → Q (.bl true) H'
theorem ok_is_name (Tx : Tab K mg t) : FnOk P w K mg base CX0 1 t.f_is_name t.d_is_name ["value"] spIsName := by
  refine Tx.F_is_name.ok sc_is_name (fun vs H Q E h => ?_) (fun cdv A outer s H vs Q E hr h => ?_)
  · obtain ⟨z, rfl, _⟩ := h
    rfl
  obtain ⟨z, rfl, hn, q⟩ := h
  obtain ⟨tk, mf⟩ := Tx.m_LETTERS
  rw [letters_eq] at mf
  have hz : z.length ≤ sizeLine := Nat.le_trans hn.2.1 (by decide)
  refine ⟨_, (pss_cons (ps_if (PW.pt (pw_or (pt_not (pt_val (pe_callB call_isi_ty rfl Tx.z_isinstance b_isinstance (pac (pv 0) (pac (pe_gty rfl Tx.z_str b_str) pa_nil))))) (pw_or1 (pt_not (pt_chain op_le op_le pe_int (pe_callB call_len_str rfl Tx.z_len b_len (pac (pv 0) pa_nil)) (pe_gintE rfl Tx.m_MOST_LETTERS))))))
    (pss_one (ps_ret pe_bl))
    pss_nil)
    (pss_one (ps_ret (pe_callB (call_all_list rfl) rfl Tx.z_all b_all (pac (pe_compIn (cl := []) rfl (pv 0) rfl (by decide +kernel) rfl (by decide +kernel) rfl) pa_nil))))), ?_⟩
  refine ⟨_, rfl, .str z, "str", _, _, rfl, (Kd.str z).ty (H := H), kit_str (H := H) (.str z), _, rfl, itF (by decide) ?_⟩
  refine ⟨_, rfl, z, rfl, hz, _, _, rfl, rfl, _, rfl, itT (decide_eq_true (by have := hn.1; omega)) ?_⟩
  refine ⟨_, _, rfl, rfl, _, rfl, itF (by rw [decide_eq_true (show ((z.length : Nat) : Int) ≤ 8 by have := hn.2.1; omega)]; decide) ?_⟩
  refine ⟨letters, zread_glob (t := tk) rfl rfl mf, _, rfl, z, rfl, hz, fun p hp => ?_⟩
  refine ⟨p, z.cps.toList.map (fun c => inS letters c), rfl, SqL.of (by rw [upd_same, map_bl]), ?_⟩
  have q2 := q _ (same_new hp (HO.lst (z.cps.toList.map fun c => V.bl (inS letters c))))
  rw [← name_all hn] at q2; exact q2
def spKnown : Sp := fun vs H Q _ => ∃ (z : Str) (d : Addr) (kvs : List (Key × V)), vs = [.str z, .ref d] ∧ H d = some (.dK kvs) ∧ Q (.bl (valV kvs (Sum.inr z)).isSome) H
theorem ok_is_known (Tx : Tab K mg t) : FnOk P w K mg base CX0 1 t.f_is_known t.d_is_known ["value", "named"] spKnown := by
  refine Tx.F_is_known.ok sc_is_known (fun vs H Q E h => ?_) (fun cdv A outer s H vs Q E hr h => ?_)
  · obtain ⟨z, d, kvs, rfl, _⟩ := h
    rfl
  obtain ⟨z, d, kvs, rfl, hd, q⟩ := h
  refine ⟨_, (pss_one (ps_ret (pe_and (pe_callB call_isi_ty rfl Tx.z_isinstance b_isinstance (pac (pv 0) (pac (pe_gty rfl Tx.z_str b_str) pa_nil))) (pe_one (pe_cmp (pc_din (hu_of hr) (pv 0) (pv 1))))))), ?_⟩
  exact ⟨_, rfl, .str z, "str", _, _, rfl, (Kd.str z).ty (H := H), kit_str (H := H) (.str z), _, rfl, itT (by decide) ⟨_, rfl, _, rfl, d, _, rfl, DGet.k (k := Sum.inr z) hd, q⟩⟩
def spNewN : Sp := fun vs H Q _ => ∃ (z : Str) (d : Addr) (kvs : List (Key × V)), vs = [.str z, .ref d] ∧ H d = some (.dK kvs) ∧ NameOk z ∧ valV kvs (Sum.inr z) = none ∧ ∀ H', Same H H' → Q .non H'
theorem ok_check_new (Tx : Tab K mg t) : FnOk P w K mg base CX0 2 t.f_check_new t.d_check_new ["name", "named"] spNewN := by
  refine Tx.F_check_new.ok sc_check_new (fun vs H Q E h => ?_) (fun cdv A outer s H vs Q E hr h => ?_)
  · obtain ⟨z, d, kvs, rfl, _⟩ := h
    rfl
  obtain ⟨z, d, kvs, rfl, hd, hn, he, q⟩ := h
  refine ⟨_, (pss_cons (ps_if (pt_not (pt_val (pe_call (ok_is_name Tx) (hr.mono (by omega)) rfl Tx.m_is_name Tx.F_is_name.kp Tx.b_is_name .nil pass0 (pac (pv 0) pa_nil))))
    (pss_one ps_never)
    pss_nil)
    (pss_one (ps_if (pt_cmp (pc_din (hu_of hr) (pv 0) (pv 1)))
    (pss_one ps_never)
    pss_nil))), ?_⟩
  refine ⟨_, rfl, z, rfl, hn, fun H1 s1 => ⟨_, rfl, itF (by decide) ?_⟩⟩
  exact ⟨_, rfl, _, rfl, d, _, rfl, DGet.k (k := Sum.inr z) (s1 _ _ hd), _, rfl, itF (by rw [he]; decide) (q H1 s1)⟩
def spRoom : Sp := fun vs H Q _ => ∃ (d : Addr) (kvs : List (Key × V)) (n : Int), vs = [.ref d, .int n] ∧ H d = some (.dK kvs) ∧ (kvs.length : Int) < n ∧ Q .non H
theorem ok_check_room (Tx : Tab K mg t) : FnOk P w K mg base CX0 1 t.f_check_room t.d_check_room ["kept", "most"] spRoom := by
  refine Tx.F_check_room.ok sc_check_room (fun vs H Q E h => ?_) (fun cdv A outer s H vs Q E hr h => ?_)
  · obtain ⟨d, kvs, n, rfl, _⟩ := h
    rfl
  obtain ⟨d, kvs, n, rfl, hd, hl, q⟩ := h
  refine ⟨_, (pss_one (ps_if (pt_cmpR op_ge (pe_callB call_lenD rfl Tx.z_len b_len (pac (pv 0) pa_nil)) (pv 1) (nomark _))
    (pss_one ps_never)
    pss_nil)), ?_⟩
  exact ⟨_, rfl, d, kvs, rfl, hd, _, rfl, _, _, rfl, rfl, _, rfl, itF (by rw [decide_eq_false (by omega)]; decide) q⟩
def zonesOf (b : Nat) : List Nat := [1, 2, 3, 4, 5, 6].filter fun z => decide (b / 2 ^ (z - 1) % 2 = 1)
def zb (zs : List Nat) : Nat := zs.foldl (fun b z => b ||| 2 ^ (z - 1)) 0
theorem zb_zones : ∀ b : Nat, b < 64 → zb (zonesOf b) = b := by decide +kernel
theorem zones_rng (b : Nat) : ∀ z ∈ zonesOf b, 1 ≤ z ∧ z ≤ 6 := fun z h => by
  have := (List.mem_filter.mp h).1
  simp only [List.mem_cons, List.not_mem_nil, or_false] at this
  omega
theorem zones_up (b : Nat) : (zonesOf b).Pairwise (· < ·) := List.Pairwise.filter _ (by decide)
theorem zones_len (b : Nat) : (zonesOf b).length ≤ 6 := List.length_filter_le _ _
theorem zones_one : ∀ b : Nat, b < 64 → 1 ≤ b → 1 ≤ (zonesOf b).length := by decide +kernel
def spRis : Sp := fun vs H Q _ => ∃ (a : Addr) (ss : List Nat) (n lo : Nat) (hi : Int), vs = [.ref a, .int (n : Nat), .int (lo : Nat), .int hi] ∧ H a = some (.lst (natV ss)) ∧ 1 ≤ ss.length ∧ ss.length ≤ n ∧ ss.Pairwise (· < ·) ∧ (∀ x ∈ ss, lo ≤ x ∧ ((x : Nat) : Int) ≤ hi) ∧ Q (.bl true) H
theorem ok_are_rising (Tx : Tab K mg t) : FnOk P w K mg base CX0 3 t.f_are_rising t.d_are_rising ["values", "longest", "least", "most"] spRis := by
  refine Tx.F_are_rising.ok sc_are_rising (fun vs H Q E h => ?_) (fun cdv A outer s H vs Q E hr h => ?_)
  · obtain ⟨a, ss, n, lo, hi, rfl, _⟩ := h
    rfl
  obtain ⟨a, ss, n, lo, hi, rfl, ha, l1, l2, up, al, q⟩ := h
  refine ⟨_, (pss_cons (ps_if (PW.pt (pw_or (pt_not (pt_val (pe_callB call_isi_ty rfl Tx.z_isinstance b_isinstance (pac (pv 0) (pac (pe_gty rfl Tx.z_list b_list) pa_nil))))) (pw_or1 (pt_not (pt_chain op_le op_le pe_int (pe_callB call_len_seq rfl Tx.z_len b_len (pac (pv 0) pa_nil)) (pv 1))))))
    (pss_one (ps_ret pe_bl))
    pss_nil)
    (pss_cons (ps_set (i := 4) sc_are_rising.nd rfl (Or.inl rfl) (pv 2))
    (pss_cons (ps_for PassesOwn.never rfl (pi_list (pv 0)) (pg_name (i := 5) sc_are_rising.nd rfl (Or.inl rfl))
    (pss_cons (ps_if (pt_not (pt_val (pe_call (ok_is_number Tx) (hr.mono (by omega)) rfl Tx.m_is_number Tx.F_is_number.kp Tx.b_is_number .nil pass0 (pac (pv 5) (pac (pv 4) (pac (pv 3) pa_nil))))))
    (pss_one (ps_ret pe_bl))
    pss_nil)
    (pss_one (ps_set (i := 4) sc_are_rising.nd rfl (Or.inl rfl) (pe_op op_add (pv 5) pe_int)))))
    (pss_one (ps_ret pe_bl))))), ?_⟩
  have hlen : (natV ss).length = ss.length := List.length_map ..
  refine ⟨_, rfl, .ref a, "list", _, _, rfl, .lst ha, rfl, _, rfl, itF (by decide) ?_⟩
  refine ⟨_, rfl, a, _, rfl, .inl (SqL.of ha), _, _, rfl, rfl, _, rfl, itT (decide_eq_true (by rw [hlen]; omega)) ?_⟩
  refine ⟨_, rfl, _, _, rfl, rfl, _, rfl, itF (by rw [decide_eq_true (show (((natV ss).length : Nat) : Int) ≤ ((n : Nat) : Int) by rw [hlen]; omega)]; decide) ?_⟩
  refine ⟨_, rfl, _, rfl, a, rfl, ⟨_, SqL.of ha⟩, for_list (xs := natV ss) (fun i σ H' => H' = H ∧ ∃ (f : Nat) (v : Option V), σ = [some (.ref a), some (.int (n : Nat)), some (.int (lo : Nat)), some (.int hi), some (.int (f : Nat)), v] ∧ ∀ j x, i ≤ j → ss[j]? = some x → f ≤ x)
    ⟨rfl, lo, _, rfl, fun j x _ e => (al x (List.mem_of_getElem? e)).1⟩ (fun i σ H' _ ⟨e, _⟩ => by rw [e]; exact SqL.of ha) ?_ ?_⟩
  · rintro i x σ H' hx ⟨rfl, f, v, rfl, hf⟩
    rw [List.getElem?_map] at hx
    cases hs : ss[i]? with
    | none => rw [hs] at hx; cases hx
    | some m =>
      rw [hs] at hx
      obtain rfl : V.int ((m : Nat) : Int) = x := Option.some.inj hx
      have hm := al m (List.mem_of_getElem? hs)
      have fm := hf i m (Nat.le_refl _) hs
      refine ⟨_, rfl, _, rfl, _, rfl, .int (m : Nat), _, _, "int", rfl, .int _, _, rfl, itF (by rw [num_ok (by omega) hm.2]; decide) ?_⟩
      refine ⟨_, rfl, _, _, rfl, rfl, rfl, m + 1, _, rfl, fun j y hj e => ?_⟩
      have := List.pairwise_iff_getElem.mp up i j (List.getElem?_eq_some_iff.mp hs).1 (List.getElem?_eq_some_iff.mp e).1 (by omega)
      rw [(List.getElem?_eq_some_iff.mp hs).2, (List.getElem?_eq_some_iff.mp e).2] at this
      exact this
  · rintro σ H' ⟨rfl, f, v, rfl, _⟩
    exact q

def wordsL : List Str := [Str.ofString "calls", Str.ofString "clock", Str.ofString "line", Str.ofString "name", Str.ofString "number", Str.ofString "row", Str.ofString "days", Str.ofString "plan", Str.ofString "rule", Str.ofString "run", Str.ofString "stop", Str.ofString "ticket", Str.ofString "traveller", Str.ofString "trip", Str.ofString "late", Str.ofString "many", Str.ofString "twice"]
structure Wd (K : W.Frag) (t : Adr) (C : Addr) (b : Nat → Bool) : Prop where
  i : ExI K C
  k0 : W.kitOne K (.ref C) (.ref t.c_BadCalls) = some (b 0)
  k1 : W.kitOne K (.ref C) (.ref t.c_BadClock) = some (b 1)
  k2 : W.kitOne K (.ref C) (.ref t.c_BadLine) = some (b 2)
  k3 : W.kitOne K (.ref C) (.ref t.c_BadName) = some (b 3)
  k4 : W.kitOne K (.ref C) (.ref t.c_BadNumber) = some (b 4)
  k5 : W.kitOne K (.ref C) (.ref t.c_BadRow) = some (b 5)
  k6 : W.kitOne K (.ref C) (.ref t.c_BadRule) = some (b 6)
  k7 : W.kitOne K (.ref C) (.ref t.c_NoPlan) = some (b 7)
  k8 : W.kitOne K (.ref C) (.ref t.c_NoRule) = some (b 8)
  k9 : W.kitOne K (.ref C) (.ref t.c_NoRun) = some (b 9)
  k10 : W.kitOne K (.ref C) (.ref t.c_NoStop) = some (b 10)
  k11 : W.kitOne K (.ref C) (.ref t.c_NoTicket) = some (b 11)
  k12 : W.kitOne K (.ref C) (.ref t.c_NoTraveller) = some (b 12)
  k13 : W.kitOne K (.ref C) (.ref t.c_NoTrip) = some (b 13)
  k14 : W.kitOne K (.ref C) (.ref t.c_TooLate) = some (b 14)
  k15 : W.kitOne K (.ref C) (.ref t.c_TooMany) = some (b 15)
  k16 : W.kitOne K (.ref C) (.ref t.c_Twice) = some (b 16)
  v : W.kitOne K (.ref C) (.type "ValueError") = some true
theorem wd_NoTrip (Tx : Tab K mg t) : Wd K t t.c_NoTrip (fun i => decide (i = 13)) := ⟨Tx.i_NoTrip, Tx.k_NoTrip_BadCalls, Tx.k_NoTrip_BadClock, Tx.k_NoTrip_BadLine, Tx.k_NoTrip_BadName, Tx.k_NoTrip_BadNumber, Tx.k_NoTrip_BadRow, Tx.k_NoTrip_BadRule, Tx.k_NoTrip_NoPlan, Tx.k_NoTrip_NoRule, Tx.k_NoTrip_NoRun, Tx.k_NoTrip_NoStop, Tx.k_NoTrip_NoTicket, Tx.k_NoTrip_NoTraveller, Tx.k_NoTrip_NoTrip, Tx.k_NoTrip_TooLate, Tx.k_NoTrip_TooMany, Tx.k_NoTrip_Twice, Tx.v_NoTrip⟩
theorem wd_NoTicket (Tx : Tab K mg t) : Wd K t t.c_NoTicket (fun i => decide (i = 11)) := ⟨Tx.i_NoTicket, Tx.k_NoTicket_BadCalls, Tx.k_NoTicket_BadClock, Tx.k_NoTicket_BadLine, Tx.k_NoTicket_BadName, Tx.k_NoTicket_BadNumber, Tx.k_NoTicket_BadRow, Tx.k_NoTicket_BadRule, Tx.k_NoTicket_NoPlan, Tx.k_NoTicket_NoRule, Tx.k_NoTicket_NoRun, Tx.k_NoTicket_NoStop, Tx.k_NoTicket_NoTicket, Tx.k_NoTicket_NoTraveller, Tx.k_NoTicket_NoTrip, Tx.k_NoTicket_TooLate, Tx.k_NoTicket_TooMany, Tx.k_NoTicket_Twice, Tx.v_NoTicket⟩
theorem wd_BadNumber (Tx : Tab K mg t) : Wd K t t.c_BadNumber (fun i => decide (i = 4)) := ⟨Tx.i_BadNumber, Tx.k_BadNumber_BadCalls, Tx.k_BadNumber_BadClock, Tx.k_BadNumber_BadLine, Tx.k_BadNumber_BadName, Tx.k_BadNumber_BadNumber, Tx.k_BadNumber_BadRow, Tx.k_BadNumber_BadRule, Tx.k_BadNumber_NoPlan, Tx.k_BadNumber_NoRule, Tx.k_BadNumber_NoRun, Tx.k_BadNumber_NoStop, Tx.k_BadNumber_NoTicket, Tx.k_BadNumber_NoTraveller, Tx.k_BadNumber_NoTrip, Tx.k_BadNumber_TooLate, Tx.k_BadNumber_TooMany, Tx.k_BadNumber_Twice, Tx.v_BadNumber⟩
def WdAt (H : Hp) (v : V) (w : Str × Bool) : Prop := ∃ p, v = .ref p ∧ H p = some (.tup [.str w.1, .bl w.2])
theorem WdAt.same {H H' : Hp} {v : V} {w : Str × Bool} (s : Same H H') (h : WdAt H v w) : WdAt H' v w := let ⟨p, e, h⟩ := h; ⟨p, e, s _ _ h⟩
def wordOf (b : Nat → Bool) : List Str := (((List.range 17).map fun i => (wordsL.getD i Str.empty, b i)).filter (·.2)).map (·.1)
def spWord (t : Adr) (K : W.Frag) : Sp := fun vs H Q _ => ∃ (a C : Addr) (b : Nat → Bool), vs = [.ref a] ∧ H a = some (exO a (.ref C)) ∧ Wd K t C b ∧ ∀ l H', Same H H' → H' l = some (.lst ((wordOf b).map V.str)) → Q (.ref l) H'
theorem ok_law_word (Tx : Tab K mg t) : FnOk P w K mg base CX0 1 t.f_law_word t.d_law_word ["_law_e"] (spWord t K) := by
  refine Tx.F_law_word.ok sc_law_word (fun vs H Q E h => ?_) (fun cdv A outer s H vs Q E hr h => ?_)
  · obtain ⟨a, C, b, rfl, _⟩ := h
    rfl
  obtain ⟨a, C, b, rfl, ha, W, q⟩ := h
  refine ⟨_, (pss_cons (ps_set (i := 1) sc_law_word.nd rfl (Or.inl rfl) (pe_lst (pac (pe_tup (pac pe_str (pac (pe_callB call_isi_exc rfl Tx.z_isinstance b_isinstance (pac (pv 0) (pac (pe_gref rfl Tx.m_BadCalls) pa_nil))) pa_nil))) (pac (pe_tup (pac pe_str (pac (pe_callB call_isi_exc rfl Tx.z_isinstance b_isinstance (pac (pv 0) (pac (pe_gref rfl Tx.m_BadClock) pa_nil))) pa_nil))) (pac (pe_tup (pac pe_str (pac (pe_callB call_isi_exc rfl Tx.z_isinstance b_isinstance (pac (pv 0) (pac (pe_gref rfl Tx.m_BadLine) pa_nil))) pa_nil))) pa_nil)))))
    (pss_cons (ps_set (i := 1) sc_law_word.nd rfl (Or.inl rfl) (pe_op op_cat (pv 1) (pe_lst (pac (pe_tup (pac pe_str (pac (pe_callB call_isi_exc rfl Tx.z_isinstance b_isinstance (pac (pv 0) (pac (pe_gref rfl Tx.m_BadName) pa_nil))) pa_nil))) (pac (pe_tup (pac pe_str (pac (pe_callB call_isi_exc rfl Tx.z_isinstance b_isinstance (pac (pv 0) (pac (pe_gref rfl Tx.m_BadNumber) pa_nil))) pa_nil))) pa_nil)))))
    (pss_cons (ps_set (i := 1) sc_law_word.nd rfl (Or.inl rfl) (pe_op op_cat (pv 1) (pe_lst (pac (pe_tup (pac pe_str (pac (pe_callB call_isi_exc rfl Tx.z_isinstance b_isinstance (pac (pv 0) (pac (pe_gref rfl Tx.m_BadRow) pa_nil))) pa_nil))) (pac (pe_tup (pac pe_str (pac (pe_callB call_isi_exc rfl Tx.z_isinstance b_isinstance (pac (pv 0) (pac (pe_gref rfl Tx.m_BadRule) pa_nil))) pa_nil))) (pac (pe_tup (pac pe_str (pac (pe_callB call_isi_exc rfl Tx.z_isinstance b_isinstance (pac (pv 0) (pac (pe_gref rfl Tx.m_NoPlan) pa_nil))) pa_nil))) pa_nil))))))
    (pss_cons (ps_set (i := 1) sc_law_word.nd rfl (Or.inl rfl) (pe_op op_cat (pv 1) (pe_lst (pac (pe_tup (pac pe_str (pac (pe_callB call_isi_exc rfl Tx.z_isinstance b_isinstance (pac (pv 0) (pac (pe_gref rfl Tx.m_NoRule) pa_nil))) pa_nil))) pa_nil))))
    (pss_cons (ps_set (i := 1) sc_law_word.nd rfl (Or.inl rfl) (pe_op op_cat (pv 1) (pe_lst (pac (pe_tup (pac pe_str (pac (pe_callB call_isi_exc rfl Tx.z_isinstance b_isinstance (pac (pv 0) (pac (pe_gref rfl Tx.m_NoRun) pa_nil))) pa_nil))) (pac (pe_tup (pac pe_str (pac (pe_callB call_isi_exc rfl Tx.z_isinstance b_isinstance (pac (pv 0) (pac (pe_gref rfl Tx.m_NoStop) pa_nil))) pa_nil))) (pac (pe_tup (pac pe_str (pac (pe_callB call_isi_exc rfl Tx.z_isinstance b_isinstance (pac (pv 0) (pac (pe_gref rfl Tx.m_NoTicket) pa_nil))) pa_nil))) pa_nil))))))
    (pss_cons (ps_set (i := 1) sc_law_word.nd rfl (Or.inl rfl) (pe_op op_cat (pv 1) (pe_lst (pac (pe_tup (pac pe_str (pac (pe_callB call_isi_exc rfl Tx.z_isinstance b_isinstance (pac (pv 0) (pac (pe_gref rfl Tx.m_NoTraveller) pa_nil))) pa_nil))) (pac (pe_tup (pac pe_str (pac (pe_callB call_isi_exc rfl Tx.z_isinstance b_isinstance (pac (pv 0) (pac (pe_gref rfl Tx.m_NoTrip) pa_nil))) pa_nil))) pa_nil)))))
    (pss_cons (ps_set (i := 1) sc_law_word.nd rfl (Or.inl rfl) (pe_op op_cat (pv 1) (pe_lst (pac (pe_tup (pac pe_str (pac (pe_callB call_isi_exc rfl Tx.z_isinstance b_isinstance (pac (pv 0) (pac (pe_gref rfl Tx.m_TooLate) pa_nil))) pa_nil))) (pac (pe_tup (pac pe_str (pac (pe_callB call_isi_exc rfl Tx.z_isinstance b_isinstance (pac (pv 0) (pac (pe_gref rfl Tx.m_TooMany) pa_nil))) pa_nil))) (pac (pe_tup (pac pe_str (pac (pe_callB call_isi_exc rfl Tx.z_isinstance b_isinstance (pac (pv 0) (pac (pe_gref rfl Tx.m_Twice) pa_nil))) pa_nil))) pa_nil))))))
    (pss_one (ps_ret (pe_op op_cat (pe_comp (cl := []) (N := ["_law_word_here", "_law_is_so"]) (fr := [none, none]) rfl (pi_list (pv 1)) rfl (by decide +kernel) rfl (by decide +kernel) trivial trivial rfl (fun _ _ _ _ _ => (show PG _ _ (gTup K 2 _) from pg_tup rfl (pgs_cons (pg_name (i := 0) (show List.Nodup (["_law_word_here", "_law_is_so"] : List Str) by decide +kernel) rfl (Or.inl rfl)) (pgs_cons (pg_name (i := 1) (show List.Nodup (["_law_word_here", "_law_is_so"] : List Str) by decide +kernel) rfl (Or.inl rfl)) pgs_nil)))) (fun _ _ _ _ _ => (pts_one (pt_val (pv 1)))) (fun _ _ _ _ _ => (pv 0))) (pe_op op_rep (pe_lst (pac pe_str pa_nil)) (pe_callTy call_int_bl rfl Tx.z_int b_int (pac (pe_not (pe_callB call_isi_excT rfl Tx.z_isinstance b_isinstance (pac (pv 0) (pac (pe_gty rfl Tx.z_ValueError b_ValueError) pa_nil)))) pa_nil))))))))))))), ?_⟩
  have S := Same.refl H
  have A : Al (WdAt H) [] [] := .nil
  refine ⟨_, rfl, a, C, t.c_BadCalls, _, rfl, S _ _ ha, W.i, W.k0, by show 2 ≤ sizeLine; decide, fun p0 g => ?_⟩
  replace A : Al (WdAt (upd H p0 (.tup [.str (Str.ofString "calls"), .bl (b 0)]))) [.ref p0] [(Str.ofString "calls", b 0)] := (A.imp fun _ _ => WdAt.same (same_new g _)).snoc ⟨p0, rfl, upd_same⟩
  replace S := S.trans (same_new g (.tup [.str (Str.ofString "calls"), .bl (b 0)]))
  generalize upd H p0 (.tup [.str (Str.ofString "calls"), .bl (b 0)]) = H1 at A S ⊢
  clear g
  refine ⟨_, rfl, a, C, t.c_BadClock, _, rfl, S _ _ ha, W.i, W.k1, by show 2 ≤ sizeLine; decide, fun p1 g => ?_⟩
  replace A : Al (WdAt (upd H1 p1 (.tup [.str (Str.ofString "clock"), .bl (b 1)]))) [.ref p0, .ref p1] [(Str.ofString "calls", b 0), (Str.ofString "clock", b 1)] := (A.imp fun _ _ => WdAt.same (same_new g _)).snoc ⟨p1, rfl, upd_same⟩
  replace S := S.trans (same_new g (.tup [.str (Str.ofString "clock"), .bl (b 1)]))
  generalize upd H1 p1 (.tup [.str (Str.ofString "clock"), .bl (b 1)]) = H2 at A S ⊢
  clear g
  refine ⟨_, rfl, a, C, t.c_BadLine, _, rfl, S _ _ ha, W.i, W.k2, by show 2 ≤ sizeLine; decide, fun p2 g => ?_⟩
  replace A : Al (WdAt (upd H2 p2 (.tup [.str (Str.ofString "line"), .bl (b 2)]))) [.ref p0, .ref p1, .ref p2] [(Str.ofString "calls", b 0), (Str.ofString "clock", b 1), (Str.ofString "line", b 2)] := (A.imp fun _ _ => WdAt.same (same_new g _)).snoc ⟨p2, rfl, upd_same⟩
  replace S := S.trans (same_new g (.tup [.str (Str.ofString "line"), .bl (b 2)]))
  generalize upd H2 p2 (.tup [.str (Str.ofString "line"), .bl (b 2)]) = H3 at A S ⊢
  clear g
  refine ⟨by show 3 ≤ sizeLine; decide, fun q0 g => ?_⟩
  replace A := A.imp fun _ _ => WdAt.same (same_new g (.lst [.ref p0, .ref p1, .ref p2]))
  replace S := S.trans (same_new g (.lst [.ref p0, .ref p1, .ref p2]))
  have M : upd H3 q0 (.lst [.ref p0, .ref p1, .ref p2]) q0 = some (.lst [.ref p0, .ref p1, .ref p2]) := upd_same
  generalize upd H3 q0 (.lst [.ref p0, .ref p1, .ref p2]) = H4 at A S M ⊢
  clear g
  have L := M
  clear M
  refine ⟨_, rfl, ?_⟩
  refine ⟨_, rfl, a, C, t.c_BadName, _, rfl, S _ _ ha, W.i, W.k3, by show 2 ≤ sizeLine; decide, fun p3 g => ?_⟩
  replace A : Al (WdAt (upd H4 p3 (.tup [.str (Str.ofString "name"), .bl (b 3)]))) [.ref p0, .ref p1, .ref p2, .ref p3] [(Str.ofString "calls", b 0), (Str.ofString "clock", b 1), (Str.ofString "line", b 2), (Str.ofString "name", b 3)] := (A.imp fun _ _ => WdAt.same (same_new g _)).snoc ⟨p3, rfl, upd_same⟩
  replace S := S.trans (same_new g (.tup [.str (Str.ofString "name"), .bl (b 3)]))
  replace L := same_new g (.tup [.str (Str.ofString "name"), .bl (b 3)]) _ _ L
  generalize upd H4 p3 (.tup [.str (Str.ofString "name"), .bl (b 3)]) = H5 at A S L ⊢
  clear g
  refine ⟨_, rfl, a, C, t.c_BadNumber, _, rfl, S _ _ ha, W.i, W.k4, by show 2 ≤ sizeLine; decide, fun p4 g => ?_⟩
  replace A : Al (WdAt (upd H5 p4 (.tup [.str (Str.ofString "number"), .bl (b 4)]))) [.ref p0, .ref p1, .ref p2, .ref p3, .ref p4] [(Str.ofString "calls", b 0), (Str.ofString "clock", b 1), (Str.ofString "line", b 2), (Str.ofString "name", b 3), (Str.ofString "number", b 4)] := (A.imp fun _ _ => WdAt.same (same_new g _)).snoc ⟨p4, rfl, upd_same⟩
  replace S := S.trans (same_new g (.tup [.str (Str.ofString "number"), .bl (b 4)]))
  replace L := same_new g (.tup [.str (Str.ofString "number"), .bl (b 4)]) _ _ L
  generalize upd H5 p4 (.tup [.str (Str.ofString "number"), .bl (b 4)]) = H6 at A S L ⊢
  clear g
  refine ⟨by show 2 ≤ sizeLine; decide, fun q1 g => ?_⟩
  replace A := A.imp fun _ _ => WdAt.same (same_new g (.lst [.ref p3, .ref p4]))
  replace S := S.trans (same_new g (.lst [.ref p3, .ref p4]))
  replace L := same_new g (.lst [.ref p3, .ref p4]) _ _ L
  have M : upd H6 q1 (.lst [.ref p3, .ref p4]) q1 = some (.lst [.ref p3, .ref p4]) := upd_same
  generalize upd H6 q1 (.lst [.ref p3, .ref p4]) = H7 at A S M L ⊢
  clear g
  refine ⟨q0, q1, _, _, rfl, rfl, L, M, by show 5 ≤ sizeLine; decide, fun r1 g => ?_⟩
  replace A := A.imp fun _ _ => WdAt.same (same_new g (.lst ([.ref p0, .ref p1, .ref p2] ++ [.ref p3, .ref p4])))
  replace S := S.trans (same_new g (.lst ([.ref p0, .ref p1, .ref p2] ++ [.ref p3, .ref p4])))
  clear L M
  have L : upd H7 r1 (.lst ([.ref p0, .ref p1, .ref p2] ++ [.ref p3, .ref p4])) r1 = some (.lst [.ref p0, .ref p1, .ref p2, .ref p3, .ref p4]) := upd_same
  have hG : upd H7 r1 (.lst ([.ref p0, .ref p1, .ref p2] ++ [.ref p3, .ref p4])) = upd H7 r1 (.lst ([.ref p0, .ref p1, .ref p2] ++ [.ref p3, .ref p4])) := rfl
  generalize upd H7 r1 (.lst ([.ref p0, .ref p1, .ref p2] ++ [.ref p3, .ref p4])) = H8 at A S L hG ⊢
  clear hG g
  refine ⟨_, rfl, ?_⟩
  refine ⟨_, rfl, a, C, t.c_BadRow, _, rfl, S _ _ ha, W.i, W.k5, by show 2 ≤ sizeLine; decide, fun p5 g => ?_⟩
  replace A : Al (WdAt (upd H8 p5 (.tup [.str (Str.ofString "row"), .bl (b 5)]))) [.ref p0, .ref p1, .ref p2, .ref p3, .ref p4, .ref p5] [(Str.ofString "calls", b 0), (Str.ofString "clock", b 1), (Str.ofString "line", b 2), (Str.ofString "name", b 3), (Str.ofString "number", b 4), (Str.ofString "row", b 5)] := (A.imp fun _ _ => WdAt.same (same_new g _)).snoc ⟨p5, rfl, upd_same⟩
  replace S := S.trans (same_new g (.tup [.str (Str.ofString "row"), .bl (b 5)]))
  replace L := same_new g (.tup [.str (Str.ofString "row"), .bl (b 5)]) _ _ L
  generalize upd H8 p5 (.tup [.str (Str.ofString "row"), .bl (b 5)]) = H9 at A S L ⊢
  clear g
  refine ⟨_, rfl, a, C, t.c_BadRule, _, rfl, S _ _ ha, W.i, W.k6, by show 2 ≤ sizeLine; decide, fun p6 g => ?_⟩
  replace A : Al (WdAt (upd H9 p6 (.tup [.str (Str.ofString "days"), .bl (b 6)]))) [.ref p0, .ref p1, .ref p2, .ref p3, .ref p4, .ref p5, .ref p6] [(Str.ofString "calls", b 0), (Str.ofString "clock", b 1), (Str.ofString "line", b 2), (Str.ofString "name", b 3), (Str.ofString "number", b 4), (Str.ofString "row", b 5), (Str.ofString "days", b 6)] := (A.imp fun _ _ => WdAt.same (same_new g _)).snoc ⟨p6, rfl, upd_same⟩
  replace S := S.trans (same_new g (.tup [.str (Str.ofString "days"), .bl (b 6)]))
  replace L := same_new g (.tup [.str (Str.ofString "days"), .bl (b 6)]) _ _ L
  generalize upd H9 p6 (.tup [.str (Str.ofString "days"), .bl (b 6)]) = H10 at A S L ⊢
  clear g
  refine ⟨_, rfl, a, C, t.c_NoPlan, _, rfl, S _ _ ha, W.i, W.k7, by show 2 ≤ sizeLine; decide, fun p7 g => ?_⟩
  replace A : Al (WdAt (upd H10 p7 (.tup [.str (Str.ofString "plan"), .bl (b 7)]))) [.ref p0, .ref p1, .ref p2, .ref p3, .ref p4, .ref p5, .ref p6, .ref p7] [(Str.ofString "calls", b 0), (Str.ofString "clock", b 1), (Str.ofString "line", b 2), (Str.ofString "name", b 3), (Str.ofString "number", b 4), (Str.ofString "row", b 5), (Str.ofString "days", b 6), (Str.ofString "plan", b 7)] := (A.imp fun _ _ => WdAt.same (same_new g _)).snoc ⟨p7, rfl, upd_same⟩
  replace S := S.trans (same_new g (.tup [.str (Str.ofString "plan"), .bl (b 7)]))
  replace L := same_new g (.tup [.str (Str.ofString "plan"), .bl (b 7)]) _ _ L
  generalize upd H10 p7 (.tup [.str (Str.ofString "plan"), .bl (b 7)]) = H11 at A S L ⊢
  clear g
  refine ⟨by show 3 ≤ sizeLine; decide, fun q2 g => ?_⟩
  replace A := A.imp fun _ _ => WdAt.same (same_new g (.lst [.ref p5, .ref p6, .ref p7]))
  replace S := S.trans (same_new g (.lst [.ref p5, .ref p6, .ref p7]))
  replace L := same_new g (.lst [.ref p5, .ref p6, .ref p7]) _ _ L
  have M : upd H11 q2 (.lst [.ref p5, .ref p6, .ref p7]) q2 = some (.lst [.ref p5, .ref p6, .ref p7]) := upd_same
  generalize upd H11 q2 (.lst [.ref p5, .ref p6, .ref p7]) = H12 at A S M L ⊢
  clear g
  refine ⟨r1, q2, _, _, rfl, rfl, L, M, by show 8 ≤ sizeLine; decide, fun r2 g => ?_⟩
  replace A := A.imp fun _ _ => WdAt.same (same_new g (.lst ([.ref p0, .ref p1, .ref p2, .ref p3, .ref p4] ++ [.ref p5, .ref p6, .ref p7])))
  replace S := S.trans (same_new g (.lst ([.ref p0, .ref p1, .ref p2, .ref p3, .ref p4] ++ [.ref p5, .ref p6, .ref p7])))
  clear L M
  have L : upd H12 r2 (.lst ([.ref p0, .ref p1, .ref p2, .ref p3, .ref p4] ++ [.ref p5, .ref p6, .ref p7])) r2 = some (.lst [.ref p0, .ref p1, .ref p2, .ref p3, .ref p4, .ref p5, .ref p6, .ref p7]) := upd_same
  have hG : upd H12 r2 (.lst ([.ref p0, .ref p1, .ref p2, .ref p3, .ref p4] ++ [.ref p5, .ref p6, .ref p7])) = upd H12 r2 (.lst ([.ref p0, .ref p1, .ref p2, .ref p3, .ref p4] ++ [.ref p5, .ref p6, .ref p7])) := rfl
  generalize upd H12 r2 (.lst ([.ref p0, .ref p1, .ref p2, .ref p3, .ref p4] ++ [.ref p5, .ref p6, .ref p7])) = H13 at A S L hG ⊢
  clear hG g
  refine ⟨_, rfl, ?_⟩
  refine ⟨_, rfl, a, C, t.c_NoRule, _, rfl, S _ _ ha, W.i, W.k8, by show 2 ≤ sizeLine; decide, fun p8 g => ?_⟩
  replace A : Al (WdAt (upd H13 p8 (.tup [.str (Str.ofString "rule"), .bl (b 8)]))) [.ref p0, .ref p1, .ref p2, .ref p3, .ref p4, .ref p5, .ref p6, .ref p7, .ref p8] [(Str.ofString "calls", b 0), (Str.ofString "clock", b 1), (Str.ofString "line", b 2), (Str.ofString "name", b 3), (Str.ofString "number", b 4), (Str.ofString "row", b 5), (Str.ofString "days", b 6), (Str.ofString "plan", b 7), (Str.ofString "rule", b 8)] := (A.imp fun _ _ => WdAt.same (same_new g _)).snoc ⟨p8, rfl, upd_same⟩
  replace S := S.trans (same_new g (.tup [.str (Str.ofString "rule"), .bl (b 8)]))
  replace L := same_new g (.tup [.str (Str.ofString "rule"), .bl (b 8)]) _ _ L
  generalize upd H13 p8 (.tup [.str (Str.ofString "rule"), .bl (b 8)]) = H14 at A S L ⊢
  clear g
  refine ⟨by show 1 ≤ sizeLine; decide, fun q3 g => ?_⟩
  replace A := A.imp fun _ _ => WdAt.same (same_new g (.lst [.ref p8]))
  replace S := S.trans (same_new g (.lst [.ref p8]))
  replace L := same_new g (.lst [.ref p8]) _ _ L
  have M : upd H14 q3 (.lst [.ref p8]) q3 = some (.lst [.ref p8]) := upd_same
  generalize upd H14 q3 (.lst [.ref p8]) = H15 at A S M L ⊢
  clear g
  refine ⟨r2, q3, _, _, rfl, rfl, L, M, by show 9 ≤ sizeLine; decide, fun r3 g => ?_⟩
  replace A := A.imp fun _ _ => WdAt.same (same_new g (.lst ([.ref p0, .ref p1, .ref p2, .ref p3, .ref p4, .ref p5, .ref p6, .ref p7] ++ [.ref p8])))
  replace S := S.trans (same_new g (.lst ([.ref p0, .ref p1, .ref p2, .ref p3, .ref p4, .ref p5, .ref p6, .ref p7] ++ [.ref p8])))
  clear L M
  have L : upd H15 r3 (.lst ([.ref p0, .ref p1, .ref p2, .ref p3, .ref p4, .ref p5, .ref p6, .ref p7] ++ [.ref p8])) r3 = some (.lst [.ref p0, .ref p1, .ref p2, .ref p3, .ref p4, .ref p5, .ref p6, .ref p7, .ref p8]) := upd_same
  have hG : upd H15 r3 (.lst ([.ref p0, .ref p1, .ref p2, .ref p3, .ref p4, .ref p5, .ref p6, .ref p7] ++ [.ref p8])) = upd H15 r3 (.lst ([.ref p0, .ref p1, .ref p2, .ref p3, .ref p4, .ref p5, .ref p6, .ref p7] ++ [.ref p8])) := rfl
  generalize upd H15 r3 (.lst ([.ref p0, .ref p1, .ref p2, .ref p3, .ref p4, .ref p5, .ref p6, .ref p7] ++ [.ref p8])) = H16 at A S L hG ⊢
  clear hG g
  refine ⟨_, rfl, ?_⟩
  refine ⟨_, rfl, a, C, t.c_NoRun, _, rfl, S _ _ ha, W.i, W.k9, by show 2 ≤ sizeLine; decide, fun p9 g => ?_⟩
  replace A : Al (WdAt (upd H16 p9 (.tup [.str (Str.ofString "run"), .bl (b 9)]))) [.ref p0, .ref p1, .ref p2, .ref p3, .ref p4, .ref p5, .ref p6, .ref p7, .ref p8, .ref p9] [(Str.ofString "calls", b 0), (Str.ofString "clock", b 1), (Str.ofString "line", b 2), (Str.ofString "name", b 3), (Str.ofString "number", b 4), (Str.ofString "row", b 5), (Str.ofString "days", b 6), (Str.ofString "plan", b 7), (Str.ofString "rule", b 8), (Str.ofString "run", b 9)] := (A.imp fun _ _ => WdAt.same (same_new g _)).snoc ⟨p9, rfl, upd_same⟩
  replace S := S.trans (same_new g (.tup [.str (Str.ofString "run"), .bl (b 9)]))
  replace L := same_new g (.tup [.str (Str.ofString "run"), .bl (b 9)]) _ _ L
  generalize upd H16 p9 (.tup [.str (Str.ofString "run"), .bl (b 9)]) = H17 at A S L ⊢
  clear g
  refine ⟨_, rfl, a, C, t.c_NoStop, _, rfl, S _ _ ha, W.i, W.k10, by show 2 ≤ sizeLine; decide, fun p10 g => ?_⟩
  replace A : Al (WdAt (upd H17 p10 (.tup [.str (Str.ofString "stop"), .bl (b 10)]))) [.ref p0, .ref p1, .ref p2, .ref p3, .ref p4, .ref p5, .ref p6, .ref p7, .ref p8, .ref p9, .ref p10] [(Str.ofString "calls", b 0), (Str.ofString "clock", b 1), (Str.ofString "line", b 2), (Str.ofString "name", b 3), (Str.ofString "number", b 4), (Str.ofString "row", b 5), (Str.ofString "days", b 6), (Str.ofString "plan", b 7), (Str.ofString "rule", b 8), (Str.ofString "run", b 9), (Str.ofString "stop", b 10)] := (A.imp fun _ _ => WdAt.same (same_new g _)).snoc ⟨p10, rfl, upd_same⟩
  replace S := S.trans (same_new g (.tup [.str (Str.ofString "stop"), .bl (b 10)]))
  replace L := same_new g (.tup [.str (Str.ofString "stop"), .bl (b 10)]) _ _ L
  generalize upd H17 p10 (.tup [.str (Str.ofString "stop"), .bl (b 10)]) = H18 at A S L ⊢
  clear g
  refine ⟨_, rfl, a, C, t.c_NoTicket, _, rfl, S _ _ ha, W.i, W.k11, by show 2 ≤ sizeLine; decide, fun p11 g => ?_⟩
  replace A : Al (WdAt (upd H18 p11 (.tup [.str (Str.ofString "ticket"), .bl (b 11)]))) [.ref p0, .ref p1, .ref p2, .ref p3, .ref p4, .ref p5, .ref p6, .ref p7, .ref p8, .ref p9, .ref p10, .ref p11] [(Str.ofString "calls", b 0), (Str.ofString "clock", b 1), (Str.ofString "line", b 2), (Str.ofString "name", b 3), (Str.ofString "number", b 4), (Str.ofString "row", b 5), (Str.ofString "days", b 6), (Str.ofString "plan", b 7), (Str.ofString "rule", b 8), (Str.ofString "run", b 9), (Str.ofString "stop", b 10), (Str.ofString "ticket", b 11)] := (A.imp fun _ _ => WdAt.same (same_new g _)).snoc ⟨p11, rfl, upd_same⟩
  replace S := S.trans (same_new g (.tup [.str (Str.ofString "ticket"), .bl (b 11)]))
  replace L := same_new g (.tup [.str (Str.ofString "ticket"), .bl (b 11)]) _ _ L
  generalize upd H18 p11 (.tup [.str (Str.ofString "ticket"), .bl (b 11)]) = H19 at A S L ⊢
  clear g
  refine ⟨by show 3 ≤ sizeLine; decide, fun q4 g => ?_⟩
  replace A := A.imp fun _ _ => WdAt.same (same_new g (.lst [.ref p9, .ref p10, .ref p11]))
  replace S := S.trans (same_new g (.lst [.ref p9, .ref p10, .ref p11]))
  replace L := same_new g (.lst [.ref p9, .ref p10, .ref p11]) _ _ L
  have M : upd H19 q4 (.lst [.ref p9, .ref p10, .ref p11]) q4 = some (.lst [.ref p9, .ref p10, .ref p11]) := upd_same
  generalize upd H19 q4 (.lst [.ref p9, .ref p10, .ref p11]) = H20 at A S M L ⊢
  clear g
  refine ⟨r3, q4, _, _, rfl, rfl, L, M, by show 12 ≤ sizeLine; decide, fun r4 g => ?_⟩
  replace A := A.imp fun _ _ => WdAt.same (same_new g (.lst ([.ref p0, .ref p1, .ref p2, .ref p3, .ref p4, .ref p5, .ref p6, .ref p7, .ref p8] ++ [.ref p9, .ref p10, .ref p11])))
  replace S := S.trans (same_new g (.lst ([.ref p0, .ref p1, .ref p2, .ref p3, .ref p4, .ref p5, .ref p6, .ref p7, .ref p8] ++ [.ref p9, .ref p10, .ref p11])))
  clear L M
  have L : upd H20 r4 (.lst ([.ref p0, .ref p1, .ref p2, .ref p3, .ref p4, .ref p5, .ref p6, .ref p7, .ref p8] ++ [.ref p9, .ref p10, .ref p11])) r4 = some (.lst [.ref p0, .ref p1, .ref p2, .ref p3, .ref p4, .ref p5, .ref p6, .ref p7, .ref p8, .ref p9, .ref p10, .ref p11]) := upd_same
  have hG : upd H20 r4 (.lst ([.ref p0, .ref p1, .ref p2, .ref p3, .ref p4, .ref p5, .ref p6, .ref p7, .ref p8] ++ [.ref p9, .ref p10, .ref p11])) = upd H20 r4 (.lst ([.ref p0, .ref p1, .ref p2, .ref p3, .ref p4, .ref p5, .ref p6, .ref p7, .ref p8] ++ [.ref p9, .ref p10, .ref p11])) := rfl
  generalize upd H20 r4 (.lst ([.ref p0, .ref p1, .ref p2, .ref p3, .ref p4, .ref p5, .ref p6, .ref p7, .ref p8] ++ [.ref p9, .ref p10, .ref p11])) = H21 at A S L hG ⊢
  clear hG g
  refine ⟨_, rfl, ?_⟩
  refine ⟨_, rfl, a, C, t.c_NoTraveller, _, rfl, S _ _ ha, W.i, W.k12, by show 2 ≤ sizeLine; decide, fun p12 g => ?_⟩
  replace A : Al (WdAt (upd H21 p12 (.tup [.str (Str.ofString "traveller"), .bl (b 12)]))) [.ref p0, .ref p1, .ref p2, .ref p3, .ref p4, .ref p5, .ref p6, .ref p7, .ref p8, .ref p9, .ref p10, .ref p11, .ref p12] [(Str.ofString "calls", b 0), (Str.ofString "clock", b 1), (Str.ofString "line", b 2), (Str.ofString "name", b 3), (Str.ofString "number", b 4), (Str.ofString "row", b 5), (Str.ofString "days", b 6), (Str.ofString "plan", b 7), (Str.ofString "rule", b 8), (Str.ofString "run", b 9), (Str.ofString "stop", b 10), (Str.ofString "ticket", b 11), (Str.ofString "traveller", b 12)] := (A.imp fun _ _ => WdAt.same (same_new g _)).snoc ⟨p12, rfl, upd_same⟩
  replace S := S.trans (same_new g (.tup [.str (Str.ofString "traveller"), .bl (b 12)]))
  replace L := same_new g (.tup [.str (Str.ofString "traveller"), .bl (b 12)]) _ _ L
  generalize upd H21 p12 (.tup [.str (Str.ofString "traveller"), .bl (b 12)]) = H22 at A S L ⊢
  clear g
  refine ⟨_, rfl, a, C, t.c_NoTrip, _, rfl, S _ _ ha, W.i, W.k13, by show 2 ≤ sizeLine; decide, fun p13 g => ?_⟩
  replace A : Al (WdAt (upd H22 p13 (.tup [.str (Str.ofString "trip"), .bl (b 13)]))) [.ref p0, .ref p1, .ref p2, .ref p3, .ref p4, .ref p5, .ref p6, .ref p7, .ref p8, .ref p9, .ref p10, .ref p11, .ref p12, .ref p13] [(Str.ofString "calls", b 0), (Str.ofString "clock", b 1), (Str.ofString "line", b 2), (Str.ofString "name", b 3), (Str.ofString "number", b 4), (Str.ofString "row", b 5), (Str.ofString "days", b 6), (Str.ofString "plan", b 7), (Str.ofString "rule", b 8), (Str.ofString "run", b 9), (Str.ofString "stop", b 10), (Str.ofString "ticket", b 11), (Str.ofString "traveller", b 12), (Str.ofString "trip", b 13)] := (A.imp fun _ _ => WdAt.same (same_new g _)).snoc ⟨p13, rfl, upd_same⟩
  replace S := S.trans (same_new g (.tup [.str (Str.ofString "trip"), .bl (b 13)]))
  replace L := same_new g (.tup [.str (Str.ofString "trip"), .bl (b 13)]) _ _ L
  generalize upd H22 p13 (.tup [.str (Str.ofString "trip"), .bl (b 13)]) = H23 at A S L ⊢
  clear g
  refine ⟨by show 2 ≤ sizeLine; decide, fun q5 g => ?_⟩
  replace A := A.imp fun _ _ => WdAt.same (same_new g (.lst [.ref p12, .ref p13]))
  replace S := S.trans (same_new g (.lst [.ref p12, .ref p13]))
  replace L := same_new g (.lst [.ref p12, .ref p13]) _ _ L
  have M : upd H23 q5 (.lst [.ref p12, .ref p13]) q5 = some (.lst [.ref p12, .ref p13]) := upd_same
  generalize upd H23 q5 (.lst [.ref p12, .ref p13]) = H24 at A S M L ⊢
  clear g
  refine ⟨r4, q5, _, _, rfl, rfl, L, M, by show 14 ≤ sizeLine; decide, fun r5 g => ?_⟩
  replace A := A.imp fun _ _ => WdAt.same (same_new g (.lst ([.ref p0, .ref p1, .ref p2, .ref p3, .ref p4, .ref p5, .ref p6, .ref p7, .ref p8, .ref p9, .ref p10, .ref p11] ++ [.ref p12, .ref p13])))
  replace S := S.trans (same_new g (.lst ([.ref p0, .ref p1, .ref p2, .ref p3, .ref p4, .ref p5, .ref p6, .ref p7, .ref p8, .ref p9, .ref p10, .ref p11] ++ [.ref p12, .ref p13])))
  clear L M
  have L : upd H24 r5 (.lst ([.ref p0, .ref p1, .ref p2, .ref p3, .ref p4, .ref p5, .ref p6, .ref p7, .ref p8, .ref p9, .ref p10, .ref p11] ++ [.ref p12, .ref p13])) r5 = some (.lst [.ref p0, .ref p1, .ref p2, .ref p3, .ref p4, .ref p5, .ref p6, .ref p7, .ref p8, .ref p9, .ref p10, .ref p11, .ref p12, .ref p13]) := upd_same
  have hG : upd H24 r5 (.lst ([.ref p0, .ref p1, .ref p2, .ref p3, .ref p4, .ref p5, .ref p6, .ref p7, .ref p8, .ref p9, .ref p10, .ref p11] ++ [.ref p12, .ref p13])) = upd H24 r5 (.lst ([.ref p0, .ref p1, .ref p2, .ref p3, .ref p4, .ref p5, .ref p6, .ref p7, .ref p8, .ref p9, .ref p10, .ref p11] ++ [.ref p12, .ref p13])) := rfl
  generalize upd H24 r5 (.lst ([.ref p0, .ref p1, .ref p2, .ref p3, .ref p4, .ref p5, .ref p6, .ref p7, .ref p8, .ref p9, .ref p10, .ref p11] ++ [.ref p12, .ref p13])) = H25 at A S L hG ⊢
  clear hG g
  refine ⟨_, rfl, ?_⟩
  refine ⟨_, rfl, a, C, t.c_TooLate, _, rfl, S _ _ ha, W.i, W.k14, by show 2 ≤ sizeLine; decide, fun p14 g => ?_⟩
  replace A : Al (WdAt (upd H25 p14 (.tup [.str (Str.ofString "late"), .bl (b 14)]))) [.ref p0, .ref p1, .ref p2, .ref p3, .ref p4, .ref p5, .ref p6, .ref p7, .ref p8, .ref p9, .ref p10, .ref p11, .ref p12, .ref p13, .ref p14] [(Str.ofString "calls", b 0), (Str.ofString "clock", b 1), (Str.ofString "line", b 2), (Str.ofString "name", b 3), (Str.ofString "number", b 4), (Str.ofString "row", b 5), (Str.ofString "days", b 6), (Str.ofString "plan", b 7), (Str.ofString "rule", b 8), (Str.ofString "run", b 9), (Str.ofString "stop", b 10), (Str.ofString "ticket", b 11), (Str.ofString "traveller", b 12), (Str.ofString "trip", b 13), (Str.ofString "late", b 14)] := (A.imp fun _ _ => WdAt.same (same_new g _)).snoc ⟨p14, rfl, upd_same⟩
  replace S := S.trans (same_new g (.tup [.str (Str.ofString "late"), .bl (b 14)]))
  replace L := same_new g (.tup [.str (Str.ofString "late"), .bl (b 14)]) _ _ L
  generalize upd H25 p14 (.tup [.str (Str.ofString "late"), .bl (b 14)]) = H26 at A S L ⊢
  clear g
  refine ⟨_, rfl, a, C, t.c_TooMany, _, rfl, S _ _ ha, W.i, W.k15, by show 2 ≤ sizeLine; decide, fun p15 g => ?_⟩
  replace A : Al (WdAt (upd H26 p15 (.tup [.str (Str.ofString "many"), .bl (b 15)]))) [.ref p0, .ref p1, .ref p2, .ref p3, .ref p4, .ref p5, .ref p6, .ref p7, .ref p8, .ref p9, .ref p10, .ref p11, .ref p12, .ref p13, .ref p14, .ref p15] [(Str.ofString "calls", b 0), (Str.ofString "clock", b 1), (Str.ofString "line", b 2), (Str.ofString "name", b 3), (Str.ofString "number", b 4), (Str.ofString "row", b 5), (Str.ofString "days", b 6), (Str.ofString "plan", b 7), (Str.ofString "rule", b 8), (Str.ofString "run", b 9), (Str.ofString "stop", b 10), (Str.ofString "ticket", b 11), (Str.ofString "traveller", b 12), (Str.ofString "trip", b 13), (Str.ofString "late", b 14), (Str.ofString "many", b 15)] := (A.imp fun _ _ => WdAt.same (same_new g _)).snoc ⟨p15, rfl, upd_same⟩
  replace S := S.trans (same_new g (.tup [.str (Str.ofString "many"), .bl (b 15)]))
  replace L := same_new g (.tup [.str (Str.ofString "many"), .bl (b 15)]) _ _ L
  generalize upd H26 p15 (.tup [.str (Str.ofString "many"), .bl (b 15)]) = H27 at A S L ⊢
  clear g
  refine ⟨_, rfl, a, C, t.c_Twice, _, rfl, S _ _ ha, W.i, W.k16, by show 2 ≤ sizeLine; decide, fun p16 g => ?_⟩
  replace A : Al (WdAt (upd H27 p16 (.tup [.str (Str.ofString "twice"), .bl (b 16)]))) [.ref p0, .ref p1, .ref p2, .ref p3, .ref p4, .ref p5, .ref p6, .ref p7, .ref p8, .ref p9, .ref p10, .ref p11, .ref p12, .ref p13, .ref p14, .ref p15, .ref p16] [(Str.ofString "calls", b 0), (Str.ofString "clock", b 1), (Str.ofString "line", b 2), (Str.ofString "name", b 3), (Str.ofString "number", b 4), (Str.ofString "row", b 5), (Str.ofString "days", b 6), (Str.ofString "plan", b 7), (Str.ofString "rule", b 8), (Str.ofString "run", b 9), (Str.ofString "stop", b 10), (Str.ofString "ticket", b 11), (Str.ofString "traveller", b 12), (Str.ofString "trip", b 13), (Str.ofString "late", b 14), (Str.ofString "many", b 15), (Str.ofString "twice", b 16)] := (A.imp fun _ _ => WdAt.same (same_new g _)).snoc ⟨p16, rfl, upd_same⟩
  replace S := S.trans (same_new g (.tup [.str (Str.ofString "twice"), .bl (b 16)]))
  replace L := same_new g (.tup [.str (Str.ofString "twice"), .bl (b 16)]) _ _ L
  generalize upd H27 p16 (.tup [.str (Str.ofString "twice"), .bl (b 16)]) = H28 at A S L ⊢
  clear g
  refine ⟨by show 3 ≤ sizeLine; decide, fun q6 g => ?_⟩
  replace A := A.imp fun _ _ => WdAt.same (same_new g (.lst [.ref p14, .ref p15, .ref p16]))
  replace S := S.trans (same_new g (.lst [.ref p14, .ref p15, .ref p16]))
  replace L := same_new g (.lst [.ref p14, .ref p15, .ref p16]) _ _ L
  have M : upd H28 q6 (.lst [.ref p14, .ref p15, .ref p16]) q6 = some (.lst [.ref p14, .ref p15, .ref p16]) := upd_same
  generalize upd H28 q6 (.lst [.ref p14, .ref p15, .ref p16]) = H29 at A S M L ⊢
  clear g
  refine ⟨r5, q6, _, _, rfl, rfl, L, M, by show 17 ≤ sizeLine; decide, fun r6 g => ?_⟩
  replace A := A.imp fun _ _ => WdAt.same (same_new g (.lst ([.ref p0, .ref p1, .ref p2, .ref p3, .ref p4, .ref p5, .ref p6, .ref p7, .ref p8, .ref p9, .ref p10, .ref p11, .ref p12, .ref p13] ++ [.ref p14, .ref p15, .ref p16])))
  replace S := S.trans (same_new g (.lst ([.ref p0, .ref p1, .ref p2, .ref p3, .ref p4, .ref p5, .ref p6, .ref p7, .ref p8, .ref p9, .ref p10, .ref p11, .ref p12, .ref p13] ++ [.ref p14, .ref p15, .ref p16])))
  clear L M
  have L : upd H29 r6 (.lst ([.ref p0, .ref p1, .ref p2, .ref p3, .ref p4, .ref p5, .ref p6, .ref p7, .ref p8, .ref p9, .ref p10, .ref p11, .ref p12, .ref p13] ++ [.ref p14, .ref p15, .ref p16])) r6 = some (.lst [.ref p0, .ref p1, .ref p2, .ref p3, .ref p4, .ref p5, .ref p6, .ref p7, .ref p8, .ref p9, .ref p10, .ref p11, .ref p12, .ref p13, .ref p14, .ref p15, .ref p16]) := upd_same
  have hG : upd H29 r6 (.lst ([.ref p0, .ref p1, .ref p2, .ref p3, .ref p4, .ref p5, .ref p6, .ref p7, .ref p8, .ref p9, .ref p10, .ref p11, .ref p12, .ref p13] ++ [.ref p14, .ref p15, .ref p16])) = upd H29 r6 (.lst ([.ref p0, .ref p1, .ref p2, .ref p3, .ref p4, .ref p5, .ref p6, .ref p7, .ref p8, .ref p9, .ref p10, .ref p11, .ref p12, .ref p13] ++ [.ref p14, .ref p15, .ref p16])) := rfl
  generalize upd H29 r6 (.lst ([.ref p0, .ref p1, .ref p2, .ref p3, .ref p4, .ref p5, .ref p6, .ref p7, .ref p8, .ref p9, .ref p10, .ref p11, .ref p12, .ref p13] ++ [.ref p14, .ref p15, .ref p16])) = H30 at A S L hG ⊢
  clear hG g
  refine ⟨_, rfl, r6, rfl, ⟨_, SqL.of L⟩, comp_list (K := K) (a := r6) (xs := [.ref p0, .ref p1, .ref p2, .ref p3, .ref p4, .ref p5, .ref p6, .ref p7, .ref p8, .ref p9, .ref p10, .ref p11, .ref p12, .ref p13, .ref p14, .ref p15, .ref p16]) (fun i acc σ H' => H' = H30 ∧ acc = ((([(Str.ofString "calls", b 0), (Str.ofString "clock", b 1), (Str.ofString "line", b 2), (Str.ofString "name", b 3), (Str.ofString "number", b 4), (Str.ofString "row", b 5), (Str.ofString "days", b 6), (Str.ofString "plan", b 7), (Str.ofString "rule", b 8), (Str.ofString "run", b 9), (Str.ofString "stop", b 10), (Str.ofString "ticket", b 11), (Str.ofString "traveller", b 12), (Str.ofString "trip", b 13), (Str.ofString "late", b 14), (Str.ofString "many", b 15), (Str.ofString "twice", b 16)].take i).filter (·.2)).map (·.1)).map V.str ∧ ∃ v u, σ = [v, u]) ⟨rfl, rfl, _, _, rfl⟩ (by show 17 ≤ sizeLine; decide) (fun i acc σ H' _ ⟨e, _⟩ => by rw [e]; exact SqL.of L) ?_ ?_⟩
  · rintro i y acc σ H' hi hy ⟨rfl, rfl, v, u, rfl⟩
    obtain ⟨x, ex, p, rfl, hp⟩ := A.get hy
    refine ⟨p, _, rfl, SqT.of hp, rfl, _, _, rfl, _, _, rfl, rfl, _, rfl, _, rfl, ?_⟩
    rw [List.take_add_one, ex, List.filter_append]
    cases hx : x.2 with
    | true =>
      refine itT rfl ⟨_, rfl, by rw [List.length_append, List.length_singleton]; omega, rfl, ?_, _, _, rfl⟩
      have f : (some x).toList.filter (fun w : Str × Bool => w.2) = [x] := by
        show [x].filter (fun w : Str × Bool => w.2) = [x]
        rw [List.filter_cons, hx]
        rfl
      rw [f, List.map_append, List.map_append]
      rfl
    | false =>
      refine itF Bool.false_ne_true ⟨by omega, rfl, ?_, _, _, rfl⟩
      have f : (some x).toList.filter (fun w : Str × Bool => w.2) = [] := by
        show [x].filter (fun w : Str × Bool => w.2) = []
        rw [List.filter_cons, hx]
        rfl
      rw [f, List.append_nil]
  · rintro acc σ H' ha' ⟨rfl, rfl, v, u, rfl⟩ pa ga
    have ew : (([(Str.ofString "calls", b 0), (Str.ofString "clock", b 1), (Str.ofString "line", b 2), (Str.ofString "name", b 3), (Str.ofString "number", b 4), (Str.ofString "row", b 5), (Str.ofString "days", b 6), (Str.ofString "plan", b 7), (Str.ofString "rule", b 8), (Str.ofString "run", b 9), (Str.ofString "stop", b 10), (Str.ofString "ticket", b 11), (Str.ofString "traveller", b 12), (Str.ofString "trip", b 13), (Str.ofString "late", b 14), (Str.ofString "many", b 15), (Str.ofString "twice", b 16)].take [V.ref p0, V.ref p1, V.ref p2, V.ref p3, V.ref p4, V.ref p5, V.ref p6, V.ref p7, V.ref p8, V.ref p9, V.ref p10, V.ref p11, V.ref p12, V.ref p13, V.ref p14, V.ref p15, V.ref p16].length).filter (·.2)).map (·.1) = wordOf b := rfl
    rw [ew]
    have s1 := same_new ga (.lst ((wordOf b).map V.str))
    refine ⟨by show 1 ≤ sizeLine; decide, fun pb gb => ?_⟩
    have s2 := same_new gb (.lst [.str (Str.ofString "else")])
    refine ⟨_, rfl, a, C, "ValueError", _, rfl, s2 _ _ (s1 _ _ (S _ _ ha)), W.i, W.v, _, rfl, _, rfl, ?_⟩
    refine ⟨pb, 0, _, rfl, rfl, upd_same, by decide, by decide, by show 1 * 0 ≤ sizeLine; decide, fun pc gc => ?_⟩
    have s3 := same_new gc (.lst [])
    have lw : (wordOf b).length ≤ 17 := by
      unfold wordOf
      rw [List.length_map]
      exact Nat.le_trans (List.length_filter_le _ _) (by rw [List.length_map, List.length_range]; exact Nat.le_refl _)
    refine ⟨pa, pc, _, _, rfl, rfl, s3 _ _ (s2 _ _ upd_same), upd_same, Nat.le_trans (show _ ≤ 17 by rw [List.length_map]; show _ + 0 ≤ 17; omega) (by decide), fun pd gd => ?_⟩
    refine q pd _ ((((S.trans s1).trans s2).trans s3).trans (same_new gd _)) ?_
    rw [upd_same]
    show some (HO.lst (_ ++ [])) = _
    rw [List.append_nil]

def spWhole : Sp := fun vs H Q _ => ∃ (v : V) (T : String), vs = [v] ∧ Kd H v T ∧ Q (.bl (wholeV v)) H
theorem ok_law_whole (Tx : Tab K mg t) : FnOk P w K mg base CX0 1 t.f_law_whole t.d_law_whole ["_law_found"] spWhole := by
  refine Tx.F_law_whole.ok sc_law_whole (fun vs H Q E h => ?_) (fun cdv A outer s H vs Q E hr h => ?_)
  · obtain ⟨v, T, rfl, _⟩ := h
    rfl
  obtain ⟨v, T, rfl, kd, q⟩ := h
  refine ⟨_, (pss_one (ps_ret (pe_and (pe_callB call_isi_ty rfl Tx.z_isinstance b_isinstance (pac (pv 0) (pac (pe_gty rfl Tx.z_int b_int) pa_nil))) (pe_one (pe_not (pe_callB call_isi_ty rfl Tx.z_isinstance b_isinstance (pac (pv 0) (pac (pe_gty rfl Tx.z_bool b_bool) pa_nil)))))))), ?_⟩
  refine ⟨_, rfl, v, "int", _, _, rfl, kd.ty, kit_int kd, _, rfl, ?_⟩
  cases kd with
  | non => exact itF (by decide) q
  | str x => exact itF (by decide) q
  | lst e => exact itF (by decide) q
  | tup e => exact itF (by decide) q
  | dK e => exact itF (by decide) q
  | bl b => exact itT (by decide) ⟨_, rfl, _, "bool", _, _, rfl, (Kd.bl b).ty (H := H), kit_bool (H := H) (.bl b), _, rfl, q⟩
  | int i => exact itT (by decide) ⟨_, rfl, _, "bool", _, _, rfl, (Kd.int i).ty (H := H), kit_bool (H := H) (.int i), _, rfl, q⟩


def spDraw (K : W.Frag) : Sp := fun vs H Q _ => ∃ (a : Addr) (ns : List Int) (k : Int), vs = [.ref a, .int k] ∧ SqL K H a (ns.map V.int) ∧ 0 ≤ k ∧ k ≤ 100000 ∧ ∀ (d : Nat) H', d < 998244353 → Same H H' → Q (.int (d : Nat)) H'
theorem ok_law_draw (Tx : Tab K mg t) : FnOk P w K mg base CX0 1 t.f_law_draw t.d_law_draw ["_law_script", "_law_k"] (spDraw K) := by
  refine Tx.F_law_draw.ok sc_law_draw (fun vs H Q E h => ?_) (fun cdv A outer s H vs Q E hr h => ?_)
  · obtain ⟨a, ns, k, rfl, _⟩ := h
    rfl
  obtain ⟨a, ns, k, rfl, hS, k0, k1, q⟩ := h
  refine ⟨_, (pss_cons (ps_set (i := 2) sc_law_draw.nd rfl (Or.inl rfl) pe_int)
    (pss_join (ps_if (pt_cmpR (op_ne_lst hr.units0) (pv 0) (pe_lst pa_nil) (nomark _))
    (pss_one (ps_set (i := 2) sc_law_draw.nd rfl (Or.inl rfl) (pe_ix ix_list (pv 0) (pe_op op_mod (pv 1) (pe_callB call_len_seq rfl Tx.z_len b_len (pac (pv 0) pa_nil))) (fun _ _ => rfl))))
    pss_nil)
    (pss_cons (ps_set (i := 3) sc_law_draw.nd rfl (Or.inl rfl) (pe_op op_add (pe_op op_add (pe_op op_mod (pv 2) pe_int) (pe_op op_mul pe_int (pv 1))) pe_int))
    (pss_one (ps_ret (pe_op op_fdiv (pe_op op_mod (pe_op op_mul (pe_op op_mod (pe_op op_mul (pv 3) (pv 3)) pe_int) (pv 3)) pe_int) pe_int)))))), ?_⟩
  refine ⟨fun σ H' => Same H H' ∧ ∃ c : Int, σ = [some (.ref a), some (.int k), some (.int c), none], ?_, ?_⟩
  · refine ⟨_, rfl, (by show 0 ≤ sizeLine; decide), fun p hp => ?_⟩
    have sm := same_new hp (.lst [])
    refine ⟨a, p, _, _, rfl, rfl, sm.seq hS, SqL.of upd_same, flat_ints ns, rfl, _, rfl, ?_⟩
    cases ns with
    | nil => exact itF (by decide) ⟨sm, 0, rfl⟩
    | cons n r =>
      refine itT rfl ?_
      have hpos : (0 : Int) < (((n :: r).map V.int).length : Nat) := by rw [List.length_map, List.length_cons]; omega
      have h1 := Int.emod_nonneg k (show ((((n :: r).map V.int).length : Nat) : Int) ≠ 0 by omega)
      have h2 := Int.emod_lt_of_pos k hpos
      have hlt : (k % (((n :: r).map V.int).length : Nat)).toNat < (n :: r).length := by
        rw [List.length_map] at h1 h2 ⊢
        omega
      refine ⟨_, rfl, _, rfl, _, rfl, a, _, rfl, .inl (sm.seq hS), _, _, rfl, rfl, hpos, a, _, _, .int ((n :: r)[(k % (((n :: r).map V.int).length : Nat)).toNat]), rfl, rfl, sm.seq hS, ?_, sm, _, rfl⟩
      have e : k % (((n :: r).map V.int).length : Nat) = (((k % (((n :: r).map V.int).length : Nat)).toNat : Nat) : Int) := by omega
      have q2 : atI ((n :: r).map V.int) (((k % (((n :: r).map V.int).length : Nat)).toNat : Nat) : Int) = some (.int ((n :: r)[(k % (((n :: r).map V.int).length : Nat)).toNat])) := atI_nat (by rw [List.getElem?_map, List.getElem?_eq_getElem hlt]; rfl)
      rw [← e] at q2
      exact q2
  · rintro σ H' ⟨sm, c, rfl⟩
    have g1 : 0 ≤ c % 1000000007 := Int.emod_nonneg _ (by decide)
    have g2 : c % 1000000007 < 1000000007 := Int.emod_lt_of_pos _ (by decide)
    refine ⟨_, rfl, _, _, rfl, rfl, (by show (0 : Int) < 1000000007; decide), _, rfl, _, _, rfl, rfl, .inl ⟨by decide, by decide⟩, _, _, rfl, rfl, _, _, rfl, rfl, ?_⟩
    refine ⟨_, rfl, _, rfl, _, _, rfl, rfl, mulM (by show 0 ≤ c % 1000000007 + 7919 * k + 13; omega) (by show c % 1000000007 + 7919 * k + 13 < _; omega), _, _, rfl, rfl, (by show (0 : Int) < 1000000007; decide), _, rfl, _, _, rfl, rfl,
      mulM (by show 0 ≤ c % 1000000007 + 7919 * k + 13; omega) (by show c % 1000000007 + 7919 * k + 13 < _; omega), _, _, rfl, rfl, (by show (0 : Int) < 998244353; decide), _, _, rfl, rfl, ⟨by decide, by decide⟩, ?_⟩
    have e : ∀ z : Int, ∃ d : Nat, d < 998244353 ∧ z % 998244353 / 11 = ((d : Nat) : Int) := fun z => ⟨(z % 998244353 / 11).toNat, by omega, by omega⟩
    obtain ⟨d, hd, ed⟩ := e ((c % 1000000007 + 7919 * k + 13) * (c % 1000000007 + 7919 * k + 13) % 1000000007 * (c % 1000000007 + 7919 * k + 13))
    have q2 := q d H' hd sm
    rw [← ed] at q2
    exact q2
def tx (l : List Nat) : Str := ⟨l.toArray⟩
theorem tx_len (l : List Nat) : (tx l).length = l.length := by show l.toArray.size = _; rw [List.size_toArray]
theorem tx_app (a b : List Nat) : tx a ++ tx b = tx (a ++ b) := by
  show Str.mk (a.toArray ++ b.toArray) = _
  rw [List.append_toArray]; rfl
theorem tx_list (l : List Nat) : (tx l).cps.toList = l := by show l.toArray.toList = l; rfl
theorem tx_inj {a b : List Nat} (h : tx a = tx b) : a = b := by
  have := congrArg (fun z : Str => z.cps.toList) h
  rwa [tx_list, tx_list] at this
theorem join_signs : ∀ l : List Nat, Str.join (Str.ofString "") (l.map fun c => tx [c]) = tx l
  | [] => rfl
  | c :: l => by
    rw [List.map_cons, show Str.ofString "" = (⟨#[]⟩ : Str) from rfl, PyProof.Rows.join_nil_cons]
    have ih := join_signs l
    rw [show Str.ofString "" = (⟨#[]⟩ : Str) from rfl] at ih
    rw [ih, tx_app]
    rfl
theorem lt_at : ∀ i : Nat, i < 26 → atI (Str.ofString "abcdefghijklmnopqrstuvwxyz").cps.toList (i : Int) = some (97 + i) := by decide +kernel
theorem nodup_range_map {f : Nat → Str} {n : Nat} (h : ∀ i j, i < j → j < n → f i ≠ f j) : ((List.range n).map f).Nodup := by
  unfold List.Nodup
  rw [List.pairwise_map]
  exact List.Pairwise.imp_of_mem (fun {a b} ha hb hab => h a b hab (List.mem_range.mp hb)) List.pairwise_lt_range
theorem signs_room (l : List Nat) (h : l.length ≤ 20) : ((l.map fun c => tx [c]).map fun x => x.length + (Str.ofString "").length).sum ≤ sizeLine :=
  join_room (m := 0) (by decide) (by rw [List.length_map]; exact h) fun x hx => by
    obtain ⟨c, _, rfl⟩ := List.mem_map.mp hx
    rw [tx_len, List.length_singleton]; decide
theorem nowh : Str.ofString "nowhere" = tx [110, 111, 119, 104, 101, 114, 101] := by decide +kernel
def rowC (d q m : Nat) (n : Nat) : List Nat := (List.range n).map fun j => 97 + (d / q + m * j) % 26
theorem row_nth {d q m n j : Nat} (h : j < n) : (rowC d q m n)[j]? = some (97 + (d / q + m * j) % 26) := by
  unfold rowC
  rw [List.getElem?_map, List.getElem?_range h]; rfl
theorem rowC_len (d q m n : Nat) : (rowC d q m n).length = n := by unfold rowC; rw [List.length_map, List.length_range]
theorem rowC_ok (d q m n : Nat) : ∀ c ∈ rowC d q m n, 97 ≤ c ∧ c ≤ 122 := fun c h => by
  obtain ⟨j, _, rfl⟩ := List.mem_map.mp h
  omega
theorem signs_comp {H : Hp} {Q : VK} {te : TE} {σ0 : St} {d q m n : Nat} {g : TG} (hn : n ≤ 8) (h0 : σ0 = [none, some (.str (Str.ofString "abcdefghijklmnopqrstuvwxyz")), some (.int (d : Nat))]) (hg : g = gName 0)
    (ht : ∀ (i : Nat) (Q' : VK), i < n → Q' (.str (tx [97 + (d / q + m * i) % 26])) H → te [some (.int ((i : Nat) : Int)), some (.str (Str.ofString "abcdefghijklmnopqrstuvwxyz")), some (.int (d : Nat))] H Q')
    (hq : endC Q (((rowC d q m n).map fun c => tx [c]).map V.str) H) :
    ∃ W : Nat → Nat → List V → St → Hp → Prop, (∃ m, W 0 m [] σ0 H) ∧ ∀ i m acc σ1 H, W i m acc σ1 H →
      ((Itr 0 n).stop i H ∧ endC Q acc H) ∨
      ((Itr 0 n).go i H ∧ acc.length < sizeLine ∧ ∃ N : List V → St → Hp → Prop, (∀ acc' σ' H', N acc' σ' H' → ∃ m', m' < m ∧ W (i + 1) m' acc' σ' H') ∧ ∀ x H', (Itr 0 n).yld i H x H' → g x σ1 H' fun σ2 H2 => tTrue σ2 H2 fun b H3 => if b = true then te σ2 H3 fun y H4 => N (acc ++ [y]) σ2 H4 else N acc σ2 H3) := by
  subst hg
  refine comp_range (fun i acc σ H' => H' = H ∧ acc = ((rowC d q m i).map fun c => tx [c]).map V.str ∧ ∃ v, σ = [v, some (.str (Str.ofString "abcdefghijklmnopqrstuvwxyz")), some (.int (d : Nat))]) ⟨rfl, rfl, none, h0⟩ (Nat.le_trans hn (by decide)) ?_ ?_
  · rintro i acc σ H' hi ha ⟨rfl, rfl, v, rfl⟩
    dsimp only [gName, tTrue]
    rw [if_pos rfl]
    have e0 : (0 : Int) + ((i : Nat) : Int) = ((i : Nat) : Int) := by omega
    rw [e0]
    refine ht i _ hi ⟨?_, rfl, ?_, _, rfl⟩
    · rw [List.length_append, List.length_singleton]; omega
    · unfold rowC
      rw [List.range_succ, List.map_append, List.map_append, List.map_append]
      rfl
  · rintro acc σ H' ha ⟨rfl, rfl, v, rfl⟩
    exact hq
def spNames (K : W.Frag) : Sp := fun vs H Q _ => ∃ (a : Addr) (ns : List Int) (k : Int) (many : Nat), vs = [.ref a, .int k, .int (many : Nat)] ∧ SqL K H a (ns.map V.int) ∧ 0 ≤ k ∧ k ≤ 100000 ∧ many ≤ 8 ∧
  ∀ (NS : List Str) l H', Same H H' → H l = none → H' l = some (.lst (NS.map V.str)) → NS.length = many → NS.Nodup → (∀ z ∈ NS, NameOk z) → Q (.ref l) H'
theorem ok_law_names (Tx : Tab K mg t) : FnOk P w K mg base CX0 2 t.f_law_names t.d_law_names ["_law_script", "_law_k", "_law_many"] (spNames K) := by
  refine Tx.F_law_names.ok sc_law_names (fun vs H Q E h => ?_) (fun cdv A outer s H vs Q E hr h => ?_)
  · obtain ⟨a, ns, k, many, rfl, _⟩ := h
    rfl
  obtain ⟨a, ns, k, many, rfl, hS, k0, k1, hm, q⟩ := h
  refine ⟨_, (pss_cons (ps_set (i := 3) sc_law_names.nd rfl (Or.inr rfl) pe_str)
    (pss_cons (ps_set (i := 4) sc_law_names.nd rfl (Or.inr rfl) (pe_call (ok_law_draw Tx) (hr.mono (by omega)) rfl Tx.m_law_draw Tx.F_law_draw.kp Tx.b_law_draw .nil pass0 (pac (pv 0) (pac (pv 1) pa_nil))))
    (pss_cons (ps_if (pt_cmpR op_eq (pe_op op_mod (pv 4) pe_int) pe_int (nomark _))
    (pss_cons (ps_set (i := 5) sc_law_names.nd rfl (Or.inr rfl) (pe_bm PySem.F.plainAttrs_str PySem.F.slot_str_join PySem.F.type_str_join mt_join pe_str (pac (pe_comp (cl := [(Str.ofString "_law_number", s.heap.objs.size + 2), (Str.ofString "_law_letters", s.heap.objs.size + 1)]) (N := ["_law_j", "_law_letters", "_law_number"]) (fr := [none, some 3, some 4]) rfl (pi_range1 rfl Tx.z_range (pac pe_int pa_nil)) rfl (by decide +kernel) rfl (by decide +kernel) ⟨⟨rfl, Or.inl rfl, Or.inl rfl, _, rfl, rfl⟩, ⟨⟨rfl, Or.inl rfl, Or.inl rfl, _, rfl, rfl⟩, trivial⟩⟩ ⟨rfl, ⟨rfl, trivial⟩⟩ rfl (fun _ _ _ _ _ => (pg_name (i := 0) (show List.Nodup (["_law_j", "_law_letters", "_law_number"] : List Str) by decide +kernel) rfl (Or.inl rfl))) (fun _ _ _ _ _ => pts_nil) (fun _ _ _ _ _ => (pe_ix ix_str (pv 1) (pe_op op_mod (pe_op op_add (pe_op op_fdiv (pv 2) pe_int) (pe_op op_mul pe_int (pv 0))) pe_int) (fun _ _ => rfl)))) pa_nil)))
    (pss_one (ps_ret (pe_comp (cl := [(Str.ofString "_law_row", s.heap.objs.size + 3)]) (N := ["_law_j", "_law_row"]) (fr := [none, some 5]) rfl (pi_range1 rfl Tx.z_range (pac (pv 2) pa_nil)) rfl (by decide +kernel) rfl (by decide +kernel) ⟨⟨rfl, Or.inl rfl, Or.inl rfl, _, rfl, rfl⟩, trivial⟩ ⟨rfl, trivial⟩ rfl (fun _ _ _ _ _ => (pg_name (i := 0) (show List.Nodup (["_law_j", "_law_row"] : List Str) by decide +kernel) rfl (Or.inl rfl))) (fun _ _ _ _ _ => pts_nil) (fun _ _ _ _ _ => (pe_slice sl_str (pv 1) po_none (po_some (pe_op op_add pe_int (pv 0)))))))))
    pss_nil)
    (pss_cons (ps_set (i := 6) sc_law_names.nd rfl (Or.inl rfl) (pe_op op_mod (pe_op op_fdiv (pv 4) pe_int) pe_int))
    (pss_cons (ps_set (i := 7) sc_law_names.nd rfl (Or.inr rfl) (pe_op op_mod (pe_op op_fdiv (pv 4) pe_int) (pe_op op_add (pv 6) pe_int)))
    (pss_cons (ps_set (i := 8) sc_law_names.nd rfl (Or.inr rfl) (pe_bm PySem.F.plainAttrs_str PySem.F.slot_str_join PySem.F.type_str_join mt_join pe_str (pac (pe_comp (cl := [(Str.ofString "_law_number", s.heap.objs.size + 2), (Str.ofString "_law_letters", s.heap.objs.size + 1)]) (N := ["_law_j", "_law_letters", "_law_number"]) (fr := [none, some 3, some 4]) rfl (pi_range1 rfl Tx.z_range (pac (pv 6) pa_nil)) rfl (by decide +kernel) rfl (by decide +kernel) ⟨⟨rfl, Or.inl rfl, Or.inl rfl, _, rfl, rfl⟩, ⟨⟨rfl, Or.inl rfl, Or.inl rfl, _, rfl, rfl⟩, trivial⟩⟩ ⟨rfl, ⟨rfl, trivial⟩⟩ rfl (fun _ _ _ _ _ => (pg_name (i := 0) (show List.Nodup (["_law_j", "_law_letters", "_law_number"] : List Str) by decide +kernel) rfl (Or.inl rfl))) (fun _ _ _ _ _ => pts_nil) (fun _ _ _ _ _ => (pe_ix ix_str (pv 1) (pe_op op_mod (pe_op op_add (pe_op op_fdiv (pv 2) pe_int) (pe_op op_mul pe_int (pv 0))) pe_int) (fun _ _ => rfl)))) pa_nil)))
    (pss_one (ps_ret (pe_comp (cl := [(Str.ofString "_law_rest", s.heap.objs.size + 5), (Str.ofString "_law_number", s.heap.objs.size + 2), (Str.ofString "_law_letters", s.heap.objs.size + 1), (Str.ofString "_law_at", s.heap.objs.size + 4)]) (N := ["_law_j", "_law_rest", "_law_letters", "_law_at", "_law_number"]) (fr := [none, some 8, some 3, some 7, some 4]) rfl (pi_range1 rfl Tx.z_range (pac (pv 2) pa_nil)) rfl (by decide +kernel) rfl (by decide +kernel) ⟨⟨rfl, Or.inl rfl, Or.inl rfl, _, rfl, rfl⟩, ⟨⟨rfl, Or.inl rfl, Or.inl rfl, _, rfl, rfl⟩, ⟨⟨rfl, Or.inl rfl, Or.inl rfl, _, rfl, rfl⟩, ⟨⟨rfl, Or.inl rfl, Or.inl rfl, _, rfl, rfl⟩, trivial⟩⟩⟩⟩ ⟨rfl, ⟨rfl, ⟨rfl, ⟨rfl, trivial⟩⟩⟩⟩ rfl (fun _ _ _ _ _ => (pg_name (i := 0) (show List.Nodup (["_law_j", "_law_rest", "_law_letters", "_law_at", "_law_number"] : List Str) by decide +kernel) rfl (Or.inl rfl))) (fun _ _ _ _ _ => pts_nil) (fun _ _ _ _ _ => (pe_op op_add_str (pe_op op_add_str (pe_slice sl_str (pv 1) po_none (po_some (pv 3))) (pe_ix ix_str (pv 2) (pe_op op_mod (pe_op op_add (pe_op op_fdiv (pv 4) pe_int) (pv 0)) pe_int) (fun _ _ => rfl))) (pe_slice sl_str (pv 1) (po_some (pv 3)) po_none)))))))))))), ?_⟩
  refine ⟨_, rfl, _, rfl, a, ns, k, rfl, hS, k0, k1, fun d H1 hd s1 => ?_⟩
  refine ⟨_, rfl, _, _, rfl, rfl, (by show (0 : Int) < 3; decide), rfl, _, rfl, ?_⟩
  refine ite2 (fun c => ?_) (fun c => ?_)
  · refine ⟨rfl, 8, rfl, by decide, by decide, signs_comp (d := d) (q := 3) (m := 5) (n := 8) (by decide) rfl rfl (fun i Q' hi hq => ?_) fun p hp => ?_⟩
    · refine ⟨_, rfl, _, rfl, _, _, rfl, rfl, ⟨by decide, by decide⟩, _, rfl, _, _, rfl, rfl, .inl ⟨by decide, by decide⟩, _, _, rfl, rfl, _, _, rfl, rfl, (by show (0 : Int) < 26; decide), _, _, 97 + (d / 3 + 5 * i) % 26, rfl, rfl, by decide, ?_, hq⟩
      have := lt_at ((d / 3 + 5 * i) % 26) (by omega)
      rw [show (((d / 3 + 5 * i) % 26 : Nat) : Int) = (((d : Nat) : Int) / 3 + 5 * ((i : Nat) : Int)) % 26 by omega] at this
      exact this
    · have s2 := same_new hp (.lst (((rowC d 3 5 8).map fun c => tx [c]).map V.str))
      refine ⟨_, p, (rowC d 3 5 8).map fun c => tx [c], rfl, rfl, SqL.of upd_same, signs_room _ (by rw [rowC_len]; decide), ?_⟩
      rw [join_signs]
      refine ⟨_, rfl, _, rfl, by omega, by omega, ?_⟩
      refine comp_range (fun i acc σ H' => H' = upd H1 p (.lst (((rowC d 3 5 8).map fun c => tx [c]).map V.str)) ∧ acc = ((List.range i).map fun j => tx ((rowC d 3 5 8).take (1 + j))).map V.str ∧ ∃ v, σ = [v, some (.str (tx (rowC d 3 5 8)))]) ⟨rfl, rfl, none, rfl⟩ (Nat.le_trans (show _ ≤ 8 by omega) (by decide)) ?_ ?_
      · rintro i acc σ H' hi ha ⟨rfl, rfl, v, rfl⟩
        dsimp only [gName, tTrue]
        rw [if_pos rfl]
        refine ⟨_, rfl, _, rfl, _, _, rfl, rfl, _, rfl, _, rfl, (by rw [tx_len, rowC_len]; decide), ?_⟩
        have e0 : (1 : Int) + (0 + ((i : Nat) : Int)) = ((1 + i : Nat) : Int) := by omega
        rw [e0, sl_to _ _ (by rw [tx_len, rowC_len]; omega), tx_list]
        refine ⟨by rw [List.length_append, List.length_singleton]; omega, rfl, ?_, _, rfl⟩
        rw [List.range_succ, List.map_append, List.map_append]
        rfl
      · rintro acc σ H' ha ⟨rfl, rfl, v, rfl⟩ l hl
        have s3 := same_new hl (.lst (((List.range ((many : Nat) : Int).toNat).map fun j => tx ((rowC d 3 5 8).take (1 + j))).map V.str))
        refine q ((List.range ((many : Nat) : Int).toNat).map fun j => tx ((rowC d 3 5 8).take (1 + j))) l _ ((s1.trans s2).trans s3) ((s1.trans s2).free hl) upd_same (by rw [List.length_map, List.length_range]; omega) (nodup_range_map fun i j hij hj e => ?_) fun z hz => ?_
        · have := congrArg List.length (tx_inj e)
          rw [List.length_take, List.length_take, rowC_len] at this
          omega
        · obtain ⟨j, hj, rfl⟩ := List.mem_map.mp hz
          have hj := List.mem_range.mp hj
          refine ⟨by rw [tx_len, List.length_take, rowC_len]; omega, by rw [tx_len, List.length_take, rowC_len]; omega, fun c hc => ?_, fun e => ?_⟩
          · rw [tx_list] at hc
            exact rowC_ok d 3 5 8 c (List.mem_of_mem_take hc)
          · rw [nowh] at e
            have e := tx_inj e
            have l := congrArg List.length e
            rw [List.length_take, rowC_len] at l
            have l7 : min (1 + j) 8 = 7 := l
            have e0 := congrArg (fun l => l[0]?) e
            have e1 := congrArg (fun l => l[1]?) e
            rw [List.getElem?_take_of_lt (by omega), row_nth (by decide)] at e0 e1
            have e0 := Option.some.inj e0
            have e1 := Option.some.inj e1
            omega
  · obtain ⟨S, hS8, eS⟩ : ∃ S : Nat, S < 8 ∧ ((d : Nat) : Int) / 3 % 8 = ((S : Nat) : Int) := ⟨(((d : Nat) : Int) / 3 % 8).toNat, by omega, by omega⟩
    obtain ⟨A', hA, eA⟩ : ∃ A' : Nat, A' ≤ S ∧ ((d : Nat) : Int) / 24 % (((S : Nat) : Int) + 1) = ((A' : Nat) : Int) := by
      have h1 := Int.emod_nonneg (((d : Nat) : Int) / 24) (show (((S : Nat) : Int) + 1) ≠ 0 by omega)
      have h2 := Int.emod_lt_of_pos (((d : Nat) : Int) / 24) (show 0 < (((S : Nat) : Int) + 1) by omega)
      exact ⟨(((d : Nat) : Int) / 24 % (((S : Nat) : Int) + 1)).toNat, by omega, by omega⟩
    refine ⟨_, rfl, _, _, rfl, rfl, ⟨by decide, by decide⟩, _, _, rfl, rfl, (by show (0 : Int) < 8; decide), ?_⟩
    dsimp only
    rw [eS]
    refine ⟨_, rfl, _, _, rfl, rfl, ⟨by decide, by decide⟩, _, rfl, _, _, rfl, rfl, _, _, rfl, rfl, (by show (0 : Int) < ((S : Nat) : Int) + 1; omega), ?_⟩
    dsimp only
    rw [eA]
    refine ⟨rfl, _, rfl, _, rfl, by omega, by omega, signs_comp (d := d) (q := 216) (m := 7) (n := ((S : Nat) : Int).toNat) (by omega) rfl rfl (fun i Q' hi hq => ?_) fun p hp => ?_⟩
    · refine ⟨_, rfl, _, rfl, _, _, rfl, rfl, ⟨by decide, by decide⟩, _, rfl, _, _, rfl, rfl, .inl ⟨by decide, by decide⟩, _, _, rfl, rfl, _, _, rfl, rfl, (by show (0 : Int) < 26; decide), _, _, 97 + (d / 216 + 7 * i) % 26, rfl, rfl, by decide, ?_, hq⟩
      have := lt_at ((d / 216 + 7 * i) % 26) (by omega)
      rw [show (((d / 216 + 7 * i) % 26 : Nat) : Int) = (((d : Nat) : Int) / 216 + 7 * ((i : Nat) : Int)) % 26 by omega] at this
      exact this
    · have eS2 : ((S : Nat) : Int).toNat = S := by omega
      rw [eS2]
      have s2 := same_new hp (.lst (((rowC d 216 7 S).map fun c => tx [c]).map V.str))
      refine ⟨_, p, (rowC d 216 7 S).map fun c => tx [c], rfl, rfl, SqL.of upd_same, signs_room _ (by rw [rowC_len]; omega), ?_⟩
      rw [join_signs]
      refine ⟨_, rfl, _, rfl, by omega, by omega, ?_⟩
      refine comp_range (fun i acc σ H' => H' = upd H1 p (.lst (((rowC d 216 7 S).map fun c => tx [c]).map V.str)) ∧ acc = ((List.range i).map fun j => tx ((rowC d 216 7 S).take A' ++ [97 + (d / 5616 + j) % 26] ++ (rowC d 216 7 S).drop A')).map V.str ∧ ∃ v, σ = [v, some (.str (tx (rowC d 216 7 S))), some (.str (Str.ofString "abcdefghijklmnopqrstuvwxyz")), some (.int ((A' : Nat) : Int)), some (.int (d : Nat))]) ⟨rfl, rfl, none, rfl⟩ (Nat.le_trans (show _ ≤ 8 by omega) (by decide)) ?_ ?_
      · rintro i acc σ H' hi ha ⟨rfl, rfl, v, rfl⟩
        dsimp only [gName, tTrue]
        rw [if_pos rfl]
        have lz : (tx (rowC d 216 7 S)).length ≤ sizeLine := by rw [tx_len, rowC_len]; exact Nat.le_trans (show S ≤ 8 by omega) (by decide)
        refine ⟨_, rfl, _, rfl, _, rfl, _, rfl, lz, ?_⟩
        rw [sl_to _ _ (by rw [tx_len, rowC_len]; exact hA), tx_list]
        refine ⟨_, rfl, _, rfl, _, _, rfl, rfl, ⟨by decide, by decide⟩, _, rfl, _, _, rfl, rfl, _, _, rfl, rfl, (by show (0 : Int) < 26; decide), _, _, 97 + (d / 5616 + i) % 26, rfl, rfl, by decide, ?_, ?_⟩
        · have := lt_at ((d / 5616 + i) % 26) (by omega)
          rw [show (((d / 5616 + i) % 26 : Nat) : Int) = (((d : Nat) : Int) / 5616 + (0 + ((i : Nat) : Int))) % 26 by omega] at this
          exact this
        have l1 : ((rowC d 216 7 S).take A').length ≤ 8 := by rw [List.length_take, rowC_len]; omega
        have l2 : ((rowC d 216 7 S).drop A').length ≤ 8 := by rw [List.length_drop, rowC_len]; omega
        refine ⟨_, _, rfl, rfl, ?_, ?_⟩
        · show (tx ((rowC d 216 7 S).take A')).length + (tx [97 + (d / 5616 + i) % 26]).length ≤ sizeLine
          rw [tx_len, tx_len, List.length_singleton]
          exact Nat.le_trans (show _ ≤ 9 by omega) (by decide)
        refine ⟨_, rfl, _, rfl, _, rfl, _, rfl, lz, ?_⟩
        rw [sl_from _ _ (by rw [tx_len, rowC_len]; exact hA), tx_list]
        refine ⟨_, _, rfl, rfl, ?_, ?_⟩
        · show (tx ((rowC d 216 7 S).take A') ++ tx [97 + (d / 5616 + i) % 26]).length + (tx ((rowC d 216 7 S).drop A')).length ≤ sizeLine
          rw [tx_app, tx_len, tx_len, List.length_append, List.length_singleton]
          exact Nat.le_trans (show _ ≤ 17 by omega) (by decide)
        refine ⟨by rw [List.length_append, List.length_singleton]; omega, rfl, ?_, _, rfl⟩
        show _ ++ [V.str (tx ((rowC d 216 7 S).take A') ++ tx [97 + (d / 5616 + i) % 26] ++ tx ((rowC d 216 7 S).drop A'))] = _
        rw [tx_app, tx_app, List.range_succ, List.map_append, List.map_append]
        rfl
      · rintro acc σ H' ha ⟨rfl, rfl, v, rfl⟩ l hl
        have s3 := same_new hl (.lst (((List.range ((many : Nat) : Int).toNat).map fun j => tx ((rowC d 216 7 S).take A' ++ [97 + (d / 5616 + j) % 26] ++ (rowC d 216 7 S).drop A')).map V.str))
        refine q ((List.range ((many : Nat) : Int).toNat).map fun j => tx ((rowC d 216 7 S).take A' ++ [97 + (d / 5616 + j) % 26] ++ (rowC d 216 7 S).drop A')) l _ ((s1.trans s2).trans s3) ((s1.trans s2).free hl) upd_same (by rw [List.length_map, List.length_range]; omega) (nodup_range_map fun i j hij hj e => ?_) fun z hz => ?_
        · have e := tx_inj e
          rw [List.append_assoc, List.append_assoc] at e
          have e := List.append_cancel_left e
          injection e with e _
          omega
        · obtain ⟨j, hj, rfl⟩ := List.mem_map.mp hz
          refine ⟨?_, ?_, fun c hc => ?_, fun e => ?_⟩
          · rw [tx_len, List.length_append, List.length_append, List.length_singleton]; omega
          · rw [tx_len, List.length_append, List.length_append, List.length_singleton, List.length_take, List.length_drop, rowC_len]; omega
          · rw [tx_list] at hc
            rcases List.mem_append.mp hc with hc | hc
            · rcases List.mem_append.mp hc with hc | hc
              · exact rowC_ok d 216 7 S c (List.mem_of_mem_take hc)
              · rw [List.mem_singleton] at hc; omega
            · exact rowC_ok d 216 7 S c (List.mem_of_mem_drop hc)
          · rw [nowh] at e
            have e := tx_inj e
            have l := congrArg List.length e
            rw [List.length_append, List.length_append, List.length_singleton, List.length_take, List.length_drop, rowC_len] at l
            have l7 : min A' S + 1 + (S - A') = 7 := l
            have lt : ((rowC d 216 7 S).take A' ++ [97 + (d / 5616 + j) % 26]).length = A' + 1 := by rw [List.length_append, List.length_singleton, List.length_take, rowC_len]; omega
            by_cases hA2 : 2 ≤ A'
            · have e0 := congrArg (fun l => l[0]?) e
              have e1 := congrArg (fun l => l[1]?) e
              rw [List.getElem?_append_left (by rw [lt]; omega), List.getElem?_append_left (by rw [List.length_take, rowC_len]; omega), List.getElem?_take_of_lt (by omega), row_nth (by omega)] at e0 e1
              have e0 := Option.some.inj e0
              have e1 := Option.some.inj e1
              omega
            · have e0 := congrArg (fun l => l[5]?) e
              have e1 := congrArg (fun l => l[6]?) e
              rw [List.getElem?_append_right (by rw [lt]; omega), lt, List.getElem?_drop, row_nth (by omega)] at e0 e1
              have e0 := Option.some.inj e0
              have e1 := Option.some.inj e1
              rw [show A' + (5 - (A' + 1)) = 4 by omega] at e0
              rw [show A' + (6 - (A' + 1)) = 5 by omega] at e1
              omega

def fnd {α : Type} (nm : α → Str) (xs : List α) (z : Str) : Option α := xs.find? fun x => decide (nm x = z)
theorem fnd_mem {α : Type} {nm : α → Str} {xs : List α} {z : Str} {x : α} (h : fnd nm xs z = some x) : x ∈ xs ∧ nm x = z := ⟨List.mem_of_find?_eq_some h, of_decide_eq_true (List.find?_some (p := fun x => decide (nm x = z)) h)⟩
theorem fnd_rows {α : Type} {nm : α → Str} {R : Key × V → α → Prop} (hR : ∀ kv x, R kv x → kv.1 = Sum.inr (nm x)) {rows : List (Key × V)} {xs : List α} (h : Al R rows xs) (z : Str) :
    (fnd nm xs z = none → valV rows (Sum.inr z) = none) ∧ ∀ x, fnd nm xs z = some x → ∃ kv, valV rows (Sum.inr z) = some kv.2 ∧ R kv x := by
  induction h with
  | nil => exact ⟨fun _ => rfl, fun k e => by cases e⟩
  | @cons kv k rows xs hr _ ih =>
    by_cases e : nm k = z
    · have ek : kv.1 = Sum.inr z := by rw [hR _ _ hr, e]
      have ef : fnd nm (k :: xs) z = some k := by unfold fnd; rw [List.find?_cons, decide_eq_true e]
      refine ⟨fun n => (by rw [ef] at n; cases n), fun k' e' => ?_⟩
      rw [ef] at e'
      cases e'
      exact ⟨kv, valV_pos ek, hr⟩
    · have ek : kv.1 ≠ Sum.inr z := fun x => e (by rw [hR _ _ hr] at x; exact Sum.inr.inj x)
      have ef : fnd nm (k :: xs) z = fnd nm xs z := by unfold fnd; rw [List.find?_cons, decide_eq_false e]
      have ev : valV (kv :: rows) (Sum.inr z) = valV rows (Sum.inr z) := by unfold valV; rw [List.find?_cons, decide_eq_false ek]
      rw [ef, ev]
      exact ih
theorem fnd_nodup {α : Type} {nm : α → Str} {xs : List α} (nd : (xs.map nm).Nodup) {i : Nat} {x : α} (e : xs[i]? = some x) : fnd nm (xs.take i) (nm x) = none := by
  unfold fnd
  rw [List.find?_eq_none]
  intro y hy
  rw [decide_eq_true_eq]
  intro ex
  obtain ⟨j, hj, ej⟩ := List.mem_iff_getElem.mp hy
  rw [List.length_take] at hj
  obtain ⟨hi, ei⟩ := List.getElem?_eq_some_iff.mp e
  rw [List.getElem_take] at ej
  have := List.pairwise_iff_getElem.mp nd j i (by rw [List.length_map]; omega) (by rw [List.length_map]; exact hi) (by omega)
  rw [List.getElem_map, List.getElem_map, ej, ei] at this
  exact this ex
theorem fnd_some {α : Type} {nm : α → Str} {xs : List α} {x : α} (h : x ∈ xs) : ∃ y, fnd nm xs (nm x) = some y := by
  cases e : fnd nm xs (nm x) with
  | some y => exact ⟨y, rfl⟩
  | none =>
    unfold fnd at e
    rw [List.find?_eq_none] at e
    exact absurd (decide_eq_true rfl) (e x h)
theorem fnd_uniq {α : Type} {nm : α → Str} {xs : List α} (nd : (xs.map nm).Nodup) {x : α} (h : x ∈ xs) : fnd nm xs (nm x) = some x := by
  obtain ⟨y, hy⟩ := fnd_some (nm := nm) h
  have := fnd_mem hy
  obtain ⟨i, hi, ei⟩ := List.mem_iff_getElem.mp h
  obtain ⟨j, hj, ej⟩ := List.mem_iff_getElem.mp this.1
  by_cases e : i = j
  · subst e; rw [hy, ← ei, ej]
  · exfalso
    rcases Nat.lt_or_gt_of_ne e with hlt | hlt
    · have := List.pairwise_iff_getElem.mp nd i j (by rw [List.length_map]; exact hi) (by rw [List.length_map]; exact hj) hlt
      rw [List.getElem_map, List.getElem_map, ej, ei] at this
      exact this (by rw [(fnd_mem hy).2])
    · have := List.pairwise_iff_getElem.mp nd j i (by rw [List.length_map]; exact hj) (by rw [List.length_map]; exact hi) hlt
      rw [List.getElem_map, List.getElem_map, ej, ei] at this
      exact this (by rw [(fnd_mem hy).2])
structure Tk where
  nm : Str
  pr : Nat
  la : Nat
  b : Nat
structure Tk.Ok (k : Tk) : Prop where
  nm : NameOk k.nm
  pr : k.pr ≤ 10000
  la1 : 1 ≤ k.la
  la : k.la ≤ 1440
  b1 : 1 ≤ k.b
  b : k.b < 64
structure Stp where
  nm : Str
  z : Nat
  ch : Nat
structure Cl where
  st : Str
  ar : Nat
  lv : Nat
structure Tp where
  nm : Str
  ru : Str
  cs : List Cl
def RowIs (H : Hp) (kv : Key × V) (k : Tk) : Prop := kv.1 = Sum.inr k.nm ∧ ∃ r z, kv.2 = .ref r ∧ H r = some (.tup [.int (k.pr : Nat), .int (k.la : Nat), .ref z]) ∧ H z = some (.tup (natV (zonesOf k.b)))
theorem RowIs.same {H H' : Hp} {kv : Key × V} {k : Tk} (s : Same H H') (h : RowIs H kv k) : RowIs H' kv k := by
  obtain ⟨e, r, z, e1, e2, e3⟩ := h
  exact ⟨e, r, z, e1, s _ _ e2, s _ _ e3⟩
def SRow (H : Hp) (kv : Key × V) (k : Stp) : Prop := kv.1 = Sum.inr k.nm ∧ ∃ r, kv.2 = .ref r ∧ H r = some (.tup [.int (k.z : Nat), .int (k.ch : Nat)])
theorem SRow.same {H H' : Hp} {kv : Key × V} {k : Stp} (s : Same H H') (h : SRow H kv k) : SRow H' kv k := let ⟨e, r, e1, e2⟩ := h; ⟨e, r, e1, s _ _ e2⟩
def ClAt (H : Hp) (v : V) (c : Cl) : Prop := ∃ p, v = .ref p ∧ H p = some (.tup [.str c.st, .int (c.ar : Nat), .int (c.lv : Nat)])
theorem ClAt.same {H H' : Hp} {v : V} {c : Cl} (s : Same H H') (h : ClAt H v c) : ClAt H' v c := let ⟨p, e, h⟩ := h; ⟨p, e, s _ _ h⟩
def TRow (H : Hp) (kv : Key × V) (k : Tp) : Prop := kv.1 = Sum.inr k.nm ∧ ∃ r q vs, kv.2 = .ref r ∧ H r = some (.tup [.str k.ru, .ref q]) ∧ H q = some (.tup vs) ∧ Al (ClAt H) vs k.cs
theorem TRow.same {H H' : Hp} {kv : Key × V} {k : Tp} (s : Same H H') (h : TRow H kv k) : TRow H' kv k := let ⟨e, r, q, vs, e1, e2, e3, e4⟩ := h; ⟨e, r, q, vs, e1, s _ _ e2, s _ _ e3, e4.imp fun _ _ => ClAt.same s⟩
def URow (kv : Key × V) (z : Str) : Prop := kv.1 = Sum.inr z
structure NetM where
  st : List Stp
  ru : List Str
  tk : List Tk
  tp : List Tp
structure NetF (fs : List (Str × V)) (ds dr dt dp : Addr) : Prop where
  fs1 : fs.lookup ("stop_rows" : Str) = some (V.ref ds)
  fr : fs.lookup ("rule_rows" : Str) = some (V.ref dr)
  ft : fs.lookup ("ticket_rows" : Str) = some (V.ref dt)
  fp : fs.lookup ("trip_rows" : Str) = some (V.ref dp)
  n1 : fs.lookup ("ticket" : Str) = none
  n2 : fs.lookup ("calls" : Str) = none
  n3 : fs.lookup ("zone" : Str) = none
  n4 : fs.lookup ("check_stop" : Str) = none
  n5 : fs.lookup ("check_trip" : Str) = none
  n6 : fs.lookup ("check_call" : Str) = none
  n7 : fs.lookup ("add_stop" : Str) = none
  n8 : fs.lookup ("add_rule" : Str) = none
  n9 : fs.lookup ("add_ticket" : Str) = none
  n0 : fs.lookup ("add_trip" : Str) = none
structure Apart (ds dr dt dp : Addr) : Prop where
  sr : ds ≠ dr
  st : ds ≠ dt
  sp : ds ≠ dp
  rt : dr ≠ dt
  rp : dr ≠ dp
  tp : dt ≠ dp
structure NetO (t : Adr) (H : Hp) (n ds dr dt dp : Addr) (N : NetM) : Prop where
  ob : ∃ dx fs, H n = some (.ins t.c_Net dx fs) ∧ NetF fs ds dr dt dp
  ap : Apart ds dr dt dp
  st : ∃ rows, H ds = some (.dK rows) ∧ Al (SRow H) rows N.st
  ru : ∃ rows, H dr = some (.dK rows) ∧ Al URow rows N.ru
  tk : ∃ rows, H dt = some (.dK rows) ∧ Al (RowIs H) rows N.tk
  tp : ∃ rows, H dp = some (.dK rows) ∧ Al (TRow H) rows N.tp
theorem NetO.same {H H' : Hp} {n ds dr dt dp : Addr} {N : NetM} (s : Same H H') (h : NetO t H n ds dr dt dp N) : NetO t H' n ds dr dt dp N := by
  obtain ⟨⟨dx, fs, e1, e2⟩, ap, ⟨r1, a1, b1⟩, ⟨r2, a2, b2⟩, ⟨r3, a3, b3⟩, ⟨r4, a4, b4⟩⟩ := h
  exact ⟨⟨dx, fs, s _ _ e1, e2⟩, ap, ⟨r1, s _ _ a1, b1.imp fun _ _ => SRow.same s⟩, ⟨r2, s _ _ a2, b2⟩, ⟨r3, s _ _ a3, b3.imp fun _ _ => RowIs.same s⟩, ⟨r4, s _ _ a4, b4.imp fun _ _ => TRow.same s⟩⟩
def NetNew (H0 : Hp) (ds dr dt dp : Addr) : Prop := H0 ds = none ∧ H0 dr = none ∧ H0 dt = none ∧ H0 dp = none
theorem fewS {f : Str} {v : V} {fs : List (Str × V)} {n : Nat} (h : fs.length ≤ n) : (putF f v fs).length ≤ n + 1 := Nat.le_trans (length_putF _ _ _) (Nat.succ_le_succ h)
def spInit (t : Adr) : Sp := fun vs H Q _ => ∃ (x : Addr) (H0 : Hp), vs = [.ref x] ∧ H0 x = none ∧ Same H0 H ∧ (∃ dx, H x = some (.ins t.c_Net dx [])) ∧ ∀ H' ds dr dt dp, Same H0 H' → NetO t H' x ds dr dt dp ⟨[], [], [], []⟩ → NetNew H0 ds dr dt dp → Q .non H'
theorem ok_Net_init (Tx : Tab K mg t) : FnOk P w K mg base CX0 1 t.f_Net_init t.d_Net_init ["self"] (spInit t) := by
  refine Tx.F_Net_init.ok sc_Net_init (fun vs H Q E h => ?_) (fun cdv A outer s H vs Q E hr h => ?_)
  · obtain ⟨x, H0, rfl, _⟩ := h
    rfl
  obtain ⟨x, H0, rfl, n0, s0, ⟨dx, hx⟩, q⟩ := h
  refine ⟨_, (pss_cons (ps_fld (pv 0) pe_dnew rfl)
    (pss_cons (ps_fld (pv 0) (pe_lst pa_nil) rfl)
    (pss_cons (ps_fld (pv 0) pe_dnew rfl)
    (pss_cons (ps_fld (pv 0) pe_dnew rfl)
    (pss_one (ps_fld (pv 0) pe_dnew rfl)))))), ?_⟩
  intro p1 g1
  have x1 : p1 ≠ x := fun z => by rw [z, hx] at g1; cases g1
  have d1 := s0.free g1
  refine ⟨_, rfl, x, _, dx, _, rfl, (by rw [upd_ne x1.symm]; exact hx), Tx.cl_Net, Tx.na_Net_stop_rows, by decide, ?_⟩
  have u1 := same_put (s0.trans (same_new g1 (.dK []))) n0 (.ins t.c_Net dx (putF "stop_rows" (.ref p1) []))
  have y1 : (upd (upd H p1 (.dK [])) x (.ins t.c_Net dx (putF "stop_rows" (.ref p1) []))) x = some (.ins t.c_Net dx (putF "stop_rows" (.ref p1) [])) := upd_same
  have k1 : (upd (upd H p1 (.dK [])) x (.ins t.c_Net dx (putF "stop_rows" (.ref p1) []))) p1 = some (.dK []) := by rw [upd_ne x1]; exact upd_same
  generalize upd (upd H p1 (.dK [])) x (.ins t.c_Net dx (putF "stop_rows" (.ref p1) [])) = H1 at u1 y1 k1 ⊢
  refine ⟨by show 0 ≤ sizeLine; decide, fun p2 g2 => ?_⟩
  have x2 : p2 ≠ x := fun z => by rw [z, y1] at g2; cases g2
  have n12 : p1 ≠ p2 := ne_of_none k1 g2
  have d2 := u1.free g2
  refine ⟨_, rfl, x, _, dx, _, rfl, (by rw [upd_ne x2.symm]; exact y1), Tx.cl_Net, Tx.na_Net_walk_rows, Nat.lt_of_le_of_lt (fewS (Nat.zero_le 0)) (by decide), ?_⟩
  have u2 := same_put (u1.trans (same_new g2 (.lst []))) n0 (.ins t.c_Net dx (putF "walk_rows" (.ref p2) (putF "stop_rows" (.ref p1) [])))
  have y2 : (upd (upd H1 p2 (.lst [])) x (.ins t.c_Net dx (putF "walk_rows" (.ref p2) (putF "stop_rows" (.ref p1) [])))) x = some (.ins t.c_Net dx (putF "walk_rows" (.ref p2) (putF "stop_rows" (.ref p1) []))) := upd_same
  have k1 : (upd (upd H1 p2 (.lst [])) x (.ins t.c_Net dx (putF "walk_rows" (.ref p2) (putF "stop_rows" (.ref p1) [])))) p1 = some (.dK []) := by rw [upd_ne x1, upd_ne n12]; exact k1
  generalize upd (upd H1 p2 (.lst [])) x (.ins t.c_Net dx (putF "walk_rows" (.ref p2) (putF "stop_rows" (.ref p1) []))) = H2 at u2 y2 k1 ⊢
  intro p3 g3
  have x3 : p3 ≠ x := fun z => by rw [z, y2] at g3; cases g3
  have n13 : p1 ≠ p3 := ne_of_none k1 g3
  have d3 := u2.free g3
  refine ⟨_, rfl, x, _, dx, _, rfl, (by rw [upd_ne x3.symm]; exact y2), Tx.cl_Net, Tx.na_Net_rule_rows, Nat.lt_of_le_of_lt (fewS (fewS (Nat.zero_le 0))) (by decide), ?_⟩
  have u3 := same_put (u2.trans (same_new g3 (.dK []))) n0 (.ins t.c_Net dx (putF "rule_rows" (.ref p3) (putF "walk_rows" (.ref p2) (putF "stop_rows" (.ref p1) []))))
  have y3 : (upd (upd H2 p3 (.dK [])) x (.ins t.c_Net dx (putF "rule_rows" (.ref p3) (putF "walk_rows" (.ref p2) (putF "stop_rows" (.ref p1) []))))) x = some (.ins t.c_Net dx (putF "rule_rows" (.ref p3) (putF "walk_rows" (.ref p2) (putF "stop_rows" (.ref p1) [])))) := upd_same
  have k1 : (upd (upd H2 p3 (.dK [])) x (.ins t.c_Net dx (putF "rule_rows" (.ref p3) (putF "walk_rows" (.ref p2) (putF "stop_rows" (.ref p1) []))))) p1 = some (.dK []) := by rw [upd_ne x1, upd_ne n13]; exact k1
  have k3 : (upd (upd H2 p3 (.dK [])) x (.ins t.c_Net dx (putF "rule_rows" (.ref p3) (putF "walk_rows" (.ref p2) (putF "stop_rows" (.ref p1) []))))) p3 = some (.dK []) := by rw [upd_ne x3]; exact upd_same
  generalize upd (upd H2 p3 (.dK [])) x (.ins t.c_Net dx (putF "rule_rows" (.ref p3) (putF "walk_rows" (.ref p2) (putF "stop_rows" (.ref p1) [])))) = H3 at u3 y3 k1 k3 ⊢
  intro p4 g4
  have x4 : p4 ≠ x := fun z => by rw [z, y3] at g4; cases g4
  have n14 : p1 ≠ p4 := ne_of_none k1 g4
  have n34 : p3 ≠ p4 := ne_of_none k3 g4
  have d4 := u3.free g4
  refine ⟨_, rfl, x, _, dx, _, rfl, (by rw [upd_ne x4.symm]; exact y3), Tx.cl_Net, Tx.na_Net_ticket_rows, Nat.lt_of_le_of_lt (fewS (fewS (fewS (Nat.zero_le 0)))) (by decide), ?_⟩
  have u4 := same_put (u3.trans (same_new g4 (.dK []))) n0 (.ins t.c_Net dx (putF "ticket_rows" (.ref p4) (putF "rule_rows" (.ref p3) (putF "walk_rows" (.ref p2) (putF "stop_rows" (.ref p1) [])))))
  have y4 : (upd (upd H3 p4 (.dK [])) x (.ins t.c_Net dx (putF "ticket_rows" (.ref p4) (putF "rule_rows" (.ref p3) (putF "walk_rows" (.ref p2) (putF "stop_rows" (.ref p1) [])))))) x = some (.ins t.c_Net dx (putF "ticket_rows" (.ref p4) (putF "rule_rows" (.ref p3) (putF "walk_rows" (.ref p2) (putF "stop_rows" (.ref p1) []))))) := upd_same
  have k1 : (upd (upd H3 p4 (.dK [])) x (.ins t.c_Net dx (putF "ticket_rows" (.ref p4) (putF "rule_rows" (.ref p3) (putF "walk_rows" (.ref p2) (putF "stop_rows" (.ref p1) [])))))) p1 = some (.dK []) := by rw [upd_ne x1, upd_ne n14]; exact k1
  have k3 : (upd (upd H3 p4 (.dK [])) x (.ins t.c_Net dx (putF "ticket_rows" (.ref p4) (putF "rule_rows" (.ref p3) (putF "walk_rows" (.ref p2) (putF "stop_rows" (.ref p1) [])))))) p3 = some (.dK []) := by rw [upd_ne x3, upd_ne n34]; exact k3
  have k4 : (upd (upd H3 p4 (.dK [])) x (.ins t.c_Net dx (putF "ticket_rows" (.ref p4) (putF "rule_rows" (.ref p3) (putF "walk_rows" (.ref p2) (putF "stop_rows" (.ref p1) [])))))) p4 = some (.dK []) := by rw [upd_ne x4]; exact upd_same
  generalize upd (upd H3 p4 (.dK [])) x (.ins t.c_Net dx (putF "ticket_rows" (.ref p4) (putF "rule_rows" (.ref p3) (putF "walk_rows" (.ref p2) (putF "stop_rows" (.ref p1) []))))) = H4 at u4 y4 k1 k3 k4 ⊢
  intro p5 g5
  have x5 : p5 ≠ x := fun z => by rw [z, y4] at g5; cases g5
  have n15 : p1 ≠ p5 := ne_of_none k1 g5
  have n35 : p3 ≠ p5 := ne_of_none k3 g5
  have n45 : p4 ≠ p5 := ne_of_none k4 g5
  have d5 := u4.free g5
  refine ⟨_, rfl, x, _, dx, _, rfl, (by rw [upd_ne x5.symm]; exact y4), Tx.cl_Net, Tx.na_Net_trip_rows, Nat.lt_of_le_of_lt (fewS (fewS (fewS (fewS (Nat.zero_le 0))))) (by decide), ?_⟩
  have u5 := same_put (u4.trans (same_new g5 (.dK []))) n0 (.ins t.c_Net dx (putF "trip_rows" (.ref p5) (putF "ticket_rows" (.ref p4) (putF "rule_rows" (.ref p3) (putF "walk_rows" (.ref p2) (putF "stop_rows" (.ref p1) []))))))
  have y5 : (upd (upd H4 p5 (.dK [])) x (.ins t.c_Net dx (putF "trip_rows" (.ref p5) (putF "ticket_rows" (.ref p4) (putF "rule_rows" (.ref p3) (putF "walk_rows" (.ref p2) (putF "stop_rows" (.ref p1) []))))))) x = some (.ins t.c_Net dx (putF "trip_rows" (.ref p5) (putF "ticket_rows" (.ref p4) (putF "rule_rows" (.ref p3) (putF "walk_rows" (.ref p2) (putF "stop_rows" (.ref p1) [])))))) := upd_same
  have k1 : (upd (upd H4 p5 (.dK [])) x (.ins t.c_Net dx (putF "trip_rows" (.ref p5) (putF "ticket_rows" (.ref p4) (putF "rule_rows" (.ref p3) (putF "walk_rows" (.ref p2) (putF "stop_rows" (.ref p1) []))))))) p1 = some (.dK []) := by rw [upd_ne x1, upd_ne n15]; exact k1
  have k3 : (upd (upd H4 p5 (.dK [])) x (.ins t.c_Net dx (putF "trip_rows" (.ref p5) (putF "ticket_rows" (.ref p4) (putF "rule_rows" (.ref p3) (putF "walk_rows" (.ref p2) (putF "stop_rows" (.ref p1) []))))))) p3 = some (.dK []) := by rw [upd_ne x3, upd_ne n35]; exact k3
  have k4 : (upd (upd H4 p5 (.dK [])) x (.ins t.c_Net dx (putF "trip_rows" (.ref p5) (putF "ticket_rows" (.ref p4) (putF "rule_rows" (.ref p3) (putF "walk_rows" (.ref p2) (putF "stop_rows" (.ref p1) []))))))) p4 = some (.dK []) := by rw [upd_ne x4, upd_ne n45]; exact k4
  have k5 : (upd (upd H4 p5 (.dK [])) x (.ins t.c_Net dx (putF "trip_rows" (.ref p5) (putF "ticket_rows" (.ref p4) (putF "rule_rows" (.ref p3) (putF "walk_rows" (.ref p2) (putF "stop_rows" (.ref p1) []))))))) p5 = some (.dK []) := by rw [upd_ne x5]; exact upd_same
  generalize upd (upd H4 p5 (.dK [])) x (.ins t.c_Net dx (putF "trip_rows" (.ref p5) (putF "ticket_rows" (.ref p4) (putF "rule_rows" (.ref p3) (putF "walk_rows" (.ref p2) (putF "stop_rows" (.ref p1) [])))))) = H5 at u5 y5 k1 k3 k4 k5 ⊢
  exact q _ p1 p3 p4 p5 u5 ⟨⟨dx, _, y5, ⟨rfl, rfl, rfl, rfl, rfl, rfl, rfl, rfl, rfl, rfl, rfl, rfl, rfl, rfl⟩⟩, ⟨n13, n14, n15, n34, n35, n45⟩, ⟨[], k1, .nil⟩, ⟨[], k3, .nil⟩, ⟨[], k4, .nil⟩, ⟨[], k5, .nil⟩⟩ ⟨d1, d3, d4, d5⟩

def NetAt (t : Adr) (H : Hp) (n : Addr) (N : NetM) : Prop := ∃ ds dr dt dp, NetO t H n ds dr dt dp N
theorem NetAt.same {H H' : Hp} {n : Addr} {N : NetM} (s : Same H H') (h : NetAt t H n N) : NetAt t H' n N := let ⟨ds, dr, dt, dp, h⟩ := h; ⟨ds, dr, dt, dp, h.same s⟩
def spCheckStop (t : Adr) : Sp := fun vs H Q _ => ∃ (n : Addr) (N : NetM) (z : Str), vs = [.ref n, .str z] ∧ NetAt t H n N ∧ (fnd Stp.nm N.st z).isSome = true ∧ Q .non H
theorem ok_Net_check_stop (Tx : Tab K mg t) : FnOk P w K mg base CX0 2 t.f_Net_check_stop t.d_Net_check_stop ["self", "name"] (spCheckStop t) := by
  refine Tx.F_Net_check_stop.ok sc_Net_check_stop (fun vs H Q E h => ?_) (fun cdv A outer s H vs Q E hr h => ?_)
  · obtain ⟨n, N, z, rfl, _⟩ := h
    rfl
  obtain ⟨n, N, z, rfl, ⟨ds, dr, dt, dp, hN⟩, hf, q⟩ := h
  obtain ⟨dx, fs, e1, e2⟩ := hN.ob
  obtain ⟨rows, h1, h2⟩ := hN.st
  obtain ⟨x, ex⟩ := Option.isSome_iff_exists.mp hf
  obtain ⟨kv, ev, _⟩ := (fnd_rows (fun kv x (h : SRow H kv x) => h.1) h2 z).2 x ex
  refine ⟨_, (pss_one (ps_if (pt_not (pt_val (pe_call (ok_is_known Tx) (hr.mono (by omega)) rfl Tx.m_is_known Tx.F_is_known.kp Tx.b_is_known .nil pass0 (pac (pv 1) (pac (pe_fld (pv 0) rfl) pa_nil)))))
    (pss_one ps_never)
    pss_nil)), ?_⟩
  exact ⟨_, rfl, _, rfl, n, _, dx, _, _, rfl, e1, Tx.cl_Net, Tx.na_Net_stop_rows, e2.fs1, z, ds, rows, rfl, h1, _, rfl, itF (by rw [ev]; exact Bool.false_ne_true) q⟩
def spZone (t : Adr) : Sp := fun vs H Q _ => ∃ (n : Addr) (N : NetM) (z : Str) (x : Stp), vs = [.ref n, .str z] ∧ NetAt t H n N ∧ fnd Stp.nm N.st z = some x ∧ Q (.int (x.z : Nat)) H
theorem ok_Net_zone (Tx : Tab K mg t) : FnOk P w K mg base CX0 3 t.f_Net_zone t.d_Net_zone ["self", "stop"] (spZone t) := by
  refine Tx.F_Net_zone.ok sc_Net_zone (fun vs H Q E h => ?_) (fun cdv A outer s H vs Q E hr h => ?_)
  · obtain ⟨n, N, z, x, rfl, _⟩ := h
    rfl
  obtain ⟨n, N, z, x, rfl, hA, ex, q⟩ := h
  have hA' := hA
  obtain ⟨ds, dr, dt, dp, hN⟩ := hA'
  obtain ⟨dx, fs, e1, e2⟩ := hN.ob
  obtain ⟨rows, h1, h2⟩ := hN.st
  obtain ⟨kv, ev, _, r, er, hr1⟩ := (fnd_rows (fun kv x (h : SRow H kv x) => h.1) h2 z).2 x ex
  refine ⟨_, (pss_cons (ps_expr (pe_meth (pv 0) Tx.cl_Net Tx.me_Net_check_stop (ok_Net_check_stop Tx) (hr.mono (by omega)) Tx.b_Net_check_stop .nil pass0 (pac (pv 1) pa_nil)))
    (pss_one (ps_ret (pe_ix ix_tup (pe_dget (hu_of hr) (pe_fld (pv 0) rfl) (pv 1) (fun _ _ => rfl)) pe_int (fun _ _ => rfl))))), ?_⟩
  refine ⟨_, rfl, n, dx, _, rfl, e1, e2.n4, _, rfl, n, N, z, rfl, hA, by rw [ex]; rfl, ?_⟩
  refine ⟨_, rfl, n, _, dx, _, _, rfl, e1, Tx.cl_Net, Tx.na_Net_stop_rows, e2.fs1, _, rfl, ds, .ref r, rfl, ?_, r, _, 0, _, rfl, rfl, SqT.of hr1, rfl, q⟩
  rw [← er, ← ev]; exact DGet.k (k := Sum.inr z) h1
def spCheckTrip (t : Adr) : Sp := fun vs H Q _ => ∃ (n : Addr) (N : NetM) (z : Str), vs = [.ref n, .str z] ∧ NetAt t H n N ∧ (fnd Tp.nm N.tp z).isSome = true ∧ Q .non H
theorem ok_Net_check_trip (Tx : Tab K mg t) : FnOk P w K mg base CX0 2 t.f_Net_check_trip t.d_Net_check_trip ["self", "name"] (spCheckTrip t) := by
  refine Tx.F_Net_check_trip.ok sc_Net_check_trip (fun vs H Q E h => ?_) (fun cdv A outer s H vs Q E hr h => ?_)
  · obtain ⟨n, N, z, rfl, _⟩ := h
    rfl
  obtain ⟨n, N, z, rfl, ⟨ds, dr, dt, dp, hN⟩, hf, q⟩ := h
  obtain ⟨dx, fs, e1, e2⟩ := hN.ob
  obtain ⟨rows, h1, h2⟩ := hN.tp
  obtain ⟨x, ex⟩ := Option.isSome_iff_exists.mp hf
  obtain ⟨kv, ev, _⟩ := (fnd_rows (fun kv x (h : TRow H kv x) => h.1) h2 z).2 x ex
  refine ⟨_, (pss_one (ps_if (pt_not (pt_val (pe_call (ok_is_known Tx) (hr.mono (by omega)) rfl Tx.m_is_known Tx.F_is_known.kp Tx.b_is_known .nil pass0 (pac (pv 1) (pac (pe_fld (pv 0) rfl) pa_nil)))))
    (pss_one ps_never)
    pss_nil)), ?_⟩
  exact ⟨_, rfl, _, rfl, n, _, dx, _, _, rfl, e1, Tx.cl_Net, Tx.na_Net_trip_rows, e2.fp, z, dp, rows, rfl, h1, _, rfl, itF (by rw [ev]; exact Bool.false_ne_true) q⟩
def spCalls (t : Adr) : Sp := fun vs H Q _ => ∃ (n : Addr) (N : NetM) (z : Str) (x : Tp), vs = [.ref n, .str z] ∧ NetAt t H n N ∧ fnd Tp.nm N.tp z = some x ∧ ∀ l vs H', Same H H' → H l = none → H' l = some (.lst vs) → Al (ClAt H') vs x.cs → Q (.ref l) H'
theorem ok_Net_calls (Tx : Tab K mg t) : FnOk P w K mg base CX0 3 t.f_Net_calls t.d_Net_calls ["self", "trip"] (spCalls t) := by
  refine Tx.F_Net_calls.ok sc_Net_calls (fun vs H Q E h => ?_) (fun cdv A outer s H vs Q E hr h => ?_)
  · obtain ⟨n, N, z, x, rfl, _⟩ := h
    rfl
  obtain ⟨n, N, z, x, rfl, hA, ex, q⟩ := h
  have hA' := hA
  obtain ⟨ds, dr, dt, dp, hN⟩ := hA'
  obtain ⟨dx, fs, e1, e2⟩ := hN.ob
  obtain ⟨rows, h1, h2⟩ := hN.tp
  obtain ⟨kv, ev, _, r, qa, vs, er, hr1, hq1, hcs⟩ := (fnd_rows (fun kv x (h : TRow H kv x) => h.1) h2 z).2 x ex
  refine ⟨_, (pss_cons (ps_expr (pe_meth (pv 0) Tx.cl_Net Tx.me_Net_check_trip (ok_Net_check_trip Tx) (hr.mono (by omega)) Tx.b_Net_check_trip .nil pass0 (pac (pv 1) pa_nil)))
    (pss_one (ps_ret (pe_callTy call_list_of rfl Tx.z_list b_list (pac (pe_ix ix_tup (pe_dget (hu_of hr) (pe_fld (pv 0) rfl) (pv 1) (fun _ _ => rfl)) pe_int (fun _ _ => rfl)) pa_nil))))), ?_⟩
  refine ⟨_, rfl, n, dx, _, rfl, e1, e2.n5, _, rfl, n, N, z, rfl, hA, by rw [ex]; rfl, ?_⟩
  refine ⟨_, rfl, n, _, dx, _, _, rfl, e1, Tx.cl_Net, Tx.na_Net_trip_rows, e2.fp, _, rfl, dp, .ref r, rfl, ?_, r, _, 1, _, rfl, rfl, SqT.of hr1, rfl, qa, _, rfl, .inr (SqT.of hq1), fun l hl => ?_⟩
  · rw [← er, ← ev]; exact DGet.k (k := Sum.inr z) h1
  · exact q l vs _ (same_new hl _) hl upd_same (hcs.imp fun _ _ => ClAt.same (same_new hl _))
def spTicket (t : Adr) : Sp := fun vs H Q _ => ∃ (n : Addr) (N : NetM) (z : Str) (k : Tk), vs = [.ref n, .str z] ∧ NetAt t H n N ∧ fnd Tk.nm N.tk z = some k ∧ ∀ p l H', Same H H' → H' p = some (.tup [.int (k.pr : Nat), .int (k.la : Nat), .ref l]) → H' l = some (.lst (natV (zonesOf k.b))) → Q (.ref p) H'
theorem ok_Net_ticket (Tx : Tab K mg t) : FnOk P w K mg base CX0 2 t.f_Net_ticket t.d_Net_ticket ["self", "name"] (spTicket t) := by
  refine Tx.F_Net_ticket.ok sc_Net_ticket (fun vs H Q E h => ?_) (fun cdv A outer s H vs Q E hr h => ?_)
  · obtain ⟨n, N, z, k, rfl, _⟩ := h
    rfl
  obtain ⟨n, N, nz, k, rfl, ⟨ds, dr, dt, dp, hN⟩, ek, q⟩ := h
  obtain ⟨dx, fs, e1, e2⟩ := hN.ob
  obtain ⟨rows, h1, h2⟩ := hN.tk
  obtain ⟨kv, ev, _, r, z, er0, er, ez⟩ := (fnd_rows (fun kv x (h : RowIs H kv x) => h.1) h2 nz).2 k ek
  refine ⟨_, (pss_cons (ps_if (pt_not (pt_val (pe_call (ok_is_known Tx) (hr.mono (by omega)) rfl Tx.m_is_known Tx.F_is_known.kp Tx.b_is_known .nil pass0 (pac (pv 1) (pac (pe_fld (pv 0) rfl) pa_nil)))))
    (pss_one ps_never)
    pss_nil)
    (pss_cons (ps_set (i := 2) sc_Net_ticket.nd rfl (Or.inl rfl) (pe_dget (hu_of hr) (pe_fld (pv 0) rfl) (pv 1) (fun _ _ => rfl)))
    (pss_one (ps_ret (pe_tup (pac (pe_ix ix_tup (pv 2) pe_int (fun _ _ => rfl)) (pac (pe_ix ix_tup (pv 2) pe_int (fun _ _ => rfl)) (pac (pe_callTy call_list_of rfl Tx.z_list b_list (pac (pe_ix ix_tup (pv 2) pe_int (fun _ _ => rfl)) pa_nil)) pa_nil)))))))), ?_⟩
  refine ⟨_, rfl, _, rfl, n, _, dx, _, _, rfl, e1, Tx.cl_Net, Tx.na_Net_ticket_rows, e2.ft, nz, dt, rows, rfl, h1, _, rfl, itF (by rw [ev]; exact Bool.false_ne_true) ?_⟩
  refine ⟨_, rfl, n, _, dx, _, _, rfl, e1, Tx.cl_Net, Tx.na_Net_ticket_rows, e2.ft, _, rfl, dt, .ref r, rfl, ?_, ?_⟩
  · rw [← er0, ← ev]; exact DGet.k (k := Sum.inr nz) h1
  refine ⟨_, rfl, r, _, 0, _, rfl, rfl, SqT.of er, rfl, _, rfl, r, _, 1, _, rfl, rfl, SqT.of er, rfl, _, rfl, r, _, 2, _, rfl, rfl, SqT.of er, rfl, z, _, rfl, .inr (SqT.of ez), fun l hl => ?_⟩
  have s1 := same_new hl (.lst (natV (zonesOf k.b)))
  refine ⟨by show 3 ≤ sizeLine; decide, fun p hp => ?_⟩
  exact q p l _ (s1.trans (same_new hp _)) upd_same ((same_new hp _) _ _ upd_same)
def spZbG (K : W.Frag) : Sp := fun vs H Q _ => ∃ (l : Addr) (zs : List Nat), vs = [.ref l] ∧ SqL K H l (natV zs) ∧ (∀ z ∈ zs, 1 ≤ z ∧ z ≤ 6) ∧ Q (.int (zb zs : Nat)) H
theorem ok_zone_bits_g (Tx : Tab K mg t) : FnOk P w K mg base CX0 1 t.f_zone_bits t.d_zone_bits ["zones"] (spZbG K) := by
  refine Tx.F_zone_bits.ok sc_zone_bits (fun vs H Q E h => ?_) (fun cdv A outer s H vs Q E hr h => ?_)
  · obtain ⟨l, zs, rfl, _⟩ := h
    rfl
  obtain ⟨l, zs, rfl, hl, hz, q⟩ := h
  refine ⟨_, (pss_cons (ps_set (i := 1) sc_zone_bits.nd rfl (Or.inl rfl) pe_int)
    (pss_cons (ps_for PassesOwn.never rfl (pi_list (pv 0)) (pg_name (i := 2) sc_zone_bits.nd rfl (Or.inl rfl))
    (pss_one (ps_set (i := 1) sc_zone_bits.nd rfl (Or.inl rfl) (pe_op op_or (pv 1) (pe_op op_shl pe_int (pe_op op_sub (pv 2) pe_int))))))
    (pss_one (ps_ret (pv 1))))), ?_⟩
  refine ⟨_, rfl, l, rfl, ⟨_, hl⟩, for_list (xs := natV zs) (fun i σ H' => H' = H ∧ ∃ v, σ = [some (.ref l), some (.int ((zb (zs.take i) : Nat))), v]) ⟨rfl, _, rfl⟩ (fun i σ H' _ ⟨e, _⟩ => by rw [e]; exact hl) ?_ ?_⟩
  · rintro i x σ H' hx ⟨rfl, v, rfl⟩
    unfold natV at hx
    rw [List.getElem?_map] at hx
    cases hs : zs[i]? with
    | none => rw [hs] at hx; cases hx
    | some m =>
      rw [hs] at hx
      obtain rfl : V.int ((m : Nat) : Int) = x := Option.some.inj hx
      have hm := hz m (List.mem_of_getElem? hs)
      refine ⟨_, rfl, _, rfl, _, _, rfl, rfl, _, _, rfl, rfl, ⟨by omega, by omega, by decide⟩, _, _, rfl, rfl, rfl, some (.int ((m : Nat) : Int)), ?_⟩
      have e1 : (1 * 2 ^ (((m : Nat) : Int) - 1).toNat : Int) = ((2 ^ (m - 1) : Nat) : Int) := by
        rw [Int.one_mul, show (((m : Nat) : Int) - 1).toNat = m - 1 by omega]
        exact PyProof.Rows.two_pow_cast _
      have e2 : zb (zs.take (i + 1)) = zb (zs.take i) ||| 2 ^ (m - 1) := by
        rw [List.take_add_one, hs]
        unfold zb
        rw [List.foldl_append]
        rfl
      have e3 : Builtin.bitOr ((zb (zs.take i) : Nat) : Int) (1 * 2 ^ (((m : Nat) : Int) - 1).toNat) = ((zb (zs.take (i + 1)) : Nat) : Int) := by
        rw [e1, e2]; exact bitOr_nat _ _
      show List.set _ _ _ = _
      rw [← e3]
      rfl
  · rintro σ H' ⟨rfl, v, rfl⟩
    refine ⟨_, rfl, ?_⟩
    have e : (natV zs).length = zs.length := List.length_map ..
    rw [e, List.take_length]
    exact q
def spFits (t : Adr) : Sp := fun vs H Q _ => ∃ (n : Addr) (N : NetM) (z : Str) (k : Tk) (b : Nat), vs = [.ref n, .str z, .int (b : Nat)] ∧ NetAt t H n N ∧ fnd Tk.nm N.tk z = some k ∧ k.b < 64 ∧ ∀ H', Same H H' → Q (.bl (decide (k.b &&& b = b))) H'
theorem ok_fits (Tx : Tab K mg t) : FnOk P w K mg base CX0 3 t.f_fits t.d_fits ["net", "ticket", "bits"] (spFits t) := by
  refine Tx.F_fits.ok sc_fits (fun vs H Q E h => ?_) (fun cdv A outer s H vs Q E hr h => ?_)
  · obtain ⟨n, N, z, k, b, rfl, _⟩ := h
    rfl
  obtain ⟨n, N, z, k, b, rfl, hA, ek, kb, q⟩ := h
  have hA' := hA
  obtain ⟨ds, dr, dt, dp, hN⟩ := hA'
  obtain ⟨dx, fs, e1, e2⟩ := hN.ob
  refine ⟨_, (pss_one (ps_ret (pe_cmpR op_eq (pe_op op_and (pe_call (ok_zone_bits_g Tx) (hr.mono (by omega)) rfl Tx.m_zone_bits Tx.F_zone_bits.kp Tx.b_zone_bits .nil pass0 (pac (pe_ix ix_tup (pe_meth (pv 0) Tx.cl_Net Tx.me_Net_ticket (ok_Net_ticket Tx) (hr.mono (by omega)) Tx.b_Net_ticket .nil pass0 (pac (pv 1) pa_nil)) pe_int (fun _ _ => rfl)) pa_nil)) (pv 2)) (pv 2) (nomark _)))), ?_⟩
  refine ⟨_, rfl, n, dx, _, rfl, e1, e2.n1, _, rfl, n, N, z, k, rfl, hA, ek, fun p l H1 s1 hp hl => ?_⟩
  refine ⟨p, _, 2, _, rfl, rfl, SqT.of hp, rfl, l, zonesOf k.b, rfl, SqL.of hl, zones_rng k.b, _, rfl, _, _, rfl, rfl, _, rfl, rfl, ?_⟩
  have e : decide (V.int (Builtin.bitAnd ((zb (zonesOf k.b) : Nat) : Int) ((b : Nat) : Int)) = V.int ((b : Nat) : Int)) = decide (k.b &&& b = b) := by
    rw [zb_zones k.b kb, bitAnd_nat]
    exact decide_eq_decide.mpr ⟨fun x => by injection x with x; omega, fun x => by rw [x]⟩
  have q2 := q H1 s1
  rw [← e] at q2
  exact q2
def zoneM (N : NetM) (z : Str) : Nat := match fnd Stp.nm N.st z with | some x => x.z | none => 0
theorem cut_mid (xs : List V) (a b : Nat) (h : a ≤ b) (hb : b ≤ xs.length) : cutV xs (some (a : Int)) (some (b : Int)) = (xs.drop a).take (b - a) := by
  unfold cutV
  rw [HT.sIx_nat, HT.sIx_nat, Nat.min_eq_left (Nat.le_trans h hb), Nat.min_eq_left hb]
def NetGood (N : NetM) : Prop := (∀ x ∈ N.st, 1 ≤ x.z ∧ x.z ≤ 6)
def spZonesOf (t : Adr) : Sp := fun vs H Q _ => ∃ (n : Addr) (N : NetM) (z : Str) (x : Tp) (b o : Nat), vs = [.ref n, .str z, .int (b : Nat), .int (o : Nat)] ∧ NetAt t H n N ∧ NetGood N ∧ fnd Tp.nm N.tp z = some x ∧ b < o ∧ o < x.cs.length ∧ x.cs.length ≤ 6 ∧ (∀ c ∈ x.cs, (fnd Stp.nm N.st c.st).isSome = true) ∧
  ∀ H', Same H H' → Q (.int (zb (((x.cs.drop b).take (o + 1 - b)).map fun c => zoneM N c.st) : Nat)) H'
theorem ok_zones_of (Tx : Tab K mg t) : FnOk P w K mg base CX0 5 t.f_zones_of t.d_zones_of ["net", "trip", "board", "off"] (spZonesOf t) := by
  refine Tx.F_zones_of.ok sc_zones_of (fun vs H Q E h => ?_) (fun cdv A outer s H vs Q E hr h => ?_)
  · obtain ⟨n, N, z, x, b, o, rfl, _⟩ := h
    rfl
  obtain ⟨n, N, z, x, b, o, rfl, hA, hG, ex, hbo, hoc, h6, hst, q⟩ := h
  have hA' := hA
  obtain ⟨ds, dr, dt, dp, hN⟩ := hA'
  obtain ⟨dx, fs, e1, e2⟩ := hN.ob
  refine ⟨_, (pss_cons (ps_set (i := 4) sc_zones_of.nd rfl (Or.inl rfl) (pe_meth (pv 0) Tx.cl_Net Tx.me_Net_calls (ok_Net_calls Tx) (hr.mono (by omega)) Tx.b_Net_calls .nil pass0 (pac (pv 1) pa_nil)))
    (pss_cons (ps_expr (pe_call (ok_check_number Tx) (hr.mono (by omega)) rfl Tx.m_check_number Tx.F_check_number.kp Tx.b_check_number .nil pass0 (pac (pv 2) (pac pe_int (pac (pe_op op_sub (pe_callB call_len_seq rfl Tx.z_len b_len (pac (pv 4) pa_nil)) pe_int) pa_nil)))))
    (pss_cons (ps_expr (pe_call (ok_check_number Tx) (hr.mono (by omega)) rfl Tx.m_check_number Tx.F_check_number.kp Tx.b_check_number .nil pass0 (pac (pv 3) (pac (pe_op op_add (pv 2) pe_int) (pac (pe_op op_sub (pe_callB call_len_seq rfl Tx.z_len b_len (pac (pv 4) pa_nil)) pe_int) pa_nil)))))
    (pss_one (ps_ret (pe_call (ok_zone_bits_g Tx) (hr.mono (by omega)) rfl Tx.m_zone_bits Tx.F_zone_bits.kp Tx.b_zone_bits .nil pass0 (pac (pe_comp (cl := [(Str.ofString "net", s.heap.objs.size + 1)]) (N := ["call", "net"]) (fr := [none, some 0]) rfl (pi_list (pe_slice sl_list (pv 4) (po_some (pv 2)) (po_some (pe_op op_add (pv 3) pe_int)))) rfl (by decide +kernel) rfl (by decide +kernel) ⟨⟨rfl, Or.inl rfl, Or.inl rfl, _, rfl, rfl⟩, trivial⟩ ⟨rfl, trivial⟩ rfl (fun _ _ _ _ _ => (pg_name (i := 0) (show List.Nodup (["call", "net"] : List Str) by decide +kernel) rfl (Or.inl rfl))) (fun _ _ _ _ _ => pts_nil) (fun _ _ _ _ _ => (pe_meth (pv 1) Tx.cl_Net Tx.me_Net_zone (ok_Net_zone Tx) (hr.mono (by omega)) Tx.b_Net_zone .nil pass0 (pac (pe_ix (show IxR _ (rIxT K) from ix_tup) (pv 0) pe_int (fun _ _ => rfl)) pa_nil)))) pa_nil))))))), ?_⟩
  refine ⟨_, rfl, n, dx, _, rfl, e1, e2.n2, _, rfl, n, N, z, x, rfl, hA, ex, fun l vs H1 s1 _ hl al => ?_⟩
  have lv := al.length
  refine ⟨_, rfl, _, rfl, l, _, rfl, .inl (SqL.of hl), _, _, rfl, rfl, b, 0, _, rfl, by omega, by omega, ?_⟩
  refine ⟨_, rfl, _, rfl, _, _, rfl, rfl, _, rfl, l, _, rfl, .inl (SqL.of hl), _, _, rfl, rfl, o, _, _, rfl, by omega, by omega, ?_⟩
  refine ⟨_, rfl, _, rfl, _, rfl, _, rfl, _, _, rfl, rfl, _, rfl, l, _, rfl, SqL.of hl, fun l2 hl2 => ?_⟩
  rw [show cutV vs (some ((b : Nat) : Int)) (some (((o : Nat) : Int) + 1)) = (vs.drop b).take (o + 1 - b) from cut_mid vs b (o + 1) (by omega) (by omega)]
  have s2 := same_new hl2 (.lst ((vs.drop b).take (o + 1 - b)))
  have al2 := ((al.drop b).take (o + 1 - b)).imp fun _ _ => ClAt.same s2
  have S2 := s1.trans s2
  refine ⟨l2, rfl, ⟨_, SqL.of upd_same⟩, comp_list (K := K) (a := l2) (xs := (vs.drop b).take (o + 1 - b)) (fun i acc σ H' => H' = upd H1 l2 (.lst ((vs.drop b).take (o + 1 - b))) ∧ (∃ v, σ = [v, some (.ref n)]) ∧ acc = natV ((((x.cs.drop b).take (o + 1 - b)).take i).map fun c => zoneM N c.st)) ⟨rfl, ⟨_, rfl⟩, rfl⟩
    (by rw [al2.length, List.length_take, List.length_drop]; exact Nat.le_trans (show _ ≤ 6 by omega) (by decide)) (fun i acc σ H' _ ⟨e, _⟩ => by rw [e]; exact SqL.of upd_same) ?_ ?_⟩
  · rintro i y acc σ H' hi hy ⟨rfl, ⟨v, rfl⟩, rfl⟩
    obtain ⟨c, ec, pc, rfl, hpc⟩ := al2.get hy
    have hc : c ∈ x.cs := List.mem_of_mem_drop (List.mem_of_mem_take (List.mem_of_getElem? ec))
    obtain ⟨st, est⟩ := Option.isSome_iff_exists.mp (hst c hc)
    dsimp only [gName, tTrue]
    rw [if_pos rfl]
    refine ⟨_, rfl, n, dx, _, rfl, S2 _ _ e1, e2.n3, _, rfl, pc, _, 0, _, rfl, rfl, SqT.of hpc, rfl, n, N, c.st, st, rfl, hA.same S2, est, ?_⟩
    refine ⟨by rw [List.length_append, List.length_singleton]; omega, rfl, ⟨_, rfl⟩, ?_⟩
    rw [List.take_add_one, ec, List.map_append]
    unfold natV
    rw [List.map_append]
    show _ ++ [V.int ((st.z : Nat) : Int)] = _ ++ [V.int ((zoneM N c.st : Nat) : Int)]
    unfold zoneM
    rw [est]
  · rintro acc σ H' ha ⟨rfl, ⟨v, rfl⟩, rfl⟩ p2 g2
    rw [al2.length, List.take_length]
    refine ⟨p2, ((x.cs.drop b).take (o + 1 - b)).map (fun c => zoneM N c.st), rfl, SqL.of upd_same, fun zz hz => ?_, q _ (S2.trans (same_new g2 _))⟩
    obtain ⟨c, hc, rfl⟩ := List.mem_map.mp hz
    have hc : c ∈ x.cs := List.mem_of_mem_drop (List.mem_of_mem_take hc)
    obtain ⟨st, est⟩ := Option.isSome_iff_exists.mp (hst c hc)
    unfold zoneM
    rw [est]
    exact hG st (fnd_mem est).1

def knV (rows : List (Key × V)) : V → Bool
  | .str z => (valV rows (Sum.inr z)).isSome
  | _ => false
def spKnownG : Sp := fun vs H Q _ => ∃ (v : V) (T : String) (d : Addr) (kvs : List (Key × V)), vs = [v, .ref d] ∧ Kd H v T ∧ H d = some (.dK kvs) ∧ Q (.bl (knV kvs v)) H
theorem ok_is_known_g (Tx : Tab K mg t) : FnOk P w K mg base CX0 1 t.f_is_known t.d_is_known ["value", "named"] spKnownG := by
  refine Tx.F_is_known.ok sc_is_known (fun vs H Q E h => ?_) (fun cdv A outer s H vs Q E hr h => ?_)
  · obtain ⟨v, T, d, kvs, rfl, _⟩ := h
    rfl
  obtain ⟨v, T, d, kvs, rfl, kd, hd, q⟩ := h
  refine ⟨_, (pss_one (ps_ret (pe_and (pe_callB call_isi_ty rfl Tx.z_isinstance b_isinstance (pac (pv 0) (pac (pe_gty rfl Tx.z_str b_str) pa_nil))) (pe_one (pe_cmp (pc_din (hu_of hr) (pv 0) (pv 1))))))), ?_⟩
  refine ⟨_, rfl, v, "str", _, _, rfl, kd.ty, kit_str kd, _, rfl, ?_⟩
  cases kd with
  | non => exact itF (by decide) q
  | bl b => exact itF (by decide) q
  | int i => exact itF (by decide) q
  | lst e => exact itF (by decide) q
  | tup e => exact itF (by decide) q
  | dK e => exact itF (by decide) q
  | str z => exact itT (by decide) ⟨_, rfl, _, rfl, d, _, rfl, DGet.k (k := Sum.inr z) hd, q⟩
def spChkX (t : Adr) : Sp := fun vs H Q E => ∃ (v : V) (T : String) (lo hi : Int), vs = [v, .int lo, .int hi] ∧ Kd H v T ∧ (numV v lo hi = true → Q .non H) ∧ (numV v lo hi = false → E (.ref t.c_BadNumber) none H)
theorem ok_check_number_x (Tx : Tab K mg t) : FnOk P w K mg base (CXO P w) 3 t.f_check_number t.d_check_number ["value", "least", "most"] (spChkX t) := by
  refine Tx.F_check_number.okX sc_check_number (fun vs H Q E h => ?_) (fun cdv A outer s H vs Q E hr h => ?_)
  · obtain ⟨v, T, lo, hi, rfl, _⟩ := h
    rfl
  obtain ⟨v, T, lo, hi, rfl, kd, q, e⟩ := h
  refine ⟨_, (pss_one (ps_if (pt_not (pt_val (pe_call (ok_is_number Tx) (hr.mono (by omega)) rfl Tx.m_is_number Tx.F_is_number.kp Tx.b_is_number .nil pass0 (pac (pv 0) (pac (pv 1) (pac (pv 2) pa_nil))))))
    (pss_one (ps_raise raises_fn Tx.e_BadNumber rfl rfl Tx.m_BadNumber (pac pe_str pa_nil)))
    pss_nil)), ?_⟩
  refine ⟨_, rfl, _, rfl, _, rfl, v, lo, hi, T, rfl, kd, _, rfl, ?_⟩
  by_cases c : numV v lo hi = true
  · exact itF (by rw [c]; decide) (q c)
  · have c := Bool.eq_false_iff.mpr c
    exact itT (by rw [c]; decide) ⟨by show 1 ≤ sizeLine; decide, e c⟩
def tripV (N : NetM) : V → Option Tp
  | .str z => fnd Tp.nm N.tp z
  | _ => none
theorem kn_trip {H : Hp} {rows : List (Key × V)} {N : NetM} (h : Al (TRow H) rows N.tp) (v : V) : knV rows v = (tripV N v).isSome := by
  cases v with
  | str z =>
    have := fnd_rows (fun kv x (h : TRow H kv x) => h.1) h z
    show (valV rows (Sum.inr z)).isSome = (fnd Tp.nm N.tp z).isSome
    cases e : fnd Tp.nm N.tp z with
    | none => rw [this.1 e]; rfl
    | some x => obtain ⟨kv, ev, _⟩ := this.2 x e; rw [ev]; rfl
  | _ => rfl
def spCheckTripX (t : Adr) : Sp := fun vs H Q E => ∃ (n : Addr) (N : NetM) (v : V) (T : String), vs = [.ref n, v] ∧ NetAt t H n N ∧ Kd H v T ∧ (∀ x, tripV N v = some x → Q .non H) ∧ (tripV N v = none → E (.ref t.c_NoTrip) none H)
theorem ok_Net_check_trip_x (Tx : Tab K mg t) : FnOk P w K mg base (CXO P w) 2 t.f_Net_check_trip t.d_Net_check_trip ["self", "name"] (spCheckTripX t) := by
  refine Tx.F_Net_check_trip.okX sc_Net_check_trip (fun vs H Q E h => ?_) (fun cdv A outer s H vs Q E hr h => ?_)
  · obtain ⟨n, N, v, T, rfl, _⟩ := h
    rfl
  obtain ⟨n, N, v, T, rfl, ⟨ds, dr, dt, dp, hN⟩, kd, q, e⟩ := h
  obtain ⟨dx, fs, e1, e2⟩ := hN.ob
  obtain ⟨rows, h1, h2⟩ := hN.tp
  refine ⟨_, (pss_one (ps_if (pt_not (pt_val (pe_call (ok_is_known_g Tx) (hr.mono (by omega)) rfl Tx.m_is_known Tx.F_is_known.kp Tx.b_is_known .nil pass0 (pac (pv 1) (pac (pe_fld (pv 0) rfl) pa_nil)))))
    (pss_one (ps_raise raises_fn Tx.e_NoTrip rfl rfl Tx.m_NoTrip (pac pe_str pa_nil)))
    pss_nil)), ?_⟩
  refine ⟨_, rfl, _, rfl, n, _, dx, _, _, rfl, e1, Tx.cl_Net, Tx.na_Net_trip_rows, e2.fp, v, T, dp, rows, rfl, kd, h1, _, rfl, ?_⟩
  rw [kn_trip h2]
  cases ev : tripV N v with
  | none => exact itT (by decide) ⟨by show 1 ≤ sizeLine; decide, e ev⟩
  | some x => exact itF Bool.false_ne_true (q x ev)
def spCallsX (t : Adr) : Sp := fun vs H Q E => ∃ (n : Addr) (N : NetM) (v : V) (T : String), vs = [.ref n, v] ∧ NetAt t H n N ∧ Kd H v T ∧ (∀ x, tripV N v = some x → ∀ l vs H', Same H H' → H l = none → H' l = some (.lst vs) → Al (ClAt H') vs x.cs → Q (.ref l) H') ∧ (tripV N v = none → E (.ref t.c_NoTrip) none H)
theorem ok_Net_calls_x (Tx : Tab K mg t) : FnOk P w K mg base (CXO P w) 3 t.f_Net_calls t.d_Net_calls ["self", "trip"] (spCallsX t) := by
  refine Tx.F_Net_calls.okX sc_Net_calls (fun vs H Q E h => ?_) (fun cdv A outer s H vs Q E hr h => ?_)
  · obtain ⟨n, N, v, T, rfl, _⟩ := h
    rfl
  obtain ⟨n, N, v, T, rfl, hA, kd, q, e⟩ := h
  have hA' := hA
  obtain ⟨ds, dr, dt, dp, hN⟩ := hA'
  obtain ⟨dx, fs, e1, e2⟩ := hN.ob
  obtain ⟨rows, h1, h2⟩ := hN.tp
  refine ⟨_, (pss_cons (ps_expr (pe_meth (pv 0) Tx.cl_Net Tx.me_Net_check_trip (ok_Net_check_trip_x Tx) (hr.mono (by omega)) Tx.b_Net_check_trip .nil passes_fn (pac (pv 1) pa_nil)))
    (pss_one (ps_ret (pe_callTy call_list_of rfl Tx.z_list b_list (pac (pe_ix ix_tup (pe_dget (hu_of hr) (pe_fld (pv 0) rfl) (pv 1) (fun _ _ => rfl)) pe_int (fun _ _ => rfl)) pa_nil))))), ?_⟩
  refine ⟨_, rfl, n, dx, _, rfl, e1, e2.n5, _, rfl, n, N, v, T, rfl, hA, kd, fun x ex => ?_, e⟩
  cases v with
  | str z =>
    obtain ⟨kv, ev, _, r, qa, vs, er, hr1, hq1, hcs⟩ := (fnd_rows (fun kv x (h : TRow H kv x) => h.1) h2 z).2 x ex
    refine ⟨_, rfl, n, _, dx, _, _, rfl, e1, Tx.cl_Net, Tx.na_Net_trip_rows, e2.fp, _, rfl, dp, .ref r, rfl, ?_, r, _, 1, _, rfl, rfl, SqT.of hr1, rfl, qa, _, rfl, .inr (SqT.of hq1), fun l hl => ?_⟩
    · rw [← er, ← ev]; exact DGet.k (k := Sum.inr z) h1
    · exact q x ex l vs _ (same_new hl _) hl upd_same (hcs.imp fun _ _ => ClAt.same (same_new hl _))
  | _ => cases ex
def tkV (N : NetM) : V → Option Tk
  | .str z => fnd Tk.nm N.tk z
  | _ => none
theorem kn_tk {H : Hp} {rows : List (Key × V)} {N : NetM} (h : Al (RowIs H) rows N.tk) (v : V) : knV rows v = (tkV N v).isSome := by
  cases v with
  | str z =>
    have := fnd_rows (fun kv x (h : RowIs H kv x) => h.1) h z
    show (valV rows (Sum.inr z)).isSome = (fnd Tk.nm N.tk z).isSome
    cases e : fnd Tk.nm N.tk z with
    | none => rw [this.1 e]; rfl
    | some x => obtain ⟨kv, ev, _⟩ := this.2 x e; rw [ev]; rfl
  | _ => rfl
def spTicketX (t : Adr) : Sp := fun vs H Q E => ∃ (n : Addr) (N : NetM) (v : V) (T : String), vs = [.ref n, v] ∧ NetAt t H n N ∧ Kd H v T ∧ tkV N v = none ∧ E (.ref t.c_NoTicket) none H
theorem ok_Net_ticket_x (Tx : Tab K mg t) : FnOk P w K mg base (CXO P w) 2 t.f_Net_ticket t.d_Net_ticket ["self", "name"] (spTicketX t) := by
  refine Tx.F_Net_ticket.okX sc_Net_ticket (fun vs H Q E h => ?_) (fun cdv A outer s H vs Q E hr h => ?_)
  · obtain ⟨n, N, v, T, rfl, _⟩ := h
    rfl
  obtain ⟨n, N, v, T, rfl, ⟨ds, dr, dt, dp, hN⟩, kd, ev, e⟩ := h
  obtain ⟨dx, fs, e1, e2⟩ := hN.ob
  obtain ⟨rows, h1, h2⟩ := hN.tk
  refine ⟨_, (pss_cons (ps_if (pt_not (pt_val (pe_call (ok_is_known_g Tx) (hr.mono (by omega)) rfl Tx.m_is_known Tx.F_is_known.kp Tx.b_is_known .nil pass0 (pac (pv 1) (pac (pe_fld (pv 0) rfl) pa_nil)))))
    (pss_one (ps_raise raises_fn Tx.e_NoTicket rfl rfl Tx.m_NoTicket (pac pe_str pa_nil)))
    pss_nil)
    (pss_cons (ps_set (i := 2) sc_Net_ticket.nd rfl (Or.inl rfl) (pe_dget (hu_of hr) (pe_fld (pv 0) rfl) (pv 1) (fun _ _ => rfl)))
    (pss_one (ps_ret (pe_tup (pac (pe_ix ix_tup (pv 2) pe_int (fun _ _ => rfl)) (pac (pe_ix ix_tup (pv 2) pe_int (fun _ _ => rfl)) (pac (pe_callTy call_list_of rfl Tx.z_list b_list (pac (pe_ix ix_tup (pv 2) pe_int (fun _ _ => rfl)) pa_nil)) pa_nil)))))))), ?_⟩
  refine ⟨_, rfl, _, rfl, n, _, dx, _, _, rfl, e1, Tx.cl_Net, Tx.na_Net_ticket_rows, e2.ft, v, T, dt, rows, rfl, kd, h1, _, rfl, ?_⟩
  rw [kn_tk h2, ev]
  exact itT (by decide) ⟨by show 1 ≤ sizeLine; decide, e⟩
def spFitsX (t : Adr) : Sp := fun vs H Q E => ∃ (n : Addr) (N : NetM) (v b : V) (T : String), vs = [.ref n, v, b] ∧ NetAt t H n N ∧ Kd H v T ∧ tkV N v = none ∧ E (.ref t.c_NoTicket) none H
theorem ok_fits_x (Tx : Tab K mg t) : FnOk P w K mg base (CXO P w) 3 t.f_fits t.d_fits ["net", "ticket", "bits"] (spFitsX t) := by
  refine Tx.F_fits.okX sc_fits (fun vs H Q E h => ?_) (fun cdv A outer s H vs Q E hr h => ?_)
  · obtain ⟨n, N, v, b, T, rfl, _⟩ := h
    rfl
  obtain ⟨n, N, v, b, T, rfl, hA, kd, ev, e⟩ := h
  have hA' := hA
  obtain ⟨ds, dr, dt, dp, hN⟩ := hA'
  obtain ⟨dx, fs, e1, e2⟩ := hN.ob
  refine ⟨_, (pss_one (ps_ret (pe_cmpR op_eq (pe_op op_and (pe_call (ok_zone_bits_g Tx) (hr.mono (by omega)) rfl Tx.m_zone_bits Tx.F_zone_bits.kp Tx.b_zone_bits .nil pass0 (pac (pe_ix ix_tup (pe_meth (pv 0) Tx.cl_Net Tx.me_Net_ticket (ok_Net_ticket_x Tx) (hr.mono (by omega)) Tx.b_Net_ticket .nil passes_fn (pac (pv 1) pa_nil)) pe_int (fun _ _ => rfl)) pa_nil)) (pv 2)) (pv 2) (nomark _)))), ?_⟩
  exact ⟨_, rfl, n, dx, _, rfl, e1, e2.n1, _, rfl, n, N, v, T, rfl, hA, kd, ev, e⟩
def spZonesOfX (t : Adr) : Sp := fun vs H Q E => ∃ (n : Addr) (N : NetM) (v b o : V) (T Tb To : String), vs = [.ref n, v, b, o] ∧ NetAt t H n N ∧ Kd H v T ∧ Kd H b Tb ∧ Kd H o To ∧
  ((tripV N v = none ∧ E (.ref t.c_NoTrip) none H) ∨ ∃ x, tripV N v = some x ∧ (numV b 0 (x.cs.length - 2) = false ∨ ∃ i : Int, b = .int i ∧ numV o (i + 1) (x.cs.length - 1) = false) ∧ ∀ H', Same H H' → E (.ref t.c_BadNumber) none H')
theorem ok_zones_of_x (Tx : Tab K mg t) : FnOk P w K mg base (CXO P w) 5 t.f_zones_of t.d_zones_of ["net", "trip", "board", "off"] (spZonesOfX t) := by
  refine Tx.F_zones_of.okX sc_zones_of (fun vs H Q E h => ?_) (fun cdv A outer s H vs Q E hr h => ?_)
  · obtain ⟨n, N, v, b, o, T, Tb, To, rfl, _⟩ := h
    rfl
  obtain ⟨n, N, v, b, o, T, Tb, To, rfl, hA, kd, kb, ko, h⟩ := h
  have hA' := hA
  obtain ⟨ds, dr, dt, dp, hN⟩ := hA'
  obtain ⟨dx, fs, e1, e2⟩ := hN.ob
  refine ⟨_, (pss_cons (ps_set (i := 4) sc_zones_of.nd rfl (Or.inl rfl) (pe_meth (pv 0) Tx.cl_Net Tx.me_Net_calls (ok_Net_calls_x Tx) (hr.mono (by omega)) Tx.b_Net_calls .nil passes_fn (pac (pv 1) pa_nil)))
    (pss_cons (ps_expr (pe_call (ok_check_number_x Tx) (hr.mono (by omega)) rfl Tx.m_check_number Tx.F_check_number.kp Tx.b_check_number .nil passes_fn (pac (pv 2) (pac pe_int (pac (pe_op op_sub (pe_callB call_len_seq rfl Tx.z_len b_len (pac (pv 4) pa_nil)) pe_int) pa_nil)))))
    (pss_cons (ps_expr (pe_call (ok_check_number_x Tx) (hr.mono (by omega)) rfl Tx.m_check_number Tx.F_check_number.kp Tx.b_check_number .nil passes_fn (pac (pv 3) (pac (pe_op op_add (pv 2) pe_int) (pac (pe_op op_sub (pe_callB call_len_seq rfl Tx.z_len b_len (pac (pv 4) pa_nil)) pe_int) pa_nil)))))
    (pss_one (ps_ret (pe_call (ok_zone_bits_g Tx) (hr.mono (by omega)) rfl Tx.m_zone_bits Tx.F_zone_bits.kp Tx.b_zone_bits .nil pass0 (pac (pe_comp (cl := [(Str.ofString "net", s.heap.objs.size + 1)]) (N := ["call", "net"]) (fr := [none, some 0]) rfl (pi_list (pe_slice sl_list (pv 4) (po_some (pv 2)) (po_some (pe_op op_add (pv 3) pe_int)))) rfl (by decide +kernel) rfl (by decide +kernel) ⟨⟨rfl, Or.inl rfl, Or.inl rfl, _, rfl, rfl⟩, trivial⟩ ⟨rfl, trivial⟩ rfl (fun _ _ _ _ _ => (pg_name (i := 0) (show List.Nodup (["call", "net"] : List Str) by decide +kernel) rfl (Or.inl rfl))) (fun _ _ _ _ _ => pts_nil) (fun _ _ _ _ _ => (pe_meth (pv 1) Tx.cl_Net Tx.me_Net_zone (ok_Net_zone Tx) (hr.mono (by omega)) Tx.b_Net_zone .nil pass0 (pac (pe_ix (show IxR _ (rIxT K) from ix_tup) (pv 0) pe_int (fun _ _ => rfl)) pa_nil)))) pa_nil))))))), ?_⟩
  refine ⟨_, rfl, n, dx, _, rfl, e1, e2.n2, _, rfl, n, N, v, T, rfl, hA, kd, fun x ex l vs H1 s1 _ hl al => ?_, fun ev => ?_⟩
  · rcases h with ⟨h0, _⟩ | ⟨x', ex', h, e⟩
    · rw [h0] at ex; cases ex
    · rw [ex] at ex'
      obtain rfl : x = x' := Option.some.inj ex'
      have lv := al.length
      refine ⟨_, rfl, _, rfl, l, _, rfl, .inl (SqL.of hl), _, _, rfl, rfl, b, Tb, 0, _, rfl, kb.same s1, fun hb => ?_, fun _ => e H1 s1⟩
      rcases h with h | ⟨i, rfl, h⟩
      · rw [show (((vs.length : Nat) : Int) - 2) = (((x.cs.length : Nat) : Int) - 2) by omega] at hb
        rw [h] at hb; cases hb
      · refine ⟨_, rfl, _, rfl, _, _, rfl, rfl, _, rfl, l, _, rfl, .inl (SqL.of hl), _, _, rfl, rfl, o, To, _, _, rfl, ko.same s1, fun ho => ?_, fun _ => e H1 s1⟩
        rw [show (((vs.length : Nat) : Int) - 1) = (((x.cs.length : Nat) : Int) - 1) by omega] at ho
        rw [h] at ho; cases ho
  · rcases h with ⟨h0, e⟩ | ⟨x', ex', _⟩
    · exact e
    · rw [ev] at ex'; cases ex'

theorem upd_tup {H : Hp} {d p : Addr} {kvs : List (Key × V)} {o : HO} {xs : List V} (hd : H d = some (.dK kvs)) (h : H p = some (.tup xs)) : upd H d o p = some (.tup xs) := by
  rw [upd_ne (ne_of h hd (by intro z; cases z))]; exact h
theorem RowIs.put {H : Hp} {d : Addr} {kvs : List (Key × V)} {o : HO} {kv : Key × V} {k : Tk} (hd : H d = some (.dK kvs)) (h : RowIs H kv k) : RowIs (upd H d o) kv k :=
  let ⟨e, r, z, e1, e2, e3⟩ := h; ⟨e, r, z, e1, upd_tup hd e2, upd_tup hd e3⟩
theorem SRow.put {H : Hp} {d : Addr} {kvs : List (Key × V)} {o : HO} {kv : Key × V} {k : Stp} (hd : H d = some (.dK kvs)) (h : SRow H kv k) : SRow (upd H d o) kv k :=
  let ⟨e, r, e1, e2⟩ := h; ⟨e, r, e1, upd_tup hd e2⟩
theorem TRow.put {H : Hp} {d : Addr} {kvs : List (Key × V)} {o : HO} {kv : Key × V} {k : Tp} (hd : H d = some (.dK kvs)) (h : TRow H kv k) : TRow (upd H d o) kv k :=
  let ⟨e, r, q, vs, e1, e2, e3, e4⟩ := h; ⟨e, r, q, vs, e1, upd_tup hd e2, upd_tup hd e3, e4.imp fun _ _ ⟨p, ep, hp⟩ => ⟨p, ep, upd_tup hd hp⟩⟩
theorem putK_new {kvs : List (Key × V)} {k : Key} {v : V} (h : valV kvs k = none) : putK kvs k v = kvs ++ [(k, v)] := by
  unfold putK
  rw [valV_any, h]
  rfl
theorem ins_put {H : Hp} {d n C dx : Addr} {fs : List (Str × V)} {kvs : List (Key × V)} {o : HO} (hd : H d = some (.dK kvs)) (h : H n = some (.ins C dx fs)) : upd H d o n = some (.ins C dx fs) := by
  rw [upd_ne (ne_of h hd (by intro z; cases z))]; exact h
theorem NetO.addSt {H : Hp} {n ds dr dt dp : Addr} {N : NetM} {rows : List (Key × V)} {x : Stp} {v : V} (h : NetO t H n ds dr dt dp N) (hr : H ds = some (.dK rows)) (al : Al (SRow H) rows N.st) (hv : valV rows (Sum.inr x.nm) = none) (hx : SRow H (Sum.inr x.nm, v) x) :
    NetO t (upd H ds (.dK (putK rows (Sum.inr x.nm) v))) n ds dr dt dp { N with st := N.st ++ [x] } := by
  obtain ⟨⟨dx, fs, e1, e2⟩, ap, _, ⟨r2, a2, b2⟩, ⟨r3, a3, b3⟩, ⟨r4, a4, b4⟩⟩ := h
  refine ⟨⟨dx, fs, ins_put hr e1, e2⟩, ap, ⟨_, upd_same, ?_⟩, ⟨r2, by rw [upd_ne ap.sr.symm]; exact a2, b2⟩, ⟨r3, by rw [upd_ne ap.st.symm]; exact a3, b3.imp fun _ _ => RowIs.put hr⟩, ⟨r4, by rw [upd_ne ap.sp.symm]; exact a4, b4.imp fun _ _ => TRow.put hr⟩⟩
  rw [putK_new hv]
  exact (al.imp fun _ _ => SRow.put hr).snoc (hx.put hr)
theorem NetO.addRu {H : Hp} {n ds dr dt dp : Addr} {N : NetM} {rows : List (Key × V)} {z : Str} {v : V} (h : NetO t H n ds dr dt dp N) (hr : H dr = some (.dK rows)) (al : Al URow rows N.ru) (hv : valV rows (Sum.inr z) = none) :
    NetO t (upd H dr (.dK (putK rows (Sum.inr z) v))) n ds dr dt dp { N with ru := N.ru ++ [z] } := by
  obtain ⟨⟨dx, fs, e1, e2⟩, ap, ⟨r1, a1, b1⟩, _, ⟨r3, a3, b3⟩, ⟨r4, a4, b4⟩⟩ := h
  refine ⟨⟨dx, fs, ins_put hr e1, e2⟩, ap, ⟨r1, by rw [upd_ne ap.sr]; exact a1, b1.imp fun _ _ => SRow.put hr⟩, ⟨_, upd_same, ?_⟩, ⟨r3, by rw [upd_ne ap.rt.symm]; exact a3, b3.imp fun _ _ => RowIs.put hr⟩, ⟨r4, by rw [upd_ne ap.rp.symm]; exact a4, b4.imp fun _ _ => TRow.put hr⟩⟩
  rw [putK_new hv]
  exact al.snoc rfl
theorem NetO.addTk {H : Hp} {n ds dr dt dp : Addr} {N : NetM} {rows : List (Key × V)} {x : Tk} {v : V} (h : NetO t H n ds dr dt dp N) (hr : H dt = some (.dK rows)) (al : Al (RowIs H) rows N.tk) (hv : valV rows (Sum.inr x.nm) = none) (hx : RowIs H (Sum.inr x.nm, v) x) :
    NetO t (upd H dt (.dK (putK rows (Sum.inr x.nm) v))) n ds dr dt dp { N with tk := N.tk ++ [x] } := by
  obtain ⟨⟨dx, fs, e1, e2⟩, ap, ⟨r1, a1, b1⟩, ⟨r2, a2, b2⟩, _, ⟨r4, a4, b4⟩⟩ := h
  refine ⟨⟨dx, fs, ins_put hr e1, e2⟩, ap, ⟨r1, by rw [upd_ne ap.st]; exact a1, b1.imp fun _ _ => SRow.put hr⟩, ⟨r2, by rw [upd_ne ap.rt]; exact a2, b2⟩, ⟨_, upd_same, ?_⟩, ⟨r4, by rw [upd_ne ap.tp.symm]; exact a4, b4.imp fun _ _ => TRow.put hr⟩⟩
  rw [putK_new hv]
  exact (al.imp fun _ _ => RowIs.put hr).snoc (hx.put hr)
theorem NetO.addTp {H : Hp} {n ds dr dt dp : Addr} {N : NetM} {rows : List (Key × V)} {x : Tp} {v : V} (h : NetO t H n ds dr dt dp N) (hr : H dp = some (.dK rows)) (al : Al (TRow H) rows N.tp) (hv : valV rows (Sum.inr x.nm) = none) (hx : TRow H (Sum.inr x.nm, v) x) :
    NetO t (upd H dp (.dK (putK rows (Sum.inr x.nm) v))) n ds dr dt dp { N with tp := N.tp ++ [x] } := by
  obtain ⟨⟨dx, fs, e1, e2⟩, ap, ⟨r1, a1, b1⟩, ⟨r2, a2, b2⟩, ⟨r3, a3, b3⟩, _⟩ := h
  refine ⟨⟨dx, fs, ins_put hr e1, e2⟩, ap, ⟨r1, by rw [upd_ne ap.sp]; exact a1, b1.imp fun _ _ => SRow.put hr⟩, ⟨r2, by rw [upd_ne ap.rp]; exact a2, b2⟩, ⟨r3, by rw [upd_ne ap.tp]; exact a3, b3.imp fun _ _ => RowIs.put hr⟩, ⟨_, upd_same, ?_⟩⟩
  rw [putK_new hv]
  exact (al.imp fun _ _ => TRow.put hr).snoc (hx.put hr)
def spAddStop (t : Adr) : Sp := fun vs H Q _ => ∃ (n ds dr dt dp : Addr) (N : NetM) (x : Stp) (H0 : Hp), vs = [.ref n, .str x.nm, .int (x.z : Nat), .int (x.ch : Nat)] ∧ NetO t H n ds dr dt dp N ∧ NetNew H0 ds dr dt dp ∧ Same H0 H ∧ NameOk x.nm ∧ 1 ≤ x.z ∧ x.z ≤ 6 ∧ x.ch ≤ 30 ∧ fnd Stp.nm N.st x.nm = none ∧ N.st.length < 8 ∧
  ∀ H', Same H0 H' → NetO t H' n ds dr dt dp { N with st := N.st ++ [x] } → Q .non H'
theorem ok_Net_add_stop (Tx : Tab K mg t) : FnOk P w K mg base CX0 4 t.f_Net_add_stop t.d_Net_add_stop ["self", "name", "zone", "change"] (spAddStop t) := by
  refine Tx.F_Net_add_stop.ok sc_Net_add_stop (fun vs H Q E h => ?_) (fun cdv A outer s H vs Q E hr h => ?_)
  · obtain ⟨n, ds, dr, dt, dp, N, x, H0, rfl, _⟩ := h
    rfl
  obtain ⟨n, ds, dr, dt, dp, N, x, H0, rfl, hN, hW, s0, okn, z1, z6, c30, hf, hlen, q⟩ := h
  obtain ⟨dx, fs, e1, e2⟩ := hN.ob
  obtain ⟨rows, h1, h2⟩ := hN.st
  have hv := (fnd_rows (fun kv x (h : SRow H kv x) => h.1) h2 x.nm).1 hf
  have hrl : rows.length < 8 := by rw [h2.length]; exact hlen
  refine ⟨_, (pss_cons (ps_expr (pe_call (ok_check_new Tx) (hr.mono (by omega)) rfl Tx.m_check_new Tx.F_check_new.kp Tx.b_check_new .nil pass0 (pac (pv 1) (pac (pe_fld (pv 0) rfl) pa_nil))))
    (pss_cons (ps_expr (pe_call (ok_check_number Tx) (hr.mono (by omega)) rfl Tx.m_check_number Tx.F_check_number.kp Tx.b_check_number .nil pass0 (pac (pv 2) (pac pe_int (pac (pe_gintE rfl Tx.m_LAST_ZONE) pa_nil)))))
    (pss_cons (ps_expr (pe_call (ok_check_number Tx) (hr.mono (by omega)) rfl Tx.m_check_number Tx.F_check_number.kp Tx.b_check_number .nil pass0 (pac (pv 3) (pac pe_int (pac (pe_gintE rfl Tx.m_MOST_CHANGE) pa_nil)))))
    (pss_cons (ps_expr (pe_call (ok_check_room Tx) (hr.mono (by omega)) rfl Tx.m_check_room Tx.F_check_room.kp Tx.b_check_room .nil pass0 (pac (pe_fld (pv 0) rfl) (pac (pe_gintE rfl Tx.m_MOST_STOPS) pa_nil))))
    (pss_one (ps_dput (hu_of hr) (pe_fld (pv 0) rfl) (pv 1) (pe_tup (pac (pv 2) (pac (pv 3) pa_nil))) rfl)))))), ?_⟩
  refine ⟨_, rfl, _, rfl, n, _, dx, _, _, rfl, e1, Tx.cl_Net, Tx.na_Net_stop_rows, e2.fs1, x.nm, ds, rows, rfl, h1, okn, hv, fun H1 s1 => ?_⟩
  refine ⟨_, rfl, x.z, 1, 6, rfl, by omega, by omega, ?_⟩
  refine ⟨_, rfl, x.ch, 0, 30, rfl, by omega, by omega, ?_⟩
  refine ⟨_, rfl, n, _, dx, _, _, rfl, s1 _ _ e1, Tx.cl_Net, Tx.na_Net_stop_rows, e2.fs1, ds, rows, 8, rfl, s1 _ _ h1, by omega, ?_⟩
  refine ⟨_, rfl, _, rfl, by show 2 ≤ sizeLine; decide, fun r hr' => ?_⟩
  have s3 := same_new hr' (.tup [.int (x.z : Nat), .int (x.ch : Nat)])
  have S3 := s1.trans s3
  refine ⟨_, rfl, n, _, dx, _, _, rfl, S3 _ _ e1, Tx.cl_Net, Tx.na_Net_stop_rows, e2.fs1, _, rfl, ds, _, rfl, DPut.k (k := Sum.inr x.nm) (S3 _ _ h1) (Nat.lt_trans hrl (by decide)), ?_⟩
  exact q _ (same_put (s0.trans S3) hW.1 _) ((hN.same S3).addSt (S3 _ _ h1) (h2.imp fun _ _ => SRow.same S3) hv ⟨rfl, r, rfl, upd_same⟩)
def RuAt (t : Adr) (H : Hp) (v : V) : Prop := ∃ p dx, v = .ref p ∧ H p = some (.ins t.c_Rule dx [])
def spCopied (t : Adr) : Sp := fun vs H Q _ => ∃ (v : V), vs = [v] ∧ RuAt t H v ∧ ∀ v' H', Same H H' → RuAt t H' v' → Q v' H'
theorem ok_Rule_copied (Tx : Tab K mg t) : FnOk P w K mg base CX0 1 t.f_Rule_copied t.d_Rule_copied ["self"] (spCopied t) := by
  refine Tx.F_Rule_copied.ok sc_Rule_copied (fun vs H Q E h => ?_) (fun cdv A outer s H vs Q E hr h => ?_)
  · obtain ⟨v, rfl, _⟩ := h
    rfl
  obtain ⟨v, rfl, h, q⟩ := h
  refine ⟨_, (pss_one (ps_ret (pe_makeN Tx.mkn_Rule rfl Tx.m_Rule))), ?_⟩
  intro x dx nx ndx nex
  exact q _ _ (same_put (same_new ndx _) nx _) ⟨x, dx, rfl, upd_same⟩
theorem ok_copy_of (Tx : Tab K mg t) : FnOk P w K mg base CX0 2 t.f_copy_of t.d_copy_of ["rule"] (spCopied t) := by
  refine Tx.F_copy_of.ok sc_copy_of (fun vs H Q E h => ?_) (fun cdv A outer s H vs Q E hr h => ?_)
  · obtain ⟨v, rfl, _⟩ := h
    rfl
  obtain ⟨v, rfl, ⟨p, dx, rfl, hp⟩, q⟩ := h
  refine ⟨_, (pss_cons (ps_if (pt_not (pt_val (pe_callB call_isi_own rfl Tx.z_isinstance b_isinstance (pac (pv 0) (pac (pe_gref rfl Tx.m_Rule) pa_nil)))))
    (pss_one ps_never)
    pss_nil)
    (pss_one (ps_ret (pe_meth0 (pv 0) Tx.cl_Rule Tx.me_Rule_copied (ok_Rule_copied Tx) (hr.mono (by omega)) Tx.b_Rule_copied .nil pass0)))), ?_⟩
  refine ⟨_, rfl, .ref p, t.c_Rule, _, _, rfl, Tx.ow_Rule.ty Tx.cl_Rule hp, Tx.ki_Rule_Rule, _, rfl, itF (by decide) ?_⟩
  exact ⟨_, rfl, p, dx, _, rfl, hp, rfl, _, rfl, ⟨p, dx, rfl, hp⟩, q⟩
def spAddRule (t : Adr) : Sp := fun vs H Q _ => ∃ (n ds dr dt dp : Addr) (N : NetM) (z : Str) (v : V) (H0 : Hp), vs = [.ref n, .str z, v] ∧ NetO t H n ds dr dt dp N ∧ NetNew H0 ds dr dt dp ∧ Same H0 H ∧ NameOk z ∧ RuAt t H v ∧ N.ru = [] ∧
  ∀ H', Same H0 H' → NetO t H' n ds dr dt dp { N with ru := [z] } → Q .non H'
theorem ok_Net_add_rule (Tx : Tab K mg t) : FnOk P w K mg base CX0 4 t.f_Net_add_rule t.d_Net_add_rule ["self", "name", "rule"] (spAddRule t) := by
  refine Tx.F_Net_add_rule.ok sc_Net_add_rule (fun vs H Q E h => ?_) (fun cdv A outer s H vs Q E hr h => ?_)
  · obtain ⟨n, ds, dr, dt, dp, N, z, v, H0, rfl, _⟩ := h
    rfl
  obtain ⟨n, ds, dr, dt, dp, N, z, v, H0, rfl, hN, hW, s0, okn, hru, eru, q⟩ := h
  obtain ⟨dx, fs, e1, e2⟩ := hN.ob
  obtain ⟨rows, h1, h2⟩ := hN.ru
  obtain rfl : rows = [] := h2.nil_iff.mpr eru
  refine ⟨_, (pss_cons (ps_expr (pe_call (ok_check_new Tx) (hr.mono (by omega)) rfl Tx.m_check_new Tx.F_check_new.kp Tx.b_check_new .nil pass0 (pac (pv 1) (pac (pe_fld (pv 0) rfl) pa_nil))))
    (pss_cons (ps_set (i := 3) sc_Net_add_rule.nd rfl (Or.inl rfl) (pe_call (ok_copy_of Tx) (hr.mono (by omega)) rfl Tx.m_copy_of Tx.F_copy_of.kp Tx.b_copy_of .nil pass0 (pac (pv 2) pa_nil)))
    (pss_cons (ps_expr (pe_call (ok_check_room Tx) (hr.mono (by omega)) rfl Tx.m_check_room Tx.F_check_room.kp Tx.b_check_room .nil pass0 (pac (pe_fld (pv 0) rfl) (pac (pe_gintE rfl Tx.m_MOST_RULES) pa_nil))))
    (pss_one (ps_dput (hu_of hr) (pe_fld (pv 0) rfl) (pv 1) (pv 3) rfl))))), ?_⟩
  refine ⟨_, rfl, _, rfl, n, _, dx, _, _, rfl, e1, Tx.cl_Net, Tx.na_Net_rule_rows, e2.fr, z, dr, [], rfl, h1, okn, rfl, fun H1 s1 => ?_⟩
  obtain ⟨pv0, dxv, rfl, hv0⟩ := hru
  refine ⟨_, rfl, .ref pv0, rfl, ⟨pv0, dxv, rfl, s1 _ _ hv0⟩, fun v' H2 s2 _ => ?_⟩
  have S2 := s1.trans s2
  refine ⟨_, rfl, n, _, dx, _, _, rfl, S2 _ _ e1, Tx.cl_Net, Tx.na_Net_rule_rows, e2.fr, dr, [], 6, rfl, S2 _ _ h1, by decide, ?_⟩
  refine ⟨_, rfl, _, rfl, n, _, dx, _, _, rfl, S2 _ _ e1, Tx.cl_Net, Tx.na_Net_rule_rows, e2.fr, _, rfl, dr, _, rfl, DPut.k (k := Sum.inr z) (S2 _ _ h1) (by decide), ?_⟩
  have := (hN.same S2).addRu (S2 _ _ h1) h2 (z := z) (v := v') rfl
  rw [eru] at this
  exact q _ (same_put (s0.trans S2) hW.2.1 _) this
def spAddTk (t : Adr) : Sp := fun vs H Q _ => ∃ (n ds dr dt dp : Addr) (N : NetM) (k : Tk) (zl : Addr) (H0 : Hp), vs = [.ref n, .str k.nm, .int (k.pr : Nat), .int (k.la : Nat), .ref zl] ∧ NetO t H n ds dr dt dp N ∧ NetNew H0 ds dr dt dp ∧ Same H0 H ∧ H zl = some (.lst (natV (zonesOf k.b))) ∧ k.Ok ∧ fnd Tk.nm N.tk k.nm = none ∧ N.tk.length < 3 ∧
  ∀ H', Same H0 H' → NetO t H' n ds dr dt dp { N with tk := N.tk ++ [k] } → Q .non H'
theorem ok_Net_add_ticket (Tx : Tab K mg t) : FnOk P w K mg base CX0 4 t.f_Net_add_ticket t.d_Net_add_ticket ["self", "name", "price", "lasts", "zones"] (spAddTk t) := by
  refine Tx.F_Net_add_ticket.ok sc_Net_add_ticket (fun vs H Q E h => ?_) (fun cdv A outer s H vs Q E hr h => ?_)
  · obtain ⟨n, ds, dr, dt, dp, N, k, zl, H0, rfl, _⟩ := h
    rfl
  obtain ⟨n, ds, dr, dt, dp, N, k, zl, H0, rfl, hN, hW, s0, hz, ok, hf, hlen, q⟩ := h
  obtain ⟨dx, fs, e1, e2⟩ := hN.ob
  obtain ⟨rows, h1, h2⟩ := hN.tk
  have hv := (fnd_rows (fun kv x (h : RowIs H kv x) => h.1) h2 k.nm).1 hf
  have hrl : rows.length < 3 := by rw [h2.length]; exact hlen
  refine ⟨_, (pss_cons (ps_expr (pe_call (ok_check_new Tx) (hr.mono (by omega)) rfl Tx.m_check_new Tx.F_check_new.kp Tx.b_check_new .nil pass0 (pac (pv 1) (pac (pe_fld (pv 0) rfl) pa_nil))))
    (pss_cons (ps_expr (pe_call (ok_check_number Tx) (hr.mono (by omega)) rfl Tx.m_check_number Tx.F_check_number.kp Tx.b_check_number .nil pass0 (pac (pv 2) (pac pe_int (pac (pe_gintE rfl Tx.m_MOST_PRICE) pa_nil)))))
    (pss_cons (ps_expr (pe_call (ok_check_number Tx) (hr.mono (by omega)) rfl Tx.m_check_number Tx.F_check_number.kp Tx.b_check_number .nil pass0 (pac (pv 3) (pac pe_int (pac (pe_gintE rfl Tx.m_MOST_LASTING) pa_nil)))))
    (pss_cons (ps_if (pt_not (pt_val (pe_call (ok_are_rising Tx) (hr.mono (by omega)) rfl Tx.m_are_rising Tx.F_are_rising.kp Tx.b_are_rising .nil pass0 (pac (pv 4) (pac (pe_gintE rfl Tx.m_LAST_ZONE) (pac pe_int (pac (pe_gintE rfl Tx.m_LAST_ZONE) pa_nil)))))))
    (pss_one ps_never)
    pss_nil)
    (pss_cons (ps_expr (pe_call (ok_check_room Tx) (hr.mono (by omega)) rfl Tx.m_check_room Tx.F_check_room.kp Tx.b_check_room .nil pass0 (pac (pe_fld (pv 0) rfl) (pac (pe_gintE rfl Tx.m_MOST_TICKETS) pa_nil))))
    (pss_one (ps_dput (hu_of hr) (pe_fld (pv 0) rfl) (pv 1) (pe_tup (pac (pv 2) (pac (pv 3) (pac (pe_callTy call_tuple_of rfl Tx.z_tuple b_tuple (pac (pv 4) pa_nil)) pa_nil)))) rfl))))))), ?_⟩
  refine ⟨_, rfl, _, rfl, n, _, dx, _, _, rfl, e1, Tx.cl_Net, Tx.na_Net_ticket_rows, e2.ft, k.nm, dt, rows, rfl, h1, ok.nm, hv, fun H1 s1 => ?_⟩
  refine ⟨_, rfl, k.pr, 0, 10000, rfl, by omega, by have := ok.pr; omega, ?_⟩
  refine ⟨_, rfl, k.la, 1, 1440, rfl, by have := ok.la1; omega, by have := ok.la; omega, ?_⟩
  refine ⟨_, rfl, zl, zonesOf k.b, 6, 1, 6, rfl, s1 _ _ hz, zones_one k.b ok.b ok.b1, zones_len k.b, zones_up k.b, fun x hx => ⟨(zones_rng k.b x hx).1, by have := (zones_rng k.b x hx).2; omega⟩, _, rfl, itF (by decide) ?_⟩
  refine ⟨_, rfl, n, _, dx, _, _, rfl, s1 _ _ e1, Tx.cl_Net, Tx.na_Net_ticket_rows, e2.ft, dt, rows, 3, rfl, s1 _ _ h1, by omega, ?_⟩
  refine ⟨_, rfl, _, rfl, _, rfl, zl, _, rfl, .inl ⟨SqL.of (s1 _ _ hz), fun p hp => ?_⟩⟩
  have s2 := same_new hp (.tup (natV (zonesOf k.b)))
  refine ⟨by show 3 ≤ sizeLine; decide, fun r hr' => ?_⟩
  have s3 := same_new hr' (.tup [.int (k.pr : Nat), .int (k.la : Nat), .ref p])
  have S3 := (s1.trans s2).trans s3
  refine ⟨_, rfl, n, _, dx, _, _, rfl, S3 _ _ e1, Tx.cl_Net, Tx.na_Net_ticket_rows, e2.ft, _, rfl, dt, _, rfl, DPut.k (k := Sum.inr k.nm) (S3 _ _ h1) (Nat.lt_trans hrl (by decide)), ?_⟩
  exact q _ (same_put (s0.trans S3) hW.2.2.1 _) ((hN.same S3).addTk (S3 _ _ h1) (h2.imp fun _ _ => RowIs.same S3) hv ⟨rfl, r, p, rfl, upd_same, s3 _ _ upd_same⟩)
structure ClsOk (N : NetM) (cs : List Cl) : Prop where
  two : 2 ≤ cs.length
  six : cs.length ≤ 6
  st : ∀ c ∈ cs, (fnd Stp.nm N.st c.st).isSome = true
  rng : ∀ c ∈ cs, c.ar ≤ c.lv ∧ c.lv ≤ 2879
  fol : ∀ i a b, cs[i]? = some a → cs[i + 1]? = some b → b.st ≠ a.st ∧ a.lv < b.ar
def spForm (K : W.Frag) : Sp := fun vs H Q _ => ∃ (l : Addr) (vs' : List V) (cs : List Cl), vs = [.ref l] ∧ H l = some (.lst vs') ∧ Al (ClAt H) vs' cs ∧ 2 ≤ cs.length ∧ cs.length ≤ 6 ∧ ∀ H', Same H H' → Q (.bl true) H'
theorem ok_have_calls_form (Tx : Tab K mg t) : FnOk P w K mg base CX0 1 t.f_have_calls_form t.d_have_calls_form ["calls"] (spForm K) := by
  refine Tx.F_have_calls_form.ok sc_have_calls_form (fun vs H Q E h => ?_) (fun cdv A outer s H vs Q E hr h => ?_)
  · obtain ⟨l, vs', cs, rfl, _⟩ := h
    rfl
  obtain ⟨l, vs', cs, rfl, hl, al, c2, c6, q⟩ := h
  have lv := al.length
  refine ⟨_, (pss_cons (ps_if (PW.pt (pw_or (pt_not (pt_val (pe_callB call_isi_ty rfl Tx.z_isinstance b_isinstance (pac (pv 0) (pac (pe_gty rfl Tx.z_list b_list) pa_nil))))) (pw_or1 (pt_not (pt_chain op_le op_le (pe_gintE rfl Tx.m_LEAST_CALLS) (pe_callB call_len_seq rfl Tx.z_len b_len (pac (pv 0) pa_nil)) (pe_gintE rfl Tx.m_MOST_CALLS))))))
    (pss_one (ps_ret pe_bl))
    pss_nil)
    (pss_one (ps_ret (pe_callB (call_all_list rfl) rfl Tx.z_all b_all (pac (pe_comp (cl := []) (N := ["call"]) (fr := [none]) rfl (pi_list (pv 0)) rfl (by decide +kernel) rfl (by decide +kernel) trivial trivial rfl (fun _ _ _ _ _ => (pg_name (i := 0) (show List.Nodup (["call"] : List Str) by decide +kernel) rfl (Or.inl rfl))) (fun _ _ _ _ _ => pts_nil) (fun _ _ _ _ _ => (pe_and (pe_callB (show CallR _ (.builtin "isinstance") (fun xs H Q => ∃ x T t b, xs = [x, V.ty T] ∧ TyOf K H x t ∧ W.kitOne K t (Value.type T) = some b ∧ Q (V.bl b) H) from call_isi_ty) rfl Tx.z_isinstance b_isinstance (pac (pv 0) (pac (pe_gty rfl Tx.z_tuple b_tuple) pa_nil))) (pe_one (pe_cmpR op_eq (pe_callB (show CallR _ (.builtin "len") (fun xs H Q => ∃ p ys, xs = [V.ref p] ∧ (SqL K H p ys ∨ SqT K H p ys) ∧ Q (V.int ↑ys.length) H) from call_len_seq) rfl Tx.z_len b_len (pac (pv 0) pa_nil)) pe_int (nomark _)))))) pa_nil))))), ?_⟩
  refine ⟨_, rfl, .ref l, "list", _, _, rfl, .lst hl, rfl, _, rfl, itF (by decide) ?_⟩
  refine ⟨_, rfl, l, _, rfl, .inl (SqL.of hl), _, _, rfl, rfl, _, rfl, itT (decide_eq_true (by omega)) ?_⟩
  refine ⟨_, _, rfl, rfl, _, rfl, itF (by rw [decide_eq_true (show ((vs'.length : Nat) : Int) ≤ 6 by omega)]; decide) ?_⟩
  refine ⟨_, rfl, l, rfl, ⟨_, SqL.of hl⟩, comp_list (K := K) (a := l) (xs := vs') (fun i acc σ H' => H' = H ∧ acc = (List.replicate i true).map V.bl ∧ ∃ v, σ = [v]) ⟨rfl, rfl, _, rfl⟩ (Nat.le_trans (show _ ≤ 6 by omega) (by decide)) (fun i acc σ H' _ ⟨e, _⟩ => by rw [e]; exact SqL.of hl) ?_ ?_⟩
  · rintro i y acc σ H' hi hy ⟨rfl, rfl, v, rfl⟩
    obtain ⟨c, ec, p, rfl, hp⟩ := al.get hy
    dsimp only [gName, tTrue]
    rw [if_pos rfl]
    refine ⟨_, rfl, .ref p, "tuple", _, _, rfl, .tup hp, rfl, _, rfl, itT (by decide) ⟨_, rfl, p, _, rfl, .inr (SqT.of hp), rfl, ?_⟩⟩
    refine ⟨by rw [List.length_append, List.length_singleton]; omega, rfl, ?_, _, rfl⟩
    rw [List.replicate_succ', List.map_append]
    rfl
  · rintro acc σ H' ha ⟨rfl, rfl, v, rfl⟩ p hp
    refine ⟨p, List.replicate vs'.length true, rfl, SqL.of upd_same, ?_⟩
    have q2 := q _ (same_new hp (.lst ((List.replicate vs'.length true).map V.bl)))
    rw [show (List.replicate vs'.length true).all id = true by rw [List.all_eq_true]; intro x hx; rw [(List.mem_replicate.mp hx).2]; rfl]
    exact q2

def spFollow : Sp := fun vs H Q _ => ∃ (v u : V) (c a : Cl), vs = [v, u] ∧ ClAt H v c ∧ ClAt H u a ∧ c.st ≠ a.st ∧ a.lv < c.ar ∧ Q (.bl true) H
theorem ok_can_follow (Tx : Tab K mg t) : FnOk P w K mg base CX0 1 t.f_can_follow t.d_can_follow ["call", "ahead"] spFollow := by
  refine Tx.F_can_follow.ok sc_can_follow (fun vs H Q E h => ?_) (fun cdv A outer s H vs Q E hr h => ?_)
  · obtain ⟨v, u, c, a, rfl, _⟩ := h
    rfl
  obtain ⟨v, u, c, a, rfl, ⟨p, rfl, hp⟩, ⟨r, rfl, hr'⟩, h1, h2, q⟩ := h
  refine ⟨_, (pss_one (ps_ret (pe_and (pe_cmpR op_ne (pe_ix ix_tup (pv 0) pe_int (fun _ _ => rfl)) (pe_ix ix_tup (pv 1) pe_int (fun _ _ => rfl)) (nomark _)) (pe_one (pe_cmpR op_gt (pe_ix ix_tup (pv 0) pe_int (fun _ _ => rfl)) (pe_ix ix_tup (pv 1) pe_int (fun _ _ => rfl)) (nomark _)))))), ?_⟩
  refine ⟨_, rfl, p, _, 0, _, rfl, rfl, SqT.of hp, rfl, _, rfl, r, _, 0, _, rfl, rfl, SqT.of hr', rfl, rfl, _, rfl, itT (by show (!decide (V.str c.st = V.str a.st)) = true; simpa using h1) ?_⟩
  refine ⟨_, rfl, p, _, 1, _, rfl, rfl, SqT.of hp, rfl, _, rfl, r, _, 2, _, rfl, rfl, SqT.of hr', rfl, _, _, rfl, rfl, ?_⟩
  show Q (.bl (decide (((a.lv : Nat) : Int) < ((c.ar : Nat) : Int)))) H
  rw [decide_eq_true (show ((a.lv : Nat) : Int) < ((c.ar : Nat) : Int) by omega)]
  exact q
def spCheckCall (t : Adr) : Sp := fun vs H Q _ => ∃ (n : Addr) (N : NetM) (v : V) (c : Cl), vs = [.ref n, v] ∧ NetAt t H n N ∧ ClAt H v c ∧ (fnd Stp.nm N.st c.st).isSome = true ∧ c.ar ≤ c.lv ∧ c.lv ≤ 2879 ∧ Q .non H
theorem ok_Net_check_call (Tx : Tab K mg t) : FnOk P w K mg base CX0 4 t.f_Net_check_call t.d_Net_check_call ["self", "call"] (spCheckCall t) := by
  refine Tx.F_Net_check_call.ok sc_Net_check_call (fun vs H Q E h => ?_) (fun cdv A outer s H vs Q E hr h => ?_)
  · obtain ⟨n, N, v, c, rfl, _⟩ := h
    rfl
  obtain ⟨n, N, v, c, rfl, hA, ⟨p, rfl, hp⟩, hs, h1, h2, q⟩ := h
  have hA' := hA
  obtain ⟨ds, dr, dt, dp, hN⟩ := hA'
  obtain ⟨dx, fs, e1, e2⟩ := hN.ob
  refine ⟨_, (pss_cons (ps_expr (pe_meth (pv 0) Tx.cl_Net Tx.me_Net_check_stop (ok_Net_check_stop Tx) (hr.mono (by omega)) Tx.b_Net_check_stop .nil pass0 (pac (pe_ix ix_tup (pv 1) pe_int (fun _ _ => rfl)) pa_nil)))
    (pss_cons (ps_expr (pe_call (ok_check_number Tx) (hr.mono (by omega)) rfl Tx.m_check_number Tx.F_check_number.kp Tx.b_check_number .nil pass0 (pac (pe_ix ix_tup (pv 1) pe_int (fun _ _ => rfl)) (pac pe_int (pac (pe_gintE rfl Tx.m_LAST_MINUTE) pa_nil)))))
    (pss_cons (ps_expr (pe_call (ok_check_number Tx) (hr.mono (by omega)) rfl Tx.m_check_number Tx.F_check_number.kp Tx.b_check_number .nil pass0 (pac (pe_ix ix_tup (pv 1) pe_int (fun _ _ => rfl)) (pac pe_int (pac (pe_gintE rfl Tx.m_LAST_MINUTE) pa_nil)))))
    (pss_one (ps_if (pt_cmpR op_lt (pe_ix ix_tup (pv 1) pe_int (fun _ _ => rfl)) (pe_ix ix_tup (pv 1) pe_int (fun _ _ => rfl)) (nomark _))
    (pss_one ps_never)
    pss_nil))))), ?_⟩
  refine ⟨_, rfl, n, dx, _, rfl, e1, e2.n4, _, rfl, p, _, 0, _, rfl, rfl, SqT.of hp, rfl, n, N, c.st, rfl, hA, hs, ?_⟩
  refine ⟨_, rfl, p, _, 1, _, rfl, rfl, SqT.of hp, rfl, c.ar, 0, 2879, rfl, by omega, by omega, ?_⟩
  refine ⟨_, rfl, p, _, 2, _, rfl, rfl, SqT.of hp, rfl, c.lv, 0, 2879, rfl, by omega, by omega, ?_⟩
  exact ⟨_, rfl, p, _, 2, _, rfl, rfl, SqT.of hp, rfl, _, rfl, p, _, 1, _, rfl, rfl, SqT.of hp, rfl, _, _, rfl, rfl, _, rfl, itF (by rw [decide_eq_false (by omega)]; decide) q⟩
def spAddTrip (t : Adr) (K : W.Frag) : Sp := fun vs H Q _ => ∃ (n ds dr dt dp : Addr) (N : NetM) (x : Tp) (l : Addr) (vs' : List V) (H0 : Hp), vs = [.ref n, .str x.nm, .str x.ru, .ref l] ∧ NetO t H n ds dr dt dp N ∧ NetNew H0 ds dr dt dp ∧ Same H0 H ∧ H l = some (.lst vs') ∧ Al (ClAt H) vs' x.cs ∧ ClsOk N x.cs ∧ NameOk x.nm ∧ x.ru ∈ N.ru ∧ fnd Tp.nm N.tp x.nm = none ∧ N.tp.length < 10 ∧
  ∀ H', Same H0 H' → Same (wo H dp) H' → NetO t H' n ds dr dt dp { N with tp := N.tp ++ [x] } → Q .non H'
theorem ru_val {rows : List (Key × V)} {ru : List Str} (h : Al URow rows ru) {z : Str} (hz : z ∈ ru) : ∃ v, valV rows (Sum.inr z) = some v := by
  cases e : fnd (fun z : Str => z) ru z with
  | some x => obtain ⟨kv, ev, _⟩ := (fnd_rows (nm := fun z : Str => z) (fun kv x (h : URow kv x) => h) h z).2 x e; exact ⟨_, ev⟩
  | none =>
    unfold fnd at e
    rw [List.find?_eq_none] at e
    exact absurd (decide_eq_true rfl) (e z hz)
theorem ok_Net_add_trip (Tx : Tab K mg t) : FnOk P w K mg base CX0 6 t.f_Net_add_trip t.d_Net_add_trip ["self", "name", "rule", "calls"] (spAddTrip t K) := by
  refine Tx.F_Net_add_trip.ok sc_Net_add_trip (fun vs H Q E h => ?_) (fun cdv A outer s H vs Q E hr h => ?_)
  · obtain ⟨n, ds, dr, dt, dp, N, x, l, vs', H0, rfl, _⟩ := h
    rfl
  obtain ⟨n, ds, dr, dt, dp, N, x, l, vs', H0, rfl, hN, hW, s0, hl, al, ok, okn, hru, hf, hlen, q⟩ := h
  obtain ⟨dx, fs, e1, e2⟩ := hN.ob
  obtain ⟨rows, h1, h2⟩ := hN.tp
  obtain ⟨rrows, hr1, hr2⟩ := hN.ru
  obtain ⟨rv, erv⟩ := ru_val hr2 hru
  have hv := (fnd_rows (fun kv x (h : TRow H kv x) => h.1) h2 x.nm).1 hf
  have hrl : rows.length < 10 := by rw [h2.length]; exact hlen
  have lv := al.length
  have lv6 : vs'.length ≤ sizeLine := Nat.le_trans (show vs'.length ≤ 6 by have := ok.six; omega) (by decide)
  refine ⟨_, (pss_cons (ps_expr (pe_call (ok_check_new Tx) (hr.mono (by omega)) rfl Tx.m_check_new Tx.F_check_new.kp Tx.b_check_new .nil pass0 (pac (pv 1) (pac (pe_fld (pv 0) rfl) pa_nil))))
    (pss_cons (ps_if (pt_not (pt_val (pe_call (ok_is_known Tx) (hr.mono (by omega)) rfl Tx.m_is_known Tx.F_is_known.kp Tx.b_is_known .nil pass0 (pac (pv 2) (pac (pe_fld (pv 0) rfl) pa_nil)))))
    (pss_one ps_never)
    pss_nil)
    (pss_cons (ps_if (pt_not (pt_val (pe_call (ok_have_calls_form Tx) (hr.mono (by omega)) rfl Tx.m_have_calls_form Tx.F_have_calls_form.kp Tx.b_have_calls_form .nil pass0 (pac (pv 3) pa_nil))))
    (pss_one ps_never)
    pss_nil)
    (pss_cons (ps_for PassesOwn.never rfl (pi_enum rfl Tx.z_enumerate (pac (pv 3) pa_nil)) (pg_tup rfl (pgs_cons (pg_name (i := 4) sc_Net_add_trip.nd rfl (Or.inl rfl)) (pgs_cons (pg_name (i := 5) sc_Net_add_trip.nd rfl (Or.inl rfl)) pgs_nil)))
    (pss_cons (ps_expr (pe_meth (pv 0) Tx.cl_Net Tx.me_Net_check_call (ok_Net_check_call Tx) (hr.mono (by omega)) Tx.b_Net_check_call .nil pass0 (pac (pv 5) pa_nil)))
    (pss_one (ps_if (PW.pt (pw_and (pt_cmpR op_gt (pv 4) pe_int (nomark _)) (pw_and1 (pt_not (pt_val (pe_call (ok_can_follow Tx) (hr.mono (by omega)) rfl Tx.m_can_follow Tx.F_can_follow.kp Tx.b_can_follow .nil pass0 (pac (pv 5) (pac (pe_ix ix_list (pv 3) (pe_op op_sub (pv 4) pe_int) (fun _ _ => rfl)) pa_nil))))))))
    (pss_one ps_never)
    pss_nil))))
    (pss_cons (ps_expr (pe_call (ok_check_room Tx) (hr.mono (by omega)) rfl Tx.m_check_room Tx.F_check_room.kp Tx.b_check_room .nil pass0 (pac (pe_fld (pv 0) rfl) (pac (pe_gintE rfl Tx.m_MOST_TRIPS) pa_nil))))
    (pss_one (ps_dput (hu_of hr) (pe_fld (pv 0) rfl) (pv 1) (pe_tup (pac (pv 2) (pac (pe_callTy call_tuple_of rfl Tx.z_tuple b_tuple (pac (pe_comp (cl := []) (N := ["call"]) (fr := [none]) rfl (pi_list (pv 3)) rfl (by decide +kernel) rfl (by decide +kernel) trivial trivial rfl (fun _ _ _ _ _ => (pg_name (i := 0) (show List.Nodup (["call"] : List Str) by decide +kernel) rfl (Or.inl rfl))) (fun _ _ _ _ _ => pts_nil) (fun _ _ _ _ _ => (pe_callTy (show CallR _ (.type "tuple") (fun xs H Q => ∃ p ys, xs = [.ref p] ∧ ((SqL K H p ys ∧ ∀ l, H l = none → Q (.ref l) (upd H l (.tup ys))) ∨ (SqT K H p ys ∧ Q (.ref p) H))) from call_tuple_of) rfl Tx.z_tuple b_tuple (pac (pv 0) pa_nil)))) pa_nil)) pa_nil))) rfl))))))), ?_⟩
  refine ⟨_, rfl, _, rfl, n, _, dx, _, _, rfl, e1, Tx.cl_Net, Tx.na_Net_trip_rows, e2.fp, x.nm, dp, rows, rfl, h1, okn, hv, fun H1 s1 => ?_⟩
  refine ⟨_, rfl, _, rfl, n, _, dx, _, _, rfl, s1 _ _ e1, Tx.cl_Net, Tx.na_Net_rule_rows, e2.fr, x.ru, dr, rrows, rfl, s1 _ _ hr1, _, rfl, itF (by rw [erv]; exact Bool.false_ne_true) ?_⟩
  refine ⟨_, rfl, l, vs', x.cs, rfl, s1 _ _ hl, al.imp fun _ _ => ClAt.same s1, ok.two, ok.six, fun H2 s2 => ⟨_, rfl, itF (by decide) ?_⟩⟩
  have S2 := s1.trans s2
  refine ⟨_, rfl, l, rfl, ⟨_, SqL.of (S2 _ _ hl)⟩, for_enum (xs := vs') (fun i σ H' => Same H H' ∧ ∃ v4 v5 : Option V, σ = [some (.ref n), some (.str x.nm), some (.str x.ru), some (.ref l), v4, v5]) ⟨S2, _, _, rfl⟩ (fun i σ H' _ ⟨s', _⟩ => SqL.of (s' _ _ hl)) ?_ ?_⟩
  · rintro i v pp σ H3 hx hpp ⟨s3, v4, v5, rfl⟩
    have s4 := s3.trans (same_new hpp (.tup [.int (i : Nat), v]))
    obtain ⟨c, ec, hc⟩ := al.get hx
    have mc := List.mem_of_getElem? ec
    refine ⟨pp, _, rfl, SqT.of upd_same, rfl, _, _, rfl, _, _, rfl, rfl, ?_⟩
    refine ⟨_, rfl, n, dx, _, rfl, s4 _ _ e1, e2.n6, _, rfl, n, N, v, c, rfl, ⟨ds, dr, dt, dp, hN.same s4⟩, hc.same s4, ok.st c mc, (ok.rng c mc).1, (ok.rng c mc).2, ?_⟩
    refine ⟨_, rfl, _, _, rfl, rfl, _, rfl, ?_⟩
    by_cases ci : 0 < i
    · refine itT (decide_eq_true (by omega)) ?_
      obtain ⟨j, rfl⟩ : ∃ j, i = j + 1 := ⟨i - 1, by omega⟩
      have hj : j < vs'.length := by have := (List.getElem?_eq_some_iff.mp hx).1; omega
      obtain ⟨a, ea, ha⟩ := al.get (List.getElem?_eq_getElem hj)
      have fo := ok.fol j a c ea ec
      have eat : atI vs' (((j + 1 : Nat) : Int) - 1) = some vs'[j] := by
        have : atI vs' ((j : Nat) : Int) = some vs'[j] := atI_nat (List.getElem?_eq_getElem hj)
        rw [show (((j + 1 : Nat) : Int) - 1) = ((j : Nat) : Int) by omega]
        exact this
      exact ⟨_, rfl, _, rfl, _, rfl, _, _, rfl, rfl, l, _, _, _, rfl, rfl, SqL.of (s4 _ _ hl), eat, v, _, c, a, rfl, hc.same s4, ha.same s4, fo.1, fo.2, _, rfl, itF (by decide) ⟨s4, _, _, rfl⟩⟩
    · exact itF (by rw [decide_eq_false (by omega)]; decide) (itF (by decide) ⟨s4, _, _, rfl⟩)
  · rintro σ H3 ⟨s3, v4, v5, rfl⟩
    refine ⟨_, rfl, n, _, dx, _, _, rfl, s3 _ _ e1, Tx.cl_Net, Tx.na_Net_trip_rows, e2.fp, dp, rows, 10, rfl, s3 _ _ h1, by omega, ?_⟩
    refine ⟨_, rfl, _, rfl, l, rfl, ⟨_, SqL.of (s3 _ _ hl)⟩, comp_list (K := K) (a := l) (xs := vs') (fun i acc σ H' => H' = H3 ∧ acc = vs'.take i ∧ ∃ v, σ = [v]) ⟨rfl, rfl, _, rfl⟩ lv6 (fun i acc σ H' _ ⟨e, _⟩ => by rw [e]; exact SqL.of (s3 _ _ hl)) ?_ ?_⟩
    · rintro i y acc σ H' hi hy ⟨rfl, rfl, v, rfl⟩
      obtain ⟨c, ec, p, rfl, hp⟩ := al.get hy
      dsimp only [gName, tTrue]
      rw [if_pos rfl]
      refine ⟨_, rfl, p, _, rfl, .inr ⟨SqT.of (s3 _ _ hp), ?_⟩⟩
      refine ⟨by rw [List.length_append, List.length_singleton]; omega, rfl, ?_, _, rfl⟩
      rw [List.take_add_one, hy]; rfl
    · rintro acc σ H' ha ⟨rfl, rfl, v, rfl⟩ p hp
      rw [List.take_length]
      have s5 := same_new hp (.lst vs')
      refine ⟨p, _, rfl, .inl ⟨SqL.of upd_same, fun p2 hp2 => ?_⟩⟩
      have s6 := same_new hp2 (.tup vs')
      refine ⟨by show 2 ≤ sizeLine; decide, fun r hr' => ?_⟩
      have s7 := same_new hr' (.tup [.str x.ru, .ref p2])
      have S7 := ((s3.trans s5).trans s6).trans s7
      refine ⟨_, rfl, n, _, dx, _, _, rfl, S7 _ _ e1, Tx.cl_Net, Tx.na_Net_trip_rows, e2.fp, _, rfl, dp, _, rfl, DPut.k (k := Sum.inr x.nm) (S7 _ _ h1) (Nat.lt_trans hrl (by decide)), ?_⟩
      exact q _ (same_put (s0.trans S7) hW.2.2.2 _) (fun b ob e => by obtain ⟨nb, e⟩ := wo_of e; rw [upd_ne nb]; exact S7 _ _ e) ((hN.same S7).addTp (S7 _ _ h1) (h2.imp fun _ _ => TRow.same S7) hv ⟨rfl, r, p2, vs', rfl, upd_same, s7 _ _ upd_same, al.imp fun _ _ => ClAt.same S7⟩)

def spZones : Sp := fun vs H Q _ => ∃ b : Nat, vs = [.int (b : Nat)] ∧ ∀ l H', Same H H' → H l = none → H' l = some (.lst (natV (zonesOf b))) → Q (.ref l) H'
theorem zones_take (b : Nat) (i : Nat) (hi : i < 6) : ([1, 2, 3, 4, 5, 6].take (i + 1)).filter (fun z => decide (b / 2 ^ (z - 1) % 2 = 1)) = (([1, 2, 3, 4, 5, 6] : List Nat).take i).filter (fun z => decide (b / 2 ^ (z - 1) % 2 = 1)) ++ if b / 2 ^ i % 2 = 1 then [i + 1] else [] := by
  rw [List.take_add_one, List.filter_append]
  congr 1
  have : ([1, 2, 3, 4, 5, 6] : List Nat)[i]? = some (i + 1) := by
    match i, hi with
    | 0, _ => rfl
    | 1, _ => rfl
    | 2, _ => rfl
    | 3, _ => rfl
    | 4, _ => rfl
    | 5, _ => rfl
  rw [this]
  show List.filter _ [i + 1] = _
  rw [List.filter_cons, List.filter_nil, show i + 1 - 1 = i by omega]
  by_cases h : b / 2 ^ i % 2 = 1
  · rw [if_pos h, decide_eq_true h]; rfl
  · rw [if_neg h, decide_eq_false h]; rfl
theorem two_at : ∀ i : Nat, i < 6 → atI [V.int 1, V.int 2, V.int 4, V.int 8, V.int 16, V.int 32] (1 + (i : Int) - 1) = some (.int ((2 ^ i : Nat) : Int)) := fun i hi => by
  match i, hi with
  | 0, _ => rfl
  | 1, _ => rfl
  | 2, _ => rfl
  | 3, _ => rfl
  | 4, _ => rfl
  | 5, _ => rfl
theorem ok_law_zones (Tx : Tab K mg t) : FnOk P w K mg base CX0 1 t.f_law_zones t.d_law_zones ["_law_bits_here"] spZones := by
  refine Tx.F_law_zones.ok sc_law_zones (fun vs H Q E h => ?_) (fun cdv A outer s H vs Q E hr h => ?_)
  · obtain ⟨b, rfl, _⟩ := h
    rfl
  obtain ⟨b, rfl, q⟩ := h
  refine ⟨_, (pss_one (ps_ret (pe_comp (cl := [(Str.ofString "_law_bits_here", s.heap.objs.size + 1)]) (N := ["_law_zone", "_law_bits_here"]) (fr := [none, some 0]) rfl (pi_range2 rfl Tx.z_range (pac pe_int (pac pe_int pa_nil))) rfl (by decide +kernel) rfl (by decide +kernel) ⟨⟨rfl, Or.inl rfl, Or.inl rfl, _, rfl, rfl⟩, trivial⟩ ⟨rfl, trivial⟩ rfl (fun _ _ _ _ _ => (pg_name (i := 0) (show List.Nodup (["_law_zone", "_law_bits_here"] : List Str) by decide +kernel) rfl (Or.inl rfl))) (fun _ _ _ _ _ => (pts_one (pt_cmpR op_eq (pe_op op_mod (pe_op op_fdiv (pv 1) (pe_ix (show IxR _ (rIxL K) from ix_list) (pe_lst (pac pe_int (pac pe_int (pac pe_int (pac pe_int (pac pe_int (pac pe_int pa_nil))))))) (pe_op op_sub (pv 0) pe_int) (fun _ _ => rfl))) pe_int) pe_int (nomark _)))) (fun _ _ _ _ _ => (pv 0))))), ?_⟩
  refine ⟨_, _, rfl, ⟨by decide, by decide, by decide, by decide⟩, ?_⟩
  refine comp_range (n := 6) (fun i acc σ H' => Same H H' ∧ acc = natV (([1, 2, 3, 4, 5, 6].take i).filter fun z => decide (b / 2 ^ (z - 1) % 2 = 1)) ∧ ∃ v, σ = [v, some (.int (b : Nat))]) ⟨Same.refl H, rfl, _, rfl⟩ (by decide) ?_ ?_
  · rintro i acc σ H' hi ha ⟨s1, rfl, v, rfl⟩
    refine ⟨_, rfl, by show 6 ≤ sizeLine; decide, fun p hp => ?_⟩
    have s2 := s1.trans (same_new hp (.lst [.int 1, .int 2, .int 4, .int 8, .int 16, .int 32]))
    have hp2 : (2 : Nat) ^ i ≤ 32 := by
      match i, hi with
      | 0, _ => decide
      | 1, _ => decide
      | 2, _ => decide
      | 3, _ => decide
      | 4, _ => decide
      | 5, _ => decide
    have hp1 : 0 < (2 : Nat) ^ i := Nat.pow_pos (by decide)
    refine ⟨_, rfl, _, _, rfl, rfl, p, _, _, _, rfl, rfl, SqL.of upd_same, two_at i hi, _, _, rfl, rfl, ⟨by omega, by omega⟩, _, _, rfl, rfl, (by show (0 : Int) < 2; decide), rfl, _, rfl, ?_⟩
    have ed : decide (V.int (((b : Nat) : Int) / ((2 ^ i : Nat) : Int) % 2) = V.int 1) = decide (b / 2 ^ i % 2 = 1) := by
      rw [show ((b : Nat) : Int) / ((2 ^ i : Nat) : Int) % 2 = ((b / 2 ^ i % 2 : Nat) : Int) by rw [← Int.natCast_ediv]; omega]
      exact decide_eq_decide.mpr ⟨fun x => by injection x with x; omega, fun x => by rw [x]; rfl⟩
    have zt := zones_take b i hi
    by_cases c : b / 2 ^ i % 2 = 1
    · refine itT (by show decide (V.int (((b : Nat) : Int) / ((2 ^ i : Nat) : Int) % 2) = V.int 1) = true; rw [ed, decide_eq_true c]) ?_
      refine ⟨_, rfl, by rw [List.length_append, List.length_singleton]; omega, s2, ?_, _, rfl⟩
      rw [zt, if_pos c]
      unfold natV
      rw [List.map_append]
      show _ ++ [V.int (1 + ((i : Nat) : Int))] = _ ++ [V.int (((i + 1 : Nat)) : Int)]
      rw [show (1 + ((i : Nat) : Int)) = ((i + 1 : Nat) : Int) by omega]
    · refine itF (by show ¬ decide (V.int (((b : Nat) : Int) / ((2 ^ i : Nat) : Int) % 2) = V.int 1) = true; rw [ed, decide_eq_false c]; decide) ?_
      refine ⟨by omega, s2, ?_, _, rfl⟩
      rw [zt, if_neg c, List.append_nil]
  · rintro acc σ H' ha ⟨s1, rfl, v, rfl⟩ l hl
    exact q l _ (s1.trans (same_new hl _)) (s1.free hl) upd_same
def TkAt (H : Hp) (v : V) (k : Tk) : Prop := ∃ p l, v = .ref p ∧ H p = some (.tup [.str k.nm, .int (k.pr : Nat), .int (k.la : Nat), .ref l]) ∧ H l = some (.lst (natV (zonesOf k.b)))
theorem TkAt.same {H H' : Hp} {v : V} {k : Tk} (s : Same H H') (h : TkAt H v k) : TkAt H' v k := let ⟨p, l, e, h1, h2⟩ := h; ⟨p, l, e, s _ _ h1, s _ _ h2⟩
def spTks (K : W.Frag) : Sp := fun vs H Q _ => ∃ (a : Addr) (ns : List Int) (k : Int) (many : Nat), vs = [.ref a, .int k, .int (many : Nat)] ∧ SqL K H a (ns.map V.int) ∧ 0 ≤ k ∧ k ≤ 90000 ∧ many ≤ 8 ∧
  ∀ (TK : List Tk) (vs : List V) l H', Same H H' → H l = none → H' l = some (.lst vs) → Al (TkAt H') vs TK → TK.length = many → (TK.map (·.nm)).Nodup → (∀ k ∈ TK, k.Ok) → Q (.ref l) H'
theorem ok_law_tickets (Tx : Tab K mg t) : FnOk P w K mg base CX0 3 t.f_law_tickets t.d_law_tickets ["_law_script", "_law_k", "_law_many"] (spTks K) := by
  refine Tx.F_law_tickets.ok sc_law_tickets (fun vs H Q E h => ?_) (fun cdv A outer s H vs Q E hr h => ?_)
  · obtain ⟨a, ns, k, many, rfl, _⟩ := h
    rfl
  obtain ⟨a, ns, k, many, rfl, hS, k0, k1, hm, q⟩ := h
  refine ⟨_, (pss_cons (ps_set (i := 3) sc_law_tickets.nd rfl (Or.inl rfl) (pe_lst pa_nil))
    (pss_cons (ps_for PassesOwn.never rfl (pi_enum rfl Tx.z_enumerate (pac (pe_call (ok_law_names Tx) (hr.mono (by omega)) rfl Tx.m_law_names Tx.F_law_names.kp Tx.b_law_names .nil pass0 (pac (pv 0) (pac (pv 1) (pac (pv 2) pa_nil)))) pa_nil)) (pg_tup rfl (pgs_cons (pg_name (i := 4) sc_law_tickets.nd rfl (Or.inl rfl)) (pgs_cons (pg_name (i := 5) sc_law_tickets.nd rfl (Or.inl rfl)) pgs_nil)))
    (pss_cons (ps_set (i := 6) sc_law_tickets.nd rfl (Or.inl rfl) (pe_call (ok_law_draw Tx) (hr.mono (by omega)) rfl Tx.m_law_draw Tx.F_law_draw.kp Tx.b_law_draw .nil pass0 (pac (pv 0) (pac (pe_op op_add (pe_op op_add (pv 1) pe_int) (pv 4)) pa_nil))))
    (pss_cons (ps_set (i := 7) sc_law_tickets.nd rfl (Or.inl rfl) (pe_op op_mod (pv 6) (pe_ix ix_list (pe_lst (pac pe_int (pac pe_int (pac pe_int (pac pe_int pa_nil))))) (pe_op op_mod (pe_op op_fdiv (pv 6) pe_int) pe_int) (fun _ _ => rfl))))
    (pss_cons (ps_set (i := 8) sc_law_tickets.nd rfl (Or.inl rfl) (pe_op op_add pe_int (pe_op op_mod (pe_op op_fdiv (pv 6) pe_int) (pe_ix ix_list (pe_lst (pac pe_int (pac pe_int (pac pe_int pa_nil)))) (pe_op op_mod (pe_op op_fdiv (pv 6) pe_int) pe_int) (fun _ _ => rfl)))))
    (pss_cons (ps_set (i := 9) sc_law_tickets.nd rfl (Or.inl rfl) (pe_ix ix_list (pe_lst (pac pe_int (pac (pe_op op_add pe_int (pe_op op_mod (pe_op op_fdiv (pv 6) pe_int) pe_int)) pa_nil))) (pe_op op_mod (pe_op op_fdiv (pv 6) pe_int) pe_int) (fun _ _ => rfl)))
    (pss_one (ps_expr (pe_bm PySem.F.plainAttrs_list PySem.F.slot_list_append PySem.F.type_list_append mt_append (pv 3) (pac (pe_tup (pac (pv 5) (pac (pv 7) (pac (pv 8) (pac (pe_call (ok_law_zones Tx) (hr.mono (by omega)) rfl Tx.m_law_zones Tx.F_law_zones.kp Tx.b_law_zones .nil pass0 (pac (pv 9) pa_nil)) pa_nil))))) pa_nil)))))))))
    (pss_one (ps_ret (pv 3))))), ?_⟩
  refine ⟨by show 0 ≤ sizeLine; decide, fun l hl => ?_⟩
  have s1 := same_new hl (.lst [])
  refine ⟨_, rfl, _, rfl, _, rfl, a, ns, k, many, rfl, s1.seq hS, k0, by omega, hm, fun NS ln H1 s2 hln0 hln eN nN okN => ?_⟩
  have S2 := s1.trans s2
  have nl : ln ≠ l := fun e => by rw [e, upd_same] at hln0; cases hln0
  refine ⟨ln, rfl, ⟨_, SqL.of hln⟩, for_enum (xs := NS.map V.str) (fun i σ H' => Same H H' ∧ H' ln = some (.lst (NS.map V.str)) ∧ ∃ (TK : List Tk) (vs : List V) (v4 v5 v6 v7 v8 v9 : Option V), σ = [some (.ref a), some (.int k), some (.int (many : Nat)), some (.ref l), v4, v5, v6, v7, v8, v9] ∧ H' l = some (.lst vs) ∧ Al (TkAt (wo H' l)) vs TK ∧ TK.map (·.nm) = NS.take i ∧ ∀ k ∈ TK, k.Ok)
    ⟨S2, hln, [], [], _, _, _, _, _, _, rfl, s2 _ _ upd_same, .nil, rfl, fun k hk => by cases hk⟩ (fun i σ H' _ ⟨_, e, _⟩ => SqL.of e) ?_ ?_⟩
  · rintro i x pp σ H2 hx hpp ⟨s3, hln2, TK, vs, v4, v5, v6, v7, v8, v9, rfl, hl2, al, en, okT⟩
    rw [List.getElem?_map] at hx
    cases ez : NS[i]? with
    | none => rw [ez] at hx; cases hx
    | some z =>
      rw [ez] at hx
      obtain rfl : V.str z = x := Option.some.inj hx
      have hi : i < 8 := by have := (List.getElem?_eq_some_iff.mp ez).1; omega
      have s4 := s3.trans (same_new hpp (.tup [.int (i : Nat), .str z]))
      have nlp : l ≠ pp := ne_of_none hl2 hpp
      refine ⟨pp, _, rfl, SqT.of upd_same, rfl, _, _, rfl, _, _, rfl, rfl, ?_⟩
      refine ⟨_, rfl, _, rfl, _, _, rfl, rfl, _, rfl, _, _, rfl, rfl, a, ns, _, rfl, s4.seq hS, by omega, by omega, fun d H3 hd s5 => ?_⟩
      obtain ⟨vm, em, m1, rfl, hm1, hm1'⟩ := at_all (p := fun v => ∃ m : Nat, v = .int (m : Nat) ∧ 1 ≤ m ∧ m ≤ 10001) (xs := [.int 4, .int 101, .int 101, .int 10001]) (d := ((d : Nat) : Int) / 16 % 4) (fun v hv => by
        simp only [List.mem_cons, List.not_mem_nil, or_false] at hv
        rcases hv with rfl | rfl | rfl | rfl
        · exact ⟨4, rfl, by decide, by decide⟩
        · exact ⟨101, rfl, by decide, by decide⟩
        · exact ⟨101, rfl, by decide, by decide⟩
        · exact ⟨10001, rfl, by decide, by decide⟩) (by omega) (by show ((d : Nat) : Int) / 16 % 4 < 4; omega)
      obtain ⟨vm2, em2, m2, rfl, hm2, hm2'⟩ := at_all (p := fun v => ∃ m : Nat, v = .int (m : Nat) ∧ 1 ≤ m ∧ m ≤ 1440) (xs := [.int 60, .int 240, .int 1440]) (d := ((d : Nat) : Int) / 4096 % 3) (fun v hv => by
        simp only [List.mem_cons, List.not_mem_nil, or_false] at hv
        rcases hv with rfl | rfl | rfl
        · exact ⟨60, rfl, by decide, by decide⟩
        · exact ⟨240, rfl, by decide, by decide⟩
        · exact ⟨1440, rfl, by decide, by decide⟩) (by omega) (by show ((d : Nat) : Int) / 4096 % 3 < 3; omega)
      obtain ⟨vb, eb, B, rfl, hB, hB'⟩ := at_all (p := fun v => ∃ m : Nat, v = .int (m : Nat) ∧ 1 ≤ m ∧ m < 64) (xs := [.int 63, .int (1 + ((d : Nat) : Int) / 1024 % 63)]) (d := ((d : Nat) : Int) / 512 % 2) (fun v hv => by
        simp only [List.mem_cons, List.not_mem_nil, or_false] at hv
        rcases hv with rfl | rfl
        · exact ⟨63, rfl, by decide, by decide⟩
        · exact ⟨1 + d / 1024 % 63, congrArg V.int (by omega), by omega, by omega⟩) (by omega) (by show ((d : Nat) : Int) / 512 % 2 < 2; omega)
      refine ⟨_, rfl, by show 4 ≤ sizeLine; decide, fun p1 g1 => ?_⟩
      refine ⟨_, rfl, _, _, rfl, rfl, ⟨by decide, by decide⟩, _, _, rfl, rfl, (by show (0 : Int) < 4; decide), p1, _, _, _, rfl, rfl, SqL.of upd_same, em, _, _, rfl, rfl, (by omega), ?_⟩
      have s6 := s5.trans (same_new g1 (.lst [.int 4, .int 101, .int 101, .int 10001]))
      refine ⟨_, rfl, _, _, rfl, rfl, ⟨by decide, by decide⟩, by show 3 ≤ sizeLine; decide, fun p2 g2 => ?_⟩
      have s7 := s6.trans (same_new g2 (.lst [.int 60, .int 240, .int 1440]))
      refine ⟨_, rfl, _, _, rfl, rfl, ⟨by decide, by decide⟩, _, _, rfl, rfl, (by show (0 : Int) < 3; decide), p2, _, _, _, rfl, rfl, SqL.of upd_same, em2, _, _, rfl, rfl, (by omega), _, _, rfl, rfl, ?_⟩
      refine ⟨_, rfl, _, _, rfl, rfl, ⟨by decide, by decide⟩, _, _, rfl, rfl, (by show (0 : Int) < 63; decide), _, _, rfl, rfl, by show 2 ≤ sizeLine; decide, fun p3 g3 => ?_⟩
      have s8 := s7.trans (same_new g3 (.lst [.int 63, .int (1 + ((d : Nat) : Int) / 1024 % 63)]))
      refine ⟨_, rfl, _, _, rfl, rfl, ⟨by decide, by decide⟩, _, _, rfl, rfl, (by show (0 : Int) < 2; decide), p3, _, _, _, rfl, rfl, SqL.of upd_same, eb, ?_⟩
      have S8 := (same_new hpp (.tup [.int (i : Nat), .str z])).trans s8
      have hl8 := S8 _ _ hl2
      generalize upd (upd (upd H3 p1 (.lst [.int 4, .int 101, .int 101, .int 10001])) p2 (.lst [.int 60, .int 240, .int 1440])) p3 (.lst [.int 63, .int (1 + ((d : Nat) : Int) / 1024 % 63)]) = H4 at S8 hl8 ⊢
      refine ⟨_, rfl, .inl ⟨rfl, _, SqL.of hl8⟩, _, rfl, _, rfl, _, rfl, _, rfl, B, rfl, fun lz H5 s9 hz0 hz => ⟨by show 4 ≤ sizeLine; decide, fun pt gt => ?_⟩⟩
      have S9 := S8.trans s9
      have hl9 := s9 _ _ hl8
      have nlz : lz ≠ l := fun e => by rw [e, hl8] at hz0; cases hz0
      have npt : pt ≠ l := fun e => by rw [e, hl9] at gt; cases gt
      have e1 : ((d : Nat) : Int) % ((m1 : Nat) : Int) = ((d % m1 : Nat) : Int) := (Int.natCast_emod d m1).symm
      have e2 : (1 : Int) + ((d : Nat) : Int) / 64 % ((m2 : Nat) : Int) = ((1 + d / 64 % m2 : Nat) : Int) := by
        rw [Int.natCast_add, Int.natCast_emod, Int.natCast_ediv]; rfl
      have hpt : upd H5 pt (.tup [.str z, .int (((d : Nat) : Int) % ((m1 : Nat) : Int)), .int (1 + ((d : Nat) : Int) / 64 % ((m2 : Nat) : Int)), .ref lz]) pt = some (.tup [.str z, .int ((d % m1 : Nat) : Int), .int ((1 + d / 64 % m2 : Nat) : Int), .ref lz]) := by
        rw [upd_same, e1, e2]
      have s10 := same_new gt (.tup [.str z, .int (((d : Nat) : Int) % ((m1 : Nat) : Int)), .int (1 + ((d : Nat) : Int) / 64 % ((m2 : Nat) : Int)), .ref lz])
      have S10 := S9.trans s10
      have hl10 := S10 _ _ hl2
      have lv : vs.length ≤ 8 := by
        have := al.length
        have h2 := congrArg List.length en
        rw [List.length_map, List.length_take] at h2
        omega
      refine ⟨l, _, _, rfl, rfl, hl10, Nat.lt_of_le_of_lt lv (by decide), ?_⟩
      refine ⟨same_put (s3.trans S10) hl _, (by rw [upd_ne nl]; exact S10 _ _ hln2), TK ++ [⟨z, d % m1, 1 + d / 64 % m2, B⟩], vs ++ [.ref pt], _, _, _, _, _, _, rfl, upd_same, ?_, ?_, ?_⟩
      · rw [wo_upd]
        exact (al.imp fun _ _ => TkAt.same (wo_mono S10)).snoc ⟨pt, lz, rfl, wo_at hpt npt, wo_at (s10 _ _ hz) nlz⟩
      · rw [List.map_append, en, List.take_add_one, ez]; rfl
      · intro k' hk'
        rcases List.mem_append.mp hk' with hk' | hk'
        · exact okT k' hk'
        · rw [List.mem_singleton] at hk'
          subst hk'
          refine ⟨okN z (List.mem_of_getElem? ez), ?_, ?_, ?_, hB, hB'⟩
          · show d % m1 ≤ 10000
            have := Nat.mod_lt d (show 0 < m1 by omega)
            omega
          · show 1 ≤ 1 + d / 64 % m2
            omega
          · show 1 + d / 64 % m2 ≤ 1440
            have := Nat.mod_lt (d / 64) (show 0 < m2 by omega)
            omega
  · rintro σ H2 ⟨s3, hln2, TK, vs, v4, v5, v6, v7, v8, v9, rfl, hl2, al, en, okT⟩
    rw [List.length_map, List.take_length] at en
    refine ⟨_, rfl, q TK vs l H2 s3 hl hl2 (al.imp fun _ _ => TkAt.same wo_same) ?_ (by rw [en]; exact nN) okT⟩
    have := congrArg List.length en
    rw [List.length_map] at this
    omega

def cellF (ns : List Int) (k : Int) : Int := (ns[(k % (ns.length : Nat)).toNat]?).getD 0
def mixF (v : Int) : Nat := (v * v % 1000000007 * v % 998244353 / 11).toNat
def drawF (ns : List Int) (k : Int) : Nat := mixF (cellF ns k % 1000000007 + 7919 * k + 13)
def spDrawD (K : W.Frag) : Sp := fun vs H Q _ => ∃ (a : Addr) (ns : List Int) (k : Int), vs = [.ref a, .int k] ∧ SqL K H a (ns.map V.int) ∧ 0 ≤ k ∧ k ≤ 100000 ∧ ∀ H', Same H H' → Q (.int (drawF ns k : Nat)) H'
theorem ok_law_draw_d (Tx : Tab K mg t) : FnOk P w K mg base CX0 1 t.f_law_draw t.d_law_draw ["_law_script", "_law_k"] (spDrawD K) := by
  refine Tx.F_law_draw.ok sc_law_draw (fun vs H Q E h => ?_) (fun cdv A outer s H vs Q E hr h => ?_)
  · obtain ⟨a, ns, k, rfl, _⟩ := h
    rfl
  obtain ⟨a, ns, k, rfl, hS, k0, k1, q⟩ := h
  refine ⟨_, (pss_cons (ps_set (i := 2) sc_law_draw.nd rfl (Or.inl rfl) pe_int)
    (pss_join (ps_if (pt_cmpR (op_ne_lst hr.units0) (pv 0) (pe_lst pa_nil) (nomark _))
    (pss_one (ps_set (i := 2) sc_law_draw.nd rfl (Or.inl rfl) (pe_ix ix_list (pv 0) (pe_op op_mod (pv 1) (pe_callB call_len_seq rfl Tx.z_len b_len (pac (pv 0) pa_nil))) (fun _ _ => rfl))))
    pss_nil)
    (pss_cons (ps_set (i := 3) sc_law_draw.nd rfl (Or.inl rfl) (pe_op op_add (pe_op op_add (pe_op op_mod (pv 2) pe_int) (pe_op op_mul pe_int (pv 1))) pe_int))
    (pss_one (ps_ret (pe_op op_fdiv (pe_op op_mod (pe_op op_mul (pe_op op_mod (pe_op op_mul (pv 3) (pv 3)) pe_int) (pv 3)) pe_int) pe_int)))))), ?_⟩
  refine ⟨fun σ H' => Same H H' ∧ σ = [some (.ref a), some (.int k), some (.int (cellF ns k)), none], ?_, ?_⟩
  · refine ⟨_, rfl, (by show 0 ≤ sizeLine; decide), fun p hp => ?_⟩
    have sm := same_new hp (.lst [])
    refine ⟨a, p, _, _, rfl, rfl, sm.seq hS, SqL.of upd_same, flat_ints ns, rfl, _, rfl, ?_⟩
    cases ns with
    | nil => exact itF (by decide) ⟨sm, rfl⟩
    | cons n r =>
      refine itT rfl ?_
      have hpos : (0 : Int) < (((n :: r).map V.int).length : Nat) := by rw [List.length_map, List.length_cons]; omega
      have h1 := Int.emod_nonneg k (show ((((n :: r).map V.int).length : Nat) : Int) ≠ 0 by omega)
      have h2 := Int.emod_lt_of_pos k hpos
      have hlt : (k % (((n :: r).map V.int).length : Nat)).toNat < (n :: r).length := by
        rw [List.length_map] at h1 h2 ⊢
        omega
      refine ⟨_, rfl, _, rfl, _, rfl, a, _, rfl, .inl (sm.seq hS), _, _, rfl, rfl, hpos, a, _, _, .int ((n :: r)[(k % (((n :: r).map V.int).length : Nat)).toNat]), rfl, rfl, sm.seq hS, ?_, sm, ?_⟩
      · have e : k % (((n :: r).map V.int).length : Nat) = (((k % (((n :: r).map V.int).length : Nat)).toNat : Nat) : Int) := by omega
        have q2 : atI ((n :: r).map V.int) (((k % (((n :: r).map V.int).length : Nat)).toNat : Nat) : Int) = some (.int ((n :: r)[(k % (((n :: r).map V.int).length : Nat)).toNat])) := atI_nat (by rw [List.getElem?_map, List.getElem?_eq_getElem hlt]; rfl)
        rw [← e] at q2
        exact q2
      · have ec : cellF (n :: r) k = (n :: r)[(k % (((n :: r).map V.int).length : Nat)).toNat] := by
          unfold cellF
          have el : ((n :: r).map V.int).length = (n :: r).length := List.length_map ..
          rw [show (n :: r)[(k % ((n :: r).length : Nat)).toNat]? = some ((n :: r)[(k % (((n :: r).map V.int).length : Nat)).toNat]) by rw [← el]; exact List.getElem?_eq_getElem hlt]
          rfl
        rw [ec]
        rfl
  · rintro σ H' ⟨sm, rfl⟩
    generalize hc : cellF ns k = c
    have g1 : 0 ≤ c % 1000000007 := Int.emod_nonneg _ (by decide)
    have g2 : c % 1000000007 < 1000000007 := Int.emod_lt_of_pos _ (by decide)
    refine ⟨_, rfl, _, _, rfl, rfl, (by show (0 : Int) < 1000000007; decide), _, rfl, _, _, rfl, rfl, .inl ⟨by decide, by decide⟩, _, _, rfl, rfl, _, _, rfl, rfl, ?_⟩
    refine ⟨_, rfl, _, rfl, _, _, rfl, rfl, mulM (by show 0 ≤ c % 1000000007 + 7919 * k + 13; omega) (by show c % 1000000007 + 7919 * k + 13 < _; omega), _, _, rfl, rfl, (by show (0 : Int) < 1000000007; decide), _, rfl, _, _, rfl, rfl,
      mulM (by show 0 ≤ c % 1000000007 + 7919 * k + 13; omega) (by show c % 1000000007 + 7919 * k + 13 < _; omega), _, _, rfl, rfl, (by show (0 : Int) < 998244353; decide), _, _, rfl, rfl, ⟨by decide, by decide⟩, ?_⟩
    have q2 := q H' sm
    have e : ∀ z : Int, ((((z % 998244353 / 11).toNat : Nat)) : Int) = z % 998244353 / 11 := fun z => by omega
    unfold drawF mixF at q2
    rw [hc, e] at q2
    exact q2
theorem drawF_lt (ns : List Int) (k : Int) : drawF ns k < 998244353 := by
  unfold drawF mixF
  have e : ∀ z : Int, (z % 998244353 / 11).toNat < 998244353 := fun z => by omega
  exact e _
def nC (ns : List Int) (k : Int) (j : Nat) : Nat := drawF ns (k + 1 + j)
def sC (ns : List Int) (k : Int) (m : Nat) : Nat → Nat
  | 0 => drawF ns k % m
  | j + 1 => (sC ns k m j + 1 + nC ns k j % (m - 1)) % m
def mC (ns : List Int) (k : Int) : Nat → Nat
  | 0 => drawF ns k / 8 % 600
  | j + 1 => mC ns k j + 1 + nC ns k j / 8 % 40 + nC ns k j / 512 % 6 * (nC ns k j / 4096 % 2)
def callC (ns : List Int) (k : Int) (NS : List Str) (j : Nat) : Cl := ⟨NS.getD (sC ns k NS.length (j + 1)) Str.empty, mC ns k j + 1 + nC ns k j / 8 % 40, mC ns k (j + 1)⟩
def callsF (ns : List Int) (k : Int) (NS : List Str) : List Cl := (List.range (2 + drawF ns k / 8192 % 5)).map (callC ns k NS)
theorem sC_lt (ns : List Int) (k : Int) (m : Nat) (h : 0 < m) (j : Nat) : sC ns k m j < m := by
  cases j with
  | zero => exact Nat.mod_lt _ h
  | succ j => exact Nat.mod_lt _ h
theorem sC_ne (ns : List Int) (k : Int) (m : Nat) (h : 2 ≤ m) (j : Nat) : sC ns k m (j + 1) ≠ sC ns k m j := by
  have h1 := sC_lt ns k m (by omega) j
  have h2 : nC ns k j % (m - 1) < m - 1 := Nat.mod_lt _ (by omega)
  show (sC ns k m j + 1 + nC ns k j % (m - 1)) % m ≠ sC ns k m j
  generalize nC ns k j % (m - 1) = r at h2
  generalize sC ns k m j = x at h1
  by_cases c : x + 1 + r < m
  · rw [Nat.mod_eq_of_lt c]; omega
  · rw [Nat.mod_eq_sub_mod (by omega), Nat.mod_eq_of_lt (by omega)]; omega
theorem mul65 (n : Nat) : n / 512 % 6 * (n / 4096 % 2) ≤ 5 := by
  rcases (show n / 4096 % 2 = 0 ∨ n / 4096 % 2 = 1 by omega) with h | h
  · rw [h]; omega
  · rw [h]; omega
theorem mC_le (ns : List Int) (k : Int) : ∀ j, mC ns k j ≤ 599 + 45 * j
  | 0 => by show drawF ns k / 8 % 600 ≤ _; omega
  | j + 1 => by
    have := mC_le ns k j
    have := mul65 (nC ns k j)
    show mC ns k j + 1 + nC ns k j / 8 % 40 + nC ns k j / 512 % 6 * (nC ns k j / 4096 % 2) ≤ _
    omega
theorem nodup_getD {NS : List Str} (nd : NS.Nodup) {i j : Nat} (hi : i < NS.length) (hj : j < NS.length) (h : i ≠ j) : NS.getD i Str.empty ≠ NS.getD j Str.empty := by
  rw [List.getD_eq_getElem?_getD, List.getD_eq_getElem?_getD, List.getElem?_eq_getElem hi, List.getElem?_eq_getElem hj]
  exact fun e => h ((List.getElem_inj nd).mp e)
theorem calls_ok {ns : List Int} {k : Int} {NS : List Str} {N : NetM} (nd : NS.Nodup) (h2 : 2 ≤ NS.length) (e : N.st.map (·.nm) = NS) : ClsOk N (callsF ns k NS) := by
  have len : (callsF ns k NS).length = 2 + drawF ns k / 8192 % 5 := by unfold callsF; rw [List.length_map, List.length_range]
  have mem : ∀ c ∈ callsF ns k NS, ∃ j, j < 6 ∧ c = callC ns k NS j := fun c hc => by
    obtain ⟨j, hj, rfl⟩ := List.mem_map.mp hc
    exact ⟨j, by have := List.mem_range.mp hj; omega, rfl⟩
  refine ⟨by omega, by omega, fun c hc => ?_, fun c hc => ?_, fun i a b ea eb => ?_⟩
  · obtain ⟨j, _, rfl⟩ := mem c hc
    have hl := sC_lt ns k NS.length (by omega) (j + 1)
    have : (callC ns k NS j).st ∈ N.st.map (·.nm) := by
      rw [e]
      show NS.getD _ _ ∈ NS
      rw [List.getD_eq_getElem?_getD, List.getElem?_eq_getElem hl]
      exact List.getElem_mem hl
    obtain ⟨x, hx, ex⟩ := List.mem_map.mp this
    obtain ⟨y, hy⟩ := fnd_some (nm := Stp.nm) hx
    rw [← ex, hy]
    rfl
  · obtain ⟨j, hj, rfl⟩ := mem c hc
    have := mC_le ns k (j + 1)
    show mC ns k j + 1 + nC ns k j / 8 % 40 ≤ mC ns k j + 1 + nC ns k j / 8 % 40 + nC ns k j / 512 % 6 * (nC ns k j / 4096 % 2) ∧ mC ns k (j + 1) ≤ 2879
    omega
  · unfold callsF at ea eb
    rw [List.getElem?_map] at ea eb
    cases e1 : (List.range (2 + drawF ns k / 8192 % 5))[i]? with
    | none => rw [e1] at ea; cases ea
    | some i1 =>
      cases e2 : (List.range (2 + drawF ns k / 8192 % 5))[i + 1]? with
      | none => rw [e2] at eb; cases eb
      | some i2 =>
        rw [e1] at ea
        rw [e2] at eb
        have q1 : i1 = i := by have := List.getElem?_eq_some_iff.mp e1; obtain ⟨h, e⟩ := this; rw [List.getElem_range] at e; exact e.symm
        have q2 : i2 = i + 1 := by have := List.getElem?_eq_some_iff.mp e2; obtain ⟨h, e⟩ := this; rw [List.getElem_range] at e; exact e.symm
        subst q1 q2
        cases ea
        cases eb
        refine ⟨nodup_getD nd (sC_lt _ _ _ (by omega) _) (sC_lt _ _ _ (by omega) _) (sC_ne ns k NS.length h2 (i1 + 1)), ?_⟩
        show mC ns k (i1 + 1) < mC ns k (i1 + 1) + 1 + nC ns k (i1 + 1) / 8 % 40
        omega
def spLCalls (K : W.Frag) : Sp := fun vs H Q _ => ∃ (a ln : Addr) (ns : List Int) (k : Nat) (NS : List Str), vs = [.ref a, .int (k : Nat), .ref ln] ∧ SqL K H a (ns.map V.int) ∧ k ≤ 90000 ∧ H ln = some (.lst (NS.map V.str)) ∧ 2 ≤ NS.length ∧ NS.length ≤ 8 ∧
  ∀ l vs H', Same H H' → H l = none → H' l = some (.lst vs) → Al (ClAt H') vs (callsF ns k NS) → Q (.ref l) H'
theorem ok_law_calls (Tx : Tab K mg t) : FnOk P w K mg base CX0 2 t.f_law_calls t.d_law_calls ["_law_script", "_law_k", "_law_names_here"] (spLCalls K) := by
  refine Tx.F_law_calls.ok sc_law_calls (fun vs H Q E h => ?_) (fun cdv A outer s H vs Q E hr h => ?_)
  · obtain ⟨a, ln, ns, k, NS, rfl, _⟩ := h
    rfl
  obtain ⟨a, ln, ns, k, NS, rfl, hS, k1, hln, n2, n8, q⟩ := h
  have len : (NS.map V.str).length = NS.length := List.length_map ..
  refine ⟨_, (pss_cons (ps_set (i := 3) sc_law_calls.nd rfl (Or.inl rfl) (pe_lst pa_nil))
    (pss_cons (ps_set (i := 4) sc_law_calls.nd rfl (Or.inl rfl) (pe_op op_mod (pe_call (ok_law_draw_d Tx) (hr.mono (by omega)) rfl Tx.m_law_draw Tx.F_law_draw.kp Tx.b_law_draw .nil pass0 (pac (pv 0) (pac (pv 1) pa_nil))) (pe_callB call_len_seq rfl Tx.z_len b_len (pac (pv 2) pa_nil))))
    (pss_cons (ps_set (i := 5) sc_law_calls.nd rfl (Or.inl rfl) (pe_op op_mod (pe_op op_fdiv (pe_call (ok_law_draw_d Tx) (hr.mono (by omega)) rfl Tx.m_law_draw Tx.F_law_draw.kp Tx.b_law_draw .nil pass0 (pac (pv 0) (pac (pv 1) pa_nil))) pe_int) pe_int))
    (pss_cons (ps_for PassesOwn.never rfl (pi_range1 rfl Tx.z_range (pac (pe_op op_add pe_int (pe_op op_mod (pe_op op_fdiv (pe_call (ok_law_draw_d Tx) (hr.mono (by omega)) rfl Tx.m_law_draw Tx.F_law_draw.kp Tx.b_law_draw .nil pass0 (pac (pv 0) (pac (pv 1) pa_nil))) pe_int) pe_int)) pa_nil)) (pg_name (i := 6) sc_law_calls.nd rfl (Or.inl rfl))
    (pss_cons (ps_set (i := 7) sc_law_calls.nd rfl (Or.inl rfl) (pe_call (ok_law_draw_d Tx) (hr.mono (by omega)) rfl Tx.m_law_draw Tx.F_law_draw.kp Tx.b_law_draw .nil pass0 (pac (pv 0) (pac (pe_op op_add (pe_op op_add (pv 1) pe_int) (pv 6)) pa_nil))))
    (pss_cons (ps_set (i := 4) sc_law_calls.nd rfl (Or.inl rfl) (pe_op op_mod (pe_op op_add (pe_op op_add (pv 4) pe_int) (pe_op op_mod (pv 7) (pe_op op_sub (pe_callB call_len_seq rfl Tx.z_len b_len (pac (pv 2) pa_nil)) pe_int))) (pe_callB call_len_seq rfl Tx.z_len b_len (pac (pv 2) pa_nil))))
    (pss_cons (ps_set (i := 8) sc_law_calls.nd rfl (Or.inl rfl) (pe_op op_add (pe_op op_add (pv 5) pe_int) (pe_op op_mod (pe_op op_fdiv (pv 7) pe_int) pe_int)))
    (pss_cons (ps_set (i := 5) sc_law_calls.nd rfl (Or.inl rfl) (pe_op op_add (pv 8) (pe_op op_mul (pe_op op_mod (pe_op op_fdiv (pv 7) pe_int) pe_int) (pe_op op_mod (pe_op op_fdiv (pv 7) pe_int) pe_int))))
    (pss_one (ps_expr (pe_bm PySem.F.plainAttrs_list PySem.F.slot_list_append PySem.F.type_list_append mt_append (pv 3) (pac (pe_tup (pac (pe_ix ix_list (pv 2) (pv 4) (fun _ _ => rfl)) (pac (pv 8) (pac (pv 5) pa_nil)))) pa_nil)))))))))
    (pss_one (ps_ret (pv 3))))))), ?_⟩
  refine ⟨by show 0 ≤ sizeLine; decide, fun l hl => ?_⟩
  have s1 := same_new hl (.lst [])
  refine ⟨_, rfl, _, rfl, a, ns, _, rfl, s1.seq hS, by omega, by omega, fun H1 s2 => ?_⟩
  have S2 := s1.trans s2
  refine ⟨_, rfl, ln, _, rfl, .inl (SqL.of (S2 _ _ hln)), _, _, rfl, rfl, by omega, ?_⟩
  refine ⟨_, rfl, _, rfl, a, ns, _, rfl, S2.seq hS, by omega, by omega, fun H2 s3 => ?_⟩
  have S3 := S2.trans s3
  refine ⟨_, _, rfl, rfl, ⟨by decide, by decide⟩, _, _, rfl, rfl, (by show (0 : Int) < 600; decide), ?_⟩
  refine ⟨_, rfl, _, rfl, a, ns, _, rfl, S3.seq hS, by omega, by omega, fun H3 s4 => ?_⟩
  have S4 := S3.trans s4
  have dl := drawF_lt ns (k : Nat)
  refine ⟨_, _, rfl, rfl, ⟨by decide, by decide⟩, _, _, rfl, rfl, (by show (0 : Int) < 5; decide), _, _, rfl, rfl, _, rfl, by omega, by omega, ?_⟩
  have ecnt : ((2 : Int) + ((drawF ns (k : Nat) : Nat) : Int) / 8192 % 5).toNat = 2 + drawF ns (k : Nat) / 8192 % 5 := by omega
  have e0 : ((drawF ns (k : Nat) : Nat) : Int) % (((NS.map V.str).length : Nat) : Int) = ((sC ns (k : Nat) NS.length 0 : Nat) : Int) := by rw [len]; exact (Int.natCast_emod _ _).symm
  have e1 : ((drawF ns (k : Nat) : Nat) : Int) / 8 % 600 = ((mC ns (k : Nat) 0 : Nat) : Int) := by show _ = ((drawF ns (k : Nat) / 8 % 600 : Nat) : Int); omega
  refine for_range (fun i σ H' => Same H H' ∧ ∃ (vs : List V) (v5 v6 v7 : Option V), σ = [some (.ref a), some (.int (k : Nat)), some (.ref ln), some (.ref l), some (.int ((sC ns (k : Nat) NS.length i : Nat) : Int)), some (.int ((mC ns (k : Nat) i : Nat) : Int)), v5, v6, v7] ∧ H' l = some (.lst vs) ∧ Al (ClAt (wo H' l)) vs ((List.range i).map (callC ns (k : Nat) NS)))
    ⟨S4, [], none, none, none, ?_, s4 _ _ (s3 _ _ (s2 _ _ upd_same)), .nil⟩ ?_ ?_
  · show [some (V.ref a), some (V.int (k : Nat)), some (V.ref ln), some (V.ref l), some (V.int (((drawF ns (k : Nat) : Nat) : Int) % (((NS.map V.str).length : Nat) : Int))), some (V.int (((drawF ns (k : Nat) : Nat) : Int) / 8 % 600)), none, none, none] = _
    rw [e0, e1]
  · rintro i σ H4 hi ⟨s5, vs, v5, v6, v7, rfl, hl5, al⟩
    have hi6 : i < 6 := by omega
    have hs1 := sC_lt ns (k : Nat) NS.length (by omega) i
    have hs2 := sC_lt ns (k : Nat) NS.length (by omega) (i + 1)
    have mle := mC_le ns (k : Nat) i
    rw [show (0 : Int) + ((i : Nat) : Int) = ((i : Nat) : Int) by omega]
    refine ⟨_, rfl, _, rfl, _, _, rfl, rfl, _, rfl, _, _, rfl, rfl, a, ns, _, rfl, s5.seq hS, by omega, by omega, fun H5 s6 => ?_⟩
    have S6 := s5.trans s6
    have hln6 := S6 _ _ hln
    have hl6 := s6 _ _ hl5
    have al6 := al.imp (fun _ _ => ClAt.same (wo_mono (l := l) s6))
    have ed : drawF ns (((k : Nat) : Int) + 1 + ((i : Nat) : Int)) = nC ns (k : Nat) i := rfl
    rw [ed]
    generalize hd : nC ns (k : Nat) i = d at *
    have e2 : (((sC ns (k : Nat) NS.length i : Nat) : Int) + 1 + ((d : Nat) : Int) % ((((NS.map V.str).length : Nat) : Int) - 1)) % (((NS.map V.str).length : Nat) : Int) = ((sC ns (k : Nat) NS.length (i + 1) : Nat) : Int) := by
      rw [len, show (((NS.length : Nat) : Int) - 1) = ((NS.length - 1 : Nat) : Int) by omega, ← Int.natCast_emod]
      show _ = (((sC ns (k : Nat) NS.length i + 1 + nC ns (k : Nat) i % (NS.length - 1)) % NS.length : Nat) : Int)
      rw [hd, Int.natCast_emod]
      rfl
    refine ⟨_, rfl, _, _, rfl, rfl, _, rfl, _, rfl, ln, _, rfl, .inl (SqL.of hln6), _, _, rfl, rfl, _, _, rfl, rfl, (by rw [len]; omega), _, _, rfl, rfl, _, rfl, ln, _, rfl, .inl (SqL.of hln6), _, _, rfl, rfl, (by rw [len]; omega), ?_⟩
    dsimp only
    rw [e2]
    refine ⟨_, rfl, _, _, rfl, rfl, _, rfl, _, _, rfl, rfl, ⟨by decide, by decide⟩, _, _, rfl, rfl, (by show (0 : Int) < 40; decide), _, _, rfl, rfl, ?_⟩
    dsimp only
    have e3 : ((mC ns (k : Nat) i : Nat) : Int) + 1 + ((d : Nat) : Int) / 8 % 40 = ((mC ns (k : Nat) i + 1 + d / 8 % 40 : Nat) : Int) := by omega
    rw [e3]
    refine ⟨_, rfl, _, rfl, _, _, rfl, rfl, ⟨by decide, by decide⟩, _, _, rfl, rfl, (by show (0 : Int) < 6; decide), _, rfl, _, _, rfl, rfl, ⟨by decide, by decide⟩, _, _, rfl, rfl, (by show (0 : Int) < 2; decide), _, _, rfl, rfl, .inl ⟨by omega, by omega⟩, _, _, rfl, rfl, ?_⟩
    dsimp only
    have e4 : ((mC ns (k : Nat) i + 1 + d / 8 % 40 : Nat) : Int) + ((d : Nat) : Int) / 512 % 6 * (((d : Nat) : Int) / 4096 % 2) = ((mC ns (k : Nat) (i + 1) : Nat) : Int) := by
      show _ = ((mC ns (k : Nat) i + 1 + nC ns (k : Nat) i / 8 % 40 + nC ns (k : Nat) i / 512 % 6 * (nC ns (k : Nat) i / 4096 % 2) : Nat) : Int)
      rw [hd, Int.natCast_add (mC ns (k : Nat) i + 1 + d / 8 % 40), Int.natCast_mul, Int.natCast_emod, Int.natCast_ediv, Int.natCast_emod, Int.natCast_ediv]
      rfl
    rw [e4]
    have eat : atI (NS.map V.str) ((sC ns (k : Nat) NS.length (i + 1) : Nat) : Int) = some (.str (NS.getD (sC ns (k : Nat) NS.length (i + 1)) Str.empty)) := atI_nat (by
      rw [List.getElem?_map, List.getElem?_eq_getElem hs2, List.getD_eq_getElem?_getD, List.getElem?_eq_getElem hs2]; rfl)
    refine ⟨_, rfl, .inl ⟨rfl, _, SqL.of hl6⟩, _, rfl, _, rfl, ln, _, _, _, rfl, rfl, SqL.of hln6, eat, _, rfl, _, rfl, by show 3 ≤ sizeLine; decide, fun pt gt => ?_⟩
    have npt : pt ≠ l := fun e => by rw [e, hl6] at gt; cases gt
    have s7 := same_new gt (.tup [.str (NS.getD (sC ns (k : Nat) NS.length (i + 1)) Str.empty), .int ((mC ns (k : Nat) i + 1 + d / 8 % 40 : Nat) : Int), .int ((mC ns (k : Nat) (i + 1) : Nat) : Int)])
    have lv : vs.length ≤ 6 := by rw [al.length, List.length_map, List.length_range]; omega
    refine ⟨l, _, _, rfl, rfl, s7 _ _ hl6, Nat.lt_of_le_of_lt lv (by decide), ?_⟩
    refine ⟨same_put (S6.trans s7) hl _, vs ++ [.ref pt], _, _, _, rfl, upd_same, ?_⟩
    rw [wo_upd, List.range_succ, List.map_append]
    refine (al6.imp fun _ _ => ClAt.same (wo_mono s7)).app (.cons ⟨pt, rfl, ?_⟩ .nil)
    show wo _ l pt = some (.tup [.str (NS.getD (sC ns (k : Nat) NS.length (i + 1)) Str.empty), .int ((mC ns (k : Nat) i + 1 + nC ns (k : Nat) i / 8 % 40 : Nat) : Int), .int ((mC ns (k : Nat) (i + 1) : Nat) : Int)])
    rw [hd]
    exact wo_at upd_same npt
  · rintro σ H4 ⟨s5, vs, v5, v6, v7, rfl, hl5, al⟩
    rw [ecnt] at al
    exact ⟨_, rfl, q l vs H4 s5 hl hl5 (al.imp fun _ _ => ClAt.same wo_same)⟩

def sumB (zs : List Nat) : Nat := (zs.map fun z => 2 ^ (z - 1)).sum
theorem sum_cast (zs : List Nat) : (zs.map fun z => ((2 ^ (z - 1) : Nat) : Int)).sum = ((sumB zs : Nat) : Int) := by
  unfold sumB
  induction zs with
  | nil => rfl
  | cons z zs ih => rw [List.map_cons, List.map_cons, List.sum_cons, List.sum_cons, ih]; omega
def spBits (K : W.Frag) : Sp := fun vs H Q _ => ∃ (l : Addr) (zs : List Nat), vs = [.ref l] ∧ SqL K H l (natV zs) ∧ (∀ z ∈ zs, 1 ≤ z ∧ z ≤ 6) ∧ zs.length ≤ 8 ∧ ∀ H', Same H H' → Q (.int (sumB zs : Nat)) H'
theorem ok_law_bits (Tx : Tab K mg t) : FnOk P w K mg base CX0 1 t.f_law_bits t.d_law_bits ["_law_zones_here"] (spBits K) := by
  refine Tx.F_law_bits.ok sc_law_bits (fun vs H Q E h => ?_) (fun cdv A outer s H vs Q E hr h => ?_)
  · obtain ⟨l, zs, rfl, _⟩ := h
    rfl
  obtain ⟨l, zs, rfl, hl, hz, h8, q⟩ := h
  have len : (natV zs).length = zs.length := List.length_map ..
  refine ⟨_, (pss_one (ps_ret (pe_callB (call_sum_list rfl) rfl Tx.z_sum b_sum (pac (pe_comp (cl := []) (N := ["_law_zone"]) (fr := [none]) rfl (pi_list (pv 0)) rfl (by decide +kernel) rfl (by decide +kernel) trivial trivial rfl (fun _ _ _ _ _ => (pg_name (i := 0) (show List.Nodup (["_law_zone"] : List Str) by decide +kernel) rfl (Or.inl rfl))) (fun _ _ _ _ _ => pts_nil) (fun _ _ _ _ _ => (pe_ix (show IxR _ (rIxL K) from ix_list) (pe_lst (pac pe_int (pac pe_int (pac pe_int (pac pe_int (pac pe_int (pac pe_int pa_nil))))))) (pe_op op_sub (pv 0) pe_int) (fun _ _ => rfl)))) pa_nil)))), ?_⟩
  refine ⟨_, rfl, l, rfl, ⟨_, hl⟩, comp_list (K := K) (a := l) (xs := natV zs) (fun i acc σ H' => Same H H' ∧ acc = ((zs.take i).map fun z => ((2 ^ (z - 1) : Nat) : Int)).map V.int ∧ ∃ v, σ = [v]) ⟨Same.refl H, rfl, _, rfl⟩ (by rw [len]; exact Nat.le_trans h8 (by decide)) (fun i acc σ H' _ ⟨s', _⟩ => s'.seq hl) ?_ ?_⟩
  · rintro i y acc σ H' hi hy ⟨s1, rfl, v, rfl⟩
    unfold natV at hy
    rw [List.getElem?_map] at hy
    cases ez : zs[i]? with
    | none => rw [ez] at hy; cases hy
    | some z =>
      rw [ez] at hy
      obtain rfl : V.int ((z : Nat) : Int) = y := Option.some.inj hy
      have hz' := hz z (List.mem_of_getElem? ez)
      dsimp only [gName, tTrue]
      rw [if_pos rfl]
      refine ⟨by show 6 ≤ sizeLine; decide, fun p hp => ?_⟩
      have s2 := s1.trans (same_new hp (.lst [.int 1, .int 2, .int 4, .int 8, .int 16, .int 32]))
      have eat := two_at (z - 1) (by omega)
      rw [show (1 : Int) + ((z - 1 : Nat) : Int) - 1 = ((z : Nat) : Int) - 1 by omega] at eat
      refine ⟨_, rfl, _, _, rfl, rfl, p, _, _, _, rfl, rfl, SqL.of upd_same, eat, by rw [List.length_append, List.length_singleton]; omega, s2, ?_, _, rfl⟩
      rw [List.take_add_one, ez, List.map_append, List.map_append]
      rfl
  · rintro acc σ H' ha ⟨s1, rfl, v, rfl⟩ p hp
    rw [len, List.take_length]
    refine ⟨p, _, rfl, SqL.of upd_same, fun n hn => ?_, by rw [List.length_map]; omega, ?_⟩
    · obtain ⟨z, hz', rfl⟩ := List.mem_map.mp hn
      have h6 := (hz z hz').2
      have hp5 : (2 : Nat) ^ (z - 1) ≤ 2 ^ 5 := Nat.pow_le_pow_right (by decide) (by omega)
      exact ⟨Int.natCast_nonneg _, Int.le_trans (Int.ofNat_le.mpr hp5) (by decide)⟩
    · rw [sum_cast]
      exact q _ (s1.trans (same_new hp _))

def spRefused (t : Adr) : Sp := fun vs H Q _ => ∃ (wy : Int) (n : Addr) (N : NetM) (v b o : V) (T Tb To : String), vs = [.int wy, .ref n, v, b, o] ∧ NetAt t H n N ∧ Kd H v T ∧ Kd H b Tb ∧ Kd H o To ∧
  ((wy = 0 ∧ tripV N v = none ∧ ∀ l H', Same H H' → H' l = some (.lst [.str (Str.ofString "trip")]) → Q (.ref l) H') ∨
   (wy = 0 ∧ (∃ x, tripV N v = some x ∧ (numV b 0 (x.cs.length - 2) = false ∨ ∃ i : Int, b = .int i ∧ numV o (i + 1) (x.cs.length - 1) = false)) ∧ ∀ l H', Same H H' → H' l = some (.lst [.str (Str.ofString "number")]) → Q (.ref l) H') ∨
   (wy ≠ 0 ∧ tkV N v = none ∧ ∀ l H', Same H H' → H' l = some (.lst [.str (Str.ofString "ticket")]) → Q (.ref l) H'))
theorem ok_law_refused (Tx : Tab K mg t) : FnOk P w K mg base CX0 7 t.f_law_refused t.d_law_refused ["_law_way", "_law_net_here", "_law_name", "_law_board", "_law_off"] (spRefused t) := by
  refine Tx.F_law_refused.ok sc_law_refused (fun vs H Q E h => ?_) (fun cdv A outer s H vs Q E hr h => ?_)
  · obtain ⟨wy, n, N, v, b, o, T, Tb, To, rfl, _⟩ := h
    rfl
  obtain ⟨wy, n, N, v, b, o, T, Tb, To, rfl, hA, kd, kb, ko, h⟩ := h
  refine ⟨_, (pss_cons (ps_set (i := 5) sc_law_refused.nd rfl (Or.inl rfl) pe_non)
    (pss_cons (ps_try (i := 6) ⟨rfl, rfl⟩ rfl sc_law_refused.nd rfl rfl rfl Tx.m_RoadError
    (fun pins Kx => (pss_one (ps_if (pt_cmpR op_eq (pv 0) pe_int (nomark _))
    (pss_one (ps_expr (pe_call (ok_zones_of_x Tx) (hr.mono (by omega)) rfl Tx.m_zones_of Tx.F_zones_of.kp Tx.b_zones_of .nil passes_try (pac (pv 1) (pac (pv 2) (pac (pv 3) (pac (pv 4) pa_nil)))))))
    (pss_one (ps_expr (pe_call (ok_fits_x Tx) (hr.mono (by omega)) rfl Tx.m_fits Tx.F_fits.kp Tx.b_fits .nil passes_try (pac (pv 1) (pac (pv 2) (pac pe_int pa_nil)))))))))
    (fun a => (pss_one (ps_set (i := 5) sc_law_refused.nd rfl (Or.inl rfl) (pv 6)))))
    (pss_one (ps_ret (pe_ifExp (pt_cmp (pc_isN (pv 5))) (pe_lst pa_nil) (pe_call (ok_law_word Tx) (hr.mono (by omega)) rfl Tx.m_law_word Tx.F_law_word.kp Tx.b_law_word .nil pass0 (pac (pv 5) pa_nil))))))), ?_⟩
  refine ⟨_, rfl, rfl, _, rfl, ?_⟩
  rcases h with ⟨rfl, hn, q⟩ | ⟨rfl, ⟨x, ex, hx⟩, q⟩ | ⟨h0, hn, q⟩
  · refine itT (by decide) ⟨_, rfl, _, rfl, _, rfl, _, rfl, n, N, v, b, o, T, Tb, To, rfl, hA, kd, kb, ko, .inl ⟨hn, Tx.x_NoTrip, fun e he => ?_⟩⟩
    refine ⟨_, rfl, _, rfl, _, rfl, itF (by intro y; cases y) ⟨_, rfl, e, t.c_NoTrip, _, rfl, upd_same, wd_NoTrip Tx, fun l H' s' hl => q l H' ((same_new he _).trans s') ?_⟩⟩
    exact hl
  · refine itT (by decide) ⟨_, rfl, _, rfl, _, rfl, _, rfl, n, N, v, b, o, T, Tb, To, rfl, hA, kd, kb, ko, .inr ⟨x, ex, hx, fun H1 s1 => ⟨Tx.x_BadNumber, fun e he => ?_⟩⟩⟩
    refine ⟨_, rfl, _, rfl, _, rfl, itF (by intro y; cases y) ⟨_, rfl, e, t.c_BadNumber, _, rfl, upd_same, wd_BadNumber Tx, fun l H' s' hl => q l H' ((s1.trans (same_new he _)).trans s') ?_⟩⟩
    exact hl
  · refine itF (by show ¬ decide (V.int wy = V.int 0) = true; rw [dec_int]; simpa using h0) ⟨_, rfl, _, rfl, n, N, v, _, T, rfl, hA, kd, hn, Tx.x_NoTicket, fun e he => ?_⟩
    refine ⟨_, rfl, _, rfl, _, rfl, itF (by intro y; cases y) ⟨_, rfl, e, t.c_NoTicket, _, rfl, upd_same, wd_NoTicket Tx, fun l H' s' hl => q l H' ((same_new he _).trans s') ?_⟩⟩
    exact hl
def stL (NS : List Str) (ZS : List Nat) (m : Nat) : List Stp := (List.range m).map fun i => ⟨NS.getD i Str.empty, ZS.getD i 0, 3⟩
def allS : Str := Str.ofString "all"
def tpL (ns : List Int) (NS TN : List Str) (m : Nat) : List Tp := (List.range m).map fun i => ⟨TN.getD i Str.empty, allS, callsF ns ((50 + 8 * i : Nat) : Int) NS⟩
theorem stL_nm (NS : List Str) (ZS : List Nat) : (stL NS ZS NS.length).map (·.nm) = NS := by
  unfold stL
  rw [List.map_map]
  apply List.ext_getElem
  · rw [List.length_map, List.length_range]
  · intro i h1 h2
    rw [List.getElem_map, List.getElem_range]
    show NS.getD i Str.empty = _
    rw [List.getD_eq_getElem?_getD, List.getElem?_eq_getElem h2]
    rfl
theorem stL_take (NS : List Str) (ZS : List Nat) (m : Nat) : stL NS ZS (m + 1) = stL NS ZS m ++ [⟨NS.getD m Str.empty, ZS.getD m 0, 3⟩] := by
  unfold stL
  rw [List.range_succ, List.map_append]
  rfl
theorem tpL_take (ns : List Int) (NS TN : List Str) (m : Nat) : tpL ns NS TN (m + 1) = tpL ns NS TN m ++ [⟨TN.getD m Str.empty, allS, callsF ns ((50 + 8 * m : Nat) : Int) NS⟩] := by
  unfold tpL
  rw [List.range_succ, List.map_append]
  rfl
theorem fresh_nm {α : Type} {nm : α → Str} {NS : List Str} (nd : NS.Nodup) {f : Nat → α} (hf : ∀ i, nm (f i) = NS.getD i Str.empty) {m : Nat} (hm : m < NS.length) : fnd nm ((List.range m).map f) (NS.getD m Str.empty) = none := by
  unfold fnd
  rw [List.find?_eq_none]
  intro x hx
  obtain ⟨i, hi, rfl⟩ := List.mem_map.mp hx
  have hi := List.mem_range.mp hi
  rw [decide_eq_true_eq, hf]
  exact nodup_getD nd (by omega) hm (by omega)
theorem all_name : NameOk (Str.ofString "all") := by
  refine ⟨by decide, by decide, fun c hc => ?_, by decide +kernel⟩
  have : (Str.ofString "all").cps.toList = [97, 108, 108] := by decide +kernel
  rw [this] at hc
  simp only [List.mem_cons, List.not_mem_nil, or_false] at hc
  omega
def netL (ns : List Int) (NS TN : List Str) (ZS : List Nat) (TK : List Tk) : NetM := ⟨stL NS ZS NS.length, [allS], TK, tpL ns NS TN TN.length⟩
def spMkNet (t : Adr) (K : W.Frag) : Sp := fun vs H Q _ => ∃ (a ln lz lt : Addr) (ns : List Int) (NS : List Str) (ZS : List Nat) (vt : List V) (TK : List Tk), vs = [.ref a, .ref ln, .ref lz, .ref lt] ∧ SqL K H a (ns.map V.int) ∧ H ln = some (.lst (NS.map V.str)) ∧ 2 ≤ NS.length ∧ NS.length ≤ 8 ∧ NS.Nodup ∧ (∀ z ∈ NS, NameOk z) ∧
  H lz = some (.lst (natV ZS)) ∧ ZS.length = NS.length ∧ (∀ z ∈ ZS, 1 ≤ z ∧ z ≤ 6) ∧ H lt = some (.lst vt) ∧ Al (TkAt H) vt TK ∧ (TK.map (·.nm)).Nodup ∧ (∀ k ∈ TK, k.Ok) ∧ TK.length ≤ 3 ∧
  ∀ p n lp TN H', Same H H' → H' p = some (.tup [.ref n, .ref lp]) → H' lp = some (.lst (TN.map V.str)) → TN.Nodup → (∀ z ∈ TN, NameOk z) → TN.length ≤ 3 → NetAt t H' n (netL ns NS TN ZS TK) → Q (.ref p) H'
theorem ok_law_net (Tx : Tab K mg t) : FnOk P w K mg base CX0 8 t.f_law_net t.d_law_net ["_law_script", "_law_names_here", "_law_zones_here", "_law_tickets_here"] (spMkNet t K) := by
  refine Tx.F_law_net.ok sc_law_net (fun vs H Q E h => ?_) (fun cdv A outer s H vs Q E hr h => ?_)
  · obtain ⟨a, ln, lz, lt, ns, NS, ZS, vt, TK, rfl, _⟩ := h
    rfl
  obtain ⟨a, ln, lz, lt, ns, NS, ZS, vt, TK, rfl, hS, hln, n2, n8, ndN, okN, hlz, lenZ, okZ, hlt, alT, ndT, okT, lenT, q⟩ := h
  refine ⟨_, (pss_cons (ps_set (i := 4) sc_law_net.nd rfl (Or.inl rfl) (pe_make0 Tx.mk_Net (ok_Net_init Tx) (hr.mono (by omega)) rfl Tx.m_Net Tx.b_Net_init .nil pass0))
    (pss_cons (ps_for PassesOwn.never rfl (pi_enum rfl Tx.z_enumerate (pac (pv 1) pa_nil)) (pg_tup rfl (pgs_cons (pg_name (i := 5) sc_law_net.nd rfl (Or.inl rfl)) (pgs_cons (pg_name (i := 6) sc_law_net.nd rfl (Or.inl rfl)) pgs_nil)))
    (pss_one (ps_expr (pe_meth (pv 4) Tx.cl_Net Tx.me_Net_add_stop (ok_Net_add_stop Tx) (hr.mono (by omega)) Tx.b_Net_add_stop .nil pass0 (pac (pv 6) (pac (pe_ix ix_list (pv 2) (pv 5) (fun _ _ => rfl)) (pac pe_int pa_nil)))))))
    (pss_cons (ps_expr (pe_meth (pv 4) Tx.cl_Net Tx.me_Net_add_rule (ok_Net_add_rule Tx) (hr.mono (by omega)) Tx.b_Net_add_rule .nil pass0 (pac pe_str (pac (pe_makeN Tx.mkn_Rule rfl Tx.m_Rule) pa_nil))))
    (pss_cons (ps_for PassesOwn.never rfl (pi_list (pv 3)) (pg_tup rfl (pgs_cons (pg_name (i := 6) sc_law_net.nd rfl (Or.inl rfl)) (pgs_cons (pg_name (i := 7) sc_law_net.nd rfl (Or.inl rfl)) (pgs_cons (pg_name (i := 8) sc_law_net.nd rfl (Or.inl rfl)) (pgs_cons (pg_name (i := 9) sc_law_net.nd rfl (Or.inl rfl)) pgs_nil)))))
    (pss_one (ps_expr (pe_meth (pv 4) Tx.cl_Net Tx.me_Net_add_ticket (ok_Net_add_ticket Tx) (hr.mono (by omega)) Tx.b_Net_add_ticket .nil pass0 (pac (pv 6) (pac (pv 7) (pac (pv 8) (pac (pe_callTy call_list_of rfl Tx.z_list b_list (pac (pv 9) pa_nil)) pa_nil))))))))
    (pss_cons (ps_set (i := 10) sc_law_net.nd rfl (Or.inl rfl) (pe_call (ok_law_names Tx) (hr.mono (by omega)) rfl Tx.m_law_names Tx.F_law_names.kp Tx.b_law_names .nil pass0 (pac (pv 0) (pac pe_int (pac (pe_op op_add pe_int (pe_op op_mod (pe_call (ok_law_draw Tx) (hr.mono (by omega)) rfl Tx.m_law_draw Tx.F_law_draw.kp Tx.b_law_draw .nil pass0 (pac (pv 0) (pac pe_int pa_nil))) pe_int)) pa_nil)))))
    (pss_cons (ps_for PassesOwn.never rfl (pi_enum rfl Tx.z_enumerate (pac (pv 10) pa_nil)) (pg_tup rfl (pgs_cons (pg_name (i := 5) sc_law_net.nd rfl (Or.inl rfl)) (pgs_cons (pg_name (i := 6) sc_law_net.nd rfl (Or.inl rfl)) pgs_nil)))
    (pss_one (ps_expr (pe_meth (pv 4) Tx.cl_Net Tx.me_Net_add_trip (ok_Net_add_trip Tx) (hr.mono (by omega)) Tx.b_Net_add_trip .nil pass0 (pac (pv 6) (pac pe_str (pac (pe_call (ok_law_calls Tx) (hr.mono (by omega)) rfl Tx.m_law_calls Tx.F_law_calls.kp Tx.b_law_calls .nil pass0 (pac (pv 0) (pac (pe_op op_add pe_int (pe_op op_mul pe_int (pv 5))) (pac (pv 1) pa_nil)))) pa_nil)))))))
    (pss_one (ps_ret (pe_tup (pac (pv 4) (pac (pv 10) pa_nil))))))))))), ?_⟩
  intro x dx nx ndx nex
  refine ⟨x, H, rfl, nx, same_put (same_new ndx _) nx _, ⟨dx, upd_same⟩, fun H1 ds dr dt dp s1 hN hW => ⟨rfl, ?_⟩⟩
  refine ⟨_, rfl, ln, rfl, ⟨_, SqL.of (s1 _ _ hln)⟩, for_enum (xs := NS.map V.str) (fun i σ H' => Same H H' ∧ NetO t H' x ds dr dt dp ⟨stL NS ZS i, [], [], []⟩ ∧ ∃ v5 v6 v7 v8 v9 v10 : Option V, σ = [some (.ref a), some (.ref ln), some (.ref lz), some (.ref lt), some (.ref x), v5, v6, v7, v8, v9, v10]) ⟨s1, hN, _, _, _, _, _, _, rfl⟩ (fun i σ H' _ ⟨s', _⟩ => SqL.of (s' _ _ hln)) ?_ ?_⟩
  · rintro i v pp σ H2 hv hpp ⟨s2, hN2, v5, v6, v7, v8, v9, v10, rfl⟩
    rw [List.getElem?_map] at hv
    cases ez : NS[i]? with
    | none => rw [ez] at hv; cases hv
    | some z =>
      rw [ez] at hv
      obtain rfl : V.str z = v := Option.some.inj hv
      have hi := (List.getElem?_eq_some_iff.mp ez).1
      have egd : NS.getD i Str.empty = z := by rw [List.getD_eq_getElem?_getD, ez]; rfl
      have hzi : i < ZS.length := by omega
      have ezd : ZS.getD i 0 = ZS[i] := by rw [List.getD_eq_getElem?_getD, List.getElem?_eq_getElem hzi]; rfl
      have mz := okZ _ (List.getElem_mem hzi)
      have s3 := s2.trans (same_new hpp (.tup [.int (i : Nat), .str z]))
      have hN3 := hN2.same (same_new hpp (.tup [.int (i : Nat), .str z]))
      obtain ⟨dx3, fs3, f1, f2⟩ := hN3.ob
      have eat : atI (natV ZS) ((i : Nat) : Int) = some (.int ((ZS[i] : Nat) : Int)) := atI_nat (by unfold natV; rw [List.getElem?_map, List.getElem?_eq_getElem hzi]; rfl)
      refine ⟨pp, _, rfl, SqT.of upd_same, rfl, _, _, rfl, _, _, rfl, rfl, ?_⟩
      refine ⟨_, rfl, x, dx3, _, rfl, f1, f2.n7, _, rfl, _, rfl, _, rfl, lz, _, _, _, rfl, rfl, SqL.of (s3 _ _ hlz), eat, ?_⟩
      refine ⟨x, ds, dr, dt, dp, _, ⟨z, ZS[i], 3⟩, H, rfl, hN3, hW, s3, okN z (List.mem_of_getElem? ez), mz.1, mz.2, (by show (3 : Nat) ≤ 30; decide), ?_, ?_, fun H4 s4 hN4 => ?_⟩
      · have := fresh_nm (nm := Stp.nm) ndN (f := fun i => (⟨NS.getD i Str.empty, ZS.getD i 0, 3⟩ : Stp)) (fun i => rfl) hi
        rw [egd] at this
        exact this
      · show (stL NS ZS i).length < 8
        unfold stL
        rw [List.length_map, List.length_range]; omega
      · refine ⟨s4, ?_, _, _, _, _, _, _, rfl⟩
        rw [stL_take, egd, ezd]
        exact hN4
  · rintro σ H2 ⟨s2, hN2, v5, v6, v7, v8, v9, v10, rfl⟩
    have lenN : (NS.map V.str).length = NS.length := List.length_map ..
    rw [lenN] at hN2
    obtain ⟨dx2, fs2, f1, f2⟩ := hN2.ob
    refine ⟨_, rfl, x, dx2, _, rfl, f1, f2.n8, ?_⟩
    intro x3 dx3 nx3 ndx3 nex3
    have s3 := same_put (same_new ndx3 (.own x3)) nx3 (.ins t.c_Rule dx3 [])
    refine ⟨x, ds, dr, dt, dp, _, _, _, H, rfl, hN2.same s3, hW, s2.trans s3, all_name, ⟨x3, dx3, rfl, upd_same⟩, rfl, fun H3 s4 hN3 => ?_⟩
    refine ⟨_, rfl, lt, rfl, ⟨_, SqL.of (s4 _ _ hlt)⟩, for_list (xs := vt) (fun i σ H' => Same H H' ∧ NetO t H' x ds dr dt dp ⟨stL NS ZS NS.length, [allS], TK.take i, []⟩ ∧ ∃ v5 v6 v7 v8 v9 v10 : Option V, σ = [some (.ref a), some (.ref ln), some (.ref lz), some (.ref lt), some (.ref x), v5, v6, v7, v8, v9, v10]) ⟨s4, hN3, _, _, _, _, _, _, rfl⟩ (fun i σ H' _ ⟨s', _⟩ => SqL.of (s' _ _ hlt)) ?_ ?_⟩
    · rintro i v σ H4 hv ⟨s5, hN5, w5, w6, w7, w8, w9, w10, rfl⟩
      obtain ⟨k, ek, p, l5, rfl, hp, hz5⟩ := alT.get hv
      have hi := (List.getElem?_eq_some_iff.mp ek).1
      obtain ⟨dx5, fs5, f1, f2⟩ := hN5.ob
      refine ⟨p, _, rfl, SqT.of (s5 _ _ hp), rfl, _, _, rfl, _, _, rfl, _, _, rfl, _, _, rfl, rfl, ?_⟩
      refine ⟨_, rfl, x, dx5, _, rfl, f1, f2.n9, _, rfl, _, rfl, _, rfl, _, rfl, l5, _, rfl, .inl (SqL.of (s5 _ _ hz5)), fun l' hl' => ?_⟩
      have s6 := same_new hl' (.lst (natV (zonesOf k.b)))
      refine ⟨x, ds, dr, dt, dp, _, k, l', H, rfl, hN5.same s6, hW, s5.trans s6, upd_same, okT k (List.mem_of_getElem? ek), fnd_nodup ndT ek, by show (TK.take i).length < 3; rw [List.length_take]; omega, fun H6 s7 hN6 => ?_⟩
      refine ⟨s7, ?_, _, _, _, _, _, _, rfl⟩
      rw [show TK.take (i + 1) = TK.take i ++ [k] by rw [List.take_add_one, ek]; rfl]
      exact hN6
    · rintro σ H4 ⟨s5, hN5, w5, w6, w7, w8, w9, w10, rfl⟩
      rw [alT.length, List.take_length] at hN5
      refine ⟨_, rfl, _, rfl, a, ns, 41, rfl, s5.seq hS, by decide, by decide, fun d H5 hd s6 => ?_⟩
      refine ⟨_, _, rfl, rfl, (by show (0 : Int) < 3; decide), _, _, rfl, rfl, a, ns, 40, 1 + d % 3, ?_, (s5.trans s6).seq hS, by decide, by decide, by omega, fun TN lp H6 s7 _ hlp lenP ndP okP => ?_⟩
      · show [V.ref a, V.int 40, V.int (1 + ((d : Nat) : Int) % 3)] = _
        rw [show (1 : Int) + ((d : Nat) : Int) % 3 = ((1 + d % 3 : Nat) : Int) by omega]
      have S7 := (s5.trans s6).trans s7
      have hN7 := hN5.same (s6.trans s7)
      refine ⟨_, rfl, lp, rfl, ⟨_, SqL.of hlp⟩, for_enum (xs := TN.map V.str) (fun i σ H' => Same H H' ∧ H' lp = some (.lst (TN.map V.str)) ∧ NetO t H' x ds dr dt dp ⟨stL NS ZS NS.length, [allS], TK, tpL ns NS TN i⟩ ∧ ∃ v5 v6 v7 v8 v9 : Option V, σ = [some (.ref a), some (.ref ln), some (.ref lz), some (.ref lt), some (.ref x), v5, v6, v7, v8, v9, some (.ref lp)]) ⟨S7, hlp, hN7, _, _, _, _, _, rfl⟩ (fun i σ H' _ ⟨_, e, _⟩ => SqL.of e) ?_ ?_⟩
      · rintro i v pp σ H7 hv hpp ⟨s8, hlp8, hN8, u5, u6, u7, u8, u9, rfl⟩
        rw [List.getElem?_map] at hv
        cases ez : TN[i]? with
        | none => rw [ez] at hv; cases hv
        | some z =>
          rw [ez] at hv
          obtain rfl : V.str z = v := Option.some.inj hv
          have hi := (List.getElem?_eq_some_iff.mp ez).1
          have egd : TN.getD i Str.empty = z := by rw [List.getD_eq_getElem?_getD, ez]; rfl
          have s9 := s8.trans (same_new hpp (.tup [.int (i : Nat), .str z]))
          have hN9 := hN8.same (same_new hpp (.tup [.int (i : Nat), .str z]))
          obtain ⟨dx9, fs9, f1, f2⟩ := hN9.ob
          refine ⟨pp, _, rfl, SqT.of upd_same, rfl, _, _, rfl, _, _, rfl, rfl, ?_⟩
          refine ⟨_, rfl, x, dx9, _, rfl, f1, f2.n0, _, rfl, _, rfl, _, rfl, _, _, rfl, rfl, .inl ⟨by decide, by decide⟩, _, _, rfl, rfl, _, rfl, a, ln, ns, 50 + 8 * i, NS, ?_, s9.seq hS, by omega, s9 _ _ hln, n2, n8, fun lc vc H8 s10 _ hlc alc => ?_⟩
          · show [V.ref a, V.int (50 + 8 * ((i : Nat) : Int)), V.ref ln] = _
            rw [show (50 : Int) + 8 * ((i : Nat) : Int) = ((50 + 8 * i : Nat) : Int) by omega]
          have ok9 : ClsOk ⟨stL NS ZS NS.length, [allS], TK, tpL ns NS TN i⟩ (callsF ns ((50 + 8 * i : Nat) : Int) NS) := calls_ok ndN n2 (stL_nm NS ZS)
          refine ⟨x, ds, dr, dt, dp, _, ⟨z, allS, callsF ns ((50 + 8 * i : Nat) : Int) NS⟩, lc, vc, H, rfl, hN9.same s10, hW, s9.trans s10, hlc, alc, ok9, okP z (List.mem_of_getElem? ez), List.mem_singleton.mpr rfl, ?_, ?_, fun H9 s11 w11 hN11 => ?_⟩
          · have := fresh_nm (nm := Tp.nm) ndP (f := fun i => (⟨TN.getD i Str.empty, allS, callsF ns ((50 + 8 * i : Nat) : Int) NS⟩ : Tp)) (fun i => rfl) hi
            rw [egd] at this
            exact this
          · show (tpL ns NS TN i).length < 10
            unfold tpL
            rw [List.length_map, List.length_range]; omega
          · refine ⟨s11, ?_, ?_, _, _, _, _, _, rfl⟩
            · have e9 := s10 _ _ ((same_new hpp (.tup [.int (i : Nat), .str z])) _ _ hlp8)
              obtain ⟨rows9, r9, _⟩ := (hN9.same s10).tp
              exact w11 _ _ (wo_at e9 (ne_of e9 r9 (by intro z; cases z)))
            · rw [tpL_take, egd]
              exact hN11
      · rintro σ H7 ⟨s8, hlp8, hN8, u5, u6, u7, u8, u9, rfl⟩
        have lenP2 : (TN.map V.str).length = TN.length := List.length_map ..
        rw [lenP2] at hN8
        refine ⟨_, rfl, _, rfl, by show 2 ≤ sizeLine; decide, fun pr gr => ?_⟩
        have s9 := same_new gr (.tup [.ref x, .ref lp])
        exact q pr x lp TN _ (s8.trans s9) upd_same (s9 _ _ hlp8) ndP okP (by omega) ⟨ds, dr, dt, dp, hN8.same s9⟩

theorem bit_step : ∀ b : Nat, b < 64 → ∀ z : Nat, z < 7 → 1 ≤ z → (b ||| 2 ^ (z - 1) < 64 ∧ ∀ y : Nat, y < 7 → decide (y ∈ zonesOf (b ||| 2 ^ (z - 1))) = (decide (y ∈ zonesOf b) || decide (y = z))) := by decide +kernel
theorem zb_all (zs : List Nat) (h : ∀ z ∈ zs, 1 ≤ z ∧ z ≤ 6) : ∀ b : Nat, b < 64 → (zs.foldl (fun b z => b ||| 2 ^ (z - 1)) b < 64 ∧ ∀ y, y ∈ zonesOf (zs.foldl (fun b z => b ||| 2 ^ (z - 1)) b) ↔ (y ∈ zonesOf b ∨ y ∈ zs)) := by
  induction zs with
  | nil => intro b hb; exact ⟨hb, fun y => ⟨fun h => .inl h, fun h => h.elim id fun x => by cases x⟩⟩
  | cons z zs ih =>
    intro b hb
    have hz := h z (List.mem_cons_self ..)
    have st := bit_step b hb z (by omega) hz.1
    have := ih (fun y hy => h y (List.mem_cons_of_mem _ hy)) _ st.1
    refine ⟨this.1, fun y => ?_⟩
    rw [List.foldl_cons, this.2 y, List.mem_cons]
    by_cases hy : y < 7
    · have e := st.2 y hy
      have e' : (y ∈ zonesOf (b ||| 2 ^ (z - 1))) ↔ (y ∈ zonesOf b ∨ y = z) := by
        constructor
        · intro m; rw [decide_eq_true m] at e; simpa using e.symm
        · intro m
          have : (decide (y ∈ zonesOf b) || decide (y = z)) = true := by simpa using m
          rw [this] at e
          exact of_decide_eq_true e
      rw [e']
      constructor
      · rintro ((a | a) | a)
        · exact .inl a
        · exact .inr (.inl a)
        · exact .inr (.inr a)
      · rintro (a | a | a)
        · exact .inl (.inl a)
        · exact .inl (.inr a)
        · exact .inr a
    · constructor
      · rintro (a | a)
        · exact absurd (zones_rng _ y a).2 (by omega)
        · exact absurd (h y (List.mem_cons_of_mem _ a)).2 (by omega)
      · rintro (a | a | a)
        · exact absurd (zones_rng _ y a).2 (by omega)
        · omega
        · exact absurd (h y (List.mem_cons_of_mem _ a)).2 (by omega)
theorem zb_lt {zs : List Nat} (h : ∀ z ∈ zs, 1 ≤ z ∧ z ≤ 6) : zb zs < 64 := (zb_all zs h 0 (by decide)).1
theorem zb_mem {zs : List Nat} (h : ∀ z ∈ zs, 1 ≤ z ∧ z ≤ 6) (y : Nat) : y ∈ zonesOf (zb zs) ↔ y ∈ zs := by
  have := (zb_all zs h 0 (by decide)).2 y
  rw [show zonesOf 0 = [] by decide] at this
  constructor
  · intro m; rcases this.mp m with a | a; cases a; exact a
  · intro m; exact this.mpr (.inr m)
theorem sorted_ext : ∀ {xs ys : List Nat}, xs.Pairwise (· < ·) → ys.Pairwise (· < ·) → (∀ z, z ∈ xs ↔ z ∈ ys) → xs = ys
  | [], [], _, _, _ => rfl
  | [], y :: ys, _, _, h => by have := (h y).mpr (List.mem_cons_self ..); cases this
  | x :: xs, [], _, _, h => by have := (h x).mp (List.mem_cons_self ..); cases this
  | x :: xs, y :: ys, hx, hy, h => by
    rw [List.pairwise_cons] at hx hy
    have e : x = y := by
      rcases List.mem_cons.mp ((h x).mp (List.mem_cons_self ..)) with e | e
      · exact e
      · rcases List.mem_cons.mp ((h y).mpr (List.mem_cons_self ..)) with e2 | e2
        · exact e2.symm
        · have := hy.1 x e
          have := hx.1 y e2
          omega
    subst e
    rw [sorted_ext hx.2 hy.2 fun z => ?_]
    constructor
    · intro m
      rcases List.mem_cons.mp ((h z).mp (List.mem_cons_of_mem _ m)) with e | e
      · have := hx.1 z m; omega
      · exact e
    · intro m
      rcases List.mem_cons.mp ((h z).mpr (List.mem_cons_of_mem _ m)) with e | e
      · have := hy.1 z m; omega
      · exact e
theorem sum_zones : ∀ b : Nat, b < 64 → sumB (zonesOf b) = b := by decide +kernel
theorem sorted_zb {ys zs : List Nat} (h : ∀ z ∈ zs, 1 ≤ z ∧ z ≤ 6) (up : ys.Pairwise (· < ·)) (m : ∀ z, z ∈ ys ↔ z ∈ zs) : ys = zonesOf (zb zs) := sorted_ext up (zones_up _) fun z => by rw [m, zb_mem h]
theorem sum_zb {ys zs : List Nat} (h : ∀ z ∈ zs, 1 ≤ z ∧ z ≤ 6) (up : ys.Pairwise (· < ·)) (m : ∀ z, z ∈ ys ↔ z ∈ zs) : sumB ys = zb zs := by
  rw [sorted_zb h up m]; exact sum_zones _ (zb_lt h)
theorem nat_ints (zs : List Nat) : natV zs = (zs.map fun n => ((n : Nat) : Int)).map V.int := by
  rw [List.map_map]; rfl
theorem nat_of {zs : List Int} {ks : List Nat} (pw : zs.Pairwise (· < ·)) (mem : ∀ k, k ∈ zs ↔ k ∈ ks.map fun n => ((n : Nat) : Int)) : zs.map V.int = natV (zs.map Int.toNat) ∧ (zs.map Int.toNat).Pairwise (· < ·) ∧ ∀ z, z ∈ zs.map Int.toNat ↔ z ∈ ks := by
  have nn : ∀ z ∈ zs, ∃ n : Nat, z = ((n : Nat) : Int) ∧ n ∈ ks := fun z hz => by
    obtain ⟨n, hn, rfl⟩ := List.mem_map.mp ((mem z).mp hz)
    exact ⟨n, rfl, hn⟩
  refine ⟨?_, ?_, fun z => ⟨fun hz => ?_, fun hz => ?_⟩⟩
  · show zs.map V.int = (zs.map Int.toNat).map _
    rw [List.map_map]
    refine List.map_congr_left fun z hz => ?_
    obtain ⟨n, rfl, _⟩ := nn z hz
    rfl
  · rw [List.pairwise_map]
    refine List.Pairwise.imp_of_mem (fun {x y} hx hy h => ?_) pw
    obtain ⟨n, rfl, _⟩ := nn x hx
    obtain ⟨m, rfl, _⟩ := nn y hy
    simp only [Int.toNat_natCast]
    omega
  · obtain ⟨y, hy, rfl⟩ := List.mem_map.mp hz
    obtain ⟨n, rfl, q⟩ := nn y hy
    simpa using q
  · exact List.mem_map.mpr ⟨((z : Nat) : Int), (mem _).mpr (List.mem_map.mpr ⟨z, hz, rfl⟩), by simp⟩
theorem zone_at {NS : List Str} {ZS : List Nat} {ru : List Str} {tk : List Tk} {tp : List Tp} (nd : NS.Nodup) {i : Nat} (hi : i < NS.length) : fnd Stp.nm (stL NS ZS NS.length) (NS.getD i Str.empty) = some ⟨NS.getD i Str.empty, ZS.getD i 0, 3⟩ := by
  have m : (⟨NS.getD i Str.empty, ZS.getD i 0, 3⟩ : Stp) ∈ stL NS ZS NS.length := List.mem_map.mpr ⟨i, List.mem_range.mpr hi, rfl⟩
  exact fnd_uniq (nm := Stp.nm) (by rw [show (stL NS ZS NS.length).map Stp.nm = NS from stL_nm NS ZS]; exact nd) m
theorem net_good {ns : List Int} {NS TN : List Str} {ZS : List Nat} {TK : List Tk} (hz : ∀ z ∈ ZS, 1 ≤ z ∧ z ≤ 6) (hl : ZS.length = NS.length) : NetGood (netL ns NS TN ZS TK) := by
  intro x hx
  obtain ⟨i, hi, rfl⟩ := List.mem_map.mp hx
  have hi := List.mem_range.mp hi
  show 1 ≤ ZS.getD i 0 ∧ ZS.getD i 0 ≤ 6
  rw [List.getD_eq_getElem?_getD, List.getElem?_eq_getElem (show i < ZS.length by omega)]
  exact hz _ (List.getElem_mem _)
def spRight (t : Adr) (K : W.Frag) : Sp := fun vs H Q _ => ∃ (a n ln lz : Addr) (ns : List Int) (NS TN : List Str) (ZS : List Nat) (TK : List Tk) (k : Nat), vs = [.ref a, .ref n, .str (TN.getD k Str.empty), .int (k : Nat), .ref ln, .ref lz] ∧ SqL K H a (ns.map V.int) ∧ NetAt t H n (netL ns NS TN ZS TK) ∧
  H ln = some (.lst (NS.map V.str)) ∧ 2 ≤ NS.length ∧ NS.length ≤ 8 ∧ NS.Nodup ∧ H lz = some (.lst (natV ZS)) ∧ ZS.length = NS.length ∧ (∀ z ∈ ZS, 1 ≤ z ∧ z ≤ 6) ∧ TN.Nodup ∧ k < TN.length ∧ TN.length ≤ 3 ∧ ∀ H', Same H H' → Q (.bl true) H'
theorem ok_law_rides_right (Tx : Tab K mg t) : FnOk P w K mg base CX0 9 t.f_law_rides_right t.d_law_rides_right ["_law_script", "_law_net_here", "_law_trip", "_law_k", "_law_names_here", "_law_zones_here"] (spRight t K) := by
  refine Tx.F_law_rides_right.ok sc_law_rides_right (fun vs H Q E h => ?_) (fun cdv A outer s H vs Q E hr h => ?_)
  · obtain ⟨a, n, ln, lz, ns, NS, TN, ZS, TK, k, rfl, _⟩ := h
    rfl
  obtain ⟨a, n, ln, lz, ns, NS, TN, ZS, TK, k, rfl, hS, hA, hln, n2, n8, ndN, hlz, lenZ, okZ, ndP, hk, hk3, q⟩ := h
  have etp : fnd Tp.nm (netL ns NS TN ZS TK).tp (TN.getD k Str.empty) = some ⟨TN.getD k Str.empty, allS, callsF ns ((50 + 8 * k : Nat) : Int) NS⟩ := by
    have m : (⟨TN.getD k Str.empty, allS, callsF ns ((50 + 8 * k : Nat) : Int) NS⟩ : Tp) ∈ tpL ns NS TN TN.length := List.mem_map.mpr ⟨k, List.mem_range.mpr hk, rfl⟩
    refine fnd_uniq (nm := Tp.nm) ?_ m
    have : (tpL ns NS TN TN.length).map Tp.nm = TN := by
      unfold tpL
      rw [List.map_map]
      apply List.ext_getElem
      · rw [List.length_map, List.length_range]
      · intro i h1 h2
        rw [List.getElem_map, List.getElem_range]
        show TN.getD i Str.empty = _
        rw [List.getD_eq_getElem?_getD, List.getElem?_eq_getElem h2]
        rfl
    show ((tpL ns NS TN TN.length).map Tp.nm).Nodup
    rw [this]
    exact ndP
  generalize hcs : callsF ns ((50 + 8 * k : Nat) : Int) NS = cs at etp
  have okc : ClsOk (netL ns NS TN ZS TK) cs := by rw [← hcs]; exact calls_ok ndN n2 (stL_nm NS ZS)
  have idx : ∀ c ∈ cs, ∃ j, j < NS.length ∧ c.st = NS.getD j Str.empty := fun c hc => by
    rw [← hcs] at hc
    obtain ⟨j, _, rfl⟩ := List.mem_map.mp hc
    exact ⟨_, sC_lt _ _ _ (by omega) _, rfl⟩
  have hG := net_good (ns := ns) (NS := NS) (TN := TN) (TK := TK) okZ lenZ
  refine ⟨_, (pss_cons (ps_set (i := 6) sc_law_rides_right.nd rfl (Or.inl rfl) (pe_call (ok_law_calls Tx) (hr.mono (by omega)) rfl Tx.m_law_calls Tx.F_law_calls.kp Tx.b_law_calls .nil pass0 (pac (pv 0) (pac (pe_op op_add pe_int (pe_op op_mul pe_int (pv 3))) (pac (pv 4) pa_nil)))))
    (pss_cons (ps_for PassesOwn.never rfl (pi_range1 rfl Tx.z_range (pac (pe_op op_sub (pe_callB call_len_seq rfl Tx.z_len b_len (pac (pv 6) pa_nil)) pe_int) pa_nil)) (pg_name (i := 7) sc_law_rides_right.nd rfl (Or.inl rfl))
    (pss_one (ps_for PassesOwn.never rfl (pi_range2 rfl Tx.z_range (pac (pe_op op_add (pv 7) pe_int) (pac (pe_callB call_len_seq rfl Tx.z_len b_len (pac (pv 6) pa_nil)) pa_nil))) (pg_name (i := 8) sc_law_rides_right.nd rfl (Or.inl rfl))
    (pss_cons (ps_set (i := 9) sc_law_rides_right.nd rfl (Or.inl rfl) (pe_callB (call_sortedI rfl) rfl Tx.z_sorted b_sorted (pac (pe_callTy (call_setI rfl) rfl Tx.z_set b_set (pac (pe_comp (cl := [(Str.ofString "_law_zones_here", s.heap.objs.size + 2), (Str.ofString "_law_names_here", s.heap.objs.size + 1)]) (N := ["_law_call", "_law_zones_here", "_law_names_here"]) (fr := [none, some 5, some 4]) rfl (pi_list (pe_slice sl_list (pv 6) (po_some (pv 7)) (po_some (pe_op op_add (pv 8) pe_int)))) rfl (by decide +kernel) rfl (by decide +kernel) ⟨⟨rfl, Or.inl rfl, Or.inl rfl, _, rfl, rfl⟩, ⟨⟨rfl, Or.inl rfl, Or.inl rfl, _, rfl, rfl⟩, trivial⟩⟩ ⟨rfl, ⟨rfl, trivial⟩⟩ rfl (fun _ _ _ _ _ => (pg_name (i := 0) (show List.Nodup (["_law_call", "_law_zones_here", "_law_names_here"] : List Str) by decide +kernel) rfl (Or.inl rfl))) (fun _ _ _ _ _ => pts_nil) (fun _ _ _ _ _ => (pe_ix (show IxR _ (rIxL K) from ix_list) (pv 1) (show PE _ _ (tBM K "list" _ _ _) from (pe_bm PySem.F.plainAttrs_list PySem.F.slot_list_index PySem.F.type_list_index mt_index (pv 2) (pac (pe_ix (show IxR _ (rIxT K) from ix_tup) (pv 0) pe_int (fun _ _ => rfl)) pa_nil))) (fun _ _ => rfl)))) pa_nil)) pa_nil)))
    (pss_cons (ps_set (i := 10) sc_law_rides_right.nd rfl (Or.inl rfl) (pe_call (ok_zones_of Tx) (hr.mono (by omega)) rfl Tx.m_zones_of Tx.F_zones_of.kp Tx.b_zones_of .nil pass0 (pac (pv 1) (pac (pv 2) (pac (pv 7) (pac (pv 8) pa_nil))))))
    (pss_one (ps_if (PW.pt (pw_or (pt_not (pt_val (pe_call (ok_law_whole Tx) (hr.mono (by omega)) rfl Tx.m_law_whole Tx.F_law_whole.kp Tx.b_law_whole .nil pass0 (pac (pv 10) pa_nil)))) (pw_or1 (pt_cmpR op_ne (pv 10) (pe_call (ok_law_bits Tx) (hr.mono (by omega)) rfl Tx.m_law_bits Tx.F_law_bits.kp Tx.b_law_bits .nil pass0 (pac (pv 9) pa_nil)) (nomark _)))))
    (pss_one (ps_ret pe_bl))
    pss_nil)))))))
    (pss_cons (ps_set (i := 11) sc_law_rides_right.nd rfl (Or.inl rfl) (pe_call (ok_law_draw Tx) (hr.mono (by omega)) rfl Tx.m_law_draw Tx.F_law_draw.kp Tx.b_law_draw .nil pass0 (pac (pv 0) (pac (pe_op op_add pe_int (pv 3)) pa_nil))))
    (pss_cons (ps_set (i := 12) sc_law_rides_right.nd rfl (Or.inl rfl) (pe_op op_sub (pe_callB call_len_seq rfl Tx.z_len b_len (pac (pv 6) pa_nil)) pe_int))
    (pss_cons (ps_set (i := 13) sc_law_rides_right.nd rfl (Or.inl rfl) (pe_ix ix_list (pe_lst (pac (pe_un un_neg pe_int) (pac pe_bl (pac pe_bl (pac pe_non (pac pe_str (pac (pe_tup (pac pe_int pa_nil)) (pac (pe_lst (pac pe_int pa_nil)) (pac (pe_tup pa_nil) (pac pe_dnew (pac (pe_op op_pow pe_int pe_int) pa_nil))))))))))) (pe_op op_mod (pv 11) pe_int) (fun _ _ => rfl)))
    (pss_cons (ps_for PassesOwn.never rfl (pi_tup (pe_tup (pac (pe_tup (pac (pv 13) (pac (pv 12) pa_nil))) (pac (pe_tup (pac (pv 12) (pac (pe_op op_add (pv 12) pe_int) pa_nil))) (pac (pe_tup (pac (pv 12) (pac (pv 13) pa_nil))) (pac (pe_tup (pac pe_int (pac (pv 13) pa_nil))) (pac (pe_tup (pac (pe_op op_sub (pv 12) pe_int) (pac (pe_op op_sub (pv 12) pe_int) pa_nil))) pa_nil))))))) (pg_tup rfl (pgs_cons (pg_name (i := 7) sc_law_rides_right.nd rfl (Or.inl rfl)) (pgs_cons (pg_name (i := 8) sc_law_rides_right.nd rfl (Or.inl rfl)) pgs_nil)))
    (pss_one (ps_if (pt_cmpR (op_ne_lst hr.units0) (pe_call (ok_law_refused Tx) (hr.mono (by omega)) rfl Tx.m_law_refused Tx.F_law_refused.kp Tx.b_law_refused .nil pass0 (pac pe_int (pac (pv 1) (pac (pv 2) (pac (pv 7) (pac (pv 8) pa_nil)))))) (pe_lst (pac pe_str pa_nil)) (nomark _))
    (pss_one (ps_ret pe_bl))
    pss_nil)))
    (pss_one (ps_ret pe_bl)))))))), ?_⟩
  refine ⟨_, rfl, _, rfl, _, _, rfl, rfl, .inl ⟨by decide, by decide⟩, _, _, rfl, rfl, _, rfl, a, ln, ns, 50 + 8 * k, NS, ?_, hS, by omega, hln, n2, n8, fun lc vc H1 s1 _ hlc alc => ?_⟩
  · show [V.ref a, V.int (50 + 8 * ((k : Nat) : Int)), V.ref ln] = _
    rw [show (50 : Int) + 8 * ((k : Nat) : Int) = ((50 + 8 * k : Nat) : Int) by omega]
  rw [hcs] at alc
  have lc2 := alc.length
  have c2 := okc.two
  have c6 := okc.six
  refine ⟨_, rfl, lc, _, rfl, .inl (SqL.of hlc), _, _, rfl, rfl, _, rfl, by omega, by omega, for_range (fun i σ H' => Same H1 H' ∧ ∃ v7 v8 v9 v10 : Option V, σ = [some (.ref a), some (.ref n), some (.str (TN.getD k Str.empty)), some (.int (k : Nat)), some (.ref ln), some (.ref lz), some (.ref lc), v7, v8, v9, v10, none, none, none]) ⟨Same.refl H1, _, _, _, _, rfl⟩ ?_ ?_⟩
  · rintro i σ H2 hi ⟨s2, v7, v8, v9, v10, rfl⟩
    rw [show (0 : Int) + ((i : Nat) : Int) = ((i : Nat) : Int) by omega]
    refine ⟨_, rfl, _, _, rfl, rfl, _, rfl, lc, _, rfl, .inl (SqL.of (s2 _ _ hlc)), _, _, rfl, ⟨by omega, by omega, by omega, by omega⟩, for_range (fun j σ H' => Same H1 H' ∧ ∃ v8 v9 v10 : Option V, σ = [some (.ref a), some (.ref n), some (.str (TN.getD k Str.empty)), some (.int (k : Nat)), some (.ref ln), some (.ref lz), some (.ref lc), some (.int (i : Nat)), v8, v9, v10, none, none, none]) ⟨s2, _, _, _, rfl⟩ ?_ ?_⟩
    · rintro j σ H3 hj ⟨s3, w8, w9, w10, rfl⟩
      have S3 := s1.trans s3
      obtain ⟨o, ho, hio, hoc⟩ : ∃ o : Nat, ((i : Nat) : Int) + 1 + ((j : Nat) : Int) = ((o : Nat) : Int) ∧ i < o ∧ o < cs.length := ⟨i + 1 + j, by omega, by omega, by omega⟩
      rw [ho]
      have hlc3 := s3 _ _ hlc
      refine ⟨_, rfl, _, rfl, _, rfl, _, rfl, _, _, rfl, rfl, _, rfl, lc, _, rfl, SqL.of hlc3, fun l2 hl2 => ?_⟩
      rw [show cutV vc (some ((i : Nat) : Int)) (some (((o : Nat) : Int) + 1)) = (vc.drop i).take (o + 1 - i) from cut_mid vc i (o + 1) (by omega) (by omega)]
      have s4 := same_new hl2 (.lst ((vc.drop i).take (o + 1 - i)))
      have S4 := S3.trans s4
      have al2 := ((alc.drop i).take (o + 1 - i)).imp fun _ _ => ClAt.same (s3.trans s4)
      have len2 : ((cs.drop i).take (o + 1 - i)).length ≤ 6 := by rw [List.length_take, List.length_drop]; omega
      have rngZ : ∀ z ∈ ((cs.drop i).take (o + 1 - i)).map (fun c => zoneM (netL ns NS TN ZS TK) c.st), 1 ≤ z ∧ z ≤ 6 := fun z hz => by
        obtain ⟨c, hc, rfl⟩ := List.mem_map.mp hz
        obtain ⟨j0, hj0, ej⟩ := idx c (List.mem_of_mem_drop (List.mem_of_mem_take hc))
        unfold zoneM
        have := zone_at (ZS := ZS) (ru := []) (tk := []) (tp := []) ndN hj0
        rw [ej, show fnd Stp.nm (netL ns NS TN ZS TK).st (NS.getD j0 Str.empty) = _ from this]
        exact hG _ (fnd_mem this).1
      refine ⟨l2, rfl, ⟨_, SqL.of upd_same⟩, comp_list (K := K) (a := l2) (xs := (vc.drop i).take (o + 1 - i)) (fun m acc σ H' => H' = upd H3 l2 (.lst ((vc.drop i).take (o + 1 - i))) ∧ (∃ v, σ = [v, some (.ref lz), some (.ref ln)]) ∧ acc = natV ((((cs.drop i).take (o + 1 - i)).take m).map fun c => zoneM (netL ns NS TN ZS TK) c.st)) ⟨rfl, ⟨_, rfl⟩, rfl⟩
        (by rw [al2.length]; exact Nat.le_trans len2 (by decide)) (fun m acc σ H' _ ⟨e, _⟩ => by rw [e]; exact SqL.of upd_same) ?_ ?_⟩
      · rintro m y acc σ H' hm hy ⟨rfl, ⟨v, rfl⟩, rfl⟩
        obtain ⟨c, ec, pc, rfl, hpc⟩ := al2.get hy
        obtain ⟨j0, hj0, ej⟩ := idx c (List.mem_of_mem_drop (List.mem_of_mem_take (List.mem_of_getElem? ec)))
        have hj0z : j0 < ZS.length := by omega
        have zat := zone_at (ZS := ZS) (ru := []) (tk := []) (tp := []) ndN hj0
        have ezm : zoneM (netL ns NS TN ZS TK) c.st = ZS[j0] := by
          unfold zoneM
          rw [ej, show fnd Stp.nm (netL ns NS TN ZS TK).st (NS.getD j0 Str.empty) = _ from zat]
          show ZS.getD j0 0 = _
          rw [List.getD_eq_getElem?_getD, List.getElem?_eq_getElem hj0z]; rfl
        have eat : atI (natV ZS) ((j0 : Nat) : Int) = some (.int ((ZS[j0] : Nat) : Int)) := atI_nat (by unfold natV; rw [List.getElem?_map, List.getElem?_eq_getElem hj0z]; rfl)
        have egd : NS.getD j0 Str.empty = NS[j0] := by rw [List.getD_eq_getElem?_getD, List.getElem?_eq_getElem hj0]; rfl
        dsimp only [gName, tTrue]
        rw [if_pos rfl]
        refine ⟨_, rfl, _, rfl, .inl ⟨rfl, _, SqL.of (S4 _ _ hln)⟩, _, rfl, pc, _, 0, _, rfl, rfl, SqT.of hpc, rfl, ln, _, _, j0, .str NS[j0], rfl, rfl, S4 _ _ hln, rfl, ?_, ?_, ?_, ?_, lz, _, _, _, rfl, rfl, SqL.of (S4 _ _ hlz), eat, ?_⟩
        · rw [List.all_eq_true]
          intro v hv
          obtain ⟨z, _, rfl⟩ := List.mem_map.mp hv
          rfl
        · rw [List.getElem?_map, List.getElem?_eq_getElem hj0]; rfl
        · show (NS[j0] == c.st) = true
          rw [ej, egd]; exact beq_self_eq_true _
        · intro m' z' hm' ez'
          rw [List.getElem?_map] at ez'
          cases en : NS[m']? with
          | none => rw [en] at ez'; cases ez'
          | some w =>
            rw [en] at ez'
            obtain rfl : V.str w = z' := Option.some.inj ez'
            show (w == c.st) = false
            rw [beq_eq_false_iff_ne, ej, egd]
            intro e
            obtain ⟨h1, h2⟩ := List.getElem?_eq_some_iff.mp en
            rw [← h2] at e
            have := (List.getElem_inj ndN).mp e
            omega
        · refine ⟨by rw [List.length_append, List.length_singleton]; omega, rfl, ⟨_, rfl⟩, ?_⟩
          rw [List.take_add_one, ec, List.map_append]
          unfold natV
          rw [List.map_append]
          show _ ++ [V.int ((ZS[j0] : Nat) : Int)] = _ ++ [V.int ((zoneM (netL ns NS TN ZS TK) c.st : Nat) : Int)]
          rw [ezm]
      · rintro acc σ H' ha ⟨rfl, ⟨v, rfl⟩, rfl⟩ p2 g2
        rw [al2.length, List.take_length]
        generalize hzs : ((cs.drop i).take (o + 1 - i)).map (fun c => zoneM (netL ns NS TN ZS TK) c.st) = zs at rngZ
        have lzs : zs.length ≤ 6 := by rw [← hzs, List.length_map]; exact len2
        have s5 := same_new g2 (.lst (natV zs))
        refine ⟨p2, _, rfl, SqL.of (by rw [upd_same, nat_ints zs]), by rw [List.length_map]; omega, fun ls hls => ?_⟩
        refine ⟨ls, _, rfl, upd_same, by rw [List.length_map]; omega, fun lm ys hlm pw mem le => ?_⟩
        have s6 := same_new hls (setO P w ls (zs.map fun n => ((n : Nat) : Int)))
        have s7 := same_new hlm (.lst (ys.map V.int))
        obtain ⟨ey, up, my⟩ := nat_of pw mem
        have S7 := ((S4.trans s5).trans s6).trans s7
        have T7 := (((s3.trans s4).trans s5).trans s6).trans s7
        have hlm7 : ∀ {H : Hp}, upd H lm (.lst (ys.map V.int)) lm = some (.lst (natV (ys.map Int.toNat))) := by rw [ey]; exact upd_same
        refine ⟨_, rfl, _, rfl, _, rfl, _, rfl, n, _, _, _, i, o, rfl, hA.same S7, hG, etp, hio, hoc, c6, okc.st, fun H5 s8 => ?_⟩
        show _
        have ezs : ((((⟨TN.getD k Str.empty, allS, cs⟩ : Tp).cs.drop i).take (o + 1 - i)).map fun c => zoneM (netL ns NS TN ZS TK) c.st) = zs := hzs
        rw [ezs]
        refine ⟨_, rfl, .int ((zb zs : Nat) : Int), "int", rfl, .int _, _, rfl, itF Bool.false_ne_true ?_⟩
        refine ⟨_, rfl, _, rfl, lm, ys.map Int.toNat, rfl, SqL.of (s8 _ _ hlm7), fun z hz => rngZ z ((my z).mp hz), ?_, fun H6 s9 => ⟨rfl, _, rfl, itF ?_ ⟨(T7.trans s8).trans s9, _, _, _, rfl⟩⟩⟩
        · rw [List.length_map]
          have := le
          rw [List.length_map] at this
          omega
        · rw [sum_zb rngZ up my]
          show ¬ (!decide (V.int ((zb zs : Nat) : Int) = V.int ((zb zs : Nat) : Int))) = true
          simp
    · rintro σ H3 ⟨s3, w8, w9, w10, rfl⟩
      exact ⟨s3, _, _, _, _, rfl⟩
  · rintro σ H2 ⟨s2, v7, v8, v9, v10, rfl⟩
    have S2 := s1.trans s2
    refine ⟨_, rfl, _, rfl, _, _, rfl, rfl, a, ns, _, rfl, S2.seq hS, by omega, by omega, fun d H3 hd s3 => ?_⟩
    have T3 := s2.trans s3
    refine ⟨_, rfl, lc, _, rfl, .inl (SqL.of (T3 _ _ hlc)), _, _, rfl, rfl, ?_⟩
    refine ⟨_, rfl, by show 1 ≤ sizeLine; decide, fun q1 h1 => ?_⟩
    have u1 := same_new h1 (.tup [.int 1])
    refine ⟨by show 1 ≤ sizeLine; decide, fun q2 h2 => ?_⟩
    have u2 := same_new h2 (.lst [.int 0])
    refine ⟨by show 0 ≤ sizeLine; decide, fun q3 h3 => ?_⟩
    have u3 := same_new h3 (.tup [])
    intro q4 h4
    have u4 := same_new h4 (.dK [])
    refine ⟨_, _, rfl, rfl, ⟨by decide, by decide, by decide⟩, by show 10 ≤ sizeLine; decide, fun q5 h5 => ?_⟩
    have U4 := ((u1.trans u2).trans u3).trans u4
    have k1 := ((u2.trans u3).trans u4) q1 _ upd_same
    have k2 := (u3.trans u4) q2 _ upd_same
    have k3 := u4 q3 _ upd_same
    have k4 := @upd_same (upd (upd (upd H3 q1 (.tup [.int 1])) q2 (.lst [.int 0])) q3 (.tup [])) q4 (.dK [])
    generalize upd (upd (upd (upd H3 q1 (.tup [.int 1])) q2 (.lst [.int 0])) q3 (.tup [])) q4 (.dK []) = H4 at U4 k1 k2 k3 k4 h5 ⊢
    obtain ⟨vo, eo, To, ko, no⟩ := at_all (p := fun v => ∃ T, Kd H4 v T ∧ ∀ lo hi : Int, 0 ≤ lo → hi ≤ 5 → numV v lo hi = false) (xs := [.int (-1), .bl true, .bl false, .non, .str (Str.ofString "0"), .ref q1, .ref q2, .ref q3, .ref q4, .int (10 ^ (20 : Int).toNat)]) (d := ((d : Nat) : Int) % 10) (fun v hv => by
      simp only [List.mem_cons, List.not_mem_nil, or_false] at hv
      rcases hv with rfl | rfl | rfl | rfl | rfl | rfl | rfl | rfl | rfl | rfl
      · exact ⟨_, .int _, fun lo hi h1 h2 => decide_eq_false (by omega)⟩
      · exact ⟨_, .bl _, fun lo hi _ _ => rfl⟩
      · exact ⟨_, .bl _, fun lo hi _ _ => rfl⟩
      · exact ⟨_, .non, fun lo hi _ _ => rfl⟩
      · exact ⟨_, .str _, fun lo hi _ _ => rfl⟩
      · exact ⟨_, .tup k1, fun lo hi _ _ => rfl⟩
      · exact ⟨_, .lst k2, fun lo hi _ _ => rfl⟩
      · exact ⟨_, .tup k3, fun lo hi _ _ => rfl⟩
      · exact ⟨_, .dK k4, fun lo hi _ _ => rfl⟩
      · exact ⟨_, .int _, fun lo hi h1 h2 => decide_eq_false (by
          have : (10 ^ (20 : Int).toNat : Int) > 5 := by decide
          omega)⟩) (by omega) (by show ((d : Nat) : Int) % 10 < 10; omega)
    have u5 := same_new h5 (.lst [.int (-1), .bl true, .bl false, .non, .str (Str.ofString "0"), .ref q1, .ref q2, .ref q3, .ref q4, .int (10 ^ (20 : Int).toNat)])
    refine ⟨_, rfl, _, _, rfl, rfl, (by show (0 : Int) < 10; decide), q5, _, _, _, rfl, rfl, SqL.of upd_same, eo, ?_⟩
    have ko5 := ko.same u5
    have U5 := (T3.trans U4).trans u5
    generalize upd H4 q5 (.lst [.int (-1), .bl true, .bl false, .non, .str (Str.ofString "0"), .ref q1, .ref q2, .ref q3, .ref q4, .int (10 ^ (20 : Int).toNat)]) = H5 at ko5 U5 ⊢
    refine ⟨_, rfl, _, rfl, by show 2 ≤ sizeLine; decide, fun t1 g1 => ?_⟩
    have w1 := same_new g1 (.tup [vo, .int (((vc.length : Nat) : Int) - 1)])
    refine ⟨_, rfl, _, rfl, _, _, rfl, rfl, by show 2 ≤ sizeLine; decide, fun t2 g2 => ?_⟩
    have w2 := same_new g2 (.tup [.int (((vc.length : Nat) : Int) - 1), .int (((vc.length : Nat) : Int) - 1 + 1)])
    refine ⟨_, rfl, _, rfl, by show 2 ≤ sizeLine; decide, fun t3 g3 => ?_⟩
    have w3 := same_new g3 (.tup [.int (((vc.length : Nat) : Int) - 1), vo])
    refine ⟨_, rfl, by show 2 ≤ sizeLine; decide, fun t4 g4 => ?_⟩
    have w4 := same_new g4 (.tup [.int 0, vo])
    refine ⟨_, rfl, _, _, rfl, rfl, _, rfl, _, _, rfl, rfl, by show 2 ≤ sizeLine; decide, fun t5 g5 => ?_⟩
    have w5 := same_new g5 (.tup [.int (((vc.length : Nat) : Int) - 1 - 1), .int (((vc.length : Nat) : Int) - 1 - 1)])
    refine ⟨by show 5 ≤ sizeLine; decide, fun t6 g6 => ?_⟩
    have w6 := same_new g6 (.tup [.ref t1, .ref t2, .ref t3, .ref t4, .ref t5])
    have m1 := ((((w2.trans w3).trans w4).trans w5).trans w6) t1 _ upd_same
    have m2 := (((w3.trans w4).trans w5).trans w6) t2 _ upd_same
    have m3 := ((w4.trans w5).trans w6) t3 _ upd_same
    have m4 := (w5.trans w6) t4 _ upd_same
    have m5 := w6 t5 _ upd_same
    have W6 := ((((w1.trans w2).trans w3).trans w4).trans w5).trans w6
    have m6 : (upd (upd (upd (upd (upd (upd H5 t1 (.tup [vo, .int (((vc.length : Nat) : Int) - 1)])) t2 (.tup [.int (((vc.length : Nat) : Int) - 1), .int (((vc.length : Nat) : Int) - 1 + 1)])) t3 (.tup [.int (((vc.length : Nat) : Int) - 1), vo])) t4 (.tup [.int 0, vo])) t5 (.tup [.int (((vc.length : Nat) : Int) - 1 - 1), .int (((vc.length : Nat) : Int) - 1 - 1)])) t6 (.tup [.ref t1, .ref t2, .ref t3, .ref t4, .ref t5])) t6 = some (.tup [.ref t1, .ref t2, .ref t3, .ref t4, .ref t5]) := upd_same
    generalize (upd (upd (upd (upd (upd (upd H5 t1 (.tup [vo, .int (((vc.length : Nat) : Int) - 1)])) t2 (.tup [.int (((vc.length : Nat) : Int) - 1), .int (((vc.length : Nat) : Int) - 1 + 1)])) t3 (.tup [.int (((vc.length : Nat) : Int) - 1), vo])) t4 (.tup [.int 0, vo])) t5 (.tup [.int (((vc.length : Nat) : Int) - 1 - 1), .int (((vc.length : Nat) : Int) - 1 - 1)])) t6 (.tup [.ref t1, .ref t2, .ref t3, .ref t4, .ref t5])) = H6 at m1 m2 m3 m4 m5 m6 W6 ⊢
    have ko6 := ko5.same W6
    have U6 := U5.trans W6
    refine ⟨t6, rfl, ⟨_, SqT.of m6⟩, for_tup (xs := [.ref t1, .ref t2, .ref t3, .ref t4, .ref t5]) (fun i σ H' => Same H6 H' ∧ ∃ v7 v8 v9 v10 v11 v12 v13 : Option V, σ = [some (.ref a), some (.ref n), some (.str (TN.getD k Str.empty)), some (.int (k : Nat)), some (.ref ln), some (.ref lz), some (.ref lc), v7, v8, v9, v10, v11, v12, v13]) ⟨Same.refl H6, _, _, _, _, _, _, _, rfl⟩ (fun i σ H' _ ⟨s', _⟩ => SqT.of (s' _ _ m6)) ?_ ?_⟩
    · rintro i x σ H7 hx ⟨s7, y7, y8, y9, y10, y11, y12, y13, rfl⟩
      have key : ∃ (ti : Addr) (bv ov : V) (Tb Tv : String), x = .ref ti ∧ H6 ti = some (.tup [bv, ov]) ∧ Kd H6 bv Tb ∧ Kd H6 ov Tv ∧ (numV bv 0 (((cs.length : Nat) : Int) - 2) = false ∨ ∃ i : Int, bv = .int i ∧ numV ov (i + 1) (((cs.length : Nat) : Int) - 1) = false) := by
        match i, hx with
        | 0, hx => cases hx; exact ⟨t1, _, _, _, _, rfl, m1, ko6, .int _, .inl (no 0 _ (by omega) (by omega))⟩
        | 1, hx => cases hx; exact ⟨t2, _, _, _, _, rfl, m2, .int _, .int _, .inl (decide_eq_false (by omega))⟩
        | 2, hx => cases hx; exact ⟨t3, _, _, _, _, rfl, m3, .int _, ko6, .inl (decide_eq_false (by omega))⟩
        | 3, hx => cases hx; exact ⟨t4, _, _, _, _, rfl, m4, .int _, ko6, .inr ⟨0, rfl, no _ _ (by decide) (by omega)⟩⟩
        | 4, hx => cases hx; exact ⟨t5, _, _, _, _, rfl, m5, .int _, .int _, .inr ⟨_, rfl, decide_eq_false (by omega)⟩⟩
        | m + 5, hx => cases hx
      obtain ⟨ti, bv, ov, Tb, Tv, rfl, e0, kb, kv, bad⟩ := key
      refine ⟨ti, _, rfl, SqT.of (s7 _ _ e0), rfl, _, _, rfl, _, _, rfl, rfl, ?_⟩
      refine ⟨_, rfl, _, rfl, _, rfl, _, rfl, 0, n, _, .str (TN.getD k Str.empty), bv, ov, "str", Tb, Tv, rfl, hA.same ((s1.trans U6).trans s7), .str _, kb.same s7, kv.same s7, .inr (.inl ⟨rfl, ⟨_, etp, bad⟩, fun l8 H8 s8 hl8 => ?_⟩)⟩
      refine ⟨by show 1 ≤ sizeLine; decide, fun l9 h9 => ?_⟩
      have s9 := same_new h9 (.lst [.str (Str.ofString "number")])
      refine ⟨l8, l9, _, _, rfl, rfl, SqL.of (s9 _ _ hl8), SqL.of upd_same, rfl, rfl, _, rfl, itF (by decide) ?_⟩
      exact ⟨(s7.trans s8).trans s9, _, _, _, _, _, _, _, rfl⟩
    · rintro σ H7 ⟨s7, y7, y8, y9, y10, y11, y12, y13, rfl⟩
      exact q _ ((s1.trans U6).trans s7)

theorem missing : ∀ a : Nat, a < 64 → ∀ b : Nat, b < 64 → (((zonesOf b).filter fun z => !(zonesOf a).contains z) = [] ↔ a &&& b = b) := by decide +kernel
theorem inV_nat (zs : List Nat) (z : Nat) : inV (.int (z : Nat)) (natV zs) = zs.contains z := by
  induction zs with
  | nil => rfl
  | cons y zs ih =>
    unfold inV natV at ih ⊢
    rw [List.map_cons, List.any_cons, ih, List.contains_cons]
    congr 1
    show ((((y : Nat) : Int)) == ((z : Nat) : Int)) = (z == y)
    by_cases h : z = y
    · subst h; simp
    · rw [beq_eq_false_iff_ne.mpr h, beq_eq_false_iff_ne.mpr (by omega)]
theorem flat_nat (zs : List Nat) : (natV zs).all flatV = true := by
  rw [List.all_eq_true]
  intro v hv
  obtain ⟨k, _, rfl⟩ := List.mem_map.mp hv
  rfl
theorem eqL_nat : ∀ zs : List Nat, eqL (natV zs) (natV zs) = true
  | [] => rfl
  | z :: zs => by
    show (eqV (.int (z : Nat)) (.int (z : Nat)) && eqL (natV zs) (natV zs)) = true
    rw [eqL_nat zs]
    show ((((z : Nat) : Int) == ((z : Nat) : Int)) && true) = true
    simp
theorem cut_from (xs : List V) (n : Nat) : cutV xs (some (n : Int)) none = xs.drop n := by
  unfold cutV
  rw [HT.sIx_none, HT.sIx_nat]
  rcases Nat.le_total n xs.length with h | h
  · rw [Nat.min_eq_left h, List.take_of_length_le (by rw [List.length_drop]; exact Nat.le_refl _)]
  · rw [Nat.min_eq_right h, Nat.sub_self, List.take_zero, List.drop_eq_nil_of_le h]
theorem fnd_no {α : Type} {nm : α → Str} {xs : List α} {z : Str} (h : z ∉ xs.map nm) : fnd nm xs z = none := by
  unfold fnd
  rw [List.find?_eq_none]
  intro x hx e
  exact h (List.mem_map.mpr ⟨x, hx, of_decide_eq_true e⟩)
theorem no_empty : ¬ NameOk (Str.ofString "") := fun h => by have := h.1; revert this; decide
theorem no_A : ¬ NameOk (Str.ofString "A") := fun h => by have := h.2.2.1 65 (by decide); omega
theorem no_now : ¬ NameOk (Str.ofString "nowhere") := fun h => h.2.2.2 rfl
theorem tpL_nm (ns : List Int) (NS TN : List Str) : (tpL ns NS TN TN.length).map Tp.nm = TN := by
  unfold tpL
  rw [List.map_map]
  apply List.ext_getElem
  · rw [List.length_map, List.length_range]
  · intro i h1 h2
    rw [List.getElem_map, List.getElem_range]
    show TN.getD i Str.empty = _
    rw [List.getD_eq_getElem?_getD, List.getElem?_eq_getElem h2]
    rfl
def sp_law (K : W.Frag) : Sp := fun vs H Q _ => ∃ (a : Addr) (ns : List Int), vs = [.ref a] ∧ SqL K H a (ns.map V.int) ∧ ns.length ≤ 63 ∧ ∀ H', Q (.bl true) H'
theorem ok_law (Tx : Tab K mg t) : FnOk P w K mg base CX0 20 t.f_law t.d_law ["_law_script"] (sp_law K) := by
  refine Tx.F_law.ok sc_law (fun vs H Q E h => ?_) (fun cdv A outer s H vs Q E hr h => ?_)
  · obtain ⟨a, ns, rfl, _⟩ := h
    rfl
  obtain ⟨a, ns, rfl, hS, hlen, q⟩ := h
  refine ⟨_, (pss_cons (ps_set (i := 1) sc_law.nd rfl (Or.inl rfl) (pe_call (ok_law_names Tx) (hr.mono (by omega)) rfl Tx.m_law_names Tx.F_law_names.kp Tx.b_law_names .nil pass0 (pac (pv 0) (pac pe_int (pac (pe_op op_add pe_int (pe_op op_mod (pe_call (ok_law_draw Tx) (hr.mono (by omega)) rfl Tx.m_law_draw Tx.F_law_draw.kp Tx.b_law_draw .nil pass0 (pac (pv 0) (pac pe_int pa_nil))) pe_int)) pa_nil)))))
    (pss_cons (ps_setc (i0 := 2) (cl := [(Str.ofString "_law_script", s.heap.objs.size + 1)]) (N := ["_law_k", "_law_script"]) (fr := [none, some 0]) sc_law.nd rfl (Or.inl rfl) rfl (pi_range1 rfl Tx.z_range (pac (pe_callB call_len_seq rfl Tx.z_len b_len (pac (pv 1) pa_nil)) pa_nil)) rfl (by decide +kernel) rfl (by decide +kernel) ⟨⟨rfl, Or.inl rfl, Or.inl rfl, _, rfl, rfl⟩, trivial⟩ ⟨rfl, trivial⟩ rfl (fun _ _ _ _ _ => (pg_name (i := 0) (show List.Nodup (["_law_k", "_law_script"] : List Str) by decide +kernel) rfl (Or.inl rfl))) (fun _ _ _ _ _ => pts_nil) (fun _ _ _ _ _ => (pe_op op_add pe_int (pe_op op_mod (pe_call (ok_law_draw Tx) (hr.mono (by omega)) rfl Tx.m_law_draw Tx.F_law_draw.kp Tx.b_law_draw .nil pass0 (pac (pv 1) (pac (pe_op op_add pe_int (pv 0)) pa_nil))) pe_int))))
    (pss_cons (ps_set (i := 3) sc_law.nd rfl (Or.inl rfl) (pe_call (ok_law_tickets Tx) (hr.mono (by omega)) rfl Tx.m_law_tickets Tx.F_law_tickets.kp Tx.b_law_tickets .nil pass0 (pac (pv 0) (pac pe_int (pac (pe_op op_mod (pe_call (ok_law_draw Tx) (hr.mono (by omega)) rfl Tx.m_law_draw Tx.F_law_draw.kp Tx.b_law_draw .nil pass0 (pac (pv 0) (pac pe_int pa_nil))) pe_int) pa_nil)))))
    (pss_cons (ps_asg (pe_call (ok_law_net Tx) (hr.mono (by omega)) rfl Tx.m_law_net Tx.F_law_net.kp Tx.b_law_net .nil pass0 (pac (pv 0) (pac (pv 1) (pac (pv 2) (pac (pv 3) pa_nil))))) (pg_tup rfl (pgs_cons (pg_name (i := 4) sc_law.nd rfl (Or.inl rfl)) (pgs_cons (pg_name (i := 5) sc_law.nd rfl (Or.inl rfl)) pgs_nil))))
    (pss_cons (ps_for PassesOwn.never rfl (pi_enum rfl Tx.z_enumerate (pac (pv 5) pa_nil)) (pg_tup rfl (pgs_cons (pg_name (i := 6) sc_law.nd rfl (Or.inl rfl)) (pgs_cons (pg_name (i := 7) sc_law.nd rfl (Or.inl rfl)) pgs_nil)))
    (pss_one (ps_if (pt_not (pt_val (pe_call (ok_law_rides_right Tx) (hr.mono (by omega)) rfl Tx.m_law_rides_right Tx.F_law_rides_right.kp Tx.b_law_rides_right .nil pass0 (pac (pv 0) (pac (pv 4) (pac (pv 7) (pac (pv 6) (pac (pv 1) (pac (pv 2) pa_nil)))))))))
    (pss_one (ps_ret pe_bl))
    pss_nil)))
    (pss_cons (ps_set (i := 8) sc_law.nd rfl (Or.inl rfl) (pe_call (ok_law_draw Tx) (hr.mono (by omega)) rfl Tx.m_law_draw Tx.F_law_draw.kp Tx.b_law_draw .nil pass0 (pac (pv 0) (pac pe_int pa_nil))))
    (pss_cons (ps_set (i := 9) sc_law.nd rfl (Or.inl rfl) (pe_call (ok_law_zones Tx) (hr.mono (by omega)) rfl Tx.m_law_zones Tx.F_law_zones.kp Tx.b_law_zones .nil pass0 (pac (pe_op op_add pe_int (pe_op op_mod (pv 8) pe_int)) pa_nil)))
    (pss_cons (ps_set (i := 10) sc_law.nd rfl (Or.inl rfl) (pe_callTy call_list_of rfl Tx.z_list b_list (pac (pv 9) pa_nil)))
    (pss_cons (ps_set (i := 11) sc_law.nd rfl (Or.inl rfl) (pe_call (ok_zone_bits_g Tx) (hr.mono (by omega)) rfl Tx.m_zone_bits Tx.F_zone_bits.kp Tx.b_zone_bits .nil pass0 (pac (pv 10) pa_nil)))
    (pss_cons (ps_if (PW.pt (pw_or (pt_not (pt_val (pe_call (ok_law_whole Tx) (hr.mono (by omega)) rfl Tx.m_law_whole Tx.F_law_whole.kp Tx.b_law_whole .nil pass0 (pac (pv 11) pa_nil)))) (pw_or (pt_cmpR op_ne (pv 11) (pe_call (ok_law_bits Tx) (hr.mono (by omega)) rfl Tx.m_law_bits Tx.F_law_bits.kp Tx.b_law_bits .nil pass0 (pac (pv 9) pa_nil)) (nomark _)) (pw_or1 (pt_cmpR (op_ne_lst hr.units0) (pv 10) (pv 9) (nomark _))))))
    (pss_one (ps_ret pe_bl))
    pss_nil)
    (pss_cons (ps_for PassesOwn.never rfl (pi_range1 rfl Tx.z_range (pac pe_int pa_nil)) (pg_name (i := 6) sc_law.nd rfl (Or.inl rfl))
    (pss_cons (ps_set (i := 12) sc_law.nd rfl (Or.inl rfl) (pe_call (ok_law_draw Tx) (hr.mono (by omega)) rfl Tx.m_law_draw Tx.F_law_draw.kp Tx.b_law_draw .nil pass0 (pac (pv 0) (pac (pe_op op_add pe_int (pv 6)) pa_nil))))
    (pss_join (ps_set (i := 13) sc_law.nd rfl (Or.inl rfl) (pe_orL (pe_slice sl_list (pe_call (ok_law_zones Tx) (hr.mono (by omega)) rfl Tx.m_law_zones Tx.F_law_zones.kp Tx.b_law_zones .nil pass0 (pac (pe_op op_add pe_int (pe_op op_mod (pv 12) pe_int)) pa_nil)) (po_some (pe_op op_mod (pe_op op_fdiv (pv 12) pe_int) pe_int)) po_none) (pe_one (pe_lst (pac (pe_op op_add pe_int (pe_op op_mod (pe_op op_fdiv (pv 12) pe_int) pe_int)) pa_nil)))))
    (pss_one (ps_for PassesOwn.never rfl (pi_list (pv 3)) (pg_name (i := 14) sc_law.nd rfl (Or.inr rfl))
    (pss_cons (ps_set (i := 11) sc_law.nd rfl (Or.inl rfl) (pe_call (ok_fits Tx) (hr.mono (by omega)) rfl Tx.m_fits Tx.F_fits.kp Tx.b_fits .nil pass0 (pac (pv 4) (pac (pe_ix ix_tup (pv 14) pe_int (fun _ _ => rfl)) (pac (pe_call (ok_law_bits Tx) (hr.mono (by omega)) rfl Tx.m_law_bits Tx.F_law_bits.kp Tx.b_law_bits .nil pass0 (pac (pv 13) pa_nil)) pa_nil)))))
    (pss_cons (ps_setc (i0 := 15) (cl := [(Str.ofString "_law_ticket", s.heap.objs.size + 2)]) (N := ["_law_zone", "_law_ticket"]) (fr := [none, some 14]) sc_law.nd rfl (Or.inl rfl) rfl (pi_list (pv 13)) rfl (by decide +kernel) rfl (by decide +kernel) ⟨⟨rfl, Or.inl rfl, Or.inl rfl, _, rfl, rfl⟩, trivial⟩ ⟨rfl, trivial⟩ rfl (fun _ _ _ _ _ => (pg_name (i := 0) (show List.Nodup (["_law_zone", "_law_ticket"] : List Str) by decide +kernel) rfl (Or.inl rfl))) (fun _ _ _ _ _ => (pts_one (pt_cmpR (show OpR _ (compareOp .NotIn) (rIn K true) from op_notIn_seq) (pv 0) (pe_ix (show IxR _ (rIxT K) from ix_tup) (pv 1) pe_int (fun _ _ => rfl)) rfl))) (fun _ _ _ _ _ => (pv 0)))
    (pss_one (ps_if (PW.pt (pw_or (pt_not (pt_val (pe_callB call_isi_ty rfl Tx.z_isinstance b_isinstance (pac (pv 11) (pac (pe_gty rfl Tx.z_bool b_bool) pa_nil))))) (pw_or1 (pt_cmpR op_ne (pv 11) (pe_cmpR (op_eq_lst hr.units0) (pv 15) (pe_lst pa_nil) (nomark _)) (nomark _)))))
    (pss_one (ps_ret pe_bl))
    pss_nil)))))))))
    (pss_cons (ps_set (i := 16) sc_law.nd rfl (Or.inl rfl) (pe_ix ix_list (pe_lst (pac pe_non (pac pe_bl (pac pe_int (pac pe_str (pac pe_str (pac pe_str (pac (pe_lst (pac pe_str pa_nil)) (pac (pe_tup pa_nil) (pac pe_dnew pa_nil)))))))))) (pe_op op_mod (pe_op op_fdiv (pv 8) pe_int) pe_int) (fun _ _ => rfl)))
    (pss_cons (ps_if (pt_cmpR (op_ne_lst hr.units0) (pe_call (ok_law_refused Tx) (hr.mono (by omega)) rfl Tx.m_law_refused Tx.F_law_refused.kp Tx.b_law_refused .nil pass0 (pac pe_int (pac (pv 4) (pac (pv 16) (pac pe_non (pac pe_non pa_nil)))))) (pe_lst (pac pe_str pa_nil)) (nomark _))
    (pss_one (ps_ret pe_bl))
    pss_nil)
    (pss_one (ps_ret (pe_cmpR (op_eq_lst hr.units0) (pe_call (ok_law_refused Tx) (hr.mono (by omega)) rfl Tx.m_law_refused Tx.F_law_refused.kp Tx.b_law_refused .nil pass0 (pac pe_int (pac (pv 4) (pac (pv 16) (pac pe_int (pac pe_int pa_nil)))))) (pe_lst (pac pe_str pa_nil)) (nomark _))))))))))))))))), ?_⟩
  refine ⟨_, rfl, _, rfl, a, ns, 1, rfl, hS, by decide, by decide, fun d1 H1 hd1 s1 => ?_⟩
  refine ⟨_, _, rfl, rfl, (by show (0 : Int) < 4; decide), _, _, rfl, rfl, a, ns, 0, 2 + d1 % 4, ?_, s1.seq hS, by decide, by decide, by omega, fun NS ln H2 s2 _ hln lenN ndN okN => ?_⟩
  · show [V.ref a, V.int 0, V.int (2 + ((d1 : Nat) : Int) % 4)] = _
    rw [show (2 : Int) + ((d1 : Nat) : Int) % 4 = ((2 + d1 % 4 : Nat) : Int) by omega]
  have S2 := s1.trans s2
  have hnn : (((NS.map V.str).length : Nat) : Int).toNat = NS.length := by rw [List.length_map, Int.toNat_natCast]
  have hnl : (NS.map V.str).length = NS.length := List.length_map ..
  refine ⟨_, rfl, ln, _, rfl, .inl (SqL.of hln), _, rfl, by omega, by omega, comp_range (lo := 0) (n := (((NS.map V.str).length : Nat) : Int).toNat) (fun i acc σ H' => Same H2 H' ∧ (∃ v, σ = [v, some (.ref a)]) ∧ ∃ ZS : List Nat, acc = natV ZS ∧ ZS.length = i ∧ ∀ z ∈ ZS, 1 ≤ z ∧ z ≤ 6) ⟨Same.refl H2, ⟨_, rfl⟩, [], rfl, rfl, fun z hz => by cases hz⟩ (Nat.le_trans (show _ ≤ 8 by omega) (by decide)) ?_ ?_⟩
  · rintro i acc σ H' hi ha ⟨s', ⟨v, rfl⟩, ZS, rfl, lenZ, okZ⟩
    rw [show (0 : Int) + ((i : Nat) : Int) = ((i : Nat) : Int) by omega]
    dsimp only [gName, tTrue]
    rw [if_pos rfl]
    refine ⟨_, rfl, _, rfl, _, _, rfl, rfl, a, ns, _, rfl, (S2.trans s').seq hS, by omega, by omega, fun d H3 hd s3 => ?_⟩
    refine ⟨_, _, rfl, rfl, (by show (0 : Int) < 6; decide), _, _, rfl, rfl, by rw [List.length_append, List.length_singleton]; omega, s'.trans s3, ⟨_, rfl⟩, ZS ++ [1 + d % 6], ?_, by rw [List.length_append, List.length_singleton, lenZ], ?_⟩
    · unfold natV
      rw [List.map_append]
      show _ ++ [V.int (1 + ((d : Nat) : Int) % 6)] = _ ++ [V.int ((1 + d % 6 : Nat) : Int)]
      rw [show (1 : Int) + ((d : Nat) : Int) % 6 = ((1 + d % 6 : Nat) : Int) by omega]
    · intro z hz
      rcases List.mem_append.mp hz with hz | hz
      · exact okZ z hz
      · rw [List.mem_singleton] at hz; omega
  rintro acc σ H3 ha ⟨s3, ⟨v, rfl⟩, ZS, rfl, lenZ, okZ⟩ lz hlz0
  rw [hnn] at lenZ
  have s4 := same_new hlz0 (.lst (natV ZS))
  have hlz := @upd_same H3 lz (.lst (natV ZS))
  have S4 := (S2.trans s3).trans s4
  have hln4 := (s3.trans s4) _ _ hln
  generalize upd H3 lz (.lst (natV ZS)) = H4 at s4 hlz S4 hln4 ⊢
  refine ⟨_, rfl, _, rfl, a, ns, 10, rfl, S4.seq hS, by decide, by decide, fun d2 H5 hd2 s5 => ?_⟩
  refine ⟨_, _, rfl, rfl, (by show (0 : Int) < 4; decide), a, ns, 20, d2 % 4, ?_, (S4.trans s5).seq hS, by decide, by decide, by omega, fun TK vt lt H6 s6 _ hlt alT lenT ndT okT => ?_⟩
  · show [V.ref a, V.int 20, V.int (((d2 : Nat) : Int) % 4)] = _
    rw [show ((d2 : Nat) : Int) % 4 = ((d2 % 4 : Nat) : Int) by omega]
  have T6 := s5.trans s6
  have S6 := S4.trans T6
  refine ⟨_, rfl, _, rfl, _, rfl, _, rfl, a, ln, lz, lt, ns, NS, ZS, vt, TK, rfl, S6.seq hS, T6 _ _ hln4, by omega, by omega, ndN, okN, T6 _ _ hlz, lenZ, okZ, hlt, alT, ndT, okT, by omega, fun p n lp TN H7 s7 hp hlp ndP okP lenP hA => ?_⟩
  refine ⟨p, _, rfl, SqT.of hp, rfl, _, _, rfl, _, _, rfl, rfl, ?_⟩
  have S7 := S6.trans s7
  have T7 := T6.trans s7
  have hln7 := T7 _ _ hln4
  have hlz7 := T7 _ _ hlz
  have hlt7 := s7 _ _ hlt
  have alT7 := alT.imp fun _ _ => TkAt.same s7
  clear hln4 hlz hlt alT hln s3 s4 s5 s6 s2 s1
  refine ⟨_, rfl, lp, rfl, ⟨_, SqL.of hlp⟩, for_enum (xs := TN.map V.str) (fun i σ H' => Same H7 H' ∧ ∃ v6 v7 : Option V, σ = [some (.ref a), some (.ref ln), some (.ref lz), some (.ref lt), some (.ref n), some (.ref lp), v6, v7, none, none, none, none, none, none, none, none, none]) ⟨Same.refl H7, _, _, rfl⟩ (fun i σ H' _ ⟨s', _⟩ => SqL.of (s' _ _ hlp)) ?_ ?_⟩
  · rintro i v pp σ H8 hv hpp ⟨s8, v6, v7, rfl⟩
    rw [List.getElem?_map] at hv
    cases ez : TN[i]? with
    | none => rw [ez] at hv; cases hv
    | some z =>
      rw [ez] at hv
      obtain rfl : V.str z = v := Option.some.inj hv
      have hi := (List.getElem?_eq_some_iff.mp ez).1
      have eg : TN.getD i Str.empty = z := by rw [List.getD_eq_getElem?_getD, ez]; rfl
      have s9 := same_new hpp (.tup [.int (i : Nat), .str z])
      have T9 := s8.trans s9
      refine ⟨pp, _, rfl, SqT.of upd_same, rfl, _, _, rfl, _, _, rfl, rfl, ?_⟩
      refine ⟨_, rfl, _, rfl, _, rfl, _, rfl, _, rfl, _, rfl, a, n, ln, lz, ns, NS, TN, ZS, TK, i, by rw [eg]; rfl, (S7.trans T9).seq hS, hA.same T9, T9 _ _ hln7, by omega, by omega, ndN, T9 _ _ hlz7, lenZ, okZ, ndP, hi, lenP, fun H10 s10 => ⟨true, rfl, itF (by decide) ⟨T9.trans s10, _, _, rfl⟩⟩⟩
  rintro σ H8 ⟨s8, v6, v7, rfl⟩
  have S8 := S7.trans s8
  refine ⟨_, rfl, a, ns, 11, rfl, S8.seq hS, by decide, by decide, fun d3 H9 hd3 s9 => ?_⟩
  have hb : 1 + d3 % 63 < 64 := by omega
  refine ⟨_, rfl, _, _, rfl, rfl, (by show (0 : Int) < 63; decide), _, _, rfl, rfl, 1 + d3 % 63, ?_, fun ls H10 s10 _ hls => ?_⟩
  · show [V.int (1 + ((d3 : Nat) : Int) % 63)] = _
    rw [show (1 : Int) + ((d3 : Nat) : Int) % 63 = ((1 + d3 % 63 : Nat) : Int) by omega]
  generalize 1 + d3 % 63 = b at hb hls
  refine ⟨_, rfl, ls, _, rfl, .inl (SqL.of hls), fun lh hlh0 => ?_⟩
  have s11 := same_new hlh0 (.lst (natV (zonesOf b)))
  have hlh := @upd_same H10 lh (.lst (natV (zonesOf b)))
  generalize upd H10 lh (.lst (natV (zonesOf b))) = H11 at s11 hlh ⊢
  refine ⟨_, rfl, lh, zonesOf b, rfl, SqL.of hlh, zones_rng b, ?_⟩
  rw [zb_zones b hb]
  refine ⟨_, rfl, .int ((b : Nat) : Int), "int", rfl, .int _, _, rfl, itF Bool.false_ne_true ?_⟩
  refine ⟨_, rfl, _, rfl, ls, zonesOf b, rfl, SqL.of (s11 _ _ hls), zones_rng b, Nat.le_trans (zones_len b) (by decide), fun H12 s12 => ⟨rfl, _, rfl, ?_⟩⟩
  rw [sum_zones b hb]
  refine itF (by show ¬ (!decide (V.int ((b : Nat) : Int) = V.int ((b : Nat) : Int))) = true; simp) ?_
  refine ⟨_, rfl, _, rfl, lh, ls, _, _, rfl, rfl, SqL.of (s12 _ _ hlh), SqL.of ((s11.trans s12) _ _ hls), flat_nat _, flat_nat _, _, rfl, itF (by rw [eqL_nat]; decide) ?_⟩
  have W12 := (((s8.trans s9).trans s10).trans s11).trans s12
  have S12 := S7.trans W12
  have hA12 := hA.same W12
  have hlt12 := W12 _ _ hlt7
  have alT12 := alT7.imp fun _ _ => TkAt.same W12
  clear hlt7 alT7 hln7 hlz7 hlp hp hls hlh s9 s10 s11 s12
  refine ⟨4, rfl, by decide, by decide, for_range (n := 4) (fun i σ H' => Same H12 H' ∧ ∃ v6 v7 v11 v12 v13 v14 v15 : Option V, σ = [some (.ref a), some (.ref ln), some (.ref lz), some (.ref lt), some (.ref n), some (.ref lp), v6, v7, some (.int (d3 : Nat)), some (.ref ls), some (.ref lh), v11, v12, v13, v14, v15, none]) ⟨Same.refl H12, _, _, _, _, _, _, _, rfl⟩ ?_ ?_⟩
  · rintro i σ H13 hi ⟨s13, x6, x7, x11, x12, x13, x14, x15, rfl⟩
    rw [show (0 : Int) + ((i : Nat) : Int) = ((i : Nat) : Int) by omega]
    refine ⟨_, rfl, _, rfl, _, _, rfl, rfl, a, ns, _, rfl, (S12.trans s13).seq hS, by omega, by omega, fun d4 H14 hd4 s14 => ?_⟩
    have T14 := s13.trans s14
    refine ⟨fun σ H' => Same H12 H' ∧ ∃ (l : Addr) (WS : List Nat), H' l = some (.lst (natV WS)) ∧ (∀ z ∈ WS, 1 ≤ z ∧ z ≤ 6) ∧ WS.Pairwise (· < ·) ∧ WS.length ≤ 6 ∧ σ = [some (.ref a), some (.ref ln), some (.ref lz), some (.ref lt), some (.ref n), some (.ref lp), some (.int (i : Nat)), x7, some (.int (d3 : Nat)), some (.ref ls), some (.ref lh), x11, some (.int (d4 : Nat)), some (.ref l), x14, x15, none], ?_, ?_⟩
    · have hb2 : 1 + d4 % 63 < 64 := by omega
      refine ⟨_, rfl, _, _, rfl, rfl, (by show (0 : Int) < 63; decide), _, _, rfl, rfl, 1 + d4 % 63, ?_, fun l5 H15 s15 _ h5 => ?_⟩
      · show [V.int (1 + ((d4 : Nat) : Int) % 63)] = _
        rw [show (1 : Int) + ((d4 : Nat) : Int) % 63 = ((1 + d4 % 63 : Nat) : Int) by omega]
      generalize 1 + d4 % 63 = b2 at hb2 h5
      refine ⟨_, rfl, _, _, rfl, rfl, ⟨by decide, by decide⟩, _, _, rfl, rfl, (by show (0 : Int) < 4; decide), _, rfl, l5, _, rfl, SqL.of h5, fun l6 h6 => ?_⟩
      rw [show cutV (natV (zonesOf b2)) (some (((d4 : Nat) : Int) / 64 % 4)) none = natV ((zonesOf b2).drop (d4 / 64 % 4)) by
        rw [show ((d4 : Nat) : Int) / 64 % 4 = ((d4 / 64 % 4 : Nat) : Int) by omega, cut_from]
        exact List.map_drop.symm]
      have s16 := same_new h6 (.lst (natV ((zonesOf b2).drop (d4 / 64 % 4))))
      have hl6 := @upd_same H15 l6 (.lst (natV ((zonesOf b2).drop (d4 / 64 % 4))))
      generalize upd H15 l6 (.lst (natV ((zonesOf b2).drop (d4 / 64 % 4)))) = H16 at s16 hl6 ⊢
      have T16 := (T14.trans s15).trans s16
      have m6 : ∀ z ∈ (zonesOf b2).drop (d4 / 64 % 4), 1 ≤ z ∧ z ≤ 6 := fun z hz => zones_rng b2 z (List.mem_of_mem_drop hz)
      have p6 : ((zonesOf b2).drop (d4 / 64 % 4)).Pairwise (· < ·) := List.Pairwise.sublist (List.drop_sublist _ _) (zones_up b2)
      have l6' : ((zonesOf b2).drop (d4 / 64 % 4)).length ≤ 6 := by rw [List.length_drop]; have := zones_len b2; omega
      generalize (zonesOf b2).drop (d4 / 64 % 4) = WS at hl6 m6 p6 l6'
      refine ⟨!(natV WS).isEmpty, .inl ⟨_, SqL.of hl6, rfl⟩, ?_⟩
      cases WS with
      | cons z zs => exact itT rfl ⟨T16, l6, _, hl6, m6, p6, l6', rfl⟩
      | nil =>
        refine itF (by decide) ⟨_, rfl, _, _, rfl, rfl, ⟨by decide, by decide⟩, _, _, rfl, rfl, (by show (0 : Int) < 6; decide), _, _, rfl, rfl, by show 1 ≤ sizeLine; decide, fun l7 h7 => ?_⟩
        refine ⟨T16.trans (same_new h7 _), l7, [1 + d4 / 256 % 6], ?_, fun z hz => by rw [List.mem_singleton] at hz; omega, List.pairwise_singleton .., (by show 1 ≤ 6; decide), rfl⟩
        rw [upd_same, show natV [1 + d4 / 256 % 6] = [V.int (1 + ((d4 : Nat) : Int) / 256 % 6)] from by
          show [V.int ((1 + d4 / 256 % 6 : Nat) : Int)] = _
          rw [show (1 : Int) + ((d4 : Nat) : Int) / 256 % 6 = ((1 + d4 / 256 % 6 : Nat) : Int) by omega]]
    · rintro σ H15 ⟨s15, lw, WS, hlw, okW, upW, lenW, rfl⟩
      have wz : WS = zonesOf (zb WS) := sorted_zb okW upW fun _ => Iff.rfl
      have wb : zb WS < 64 := zb_lt okW
      have ws : sumB WS = zb WS := sum_zb okW upW fun _ => Iff.rfl
      generalize zb WS = wv at wz wb ws
      subst wz
      refine ⟨_, rfl, lt, rfl, ⟨_, SqL.of (s15 _ _ hlt12)⟩, for_list (xs := vt) (fun j σ H' => Same H15 H' ∧ ∃ v11 v14 v15 : Option V, σ = [some (.ref a), some (.ref ln), some (.ref lz), some (.ref lt), some (.ref n), some (.ref lp), some (.int (i : Nat)), x7, some (.int (d3 : Nat)), some (.ref ls), some (.ref lh), v11, some (.int (d4 : Nat)), some (.ref lw), v14, v15, none]) ⟨Same.refl H15, _, _, _, rfl⟩ (fun i σ H' _ ⟨s', _⟩ => SqL.of (s' _ _ (s15 _ _ hlt12))) ?_ ?_⟩
      · rintro j x σ H16 hx ⟨s16, y11, y14, y15, rfl⟩
        obtain ⟨k, ek, pt, lz', rfl, hpt, hlz'⟩ := (alT12.imp fun _ _ => TkAt.same (s15.trans s16)).get hx
        have hk := List.mem_of_getElem? ek
        refine ⟨_, rfl, _, rfl, pt, _, 0, _, rfl, rfl, SqT.of hpt, rfl, _, rfl, lw, _, rfl, SqL.of (s16 _ _ hlw), okW, by omega, fun H17 s17 => ?_⟩
        rw [ws]
        refine ⟨n, _, k.nm, k, wv, rfl, hA12.same ((s15.trans s16).trans s17), fnd_uniq (nm := Tk.nm) (show ((netL ns NS TN ZS TK).tk.map Tk.nm).Nodup from ndT) hk, (okT k hk).b, fun H18 s18 => ?_⟩
        have U18 := (s16.trans s17).trans s18
        have hpt18 := (s17.trans s18) _ _ hpt
        have hlz18 := (s17.trans s18) _ _ hlz'
        have nl : (natV (zonesOf wv)).length = (zonesOf wv).length := List.length_map ..
        refine ⟨_, rfl, lw, rfl, ⟨_, SqL.of (U18 _ _ hlw)⟩, comp_list (K := K) (a := lw) (xs := natV (zonesOf wv)) (fun i acc σ H' => H' = H18 ∧ (∃ v, σ = [v, some (.ref pt)]) ∧ acc = natV (((zonesOf wv).take i).filter fun z => !(zonesOf k.b).contains z))
          ⟨rfl, ⟨_, rfl⟩, rfl⟩ (by rw [nl]; exact Nat.le_trans (zones_len wv) (by decide)) (fun i acc σ H' _ ⟨e, _⟩ => by rw [e]; exact SqL.of (U18 _ _ hlw)) ?_ ?_⟩
        · rintro m x acc σ H5 hl hx ⟨rfl, ⟨v, rfl⟩, rfl⟩
          unfold natV at hx
          rw [List.getElem?_map] at hx
          cases ez : (zonesOf wv)[m]? with
          | none => rw [ez] at hx; cases hx
          | some z =>
            rw [ez] at hx
            obtain rfl : V.int ((z : Nat) : Int) = x := Option.some.inj hx
            have tk : (zonesOf wv).take (m + 1) = (zonesOf wv).take m ++ [z] := by rw [List.take_add_one, ez]; rfl
            refine ⟨_, rfl, _, rfl, pt, _, 3, _, rfl, rfl, SqT.of hpt18, rfl, lz', _, rfl, .inl (SqL.of hlz18), rfl, flat_nat _, _, rfl, ?_⟩
            rw [inV_nat]
            rw [tk, List.filter_append]
            by_cases c : (zonesOf k.b).contains z = true
            · refine itF (by rw [c]; decide) ?_
              refine ⟨by omega, rfl, ⟨_, rfl⟩, ?_⟩
              rw [List.filter_cons, List.filter_nil, c]
              show _ = natV (_ ++ [])
              rw [List.append_nil]
            · have c := Bool.eq_false_iff.mpr c
              refine itT (by rw [c]; decide) ?_
              refine ⟨_, rfl, by rw [List.length_append, List.length_singleton]; omega, rfl, ⟨_, rfl⟩, ?_⟩
              rw [List.filter_cons, List.filter_nil, c]
              show _ = natV (_ ++ [z])
              unfold natV
              rw [List.map_append]
              rfl
        · rintro acc σ H5 ha ⟨rfl, ⟨v, rfl⟩, rfl⟩ p6 g6
          rw [nl, List.take_length]
          have s6 := same_new g6 (.lst (natV ((zonesOf wv).filter fun z => !(zonesOf k.b).contains z)))
          refine ⟨_, rfl, .bl (decide (k.b &&& wv = wv)), "bool", _, _, rfl, (Kd.bl (decide (k.b &&& wv = wv))).ty (H := upd H5 p6 _), kit_bool (H := upd H5 p6 (.lst (natV ((zonesOf wv).filter fun z => !(zonesOf k.b).contains z)))) (.bl (decide (k.b &&& wv = wv))), _, rfl, itF (by decide) ?_⟩
          refine ⟨_, rfl, _, rfl, by show 0 ≤ sizeLine; decide, fun p7 g7 => ?_⟩
          have s7 := same_new g7 (.lst [])
          have fin := (U18.trans s6).trans s7
          refine ⟨p6, p7, _, _, rfl, rfl, SqL.of (s7 _ _ upd_same), SqL.of upd_same, flat_nat _, rfl, ?_⟩
          have mis := missing k.b (okT k hk).b wv wb
          by_cases c : k.b &&& wv = wv
          · rw [mis.mpr c] at fin ⊢
            refine ⟨rfl, _, rfl, itF (by rw [decide_eq_true c]; decide) ⟨fin, _, _, _, rfl⟩⟩
          · cases ef : ((zonesOf wv).filter fun z => !(zonesOf k.b).contains z) with
            | nil => exact absurd (mis.mp ef) c
            | cons y ys =>
              refine ⟨rfl, _, rfl, itF (by rw [decide_eq_false c]; exact Bool.false_ne_true) ⟨?_, _, _, _, rfl⟩⟩
              rw [ef] at fin
              exact fin
      · rintro σ H16 ⟨s16, y11, y14, y15, rfl⟩
        exact ⟨s15.trans s16, _, _, _, _, _, _, _, rfl⟩
  · rintro σ H13 ⟨s13, x6, x7, x11, x12, x13, x14, x15, rfl⟩
    refine ⟨by show 1 ≤ sizeLine; decide, fun q1 h1 => ?_⟩
    have u1 := same_new h1 (.lst [.str (Str.ofString "a")])
    refine ⟨by show 0 ≤ sizeLine; decide, fun q2 h2 => ?_⟩
    have u2 := same_new h2 (.tup [])
    intro q3 h3
    have u3 := same_new h3 (.dK [])
    refine ⟨by show 9 ≤ sizeLine; decide, fun q4 h4 => ?_⟩
    have u4 := same_new h4 (.lst [.non, .bl true, .int 0, .str (Str.ofString ""), .str (Str.ofString "A"), .str (Str.ofString "nowhere"), .ref q1, .ref q2, .ref q3])
    have k1 := ((u2.trans u3).trans u4) q1 _ upd_same
    have k2 := (u3.trans u4) q2 _ upd_same
    have k3 := u4 q3 _ upd_same
    have k4 := @upd_same (upd (upd (upd H13 q1 (.lst [.str (Str.ofString "a")])) q2 (.tup [])) q3 (.dK [])) q4 (.lst [.non, .bl true, .int 0, .str (Str.ofString ""), .str (Str.ofString "A"), .str (Str.ofString "nowhere"), .ref q1, .ref q2, .ref q3])
    have U4 := ((u1.trans u2).trans u3).trans u4
    generalize upd (upd (upd (upd H13 q1 (.lst [.str (Str.ofString "a")])) q2 (.tup [])) q3 (.dK [])) q4 (.lst [.non, .bl true, .int 0, .str (Str.ofString ""), .str (Str.ofString "A"), .str (Str.ofString "nowhere"), .ref q1, .ref q2, .ref q3]) = H14 at U4 k1 k2 k3 k4 ⊢
    have noS : ∀ z, ¬ NameOk z → tripV (netL ns NS TN ZS TK) (.str z) = none ∧ tkV (netL ns NS TN ZS TK) (.str z) = none := fun z hz => by
      refine ⟨fnd_no (nm := Tp.nm) ?_, fnd_no (nm := Tk.nm) ?_⟩
      · show z ∉ (tpL ns NS TN TN.length).map Tp.nm
        rw [tpL_nm]
        exact fun m => hz (okP z m)
      · intro m
        obtain ⟨k, hk, rfl⟩ := List.mem_map.mp m
        exact hz (okT k hk).nm
    obtain ⟨vo, eo, To, ko, no⟩ := at_all (p := fun v => ∃ T, Kd H14 v T ∧ tripV (netL ns NS TN ZS TK) v = none ∧ tkV (netL ns NS TN ZS TK) v = none) (xs := [.non, .bl true, .int 0, .str (Str.ofString ""), .str (Str.ofString "A"), .str (Str.ofString "nowhere"), .ref q1, .ref q2, .ref q3]) (d := ((d3 : Nat) : Int) / 64 % 9) (fun v hv => by
      simp only [List.mem_cons, List.not_mem_nil, or_false] at hv
      rcases hv with rfl | rfl | rfl | rfl | rfl | rfl | rfl | rfl | rfl
      · exact ⟨_, .non, rfl, rfl⟩
      · exact ⟨_, .bl _, rfl, rfl⟩
      · exact ⟨_, .int _, rfl, rfl⟩
      · exact ⟨_, .str _, noS _ no_empty⟩
      · exact ⟨_, .str _, noS _ no_A⟩
      · exact ⟨_, .str _, noS _ no_now⟩
      · exact ⟨_, .lst k1, rfl, rfl⟩
      · exact ⟨_, .tup k2, rfl, rfl⟩
      · exact ⟨_, .dK k3, rfl, rfl⟩) (by omega) (by show ((d3 : Nat) : Int) / 64 % 9 < 9; omega)
    refine ⟨_, rfl, _, _, rfl, rfl, ⟨by decide, by decide⟩, _, _, rfl, rfl, (by show (0 : Int) < 9; decide), q4, _, _, _, rfl, rfl, SqL.of k4, eo, ?_⟩
    have hA14 := hA12.same (s13.trans U4)
    refine ⟨_, rfl, _, rfl, 0, n, _, vo, .non, .non, To, _, _, rfl, hA14, ko, .non, .non, .inl ⟨rfl, no.1, fun l8 H8 s8 hl8 => ?_⟩⟩
    refine ⟨by show 1 ≤ sizeLine; decide, fun l9 h9 => ?_⟩
    have s9 := same_new h9 (.lst [.str (Str.ofString "trip")])
    refine ⟨l8, l9, _, _, rfl, rfl, SqL.of (s9 _ _ hl8), SqL.of upd_same, rfl, rfl, _, rfl, itF (by decide) ?_⟩
    refine ⟨_, rfl, _, rfl, 1, n, _, vo, .int 0, .int 0, To, _, _, rfl, hA14.same (s8.trans s9), ko.same (s8.trans s9), .int _, .int _, .inr (.inr ⟨by decide, no.2, fun l6 H6 s6 hl6 => ?_⟩)⟩
    refine ⟨by show 1 ≤ sizeLine; decide, fun l7 h7 => ?_⟩
    have s7 := same_new h7 (.lst [.str (Str.ofString "ticket")])
    refine ⟨l6, l7, _, _, rfl, rfl, SqL.of (s7 _ _ hl6), SqL.of upd_same, rfl, rfl, ?_⟩
    exact q _

end
theorem all_mk {K : W.Frag} {h : Heap} {mg : Str → Option Value} (X : K.In h) (G : h.Ns mainGlobals mg)
    {aa : Addr} {ab ac ad ae af ag : Value} {ah ai : Option Addr} {aj : Array (Option Value)}
    {ak : Addr} {al am ao ap aq ar : Value} {as au : Option Addr} {av : Array (Option Value)}
    {aw : Addr} {ax ay az aA aB aC : Value} {aD aE : Option Addr} {aF : Array (Option Value)}
    {aG : Addr} {aH aI aJ aK aL aM : Value} {aN aO : Option Addr} {aP : Array (Option Value)}
    {aQ : Addr} {aR aS aT aU aV aW : Value} {aX aY : Option Addr} {aZ : Array (Option Value)}
    {a0 : Addr} {a1 a2 a3 a4 a5 a6 : Value} {a7 a8 : Option Addr} {a9 : Array (Option Value)}
    {ba : Addr} {bb bc bd be bf bg : Value} {bh bi : Option Addr} {bj : Array (Option Value)}
    {bk : Addr} {bl bm bn bo bp bq : Value} {br bs : Option Addr} {bt : Array (Option Value)}
    {bu : Addr} {bv bw bx bz bA bB : Value} {bC bD : Option Addr} {bE : Array (Option Value)}
    {bF : Addr} {bG bH bI bJ bK bL : Value} {bM bN : Option Addr} {bO : Array (Option Value)}
    {bP : Addr} {bQ bR bS bT bU bV : Value} {bW bX : Option Addr} {bY : Array (Option Value)}
    {bZ : Addr} {b0 b1 b2 b3 b4 b5 : Value} {b6 b7 : Option Addr} {b8 : Array (Option Value)}
    {b9 : Addr} {ca cb cc cd ce cf : Value} {cg ch : Option Addr} {ci : Array (Option Value)}
    {cj : Addr} {ck cl cm cn co cp : Value} {cq cr : Option Addr} {cs : Array (Option Value)}
    {cu : Addr} {cv cw cx cy cz cA : Value} {cB cC : Option Addr} {cD : Array (Option Value)}
    {cE : Addr} {cF cG cH cI cJ cK : Value} {cL cM : Option Addr} {cN : Array (Option Value)}
    {cO : Addr} {cP cQ cR cS cT cU : Value} {cV cW : Option Addr} {cX : Array (Option Value)}
    {cY : Addr} {cZ c0 c1 c2 c3 c4 : Value} {c5 c6 : Option Addr} {c7 : Array (Option Value)}
    {c8 : Addr} {c9 da db dc dd de : Value} {df dg : Option Addr} {dh : Array (Option Value)}
    {di : Addr} {dj dk dl dm dn dp : Value} {dq dr : Option Addr} {ds : Array (Option Value)}
    {dt : Addr} {du dv dw dx dy dz : Value} {dA dB : Option Addr} {dC : Array (Option Value)}
    {dD : Addr} {dE dF dG dH dI dJ : Value} {dK dL : Option Addr} {dM : Array (Option Value)}
    {dN : Addr} {dO dP dQ dR dS dT : Value} {dU dV : Option Addr} {dW : Array (Option Value)}
    {dX : Addr} {dY dZ d0 d1 d2 d3 : Value} {d4 d5 : Option Addr} {d6 : Array (Option Value)}
    {d7 : Addr} {d8 d9 ea eb ec ed : Value} {ee ef : Option Addr} {eg : Array (Option Value)}
    {eh : Addr} {ei ej ek el em en : Value} {eo ep : Option Addr} {eq : Array (Option Value)}
    {er : Addr} {es et eu ev ew ey : Value} {ez eA : Option Addr} {eB : Array (Option Value)}
    {eC : Addr} {eD eE eF eG eH eI : Value} {eJ eK : Option Addr} {eL : Array (Option Value)}
    {eM : Addr} {eN eO eP eQ eR eS : Value} {eT eU : Option Addr} {eV : Array (Option Value)}
    {eW : Addr} {eX eY eZ e1 e2 e3 : Value} {e4 e5 : Option Addr} {e6 : Array (Option Value)}
    {e7 : Addr} {e8 e9 fb fc fd fe : Value} {ff fg : Option Addr} {fh : Array (Option Value)}
    {fi : Addr} {fj fk fl fm fn fo : Value} {fp fq : Option Addr} {fr : Array (Option Value)}
    {fs : Addr} {ft fu fv fw fx fy : Value} {fz fA : Option Addr} {fB : Array (Option Value)}
    {fC : Addr} {fD fE fF fG fH fI : Value} {fJ fK : Option Addr} {fL : Array (Option Value)}
    {fM : Addr} {fN fO fP fQ fR fS : Value} {fT fU : Option Addr} {fV : Array (Option Value)}
    {fW : Addr} {fX fY fZ f0 f1 f2 : Value} {f3 f4 : Option Addr} {f5 : Array (Option Value)}
    {f6 : Addr} {f7 f8 f9 ga gb gc : Value} {gd gf : Option Addr} {gg : Array (Option Value)}
    {gh : Addr} {gi gj gk gl gm gn : Value} {go gp : Option Addr} {gq : Array (Option Value)}
    {gr : Addr} {gs gu gv gw gx gy : Value} {gz gA : Option Addr} {gB : Array (Option Value)}
    {gC : Addr} {gD gE gF gG gH gI : Value} {gJ gK : Option Addr} {gL : Array (Option Value)}
    {gM : Addr} {gN gO gP gQ gR gS : Value} {gT gU : Option Addr} {gV : Array (Option Value)}
    {gW : Addr} {gX gY gZ g0 g1 g2 : Value} {g3 g4 : Option Addr} {g5 : Array (Option Value)}
    {g6 : Addr} {g7 g8 g9 hb hc hd : Value} {he hf : Option Addr} {hg : Array (Option Value)}
    {hh : Addr} {hi hj hk hm hn ho : Value} {hp hq : Option Addr} {hr : Array (Option Value)}
    {hs : Addr} {ht hu hv hx hy hz : Value} {hA hB : Option Addr} {hC : Array (Option Value)}
    {hD : Addr} {hE hF hG hH hI hJ : Value} {hK hL : Option Addr} {hM : Array (Option Value)}
    {hN : Addr} {hO hP hQ hR hT hU : Value} {hV hW : Option Addr} {hX : Array (Option Value)}
    {hY : Addr} {hZ h0 h1 h2 h3 h4 : Value} {h5 h6 : Option Addr} {h7 : Array (Option Value)}
    {h8 : Addr} {h9 ia ib ic ie ig : Value} {ih ii : Option Addr} {ij : Array (Option Value)}
    {ik : Addr} {il im io ip iq ir : Value} {it iu : Option Addr} {iv : Array (Option Value)}
    {iw : Addr} {ix iy iz iA iB iC : Value} {iD iE : Option Addr} {iF : Array (Option Value)}
    {iG : Addr} {iH iI iJ iK iL iM : Value} {iN iO : Option Addr} {iP : Array (Option Value)}
    {iQ : Addr} {iR iS iT iU iV iW : Value} {iX iY : Option Addr} {iZ : Array (Option Value)}
    {i0 : Addr} {i1 i2 i3 i4 i5 i6 : Value} {i7 i8 : Option Addr} {i9 : Array (Option Value)}
    {ja : Addr} {jb jc jd je jf jg : Value} {jh ji : Option Addr} {jj : Array (Option Value)}
    {jk : Addr}
    {jl : Addr}
    {jm : Addr}
    {jn : Addr}
    {jo : Addr}
    {jp : Addr}
    {jq : Addr}
    {jr : Addr}
    {js : Addr}
    {jt : Addr}
    {ju : Addr}
    {jv : Addr}
    {jw : Addr}
    {jx : Addr}
    {jy : Addr}
    {jz : Addr}
    {jA : Addr}
    {jB : Addr}
    {jC : Addr}
    {jD : Addr}
    {jE : PySem.ClassData}
    {jF : PySem.ClassData}
    {jG : PySem.ClassData}
    {jH : Tok}
    {jI : Tok}
    {jJ : Tok}
    {jK : Tok}
    {jL : Tok}
    {jM : Tok}
    {jN : Tok}
    {jO : Tok}
    {jP : Tok}
    {jQ : Tok}
    {jR : Tok}
    {jS : Tok}
    {jT : Tok}
    (jU : W.nsIn K mainGlobals "_wall" = some (some (.ref aa)))
    (jV : K.lookup aa = some ⟨ab, ah, .func (W.fnOf "_wall" "_wall" (defArgs s_wall) (defBody s_wall) (defScope s_wall) .none ac ad ae ai af ag), aj⟩)
    (jW : W.codeIn K af "_wall" = true)
    (jX : W.keepIn K (.ref aa) = true)
    (jY : W.nsIn K mainGlobals "is_any_number" = some (some (.ref ak)))
    (jZ : K.lookup ak = some ⟨al, as, .func (W.fnOf "is_any_number" "is_any_number" (defArgs s_is_any_number) (defBody s_is_any_number) (defScope s_is_any_number) .none am ao ap au aq ar), av⟩)
    (j0 : W.codeIn K aq "is_any_number" = true)
    (j1 : W.keepIn K (.ref ak) = true)
    (j2 : W.nsIn K mainGlobals "is_number" = some (some (.ref aw)))
    (j3 : K.lookup aw = some ⟨ax, aD, .func (W.fnOf "is_number" "is_number" (defArgs s_is_number) (defBody s_is_number) (defScope s_is_number) .none ay az aA aE aB aC), aF⟩)
    (j4 : W.codeIn K aB "is_number" = true)
    (j5 : W.keepIn K (.ref aw) = true)
    (j6 : W.nsIn K mainGlobals "check_number" = some (some (.ref aG)))
    (j7 : K.lookup aG = some ⟨aH, aN, .func (W.fnOf "check_number" "check_number" (defArgs s_check_number) (defBody s_check_number) (defScope s_check_number) .none aI aJ aK aO aL aM), aP⟩)
    (j8 : W.codeIn K aL "check_number" = true)
    (j9 : W.keepIn K (.ref aG) = true)
    (ka : W.nsIn K mainGlobals "are_rising" = some (some (.ref aQ)))
    (kc : K.lookup aQ = some ⟨aR, aX, .func (W.fnOf "are_rising" "are_rising" (defArgs s_are_rising) (defBody s_are_rising) (defScope s_are_rising) .none aS aT aU aY aV aW), aZ⟩)
    (kd : W.codeIn K aV "are_rising" = true)
    (ke : W.keepIn K (.ref aQ) = true)
    (kf : W.nsIn K mainGlobals "is_name" = some (some (.ref a0)))
    (kg : K.lookup a0 = some ⟨a1, a7, .func (W.fnOf "is_name" "is_name" (defArgs s_is_name) (defBody s_is_name) (defScope s_is_name) .none a2 a3 a4 a8 a5 a6), a9⟩)
    (kh : W.codeIn K a5 "is_name" = true)
    (ki : W.keepIn K (.ref a0) = true)
    (kj : W.nsIn K mainGlobals "is_known" = some (some (.ref ba)))
    (kk : K.lookup ba = some ⟨bb, bh, .func (W.fnOf "is_known" "is_known" (defArgs s_is_known) (defBody s_is_known) (defScope s_is_known) .none bc bd be bi bf bg), bj⟩)
    (kl : W.codeIn K bf "is_known" = true)
    (km : W.keepIn K (.ref ba) = true)
    (kn : W.nsIn K mainGlobals "zone_bits" = some (some (.ref bk)))
    (ko : K.lookup bk = some ⟨bl, br, .func (W.fnOf "zone_bits" "zone_bits" (defArgs s_zone_bits) (defBody s_zone_bits) (defScope s_zone_bits) .none bm bn bo bs bp bq), bt⟩)
    (kq : W.codeIn K bp "zone_bits" = true)
    (kr : W.keepIn K (.ref bk) = true)
    (ks : W.nsIn K mainGlobals "zones_of" = some (some (.ref bu)))
    (kt : K.lookup bu = some ⟨bv, bC, .func (W.fnOf "zones_of" "zones_of" (defArgs s_zones_of) (defBody s_zones_of) (defScope s_zones_of) .none bw bx bz bD bA bB), bE⟩)
    (ku : W.codeIn K bA "zones_of" = true)
    (kv : W.keepIn K (.ref bu) = true)
    (kw : W.nsIn K mainGlobals "fits" = some (some (.ref bF)))
    (kx : K.lookup bF = some ⟨bG, bM, .func (W.fnOf "fits" "fits" (defArgs s_fits) (defBody s_fits) (defScope s_fits) .none bH bI bJ bN bK bL), bO⟩)
    (ky : W.codeIn K bK "fits" = true)
    (kz : W.keepIn K (.ref bF) = true)
    (kA : W.nsIn K mainGlobals "copy_of" = some (some (.ref bP)))
    (kB : K.lookup bP = some ⟨bQ, bW, .func (W.fnOf "copy_of" "copy_of" (defArgs s_copy_of) (defBody s_copy_of) (defScope s_copy_of) .none bR bS bT bX bU bV), bY⟩)
    (kC : W.codeIn K bU "copy_of" = true)
    (kD : W.keepIn K (.ref bP) = true)
    (kE : W.nsIn K mainGlobals "check_new" = some (some (.ref bZ)))
    (kF : K.lookup bZ = some ⟨b0, b6, .func (W.fnOf "check_new" "check_new" (defArgs s_check_new) (defBody s_check_new) (defScope s_check_new) .none b1 b2 b3 b7 b4 b5), b8⟩)
    (kG : W.codeIn K b4 "check_new" = true)
    (kH : W.keepIn K (.ref bZ) = true)
    (kI : W.nsIn K mainGlobals "check_room" = some (some (.ref b9)))
    (kJ : K.lookup b9 = some ⟨ca, cg, .func (W.fnOf "check_room" "check_room" (defArgs s_check_room) (defBody s_check_room) (defScope s_check_room) .none cb cc cd ch ce cf), ci⟩)
    (kK : W.codeIn K ce "check_room" = true)
    (kL : W.keepIn K (.ref b9) = true)
    (kM : W.nsIn K mainGlobals "have_calls_form" = some (some (.ref cj)))
    (kN : K.lookup cj = some ⟨ck, cq, .func (W.fnOf "have_calls_form" "have_calls_form" (defArgs s_have_calls_form) (defBody s_have_calls_form) (defScope s_have_calls_form) .none cl cm cn cr co cp), cs⟩)
    (kO : W.codeIn K co "have_calls_form" = true)
    (kP : W.keepIn K (.ref cj) = true)
    (kQ : W.nsIn K mainGlobals "can_follow" = some (some (.ref cu)))
    (kR : K.lookup cu = some ⟨cv, cB, .func (W.fnOf "can_follow" "can_follow" (defArgs s_can_follow) (defBody s_can_follow) (defScope s_can_follow) .none cw cx cy cC cz cA), cD⟩)
    (kS : W.codeIn K cz "can_follow" = true)
    (kT : W.keepIn K (.ref cu) = true)
    (kU : W.nsIn K mainGlobals "_law_draw" = some (some (.ref cE)))
    (kW : K.lookup cE = some ⟨cF, cL, .func (W.fnOf "_law_draw" "_law_draw" (defArgs s_law_draw) (defBody s_law_draw) (defScope s_law_draw) .none cG cH cI cM cJ cK), cN⟩)
    (kX : W.codeIn K cJ "_law_draw" = true)
    (kY : W.keepIn K (.ref cE) = true)
    (kZ : W.nsIn K mainGlobals "_law_whole" = some (some (.ref cO)))
    (k0 : K.lookup cO = some ⟨cP, cV, .func (W.fnOf "_law_whole" "_law_whole" (defArgs s_law_whole) (defBody s_law_whole) (defScope s_law_whole) .none cQ cR cS cW cT cU), cX⟩)
    (k1 : W.codeIn K cT "_law_whole" = true)
    (k2 : W.keepIn K (.ref cO) = true)
    (k3 : W.nsIn K mainGlobals "_law_word" = some (some (.ref cY)))
    (k4 : K.lookup cY = some ⟨cZ, c5, .func (W.fnOf "_law_word" "_law_word" (defArgs s_law_word) (defBody s_law_word) (defScope s_law_word) .none c0 c1 c2 c6 c3 c4), c7⟩)
    (k5 : W.codeIn K c3 "_law_word" = true)
    (k6 : W.keepIn K (.ref cY) = true)
    (k7 : W.nsIn K mainGlobals "_law_names" = some (some (.ref c8)))
    (k8 : K.lookup c8 = some ⟨c9, df, .func (W.fnOf "_law_names" "_law_names" (defArgs s_law_names) (defBody s_law_names) (defScope s_law_names) .none da db dc dg dd de), dh⟩)
    (k9 : W.codeIn K dd "_law_names" = true)
    (la : W.keepIn K (.ref c8) = true)
    (lb : W.nsIn K mainGlobals "_law_calls" = some (some (.ref di)))
    (lc : K.lookup di = some ⟨dj, dq, .func (W.fnOf "_law_calls" "_law_calls" (defArgs s_law_calls) (defBody s_law_calls) (defScope s_law_calls) .none dk dl dm dr dn dp), ds⟩)
    (ld : W.codeIn K dn "_law_calls" = true)
    (lf : W.keepIn K (.ref di) = true)
    (lg : W.nsIn K mainGlobals "_law_zones" = some (some (.ref dt)))
    (lh : K.lookup dt = some ⟨du, dA, .func (W.fnOf "_law_zones" "_law_zones" (defArgs s_law_zones) (defBody s_law_zones) (defScope s_law_zones) .none dv dw dx dB dy dz), dC⟩)
    (li : W.codeIn K dy "_law_zones" = true)
    (lj : W.keepIn K (.ref dt) = true)
    (lk : W.nsIn K mainGlobals "_law_tickets" = some (some (.ref dD)))
    (ll : K.lookup dD = some ⟨dE, dK, .func (W.fnOf "_law_tickets" "_law_tickets" (defArgs s_law_tickets) (defBody s_law_tickets) (defScope s_law_tickets) .none dF dG dH dL dI dJ), dM⟩)
    (lm : W.codeIn K dI "_law_tickets" = true)
    (ln : W.keepIn K (.ref dD) = true)
    (lo : W.nsIn K mainGlobals "_law_bits" = some (some (.ref dN)))
    (lp : K.lookup dN = some ⟨dO, dU, .func (W.fnOf "_law_bits" "_law_bits" (defArgs s_law_bits) (defBody s_law_bits) (defScope s_law_bits) .none dP dQ dR dV dS dT), dW⟩)
    (lq : W.codeIn K dS "_law_bits" = true)
    (lr : W.keepIn K (.ref dN) = true)
    (ls : W.nsIn K mainGlobals "_law_net" = some (some (.ref dX)))
    (lu : K.lookup dX = some ⟨dY, d4, .func (W.fnOf "_law_net" "_law_net" (defArgs s_law_net) (defBody s_law_net) (defScope s_law_net) .none dZ d0 d1 d5 d2 d3), d6⟩)
    (lv : W.codeIn K d2 "_law_net" = true)
    (lw : W.keepIn K (.ref dX) = true)
    (lx : W.nsIn K mainGlobals "_law_refused" = some (some (.ref d7)))
    (ly : K.lookup d7 = some ⟨d8, ee, .func (W.fnOf "_law_refused" "_law_refused" (defArgs s_law_refused) (defBody s_law_refused) (defScope s_law_refused) .none d9 ea eb ef ec ed), eg⟩)
    (lz : W.codeIn K ec "_law_refused" = true)
    (lA : W.keepIn K (.ref d7) = true)
    (lB : W.nsIn K mainGlobals "_law_rides_right" = some (some (.ref eh)))
    (lC : K.lookup eh = some ⟨ei, eo, .func (W.fnOf "_law_rides_right" "_law_rides_right" (defArgs s_law_rides_right) (defBody s_law_rides_right) (defScope s_law_rides_right) .none ej ek el ep em en), eq⟩)
    (lD : W.codeIn K em "_law_rides_right" = true)
    (lE : W.keepIn K (.ref eh) = true)
    (lF : W.nsIn K mainGlobals "law" = some (some (.ref er)))
    (lG : K.lookup er = some ⟨es, ez, .func (W.fnOf "law" "law" (defArgs s_law) (defBody s_law) (defScope s_law) .none et eu ev eA ew ey), eB⟩)
    (lH : W.codeIn K ew "law" = true)
    (lI : W.keepIn K (.ref er) = true)
    (lJ : W.nsIn K mainGlobals "RoadError" = some (some (.ref jk)))
    (lK : W.nsIn K mainGlobals "BadClock" = some (some (.ref jl)))
    (lL : W.nsIn K mainGlobals "BadRule" = some (some (.ref jm)))
    (lM : W.nsIn K mainGlobals "TooMany" = some (some (.ref jn)))
    (lN : W.nsIn K mainGlobals "BadName" = some (some (.ref jo)))
    (lO : W.nsIn K mainGlobals "Twice" = some (some (.ref jp)))
    (lP : W.nsIn K mainGlobals "NoStop" = some (some (.ref jq)))
    (lQ : W.nsIn K mainGlobals "NoRule" = some (some (.ref jr)))
    (lR : W.nsIn K mainGlobals "NoTicket" = some (some (.ref js)))
    (lS : W.nsIn K mainGlobals "NoTrip" = some (some (.ref jt)))
    (lT : W.nsIn K mainGlobals "BadNumber" = some (some (.ref ju)))
    (lU : W.nsIn K mainGlobals "BadCalls" = some (some (.ref jv)))
    (lV : W.nsIn K mainGlobals "BadRow" = some (some (.ref jw)))
    (lW : W.nsIn K mainGlobals "NoRun" = some (some (.ref jx)))
    (lX : W.nsIn K mainGlobals "NoPlan" = some (some (.ref jy)))
    (lY : W.nsIn K mainGlobals "TooLate" = some (some (.ref jz)))
    (lZ : W.nsIn K mainGlobals "NoTraveller" = some (some (.ref jA)))
    (l0 : W.nsIn K mainGlobals "BadLine" = some (some (.ref jB)))
    (l1 : W.nsIn K mainGlobals "Rule" = some (some (.ref jC)))
    (l2 : W.nsIn K mainGlobals "Net" = some (some (.ref jD)))
    (l3 : W.findIn K (.ref jC) "copied" = some (some (.ref eC)))
    (l4 : W.isFn K (.ref eC) = true)
    (l5 : K.lookup eC = some ⟨eD, eJ, .func (W.fnOf "copied" "Rule.copied" (defArgs s_Rule_copied) (defBody s_Rule_copied) (defScope s_Rule_copied) .none eE eF eG eK eH eI), eL⟩)
    (l6 : W.codeIn K eH "Rule.copied" = true)
    (l7 : W.keepIn K (.ref eC) = true)
    (l8 : W.findIn K (.ref jC) "parts" = some (some (.ref eM)))
    (l9 : W.isFn K (.ref eM) = true)
    (ma : K.lookup eM = some ⟨eN, eT, .func (W.fnOf "parts" "Rule.parts" (defArgs s_Rule_parts) (defBody s_Rule_parts) (defScope s_Rule_parts) .none eO eP eQ eU eR eS), eV⟩)
    (mb : W.codeIn K eR "Rule.parts" = true)
    (mc : W.keepIn K (.ref eM) = true)
    (md : W.findIn K (.ref jC) "runs" = some (some (.ref eW)))
    (me : W.isFn K (.ref eW) = true)
    (mf : K.lookup eW = some ⟨eX, e4, .func (W.fnOf "runs" "Rule.runs" (defArgs s_Rule_runs) (defBody s_Rule_runs) (defScope s_Rule_runs) .none eY eZ e1 e5 e2 e3), e6⟩)
    (mh : W.codeIn K e2 "Rule.runs" = true)
    (mi : W.keepIn K (.ref eW) = true)
    (mj : W.findIn K (.ref jC) "words" = some (some (.ref e7)))
    (mk : W.isFn K (.ref e7) = true)
    (ml : K.lookup e7 = some ⟨e8, ff, .func (W.fnOf "words" "Rule.words" (defArgs s_Rule_words) (defBody s_Rule_words) (defScope s_Rule_words) .none e9 fb fc fg fd fe), fh⟩)
    (mm : W.codeIn K fd "Rule.words" = true)
    (mn : W.keepIn K (.ref e7) = true)
    (mo : W.findIn K (.ref jC) "weight" = some (some (.ref fi)))
    (mp : W.isFn K (.ref fi) = true)
    (mq : K.lookup fi = some ⟨fj, fp, .func (W.fnOf "weight" "Rule.weight" (defArgs s_Rule_weight) (defBody s_Rule_weight) (defScope s_Rule_weight) .none fk fl fm fq fn fo), fr⟩)
    (mr : W.codeIn K fn "Rule.weight" = true)
    (ms : W.keepIn K (.ref fi) = true)
    (mt : W.findIn K (.ref jC) "depth" = some (some (.ref fs)))
    (mu : W.isFn K (.ref fs) = true)
    (mv : K.lookup fs = some ⟨ft, fz, .func (W.fnOf "depth" "Rule.depth" (defArgs s_Rule_depth) (defBody s_Rule_depth) (defScope s_Rule_depth) .none fu fv fw fA fx fy), fB⟩)
    (mw : W.codeIn K fx "Rule.depth" = true)
    (mx : W.keepIn K (.ref fs) = true)
    (my : W.findIn K (.ref jD) "__init__" = some (some (.ref fC)))
    (mz : W.isFn K (.ref fC) = true)
    (mA : K.lookup fC = some ⟨fD, fJ, .func (W.fnOf "__init__" "Net.__init__" (defArgs s_Net_init) (defBody s_Net_init) (defScope s_Net_init) .none fE fF fG fK fH fI), fL⟩)
    (mB : W.codeIn K fH "Net.__init__" = true)
    (mC : W.keepIn K (.ref fC) = true)
    (mD : W.findIn K (.ref jD) "copied" = some (some (.ref fM)))
    (mE : W.isFn K (.ref fM) = true)
    (mF : K.lookup fM = some ⟨fN, fT, .func (W.fnOf "copied" "Net.copied" (defArgs s_Net_copied) (defBody s_Net_copied) (defScope s_Net_copied) .none fO fP fQ fU fR fS), fV⟩)
    (mG : W.codeIn K fR "Net.copied" = true)
    (mH : W.keepIn K (.ref fM) = true)
    (mI : W.findIn K (.ref jD) "add_stop" = some (some (.ref fW)))
    (mJ : W.isFn K (.ref fW) = true)
    (mK : K.lookup fW = some ⟨fX, f3, .func (W.fnOf "add_stop" "Net.add_stop" (defArgs s_Net_add_stop) (defBody s_Net_add_stop) (defScope s_Net_add_stop) .none fY fZ f0 f4 f1 f2), f5⟩)
    (mL : W.codeIn K f1 "Net.add_stop" = true)
    (mM : W.keepIn K (.ref fW) = true)
    (mN : W.findIn K (.ref jD) "add_walk" = some (some (.ref f6)))
    (mO : W.isFn K (.ref f6) = true)
    (mP : K.lookup f6 = some ⟨f7, gd, .func (W.fnOf "add_walk" "Net.add_walk" (defArgs s_Net_add_walk) (defBody s_Net_add_walk) (defScope s_Net_add_walk) .none f8 f9 ga gf gb gc), gg⟩)
    (mQ : W.codeIn K gb "Net.add_walk" = true)
    (mR : W.keepIn K (.ref f6) = true)
    (mS : W.findIn K (.ref jD) "add_rule" = some (some (.ref gh)))
    (mT : W.isFn K (.ref gh) = true)
    (mU : K.lookup gh = some ⟨gi, go, .func (W.fnOf "add_rule" "Net.add_rule" (defArgs s_Net_add_rule) (defBody s_Net_add_rule) (defScope s_Net_add_rule) .none gj gk gl gp gm gn), gq⟩)
    (mV : W.codeIn K gm "Net.add_rule" = true)
    (mW : W.keepIn K (.ref gh) = true)
    (mX : W.findIn K (.ref jD) "add_ticket" = some (some (.ref gr)))
    (mY : W.isFn K (.ref gr) = true)
    (mZ : K.lookup gr = some ⟨gs, gz, .func (W.fnOf "add_ticket" "Net.add_ticket" (defArgs s_Net_add_ticket) (defBody s_Net_add_ticket) (defScope s_Net_add_ticket) .none gu gv gw gA gx gy), gB⟩)
    (m0 : W.codeIn K gx "Net.add_ticket" = true)
    (m1 : W.keepIn K (.ref gr) = true)
    (m2 : W.findIn K (.ref jD) "add_trip" = some (some (.ref gC)))
    (m3 : W.isFn K (.ref gC) = true)
    (m4 : K.lookup gC = some ⟨gD, gJ, .func (W.fnOf "add_trip" "Net.add_trip" (defArgs s_Net_add_trip) (defBody s_Net_add_trip) (defScope s_Net_add_trip) .none gE gF gG gK gH gI), gL⟩)
    (m5 : W.codeIn K gH "Net.add_trip" = true)
    (m6 : W.keepIn K (.ref gC) = true)
    (m7 : W.findIn K (.ref jD) "check_stop" = some (some (.ref gM)))
    (m8 : W.isFn K (.ref gM) = true)
    (m9 : K.lookup gM = some ⟨gN, gT, .func (W.fnOf "check_stop" "Net.check_stop" (defArgs s_Net_check_stop) (defBody s_Net_check_stop) (defScope s_Net_check_stop) .none gO gP gQ gU gR gS), gV⟩)
    (na : W.codeIn K gR "Net.check_stop" = true)
    (nc : W.keepIn K (.ref gM) = true)
    (nd : W.findIn K (.ref jD) "check_trip" = some (some (.ref gW)))
    (nf : W.isFn K (.ref gW) = true)
    (ng : K.lookup gW = some ⟨gX, g3, .func (W.fnOf "check_trip" "Net.check_trip" (defArgs s_Net_check_trip) (defBody s_Net_check_trip) (defScope s_Net_check_trip) .none gY gZ g0 g4 g1 g2), g5⟩)
    (nh : W.codeIn K g1 "Net.check_trip" = true)
    (ni : W.keepIn K (.ref gW) = true)
    (nj : W.findIn K (.ref jD) "check_call" = some (some (.ref g6)))
    (nk : W.isFn K (.ref g6) = true)
    (nl : K.lookup g6 = some ⟨g7, he, .func (W.fnOf "check_call" "Net.check_call" (defArgs s_Net_check_call) (defBody s_Net_check_call) (defScope s_Net_check_call) .none g8 g9 hb hf hc hd), hg⟩)
    (nm : W.codeIn K hc "Net.check_call" = true)
    (nn : W.keepIn K (.ref g6) = true)
    (no : W.findIn K (.ref jD) "has_walk" = some (some (.ref hh)))
    (np : W.isFn K (.ref hh) = true)
    (nq : K.lookup hh = some ⟨hi, hp, .func (W.fnOf "has_walk" "Net.has_walk" (defArgs s_Net_has_walk) (defBody s_Net_has_walk) (defScope s_Net_has_walk) .none hj hk hm hq hn ho), hr⟩)
    (nr : W.codeIn K hn "Net.has_walk" = true)
    (nt : W.keepIn K (.ref hh) = true)
    (nu : W.findIn K (.ref jD) "stops" = some (some (.ref hs)))
    (nv : W.isFn K (.ref hs) = true)
    (nw : K.lookup hs = some ⟨ht, hA, .func (W.fnOf "stops" "Net.stops" (defArgs s_Net_stops) (defBody s_Net_stops) (defScope s_Net_stops) .none hu hv hx hB hy hz), hC⟩)
    (nx : W.codeIn K hy "Net.stops" = true)
    (ny : W.keepIn K (.ref hs) = true)
    (nz : W.findIn K (.ref jD) "walks" = some (some (.ref hD)))
    (nA : W.isFn K (.ref hD) = true)
    (nB : K.lookup hD = some ⟨hE, hK, .func (W.fnOf "walks" "Net.walks" (defArgs s_Net_walks) (defBody s_Net_walks) (defScope s_Net_walks) .none hF hG hH hL hI hJ), hM⟩)
    (nC : W.codeIn K hI "Net.walks" = true)
    (nD : W.keepIn K (.ref hD) = true)
    (nE : W.findIn K (.ref jD) "rules" = some (some (.ref hN)))
    (nF : W.isFn K (.ref hN) = true)
    (nG : K.lookup hN = some ⟨hO, hV, .func (W.fnOf "rules" "Net.rules" (defArgs s_Net_rules) (defBody s_Net_rules) (defScope s_Net_rules) .none hP hQ hR hW hT hU), hX⟩)
    (nH : W.codeIn K hT "Net.rules" = true)
    (nI : W.keepIn K (.ref hN) = true)
    (nJ : W.findIn K (.ref jD) "tickets" = some (some (.ref hY)))
    (nK : W.isFn K (.ref hY) = true)
    (nL : K.lookup hY = some ⟨hZ, h5, .func (W.fnOf "tickets" "Net.tickets" (defArgs s_Net_tickets) (defBody s_Net_tickets) (defScope s_Net_tickets) .none h0 h1 h2 h6 h3 h4), h7⟩)
    (nM : W.codeIn K h3 "Net.tickets" = true)
    (nN : W.keepIn K (.ref hY) = true)
    (nO : W.findIn K (.ref jD) "trips" = some (some (.ref h8)))
    (nP : W.isFn K (.ref h8) = true)
    (nQ : K.lookup h8 = some ⟨h9, ih, .func (W.fnOf "trips" "Net.trips" (defArgs s_Net_trips) (defBody s_Net_trips) (defScope s_Net_trips) .none ia ib ic ii ie ig), ij⟩)
    (nR : W.codeIn K ie "Net.trips" = true)
    (nS : W.keepIn K (.ref h8) = true)
    (nT : W.findIn K (.ref jD) "zone" = some (some (.ref ik)))
    (nU : W.isFn K (.ref ik) = true)
    (nV : K.lookup ik = some ⟨il, it, .func (W.fnOf "zone" "Net.zone" (defArgs s_Net_zone) (defBody s_Net_zone) (defScope s_Net_zone) .none im io ip iu iq ir), iv⟩)
    (nW : W.codeIn K iq "Net.zone" = true)
    (nX : W.keepIn K (.ref ik) = true)
    (nY : W.findIn K (.ref jD) "change" = some (some (.ref iw)))
    (nZ : W.isFn K (.ref iw) = true)
    (n0 : K.lookup iw = some ⟨ix, iD, .func (W.fnOf "change" "Net.change" (defArgs s_Net_change) (defBody s_Net_change) (defScope s_Net_change) .none iy iz iA iE iB iC), iF⟩)
    (n1 : W.codeIn K iB "Net.change" = true)
    (n2 : W.keepIn K (.ref iw) = true)
    (n3 : W.findIn K (.ref jD) "rule" = some (some (.ref iG)))
    (n4 : W.isFn K (.ref iG) = true)
    (n5 : K.lookup iG = some ⟨iH, iN, .func (W.fnOf "rule" "Net.rule" (defArgs s_Net_rule) (defBody s_Net_rule) (defScope s_Net_rule) .none iI iJ iK iO iL iM), iP⟩)
    (n6 : W.codeIn K iL "Net.rule" = true)
    (n7 : W.keepIn K (.ref iG) = true)
    (n8 : W.findIn K (.ref jD) "ticket" = some (some (.ref iQ)))
    (n9 : W.isFn K (.ref iQ) = true)
    (oa : K.lookup iQ = some ⟨iR, iX, .func (W.fnOf "ticket" "Net.ticket" (defArgs s_Net_ticket) (defBody s_Net_ticket) (defScope s_Net_ticket) .none iS iT iU iY iV iW), iZ⟩)
    (ob : W.codeIn K iV "Net.ticket" = true)
    (oe : W.keepIn K (.ref iQ) = true)
    (og : W.findIn K (.ref jD) "rule_name" = some (some (.ref i0)))
    (oh : W.isFn K (.ref i0) = true)
    (oi : K.lookup i0 = some ⟨i1, i7, .func (W.fnOf "rule_name" "Net.rule_name" (defArgs s_Net_rule_name) (defBody s_Net_rule_name) (defScope s_Net_rule_name) .none i2 i3 i4 i8 i5 i6), i9⟩)
    (oj : W.codeIn K i5 "Net.rule_name" = true)
    (ok : W.keepIn K (.ref i0) = true)
    (ol : W.findIn K (.ref jD) "calls" = some (some (.ref ja)))
    (om : W.isFn K (.ref ja) = true)
    (on : K.lookup ja = some ⟨jb, jh, .func (W.fnOf "calls" "Net.calls" (defArgs s_Net_calls) (defBody s_Net_calls) (defScope s_Net_calls) .none jc jd je ji jf jg), jj⟩)
    (oo : W.codeIn K jf "Net.calls" = true)
    (op : W.keepIn K (.ref ja) = true)
    (oq : W.plainGet K jC Str.empty = true)
    (os : W.hasDictIn K jC = true)
    (ot : W.plainOver K jC = true)
    (ou : W.findIn K (.ref jC) "__setattr__" = some (some (.builtin "object.__setattr__")))
    (ov : W.makesIn K jC = true)
    (ow : W.keepIn K (.ref jC) = true)
    (ox : W.findIn K (.ref jC) "__init__" = some (some (.builtin "object.__init__")))
    (oy : W.plainGet K jD Str.empty = true)
    (oz : W.hasDictIn K jD = true)
    (oA : W.plainOver K jD = true)
    (oB : W.findIn K (.ref jD) "__setattr__" = some (some (.builtin "object.__setattr__")))
    (oC : W.makesIn K jD = true)
    (oD : W.keepIn K (.ref jD) = true)
    (oE : W.findIn K (.ref jD) "stop_rows" = some none)
    (oF : W.findIn K (.ref jD) "walk_rows" = some none)
    (oG : W.findIn K (.ref jD) "rule_rows" = some none)
    (oH : W.findIn K (.ref jD) "ticket_rows" = some none)
    (oI : W.findIn K (.ref jD) "trip_rows" = some none)
    (oJ : W.findIn K (.ref jC) "__class__" = some (some (.builtin "object.__class__")))
    (oK : W.specialIn K (.builtin "object.__class__") "__get__" = some (some (.builtin "getset_descriptor.__get__")))
    (oL : W.takesIn K (.builtin "object.__class__") = some true)
    (oM : W.mroIn K jC (.type "object") = some true)
    (oN : W.kitOne K (.ref jC) (.ref jC) = some true)
    (oO : W.excIn K jt [.type "ValueError", .type "Exception", .type "BaseException", .type "object"] "ValueError.__new__" = true)
    (oP : W.clsIn K jt = some jE)
    (oQ : W.findIn K (.ref jt) "__getattribute__" = some (some (.builtin "BaseException.__getattribute__")))
    (oR : W.findIn K (.ref jt) "__getattr__" = some none)
    (oS : W.findIn K (.ref jt) "__class__" = some (some (.builtin "object.__class__")))
    (oT : W.mroIn K jt (.type "object") = some true)
    (oU : W.mroIn K jt (.type "BaseException") = some true)
    (oV : W.specialIn K (.builtin "object.__class__") "__get__" = some (some (.builtin "getset_descriptor.__get__")))
    (oW : W.takesIn K (.builtin "object.__class__") = some true)
    (oX : W.kitOne K (.ref jt) (.ref jv) = some false)
    (oY : W.kitOne K (.ref jt) (.ref jl) = some false)
    (oZ : W.kitOne K (.ref jt) (.ref jB) = some false)
    (o0 : W.kitOne K (.ref jt) (.ref jo) = some false)
    (o1 : W.kitOne K (.ref jt) (.ref ju) = some false)
    (o2 : W.kitOne K (.ref jt) (.ref jw) = some false)
    (o3 : W.kitOne K (.ref jt) (.ref jm) = some false)
    (o4 : W.kitOne K (.ref jt) (.ref jy) = some false)
    (o5 : W.kitOne K (.ref jt) (.ref jr) = some false)
    (o6 : W.kitOne K (.ref jt) (.ref jx) = some false)
    (o7 : W.kitOne K (.ref jt) (.ref jq) = some false)
    (o8 : W.kitOne K (.ref jt) (.ref js) = some false)
    (o9 : W.kitOne K (.ref jt) (.ref jA) = some false)
    (pa : W.kitOne K (.ref jt) (.ref jt) = some true)
    (pb : W.kitOne K (.ref jt) (.ref jz) = some false)
    (pc : W.kitOne K (.ref jt) (.ref jn) = some false)
    (pd : W.kitOne K (.ref jt) (.ref jp) = some false)
    (pe : W.kitOne K (.ref jt) (.type "ValueError") = some true)
    (pf : W.exmOne K (.ref jt) (.ref jk) = some true)
    (pg : W.excIn K js [.type "ValueError", .type "Exception", .type "BaseException", .type "object"] "ValueError.__new__" = true)
    (ph : W.clsIn K js = some jF)
    (pi : W.findIn K (.ref js) "__getattribute__" = some (some (.builtin "BaseException.__getattribute__")))
    (pj : W.findIn K (.ref js) "__getattr__" = some none)
    (pk : W.findIn K (.ref js) "__class__" = some (some (.builtin "object.__class__")))
    (pl : W.mroIn K js (.type "object") = some true)
    (pn : W.mroIn K js (.type "BaseException") = some true)
    (po : W.specialIn K (.builtin "object.__class__") "__get__" = some (some (.builtin "getset_descriptor.__get__")))
    (pp : W.takesIn K (.builtin "object.__class__") = some true)
    (pq : W.kitOne K (.ref js) (.ref jv) = some false)
    (pr : W.kitOne K (.ref js) (.ref jl) = some false)
    (pt : W.kitOne K (.ref js) (.ref jB) = some false)
    (pu : W.kitOne K (.ref js) (.ref jo) = some false)
    (pv : W.kitOne K (.ref js) (.ref ju) = some false)
    (pw : W.kitOne K (.ref js) (.ref jw) = some false)
    (px : W.kitOne K (.ref js) (.ref jm) = some false)
    (py : W.kitOne K (.ref js) (.ref jy) = some false)
    (pz : W.kitOne K (.ref js) (.ref jr) = some false)
    (pA : W.kitOne K (.ref js) (.ref jx) = some false)
    (pB : W.kitOne K (.ref js) (.ref jq) = some false)
    (pC : W.kitOne K (.ref js) (.ref js) = some true)
    (pD : W.kitOne K (.ref js) (.ref jA) = some false)
    (pE : W.kitOne K (.ref js) (.ref jt) = some false)
    (pF : W.kitOne K (.ref js) (.ref jz) = some false)
    (pG : W.kitOne K (.ref js) (.ref jn) = some false)
    (pH : W.kitOne K (.ref js) (.ref jp) = some false)
    (pI : W.kitOne K (.ref js) (.type "ValueError") = some true)
    (pJ : W.exmOne K (.ref js) (.ref jk) = some true)
    (pK : W.excIn K ju [.type "ValueError", .type "Exception", .type "BaseException", .type "object"] "ValueError.__new__" = true)
    (pL : W.clsIn K ju = some jG)
    (pM : W.findIn K (.ref ju) "__getattribute__" = some (some (.builtin "BaseException.__getattribute__")))
    (pN : W.findIn K (.ref ju) "__getattr__" = some none)
    (pO : W.findIn K (.ref ju) "__class__" = some (some (.builtin "object.__class__")))
    (pP : W.mroIn K ju (.type "object") = some true)
    (pQ : W.mroIn K ju (.type "BaseException") = some true)
    (pR : W.specialIn K (.builtin "object.__class__") "__get__" = some (some (.builtin "getset_descriptor.__get__")))
    (pS : W.takesIn K (.builtin "object.__class__") = some true)
    (pT : W.kitOne K (.ref ju) (.ref jv) = some false)
    (pU : W.kitOne K (.ref ju) (.ref jl) = some false)
    (pV : W.kitOne K (.ref ju) (.ref jB) = some false)
    (pW : W.kitOne K (.ref ju) (.ref jo) = some false)
    (pX : W.kitOne K (.ref ju) (.ref ju) = some true)
    (pY : W.kitOne K (.ref ju) (.ref jw) = some false)
    (pZ : W.kitOne K (.ref ju) (.ref jm) = some false)
    (p0 : W.kitOne K (.ref ju) (.ref jy) = some false)
    (p1 : W.kitOne K (.ref ju) (.ref jr) = some false)
    (p2 : W.kitOne K (.ref ju) (.ref jx) = some false)
    (p3 : W.kitOne K (.ref ju) (.ref jq) = some false)
    (p4 : W.kitOne K (.ref ju) (.ref js) = some false)
    (p5 : W.kitOne K (.ref ju) (.ref jA) = some false)
    (p6 : W.kitOne K (.ref ju) (.ref jt) = some false)
    (p7 : W.kitOne K (.ref ju) (.ref jz) = some false)
    (p8 : W.kitOne K (.ref ju) (.ref jn) = some false)
    (p9 : W.kitOne K (.ref ju) (.ref jp) = some false)
    (qa : W.kitOne K (.ref ju) (.type "ValueError") = some true)
    (qb : W.exmOne K (.ref ju) (.ref jk) = some true)
    (qc : W.nsIn K mainGlobals "ValueError" = some none)
    (qd : W.nsIn K mainGlobals "all" = some none)
    (qe : W.nsIn K mainGlobals "bool" = some none)
    (qf : W.nsIn K mainGlobals "dict" = some none)
    (qg : W.nsIn K mainGlobals "enumerate" = some none)
    (qh : W.nsIn K mainGlobals "int" = some none)
    (qi : W.nsIn K mainGlobals "isinstance" = some none)
    (qj : W.nsIn K mainGlobals "len" = some none)
    (qk : W.nsIn K mainGlobals "list" = some none)
    (ql : W.nsIn K mainGlobals "range" = some none)
    (qm : W.nsIn K mainGlobals "set" = some none)
    (qn : W.nsIn K mainGlobals "sorted" = some none)
    (qo : W.nsIn K mainGlobals "str" = some none)
    (qp : W.nsIn K mainGlobals "sum" = some none)
    (qq : W.nsIn K mainGlobals "tuple" = some none)
    (qr : W.nsIn K mainGlobals "LETTERS" = some (some (.str (Str.ofString "abcdefghijklmnopqrstuvwxyz") jH)))
    (qs : W.nsIn K mainGlobals "MOST_LETTERS" = some (some (.int 8 jI)))
    (qt : W.nsIn K mainGlobals "LAST_MINUTE" = some (some (.int 2879 jJ)))
    (qu : W.nsIn K mainGlobals "MOST_STOPS" = some (some (.int 8 jK)))
    (qv : W.nsIn K mainGlobals "MOST_RULES" = some (some (.int 6 jL)))
    (qw : W.nsIn K mainGlobals "MOST_TICKETS" = some (some (.int 3 jM)))
    (qx : W.nsIn K mainGlobals "MOST_TRIPS" = some (some (.int 10 jN)))
    (qy : W.nsIn K mainGlobals "LAST_ZONE" = some (some (.int 6 jO)))
    (qz : W.nsIn K mainGlobals "MOST_CHANGE" = some (some (.int 30 jP)))
    (qA : W.nsIn K mainGlobals "MOST_PRICE" = some (some (.int 10000 jQ)))
    (qB : W.nsIn K mainGlobals "MOST_LASTING" = some (some (.int 1440 jR)))
    (qC : W.nsIn K mainGlobals "LEAST_CALLS" = some (some (.int 2 jS)))
    (qD : W.nsIn K mainGlobals "MOST_CALLS" = some (some (.int 6 jT)))
    : ∃ t : Adr, Tab K mg t := by
  have qE := fun_mk (st := s_wall) jV jW jX
  have qF := qE.binds (ps := ["k"]) fun _ _ _ _ _ _ us hl => match us, hl with | [_], _ => rfl
  have qG := fun_mk (st := s_is_any_number) jZ j0 j1
  have qH := qG.binds (ps := ["value"]) fun _ _ _ _ _ _ us hl => match us, hl with | [_], _ => rfl
  have qI := fun_mk (st := s_is_number) j3 j4 j5
  have qJ := qI.binds (ps := ["value", "least", "most"]) fun _ _ _ _ _ _ us hl => match us, hl with | [_, _, _], _ => rfl
  have qK := fun_mk (st := s_check_number) j7 j8 j9
  have qL := qK.binds (ps := ["value", "least", "most"]) fun _ _ _ _ _ _ us hl => match us, hl with | [_, _, _], _ => rfl
  have qM := fun_mk (st := s_are_rising) kc kd ke
  have qN := qM.binds (ps := ["values", "longest", "least", "most"]) fun _ _ _ _ _ _ us hl => match us, hl with | [_, _, _, _], _ => rfl
  have qO := fun_mk (st := s_is_name) kg kh ki
  have qP := qO.binds (ps := ["value"]) fun _ _ _ _ _ _ us hl => match us, hl with | [_], _ => rfl
  have qQ := fun_mk (st := s_is_known) kk kl km
  have qR := qQ.binds (ps := ["value", "named"]) fun _ _ _ _ _ _ us hl => match us, hl with | [_, _], _ => rfl
  have qS := fun_mk (st := s_zone_bits) ko kq kr
  have qT := qS.binds (ps := ["zones"]) fun _ _ _ _ _ _ us hl => match us, hl with | [_], _ => rfl
  have qU := fun_mk (st := s_zones_of) kt ku kv
  have qV := qU.binds (ps := ["net", "trip", "board", "off"]) fun _ _ _ _ _ _ us hl => match us, hl with | [_, _, _, _], _ => rfl
  have qW := fun_mk (st := s_fits) kx ky kz
  have qX := qW.binds (ps := ["net", "ticket", "bits"]) fun _ _ _ _ _ _ us hl => match us, hl with | [_, _, _], _ => rfl
  have qY := fun_mk (st := s_copy_of) kB kC kD
  have qZ := qY.binds (ps := ["rule"]) fun _ _ _ _ _ _ us hl => match us, hl with | [_], _ => rfl
  have q0 := fun_mk (st := s_check_new) kF kG kH
  have q1 := q0.binds (ps := ["name", "named"]) fun _ _ _ _ _ _ us hl => match us, hl with | [_, _], _ => rfl
  have q2 := fun_mk (st := s_check_room) kJ kK kL
  have q3 := q2.binds (ps := ["kept", "most"]) fun _ _ _ _ _ _ us hl => match us, hl with | [_, _], _ => rfl
  have q4 := fun_mk (st := s_have_calls_form) kN kO kP
  have q5 := q4.binds (ps := ["calls"]) fun _ _ _ _ _ _ us hl => match us, hl with | [_], _ => rfl
  have q6 := fun_mk (st := s_can_follow) kR kS kT
  have q7 := q6.binds (ps := ["call", "ahead"]) fun _ _ _ _ _ _ us hl => match us, hl with | [_, _], _ => rfl
  have q8 := fun_mk (st := s_law_draw) kW kX kY
  have q9 := q8.binds (ps := ["_law_script", "_law_k"]) fun _ _ _ _ _ _ us hl => match us, hl with | [_, _], _ => rfl
  have ra := fun_mk (st := s_law_whole) k0 k1 k2
  have rb := ra.binds (ps := ["_law_found"]) fun _ _ _ _ _ _ us hl => match us, hl with | [_], _ => rfl
  have rc := fun_mk (st := s_law_word) k4 k5 k6
  have rd := rc.binds (ps := ["_law_e"]) fun _ _ _ _ _ _ us hl => match us, hl with | [_], _ => rfl
  have re := fun_mk (st := s_law_names) k8 k9 la
  have rf := re.binds (ps := ["_law_script", "_law_k", "_law_many"]) fun _ _ _ _ _ _ us hl => match us, hl with | [_, _, _], _ => rfl
  have rg := fun_mk (st := s_law_calls) lc ld lf
  have rh := rg.binds (ps := ["_law_script", "_law_k", "_law_names_here"]) fun _ _ _ _ _ _ us hl => match us, hl with | [_, _, _], _ => rfl
  have ri := fun_mk (st := s_law_zones) lh li lj
  have rj := ri.binds (ps := ["_law_bits_here"]) fun _ _ _ _ _ _ us hl => match us, hl with | [_], _ => rfl
  have rk := fun_mk (st := s_law_tickets) ll lm ln
  have rl := rk.binds (ps := ["_law_script", "_law_k", "_law_many"]) fun _ _ _ _ _ _ us hl => match us, hl with | [_, _, _], _ => rfl
  have rm := fun_mk (st := s_law_bits) lp lq lr
  have rn := rm.binds (ps := ["_law_zones_here"]) fun _ _ _ _ _ _ us hl => match us, hl with | [_], _ => rfl
  have ro := fun_mk (st := s_law_net) lu lv lw
  have rp := ro.binds (ps := ["_law_script", "_law_names_here", "_law_zones_here", "_law_tickets_here"]) fun _ _ _ _ _ _ us hl => match us, hl with | [_, _, _, _], _ => rfl
  have rq := fun_mk (st := s_law_refused) ly lz lA
  have rr := rq.binds (ps := ["_law_way", "_law_net_here", "_law_name", "_law_board", "_law_off"]) fun _ _ _ _ _ _ us hl => match us, hl with | [_, _, _, _, _], _ => rfl
  have rs := fun_mk (st := s_law_rides_right) lC lD lE
  have rt := rs.binds (ps := ["_law_script", "_law_net_here", "_law_trip", "_law_k", "_law_names_here", "_law_zones_here"]) fun _ _ _ _ _ _ us hl => match us, hl with | [_, _, _, _, _, _], _ => rfl
  have ru := fun_mk (st := s_law) lG lH lI
  have rv := ru.binds (ps := ["_law_script"]) fun _ _ _ _ _ _ us hl => match us, hl with | [_], _ => rfl
  have rx := fun_mk (st := s_Rule_copied) l5 l6 l7
  have ry := rx.binds (ps := ["self"]) fun _ _ _ _ _ _ us hl => match us, hl with | [_], _ => rfl
  have rz := fun_mk (st := s_Rule_parts) ma mb mc
  have rA := rz.binds (ps := ["self"]) fun _ _ _ _ _ _ us hl => match us, hl with | [_], _ => rfl
  have rB := fun_mk (st := s_Rule_runs) mf mh mi
  have rC := rB.binds (ps := ["self", "day"]) fun _ _ _ _ _ _ us hl => match us, hl with | [_, _], _ => rfl
  have rD := fun_mk (st := s_Rule_words) ml mm mn
  have rE := rD.binds (ps := ["self"]) fun _ _ _ _ _ _ us hl => match us, hl with | [_], _ => rfl
  have rF := fun_mk (st := s_Rule_weight) mq mr ms
  have rG := rF.binds (ps := ["self"]) fun _ _ _ _ _ _ us hl => match us, hl with | [_], _ => rfl
  have rH := fun_mk (st := s_Rule_depth) mv mw mx
  have rI := rH.binds (ps := ["self"]) fun _ _ _ _ _ _ us hl => match us, hl with | [_], _ => rfl
  have rJ := fun_mk (st := s_Net_init) mA mB mC
  have rK := rJ.binds (ps := ["self"]) fun _ _ _ _ _ _ us hl => match us, hl with | [_], _ => rfl
  have rL := fun_mk (st := s_Net_copied) mF mG mH
  have rM := rL.binds (ps := ["self"]) fun _ _ _ _ _ _ us hl => match us, hl with | [_], _ => rfl
  have rN := fun_mk (st := s_Net_add_stop) mK mL mM
  have rO := rN.binds (ps := ["self", "name", "zone", "change"]) fun _ _ _ _ _ _ us hl => match us, hl with | [_, _, _, _], _ => rfl
  have rP := fun_mk (st := s_Net_add_walk) mP mQ mR
  have rQ := rP.binds (ps := ["self", "one", "other", "minutes"]) fun _ _ _ _ _ _ us hl => match us, hl with | [_, _, _, _], _ => rfl
  have rR := fun_mk (st := s_Net_add_rule) mU mV mW
  have rS := rR.binds (ps := ["self", "name", "rule"]) fun _ _ _ _ _ _ us hl => match us, hl with | [_, _, _], _ => rfl
  have rT := fun_mk (st := s_Net_add_ticket) mZ m0 m1
  have rU := rT.binds (ps := ["self", "name", "price", "lasts", "zones"]) fun _ _ _ _ _ _ us hl => match us, hl with | [_, _, _, _, _], _ => rfl
  have rV := fun_mk (st := s_Net_add_trip) m4 m5 m6
  have rW := rV.binds (ps := ["self", "name", "rule", "calls"]) fun _ _ _ _ _ _ us hl => match us, hl with | [_, _, _, _], _ => rfl
  have rX := fun_mk (st := s_Net_check_stop) m9 na nc
  have rY := rX.binds (ps := ["self", "name"]) fun _ _ _ _ _ _ us hl => match us, hl with | [_, _], _ => rfl
  have rZ := fun_mk (st := s_Net_check_trip) ng nh ni
  have r0 := rZ.binds (ps := ["self", "name"]) fun _ _ _ _ _ _ us hl => match us, hl with | [_, _], _ => rfl
  have r1 := fun_mk (st := s_Net_check_call) nl nm nn
  have r2 := r1.binds (ps := ["self", "call"]) fun _ _ _ _ _ _ us hl => match us, hl with | [_, _], _ => rfl
  have r3 := fun_mk (st := s_Net_has_walk) nq nr nt
  have r4 := r3.binds (ps := ["self", "one", "other"]) fun _ _ _ _ _ _ us hl => match us, hl with | [_, _, _], _ => rfl
  have r5 := fun_mk (st := s_Net_stops) nw nx ny
  have r6 := r5.binds (ps := ["self"]) fun _ _ _ _ _ _ us hl => match us, hl with | [_], _ => rfl
  have r7 := fun_mk (st := s_Net_walks) nB nC nD
  have r8 := r7.binds (ps := ["self"]) fun _ _ _ _ _ _ us hl => match us, hl with | [_], _ => rfl
  have r9 := fun_mk (st := s_Net_rules) nG nH nI
  have sa := r9.binds (ps := ["self"]) fun _ _ _ _ _ _ us hl => match us, hl with | [_], _ => rfl
  have sb := fun_mk (st := s_Net_tickets) nL nM nN
  have sc := sb.binds (ps := ["self"]) fun _ _ _ _ _ _ us hl => match us, hl with | [_], _ => rfl
  have sd := fun_mk (st := s_Net_trips) nQ nR nS
  have se := sd.binds (ps := ["self"]) fun _ _ _ _ _ _ us hl => match us, hl with | [_], _ => rfl
  have sf := fun_mk (st := s_Net_zone) nV nW nX
  have sg := sf.binds (ps := ["self", "stop"]) fun _ _ _ _ _ _ us hl => match us, hl with | [_, _], _ => rfl
  have sh := fun_mk (st := s_Net_change) n0 n1 n2
  have si := sh.binds (ps := ["self", "stop"]) fun _ _ _ _ _ _ us hl => match us, hl with | [_, _], _ => rfl
  have sj := fun_mk (st := s_Net_rule) n5 n6 n7
  have sk := sj.binds (ps := ["self", "name"]) fun _ _ _ _ _ _ us hl => match us, hl with | [_, _], _ => rfl
  have sl := fun_mk (st := s_Net_ticket) oa ob oe
  have sm := sl.binds (ps := ["self", "name"]) fun _ _ _ _ _ _ us hl => match us, hl with | [_, _], _ => rfl
  have sn := fun_mk (st := s_Net_rule_name) oi oj ok
  have so := sn.binds (ps := ["self", "trip"]) fun _ _ _ _ _ _ us hl => match us, hl with | [_, _], _ => rfl
  have sq := fun_mk (st := s_Net_calls) on oo op
  have sr := sq.binds (ps := ["self", "trip"]) fun _ _ _ _ _ _ us hl => match us, hl with | [_, _], _ => rfl
  exact ⟨⟨aa, W.fnOf "_wall" "_wall" (defArgs s_wall) (defBody s_wall) (defScope s_wall) .none ac ad ae ai af ag, ak, W.fnOf "is_any_number" "is_any_number" (defArgs s_is_any_number) (defBody s_is_any_number) (defScope s_is_any_number) .none am ao ap au aq ar, aw, W.fnOf "is_number" "is_number" (defArgs s_is_number) (defBody s_is_number) (defScope s_is_number) .none ay az aA aE aB aC, aG, W.fnOf "check_number" "check_number" (defArgs s_check_number) (defBody s_check_number) (defScope s_check_number) .none aI aJ aK aO aL aM, aQ, W.fnOf "are_rising" "are_rising" (defArgs s_are_rising) (defBody s_are_rising) (defScope s_are_rising) .none aS aT aU aY aV aW, a0, W.fnOf "is_name" "is_name" (defArgs s_is_name) (defBody s_is_name) (defScope s_is_name) .none a2 a3 a4 a8 a5 a6, ba, W.fnOf "is_known" "is_known" (defArgs s_is_known) (defBody s_is_known) (defScope s_is_known) .none bc bd be bi bf bg, bk, W.fnOf "zone_bits" "zone_bits" (defArgs s_zone_bits) (defBody s_zone_bits) (defScope s_zone_bits) .none bm bn bo bs bp bq, bu, W.fnOf "zones_of" "zones_of" (defArgs s_zones_of) (defBody s_zones_of) (defScope s_zones_of) .none bw bx bz bD bA bB, bF, W.fnOf "fits" "fits" (defArgs s_fits) (defBody s_fits) (defScope s_fits) .none bH bI bJ bN bK bL, bP, W.fnOf "copy_of" "copy_of" (defArgs s_copy_of) (defBody s_copy_of) (defScope s_copy_of) .none bR bS bT bX bU bV, bZ, W.fnOf "check_new" "check_new" (defArgs s_check_new) (defBody s_check_new) (defScope s_check_new) .none b1 b2 b3 b7 b4 b5, b9, W.fnOf "check_room" "check_room" (defArgs s_check_room) (defBody s_check_room) (defScope s_check_room) .none cb cc cd ch ce cf, cj, W.fnOf "have_calls_form" "have_calls_form" (defArgs s_have_calls_form) (defBody s_have_calls_form) (defScope s_have_calls_form) .none cl cm cn cr co cp, cu, W.fnOf "can_follow" "can_follow" (defArgs s_can_follow) (defBody s_can_follow) (defScope s_can_follow) .none cw cx cy cC cz cA, cE, W.fnOf "_law_draw" "_law_draw" (defArgs s_law_draw) (defBody s_law_draw) (defScope s_law_draw) .none cG cH cI cM cJ cK, cO, W.fnOf "_law_whole" "_law_whole" (defArgs s_law_whole) (defBody s_law_whole) (defScope s_law_whole) .none cQ cR cS cW cT cU, cY, W.fnOf "_law_word" "_law_word" (defArgs s_law_word) (defBody s_law_word) (defScope s_law_word) .none c0 c1 c2 c6 c3 c4, c8, W.fnOf "_law_names" "_law_names" (defArgs s_law_names) (defBody s_law_names) (defScope s_law_names) .none da db dc dg dd de, di, W.fnOf "_law_calls" "_law_calls" (defArgs s_law_calls) (defBody s_law_calls) (defScope s_law_calls) .none dk dl dm dr dn dp, dt, W.fnOf "_law_zones" "_law_zones" (defArgs s_law_zones) (defBody s_law_zones) (defScope s_law_zones) .none dv dw dx dB dy dz, dD, W.fnOf "_law_tickets" "_law_tickets" (defArgs s_law_tickets) (defBody s_law_tickets) (defScope s_law_tickets) .none dF dG dH dL dI dJ, dN, W.fnOf "_law_bits" "_law_bits" (defArgs s_law_bits) (defBody s_law_bits) (defScope s_law_bits) .none dP dQ dR dV dS dT, dX, W.fnOf "_law_net" "_law_net" (defArgs s_law_net) (defBody s_law_net) (defScope s_law_net) .none dZ d0 d1 d5 d2 d3, d7, W.fnOf "_law_refused" "_law_refused" (defArgs s_law_refused) (defBody s_law_refused) (defScope s_law_refused) .none d9 ea eb ef ec ed, eh, W.fnOf "_law_rides_right" "_law_rides_right" (defArgs s_law_rides_right) (defBody s_law_rides_right) (defScope s_law_rides_right) .none ej ek el ep em en, er, W.fnOf "law" "law" (defArgs s_law) (defBody s_law) (defScope s_law) .none et eu ev eA ew ey, eC, W.fnOf "copied" "Rule.copied" (defArgs s_Rule_copied) (defBody s_Rule_copied) (defScope s_Rule_copied) .none eE eF eG eK eH eI, eM, W.fnOf "parts" "Rule.parts" (defArgs s_Rule_parts) (defBody s_Rule_parts) (defScope s_Rule_parts) .none eO eP eQ eU eR eS, eW, W.fnOf "runs" "Rule.runs" (defArgs s_Rule_runs) (defBody s_Rule_runs) (defScope s_Rule_runs) .none eY eZ e1 e5 e2 e3, e7, W.fnOf "words" "Rule.words" (defArgs s_Rule_words) (defBody s_Rule_words) (defScope s_Rule_words) .none e9 fb fc fg fd fe, fi, W.fnOf "weight" "Rule.weight" (defArgs s_Rule_weight) (defBody s_Rule_weight) (defScope s_Rule_weight) .none fk fl fm fq fn fo, fs, W.fnOf "depth" "Rule.depth" (defArgs s_Rule_depth) (defBody s_Rule_depth) (defScope s_Rule_depth) .none fu fv fw fA fx fy, fC, W.fnOf "__init__" "Net.__init__" (defArgs s_Net_init) (defBody s_Net_init) (defScope s_Net_init) .none fE fF fG fK fH fI, fM, W.fnOf "copied" "Net.copied" (defArgs s_Net_copied) (defBody s_Net_copied) (defScope s_Net_copied) .none fO fP fQ fU fR fS, fW, W.fnOf "add_stop" "Net.add_stop" (defArgs s_Net_add_stop) (defBody s_Net_add_stop) (defScope s_Net_add_stop) .none fY fZ f0 f4 f1 f2, f6, W.fnOf "add_walk" "Net.add_walk" (defArgs s_Net_add_walk) (defBody s_Net_add_walk) (defScope s_Net_add_walk) .none f8 f9 ga gf gb gc, gh, W.fnOf "add_rule" "Net.add_rule" (defArgs s_Net_add_rule) (defBody s_Net_add_rule) (defScope s_Net_add_rule) .none gj gk gl gp gm gn, gr, W.fnOf "add_ticket" "Net.add_ticket" (defArgs s_Net_add_ticket) (defBody s_Net_add_ticket) (defScope s_Net_add_ticket) .none gu gv gw gA gx gy, gC, W.fnOf "add_trip" "Net.add_trip" (defArgs s_Net_add_trip) (defBody s_Net_add_trip) (defScope s_Net_add_trip) .none gE gF gG gK gH gI, gM, W.fnOf "check_stop" "Net.check_stop" (defArgs s_Net_check_stop) (defBody s_Net_check_stop) (defScope s_Net_check_stop) .none gO gP gQ gU gR gS, gW, W.fnOf "check_trip" "Net.check_trip" (defArgs s_Net_check_trip) (defBody s_Net_check_trip) (defScope s_Net_check_trip) .none gY gZ g0 g4 g1 g2, g6, W.fnOf "check_call" "Net.check_call" (defArgs s_Net_check_call) (defBody s_Net_check_call) (defScope s_Net_check_call) .none g8 g9 hb hf hc hd, hh, W.fnOf "has_walk" "Net.has_walk" (defArgs s_Net_has_walk) (defBody s_Net_has_walk) (defScope s_Net_has_walk) .none hj hk hm hq hn ho, hs, W.fnOf "stops" "Net.stops" (defArgs s_Net_stops) (defBody s_Net_stops) (defScope s_Net_stops) .none hu hv hx hB hy hz, hD, W.fnOf "walks" "Net.walks" (defArgs s_Net_walks) (defBody s_Net_walks) (defScope s_Net_walks) .none hF hG hH hL hI hJ, hN, W.fnOf "rules" "Net.rules" (defArgs s_Net_rules) (defBody s_Net_rules) (defScope s_Net_rules) .none hP hQ hR hW hT hU, hY, W.fnOf "tickets" "Net.tickets" (defArgs s_Net_tickets) (defBody s_Net_tickets) (defScope s_Net_tickets) .none h0 h1 h2 h6 h3 h4, h8, W.fnOf "trips" "Net.trips" (defArgs s_Net_trips) (defBody s_Net_trips) (defScope s_Net_trips) .none ia ib ic ii ie ig, ik, W.fnOf "zone" "Net.zone" (defArgs s_Net_zone) (defBody s_Net_zone) (defScope s_Net_zone) .none im io ip iu iq ir, iw, W.fnOf "change" "Net.change" (defArgs s_Net_change) (defBody s_Net_change) (defScope s_Net_change) .none iy iz iA iE iB iC, iG, W.fnOf "rule" "Net.rule" (defArgs s_Net_rule) (defBody s_Net_rule) (defScope s_Net_rule) .none iI iJ iK iO iL iM, iQ, W.fnOf "ticket" "Net.ticket" (defArgs s_Net_ticket) (defBody s_Net_ticket) (defScope s_Net_ticket) .none iS iT iU iY iV iW, i0, W.fnOf "rule_name" "Net.rule_name" (defArgs s_Net_rule_name) (defBody s_Net_rule_name) (defScope s_Net_rule_name) .none i2 i3 i4 i8 i5 i6, ja, W.fnOf "calls" "Net.calls" (defArgs s_Net_calls) (defBody s_Net_calls) (defScope s_Net_calls) .none jc jd je ji jf jg, jk, jl, jm, jn, jo, jp, jq, jr, js, jt, ju, jv, jw, jx, jy, jz, jA, jB, jC, jD⟩, ⟨W.mg_none_of X G qc,
    W.mg_none_of X G qd,
    W.mg_none_of X G qe,
    W.mg_none_of X G qf,
    W.mg_none_of X G qg,
    W.mg_none_of X G qh,
    W.mg_none_of X G qi,
    W.mg_none_of X G qj,
    W.mg_none_of X G qk,
    W.mg_none_of X G ql,
    W.mg_none_of X G qm,
    W.mg_none_of X G qn,
    W.mg_none_of X G qo,
    W.mg_none_of X G qp,
    W.mg_none_of X G qq,
    ⟨_, W.mg_of X G qr⟩,
    ⟨_, W.mg_of X G qs⟩,
    ⟨_, W.mg_of X G qt⟩,
    ⟨_, W.mg_of X G qu⟩,
    ⟨_, W.mg_of X G qv⟩,
    ⟨_, W.mg_of X G qw⟩,
    ⟨_, W.mg_of X G qx⟩,
    ⟨_, W.mg_of X G qy⟩,
    ⟨_, W.mg_of X G qz⟩,
    ⟨_, W.mg_of X G qA⟩,
    ⟨_, W.mg_of X G qB⟩,
    ⟨_, W.mg_of X G qC⟩,
    ⟨_, W.mg_of X G qD⟩,
    qE,
    W.mg_of X G jU,
    qF,
    qG,
    W.mg_of X G jY,
    qH,
    qI,
    W.mg_of X G j2,
    qJ,
    qK,
    W.mg_of X G j6,
    qL,
    qM,
    W.mg_of X G ka,
    qN,
    qO,
    W.mg_of X G kf,
    qP,
    qQ,
    W.mg_of X G kj,
    qR,
    qS,
    W.mg_of X G kn,
    qT,
    qU,
    W.mg_of X G ks,
    qV,
    qW,
    W.mg_of X G kw,
    qX,
    qY,
    W.mg_of X G kA,
    qZ,
    q0,
    W.mg_of X G kE,
    q1,
    q2,
    W.mg_of X G kI,
    q3,
    q4,
    W.mg_of X G kM,
    q5,
    q6,
    W.mg_of X G kQ,
    q7,
    q8,
    W.mg_of X G kU,
    q9,
    ra,
    W.mg_of X G kZ,
    rb,
    rc,
    W.mg_of X G k3,
    rd,
    re,
    W.mg_of X G k7,
    rf,
    rg,
    W.mg_of X G lb,
    rh,
    ri,
    W.mg_of X G lg,
    rj,
    rk,
    W.mg_of X G lk,
    rl,
    rm,
    W.mg_of X G lo,
    rn,
    ro,
    W.mg_of X G ls,
    rp,
    rq,
    W.mg_of X G lx,
    rr,
    rs,
    W.mg_of X G lB,
    rt,
    ru,
    W.mg_of X G lF,
    rv,
    rx,
    ry,
    rz,
    rA,
    rB,
    rC,
    rD,
    rE,
    rF,
    rG,
    rH,
    rI,
    rJ,
    rK,
    rL,
    rM,
    rN,
    rO,
    rP,
    rQ,
    rR,
    rS,
    rT,
    rU,
    rV,
    rW,
    rX,
    rY,
    rZ,
    r0,
    r1,
    r2,
    r3,
    r4,
    r5,
    r6,
    r7,
    r8,
    r9,
    sa,
    sb,
    sc,
    sd,
    se,
    sf,
    sg,
    sh,
    si,
    sj,
    sk,
    sl,
    sm,
    sn,
    so,
    sq,
    sr,
    ⟨oq, os, ot, ou⟩,
    ⟨ov, ox, ow⟩,
    ⟨l3, l4, l7⟩,
    ⟨mt, mu, mx⟩,
    ⟨l8, l9, mc⟩,
    ⟨md, me, mi⟩,
    ⟨mo, mp, ms⟩,
    ⟨mj, mk, mn⟩,
    ⟨oy, oz, oA, oB⟩,
    ⟨oC, my, mz, oD⟩,
    ⟨mS, mT, mW⟩,
    ⟨mI, mJ, mM⟩,
    ⟨mX, mY, m1⟩,
    ⟨m2, m3, m6⟩,
    ⟨mN, mO, mR⟩,
    ⟨ol, om, op⟩,
    ⟨nY, nZ, n2⟩,
    ⟨nj, nk, nn⟩,
    ⟨m7, m8, nc⟩,
    ⟨nd, nf, ni⟩,
    ⟨mD, mE, mH⟩,
    ⟨no, np, nt⟩,
    ⟨n3, n4, n7⟩,
    ⟨og, oh, ok⟩,
    ⟨nE, nF, nI⟩,
    ⟨nu, nv, ny⟩,
    ⟨n8, n9, oe⟩,
    ⟨nJ, nK, nN⟩,
    ⟨nO, nP, nS⟩,
    ⟨nz, nA, nD⟩,
    ⟨nT, nU, nX⟩,
    oE,
    oF,
    oG,
    oH,
    oI,
    ⟨oJ, oK, oL, oM⟩,
    oN,
    W.mg_of X G lJ,
    W.mg_of X G lK,
    W.mg_of X G lL,
    W.mg_of X G lM,
    W.mg_of X G lN,
    W.mg_of X G lO,
    W.mg_of X G lP,
    W.mg_of X G lQ,
    W.mg_of X G lR,
    W.mg_of X G lS,
    W.mg_of X G lT,
    W.mg_of X G lU,
    W.mg_of X G lV,
    W.mg_of X G lW,
    W.mg_of X G lX,
    W.mg_of X G lY,
    W.mg_of X G lZ,
    W.mg_of X G l0,
    W.mg_of X G l1,
    W.mg_of X G l2,
    ⟨oO⟩,
    ⟨by rw [oP]; rfl, oQ, oR, oS, oT, oU, oV, oW⟩,
    oX,
    oY,
    oZ,
    o0,
    o1,
    o2,
    o3,
    o4,
    o5,
    o6,
    o7,
    o8,
    o9,
    pa,
    pb,
    pc,
    pd,
    pe,
    pf,
    ⟨pg⟩,
    ⟨by rw [ph]; rfl, pi, pj, pk, pl, pn, po, pp⟩,
    pq,
    pr,
    pt,
    pu,
    pv,
    pw,
    px,
    py,
    pz,
    pA,
    pB,
    pC,
    pD,
    pE,
    pF,
    pG,
    pH,
    pI,
    pJ,
    ⟨pK⟩,
    ⟨by rw [pL]; rfl, pM, pN, pO, pP, pQ, pR, pS⟩,
    pT,
    pU,
    pV,
    pW,
    pX,
    pY,
    pZ,
    p0,
    p1,
    p2,
    p3,
    p4,
    p5,
    p6,
    p7,
    p8,
    p9,
    qa,
    qb⟩⟩
end K17
def PySem.W.Fast.tw17790333604030910334 : Nat := 0
def PySem.W.Fast.tw12819909935951229951 : Nat := 0
def PySem.W.Fast.tw11217636576611296133 : Nat := 0
def PySem.W.Fast.tw2802255823520485651 : Nat := 0
def PySem.W.Fast.tw6100381640787074836 : Nat := 0
def PySem.W.Fast.tw16747060105782261082 : Nat := 0
def PySem.W.Fast.tw13215783191605995802 : Nat := 0
def PySem.W.Fast.tw8786255588774534775 : Nat := 0
def PySem.W.Fast.tw9870270731048536011 : Nat := 0
def PySem.W.Fast.tw9934478684912439482 : Nat := 0
def PySem.W.Fast.tw18369919847302896431 : Nat := 0
def PySem.W.Fast.tw10423182102384828170 : Nat := 0
def PySem.W.Fast.tw2946973341708303198 : Nat := 0
def PySem.W.Fast.tw6417904179319580967 : Nat := 0
def PySem.W.Fast.tw13553792273542897584 : Nat := 0
def PySem.W.Fast.tw16490400142177881083 : Nat := 0
def PySem.W.Fast.tw5374965471509085785 : Nat := 0
def PySem.W.Fast.tw10734855892480763009 : Nat := 0
def PySem.W.Fast.tw212439008454623982 : Nat := 0
def PySem.W.Fast.tw14487196295330735935 : Nat := 0
def PySem.W.Fast.tw18185781740588958819 : Nat := 0
def PySem.W.Fast.tw5712767138080005963 : Nat := 0
def PySem.W.Fast.tw11567869786437873073 : Nat := 0
def PySem.W.Fast.tw14577208791504945678 : Nat := 0
def PySem.W.Fast.tw17938702348512445226 : Nat := 0
open PySem PySem.W PyProof.Rows
set_option maxRecDepth 100000 in
set_option maxHeartbeats 0 in
theorem PySem.Challenge.cw_roadbook_k17_zones_and_tickets_holds : PySem.Challenge.rw_roadbook_k17_zones_and_tickets.Holds := by
  w_on; o_law; k_head; (case hw => w_witness2)
  k_fill
  refine L2.walk_ofK (l := PySem.Challenge.rw_roadbook_k17_zones_and_tickets) (n := 63) (k := 20) (x := "_law_script") (CX := L2.CX0) (sp := K17.sp_law) rfl (by decide) rfl ⟨rfl, by decide, by decide⟩ (fun w h Y => PySem.W.kIn_of Y) ?F (fun _ _ a ns hl _ hS => ⟨a, ns, rfl, hS, hl, fun _ => rfl⟩) fun _ _ _ _ z => z
  case F =>
    intro w mg fa h KX G hmg
    have T : ∃ t, K17.Tab (L2.KOf KX) mg t := by
      dsimp only [L2.KOf]
      refine' K17.all_mk KX G ?jU ?jV ?jW ?jX ?jY ?jZ ?j0 ?j1 ?j2 ?j3 ?j4 ?j5 ?j6 ?j7 ?j8 ?j9 ?ka ?kc ?kd ?ke ?kf ?kg ?kh ?ki ?kj ?kk ?kl ?km ?kn ?ko ?kq ?kr ?ks ?kt ?ku ?kv ?kw ?kx ?ky ?kz ?kA ?kB ?kC ?kD ?kE ?kF ?kG ?kH ?kI ?kJ ?kK ?kL ?kM ?kN ?kO ?kP ?kQ ?kR ?kS ?kT ?kU ?kW ?kX ?kY ?kZ ?k0 ?k1 ?k2 ?k3 ?k4 ?k5 ?k6 ?k7 ?k8 ?k9 ?la ?lb ?lc ?ld ?lf ?lg ?lh ?li ?lj ?lk ?ll ?lm ?ln ?lo ?lp ?lq ?lr ?ls ?lu ?lv ?lw ?lx ?ly ?lz ?lA ?lB ?lC ?lD ?lE ?lF ?lG ?lH ?lI ?lJ ?lK ?lL ?lM ?lN ?lO ?lP ?lQ ?lR ?lS ?lT ?lU ?lV ?lW ?lX ?lY ?lZ ?l0 ?l1 ?l2 ?l3 ?l4 ?l5 ?l6 ?l7 ?l8 ?l9 ?ma ?mb ?mc ?md ?me ?mf ?mh ?mi ?mj ?mk ?ml ?mm ?mn ?mo ?mp ?mq ?mr ?ms ?mt ?mu ?mv ?mw ?mx ?my ?mz ?mA ?mB ?mC ?mD ?mE ?mF ?mG ?mH ?mI ?mJ ?mK ?mL ?mM ?mN ?mO ?mP ?mQ ?mR ?mS ?mT ?mU ?mV ?mW ?mX ?mY ?mZ ?m0 ?m1 ?m2 ?m3 ?m4 ?m5 ?m6 ?m7 ?m8 ?m9 ?na ?nc ?nd ?nf ?ng ?nh ?ni ?nj ?nk ?nl ?nm ?nn ?no ?np ?nq ?nr ?nt ?nu ?nv ?nw ?nx ?ny ?nz ?nA ?nB ?nC ?nD ?nE ?nF ?nG ?nH ?nI ?nJ ?nK ?nL ?nM ?nN ?nO ?nP ?nQ ?nR ?nS ?nT ?nU ?nV ?nW ?nX ?nY ?nZ ?n0 ?n1 ?n2 ?n3 ?n4 ?n5 ?n6 ?n7 ?n8 ?n9 ?oa ?ob ?oe ?og ?oh ?oi ?oj ?ok ?ol ?om ?on ?oo ?op ?oq ?os ?ot ?ou ?ov ?ow ?ox ?oy ?oz ?oA ?oB ?oC ?oD ?oE ?oF ?oG ?oH ?oI ?oJ ?oK ?oL ?oM ?oN ?oO ?oP ?oQ ?oR ?oS ?oT ?oU ?oV ?oW ?oX ?oY ?oZ ?o0 ?o1 ?o2 ?o3 ?o4 ?o5 ?o6 ?o7 ?o8 ?o9 ?pa ?pb ?pc ?pd ?pe ?pf ?pg ?ph ?pi ?pj ?pk ?pl ?pn ?po ?pp ?pq ?pr ?pt ?pu ?pv ?pw ?px ?py ?pz ?pA ?pB ?pC ?pD ?pE ?pF ?pG ?pH ?pI ?pJ ?pK ?pL ?pM ?pN ?pO ?pP ?pQ ?pR ?pS ?pT ?pU ?pV ?pW ?pX ?pY ?pZ ?p0 ?p1 ?p2 ?p3 ?p4 ?p5 ?p6 ?p7 ?p8 ?p9 ?qa ?qb ?qc ?qd ?qe ?qf ?qg ?qh ?qi ?qj ?qk ?ql ?qm ?qn ?qo ?qp ?qq ?qr ?qs ?qt ?qu ?qv ?qw ?qx ?qy ?qz ?qA ?qB ?qC ?qD
      (case jU => k_is)
      (case jV => k_is)
      (case jW => k_is)
      (case jX => k_is)
      (case jY => k_is)
      (case jZ => k_is)
      (case j0 => k_is)
      (case j1 => k_is)
      (case j2 => k_is)
      (case j3 => k_is)
      (case j4 => k_is)
      (case j5 => k_is)
      (case j6 => k_is)
      (case j7 => k_is)
      (case j8 => k_is)
      (case j9 => k_is)
      (case ka => k_is)
      (case kc => k_is)
      (case kd => k_is)
      (case ke => k_is)
      (case kf => k_is)
      (case kg => k_is)
      (case kh => k_is)
      (case ki => k_is)
      (case kj => k_is)
      (case kk => k_is)
      (case kl => k_is)
      (case km => k_is)
      (case kn => k_is)
      (case ko => k_is)
      (case kq => k_is)
      (case kr => k_is)
      (case ks => k_is)
      (case kt => k_is)
      (case ku => k_is)
      (case kv => k_is)
      (case kw => k_is)
      (case kx => k_is)
      (case ky => k_is)
      (case kz => k_is)
      (case kA => k_is)
      (case kB => k_is)
      (case kC => k_is)
      (case kD => k_is)
      (case kE => k_is)
      (case kF => k_is)
      (case kG => k_is)
      (case kH => k_is)
      (case kI => k_is)
      (case kJ => k_is)
      (case kK => k_is)
      (case kL => k_is)
      (case kM => k_is)
      (case kN => k_is)
      (case kO => k_is)
      (case kP => k_is)
      (case kQ => k_is)
      (case kR => k_is)
      (case kS => k_is)
      (case kT => k_is)
      (case kU => k_is)
      (case kW => k_is)
      (case kX => k_is)
      (case kY => k_is)
      (case kZ => k_is)
      (case k0 => k_is)
      (case k1 => k_is)
      (case k2 => k_is)
      (case k3 => k_is)
      (case k4 => k_is)
      (case k5 => k_is)
      (case k6 => k_is)
      (case k7 => k_is)
      (case k8 => k_is)
      (case k9 => k_is)
      (case la => k_is)
      (case lb => k_is)
      (case lc => k_is)
      (case ld => k_is)
      (case lf => k_is)
      (case lg => k_is)
      (case lh => k_is)
      (case li => k_is)
      (case lj => k_is)
      (case lk => k_is)
      (case ll => k_is)
      (case lm => k_is)
      (case ln => k_is)
      (case lo => k_is)
      (case lp => k_is)
      (case lq => k_is)
      (case lr => k_is)
      (case ls => k_is)
      (case lu => k_is)
      (case lv => k_is)
      (case lw => k_is)
      (case lx => k_is)
      (case ly => k_is)
      (case lz => k_is)
      (case lA => k_is)
      (case lB => k_is)
      (case lC => k_is)
      (case lD => k_is)
      (case lE => k_is)
      (case lF => k_is)
      (case lG => k_is)
      (case lH => k_is)
      (case lI => k_is)
      (case lJ => k_is)
      (case lK => k_is)
      (case lL => k_is)
      (case lM => k_is)
      (case lN => k_is)
      (case lO => k_is)
      (case lP => k_is)
      (case lQ => k_is)
      (case lR => k_is)
      (case lS => k_is)
      (case lT => k_is)
      (case lU => k_is)
      (case lV => k_is)
      (case lW => k_is)
      (case lX => k_is)
      (case lY => k_is)
      (case lZ => k_is)
      (case l0 => k_is)
      (case l1 => k_is)
      (case l2 => k_is)
      (case l3 => k_is)
      (case l4 => k_is)
      (case l5 => k_is)
      (case l6 => k_is)
      (case l7 => k_is)
      (case l8 => k_is)
      (case l9 => k_is)
      (case ma => k_is)
      (case mb => k_is)
      (case mc => k_is)
      (case md => k_is)
      (case me => k_is)
      (case mf => k_is)
      (case mh => k_is)
      (case mi => k_is)
      (case mj => k_is)
      (case mk => k_is)
      (case ml => k_is)
      (case mm => k_is)
      (case mn => k_is)
      (case mo => k_is)
      (case mp => k_is)
      (case mq => k_is)
      (case mr => k_is)
      (case ms => k_is)
      (case mt => k_is)
      (case mu => k_is)
      (case mv => k_is)
      (case mw => k_is)
      (case mx => k_is)
      (case my => k_is)
      (case mz => k_is)
      (case mA => k_is)
      (case mB => k_is)
      (case mC => k_is)
      (case mD => k_is)
      (case mE => k_is)
      (case mF => k_is)
      (case mG => k_is)
      (case mH => k_is)
      (case mI => k_is)
      (case mJ => k_is)
      (case mK => k_is)
      (case mL => k_is)
      (case mM => k_is)
      (case mN => k_is)
      (case mO => k_is)
      (case mP => k_is)
      (case mQ => k_is)
      (case mR => k_is)
      (case mS => k_is)
      (case mT => k_is)
      (case mU => k_is)
      (case mV => k_is)
      (case mW => k_is)
      (case mX => k_is)
      (case mY => k_is)
      (case mZ => k_is)
      (case m0 => k_is)
      (case m1 => k_is)
      (case m2 => k_is)
      (case m3 => k_is)
      (case m4 => k_is)
      (case m5 => k_is)
      (case m6 => k_is)
      (case m7 => k_is)
      (case m8 => k_is)
      (case m9 => k_is)
      (case na => k_is)
      (case nc => k_is)
      (case nd => k_is)
      (case nf => k_is)
      (case ng => k_is)
      (case nh => k_is)
      (case ni => k_is)
      (case nj => k_is)
      (case nk => k_is)
      (case nl => k_is)
      (case nm => k_is)
      (case nn => k_is)
      (case no => k_is)
      (case np => k_is)
      (case nq => k_is)
      (case nr => k_is)
      (case nt => k_is)
      (case nu => k_is)
      (case nv => k_is)
      (case nw => k_is)
      (case nx => k_is)
      (case ny => k_is)
      (case nz => k_is)
      (case nA => k_is)
      (case nB => k_is)
      (case nC => k_is)
      (case nD => k_is)
      (case nE => k_is)
      (case nF => k_is)
      (case nG => k_is)
      (case nH => k_is)
      (case nI => k_is)
      (case nJ => k_is)
      (case nK => k_is)
      (case nL => k_is)
      (case nM => k_is)
      (case nN => k_is)
      (case nO => k_is)
      (case nP => k_is)
      (case nQ => k_is)
      (case nR => k_is)
      (case nS => k_is)
      (case nT => k_is)
      (case nU => k_is)
      (case nV => k_is)
      (case nW => k_is)
      (case nX => k_is)
      (case nY => k_is)
      (case nZ => k_is)
      (case n0 => k_is)
      (case n1 => k_is)
      (case n2 => k_is)
      (case n3 => k_is)
      (case n4 => k_is)
      (case n5 => k_is)
      (case n6 => k_is)
      (case n7 => k_is)
      (case n8 => k_is)
      (case n9 => k_is)
      (case oa => k_is)
      (case ob => k_is)
      (case oe => k_is)
      (case og => k_is)
      (case oh => k_is)
      (case oi => k_is)
      (case oj => k_is)
      (case ok => k_is)
      (case ol => k_is)
      (case om => k_is)
      (case on => k_is)
      (case oo => k_is)
      (case op => k_is)
      (case oq => k_is)
      (case os => k_is)
      (case ot => k_is)
      (case ou => k_is)
      (case ov => k_is)
      (case ow => k_is)
      (case ox => k_is)
      (case oy => k_is)
      (case oz => k_is)
      (case oA => k_is)
      (case oB => k_is)
      (case oC => k_is)
      (case oD => k_is)
      (case oE => k_is)
      (case oF => k_is)
      (case oG => k_is)
      (case oH => k_is)
      (case oI => k_is)
      (case oJ => k_is)
      (case oK => k_is)
      (case oL => k_is)
      (case oM => k_is)
      (case oN => kit_is)
      (case oO => k_exc)
      (case oP => k_is)
      (case oQ => k_is)
      (case oR => k_is)
      (case oS => k_is)
      (case oT => k_is)
      (case oU => k_is)
      (case oV => k_is)
      (case oW => k_is)
      (case oX => kit_is)
      (case oY => kit_is)
      (case oZ => kit_is)
      (case o0 => kit_is)
      (case o1 => kit_is)
      (case o2 => kit_is)
      (case o3 => kit_is)
      (case o4 => kit_is)
      (case o5 => kit_is)
      (case o6 => kit_is)
      (case o7 => kit_is)
      (case o8 => kit_is)
      (case o9 => kit_is)
      (case pa => kit_is)
      (case pb => kit_is)
      (case pc => kit_is)
      (case pd => kit_is)
      (case pe => kit_is)
      (case pf => kts_exm)
      (case pg => k_exc)
      (case ph => k_is)
      (case pi => k_is)
      (case pj => k_is)
      (case pk => k_is)
      (case pl => k_is)
      (case pn => k_is)
      (case po => k_is)
      (case pp => k_is)
      (case pq => kit_is)
      (case pr => kit_is)
      (case pt => kit_is)
      (case pu => kit_is)
      (case pv => kit_is)
      (case pw => kit_is)
      (case px => kit_is)
      (case py => kit_is)
      (case pz => kit_is)
      (case pA => kit_is)
      (case pB => kit_is)
      (case pC => kit_is)
      (case pD => kit_is)
      (case pE => kit_is)
      (case pF => kit_is)
      (case pG => kit_is)
      (case pH => kit_is)
      (case pI => kit_is)
      (case pJ => kts_exm)
      (case pK => k_exc)
      (case pL => k_is)
      (case pM => k_is)
      (case pN => k_is)
      (case pO => k_is)
      (case pP => k_is)
      (case pQ => k_is)
      (case pR => k_is)
      (case pS => k_is)
      (case pT => kit_is)
      (case pU => kit_is)
      (case pV => kit_is)
      (case pW => kit_is)
      (case pX => kit_is)
      (case pY => kit_is)
      (case pZ => kit_is)
      (case p0 => kit_is)
      (case p1 => kit_is)
      (case p2 => kit_is)
      (case p3 => kit_is)
      (case p4 => kit_is)
      (case p5 => kit_is)
      (case p6 => kit_is)
      (case p7 => kit_is)
      (case p8 => kit_is)
      (case p9 => kit_is)
      (case qa => kit_is)
      (case qb => kts_exm)
      (case qc => k_is)
      (case qd => k_is)
      (case qe => k_is)
      (case qf => k_is)
      (case qg => k_is)
      (case qh => k_is)
      (case qi => k_is)
      (case qj => k_is)
      (case qk => k_is)
      (case ql => k_is)
      (case qm => k_is)
      (case qn => k_is)
      (case qo => k_is)
      (case qp => k_is)
      (case qq => k_is)
      (case qr => k_is)
      (case qs => k_is)
      (case qt => k_is)
      (case qu => k_is)
      (case qv => k_is)
      (case qw => k_is)
      (case qx => k_is)
      (case qy => k_is)
      (case qz => k_is)
      (case qA => k_is)
      (case qB => k_is)
      (case qC => k_is)
      (case qD => k_is)
    obtain ⟨t, T⟩ := T
    have e0 := hmg.symm.trans T.m_law
    cases e0
    refine' ⟨t.d_law, ?b, fun base kb nb => K17.ok_law T⟩
    obtain ⟨oc, od, kV, doc, pm, an, cdv, ct, osl, e, _, _⟩ := T.F_law.ex
    rw [e]
    exact fun s u => .of_eq rfl
