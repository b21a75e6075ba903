
import PyProof.Rows.All
import Wide.All
import OpenK.AllK
import Wide.FinOn
import Lean
import PyProof.EqAt
import PyProof.EqKinds
import PyProof.TupleCall
import KE.KIntText
import PyProof.CompFree
import PyProof.P3Eq
import PyProof.NeData
import PyProof.StrLawsTight
import PyProof.StrLawsReplace
import PyProof.StrCalls2
import KE.IntTextLaws
import KE.KMinBuiltin
import PyProof.WalkInts
import PyProof.Rows.CallKwBuiltin
import PyProof.Rows.CallKw2
import PyProof.SetScanFacts
import PyProof.SetKind
import PyProof.DictStraight
import PyProof.DictIter
import PyProof.Walks
import PyProof.FactsAll.set_1
import PyProof.Rows.TupIn
import PyProof.CollectWalk
import PyProof.FactsAll.set_2
import PyProof.Rows.SetFrom
import PyProof.Rows.SortWalk
import PyProof.MeetsStr
import PyProof.StrLaws
import PyProof.StrBlockL
import PyProof.ListRange
import PyProof.ZipIter
import PyProof.EnumMake
import PyProof.Rows.EnumRows
import PyProof.Rows.FactsT2
import PyProof.DictWalks
import PyProof.Conv_int_bool
import KE.KRevSl
import KE.KDictOf
import PyProof.AttrMissSeq
import KE.KLam
import KE.KMinKey
import KE.KDictList
import PySem.Challenge.RW_roadbook_k19_least_by_all_ways
set_option Elab.async false
set_option linter.all false
set_option maxRecDepth 100000
namespace L2
open PySem PySem.Spec PyProof.Rows

abbrev Key := Sum Int Str
def keyIs : Key → Value → Bool
  | .inl k, v => Value.isInt k v
  | .inr x, v => Value.isStrOf x v
def keyH (w : World) : Key → Int
  | .inl k => hashInt k
  | .inr x => hashStr w x
theorem keyIs_shape : ∀ {k : Key} {v : Value}, keyIs k v = true → (∃ i t, k = Sum.inl i ∧ v = Value.int i t) ∨ (∃ x t, k = Sum.inr x ∧ v = Value.str x t)
  | .inl i, v, h => by
    obtain ⟨t, e⟩ := Value.isInt_shape (k := i) (v := v) h
    exact .inl ⟨i, t, rfl, e⟩
  | .inr x, v, h => by
    obtain ⟨t, e⟩ := Value.isStrOf_shape (x := x) (v := v) h
    exact .inr ⟨x, t, rfl, e⟩
theorem keyIs_int (i : Int) (t : Tok) : keyIs (.inl i) (.int i t) = true := by simp [keyIs, Value.isInt]
theorem keyIs_str (x : Str) (t : Tok) : keyIs (.inr x) (.str x t) = true := by simp [keyIs, Value.isStrOf]
theorem key_ll (a b : Int) : decide ((Sum.inl a : Key) = Sum.inl b) = (a == b) := by
  by_cases e : a = b
  · subst e; simp
  · have h : ¬ (Sum.inl a : Key) = Sum.inl b := fun q => e (Sum.inl.inj q)
    rw [decide_eq_false h]
    exact (beq_eq_false_iff_ne.mpr e).symm
theorem key_rr (a b : Str) : decide ((Sum.inr a : Key) = Sum.inr b) = decide (a = b) := by
  by_cases e : a = b
  · subst e; simp
  · have h : ¬ (Sum.inr a : Key) = Sum.inr b := fun q => e (Sum.inr.inj q)
    rw [decide_eq_false h, decide_eq_false e]
theorem key_lr (a : Int) (b : Str) : decide ((Sum.inl a : Key) = Sum.inr b) = false := decide_eq_false (fun q => nomatch q)
theorem key_rl (a : Str) (b : Int) : decide ((Sum.inr a : Key) = Sum.inl b) = false := decide_eq_false (fun q => nomatch q)

def mixKind (prog : Program) (w : World) : PySem.KeyKind prog w Key where
  is := keyIs
  hash := keyH w
  inj := fun v a b ha hb => by
    rcases keyIs_shape ha with ⟨i, t, rfl, rfl⟩ | ⟨x, t, rfl, rfl⟩
    · rcases keyIs_shape hb with ⟨j, u, rfl, e⟩ | ⟨y, u, rfl, e⟩
      · injection e with e1 _; rw [e1]
      · exact nomatch e
    · rcases keyIs_shape hb with ⟨j, u, rfl, e⟩ | ⟨y, u, rfl, e⟩
      · exact nomatch e
      · injection e with e1 _; rw [e1]
  byValue := fun k v h => by
    rcases keyIs_shape h with ⟨i, t, rfl, rfl⟩ | ⟨x, t, rfl, rfl⟩ <;> rfl
  pyHash := fun hv h => by
    rcases keyIs_shape hv with ⟨i, t, rfl, rfl⟩ | ⟨x, t, rfl, rfl⟩
    · exact wpAny_pyHash_int h
    · exact wpAny_pyHash_str h
  eqBool := fun hu hv h => by
    rcases keyIs_shape hu with ⟨i, t, rfl, rfl⟩ | ⟨x, t, rfl, rfl⟩
    · rcases keyIs_shape hv with ⟨j, u, rfl, rfl⟩ | ⟨y, u, rfl, rfl⟩
      · rw [key_ll] at h; exact wpAny_eqBool_int h
      · rw [key_lr] at h; exact SeqAt.EqAt.int_str i t y u _ _ _ _ h
    · rcases keyIs_shape hv with ⟨j, u, rfl, rfl⟩ | ⟨y, u, rfl, rfl⟩
      · rw [key_rl] at h; exact SeqAt.EqAt.str_int x t j u _ _ _ _ h
      · rw [key_rr] at h; exact wpAny_eqBool_str h
  «strs» := fun k x t v h => by
    rcases keyIs_shape h with ⟨i, u, rfl, e⟩ | ⟨y, u, rfl, e⟩
    · exact nomatch e
    · injection e with e1 _
      subst e1
      cases v <;> rfl

theorem mixKind_int (prog : Program) (w : World) (i : Int) (t : Tok) : (mixKind prog w).is (.inl i) (.int i t) = true := keyIs_int i t
theorem mixKind_str (prog : Program) (w : World) (x : Str) (t : Tok) : (mixKind prog w).is (.inr x) (.str x t) = true := keyIs_str x t
end L2

namespace L2
open PySem PySem.Spec PyProof.Rows

inductive V where
  | non | bl (b : Bool) | int (i : Int) | str (x : Str) | byt (b : Array UInt8) | flt (b : UInt64) | ref (a : Addr) | ty (n : String)
  deriving DecidableEq

def RelV : V → Value → Prop
  | .non, u => u = Value.none
  | .bl b, u => u = Value.bool b
  | .int i, u => ∃ t, u = Value.int i t
  | .str x, u => ∃ t, u = Value.str x t
  | .byt b, u => ∃ t, u = Value.bytes b t
  | .flt b, u => ∃ t, u = Value.float b t
  | .ref a, u => u = Value.ref a
  | .ty n, u => u = Value.type n

abbrev Vals : List V → List Value → Prop := Paired RelV
theorem Vals.length {xs : List V} {us : List Value} (r : Vals xs us) : xs.length = us.length := Paired.length r
theorem Vals.get : ∀ {xs : List V} {us : List Value} {i : Nat} {x : V}, Vals xs us → xs[i]? = some x → ∃ u, us[i]? = some u ∧ RelV x u
  | _, _, _, _, .nil, e => by simp at e
  | _, _, 0, _, .cons r _, e => by simp at e; subst e; exact ⟨_, rfl, r⟩
  | _, _, i + 1, x, .cons _ t, e => by
    obtain ⟨u, h1, h2⟩ := Vals.get (i := i) (x := x) t (by simpa using e)
    exact ⟨u, by simpa using h1, h2⟩
theorem Vals.set {x : V} {u : Value} (r : RelV x u) : ∀ {xs : List V} {us : List Value} (i : Nat), Vals xs us → Vals (xs.set i x) (us.set i u)
  | _, _, _, .nil => .nil
  | _, _, 0, .cons _ t => .cons r t
  | _, _, i + 1, .cons q t => .cons q (Vals.set r i t)
theorem Vals.append : ∀ {xs ys : List V} {us ws : List Value}, Vals xs us → Vals ys ws → Vals (xs ++ ys) (us ++ ws)
  | _, _, _, _, .nil, s => s
  | _, _, _, _, .cons r t, s => .cons r (Vals.append t s)
theorem Vals.take : ∀ {xs : List V} {us : List Value} (n : Nat), Vals xs us → Vals (xs.take n) (us.take n)
  | _, _, 0, _ => .nil
  | _, _, _ + 1, .nil => .nil
  | _, _, n + 1, .cons r t => .cons r (Vals.take n t)
theorem Vals.drop : ∀ {xs : List V} {us : List Value} (n : Nat), Vals xs us → Vals (xs.drop n) (us.drop n)
  | _, _, 0, r => r
  | _, _, _ + 1, .nil => .nil
  | _, _, n + 1, .cons _ t => Vals.drop n t
theorem Vals.none_of : ∀ {xs : List V} {us : List Value} {i : Nat}, Vals xs us → xs[i]? = none → us[i]? = none := fun {xs us i} r e => by
  have h1 := r.length
  have h2 : xs.length ≤ i := List.getElem?_eq_none_iff.mp e
  exact List.getElem?_eq_none_iff.mpr (by omega)

def RelO : Option V → Option Value → Prop
  | some v, some u => RelV v u
  | none, none => True
  | _, _ => False
def KV {κ : Type} : List (κ × V) → List (κ × Value) → Prop := Paired fun (p : κ × V) (q : κ × Value) => p.1 = q.1 ∧ RelV p.2 q.2

def kV : Key → V
  | .inl i => .int i
  | .inr x => .str x

inductive HO where
  /-- a list -/
  | lst (xs : List V)
  /-- a tuple (never changes) -/
  | tup (xs : List V)
  /-- a dict whose keys are ints and texts; one whose keys are tuples of ints and texts (the empty one is both) -/
  | dK (kvs : List (Key × V)) | dT (kvs : List (List Key × V))
  /-- a set of ints: its members, its size -/
  | set (S : Int → Bool) (n : Nat)
  /-- an instance of the class at C, its dict at dx, its attributes -/
  | ins (C dx : Addr) (fs : List (Str × V))
  /-- the dict of the instance at x -/
  | own (x : Addr)
  /-- the dict of an exception -/
  | xd (fs : List (Str × V))
  /-- a bound method, f of x -/
  | met (f x : Addr)
  /-- a range object lo, lo + 1, .. below hi -/
  | rng (lo hi : Int)
  /-- a thing that is known to the object (the script; a dict while a loop walks it): read, never written while it is so -/
  | frz (o : Obj) (u : HO)
  /-- a code object's table -/
  | tbl (ps : Array Value)
  /-- any other thing, by what is true of its one object (a def of one's own: SetO a S n := HO.ext fun h => ..) -/
  | ext (φ : Heap → Prop)

abbrev Hp := Addr → Option HO
def upd (H : Hp) (a : Addr) (o : HO) : Hp := fun b => if b = a then some o else H b
theorem upd_same {H : Hp} {a : Addr} {o : HO} : upd H a o a = some o := by unfold upd; rw [if_pos rfl]
theorem upd_ne {H : Hp} {a b : Addr} {o : HO} (h : b ≠ a) : upd H a o b = H b := by unfold upd; rw [if_neg h]
theorem ne_of {H : Hp} {a b : Addr} {o u : HO} (h : H a = some o) (h' : H b = some u) (d : o ≠ u) : a ≠ b := by
  intro e; subst e; rw [h] at h'; exact d (Option.some.inj h')
theorem ne_of_none {H : Hp} {a b : Addr} {o : HO} (h : H a = some o) (h' : H b = none) : a ≠ b := by
  intro e; subst e; rw [h] at h'; cases h'

section
variable (P : Program) (w : World)
def ObjOk (H : Hp) (h : Heap) (a : Addr) : HO → Prop
  | .lst xs => xs.length ≤ sizeLine ∧ ∃ (its : List Value) (n : Nat), Vals xs its ∧ h.get? a = some { cls := .type "list", data := .seq its.toArray n }
  | .tup xs => xs.length ≤ sizeLine ∧ ∃ its : List Value, Vals xs its ∧ IsTup h a its.toArray
  | .dK kvs => kvs.length ≤ sizeLine ∧ (a == sysModules) = false ∧ ∃ vs, KV kvs vs ∧ h.DictOf (mixKind P w) a vs
  | .dT kvs => kvs.length ≤ sizeLine ∧ (a == sysModules) = false ∧ ∃ xs : List (List Key × Addr × Value),
      Paired (fun (p : List Key × V) (q : List Key × Addr × Value) => p.1 = q.1 ∧ H q.2.1 = some (.tup (p.1.map kV)) ∧ RelV p.2 q.2.2) kvs xs ∧
      ∃ o es ep, h.get? a = some o ∧ o.ExactDict ∧ o.data = .dict es ep ∧ es.toList = xs.map (entryOfKey (tupleKind (mixKind P w))) ∧ (xs.map (·.1)).Nodup
  | .set S n => h.SetOf (intKind P w) a S n
  | .ins C dx fs => H dx = some (.own a) ∧ fs.length ≤ 1000 ∧ dx ≠ a ∧ h.get? a = some (PySem.W.instObj C dx) ∧
      ∃ mA, h.Ns1 dx mA ∧ (∀ f, RelO (fs.lookup f) (mA f)) ∧ PySem.Within mA (fs.map (·.1))
  | .own _ => ∃ o, h.get? a = some o
  | .xd fs => ∃ mA, h.Ns1 a mA ∧ ∀ f, RelO (fs.lookup f) (mA f)
  | .rng lo hi => ∃ t u v, h.get? a = some { cls := .type "range", data := .fields #[.int lo t, .int hi u, .int 1 v] }
  | .frz o u => h.get? a = some o ∧ ObjOk H h a u
  | .tbl ps => h.get? a = some { cls := .none, data := .fields ps }
  | .met f x => h.get? a = some (PySem.W.methodObj (.ref f) (.ref x))
  | .ext φ => φ h ∧ (∃ o, h.get? a = some o) ∧ ∀ h1 h2 : Heap, φ h1 → (∀ o, h1.get? a = some o → h2.get? a = some o) → φ h2
def HOk (H : Hp) (h : Heap) : Prop := ∀ a o, H a = some o → ObjOk P w H h a o
end

section
variable {P : Program} {w : World} {H H' : Hp} {h h' : Heap} {a : Addr} {o : HO}
theorem ObjOk.lt (x : ObjOk P w H h a o) : a < h.objs.size := by
  cases o with
  | lst xs => obtain ⟨_, _, _, _, e⟩ := x; exact Heap.lt_size e
  | tup xs => obtain ⟨_, _, _, p⟩ := x; exact p.lt
  | dK kvs => obtain ⟨_, _, _, _, o, _, _, e, _⟩ := x; exact Heap.lt_size e
  | dT kvs => obtain ⟨_, _, _, _, o, _, _, e, _⟩ := x; exact Heap.lt_size e
  | set S n => obtain ⟨o, _, _, _, e, _⟩ := x; exact Heap.lt_size e
  | ins C dx fs => obtain ⟨_, _, _, e, _⟩ := x; exact Heap.lt_size e
  | own y => obtain ⟨_, e⟩ := x; exact Heap.lt_size e
  | xd fs => obtain ⟨_, ⟨_, _, _, e, _⟩, _⟩ := x; exact Heap.lt_size e
  | rng lo hi => obtain ⟨_, _, _, e⟩ := x; exact Heap.lt_size e
  | frz ob u => obtain ⟨e, _⟩ := x; exact Heap.lt_size e
  | tbl ps => exact Heap.lt_size (show h.get? a = some _ from x)
  | met f y => exact Heap.lt_size (show h.get? a = some _ from x)
  | ext φ => obtain ⟨_, ⟨_, e⟩, _⟩ := x; exact Heap.lt_size e
theorem Paired.mapP {α β : Type} {F G : α → β → Prop} : ∀ {l₁ : List α} {l₂ : List β}, Paired F l₁ l₂ → (∀ a b, F a b → G a b) → Paired G l₁ l₂
  | _, _, .nil, _ => .nil
  | _, _, .cons r t, f => .cons (f _ _ r) (Paired.mapP t f)
theorem ObjOk.stay (x : ObjOk P w H h a o) (k : ∀ b u, (b = a ∨ H b = some (.own a)) → h.get? b = some u → h'.get? b = some u)
    (ho : ∀ b, H b = some (.own a) → H' b = some (.own a)) (ht : ∀ b xs, H b = some (.tup xs) → H' b = some (.tup xs)) : ObjOk P w H' h' a o := by
  induction o with
  | lst xs => obtain ⟨z, its, n, r, e⟩ := x; exact ⟨z, its, n, r, k _ _ (.inl rfl) e⟩
  | tup xs => obtain ⟨z, its, r, ob, e, c⟩ := x; exact ⟨z, its, r, ob, k _ _ (.inl rfl) e, c⟩
  | dK kvs => obtain ⟨z, y, vs, r, ob, es, ep, e, c⟩ := x; exact ⟨z, y, vs, r, ob, es, ep, k _ _ (.inl rfl) e, c⟩
  | dT kvs =>
    obtain ⟨z, y, xs, r, ob, es, ep, e, c⟩ := x
    exact ⟨z, y, xs, Paired.mapP r fun p q z => ⟨z.1, ht _ _ z.2.1, z.2.2⟩, ob, es, ep, k _ _ (.inl rfl) e, c⟩
  | set S n => obtain ⟨ob, es, ep, t, e, c⟩ := x; exact ⟨ob, es, ep, t, k _ _ (.inl rfl) e, c⟩
  | ins C dx fs =>
    obtain ⟨d, z, ne, e, mA, ⟨od, es, ep, e2, c⟩, r⟩ := x
    exact ⟨ho _ d, z, ne, k _ _ (.inl rfl) e, mA, ⟨od, es, ep, k _ _ (.inr d) e2, c⟩, r⟩
  | own y => obtain ⟨ob, e⟩ := x; exact ⟨ob, k _ _ (.inl rfl) e⟩
  | xd fs => obtain ⟨mA, ⟨od, es, ep, e, c⟩, r⟩ := x; exact ⟨mA, ⟨od, es, ep, k _ _ (.inl rfl) e, c⟩, r⟩
  | rng lo hi => obtain ⟨t, u, v, e⟩ := x; exact ⟨t, u, v, k _ _ (.inl rfl) e⟩
  | frz ob u ih => obtain ⟨e, q⟩ := x; exact ⟨k _ _ (.inl rfl) e, ih q⟩
  | tbl ps =>
    have e : h.get? a = some { cls := .none, data := .fields ps } := x
    show h'.get? a = some { cls := .none, data := .fields ps }
    exact k a _ (.inl rfl) e
  | met f y =>
    have e : h.get? a = some (PySem.W.methodObj (.ref f) (.ref y)) := x
    show h'.get? a = some (PySem.W.methodObj (.ref f) (.ref y))
    exact k a _ (.inl rfl) e
  | ext φ => obtain ⟨p, ⟨o, e⟩, st⟩ := x; exact ⟨st _ _ p fun o q => k _ _ (.inl rfl) q, ⟨o, k _ _ (.inl rfl) e⟩, st⟩
theorem HOk.lt (x : HOk P w H h) (e : H a = some o) : a < h.objs.size := (x a o e).lt
theorem HOk.fresh (x : HOk P w H h) (e : h.objs.size ≤ a) : H a = none := by
  cases q : H a with
  | none => rfl
  | some u => exact absurd (Nat.lt_of_lt_of_le (x.lt q) e) (Nat.lt_irrefl _)
theorem HOk.kept (x : HOk P w H h) (k : ∀ b u, h.get? b = some u → h'.get? b = some u) : HOk P w H h' := fun a o e =>
  (x a o e).stay (fun b u _ q => k b u q) (fun _ q => q) fun _ _ q => q
theorem HOk.laid (x : HOk P w H h) (k : ∀ b u, h.get? b = some u → h'.get? b = some u) (hp : h.objs.size ≤ a) (new : ObjOk P w (upd H a o) h' a o) : HOk P w (upd H a o) h' := fun b u e => by
  have hn := x.fresh hp
  by_cases hb : b = a
  · subst hb; rw [upd_same] at e; cases e; exact new
  · rw [upd_ne hb] at e
    exact (x b u e).stay (fun c v _ q => k c v q) (fun c q => by rw [upd_ne (ne_of_none q hn)]; exact q) fun c xs q => by rw [upd_ne (ne_of_none q hn)]; exact q
end

def Rd (H : Hp) (a : Addr) (u : HO) : Prop := H a = some u ∨ ∃ o, H a = some (.frz o u)
theorem Rd.of {H : Hp} {a : Addr} {u : HO} (h : H a = some u) : Rd H a u := .inl h
theorem Rd.ok {P : Program} {w : World} {H : Hp} {h : Heap} {a : Addr} {u : HO} (r : Rd H a u) (x : HOk P w H h) : ObjOk P w H h a u := by
  rcases r with r | ⟨o, r⟩
  · exact x a u r
  · obtain ⟨_, q⟩ := x a _ r
    exact q
def Mut : Option HO → Prop
  | some (.lst _) => True
  | some (.dK _) => True
  | some (.dT _) => True
  | some (.set _ _) => True
  | some (.ins _ _ _) => True
  | some (.ext _) => True
  | _ => False
section
variable {P : Program} {w : World} {H : Hp} {h h' : Heap} {x e : Addr} {o' : HO}
theorem HOk.write (ok : HOk P w H h) (mu : Mut (H x)) (he : e = x ∨ H e = some (.own x)) (k : ∀ b u, b ≠ e → h.get? b = some u → h'.get? b = some u) (heo : ∃ u, h'.get? e = some u)
    (new : ObjOk P w (upd H x o') h' x o') : HOk P w (upd H x o') h' := fun b u q => by
  have nown : ∀ c y, H c = some (.own y) → c ≠ x := fun c y r z => by subst z; rw [r] at mu; exact mu
  have ntup : ∀ c xs, H c = some (.tup xs) → c ≠ x := fun c xs r z => by subst z; rw [r] at mu; exact mu
  by_cases hb : b = x
  · subst hb; rw [upd_same] at q; cases q; exact new
  · rw [upd_ne hb] at q
    by_cases hbe : b = e
    · have q' : H b = some (.own x) := by
        rcases he with z | z
        · exact absurd (hbe.trans z) hb
        · rw [hbe]; exact z
      rw [q] at q'; cases q'
      obtain ⟨v, hv⟩ := heo
      exact ⟨v, by rw [hbe]; exact hv⟩
    · refine (ok b u q).stay (fun c v hc r => k c v ?_ r) (fun c r => by rw [upd_ne (nown c b r)]; exact r) fun c xs r => by rw [upd_ne (ntup c xs r)]; exact r
      rcases hc with rfl | hc
      · exact hbe
      · rintro rfl
        rcases he with z | z
        · exact nown c b hc z
        · rw [hc] at z; cases z; exact hb rfl
end

structure Un (fs ex : List Addr) (H H' : Hp) (h h' : Heap) : Prop where
  keep : ∀ b o, h.get? b = some o → H b = none → b ∉ fs → b ∉ ex → h'.get? b = some o
  slot : ∀ b o, h.get? b = some o → H b = none → b ∈ fs → b ∉ ex → ∃ sl, h'.get? b = some { o with slots := sl }
  free : ∀ b o, h.get? b = some o → H b = none → b ∉ ex → H' b = none
  there : ∀ b o, h.get? b = some o → b ∉ ex → ∃ o', h'.get? b = some o'
  tups : ∀ b xs, H b = some (.tup xs) → H' b = some (.tup xs)
  frzs : ∀ b o u, H b = some (.frz o u) → H' b = some (.frz o u)
  tbls : ∀ b ps, H b = some (.tbl ps) → ∃ more, H' b = some (.tbl (ps ++ more))
section
variable {fs fs' ex ex' : List Addr} {H H1 H2 : Hp} {h h1 h2 h' : Heap} {a x e : Addr} {o : HO}
theorem Un.any (u : Un fs ex H H1 h h1) {b : Addr} {ob : Obj} (q : h.get? b = some ob) (n : H b = none) (hx : b ∉ ex) : ∃ sl, h1.get? b = some { ob with slots := sl } := by
  by_cases hb : b ∈ fs
  · exact u.slot b ob q n hb hx
  · exact ⟨ob.slots, u.keep b ob q n hb hx⟩
theorem Un.trans (a : Un fs ex H H1 h h1) (b : Un fs ex H1 H2 h1 h2) : Un fs ex H H2 h h2 where
  keep := fun c ob q n hc hx => b.keep c ob (a.keep c ob q n hc hx) (a.free c ob q n hx) hc hx
  slot := fun c ob q n hc hx => by
    obtain ⟨sl, e1⟩ := a.slot c ob q n hc hx
    obtain ⟨sl', e2⟩ := b.slot c _ e1 (a.free c ob q n hx) hc hx
    exact ⟨sl', e2⟩
  free := fun c ob q n hx => by
    obtain ⟨o', e1⟩ := a.there c ob q hx
    exact b.free c o' e1 (a.free c ob q n hx) hx
  there := fun c ob q hx => by
    obtain ⟨o', e1⟩ := a.there c ob q hx
    exact b.there c o' e1 hx
  tups := fun c xs q => b.tups c xs (a.tups c xs q)
  frzs := fun c ob xs q => b.frzs c ob xs (a.frzs c ob xs q)
  tbls := fun c ps q => by
    obtain ⟨m1, e1⟩ := a.tbls c ps q
    obtain ⟨m2, e2⟩ := b.tbls c _ e1
    exact ⟨m1 ++ m2, by rw [e2, Array.append_assoc]⟩
theorem Un.kept (k : ∀ b u, h.get? b = some u → h'.get? b = some u) : Un fs ex H H h h' :=
  ⟨fun b ob q _ _ _ => k b ob q, fun b ob q _ _ _ => ⟨ob.slots, k b ob q⟩, fun _ _ _ n _ => n, fun b ob q _ => ⟨ob, k b ob q⟩, fun _ _ q => q, fun _ _ _ q => q, fun _ ps q => ⟨#[], by rw [q]; simp⟩⟩
theorem Un.refl : Un fs ex H H h h := Un.kept fun _ _ q => q
theorem Un.laid (k : ∀ b u, h.get? b = some u → h'.get? b = some u) (hp : h.objs.size ≤ a) (hn : H a = none) : Un fs ex H (upd H a o) h h' where
  keep := fun b u q _ _ _ => k b u q
  slot := fun b u q _ _ _ => ⟨u.slots, k b u q⟩
  free := fun b u q n _ => by rw [upd_ne (Nat.ne_of_lt (Nat.lt_of_lt_of_le (Heap.lt_size q) hp))]; exact n
  there := fun b u q _ => ⟨u, k b u q⟩
  tups := fun b xs q => by rw [upd_ne (ne_of_none q hn)]; exact q
  frzs := fun b u xs q => by rw [upd_ne (ne_of_none q hn)]; exact q
  tbls := fun b ps q => ⟨#[], by rw [upd_ne (ne_of_none q hn), q]; simp⟩
theorem Un.write (mu : Mut (H x)) (he : e = x ∨ H e = some (.own x)) (k : ∀ b u, b ≠ e → h.get? b = some u → h'.get? b = some u) (heo : ∃ u, h'.get? e = some u) : Un fs ex H (upd H x o) h h' := by
  have hx : ∀ b, H b = none → b ≠ x := fun b n z => by subst z; rw [n] at mu; exact mu
  have hb : ∀ b, H b = none → b ≠ e := fun b n z => by
    subst z
    rcases he with r | r
    · exact hx b n r
    · rw [n] at r; cases r
  have hm : ∀ b u, H b = some u → ¬ Mut (some u) → b ≠ x := fun b u q nm z => by subst z; rw [q] at mu; exact nm mu
  refine ⟨fun b u q n _ _ => k b u (hb b n) q, fun b u q n _ _ => ⟨u.slots, k b u (hb b n) q⟩, fun b u q n _ => by rw [upd_ne (hx b n)]; exact n, fun b u q _ => ?_,
    fun b xs q => by rw [upd_ne (hm b _ q fun z => z)]; exact q, fun b u xs q => by rw [upd_ne (hm b _ q fun z => z)]; exact q, fun b ps q => ⟨#[], by rw [upd_ne (hm b _ q fun z => z), q]; simp⟩⟩
  by_cases hbe : b = e
  · subst hbe; exact heo
  · exact ⟨u, k b u hbe q⟩
theorem Un.mono (u : Un fs ex H H1 h h1) (hs : ∀ b ∈ fs, b ∈ fs') (hx : ∀ b ∈ ex, b ∈ ex') : Un fs' ex' H H1 h h1 :=
  ⟨fun b ob q n hb he => u.keep b ob q n (fun z => hb (hs b z)) fun z => he (hx b z), fun _ _ q n _ he => u.any q n fun z => he (hx _ z), fun b ob q n he => u.free b ob q n fun z => he (hx b z), fun b ob q he => u.there b ob q fun z => he (hx b z), u.tups, u.frzs, u.tbls⟩
end

def trk (h : Heap) (H : Hp) : List Addr := (List.range h.objs.size).filter fun a => (H a).isSome
def hidT (h : Heap) (H : Hp) : Heap := PySem.W.hideAll h (trk h H)
theorem hidT_size (h : Heap) (H : Hp) : (hidT h H).objs.size = h.objs.size := PySem.W.hideAll_size _ _
theorem hidT_get {h : Heap} {H : Hp} {b : Addr} {o : Obj} (e : h.get? b = some o) (n : H b = none) : (hidT h H).get? b = some o :=
  PySem.W.hideAll_get _ e fun hm => by
    have q : (H b).isSome = true := (List.mem_filter.mp hm).2
    rw [n] at q; simp at q
theorem of_hidT {h : Heap} {H : Hp} {b : Addr} {o : Obj} (e : (hidT h H).get? b = some o) : h.get? b = some o ∧ H b = none := by
  have e' : h.get? b = some o := PySem.W.of_hideAll (trk h H) e
  refine ⟨e', ?_⟩
  cases q : H b with
  | none => rfl
  | some x =>
    have hm : b ∈ trk h H := List.mem_filter.mpr ⟨List.mem_range.mpr (Heap.lt_size e'), by simp [q]⟩
    have z : (hidT h H).get? b = none := PySem.W.hideAll_none (trk h H) hm
    rw [z] at e; cases e

def allNews (g h : Heap) (L : Addr) : List (Addr × Obj) := (List.range h.objs.size).filterMap fun a => if a = L ∨ (g.get? a).isSome = true then none else (h.get? a).map fun o => (a, o)
def rest (g h : Heap) (L d : Addr) : List (Addr × Obj) := (allNews g h L).filter fun p => decide (p.1 ≠ d)
end L2

namespace L2
open PySem PySem.Spec PyProof.Rows

structure Mod (K : PySem.W.Frag) (mg : Str → Option Value) (base : Heap) : Prop where
  kin : K.In base
  glob : base.Ns mainGlobals mg
  blt : ∃ mb, base.Ns builtinsNs mb ∧ ∀ x : Str, x ≠ "__name__" → mb x = bootBuiltins x
  nolimit : base.NoLimit

/- the context: a def's body (or a comprehension's block) running. base: fixed through the whole law; s₀, H₀: the entry; outer: the frames whose slots others may change (a def's callers); stack: all frames that run;
   ex: iterators that were made ahead of the entry and are walked here (a comprehension's); fn: the names whose cells were made at the entry (a def: all; a comprehension's block: its own); calm: not within an except suite; pn: pins that every state bears; xe: what is wanted of an exception that leaves the code -/
structure Cx where
  prog : Program
  w : World
  K : PySem.W.Frag
  mg : Str → Option Value
  base : Heap
  A : Around
  N : List Str
  s₀ : Shared
  H₀ : Hp
  env : Env
  outer : List Env
  stack : List Env
  ex : List Addr
  fn : Str → Bool
  calm : Bool
  pn : List (Addr × Obj)
  xe : Value → Shared → Prop
def frs (l : List Env) : List Addr := l.filterMap (·.frame)
abbrev Cx.fs (X : Cx) : List Addr := frs X.outer

def Vis (sc : Scope) (x : Str) : Prop := sc.names.lookup x = some .local ∨ sc.names.lookup x = some .cell ∨ sc.names.lookup x = some .free
def Loc (sc : Scope) (x : Str) : Prop := sc.names.lookup x = some .local ∨ sc.names.lookup x = some .cell
def Look (env : Env) (h : Heap) (m : Str → Option Value) (x : Str) (u : Value) : Prop :=
  (env.kindOf x = some .local ∧ m x = some u) ∨ ((env.kindOf x = some .cell ∨ env.kindOf x = some .free) ∧ ∃ c, env.cells.lookup x = some c ∧ h.IsCell c (some u))

structure Cx.Ok (X : Cx) : Prop where
  mod : Mod X.K X.mg X.base
  kind : X.env.scope.kind = .function
  glob : X.env.globals = mainGlobals
  blt : X.env.builtins = builtinsNs
  above : X.s₀.heap.objs.size ≤ X.env.locals
  inj : ∀ x y c, X.env.cells.lookup x = some c → X.env.cells.lookup y = some c → x = y
  has : ∀ x, (X.env.kindOf x = some .cell ∨ X.env.kindOf x = some .free) → ∃ c, X.env.cells.lookup x = some c
  cab : ∀ x c, X.fn x = true → X.env.cells.lookup x = some c → X.s₀.heap.objs.size ≤ c
  hd : X.calm = true → X.A.handled = none
  frames : X.A.frames = some X.stack
  stk : X.stack = X.outer ∨ (X.stack = X.env :: X.outer ∧ X.env.frame = some X.env.locals)
  exf : ∀ b ∈ X.ex, b ≠ X.env.locals ∧ ∀ x c, X.env.cells.lookup x = some c → c ≠ b
  bs : ∀ b o, X.base.get? b = some o → X.s₀.heap.get? b = some o ∧ X.H₀ b = none
  bsz : X.base.objs.size ≤ X.s₀.heap.objs.size
  noex : ∀ b o, X.base.get? b = some o → b ∉ X.ex
  exfs : ∀ b ∈ X.ex, b ∉ X.fs
  funs : X.s₀.heap.FunFrames X.base X.outer
  frf : ∀ b ∈ X.fs, X.H₀ b = none

structure Inv (X : Cx) (pins : List (Addr × Obj)) (σ : List (Option V)) (H : Hp) (s : Shared) : Prop where
  ok : X.Ok
  os : s.os = X.s₀.os
  bare : AllBare s.gens
  base : Un X.fs X.ex X.H₀ H X.s₀.heap s.heap
  loc : ∃ m, s.heap.Ns X.env.locals m ∧ ∀ (i : Nat) (x : Str) (v : V), X.N[i]? = some x → σ[i]? = some (some v) → Vis X.env.scope x → ∃ u, RelV v u ∧ Look X.env s.heap m x u
  cell : ∀ x c, X.env.cells.lookup x = some c → ∃ v, s.heap.IsCell c v
  free : H X.env.locals = none
  freeC : ∀ x c, X.env.cells.lookup x = some c → H c = none
  pin : ∀ p ∈ X.pn ++ pins, s.heap.get? p.1 = some p.2 ∧ H p.1 = none ∧ p.1 ≠ X.env.locals ∧ p.1 ∉ X.fs ∧ ∀ v, p.2.data ≠ .cell v
  hok : HOk X.prog X.w H s.heap
  len : σ.length = X.N.length

section
variable {X : Cx} {pins : List (Addr × Obj)} {σ : List (Option V)} {H H' : Hp} {s : Shared} {h' : Heap}

theorem Cx.Ok.nofr (ok : X.Ok) {b : Addr} {o : Obj} (e : X.base.get? b = some o) : b ∉ X.fs := fun hb => by
  have := (ok.funs.mem hb).1
  rw [e] at this; cases this
theorem Inv.bs (I : Inv X pins σ H s) : ∀ b o, X.base.get? b = some o → s.heap.get? b = some o ∧ H b = none := fun b o e =>
  ⟨I.base.keep b o (I.ok.bs b o e).1 (I.ok.bs b o e).2 (I.ok.nofr e) (I.ok.noex b o e), I.base.free b o (I.ok.bs b o e).1 (I.ok.bs b o e).2 (I.ok.noex b o e)⟩
theorem Inv.bk (I : Inv X pins σ H s) : ∀ b o, X.base.get? b = some o → s.heap.get? b = some o := fun b o e => (I.bs b o e).1
theorem Inv.mod (I : Inv X pins σ H s) : Mod X.K X.mg X.base := I.ok.mod
theorem Inv.kIn (I : Inv X pins σ H s) : X.K.In s.heap := I.ok.mod.kin.keeps I.bk
theorem Inv.nolimit (I : Inv X pins σ H s) : s.heap.NoLimit := I.ok.mod.nolimit.keeps I.bk
theorem Inv.fr (I : Inv X pins σ H s) : ∃ m, Fr X.base X.env.locals s.heap m :=
  let ⟨m, hn, _⟩ := I.loc
  ⟨m, hn, I.bk, Nat.le_trans I.ok.bsz I.ok.above⟩
theorem Inv.lt (I : Inv X pins σ H s) : X.env.locals < s.heap.objs.size := let ⟨_, hn, _⟩ := I.loc; hn.lt
theorem Inv.sz (I : Inv X pins σ H s) : X.s₀.heap.objs.size ≤ s.heap.objs.size := Nat.le_trans I.ok.above (Nat.le_of_lt I.lt)
theorem Inv.nofs (I : Inv X pins σ H s) {a : Addr} (h : s.heap.objs.size ≤ a) : a ∉ X.fs := fun hb => by
  obtain ⟨_, o, ho, _⟩ := I.ok.funs.mem hb
  exact absurd (Nat.lt_of_lt_of_le (Heap.lt_size ho) (Nat.le_trans I.sz h)) (Nat.lt_irrefl _)
theorem Inv.cne (I : Inv X pins σ H s) : ∀ x c, X.env.cells.lookup x = some c → c ≠ X.env.locals := fun x c e z => by
  obtain ⟨v, o, ho, hd⟩ := I.cell x c e
  obtain ⟨m, ⟨o', es, ep, ho', hd', _⟩, _⟩ := I.loc
  rw [z, ho'] at ho; cases ho; rw [hd'] at hd; cases hd
theorem Inv.funs (I : Inv X pins σ H s) : s.heap.FunFrames X.base X.outer := by
  have all : ∀ (l : List Env), (∀ b ∈ frs l, b ∈ X.fs) → X.s₀.heap.FunFrames X.base l → s.heap.FunFrames X.base l := by
    intro l
    induction l with
    | nil => intro _ _; trivial
    | cons env r ih =>
      intro hs hl
      obtain ⟨hk, ⟨L, o, hf, hn, ho, hd⟩, hr⟩ := hl
      have hL : L ∈ X.fs := hs L (by unfold frs; rw [List.filterMap_cons, hf]; exact List.mem_cons_self)
      obtain ⟨sl, e⟩ := I.base.slot L o ho (I.ok.frf L hL) hL fun z => I.ok.exfs L z hL
      exact ⟨hk, ⟨L, _, hf, hn, e, hd⟩, ih (fun b hb => hs b (by unfold frs; rw [List.filterMap_cons, hf]; exact List.mem_cons_of_mem _ hb)) hr⟩
  exact all X.outer (fun _ hb => hb) I.ok.funs

theorem Inv.stack (I : Inv X pins σ H s) : s.heap.FunFrames X.base X.stack := by
  rcases I.ok.stk with e | ⟨e, hf⟩
  · rw [e]; exact I.funs
  · rw [e]
    obtain ⟨m, hn, _⟩ := I.loc
    refine .cons (by rw [I.ok.kind]; decide) hf hn ?_ I.funs
    exact Heap.get?_none_of_le (Nat.le_trans I.ok.bsz I.ok.above)
theorem Inv.stkSub (I : Inv X pins σ H s) : ∀ b ∈ frs X.stack, b ∈ X.env.locals :: X.fs := fun b hb => by
  rcases I.ok.stk with e | ⟨e, hf⟩
  · rw [e] at hb; exact List.mem_cons_of_mem _ hb
  · rw [e] at hb
    unfold frs at hb
    rw [List.filterMap_cons, hf] at hb
    exact hb
theorem Inv.stkFree (I : Inv X pins σ H s) : ∀ b ∈ frs X.stack, H b = none := fun b hb => by
  rcases List.mem_cons.mp (I.stkSub b hb) with e | hb
  · rw [e]; exact I.free
  · obtain ⟨_, o, ho, _⟩ := I.ok.funs.mem hb
    exact I.base.free b o ho (I.ok.frf b hb) fun z => I.ok.exfs b z hb

theorem Inv.step {g' : Array GenState} {t' : Nat} {d' : Drawn} {ch : List Addr} (I : Inv X pins σ H s)
    (hch : ∀ b ∈ ch, (b ∈ X.ex ∨ X.s₀.heap.objs.size ≤ b) ∧ b ≠ X.env.locals ∧ (∀ x c, X.env.cells.lookup x = some c → c ≠ b) ∧ ∀ p ∈ X.pn ++ pins, p.1 ≠ b)
    (keep : ∀ b o, b ≠ X.env.locals → b ∉ X.fs → b ∉ ch → s.heap.get? b = some o → H b = none → h'.get? b = some o)
    (slot : ∀ b o, b ≠ X.env.locals → b ∈ X.fs → b ∉ ch → s.heap.get? b = some o → H b = none → ∃ sl, h'.get? b = some { o with slots := sl }) (free : ∀ b o, b ∉ ch → s.heap.get? b = some o → H b = none → H' b = none)
    (there : ∀ b o, b ∉ ch → s.heap.get? b = some o → ∃ o', h'.get? b = some o')
    (tups : ∀ b xs, H b = some (.tup xs) → H' b = some (.tup xs)) (frzs : ∀ b o u, H b = some (.frz o u) → H' b = some (.frz o u)) (tbls : ∀ b ps, H b = some (.tbl ps) → ∃ more, H' b = some (.tbl (ps ++ more)))
    (ns : ∀ m, s.heap.Ns X.env.locals m → h'.Ns X.env.locals m) (hok : HOk X.prog X.w H' h') (hg : AllBare g') :
    Inv X pins σ H' { s with heap := h', gens := g', drawn := d', toks := t' } := by
  have neL : ∀ b o, X.s₀.heap.get? b = some o → b ≠ X.env.locals := fun b o e => Nat.ne_of_lt (Nat.lt_of_lt_of_le (Heap.lt_size e) I.ok.above)
  have neC : ∀ b o, X.s₀.heap.get? b = some o → b ∉ X.ex → b ∉ ch := fun b o e hx hb => by
    rcases (hch b hb).1 with z | z
    · exact hx z
    · exact absurd (Nat.lt_of_lt_of_le (Heap.lt_size e) z) (Nat.lt_irrefl _)
  have cellK : ∀ x c, X.env.cells.lookup x = some c → ∀ v, s.heap.IsCell c v → h'.IsCell c v := fun x c e v ⟨o, ho, hd⟩ => by
    have nch : c ∉ ch := fun z => (hch c z).2.2.1 x c e rfl
    by_cases hc : c ∈ X.fs
    · obtain ⟨sl, q⟩ := slot c o (I.cne x c e) hc nch ho (I.freeC x c e)
      exact ⟨_, q, hd⟩
    · exact ⟨o, keep c o (I.cne x c e) hc nch ho (I.freeC x c e), hd⟩
  refine ⟨I.ok, I.os, hg, ⟨fun b o e n hb hx => ?_, fun b o e n hb hx => ?_, fun b o e n hx => ?_, fun b o e hx => ?_, fun b xs e => tups b xs (I.base.tups b xs e), fun b o xs e => frzs b o xs (I.base.frzs b o xs e), fun b ps e => ?_⟩, ?_, fun x c e => ?_, ?_, fun x c e => ?_, fun p hp => ?_, hok, I.len⟩
  · exact keep b o (neL b o e) hb (neC b o e hx) (I.base.keep b o e n hb hx) (I.base.free b o e n hx)
  · obtain ⟨sl, e1⟩ := I.base.slot b o e n hb hx
    obtain ⟨sl', e2⟩ := slot b _ (neL b o e) hb (neC b o e hx) e1 (I.base.free b o e n hx)
    exact ⟨sl', e2⟩
  · obtain ⟨o', e1⟩ := I.base.there b o e hx
    exact free b o' (neC b o e hx) e1 (I.base.free b o e n hx)
  · obtain ⟨o', e1⟩ := I.base.there b o e hx
    exact there b o' (neC b o e hx) e1
  · obtain ⟨m1, e1⟩ := I.base.tbls b ps e
    obtain ⟨m2, e2⟩ := tbls b _ e1
    exact ⟨m1 ++ m2, by rw [e2, Array.append_assoc]⟩
  · obtain ⟨m, hn, hl⟩ := I.loc
    refine ⟨m, ns m hn, fun i x v e1 e2 e3 => ?_⟩
    obtain ⟨u, r, l⟩ := hl i x v e1 e2 e3
    refine ⟨u, r, ?_⟩
    rcases l with l | ⟨k, c, e, z⟩
    · exact .inl l
    · exact .inr ⟨k, c, e, cellK x c e _ z⟩
  · obtain ⟨v, z⟩ := I.cell x c e
    exact ⟨v, cellK x c e v z⟩
  · obtain ⟨m, ⟨o, _, _, ho, _⟩, _⟩ := I.loc
    exact free _ o (fun z => (hch _ z).2.1 rfl) ho I.free
  · obtain ⟨v, o, ho, hd⟩ := I.cell x c e
    exact free c o (fun z => (hch c z).2.2.1 x c e rfl) ho (I.freeC x c e)
  · obtain ⟨e, n, ne, nf, d⟩ := I.pin p hp
    have nch : p.1 ∉ ch := fun z => (hch p.1 z).2.2.2 p hp rfl
    exact ⟨keep p.1 p.2 ne nf nch e n, free p.1 p.2 nch e n, ne, nf, d⟩
theorem Inv.un {t' : Nat} (I : Inv X pins σ H s) (u : Un X.fs [] H H' s.heap h') (hok : HOk X.prog X.w H' h') : Inv X pins σ H' { s with heap := h', toks := t' } := by
  obtain ⟨m, ⟨o, es, ep, ho, r⟩, _⟩ := id I.loc
  obtain ⟨sl, hL⟩ := u.any ho I.free (by simp)
  exact I.step (g' := s.gens) (d' := s.drawn) (ch := []) (fun _ z => nomatch z) (fun b o _ hb _ e n => u.keep b o e n hb (by simp)) (fun b o _ hb _ e n => u.slot b o e n hb (by simp)) (fun b o _ e n => u.free b o e n (by simp)) (fun b o _ e => u.there b o e (by simp)) u.tups u.frzs u.tbls (fun m' hm => by
    obtain ⟨o', es', ep', ho', r'⟩ := hm
    rw [ho] at ho'; cases ho'
    exact ⟨_, es', ep', hL, r'⟩) hok I.bare
theorem Inv.call {g' : Array GenState} {t' : Nat} {d' : Drawn} {ch : List Addr} (I : Inv X pins σ H s) (u : Un (frs X.stack) ch H H' s.heap h') (hok : HOk X.prog X.w H' h') (hg : AllBare g')
    (hch : ∀ b ∈ ch, (b ∈ X.ex ∨ X.s₀.heap.objs.size ≤ b) ∧ b ≠ X.env.locals ∧ (∀ x c, X.env.cells.lookup x = some c → c ≠ b) ∧ ∀ p ∈ X.pn ++ pins, p.1 ≠ b) :
    Inv X pins σ H' { s with heap := h', gens := g', drawn := d', toks := t' } := by
  obtain ⟨m, ⟨o, es, ep, ho, r⟩, _⟩ := id I.loc
  obtain ⟨sl, hL⟩ := u.any ho I.free fun z => (hch _ z).2.1 rfl
  exact I.step (ch := ch) hch (fun b o hL hb hc e n => u.keep b o e n (fun z => (List.mem_cons.mp (I.stkSub b z)).elim hL hb) hc) (fun b o _ _ hc e n => u.any e n hc) (fun b o hc e n => u.free b o e n hc) (fun b o hc e => u.there b o e hc) u.tups u.frzs u.tbls (fun m' hm => by
    obtain ⟨o', es', ep', ho', r'⟩ := hm
    rw [ho] at ho'; cases ho'
    exact ⟨_, es', ep', hL, r'⟩) hok hg
theorem Inv.turned {t' : Nat} {it : Addr} (I : Inv X pins σ H s) (k : ∀ b o, b ≠ it → s.heap.get? b = some o → h'.get? b = some o) (hn : H it = none) (hL : it ≠ X.env.locals)
    (h1 : it ∈ X.ex ∨ X.s₀.heap.objs.size ≤ it) (h2 : ∀ x c, X.env.cells.lookup x = some c → c ≠ it) (h3 : ∀ p ∈ X.pn ++ pins, p.1 ≠ it) : Inv X pins σ H { s with heap := h', toks := t' } := by
  have nit : ∀ b u, H b = some u → b ≠ it := fun b u e z => by rw [z, hn] at e; cases e
  refine I.step (g' := s.gens) (d' := s.drawn) (ch := [it]) (fun b hb => ?_) (fun b o _ _ hc e _ => k b o (fun z => hc (by simp [z])) e) (fun b o _ _ hc e _ => ⟨o.slots, k b o (fun z => hc (by simp [z])) e⟩) (fun _ _ _ _ n => n)
    (fun b o hc e => ⟨o, k b o (fun z => hc (by simp [z])) e⟩) (fun _ _ e => e) (fun _ _ _ e => e) (fun b ps e => ⟨#[], by rw [e]; simp⟩) (fun m hm => ?_) (fun b u e => ?_) I.bare
  · have e : b = it := by simpa using hb
    subst e
    exact ⟨h1, hL, h2, h3⟩
  · obtain ⟨o, es, ep, ho, r⟩ := hm
    exact ⟨o, es, ep, k _ o (Ne.symm hL) ho, r⟩
  · refine (I.hok b u e).stay (fun c v hc q => k c v ?_ q) (fun _ q => q) fun _ _ q => q
    rcases hc with z | z
    · rw [z]; exact nit b u e
    · exact nit c _ z
theorem Inv.tok (I : Inv X pins σ H s) (t : Nat) : Inv X pins σ H { s with toks := t } := I.un (h' := s.heap) (t' := t) Un.refl I.hok
theorem Inv.kept {t' : Nat} (I : Inv X pins σ H s) (k : ∀ b u, s.heap.get? b = some u → h'.get? b = some u) : Inv X pins σ H { s with heap := h', toks := t' } := I.un (Un.kept k) (I.hok.kept k)
theorem Inv.laid {a : Addr} {o : HO} {t' : Nat} (I : Inv X pins σ H s) (k : ∀ b u, s.heap.get? b = some u → h'.get? b = some u) (hp : s.heap.objs.size ≤ a) (new : ObjOk X.prog X.w (upd H a o) h' a o) :
    Inv X pins σ (upd H a o) { s with heap := h', toks := t' } := I.un (Un.laid k hp (I.hok.fresh hp)) (I.hok.laid k hp new)
theorem Inv.write {x e : Addr} {o : HO} {t' : Nat} (I : Inv X pins σ H s) (mu : Mut (H x)) (he : e = x ∨ H e = some (.own x)) (k : ∀ b u, b ≠ e → s.heap.get? b = some u → h'.get? b = some u) (heo : ∃ u, h'.get? e = some u)
    (new : ObjOk X.prog X.w (upd H x o) h' x o) : Inv X pins σ (upd H x o) { s with heap := h', toks := t' } := I.un (Un.write mu he k heo) (I.hok.write mu he k heo new)
theorem Inv.pins_of {pins' : List (Addr × Obj)} (I : Inv X pins σ H s) (h : ∀ p ∈ pins', s.heap.get? p.1 = some p.2 ∧ H p.1 = none ∧ p.1 ≠ X.env.locals ∧ p.1 ∉ X.fs ∧ ∀ v, p.2.data ≠ .cell v) : Inv X pins' σ H s :=
  ⟨I.ok, I.os, I.bare, I.base, I.loc, I.cell, I.free, I.freeC, fun p hp => (List.mem_append.mp hp).elim (fun z => I.pin p (List.mem_append_left _ z)) (h p), I.hok, I.len⟩

theorem nodup_ix {N : List Str} (hN : N.Nodup) {i j : Nat} {x : Str} (a : N[i]? = some x) (b : N[j]? = some x) : i = j := by
  obtain ⟨h1, e1⟩ := List.getElem?_eq_some_iff.mp a
  obtain ⟨h2, e2⟩ := List.getElem?_eq_some_iff.mp b
  exact (List.getElem_inj hN).mp (e1.trans e2.symm)

theorem store_ok2 {M : Model} {A : Around} {E : Value → Shared → Prop} {i : Nat} {x : Str} {v : V} {u : Value} {Q : Unit → Shared → Prop} (I : Inv X pins σ H s) (hN : X.N.Nodup) (hi : X.N[i]? = some x) (hx : Loc X.env.scope x) (r : RelV v u)
    (h : ∀ s', Inv X pins (σ.set i (some v)) H s' → (∃ a, Heap.SameBut a s.heap s'.heap ∧ (a = X.env.locals ∨ X.env.cells.lookup x = some a)) → Q () s') (hf : X.fn x = true ∨ X.env.scope.names.lookup x = some .local := by first | exact .inl rfl | exact .inr rfl | assumption) : wpAny M A (storeName X.env x u) Q E s := by
  obtain ⟨m, hn, hl⟩ := id I.loc
  have hcls : (X.env.scope.kind == .class || (X.env.scope.kind == .module && X.env.locals != X.env.globals)) = false := by rw [I.ok.kind]; rfl
  have hiσ : i < σ.length := by rw [I.len]; exact (List.getElem?_eq_some_iff.mp hi).1
  have cne := I.cne
  have tracked : ∀ {a : Addr} {h' : Heap}, (∃ o, s.heap.get? a = some o ∧ H a = none) → Heap.SameBut a s.heap h' → HOk X.prog X.w H h' := fun {a h'} ha hs b ob e => by
    obtain ⟨_, _, hfree⟩ := ha
    refine (I.hok b ob e).stay (fun c w' hc q => (hs.2 c ?_).trans q) (fun _ q => q) fun _ _ q => q
    rintro rfl
    rcases hc with rfl | hc
    · rw [hfree] at e; cases e
    · rw [hfree] at hc; cases hc
  rcases hx with hk | hk
  · refine wpAny_storeName_local hk hn (fun h' hn' hs => ?_) hcls
    obtain ⟨oL, _, _, hoL, _⟩ := id hn
    refine h _ ⟨I.ok, I.os, I.bare, ⟨fun b o e n hb hx => ?_, fun b o e n hb hx => ?_, I.base.free, fun b o e hx => ?_, I.base.tups, I.base.frzs, I.base.tbls⟩, ⟨_, hn', fun j y v' e1 e2 e3 => ?_⟩, fun y c e => ?_, I.free, I.freeC, fun p hp => ?_, tracked ⟨oL, hoL, I.free⟩ hs, by simpa using I.len⟩ ⟨_, hs, .inl rfl⟩
    · exact (hs.2 b (Nat.ne_of_lt (Nat.lt_of_lt_of_le (Heap.lt_size e) I.ok.above))).trans (I.base.keep b o e n hb hx)
    · obtain ⟨sl, e1⟩ := I.base.slot b o e n hb hx
      exact ⟨sl, (hs.2 b (Nat.ne_of_lt (Nat.lt_of_lt_of_le (Heap.lt_size e) I.ok.above))).trans e1⟩
    · obtain ⟨o', e1⟩ := I.base.there b o e hx
      exact ⟨o', (hs.2 b (Nat.ne_of_lt (Nat.lt_of_lt_of_le (Heap.lt_size e) I.ok.above))).trans e1⟩
    · by_cases hj : j = i
      · subst hj
        rw [hi] at e1; cases e1
        rw [List.getElem?_set_self hiσ] at e2
        cases e2
        exact ⟨u, r, .inl ⟨hk, by simp⟩⟩
      · rw [List.getElem?_set_ne (Ne.symm hj)] at e2
        obtain ⟨u', r', q⟩ := hl j y v' e1 e2 e3
        refine ⟨u', r', ?_⟩
        rcases q with ⟨k, e⟩ | ⟨k, c, e, z⟩
        · refine .inl ⟨k, ?_⟩
          have : y ≠ x := fun e => hj (nodup_ix hN e1 (e ▸ hi))
          simp [this, e]
        · exact .inr ⟨k, c, e, z.sameBut hs (cne y c e)⟩
    · obtain ⟨w', z⟩ := I.cell y c e
      exact ⟨w', z.sameBut hs (cne y c e)⟩
    · obtain ⟨e, n, ne, nf, d⟩ := I.pin p hp
      exact ⟨(hs.2 p.1 ne).trans e, n, ne, nf, d⟩
  · have hfn : X.fn x = true := by
      rcases hf with z | z
      · exact z
      · rw [z] at hk; cases hk
    obtain ⟨c, hc⟩ := I.ok.has x (.inl hk)
    obtain ⟨w', z⟩ := I.cell x c hc
    refine wpAny_storeName_cell I.ok.kind hk hc z (fun h' hc' hs => ?_)
    obtain ⟨oc, hoc, hocd⟩ := id z
    refine h { s with heap := h' } ⟨I.ok, I.os, I.bare, ⟨fun b o e n hb hx => ?_, fun b o e n hb hx => ?_, I.base.free, fun b o e hx => ?_, I.base.tups, I.base.frzs, I.base.tbls⟩, ⟨m, hn.sameBut hs (Ne.symm (cne x c hc)), fun j y v' e1 e2 e3 => ?_⟩, fun y c' e => ?_, I.free, I.freeC, fun p hp => ?_, tracked ⟨oc, hoc, I.freeC x c hc⟩ hs, by simpa using I.len⟩ ⟨c, hs, .inr hc⟩
    · exact (hs.2 b (Nat.ne_of_lt (Nat.lt_of_lt_of_le (Heap.lt_size e) (I.ok.cab x c hfn hc)))).trans (I.base.keep b o e n hb hx)
    · obtain ⟨sl, e1⟩ := I.base.slot b o e n hb hx
      exact ⟨sl, (hs.2 b (Nat.ne_of_lt (Nat.lt_of_lt_of_le (Heap.lt_size e) (I.ok.cab x c hfn hc)))).trans e1⟩
    · obtain ⟨o', e1⟩ := I.base.there b o e hx
      exact ⟨o', (hs.2 b (Nat.ne_of_lt (Nat.lt_of_lt_of_le (Heap.lt_size e) (I.ok.cab x c hfn hc)))).trans e1⟩
    · by_cases hj : j = i
      · subst hj
        rw [hi] at e1; cases e1
        rw [List.getElem?_set_self hiσ] at e2
        cases e2
        exact ⟨u, r, .inr ⟨.inl hk, c, hc, hc'⟩⟩
      · rw [List.getElem?_set_ne (Ne.symm hj)] at e2
        obtain ⟨u', r', q⟩ := hl j y v' e1 e2 e3
        refine ⟨u', r', ?_⟩
        rcases q with q | ⟨k, c', e, z'⟩
        · exact .inl q
        · refine .inr ⟨k, c', e, z'.sameBut hs ?_⟩
          rintro rfl
          exact hj (nodup_ix hN e1 (I.ok.inj _ _ _ e hc ▸ hi))
    · by_cases hcc : c' = c
      · subst hcc; exact ⟨_, hc'⟩
      · obtain ⟨w2, z2⟩ := I.cell y c' e
        exact ⟨w2, z2.sameBut hs hcc⟩
    · obtain ⟨e, n, ne, nf, d⟩ := I.pin p hp
      refine ⟨(hs.2 p.1 ?_).trans e, n, ne, nf, d⟩
      intro q
      rw [q, hoc] at e
      have q' : oc = p.2 := Option.some.inj e
      exact d w' (by rw [← q']; exact hocd)
theorem store_ok {M : Model} {A : Around} {E : Value → Shared → Prop} {i : Nat} {x : Str} {v : V} {u : Value} {Q : Unit → Shared → Prop} (I : Inv X pins σ H s) (hN : X.N.Nodup) (hi : X.N[i]? = some x) (hx : Loc X.env.scope x) (r : RelV v u)
    (h : ∀ s', Inv X pins (σ.set i (some v)) H s' → Q () s') (hf : X.fn x = true ∨ X.env.scope.names.lookup x = some .local := by first | exact .inl rfl | exact .inr rfl | assumption) : wpAny M A (storeName X.env x u) Q E s :=
  store_ok2 I hN hi hx r (fun s' I' _ => h s' I') hf
theorem Inv.call' {s' : Shared} {ch : List Addr} (I : Inv X pins σ H s) (ho : s'.os = s.os) (u : Un (frs X.stack) ch H H' s.heap s'.heap) (hok : HOk X.prog X.w H' s'.heap) (hg : AllBare s'.gens)
    (hch : ∀ b ∈ ch, (b ∈ X.ex ∨ X.s₀.heap.objs.size ≤ b) ∧ b ≠ X.env.locals ∧ (∀ x c, X.env.cells.lookup x = some c → c ≠ b) ∧ ∀ p ∈ X.pn ++ pins, p.1 ≠ b) : Inv X pins σ H' s' := by
  obtain ⟨h', g', d', t', o'⟩ := s'
  have e : o' = s.os := ho
  subst e
  exact I.call (g' := g') (t' := t') (d' := d') u hok hg hch
end

abbrev XK := Value → Option Addr → Hp → Prop
abbrev St := List (Option V)
abbrev VK := V → Hp → Prop
abbrev TE := St → Hp → VK → Prop
abbrev TT := St → Hp → (Bool → Hp → Prop) → Prop
abbrev TA := St → Hp → (List V → Hp → Prop) → Prop
structure Ends where
  nx : St → Hp → Prop
  rt : VK
  bk : St → Hp → Prop := fun _ _ => False
  ct : St → Hp → Prop := fun _ _ => False
abbrev TS := Ends → St → Hp → Prop

def EP (X : Cx) (pins : List (Addr × Obj)) (σ : St) (Q : VK) (u : Value) (s' : Shared) : Prop := ∃ v H', Inv X pins σ H' s' ∧ RelV v u ∧ Q v H'
def TP (X : Cx) (pins : List (Addr × Obj)) (σ : St) (Q : Bool → Hp → Prop) (b : Bool) (s' : Shared) : Prop := ∃ H', Inv X pins σ H' s' ∧ Q b H'
def AP (X : Cx) (pins : List (Addr × Obj)) (σ : St) (Q : List V → Hp → Prop) (us : List Value) (s' : Shared) : Prop := ∃ vs H', Inv X pins σ H' s' ∧ Vals vs us ∧ Q vs H'
def SP (X : Cx) (pins : List (Addr × Obj)) (D : Ends) (f : Flow) (s' : Shared) : Prop :=
  match f with
  | .next => ∃ σ' H', Inv X pins σ' H' s' ∧ D.nx σ' H'
  | .brk => ∃ σ' H', Inv X pins σ' H' s' ∧ D.bk σ' H'
  | .cont => ∃ σ' H', Inv X pins σ' H' s' ∧ D.ct σ' H'
  | .ret u => ∃ v σ' H', Inv X pins σ' H' s' ∧ RelV v u ∧ D.rt v H'

def PE (X : Cx) (e : Expr) (t : TE) : Prop :=
  ∀ (pins : List (Addr × Obj)) (s : Shared) (σ : St) (H : Hp) (Q : VK), Inv X pins σ H s → t σ H Q → wpAny (model X.prog X.w) X.A (eval e X.env) (EP X pins σ Q) X.xe s
def PT (X : Cx) (e : Expr) (t : TT) : Prop :=
  ∀ (pins : List (Addr × Obj)) (s : Shared) (σ : St) (H : Hp) (Q : Bool → Hp → Prop), Inv X pins σ H s → t σ H Q → wpAny (model X.prog X.w) X.A (isTrue e X.env (eval e X.env)) (TP X pins σ Q) X.xe s
def PW (X : Cx) (e : Expr) (t : TT) : Prop :=
  ∀ (whole : Sem Value) (pins : List (Addr × Obj)) (s : Shared) (σ : St) (H : Hp) (Q : Bool → Hp → Prop), Inv X pins σ H s → t σ H Q → wpAny (model X.prog X.w) X.A (isTrue e X.env whole) (TP X pins σ Q) X.xe s
theorem PW.pt {X : Cx} {e : Expr} {t : TT} (h : PW X e t) : PT X e t := h _
def PA (X : Cx) (es : List Expr) (t : TA) : Prop :=
  ∀ (pos : Pos) (pins : List (Addr × Obj)) (s : Shared) (σ : St) (H : Hp) (Q : List V → Hp → Prop), Inv X pins σ H s → t σ H Q → wpAny (model X.prog X.w) X.A (spliced (backTo pos (starEach es X.env))) (AP X pins σ Q) X.xe s
def PS (X : Cx) (st : Stmt) (t : TS) : Prop :=
  ∀ (pins : List (Addr × Obj)) (s : Shared) (σ : St) (H : Hp) (D : Ends), Inv X pins σ H s → t D σ H → wpAny (model X.prog X.w) X.A (exec st X.env) (SP X pins D) X.xe s
def PSs (X : Cx) (st : List Stmt) (t : TS) : Prop :=
  ∀ (pins : List (Addr × Obj)) (s : Shared) (σ : St) (H : Hp) (D : Ends), Inv X pins σ H s → t D σ H → wpAny (model X.prog X.w) X.A (execs st X.env) (SP X pins D) X.xe s
theorem thn {α : Type} {t : Sem α} {Q Q' : α → Shared → Prop} {M : Model} {A : Around} {E : Value → Shared → Prop} {s : Shared} (h : wpAny M A t Q E s) (hQ : ∀ a s, Q a s → Q' a s) : wpAny M A t Q' E s := wpAny_mono h hQ fun _ _ x => x
end L2

namespace L2
open PySem PySem.Spec PyProof.Rows
section
variable {X : Cx}

def tVar (i : Nat) : TE := fun σ H Q => ∃ v, σ[i]? = some (some v) ∧ Q v H
def tC (v : V) : TE := fun _ H Q => Q v H
theorem pe_var {i : Nat} {x : Str} {pos : Pos} (hN : X.N[i]? = some x) (hv : Vis X.env.scope x) (hd : (x == ("__debug__" : Str)) = false := by decide) (hcd : (x == ("__classdict__" : Str)) = false := by decide) : PE X (.Name x pos) (tVar i) := by
  intro pins s σ H Q I h
  obtain ⟨v, e, h⟩ := h
  obtain ⟨m, hn, hl⟩ := I.loc
  obtain ⟨u, r, l⟩ := hl i x v hN e hv
  have fin : EP X pins σ Q u s := ⟨v, H, I, r, h⟩
  rcases l with ⟨hk, hm⟩ | ⟨hk, c, hc, hcell⟩
  · exact wpAny_Name (wpAny_loadName_local I.ok.kind hk hn hm fin) hd
  · rcases hk with hk | hk
    · exact wpAny_Name (wpAny_loadName_cell I.ok.kind hk hc hcell fin) hd
    · exact wpAny_Name (wpAny_loadName_free I.ok.kind hk hc hcell fin hcd) hd
theorem pe_int {i j pos} : PE X (.Constant (.int i) j pos) (tC (.int i)) := fun _ _ _ H _ I h => wpAny_Constant_int ⟨.int i, H, I.tok _, ⟨_, rfl⟩, h⟩
theorem pe_bl {b j pos} : PE X (.Constant (.bool b) j pos) (tC (.bl b)) := fun _ _ _ H _ I h => Constant_bool ⟨.bl b, H, I, rfl, h⟩
theorem pe_non {j pos} : PE X (.Constant .none j pos) (tC .non) := fun _ _ _ H _ I h => Constant_none ⟨.non, H, I, rfl, h⟩
theorem pe_str {x j pos} : PE X (.Constant (.str x) j pos) (tC (.str x)) := fun _ _ _ H _ I h => Calls.Constant_str ⟨.str x, H, I.tok _, ⟨_, rfl⟩, h⟩

def Gl (X : Cx) (x : Str) : Prop := X.env.kindOf x = some .globalImplicit
theorem ld_glob {E : Value → Shared → Prop} {pins : List (Addr × Obj)} {s : Shared} {σ : St} {H : Hp} {x : Str} {u : Value} {pos : Pos} {Q : Value → Shared → Prop} (I : Inv X pins σ H s) (hg : Gl X x) (hm : X.mg x = some u) (h : Q u s)
    (hd : (x == ("__debug__" : Str)) = false := by decide) : wpAny (model X.prog X.w) X.A (eval (.Name x pos) X.env) Q E s :=
  Calls.Name_function_global I.ok.kind hg (Calls.loadGlobal_global (by rw [I.ok.glob]; exact I.mod.glob.keeps I.bk) hm h) hd
theorem ld_blt {E : Value → Shared → Prop} {pins : List (Addr × Obj)} {s : Shared} {σ : St} {H : Hp} {x : Str} {u : Value} {pos : Pos} {Q : Value → Shared → Prop} (I : Inv X pins σ H s) (hg : Gl X x) (hm : X.mg x = none) (hv : bootBuiltins x = some u) (h : Q u s)
    (hn : x ≠ "__name__" := by decide) (hd : (x == ("__debug__" : Str)) = false := by decide) : wpAny (model X.prog X.w) X.A (eval (.Name x pos) X.env) Q E s := by
  obtain ⟨mb, h1, h2⟩ := I.mod.blt
  exact Calls.Name_function_global I.ok.kind hg (Calls.loadGlobal_builtin (by rw [I.ok.glob]; exact I.mod.glob.keeps I.bk) hm (by rw [I.ok.blt]; exact h1.keeps I.bk) ((h2 x hn).trans hv) h) hd
theorem pe_glob {x : Str} {v : V} {u : Value} {pos : Pos} (hg : Gl X x) (hm : X.mg x = some u) (r : RelV v u) (hd : (x == ("__debug__" : Str)) = false := by decide) : PE X (.Name x pos) (tC v) :=
  fun _ _ _ H _ I h => ld_glob I hg hm ⟨v, H, I, r, h⟩ hd
theorem pe_bltn {x : Str} {v : V} {u : Value} {pos : Pos} (hg : Gl X x) (hm : X.mg x = none) (hv : bootBuiltins x = some u) (r : RelV v u) (hn : x ≠ "__name__" := by decide) (hd : (x == ("__debug__" : Str)) = false := by decide) : PE X (.Name x pos) (tC v) :=
  fun _ _ _ H _ I h => ld_blt I hg hm hv ⟨v, H, I, r, h⟩ hn hd

def t2I (ta tb : TE) (k : Int → Int → Hp → Prop) : St → Hp → Prop := fun σ H => ta σ H fun x H1 => tb σ H1 fun y H2 => ∃ i j, x = .int i ∧ y = .int j ∧ k i j H2
variable {a b : Expr} {ta tb : TE} {pos : Pos}
def PC (X : Cx) (op : CmpOp) (a b : Expr) (t : TE) : Prop :=
  ∀ (pins : List (Addr × Obj)) (s : Shared) (σ : St) (H : Hp) (Q : VK), Inv X pins σ H s → t σ H Q →
    wpAny (model X.prog X.w) X.A (eval a X.env) (fun v s₁ => wpAny (model X.prog X.w) X.A (eval b X.env) (fun u s₂ => wpAny (model X.prog X.w) X.A (compareOp op v u) (EP X pins σ Q) X.xe s₂) X.xe s₁) X.xe s
theorem nobehind (b : Expr) {op : CmpOp} (h : op ≠ .In) (h2 : op ≠ .NotIn) : behindInMarks op b = false := by
  have e1 : (op == CmpOp.In) = false := by cases op <;> first | rfl | exact absurd rfl h
  have e2 : (op == CmpOp.NotIn) = false := by cases op <;> first | rfl | exact absurd rfl h2
  cases b <;> simp [behindInMarks, e1, e2]
def tCmp (p : Int → Int → Bool) (ta tb : TE) : TE := fun σ H Q => t2I ta tb (fun i j H2 => Q (.bl (p i j)) H2) σ H
abbrev tLt : TE → TE → TE := tCmp fun i j => decide (i < j)
abbrev tLe : TE → TE → TE := tCmp fun i j => decide (i ≤ j)
abbrev tGt : TE → TE → TE := tCmp fun i j => decide (j < i)
abbrev tGe : TE → TE → TE := tCmp fun i j => decide (j ≤ i)
abbrev tEqI : TE → TE → TE := tCmp fun i j => decide (i = j)
abbrev tNeI : TE → TE → TE := tCmp fun i j => !decide (i = j)
def tIsN (ta : TE) : TE := fun σ H Q => ta σ H fun x H1 => Q (.bl (decide (x = .non))) H1
def tNotN (ta : TE) : TE := fun σ H Q => ta σ H fun x H1 => Q (.bl (!decide (x = .non))) H1
theorem RelV.none_iff {x : V} {v : Value} (r : RelV x v) : (v == Value.none) = decide (x = .non) := by
  cases x with
  | non => cases r; rfl
  | bl _ => cases r; rfl
  | int _ => obtain ⟨t, rfl⟩ := r; rfl
  | str _ => obtain ⟨t, rfl⟩ := r; rfl
  | byt _ => obtain ⟨t, rfl⟩ := r; rfl
  | flt _ => obtain ⟨t, rfl⟩ := r; rfl
  | ref _ => cases r; rfl
  | ty _ => cases r; rfl
theorem pc_isN {j pos'} (ha : PE X a ta) : PC X .Is a (.Constant .none j pos') (tIsN ta) := by
  intro pins s σ H Q I h
  refine thn (ha pins s σ H _ I h) fun v s1 ⟨x, H1, I1, r1, q1⟩ => ?_
  exact Constant_none (is_none_gen ⟨.bl _, H1, I1, by rw [r1.none_iff]; rfl, q1⟩)
theorem pc_notN {j pos'} (ha : PE X a ta) : PC X .IsNot a (.Constant .none j pos') (tNotN ta) := by
  intro pins s σ H Q I h
  refine thn (ha pins s σ H _ I h) fun v s1 ⟨x, H1, I1, r1, q1⟩ => ?_
  exact Constant_none (isnot_none_gen ⟨.bl _, H1, I1, by rw [r1.none_iff]; rfl, q1⟩)
def tB (t : TE) : TT := fun σ H Q => t σ H fun x H1 => ∃ c, x = .bl c ∧ Q c H1
theorem pe_cmp {op : CmpOp} {t : TE} (h : PC X op a b t) (h1 : behindInMarks op b = false := by first | exact nobehind _ (by decide) (by decide) | rfl) : PE X (.Compare a [op] [b] pos) t := fun pins s σ H Q I hw => wpAny_Compare1 (h pins s σ H Q I hw) h1
theorem pt_cmp {op : CmpOp} {t : TE} (h : PC X op a b t) (h1 : behindInMarks op b = false := by first | exact nobehind _ (by decide) (by decide) | rfl) : PT X (.Compare a [op] [b] pos) (tB t) := by
  intro pins s σ H Q I hw
  refine wpAny_isTrue_Compare1 (thn (h pins s σ H _ I hw) fun v s1 h1 => thn h1 fun u s2 h2 => thn h2 fun c s3 ⟨x, H1, I1, r1, q1⟩ => ?_) h1
  obtain ⟨d, rfl, q⟩ := q1
  cases r1
  exact wpAny_truthy_bool ⟨H1, I1, q⟩
theorem pt_val {e : Expr} {t : TE} (h : PE X e t) (he : ∀ whole, isTrue e X.env whole = (do let v ← whole; standAt e.pos; holding [v] (truthy v)) := by intro _; rfl) : PT X e (tB t) := by
  intro pins s σ H Q I hw
  refine isTrue_plain (thn (h pins s σ H _ I hw) fun v s1 ⟨x, H1, I1, r1, q1⟩ => ?_) (he _)
  obtain ⟨d, rfl, q⟩ := q1
  cases r1
  exact wpAny_truthy_bool ⟨H1, I1, q⟩

variable {tA tB' : TT} {rest : List Expr}
def tAnd (t u : TT) : TT := fun σ H Q => t σ H fun c H1 => if c = true then u σ H1 Q else Q false H1
def tOr (t u : TT) : TT := fun σ H Q => t σ H fun c H1 => if c = true then Q true H1 else u σ H1 Q
def tNot (t : TT) : TT := fun σ H Q => t σ H fun c H1 => Q (!c) H1
theorem pw_and1 (ha : PT X a tA) : PW X (.BoolOp .And [a] pos) tA := by
  intro wh pins s σ H Q I h
  refine isTrue_and (thn (ha pins s σ H Q I h) fun c s1 e => ?_)
  cases c with
  | true => exact isTrue_and_nil e
  | false => exact e
theorem pw_or1 (ha : PT X a tA) : PW X (.BoolOp .Or [a] pos) tA := by
  intro wh pins s σ H Q I h
  refine isTrue_or (thn (ha pins s σ H Q I h) fun c s1 e => ?_)
  cases c with
  | false => exact isTrue_or_nil e
  | true => exact e
theorem pw_and (ha : PT X a tA) (hb : PW X (.BoolOp .And (b :: rest) pos) tB') : PW X (.BoolOp .And (a :: b :: rest) pos) (tAnd tA tB') := by
  intro wh pins s σ H Q I h
  refine isTrue_and (thn (ha pins s σ H _ I h) fun c s1 ⟨H1, I1, q1⟩ => ?_)
  cases c with
  | true => exact hb wh pins s1 σ H1 Q I1 q1
  | false => exact ⟨H1, I1, q1⟩
theorem pw_or (ha : PT X a tA) (hb : PW X (.BoolOp .Or (b :: rest) pos) tB') : PW X (.BoolOp .Or (a :: b :: rest) pos) (tOr tA tB') := by
  intro wh pins s σ H Q I h
  refine isTrue_or (thn (ha pins s σ H _ I h) fun c s1 ⟨H1, I1, q1⟩ => ?_)
  cases c with
  | true => exact ⟨H1, I1, q1⟩
  | false => exact hb wh pins s1 σ H1 Q I1 q1
theorem pt_not (ha : PT X a tA) : PT X (.UnaryOp .Not a pos) (tNot tA) := by
  intro pins s σ H Q I h
  exact isTrue_not (ha pins s σ H (fun c H1 => Q (!c) H1) I h)
def tAndV (ta tb : TE) : TE := fun σ H Q => ta σ H fun x H1 => ∃ c, x = .bl c ∧ if c = true then tb σ H1 Q else Q (.bl false) H1
def tNotV (ta : TE) : TE := fun σ H Q => ta σ H fun x H1 => ∃ c, x = .bl c ∧ Q (.bl (!c)) H1
theorem pe_one {op} {t : TE} (h : PE X a t) : PE X (.BoolOp op [a] pos) t := fun pins s σ H Q I hw => BoolOp_one (h pins s σ H Q I hw)
theorem pe_and (ha : PE X a ta) (hb : PE X (.BoolOp .And (b :: rest) pos) tb) : PE X (.BoolOp .And (a :: b :: rest) pos) (tAndV ta tb) := by
  intro pins s σ H Q I h
  refine BoolOp_and (thn (ha pins s σ H _ I h) fun v s1 ⟨x, H1, I1, r1, q1⟩ => ?_)
  obtain ⟨c, rfl, q1⟩ := q1
  cases r1
  refine wpAny_truthy_bool ?_
  cases c with
  | true => exact hb pins s1 σ H1 Q I1 q1
  | false => exact ⟨.bl false, H1, I1, rfl, q1⟩
theorem pe_not (ha : PE X a ta) : PE X (.UnaryOp .Not a pos) (tNotV ta) := by
  intro pins s σ H Q I h
  refine UnaryOp_ (thn (ha pins s σ H _ I h) fun v s1 ⟨x, H1, I1, r1, q1⟩ => ?_)
  obtain ⟨c, rfl, q1⟩ := q1
  cases r1
  exact not_of (wpAny_truthy_bool ⟨.bl (!c), H1, I1, rfl, q1⟩)
def tIf (t : TT) (ta tb : TE) : TE := fun σ H Q => t σ H fun c H1 => if c = true then ta σ H1 Q else tb σ H1 Q
theorem pe_ifExp {c : Expr} (hc : PT X c tA) (ha : PE X a ta) (hb : PE X b tb) : PE X (.IfExp c a b pos) (tIf tA ta tb) := by
  intro pins s σ H Q I h
  refine wpAny_IfExp (thn (hc pins s σ H _ I h) fun d s1 ⟨H1, I1, q1⟩ => ?_)
  cases d with
  | true => exact ha pins s1 σ H1 Q I1 q1
  | false => exact hb pins s1 σ H1 Q I1 q1
end
end L2

namespace L2
open PySem PySem.Spec PyProof.Rows

def SqL (K : PySem.W.Frag) (H : Hp) (a : Addr) (xs : List V) : Prop :=
  Rd H a (.lst xs) ∨
    ∃ (o : Obj) (its : Array Value) (n : Nat), K.lookup a = some o ∧ o.cls = .type "list" ∧ o.dict = none ∧ o.data = .seq its n ∧ its.size ≤ sizeLine ∧ Vals xs its.toList
def SqT (K : PySem.W.Frag) (H : Hp) (a : Addr) (xs : List V) : Prop :=
  Rd H a (.tup xs) ∨
    ∃ (o : Obj) (its : Array Value) (n : Nat), K.lookup a = some o ∧ o.cls = .type "tuple" ∧ o.data = .seq its n ∧ its.size ≤ sizeLine ∧ Vals xs its.toList
def absV : Value → Option V
  | .none => some .non
  | .bool b => some (.bl b)
  | .int i _ => some (.int i)
  | .str x _ => some (.str x)
  | .bytes b _ => some (.byt b)
  | .float b _ => some (.flt b)
  | .ref a => some (.ref a)
  | .type n => some (.ty n)
  | _ => none
theorem RelV.abs {x : V} {u : Value} (r : RelV x u) : absV u = some x := by
  cases x with
  | non => cases r; rfl
  | bl _ => cases r; rfl
  | int _ => obtain ⟨t, rfl⟩ := r; rfl
  | str _ => obtain ⟨t, rfl⟩ := r; rfl
  | byt _ => obtain ⟨t, rfl⟩ := r; rfl
  | flt _ => obtain ⟨t, rfl⟩ := r; rfl
  | ref _ => cases r; rfl
  | ty _ => cases r; rfl
theorem RelV.inj {x y : V} {u : Value} (r : RelV x u) (q : RelV y u) : x = y := Option.some.inj (r.abs.symm.trans q.abs)
theorem Vals.inj : ∀ {xs ys : List V} {us : List Value}, Vals xs us → Vals ys us → xs = ys
  | _, _, _, .nil, .nil => rfl
  | _, _, _, .cons r t, .cons r' t' => by rw [r.inj r', Vals.inj t t']
section
variable {X : Cx} {pins : List (Addr × Obj)} {σ : St} {H : Hp} {s : Shared} {a : Addr} {xs ys : List V}
theorem SqL.of {K : PySem.W.Frag} (h : H a = some (.lst xs)) : SqL K H a xs := .inl (.inl h)
theorem SqT.of {K : PySem.W.Frag} (h : H a = some (.tup xs)) : SqT K H a xs := .inl (.inl h)
theorem Inv.list (I : Inv X pins σ H s) (h : SqL X.K H a xs) : ∃ its : List Value, Vals xs its ∧ PlainL s.heap a its.toArray ∧ xs.length ≤ sizeLine := by
  rcases h with h | ⟨o, its, n, hk, hc, hd, hs, hz, r⟩
  · obtain ⟨z, its, n, r, e⟩ := h.ok I.hok
    exact ⟨its, r, ⟨_, n, e, rfl, rfl, rfl⟩, z⟩
  · refine ⟨its.toList, r, ⟨o, n, I.kIn a o hk, hc, hd, by simpa using hs⟩, ?_⟩
    have e := r.length
    simp only [Array.length_toList] at e
    omega
theorem Inv.tuple (I : Inv X pins σ H s) (h : SqT X.K H a xs) : ∃ its : List Value, Vals xs its ∧ IsTup s.heap a its.toArray ∧ xs.length ≤ sizeLine := by
  rcases h with h | ⟨o, its, n, hk, hc, hs, hz, r⟩
  · obtain ⟨z, its, r, p⟩ := h.ok I.hok
    exact ⟨its, r, p, z⟩
  · refine ⟨its.toList, r, ⟨o, I.kIn a o hk, hc, n, by simpa using hs⟩, ?_⟩
    have e := r.length
    simp only [Array.length_toList] at e
    omega
theorem Inv.list_inj (I : Inv X pins σ H s) (h : SqL X.K H a xs) (h' : SqL X.K H a ys) : xs = ys := by
  obtain ⟨its, r, ⟨o, n, e, _, _, d⟩, _⟩ := I.list h
  obtain ⟨its', r', ⟨o', n', e', _, _, d'⟩, _⟩ := I.list h'
  rw [e] at e'; cases e'
  rw [d] at d'
  injection d' with d1 _
  have : its = its' := by simpa using congrArg Array.toList d1
  subst this
  exact r.inj r'
end

abbrev Cx.wish (X : Cx) (E : Value → Shared → Prop) : Cx := { X with xe := E }
abbrev Cx.nox (X : Cx) : Cx := X.wish fun _ _ => False
theorem Cx.Ok.wish {X : Cx} (ok : X.Ok) (E : Value → Shared → Prop) : (X.wish E).Ok :=
  ⟨ok.mod, ok.kind, ok.glob, ok.blt, ok.above, ok.inj, ok.has, ok.cab, ok.hd, ok.frames, ok.stk, ok.exf, ok.bs, ok.bsz, ok.noex, ok.exfs, ok.funs, ok.frf⟩
theorem Cx.Ok.unwish {X : Cx} {E : Value → Shared → Prop} (ok : (X.wish E).Ok) : X.Ok :=
  ⟨ok.mod, ok.kind, ok.glob, ok.blt, ok.above, ok.inj, ok.has, ok.cab, ok.hd, ok.frames, ok.stk, ok.exf, ok.bs, ok.bsz, ok.noex, ok.exfs, ok.funs, ok.frf⟩
section
variable {X : Cx} {pins : List (Addr × Obj)} {σ : St} {H : Hp} {s : Shared} {E : Value → Shared → Prop}
theorem Inv.wish (I : Inv X pins σ H s) (E : Value → Shared → Prop) : Inv (X.wish E) pins σ H s := ⟨I.ok.wish E, I.os, I.bare, I.base, I.loc, I.cell, I.free, I.freeC, I.pin, I.hok, I.len⟩
theorem Inv.unwish (I : Inv (X.wish E) pins σ H s) : Inv X pins σ H s := ⟨I.ok.unwish, I.os, I.bare, I.base, I.loc, I.cell, I.free, I.freeC, I.pin, I.hok, I.len⟩
theorem SP.unwish {D : Ends} {f : Flow} {s' : Shared} (h : SP (X.wish E) pins D f s') : SP X pins D f s' := by
  cases f with
  | next => obtain ⟨σ', H', I, q⟩ := h; exact ⟨σ', H', I.unwish, q⟩
  | brk => obtain ⟨σ', H', I, q⟩ := h; exact ⟨σ', H', I.unwish, q⟩
  | cont => obtain ⟨σ', H', I, q⟩ := h; exact ⟨σ', H', I.unwish, q⟩
  | ret u => obtain ⟨v, σ', H', I, r, q⟩ := h; exact ⟨v, σ', H', I.unwish, r, q⟩
theorem PE.nox {e : Expr} {t : TE} (h : PE X.nox e t) : PE X e t := fun pins s σ H Q I hw =>
  wpAny_mono (h pins s σ H Q (I.wish _) hw) (fun _ _ ⟨v, H', I', r, q⟩ => ⟨v, H', I'.unwish, r, q⟩) fun _ _ z => False.elim z
theorem PT.nox {e : Expr} {t : TT} (h : PT X.nox e t) : PT X e t := fun pins s σ H Q I hw =>
  wpAny_mono (h pins s σ H Q (I.wish _) hw) (fun _ _ ⟨H', I', q⟩ => ⟨H', I'.unwish, q⟩) fun _ _ z => False.elim z
theorem PSs.nox {st : List Stmt} {t : TS} (h : PSs X.nox st t) : PSs X st t := fun pins s σ H D I hw =>
  wpAny_mono (h pins s σ H D (I.wish _) hw) (fun _ _ q => q.unwish) fun _ _ z => False.elim z
end

section
variable {X : Cx} {st : Stmt} {rest : List Stmt} {t u : TS} {e : Expr} {te : TE} {pos : Pos}
def tNext : TS := fun D σ H => D.nx σ H
def tSeq (t u : TS) : TS := fun D σ H => t { D with nx := u D } σ H
theorem pss_nil : PSs X [] tNext := fun _ _ σ H _ I h => wpAny_execs_nil ⟨σ, H, I, h⟩
theorem pss_cons (h1 : PS X st t) (h2 : PSs X rest u) : PSs X (st :: rest) (tSeq t u) := by
  intro pins s σ H D I h
  refine wpAny_execs_cons (thn (h1 pins s σ H { D with nx := u D } I h) fun f s1 q => ?_)
  cases f with
  | next =>
    obtain ⟨σ', H', I', q⟩ := q
    exact h2 pins s1 σ' H' D I' q
  | ret v => exact q
  | brk => exact q
  | cont => exact q
theorem pss_one (h1 : PS X st t) : PSs X [st] t := by
  intro pins s σ H D I h
  refine wpAny_execs_cons (thn (h1 pins s σ H D I h) fun f s1 q => ?_)
  cases f with
  | next => exact wpAny_execs_nil q
  | ret v => exact q
  | brk => exact q
  | cont => exact q
def tCont : TS := fun D σ H => D.ct σ H
theorem ps_continue : PS X (.Continue pos) tCont := fun _ _ σ H _ I h => wpAny_Continue ⟨σ, H, I, h⟩
theorem Inv.quiet {pins : List (Addr × Obj)} {σ : St} {H : Hp} {s : Shared} (I : Inv X pins σ H s) : interactive X.env = false := by simp [interactive, I.ok.kind]
def tDrop (te : TE) : TS := fun D σ H => te σ H fun _ H1 => D.nx σ H1
theorem ps_expr (he : PE X e te) (hs : swapsWith e none pos.line X.env = pure false := by rfl) : PS X (.Expr e pos) (tDrop te) := by
  intro pins s σ H D I h
  exact wpAny_Expr_any (thn (he pins s σ H _ I h) fun v s1 ⟨x, H1, I1, r1, q1⟩ => ⟨σ, H1, I1, q1⟩) I.quiet hs
def tRet (te : TE) : TS := fun D σ H => te σ H D.rt
theorem ps_ret (he : PE X e te) : PS X (.Return (some e) pos) (tRet te) := by
  intro pins s σ H D I h
  exact wpAny_Return_some (thn (he pins s σ H _ I h) fun v s1 ⟨x, H1, I1, r1, q1⟩ => ⟨x, σ, H1, I1, r1, q1⟩)
def tIfS (c : TT) (t u : TS) : TS := fun D σ H => c σ H fun b H1 => if b = true then t D σ H1 else u D σ H1
theorem ps_if {c : Expr} {a b : List Stmt} {tc : TT} (hc : PT X c tc) (ha : PSs X a t) (hb : PSs X b u) : PS X (.If c a b pos) (tIfS tc t u) := by
  intro pins s σ H D I h
  refine wpAny_If (thn (hc pins s σ H _ I h) fun d s1 ⟨H1, I1, q1⟩ => ?_)
  cases d with
  | true => exact ha pins s1 σ H1 D I1 q1
  | false => exact hb pins s1 σ H1 D I1 q1
def tNever : TS := fun _ _ _ => False
theorem ps_never : PS X st tNever := fun _ _ _ _ _ _ h => h.elim
end

abbrev TG := V → St → Hp → (St → Hp → Prop) → Prop
abbrev TGs := List V → St → Hp → (St → Hp → Prop) → Prop
def PG (X : Cx) (target : Expr) (t : TG) : Prop :=
  ∀ (pins : List (Addr × Obj)) (s : Shared) (σ : St) (H : Hp) (v : V) (u : Value) (Q : St → Hp → Prop), Inv X pins σ H s → RelV v u → t v σ H Q →
    wpAny (model X.prog X.w) X.A (assign target X.env u) (fun _ s' => ∃ σ' H', Inv X pins σ' H' s' ∧ Q σ' H') X.xe s
def PGs (X : Cx) (ts : List Expr) (t : TGs) : Prop :=
  ∀ (pins : List (Addr × Obj)) (s : Shared) (σ : St) (H : Hp) (vs : List V) (us : List Value) (Q : St → Hp → Prop), Inv X pins σ H s → Vals vs us → t vs σ H Q →
    wpAny (model X.prog X.w) X.A (assignInOrder ((assignEach ts X.env).map (·.2)) us) (fun _ s' => ∃ σ' H', Inv X pins σ' H' s' ∧ Q σ' H') X.xe s
abbrev TSet := V → V → V → Hp → (Hp → Prop) → Prop
abbrev TIp := V → V → Hp → VK → Prop
section
variable {X : Cx} {pos : Pos}
def gName (i : Nat) : TG := fun v σ H Q => Q (σ.set i (some v)) H
theorem pg_name {i : Nat} {x : Str} (hN : X.N.Nodup) (hi : X.N[i]? = some x) (hx : Loc X.env.scope x) (hf : X.fn x = true ∨ X.env.scope.names.lookup x = some .local := by first | exact .inl rfl | exact .inr rfl | assumption) : PG X (.Name x pos) (gName i) := by
  intro pins s σ H v u Q I r h
  exact wpAny_assign_Name (store_ok I hN hi hx r (fun s' I' => ⟨_, H, I', h⟩) hf)
def gNil : TGs := fun vs σ H Q => vs = [] ∧ Q σ H
def gCons (t : TG) (u : TGs) : TGs := fun vs σ H Q => ∃ v r, vs = v :: r ∧ t v σ H fun σ' H' => u r σ' H' Q
theorem pgs_nil : PGs X [] gNil := by
  intro pins s σ H vs us Q I r h
  obtain ⟨e, h⟩ := h
  subst e
  cases r
  exact assignInOrder_nil ⟨σ, H, I, h⟩
theorem pgs_cons {e : Expr} {es : List Expr} {t : TG} {u : TGs} (h1 : PG X e t) (h2 : PGs X es u)
    (hs : (assignEach (e :: es) X.env).map (·.2) = assign e X.env :: (assignEach es X.env).map (·.2) := by rfl) : PGs X (e :: es) (gCons t u) := by
  intro pins s σ H vs us Q I r h
  obtain ⟨v, vr, e1, h⟩ := h
  subst e1
  cases r with
  | cons r rr =>
    rw [hs]
    refine assignInOrder_cons (thn (h1 pins s σ H _ _ _ I r h) fun _ s1 ⟨σ1, H1, I1, q1⟩ => ?_)
    exact h2 pins s1 σ1 H1 _ _ Q I1 rr q1
def gTup (K : PySem.W.Frag) (n : Nat) (t : TGs) : TG := fun v σ H Q => ∃ a xs, v = .ref a ∧ SqT K H a xs ∧ xs.length = n ∧ t xs σ H Q
theorem pg_tup {es : List Expr} {k : Nat} {t : TGs} {n : Nat} (hc : X.calm = true) (h : PGs X es t)
    (hn : (assignEach es X.env).length = n := by rfl) (hst : (assignEach es X.env).findIdx? (·.1) = none := by rfl) : PG X (.Tuple es k pos) (gTup X.K n t) := by
  intro pins s σ H v u Q I r hw
  obtain ⟨a, xs, e1, hq, hl, hw⟩ := hw
  subst e1
  cases r
  obtain ⟨its, rv, ht, hz⟩ := I.tuple hq
  refine assign_Tuple_tuple (I.ok.hd hc) ht (by simp [hn, ← hl, rv.length]) hst fun h' hx => ?_
  have I1 : Inv X pins σ H { s with heap := h' } := I.kept (t' := s.toks) fun b o e => hx b o (Nat.ne_of_lt (Heap.lt_size e)) e
  exact h pins _ σ H xs _ Q I1 (by simpa using rv) hw
def tAsg (te : TE) (g : TG) : TS := fun D σ H => te σ H fun x H1 => g x σ H1 D.nx
theorem ps_asg {tg e : Expr} {te : TE} {g : TG} (he : PE X e te) (hg : PG X tg g) (hs : swapsWithSole [tg] e pos.line X.env = pure false := by rfl) (hw : swappedStores [tg] e X.env = pure none := by rfl)
    (h1 : (assignEach [tg] X.env).map (·.2) = [assign tg X.env] := by rfl) : PS X (.Assign [tg] e pos) (tAsg te g) := by
  intro pins s σ H D I h
  refine wpAny_Assign_stores (thn (he pins s σ H _ I h) fun v s1 ⟨x, H1, I1, r1, q1⟩ => ?_) hs hw
  rw [h1]
  exact thn (hg pins s1 σ H1 x v _ I1 r1 q1) fun _ s2 q => q
theorem ps_set {i : Nat} {x : Str} {e : Expr} {te : TE} {pos' : Pos} (hN : X.N.Nodup) (hi : X.N[i]? = some x) (hx : Loc X.env.scope x) (he : PE X e te) (hs : swapsWith e (some (.Name x pos')) pos.line X.env = pure false := by rfl) (hf : X.fn x = true ∨ X.env.scope.names.lookup x = some .local := by first | exact .inl rfl | exact .inr rfl | assumption) :
    PS X (.Assign [.Name x pos'] e pos) (tAsg te (gName i)) := by
  intro pins s σ H D I h
  refine wpAny_Assign_Name (thn (he pins s σ H _ I h) fun v s1 ⟨y, H1, I1, r1, q1⟩ => ?_) hs
  exact store_ok I1 hN hi hx r1 (fun s2 I2 => ⟨_, H1, I2, q1⟩) hf
end

section
variable {X : Cx} {pos : Pos}
end

structure It where
  go : Nat → Hp → Prop
  yld : Nat → Hp → V → Hp → Prop
  stop : Nat → Hp → Prop
def FpOk (X : Cx) (pins : List (Addr × Obj)) (H : Hp) (b : Addr) : Prop :=
  H b = none ∧ b ≠ X.env.locals ∧ b ∉ X.fs ∧ (b ∈ X.ex ∨ X.s₀.heap.objs.size ≤ b) ∧ (∀ x c, X.env.cells.lookup x = some c → c ≠ b) ∧ ∀ p ∈ X.pn ++ pins, p.1 ≠ b
theorem Inv.fpOk {X : Cx} {pins : List (Addr × Obj)} {σ : St} {H H' : Hp} {s : Shared} {b : Addr} (I : Inv X pins σ H s) (hb : s.heap.objs.size ≤ b) (hn : H' b = none) : FpOk X pins H' b := by
  refine ⟨hn, Nat.ne_of_gt (Nat.lt_of_lt_of_le I.lt hb), I.nofs hb, .inr (Nat.le_trans I.sz hb), fun x c e z => ?_, fun p hp z => ?_⟩
  · obtain ⟨v, q⟩ := I.cell x c e
    exact absurd (Nat.lt_of_lt_of_le q.lt (by rw [z]; exact hb)) (Nat.lt_irrefl _)
  · exact absurd (Nat.lt_of_lt_of_le (Heap.lt_size (I.pin p hp).1) (by rw [z]; exact hb)) (Nat.lt_irrefl _)
structure Turn (P : Program) (w : World) (K : PySem.W.Frag) (tg : Expr) (J : It) (fp : List Addr) (it : Addr) (tn : Nat → Heap → Prop) : Prop where
  mem : it ∈ fp
  obj : ∀ i h, tn i h → ∀ b ∈ fp, ∃ o, h.get? b = some o ∧ ∀ v, o.data ≠ .cell v
  keep : ∀ i h h', tn i h → (∀ b ∈ fp, ∀ o, h.get? b = some o → h'.get? b = some o) → tn i h'
  item : ∀ (X : Cx), X.prog = P → X.w = w → X.K = K → X.calm = true → ∀ (i : Nat) (pins : List (Addr × Obj)) (s : Shared) (σ : St) (H : Hp) (E : Value → Shared → Prop), Inv X pins σ H s → (∀ b ∈ fp, FpOk X pins H b) → tn i s.heap → J.go i H →
    wpAny (model P w) X.A (pyNext (.ref it)) (fun r s1 => ∃ u, r = some u ∧
      wpAny (model P w) X.A (letOwnedTupleGo tg (.ref it) u) (fun _ s2 => ∃ x H', Inv X pins σ H' s2 ∧ RelV x u ∧ J.yld i H x H' ∧ tn (i + 1) s2.heap ∧ ∀ b ∈ fp, H' b = none) E s1) E s
  done : ∀ (X : Cx), X.prog = P → X.w = w → X.K = K → X.calm = true → ∀ (i : Nat) (pins : List (Addr × Obj)) (s : Shared) (σ : St) (H : Hp) (E : Value → Shared → Prop), Inv X pins σ H s → (∀ b ∈ fp, FpOk X pins H b) → tn i s.heap → J.stop i H →
    wpAny (model P w) X.A (pyNext (.ref it)) (fun r s1 => r = none ∧ Inv X pins σ H s1) E s
  self : ∀ (A : Around) (i : Nat) (s : Shared) (Q : Value → Shared → Prop) (E : Value → Shared → Prop), tn i s.heap → Q (.ref it) s → wpAny (model P w) A (pyIter (.ref it)) Q E s
abbrev TI := St → Hp → (It → Hp → Prop) → Prop
def PIE (X : Cx) (pins : List (Addr × Obj)) (σ : St) (tg : Expr) (R : It → Hp → Prop) (itv : Value) (s2 : Shared) : Prop :=
  ∃ (it : Addr) (fp : List Addr) (tn : Nat → Heap → Prop) (J : It) (H' : Hp), itv = .ref it ∧ Inv X pins σ H' s2 ∧ Turn X.prog X.w X.K tg J fp it tn ∧ tn 0 s2.heap ∧ (∀ b ∈ fp, FpOk X pins H' b) ∧ R J H'
def PI (X : Cx) (tg iter : Expr) (wi : TI) : Prop :=
  ∀ (pins : List (Addr × Obj)) (s : Shared) (σ : St) (H : Hp) (R : It → Hp → Prop), Inv X pins σ H s → wi σ H R →
    wpAny (model X.prog X.w) X.A (eval iter X.env) (fun v s1 => wpAny (model X.prog X.w) X.A (pyIter v) (PIE X pins σ tg R) X.xe s1) X.xe s

theorem go_of {M : Model} {A : Around} {E : Value → Shared → Prop} {s : Shared} {tg : Expr} {it : Addr} {u : Value} {o : Obj} {n : String} {vs : Array Value} {Q : Unit → Shared → Prop} (ho : s.heap.get? it = some o) (hc : o.cls = .type n) (hd : o.data = .fields vs)
    (hn : ["enumerate", "zip", "dict_itemiterator", "dict_reverseitemiterator", "odict_iterator", "itertools.zip_longest", "itertools.pairwise"].contains n = false) (hQ : Q () s) : wpAny M A (letOwnedTupleGo tg (.ref it) u) Q E s := by
  unfold letOwnedTupleGo
  cases tg <;> first
    | exact wpAny_pure hQ
    | (cases u <;> first
        | exact wpAny_pure hQ
        | (refine wpAny_bind (wpAny_load ho ?_)
           rw [hc, hd]
           show wpAny M A (if (["enumerate", "zip", "dict_itemiterator", "dict_reverseitemiterator", "odict_iterator", "itertools.zip_longest", "itertools.pairwise"].contains n && vs[0]? == some (rawInt _)) = true then _ else _) Q E s
           rw [if_neg (by intro h; rw [hn, Bool.false_and] at h; cases h)]
           exact wpAny_pure hQ))

def Itl (K : PySem.W.Frag) (a : Addr) : It :=
  ⟨fun i H => ∃ xs x, SqL K H a xs ∧ xs[i]? = some x, fun i H x H' => H' = H ∧ ∀ xs, SqL K H a xs → xs[i]? = some x, fun i H => ∃ xs, SqL K H a xs ∧ xs.length ≤ i⟩
def Itr (lo : Int) (n : Nat) : It := ⟨fun i _ => i < n, fun i H x H' => H' = H ∧ x = .int (lo + i), fun i _ => n ≤ i⟩
theorem turn_list {P : Program} {w : World} {K : PySem.W.Frag} {tg : Expr} (a it : Addr) : Turn P w K tg (Itl K a) [it] it (fun i h => h.IsListIter it a i) where
  mem := by simp
  obj := fun i h st b hb => by
    have e : b = it := by simpa using hb
    subst e
    obtain ⟨o, e, c, d⟩ := st
    exact ⟨o, e, fun v z => by rw [d] at z; cases z⟩
  keep := fun i h h' st k => st.at fun o e => k it (by simp) o e
  item := by
    intro X hP hw hK hc i pins s σ H E I hf st hg
    subst hP hw hK
    obtain ⟨xs, x, hq, hx⟩ := hg
    obtain ⟨its, rv, p, hz⟩ := I.list hq
    obtain ⟨u, hu, ru⟩ := rv.get hx
    obtain ⟨f0, f1, f2, f3, f4, f5⟩ := hf it (by simp)
    refine wpAny_pyNext_list_item st p.isList (x := u) (by simpa using hu) fun h' st' sb => ?_
    have I1 : Inv X pins σ H { s with heap := h' } := I.turned (t' := s.toks) (fun b o hb e => (sb.2 b hb).trans e) f0 f1 f3 f4 f5
    obtain ⟨o, e, c, d⟩ := id st'
    exact ⟨u, rfl, go_of (s := { s with heap := h' }) e c d (by decide) ⟨x, H, I1, ru, ⟨rfl, fun ys hy => by rw [I.list_inj hy hq]; exact hx⟩, st', fun b hb => (hf b hb).1⟩⟩
  done := by
    intro X hP hw hK hc i pins s σ H E I hf st hg
    subst hP hw hK
    obtain ⟨xs, hq, hx⟩ := hg
    obtain ⟨its, rv, p, hz⟩ := I.list hq
    obtain ⟨f0, f1, f2, f3, f4, f5⟩ := hf it (by simp)
    have hl := rv.length
    exact wpAny_pyNext_list_end (I.ok.hd hc) st p.isList (by simp; omega) fun h' eb => ⟨rfl, I.turned (t' := s.toks) (fun b o hb e => eb b o hb e) f0 f1 f3 f4 f5⟩
  self := fun _ _ _ _ _ st h => wpAny_pyIter_listiter st h
theorem turn_range {P : Program} {w : World} {K : PySem.W.Frag} {tg : Expr} (it : Addr) (lo : Int) (n : Nat) : Turn P w K tg (Itr lo n) [it] it (fun i h => IsRangeIter h it (lo + (i : Nat) * 1) ((n : Int) - (i : Nat)) 1) where
  mem := by simp
  obj := fun i h st b hb => by
    have e : b = it := by simpa using hb
    subst e
    exact ⟨_, st, fun v z => by
      have z' : Data.fields _ = Data.cell v := z
      cases z'⟩
  keep := fun i h h' st k => k it (by simp) _ st
  item := by
    intro X hP hw hK hc i pins s σ H E I hf st hg
    subst hP hw hK
    obtain ⟨f0, f1, f2, f3, f4, f5⟩ := hf it (by simp)
    have W := Walks.range (prog := X.prog) (w := X.w) (I.ok.hd hc) it lo 1 n
    refine W.item i s _ _ hg st fun v h' tk hv st' kk => ?_
    obtain ⟨t, rfl⟩ := hv
    have I1 : Inv X pins σ H { s with heap := h', toks := tk } := I.turned (fun b o hb e => kk b o (by simpa using hb) e) f0 f1 f3 f4 f5
    refine ⟨_, rfl, go_of (s := { s with heap := h', toks := tk }) (n := "range_iterator") st' rfl rfl (by decide) ⟨.int (lo + i), H, I1, ⟨t, ?_⟩, ⟨rfl, rfl⟩, st', fun b hb => (hf b hb).1⟩⟩
    rw [Int.mul_one]
  done := by
    intro X hP hw hK hc i pins s σ H E I hf st hg
    subst hP hw hK
    obtain ⟨f0, f1, f2, f3, f4, f5⟩ := hf it (by simp)
    exact wpAny_pyNext_range_end (I.ok.hd hc) st (by have : n ≤ i := hg; omega) fun h' eb => ⟨rfl, I.turned (t' := s.toks) (fun b o hb e => eb b o hb e) f0 f1 f3 f4 f5⟩
  self := fun _ _ _ _ _ st h => wpAny_pyIter_rangeiter st h
end L2

namespace L2
open PySem PySem.Spec PyProof.Rows
section
variable {X : Cx} {tg : Expr}
def iList (K : PySem.W.Frag) (tl : TE) : TI := fun σ H R => tl σ H fun x H1 => ∃ a, x = .ref a ∧ (∃ xs, SqL K H1 a xs) ∧ R (Itl K a) H1
theorem pi_list {l : Expr} {tl : TE} (hl : PE X l tl) : PI X tg l (iList X.K tl) := by
  intro pins s σ H R I h
  refine thn (hl pins s σ H _ I h) fun v s1 ⟨x, H1, I1, r1, q1⟩ => ?_
  obtain ⟨a, e, ⟨xs, hq⟩, q⟩ := q1
  subst e
  cases r1
  obtain ⟨its, rv, p, hz⟩ := I1.list hq
  refine wpAny_pyIter_list p.isList ?_
  refine ⟨s1.heap.objs.size, [s1.heap.objs.size], _, _, H1, rfl, I1.kept (t' := s1.toks) fun b o e => Heap.get?_push_of_some _ e, turn_list a _, ⟨_, Heap.get?_push_size _ rfl, rfl, rfl⟩, fun b hb => ?_, q⟩
  have e : b = s1.heap.objs.size := by simpa using hb
  subst e
  exact I1.fpOk (Nat.le_refl _) (I1.hok.fresh (Nat.le_refl _))
theorem range_it {pins : List (Addr × Obj)} {σ : St} {H : Hp} {s : Shared} {R : It → Hp → Prop} {E : Value → Shared → Prop} {lo hi : Int} {t u v : Tok} {tk : Nat} (I : Inv X pins σ H s) (h1 : -(2 ^ 62) ≤ lo) (h2 : lo < 2 ^ 62) (h3 : -(2 ^ 62) ≤ hi) (h4 : hi < 2 ^ 62)
    (q : R (Itr lo (hi - lo).toNat) H) : wpAny (model X.prog X.w) X.A (pyIter (.ref s.heap.objs.size)) (PIE X pins σ tg R) E { s with heap := s.heap.push { cls := .type "range", data := .fields #[.int lo t, .int hi u, .int 1 v] }, toks := tk } := by
  refine wpAny_pyIter_range (IsRange.new ..) (small_one h1 h2 h3 h4) ?_
  have I1 : Inv X pins σ H { s with heap := s.heap.push { cls := .type "range", data := .fields #[.int lo t, .int hi u, .int 1 v] }, toks := tk } := I.kept fun b o e => Heap.get?_push_of_some _ e
  refine ⟨(s.heap.push { cls := .type "range", data := .fields #[.int lo t, .int hi u, .int 1 v] }).objs.size, [(s.heap.push { cls := .type "range", data := .fields #[.int lo t, .int hi u, .int 1 v] }).objs.size], _, _, H, rfl,
    I1.kept (t' := tk) fun b o e => Heap.get?_push_of_some _ e, turn_range _ lo (hi - lo).toNat, ?_, fun b hb => ?_, q⟩
  · have e1 : lo + ((0 : Nat) : Int) * 1 = lo := by simp
    have e2 : (((hi - lo).toNat : Nat) : Int) - ((0 : Nat) : Int) = Builtin.Range.rangeSize lo hi 1 := by rw [rangeSize_one]; split <;> omega
    show IsRangeIter _ _ (lo + ((0 : Nat) : Int) * 1) ((((hi - lo).toNat : Nat) : Int) - ((0 : Nat) : Int)) 1
    rw [e1, e2]
    exact Heap.get?_push_size _ rfl
  · have e : b = (s.heap.push { cls := .type "range", data := .fields #[.int lo t, .int hi u, .int 1 v] }).objs.size := by simpa using hb
    subst e
    exact I1.fpOk (Nat.le_refl _) (I1.hok.fresh (Nat.le_refl _))
def iRng1 (ta : TA) : TI := fun σ H R => ta σ H fun vs H1 => ∃ j : Int, vs = [.int j] ∧ -(2 ^ 62) ≤ j ∧ j < 2 ^ 62 ∧ R (Itr 0 j.toNat) H1
def iRng2 (ta : TA) : TI := fun σ H R => ta σ H fun vs H1 => ∃ i j : Int, vs = [.int i, .int j] ∧ (-(2 ^ 62) ≤ i ∧ i < 2 ^ 62 ∧ -(2 ^ 62) ≤ j ∧ j < 2 ^ 62) ∧ R (Itr i (j - i).toNat) H1
theorem pi_range1 {a : Expr} {ta : TA} {p pos : Pos} (hg : Gl X "range") (hm : X.mg "range" = none) (ha : PA X [a] ta) (hs : starEach [a] X.env = [(false, eval a X.env)] := by rfl) : PI X tg (.Call (.Name "range" p) [a] [] pos) (iRng1 ta) := by
  intro pins s σ H R I h
  refine Call_ (ld_blt I hg hm boot_range (PyProof.Rows.callWith_type1 (thn (ha pos pins s σ H _ I h) fun us s1 ⟨vs, H1, I1, r1, q1⟩ => ?_) hs rfl))
  obtain ⟨j, e, q1, q2, q⟩ := q1
  subst e
  cases r1 with
  | cons r rr =>
    cases rr
    obtain ⟨t, rfl⟩ := r
    exact call_range_1 (range_it I1 (by omega) (by omega) q1 q2 (by simpa using q))
theorem pi_range2 {a b : Expr} {ta : TA} {p pos : Pos} (hg : Gl X "range") (hm : X.mg "range" = none) (ha : PA X [a, b] ta) (hs : starEach [a, b] X.env = [(false, eval a X.env), (false, eval b X.env)] := by rfl) (hs2 : starEach [b] X.env = [(false, eval b X.env)] := by rfl) :
    PI X tg (.Call (.Name "range" p) [a, b] [] pos) (iRng2 ta) := by
  intro pins s σ H R I h
  refine Call_ (ld_blt I hg hm boot_range (PyProof.Rows.callWith_type1 (thn (ha pos pins s σ H _ I h) fun us s1 ⟨vs, H1, I1, r1, q1⟩ => ?_) (by rw [hs, hs2]) (by rw [hs2]; rfl)))
  obtain ⟨i, j, e, ⟨q1, q2, q3, q4⟩, q⟩ := q1
  subst e
  cases r1 with
  | cons r rr =>
    cases rr with
    | cons r' rr =>
      cases rr
      obtain ⟨t, rfl⟩ := r
      obtain ⟨t', rfl⟩ := r'
      exact call_range_2 (range_it I1 q1 q2 q3 q4 q)

def tFor (wi : TI) (g : TG) (tb : TS) : TS := fun D σ H => wi σ H fun J H1 => ∃ W : Nat → Nat → St → Hp → Prop, (∃ m, W 0 m σ H1) ∧ ∀ i m σ H, W i m σ H →
  (J.stop i H ∧ D.nx σ H) ∨ (J.go i H ∧ ∃ N : St → Hp → Prop, (∀ σ' H', N σ' H' → ∃ m', m' < m ∧ W (i + 1) m' σ' H') ∧ ∀ x H', J.yld i H x H' → g x σ H' fun σ2 H2 => tb { D with nx := N, ct := N, bk := D.nx } σ2 H2)
def pinsAt (fp : List Addr) (h : Heap) : List (Addr × Obj) := fp.filterMap fun b => (h.get? b).map fun o => (b, o)
theorem mem_pinsAt {fp : List Addr} {h : Heap} {b : Addr} {o : Obj} (hb : b ∈ fp) (e : h.get? b = some o) : (b, o) ∈ pinsAt fp h := List.mem_filterMap.mpr ⟨b, hb, by rw [e]; rfl⟩
theorem of_pinsAt {fp : List Addr} {h : Heap} {p : Addr × Obj} (hp : p ∈ pinsAt fp h) : p.1 ∈ fp ∧ h.get? p.1 = some p.2 := by
  obtain ⟨b, hb, e⟩ := List.mem_filterMap.mp hp
  cases q : h.get? b with
  | none => rw [q] at e; cases e
  | some o =>
    rw [q] at e
    have e' : (b, o) = p := Option.some.inj e
    subst e'
    exact ⟨hb, q⟩
theorem Inv.pinned {pins : List (Addr × Obj)} {σ : St} {H : Hp} {s : Shared} {fp : List Addr} (I : Inv X pins σ H s) (hf : ∀ b ∈ fp, FpOk X pins H b) (ho : ∀ b ∈ fp, ∃ o, s.heap.get? b = some o ∧ ∀ v, o.data ≠ .cell v) : Inv X (pins ++ pinsAt fp s.heap) σ H s :=
  I.pins_of fun p hp => (List.mem_append.mp hp).elim (fun z => I.pin p (List.mem_append_right _ z)) fun z => by
    obtain ⟨hb, e⟩ := of_pinsAt z
    obtain ⟨f0, f1, f2, _⟩ := hf p.1 hb
    obtain ⟨o, e', d⟩ := ho p.1 hb
    rw [e] at e'; cases e'
    exact ⟨e, f0, f1, f2, d⟩
theorem Inv.unpinned {pins pl : List (Addr × Obj)} {σ : St} {H : Hp} {s : Shared} (I : Inv X (pins ++ pl) σ H s) : Inv X pins σ H s := I.pins_of fun p hp => I.pin p (List.mem_append_right _ (List.mem_append_left _ hp))
theorem ps_for {iter : Expr} {body : List Stmt} {wi : TI} {g : TG} {tb : TS} {pos : Pos} (hp : PassesOwn (model X.prog X.w) X.A X.env X.xe) (hc : X.calm = true) (hi : PI X tg iter wi) (hg : PG X tg g) (hb : PSs X body tb)
    (hs : ∀ x, foldedSetIterable iter X.env x = pure x := by intro _; rfl) : PS X (.For tg iter body [] pos) (tFor wi g tb) := by
  intro pins s σ H D I h
  refine wpAny_For (thn (hi pins s σ H _ I h) fun v s1 h1 => thn h1 fun itv s2 h2 => ?_) hs
  obtain ⟨it, fp, tn, J, H2, e, I2, T, st2, f2, W, ⟨m0, w0⟩, turn⟩ := h2
  subst e
  -- what stays true of the iterator's objects through the loop
  have stat : ∀ {H' : Hp}, (∀ b ∈ fp, H' b = none) → ∀ b ∈ fp, FpOk X pins H' b := fun hn b hb => ⟨hn b hb, (f2 b hb).2⟩
  refine codeAny_forLoop_any (fun n s' => ∃ i σ' H', Inv X pins σ' H' s' ∧ tn i s'.heap ∧ (∀ b ∈ fp, H' b = none) ∧ W i n σ' H') ?_ m0 ⟨0, σ, H2, I2, st2, fun b hb => (f2 b hb).1, w0⟩
  rintro n s3 ⟨i, σ3, H3, I3, st3, fr3, w3⟩
  rcases turn i n σ3 H3 w3 with ⟨stop, qn⟩ | ⟨go, N, hN, step⟩
  · refine wpAny_passesOwn hp (thn (T.done X rfl rfl rfl hc i pins s3 σ3 H3 X.xe I3 (stat fr3) st3 stop) fun r s4 ⟨hr, I4⟩ => ?_)
    subst hr
    exact wpAny_execs_nil ⟨σ3, H3, I4, qn⟩
  · refine wpAny_passesOwn hp (thn (T.item X rfl rfl rfl hc i pins s3 σ3 H3 X.xe I3 (stat fr3) st3 go) fun r s4 ⟨u, hr, h4⟩ => ?_)
    subst hr
    refine wpAny_passesOwn hp (thn h4 fun _ s5 ⟨x, H5, I5, r5, y5, st5, fr5⟩ => ?_)
    have I5' := I5.pinned (stat fr5) (T.obj _ _ st5)
    refine wpAny_passesOwn hp (thn (hg _ s5 σ3 H5 x u _ I5' r5 (step x H5 y5)) fun _ s6 ⟨σ6, H6, I6, q6⟩ => ?_)
    refine wpAny_passesOwn hp (thn (hb _ s6 σ6 H6 _ I6 q6) fun f s7 q7 => ?_)
    have again : ∀ {σ7 : St} {H7 : Hp}, Inv X (pins ++ pinsAt fp s5.heap) σ7 H7 s7 → N σ7 H7 → ∃ m, m < n ∧ ∃ i σ' H', Inv X pins σ' H' s7 ∧ tn i s7.heap ∧ (∀ b ∈ fp, H' b = none) ∧ W i m σ' H' := fun {σ7 H7} I7 n7 => by
      obtain ⟨m', hm, w7⟩ := hN σ7 H7 n7
      refine ⟨m', hm, i + 1, σ7, H7, I7.unpinned, T.keep _ _ _ st5 fun b hb o e => (I7.pin (b, o) (List.mem_append_right _ (List.mem_append_right _ (mem_pinsAt hb e)))).1, fun b hb => ?_, w7⟩
      obtain ⟨o, e, d⟩ := T.obj _ _ st5 b hb
      exact (I7.pin (b, o) (List.mem_append_right _ (List.mem_append_right _ (mem_pinsAt hb e)))).2.1
    cases f with
    | next => obtain ⟨σ7, H7, I7, n7⟩ := q7; exact again I7 n7
    | cont => obtain ⟨σ7, H7, I7, n7⟩ := q7; exact again I7 n7
    | brk => obtain ⟨σ7, H7, I7, q7⟩ := q7; exact ⟨σ7, H7, I7.unpinned, q7⟩
    | ret v => obtain ⟨x7, σ7, H7, I7, r7, q7⟩ := q7; exact ⟨x7, σ7, H7, I7.unpinned, r7, q7⟩
end

theorem for_list {K : PySem.W.Frag} {a : Addr} {xs : List V} {g : TG} {tb : TS} {D : Ends} {σ : St} {H : Hp} (Pv : Nat → St → Hp → Prop) (h0 : Pv 0 σ H) (hl : ∀ i σ H, i ≤ xs.length → Pv i σ H → SqL K H a xs)
    (hs : ∀ i x σ H, xs[i]? = some x → Pv i σ H → g x σ H fun σ2 H2 => tb { D with nx := Pv (i + 1), ct := Pv (i + 1), bk := D.nx } σ2 H2) (hd : ∀ σ H, Pv xs.length σ H → D.nx σ H) :
    ∃ W : Nat → Nat → St → Hp → Prop, (∃ m, W 0 m σ H) ∧ ∀ i m σ H, W i m σ H →
      ((Itl K a).stop i H ∧ D.nx σ H) ∨ ((Itl K a).go i H ∧ ∃ N : St → Hp → Prop, (∀ σ' H', N σ' H' → ∃ m', m' < m ∧ W (i + 1) m' σ' H') ∧ ∀ x H', (Itl K a).yld i H x H' → g x σ H' fun σ2 H2 => tb { D with nx := N, ct := N, bk := D.nx } σ2 H2) := by
  refine ⟨fun i m σ H => m = xs.length - i ∧ i ≤ xs.length ∧ Pv i σ H, ⟨xs.length, by simp, Nat.zero_le _, h0⟩, ?_⟩
  rintro i m σ H ⟨rfl, hi, p⟩
  have q := hl i σ H hi p
  by_cases hlt : i < xs.length
  · refine .inr ⟨⟨xs, xs[i], q, by simp [hlt]⟩, Pv (i + 1), fun σ' H' p' => ⟨xs.length - (i + 1), by omega, rfl, hlt, p'⟩, fun x H' y => ?_⟩
    obtain ⟨e, y⟩ := y
    subst e
    exact hs i x σ _ (y xs q) p
  · have e : i = xs.length := by omega
    subst e
    exact .inl ⟨⟨xs, q, Nat.le_refl _⟩, hd σ H p⟩
theorem for_range {lo : Int} {n : Nat} {g : TG} {tb : TS} {D : Ends} {σ : St} {H : Hp} (Pv : Nat → St → Hp → Prop) (h0 : Pv 0 σ H)
    (hs : ∀ i σ H, i < n → Pv i σ H → g (.int (lo + i)) σ H fun σ2 H2 => tb { D with nx := Pv (i + 1), ct := Pv (i + 1), bk := D.nx } σ2 H2) (hd : ∀ σ H, Pv n σ H → D.nx σ H) :
    ∃ W : Nat → Nat → St → Hp → Prop, (∃ m, W 0 m σ H) ∧ ∀ i m σ H, W i m σ H →
      ((Itr lo n).stop i H ∧ D.nx σ H) ∨ ((Itr lo n).go i H ∧ ∃ N : St → Hp → Prop, (∀ σ' H', N σ' H' → ∃ m', m' < m ∧ W (i + 1) m' σ' H') ∧ ∀ x H', (Itr lo n).yld i H x H' → g x σ H' fun σ2 H2 => tb { D with nx := N, ct := N, bk := D.nx } σ2 H2) := by
  refine ⟨fun i m σ H => m = n - i ∧ i ≤ n ∧ Pv i σ H, ⟨n, by simp, Nat.zero_le _, h0⟩, ?_⟩
  rintro i m σ H ⟨rfl, hi, p⟩
  by_cases hlt : i < n
  · refine .inr ⟨hlt, Pv (i + 1), fun σ' H' p' => ⟨n - (i + 1), by omega, rfl, hlt, p'⟩, fun x H' y => ?_⟩
    obtain ⟨e, y⟩ := y
    subst e y
    exact hs i σ _ hlt p
  · have e : i = n := by omega
    subst e
    exact .inl ⟨Nat.le_refl _, hd σ H p⟩
end L2

namespace L2
open PySem PySem.Spec PyProof.Rows

abbrev R2 := V → V → Hp → VK → Prop
def OpR (X : Cx) (f : Value → Value → Sem Value) (r : R2) : Prop :=
  ∀ (pins : List (Addr × Obj)) (s : Shared) (σ : St) (H : Hp) (x y : V) (v u : Value) (Q : VK), Inv X pins σ H s → RelV x v → RelV y u → r x y H Q →
    wpAny (model X.prog X.w) X.A (f v u) (EP X pins σ Q) X.xe s
def UnR (X : Cx) (f : Value → Sem Value) (r : V → Hp → VK → Prop) : Prop :=
  ∀ (pins : List (Addr × Obj)) (s : Shared) (σ : St) (H : Hp) (x : V) (v : Value) (Q : VK), Inv X pins σ H s → RelV x v → r x H Q →
    wpAny (model X.prog X.w) X.A (f v) (EP X pins σ Q) X.xe s
def CallR (X : Cx) (f : Value) (r : List V → Hp → VK → Prop) : Prop :=
  ∀ (pins : List (Addr × Obj)) (s : Shared) (σ : St) (H : Hp) (xs : List V) (us : List Value) (Q : VK), Inv X pins σ H s → Vals xs us → r xs H Q →
    wpAny (model X.prog X.w) X.A (call f us) (EP X pins σ Q) X.xe s
def tOp (r : R2) (ta tb : TE) : TE := fun σ H Q => ta σ H fun x H1 => tb σ H1 fun y H2 => r x y H2 Q
def tUn (r : V → Hp → VK → Prop) (ta : TE) : TE := fun σ H Q => ta σ H fun x H1 => r x H1 Q
def rI (C : Int → Int → Prop) (g : Int → Int → V) : R2 := fun x y H Q => ∃ i j, x = .int i ∧ y = .int j ∧ C i j ∧ Q (g i j) H
def rI0 (g : Int → Int → V) : R2 := fun x y H Q => ∃ i j, x = .int i ∧ y = .int j ∧ Q (g i j) H
def rU (g : Int → V) : V → Hp → VK → Prop := fun x H Q => ∃ i, x = .int i ∧ Q (g i) H

section
variable {X : Cx} {a b c : Expr} {ta tb tc : TE} {pos : Pos}

theorem binT (ha : PE X a ta) (hb : PE X b tb) {pins : List (Addr × Obj)} {s : Shared} {σ : St} {H : Hp} {R : V → V → Hp → Prop} (I : Inv X pins σ H s)
    (h : ta σ H fun x H1 => tb σ H1 fun y H2 => R x y H2) {Q : Value → Shared → Prop} {f : Value → Value → Sem Value}
    (hf : ∀ v u s2 x y H2, Inv X pins σ H2 s2 → RelV x v → RelV y u → R x y H2 → wpAny (model X.prog X.w) X.A (f v u) Q X.xe s2) :
    wpAny (model X.prog X.w) X.A (eval a X.env) (fun v s₁ => wpAny (model X.prog X.w) X.A (eval b X.env) (fun u s₂ => wpAny (model X.prog X.w) X.A (f v u) Q X.xe s₂) X.xe s₁) X.xe s := by
  refine thn (ha pins s σ H _ I h) fun v s1 ⟨x, H1, I1, r1, q1⟩ => ?_
  refine thn (hb pins s1 σ H1 _ I1 q1) fun u s2 ⟨y, H2, I2, r2, q2⟩ => ?_
  exact hf v u s2 x y H2 I2 r1 r2 q2

theorem pe_op {op : Operator} {r : R2} (ho : OpR X (binaryOp op) r) (ha : PE X a ta) (hb : PE X b tb) : PE X (.BinOp a op b pos) (tOp r ta tb) := by
  intro pins s σ H Q I h
  exact wpAny_BinOp (binT ha hb I h fun v u s2 x y H2 I2 rx ry q => ho pins s2 σ H2 x y v u Q I2 rx ry q)
theorem pe_un {op : UnaryOp} {r : V → Hp → VK → Prop} (ho : UnR X (unaryOp op) r) (ha : PE X a ta) : PE X (.UnaryOp op a pos) (tUn r ta) := by
  intro pins s σ H Q I h
  exact UnaryOp_ (thn (ha pins s σ H _ I h) fun v s1 ⟨x, H1, I1, r1, q1⟩ => ho pins s1 σ H1 x v Q I1 r1 q1)
theorem opI {f : Value → Value → Sem Value} {C : Int → Int → Prop} {g : Int → Int → Int}
    (rule : ∀ (i j : Int) (t u : Tok) (s : Shared) (Q : Value → Shared → Prop) (E : Value → Shared → Prop), C i j → Q (.int (g i j) s.toks) { s with toks := s.toks + 1 } → wpAny (model X.prog X.w) X.A (f (.int i t) (.int j u)) Q E s) :
    OpR X f (rI C fun i j => .int (g i j)) := by
  intro pins s σ H x y v u Q I rx ry h
  obtain ⟨i, j, rfl, rfl, hc, q⟩ := h
  obtain ⟨t, rfl⟩ := rx
  obtain ⟨t', rfl⟩ := ry
  exact rule i j t t' s _ _ hc ⟨.int (g i j), H, I.tok _, ⟨_, rfl⟩, q⟩
theorem opI0 {f : Value → Value → Sem Value} {g : Int → Int → Int}
    (rule : ∀ (i j : Int) (t u : Tok) (s : Shared) (Q : Value → Shared → Prop) (E : Value → Shared → Prop), Q (.int (g i j) s.toks) { s with toks := s.toks + 1 } → wpAny (model X.prog X.w) X.A (f (.int i t) (.int j u)) Q E s) :
    OpR X f (rI0 fun i j => .int (g i j)) := by
  intro pins s σ H x y v u Q I rx ry h
  obtain ⟨i, j, rfl, rfl, q⟩ := h
  obtain ⟨t, rfl⟩ := rx
  obtain ⟨t', rfl⟩ := ry
  exact rule i j t t' s _ _ ⟨.int (g i j), H, I.tok _, ⟨_, rfl⟩, q⟩
theorem opB0 {f : Value → Value → Sem Value} {g : Int → Int → Bool}
    (rule : ∀ (i j : Int) (t u : Tok) (s : Shared) (Q : Value → Shared → Prop) (E : Value → Shared → Prop), Q (.bool (g i j)) s → wpAny (model X.prog X.w) X.A (f (.int i t) (.int j u)) Q E s) :
    OpR X f (rI0 fun i j => .bl (g i j)) := by
  intro pins s σ H x y v u Q I rx ry h
  obtain ⟨i, j, rfl, rfl, q⟩ := h
  obtain ⟨t, rfl⟩ := rx
  obtain ⟨t', rfl⟩ := ry
  exact rule i j t t' s _ _ ⟨.bl (g i j), H, I, rfl, q⟩

def CDiv (i j : Int) : Prop := 0 < j ∧ j < 1073741824
def CPow (i j : Int) : Prop := 0 ≤ j ∧ j ≤ 1000000 ∧ i.natAbs < 2 ^ 64
def CMul (i j : Int) : Prop := (-(2 ^ 64) < i ∧ i < 2 ^ 64) ∨ (-(2 ^ 64) < j ∧ j < 2 ^ 64)
theorem CMul.ok {i j : Int} (h : CMul i j) : IntMulOk i j := by
  rcases h with ⟨h1, h2⟩ | ⟨h1, h2⟩
  · exact .of_left (intBits_le_64 h1 h2)
  · exact .of_right (intBits_le_64 h1 h2)
theorem op_add : OpR X (binaryOp .Add) (rI0 fun i j => .int (i + j)) := opI0 fun _ _ _ _ _ _ _ q => add_int q
theorem op_sub : OpR X (binaryOp .Sub) (rI0 fun i j => .int (i - j)) := opI0 fun _ _ _ _ _ _ _ q => sub_int q
theorem op_mul : OpR X (binaryOp .Mult) (rI CMul fun i j => .int (i * j)) := opI fun _ _ _ _ _ _ _ hc q => mul_int q hc.ok
theorem op_fdiv : OpR X (binaryOp .FloorDiv) (rI CDiv fun i j => .int (i / j)) := opI fun i j _ _ _ _ _ hc q => by
  have h1 : (0 : Int) < j := hc.1
  have h2 : j < 1073741824 := hc.2
  exact floordiv_int (by omega) (by rw [Int.fdiv_eq_ediv_of_nonneg i (by omega)]; exact q) (.inl (PyProof.noPylong_small (by omega)))
theorem op_mod : OpR X (binaryOp .Mod) (rI (fun _ j => 0 < j) fun i j => .int (i % j)) := opI fun i j _ _ _ _ _ hc q => by
  have h1 : (0 : Int) < j := hc
  exact mod_int' (by omega) (by rw [Int.fmod_eq_emod_of_nonneg i (by omega)]; exact q)
theorem op_pow : OpR X (binaryOp .Pow) (rI CPow fun i j => .int (i ^ j.toNat)) := opI fun _ _ _ _ _ _ _ hc q => pow_int_small hc.1 hc.2.1 hc.2.2 q
theorem op_shl : OpR X (binaryOp .LShift) (rI CPow fun i j => .int (i * 2 ^ j.toNat)) := opI fun _ _ _ _ _ _ _ hc q => lshift_int_small hc.1 hc.2.1 hc.2.2 q
theorem op_and : OpR X (binaryOp .BitAnd) (rI0 fun i j => .int (Builtin.bitAnd i j)) := opI0 fun _ _ _ _ _ _ _ q => and_int q
theorem op_or : OpR X (binaryOp .BitOr) (rI0 fun i j => .int (Builtin.bitOr i j)) := opI0 fun _ _ _ _ _ _ _ q => or_int q
theorem unI {f : Value → Sem Value} {g : Int → Int}
    (rule : ∀ (i : Int) (t : Tok) (s : Shared) (Q : Value → Shared → Prop) (E : Value → Shared → Prop), Q (.int (g i) s.toks) { s with toks := s.toks + 1 } → wpAny (model X.prog X.w) X.A (f (.int i t)) Q E s) :
    UnR X f (rU fun i => .int (g i)) := by
  intro pins s σ H x v Q I rx h
  obtain ⟨i, rfl, q⟩ := h
  obtain ⟨t, rfl⟩ := rx
  exact rule i t s _ _ ⟨.int (g i), H, I.tok _, ⟨_, rfl⟩, q⟩
theorem un_neg : UnR X (unaryOp .USub) (rU fun i => .int (-i)) := unI fun _ _ _ _ _ q => neg_int q
end

def scal : V → V → Bool
  | .non, .non => true | .non, .int _ => true | .int _, .non => true | .non, .bl _ => true | .bl _, .non => true | .non, .str _ => true | .str _, .non => true
  | .int _, .int _ => true | .bl _, .bl _ => true | .str _, .str _ => true | .byt _, .byt _ => true
  | .int _, .str _ => true | .str _, .int _ => true | .bl _, .str _ => true | .str _, .bl _ => true
  | _, _ => false
def rEq : R2 := fun x y H Q => scal x y = true ∧ Q (.bl (decide (x = y))) H
def rNe : R2 := fun x y H Q => scal x y = true ∧ Q (.bl (!decide (x = y))) H

theorem dec_int {i j : Int} : decide (V.int i = V.int j) = (i == j) := by
  rw [Bool.eq_iff_iff]
  simp
theorem dec_bl {i j : Bool} : decide (V.bl i = V.bl j) = (i == j) := by
  rw [Bool.eq_iff_iff]
  simp
theorem dec_str {i j : Str} : decide (V.str i = V.str j) = (i == j) := by
  rw [Bool.eq_iff_iff]
  simp
theorem dec_byt {i j : Array UInt8} : decide (V.byt i = V.byt j) = (i.toList == j.toList) := by
  rw [Bool.eq_iff_iff]
  cases i
  cases j
  simp

section
variable {X : Cx} {a b c : Expr} {ta tb tc : TE} {pos : Pos}
theorem fin_bl {pins : List (Addr × Obj)} {σ : St} {H : Hp} {s : Shared} {Q : VK} {k k' : Bool} (I : Inv X pins σ H s) (q : Q (.bl k) H) (e : k = k') : EP X pins σ Q (.bool k') s := by
  subst e
  exact ⟨.bl k, H, I, rfl, q⟩
theorem op_eq : OpR X (compareOp .Eq) rEq := by
  intro pins s σ H x y v u Q I rx ry h
  obtain ⟨hs, q⟩ := h
  cases x with
  | non =>
    cases rx
    cases y with
    | non => cases ry; exact PySem.EqNone.eq_none_none (fin_bl I q (by simp))
    | bl j => cases ry; exact PySem.EqNone.eq_none_bool (fin_bl I q (by simp))
    | int j => obtain ⟨t', rfl⟩ := ry; exact PySem.EqNone.eq_none_int (fin_bl I q (by simp))
    | str j => obtain ⟨t', rfl⟩ := ry; exact PySem.EqNone.eq_none_str (fin_bl I q (by simp))
    | _ => exact absurd (show false = true from hs) Bool.false_ne_true
  | bl i =>
    cases rx
    cases y with
    | non => cases ry; exact PySem.EqNone.eq_bool_none (fin_bl I q (by simp))
    | bl j => cases ry; exact eq_bool (fin_bl I q dec_bl)
    | str j => obtain ⟨t', rfl⟩ := ry; exact PySem.EqMixed.eq_bool_str (fin_bl I q (by simp))
    | _ => exact absurd (show false = true from hs) Bool.false_ne_true
  | int i =>
    obtain ⟨t, rfl⟩ := rx
    cases y with
    | non => cases ry; exact PySem.EqNone.eq_int_none (fin_bl I q (by simp))
    | int j => obtain ⟨t', rfl⟩ := ry; exact eq_int (fin_bl I q dec_int)
    | str j => obtain ⟨t', rfl⟩ := ry; exact PySem.EqMixed.eq_int_str (fin_bl I q (by simp))
    | _ => exact absurd (show false = true from hs) Bool.false_ne_true
  | str i =>
    obtain ⟨t, rfl⟩ := rx
    cases y with
    | non => cases ry; exact PySem.EqNone.eq_str_none (fin_bl I q (by simp))
    | bl j => cases ry; exact PySem.EqMixed.eq_str_bool (fin_bl I q (by simp))
    | int j => obtain ⟨t', rfl⟩ := ry; exact PySem.EqMixed.eq_str_int (fin_bl I q (by simp))
    | str j => obtain ⟨t', rfl⟩ := ry; exact eq_str (fin_bl I q dec_str)
    | _ => exact absurd (show false = true from hs) Bool.false_ne_true
  | byt i =>
    obtain ⟨t, rfl⟩ := rx
    cases y with
    | byt j => obtain ⟨t', rfl⟩ := ry; exact PySem.W.eq_bytes (fin_bl I q dec_byt)
    | _ => exact absurd (show false = true from hs) Bool.false_ne_true
  | _ => cases y <;> exact absurd (show false = true from hs) Bool.false_ne_true
theorem op_ne : OpR X (compareOp .NotEq) rNe := by
  intro pins s σ H x y v u Q I rx ry h
  obtain ⟨hs, q⟩ := h
  cases x with
  | non =>
    cases rx
    cases y with
    | non => cases ry; exact PySem.EqNone.ne_none_none (fin_bl I q (by simp))
    | bl j => cases ry; exact PySem.EqNone.ne_none_bool (fin_bl I q (by simp))
    | int j => obtain ⟨t', rfl⟩ := ry; exact PySem.EqNone.ne_none_int (fin_bl I q (by simp))
    | str j => obtain ⟨t', rfl⟩ := ry; exact PySem.EqNone.ne_none_str (fin_bl I q (by simp))
    | _ => exact absurd (show false = true from hs) Bool.false_ne_true
  | bl i =>
    cases rx
    cases y with
    | non => cases ry; exact PySem.EqNone.ne_bool_none (fin_bl I q (by simp))
    | bl j => cases ry; exact ne_bool (fin_bl I q (congrArg not dec_bl))
    | str j => obtain ⟨t', rfl⟩ := ry; exact PySem.EqMixed.ne_bool_str (fin_bl I q (by simp))
    | _ => exact absurd (show false = true from hs) Bool.false_ne_true
  | int i =>
    obtain ⟨t, rfl⟩ := rx
    cases y with
    | non => cases ry; exact PySem.EqNone.ne_int_none (fin_bl I q (by simp))
    | int j => obtain ⟨t', rfl⟩ := ry; exact ne_int (fin_bl I q (congrArg not dec_int))
    | str j => obtain ⟨t', rfl⟩ := ry; exact PySem.EqMixed.ne_int_str (fin_bl I q (by simp))
    | _ => exact absurd (show false = true from hs) Bool.false_ne_true
  | str i =>
    obtain ⟨t, rfl⟩ := rx
    cases y with
    | non => cases ry; exact PySem.EqNone.ne_str_none (fin_bl I q (by simp))
    | bl j => cases ry; exact PySem.EqMixed.ne_str_bool (fin_bl I q (by simp))
    | int j => obtain ⟨t', rfl⟩ := ry; exact PySem.EqMixed.ne_str_int (fin_bl I q (by simp))
    | str j => obtain ⟨t', rfl⟩ := ry; exact ne_str (fin_bl I q (congrArg not dec_str))
    | _ => exact absurd (show false = true from hs) Bool.false_ne_true
  | byt i =>
    obtain ⟨t, rfl⟩ := rx
    cases y with
    | byt j => obtain ⟨t', rfl⟩ := ry; exact PySem.W.ne_bytes (fin_bl I q (congrArg not dec_byt))
    | _ => exact absurd (show false = true from hs) Bool.false_ne_true
  | _ => cases y <;> exact absurd (show false = true from hs) Bool.false_ne_true

theorem op_lt : OpR X (compareOp .Lt) (rI0 fun i j => .bl (decide (i < j))) := opB0 fun _ _ _ _ _ _ _ q => lt_int q
theorem op_le : OpR X (compareOp .LtE) (rI0 fun i j => .bl (decide (i ≤ j))) := opB0 fun _ _ _ _ _ _ _ q => le_int q
theorem op_ge : OpR X (compareOp .GtE) (rI0 fun i j => .bl (decide (j ≤ i))) := opB0 fun _ _ _ _ _ _ _ q => ge_int q
theorem OpR.or {f : Value → Value → Sem Value} {r r' : R2} (h : OpR X f r) (h' : OpR X f r') : OpR X f (fun x y H Q => r x y H Q ∨ r' x y H Q) := by
  intro pins s σ H x y v u Q I rx ry q
  rcases q with q | q
  · exact h pins s σ H x y v u Q I rx ry q
  · exact h' pins s σ H x y v u Q I rx ry q

theorem nomark (b : Expr) {op : CmpOp} (h : op ≠ .In := by decide) (h2 : op ≠ .NotIn := by decide) : behindInMarks op b = false := by
  have e1 : (op == CmpOp.In) = false := by cases op <;> first | rfl | exact absurd rfl h
  have e2 : (op == CmpOp.NotIn) = false := by cases op <;> first | rfl | exact absurd rfl h2
  cases b <;> simp [behindInMarks, e1, e2]
theorem pe_cmpR {op : CmpOp} {r : R2} (ho : OpR X (compareOp op) r) (ha : PE X a ta) (hb : PE X b tb) (hm : behindInMarks op b = false) : PE X (.Compare a [op] [b] pos) (tOp r ta tb) := by
  intro pins s σ H Q I h
  exact wpAny_Compare1 (binT ha hb I h fun v u s2 x y H2 I2 rx ry q => ho pins s2 σ H2 x y v u Q I2 rx ry q) hm
def tTest (t : TE) : TT := fun σ H Q => t σ H fun x H' => ∃ k, x = .bl k ∧ Q k H'
theorem pt_cmpR {op : CmpOp} {r : R2} (ho : OpR X (compareOp op) r) (ha : PE X a ta) (hb : PE X b tb) (hm : behindInMarks op b = false) : PT X (.Compare a [op] [b] pos) (tTest (tOp r ta tb)) := by
  intro pins s σ H Q I h
  refine wpAny_isTrue_Compare1 (thn (ha pins s σ H _ I h) fun v s1 ⟨x, H1, I1, r1, q1⟩ => thn (hb pins s1 σ H1 _ I1 q1) fun u s2 ⟨y, H2, I2, r2, q2⟩ =>
    thn (ho pins s2 σ H2 x y v u _ I2 r1 r2 q2) fun c s3 ⟨z, H3, I3, r3, k, e, q3⟩ => ?_) hm
  subst e
  cases r3
  exact wpAny_truthy_bool ⟨H3, I3, q3⟩
def tChain (r r' : R2) (ta tb tc : TE) : TE := fun σ H Q => ta σ H fun x H1 => tb σ H1 fun y H2 => r x y H2 fun z H3 => ∃ k, z = .bl k ∧
  (if k = true then tc σ H3 fun w' H4 => r' y w' H4 Q else Q (.bl false) H3)
theorem pe_chain {op op' : CmpOp} {r r' : R2} (ho : OpR X (compareOp op) r) (ho' : OpR X (compareOp op') r') (ha : PE X a ta) (hb : PE X b tb) (hc : PE X c tc)
    (hm : lastMarks [op, op'] [b, c] = false := by with_unfolding_all rfl) : PE X (.Compare a [op, op'] [b, c] pos) (tChain r r' ta tb tc) := by
  intro pins s σ H Q I h
  refine Compare_chain (thn (ha pins s σ H _ I h) fun v s1 ⟨x, H1, I1, r1, q1⟩ => chain_link (thn (hb pins s1 σ H1 _ I1 q1) fun u s2 ⟨y, H2, I2, r2, q2⟩ =>
    thn (ho pins s2 σ H2 x y v u _ I2 r1 r2 q2) fun d s3 ⟨z, H3, I3, r3, k, e, q3⟩ => ?_)) hm
  subst e
  cases r3
  refine wpAny_truthy_bool ?_
  cases k with
  | false => exact ite_ff ⟨.bl false, H3, I3, rfl, q3⟩
  | true => exact ite_tt (chain_last (thn (hc pins s3 σ H3 _ I3 q3) fun w' s4 ⟨z', H4, I4, r4, q4⟩ => ho' pins s4 σ H4 y z' u w' Q I4 r2 r4 q4))
theorem pt_chain {op op' : CmpOp} {r r' : R2} (ho : OpR X (compareOp op) r) (ho' : OpR X (compareOp op') r') (ha : PE X a ta) (hb : PE X b tb) (hc : PE X c tc)
    (hm : lastMarks [op, op'] [b, c] = false := by with_unfolding_all rfl) : PT X (.Compare a [op, op'] [b, c] pos) (tTest (tChain r r' ta tb tc)) := by
  intro pins s σ H Q I h
  refine isTrue_chain (thn (ha pins s σ H _ I h) fun v s1 ⟨x, H1, I1, r1, q1⟩ => test_link (thn (hb pins s1 σ H1 _ I1 q1) fun u s2 ⟨y, H2, I2, r2, q2⟩ =>
    thn (ho pins s2 σ H2 x y v u _ I2 r1 r2 q2) fun d s3 ⟨z, H3, I3, r3, k, e, q3⟩ => ?_)) hm
  subst e
  cases r3
  refine wpAny_truthy_bool ?_
  cases k with
  | false =>
    obtain ⟨k', e', q'⟩ := q3
    cases e'
    exact ite_ff ⟨H3, I3, q'⟩
  | true =>
    refine ite_tt (test_last (thn (hc pins s3 σ H3 _ I3 q3) fun w' s4 ⟨z', H4, I4, r4, q4⟩ => thn (ho' pins s4 σ H4 y z' u w' _ I4 r2 r4 q4) fun d' s5 ⟨z2, H5, I5, r5, k2, e2, q5⟩ => ?_))
    subst e2
    cases r5
    exact wpAny_truthy_bool ⟨H5, I5, q5⟩

theorem line63 : (sizeLine : Nat) < 2 ^ 63 := by rw [sizeLine_eq]; decide
theorem op_add_str : OpR X (binaryOp .Add) (fun x y H Q => ∃ i j, x = .str i ∧ y = .str j ∧ i.length + j.length ≤ sizeLine ∧ Q (.str (i ++ j)) H) := by
  intro pins s σ H x y v u Q I rx ry h
  obtain ⟨i, j, rfl, rfl, hz, q⟩ := h
  obtain ⟨t, rfl⟩ := rx
  obtain ⟨t', rfl⟩ := ry
  exact add_str (fun t' tk => ⟨.str (i ++ j), H, I.tok _, ⟨_, rfl⟩, q⟩) hz
theorem vals1 {x : V} {us : List Value} (r : Vals [x] us) : ∃ u, us = [u] ∧ RelV x u := by
  cases r with
  | cons r1 r2 => cases r2; exact ⟨_, rfl, r1⟩
theorem vals2 {x y : V} {us : List Value} (r : Vals [x, y] us) : ∃ u w', us = [u, w'] ∧ RelV x u ∧ RelV y w' := by
  cases r with
  | cons r1 r2 =>
    cases r2 with
    | cons r3 r4 => cases r4; exact ⟨_, _, rfl, r1, r3⟩
theorem call_max2 (hc : X.calm = true) : CallR X (.builtin "max") (fun xs H Q => ∃ i j, xs = [.int i, .int j] ∧ Q (.int (if j > i then j else i)) H) := by
  intro pins s σ H xs us Q I r h
  obtain ⟨i, j, rfl, q⟩ := h
  obtain ⟨u, w', rfl, ⟨t, rfl⟩, ⟨t', rfl⟩⟩ := vals2 r
  refine max_two_ints (I.ok.hd hc) fun h' tk k => ⟨_, H, I.kept k, ?_, q⟩
  by_cases hj : j > i
  · rw [if_pos hj, if_pos hj]; exact ⟨_, rfl⟩
  · rw [if_neg hj, if_neg hj]; exact ⟨_, rfl⟩
end
end L2

namespace L2
open PySem PySem.Spec PyProof.Rows

structure ObjM (h : Heap) (x dx C : Addr) (mA : Str → Option Value) : Prop where
  obj : h.get? x = some (PySem.W.instObj C dx)
  ns : h.Ns1 dx mA
  ne : dx ≠ x

theorem lookIn_ns {h : Heap} {dx : Addr} {mA : Str → Option Value} (n : h.Ns1 dx mA) : ∃ od, h.get? dx = some od ∧ ∀ name, PySem.W.lookIn name od = some (mA name) := by
  obtain ⟨o, es, ep, ho, hd, hk, _, hm⟩ := n
  refine ⟨o, ho, fun name => ?_⟩
  have e := hm name
  unfold nsFind findBy at e
  rw [← Array.find?_toList] at e
  unfold PySem.W.lookIn
  rw [hd]
  dsimp only
  split
  · rename_i y q
    rw [q] at e
    exact congrArg some e
  · rename_i q
    rw [q] at e
    have a : es.toList.any (·.refKey) = false := by
      rw [List.any_eq_false]
      intro y hy
      obtain ⟨z, t, hkey⟩ := hk y (Array.mem_toList_iff.mp hy)
      simp [DictEntry.refKey, hkey]
    have a' : ¬ es.toList.any (·.refKey) = true := by rw [a]; exact Bool.false_ne_true
    rw [if_neg a']
    exact congrArg some e

theorem ObjM.look {h : Heap} {x dx C : Addr} {mA : Str → Option Value} (I : ObjM h x dx C mA) : ∃ od, PySem.W.InstAt h x (PySem.W.instObj C dx) C (some od) ∧ ∀ name, PySem.W.lookIn name od = some (mA name) :=
  let ⟨od, ho, hl⟩ := lookIn_ns I.ns
  ⟨od, ⟨I.obj, rfl, rfl, ho⟩, hl⟩

section
variable {prog : Program} {w : World} {A : Around} {E : Value → Shared → Prop} {s : Shared} {K : PySem.W.Frag} {x dx C f : Addr} {mA : Str → Option Value} {name : Str} {v : Value}

theorem get_map {expr : Bool} {Q : Value → Shared → Prop} (X : K.In s.heap) (I : ObjM s.heap x dx C mA) (hg : PySem.W.plainGet K C name = true) (hh : PySem.W.hasDictIn K C = true)
    (ha : PySem.W.findIn K (.ref C) name = some none) (hv : mA name = some v) (hv' : PySem.W.handedIn v = true) (h : Q v { s with toks := s.toks + 1 }) :
    wpAny (model prog w) A (getAttr (.ref x) name expr) Q E s := by
  obtain ⟨od, J, hl⟩ := I.look
  exact PySem.W.get_value X J (PySem.W.plainGet_of hg).1 (PySem.W.findObj_own hh ha rfl (by rw [hl, hv])) hv' h

theorem get_meth {pl : Sem Bool} {Q : Value × List Value → Shared → Prop} (X : K.In s.heap) (I : ObjM s.heap x dx C mA) (hg : PySem.W.plainGet K C name = true)
    (hf : PySem.W.findIn K (.ref C) name = some (some (.ref f))) (ht : PySem.W.isFn K (.ref f) = true) (hv : mA name = none) (h : Q (.ref f, [.ref x]) s) :
    wpAny (model prog w) A (getMethod (.ref x) name pl) Q E s := by
  obtain ⟨od, J, hl⟩ := I.look
  exact PySem.W.method_fn X J (PySem.W.plainGet_of hg).1 (PySem.W.plainGet_of hg).2 hf (beq_iff_eq.mp ht) (by show (PySem.W.lookIn name od).map (·.isSome) = some false; rw [hl, hv]; rfl) h

theorem set_map {ns : List Str} {Q : Unit → Shared → Prop} (X : K.In s.heap) (I : ObjM s.heap x dx C mA)
    (hs : PySem.W.findIn K (.ref C) "__setattr__" = some (some (.builtin "object.__setattr__"))) (hp : PySem.W.plainOver K C = true) (ht : PySem.W.takerIn K C name = some none) (hh : PySem.W.hasDictIn K C = true)
    (hw : PySem.Within mA ns) (hsz : ns.length ≤ sizeLine)
    (h : ∀ h', ObjM h' x dx C (fun y => if y = name then some v else mA y) → Heap.SameBut dx s.heap h' → Q () { s with heap := h', toks := s.toks + 2 }) :
    wpAny (model prog w) A (setAttr (.ref x) name v) Q E s := by
  obtain ⟨od, J, hl⟩ := I.look
  refine PySem.W.set_plain X J hs (PySem.W.osa_open (s := { s with toks := s.toks + 1 }) (r := none) X J hp ht fun b => ?_)
  obtain ⟨cd, hc, hd'⟩ := PySem.W.any_some hh
  have hx : s.heap.get? x = some ⟨.ref C, some dx, .plain, #[]⟩ := I.obj
  refine wpAny_bind (wpAny_pure (wpAny_bind (wpAny_bind (wpAny_loadPart hx (wpAny_bind (PySem.W.Looks.here (s := { s with toks := s.toks + 1 }) (PySem.W.looks_clsIn X hc) ?_))))))
  rw [hd']
  refine wpAny_pure (a := some dx) (wpAny_bind (wpAny_pure (wpAny_bind ?_)))
  refine wpAny_nsSet1 (s := { s with toks := s.toks + 1 }) I.ns fun h' hn2 hs2 => ?_
  obtain ⟨oD, esD, epD, hoD, hdD, hcD⟩ := hn2.count (PySem.Within.cons name v hw)
  refine wpAny_bind (wpAny_lookBehind hoD (by rw [hdD]; exact pastItsLine_dict (Nat.le_trans hcD (by rw [List.length_cons]; omega))) ?_)
  exact wpAny_pure (h _ ⟨(hs2.2 _ (Ne.symm I.ne)).trans I.obj, hn2, I.ne⟩ hs2)

theorem make_map {R : Result → Shared → Prop} {vs : List Value} {kw : List (Str × Value)} (X : K.In s.heap) (hm : PySem.W.makesIn K C = true)
    (hi : PySem.W.findIn K (.ref C) "__init__" = some (some (.ref f))) (hf : PySem.W.typeIn K (.ref f) = some (.type "function"))
    (h : codeAny (model prog w) (A.under (.builtin "type.__call__" ⟨.ref C :: vs, kw⟩)) (.call (.ref f) ⟨.ref (s.heap.objs.size + 1) :: vs, kw⟩) (PySem.W.InitBack (s.heap.objs.size + 1) R)
      { s with heap := (s.heap.push PySem.W.emptyDict).push (PySem.W.instObj C s.heap.objs.size) }) :
    codeAny (model prog w) A (.call (.ref C) ⟨vs, kw⟩) R s := by
  obtain ⟨hh, g, d, t, os⟩ := s
  exact PySem.W.make_core (PySem.W.makes_of X hm) (PySem.W.looks_findIn X hi) (fun self => PySem.W.bind_fn X self hf) (.inl rfl) h
end

def putF (f : Str) (v : V) : List (Str × V) → List (Str × V)
  | [] => [(f, v)]
  | (g, x) :: r => if g = f then (g, v) :: r else (g, x) :: putF f v r
theorem lookup_putF (f g : Str) (v : V) : ∀ fs : List (Str × V), (putF f v fs).lookup g = if g = f then some v else fs.lookup g
  | [] => by
    show List.lookup g [(f, v)] = _
    by_cases h : g = f
    · have hb : (g == f) = true := beq_iff_eq.mpr h
      simp only [List.lookup, hb, if_pos h]
    · have hb : (g == f) = false := beq_eq_false_iff_ne.mpr h
      simp only [List.lookup, hb, if_neg h]
  | (k, x) :: r => by
    have ih := lookup_putF f g v r
    rw [show putF f v ((k, x) :: r) = (if k = f then (k, v) :: r else (k, x) :: putF f v r) from rfl]
    by_cases hk : k = f
    · rw [if_pos hk]
      by_cases h : g = k
      · have hb : (g == k) = true := beq_iff_eq.mpr h
        simp only [List.lookup, hb, if_pos (h.trans hk)]
      · have hb : (g == k) = false := beq_eq_false_iff_ne.mpr h
        simp only [List.lookup, hb, if_neg (fun e : g = f => h (e.trans hk.symm))]
    · rw [if_neg hk]
      by_cases h : g = k
      · have hb : (g == k) = true := beq_iff_eq.mpr h
        simp only [List.lookup, hb, if_neg (fun e : g = f => hk (h.symm.trans e))]
      · have hb : (g == k) = false := beq_eq_false_iff_ne.mpr h
        simp only [List.lookup, hb]
        exact ih
theorem keys_putF (f : Str) (v : V) : ∀ fs : List (Str × V), f ∈ (putF f v fs).map (·.1) ∧ ∀ g, g ∈ fs.map (·.1) → g ∈ (putF f v fs).map (·.1)
  | [] => ⟨by simp [putF], fun g h => by simp at h⟩
  | (k, x) :: r => by
    obtain ⟨i1, i2⟩ := keys_putF f v r
    rw [show putF f v ((k, x) :: r) = (if k = f then (k, v) :: r else (k, x) :: putF f v r) from rfl]
    by_cases hk : k = f
    · rw [if_pos hk]
      subst hk
      exact ⟨by simp, fun g h => by simpa using h⟩
    · rw [if_neg hk]
      refine ⟨?_, fun g h => ?_⟩
      · rw [List.map_cons]
        exact List.mem_cons_of_mem _ i1
      · rw [List.map_cons] at h ⊢
        rcases List.mem_cons.mp h with e | e
        · exact List.mem_cons.mpr (.inl e)
        · exact List.mem_cons_of_mem _ (i2 g e)
theorem length_putF (f : Str) (v : V) : ∀ fs : List (Str × V), (putF f v fs).length ≤ fs.length + 1
  | [] => by simp [putF]
  | (k, x) :: r => by
    have ih := length_putF f v r
    rw [show putF f v ((k, x) :: r) = (if k = f then (k, v) :: r else (k, x) :: putF f v r) from rfl]
    by_cases hk : k = f
    · rw [if_pos hk, List.length_cons, List.length_cons]; omega
    · rw [if_neg hk, List.length_cons, List.length_cons]; omega

theorem RelO.some_of {v : V} {o : Option Value} (r : RelO (some v) o) : ∃ u, o = some u ∧ RelV v u := by
  cases o with
  | none => exact (show False from r).elim
  | some u => exact ⟨u, rfl, r⟩
theorem RelO.none_of {o : Option Value} (r : RelO none o) : o = none := by
  cases o with
  | none => rfl
  | some u => exact (show False from r).elim
theorem handed_of {v : V} {u : Value} (r : RelV v u) : PySem.W.handedIn u = true := by
  cases v with
  | non => cases (show u = Value.none from r); rfl
  | bl b => cases (show u = Value.bool b from r); rfl
  | int i => obtain ⟨t, e⟩ := (show ∃ t, u = Value.int i t from r); cases e; rfl
  | str x => obtain ⟨t, e⟩ := (show ∃ t, u = Value.str x t from r); cases e; rfl
  | byt b => obtain ⟨t, e⟩ := (show ∃ t, u = Value.bytes b t from r); cases e; rfl
  | flt b => obtain ⟨t, e⟩ := (show ∃ t, u = Value.float b t from r); cases e; rfl
  | ref a => cases (show u = Value.ref a from r); rfl
  | ty n => cases (show u = Value.type n from r); rfl

section
variable {P : Program} {w : World} {H H' : Hp} {h h' : Heap} {a C dx : Addr} {fs fs' : List (Str × V)}
theorem ins_get (hok : HOk P w H h) (e : H a = some (.ins C dx fs)) : ∃ mA, ObjM h a dx C mA ∧ (∀ f, RelO (fs.lookup f) (mA f)) ∧ PySem.Within mA (fs.map (·.1)) ∧ fs.length ≤ 1000 ∧ H dx = some (.own a) := by
  obtain ⟨d, z, ne, ob, mA, n, r, q⟩ := (show ObjOk P w H h a (.ins C dx fs) from hok a _ e)
  exact ⟨mA, ⟨ob, n, ne⟩, r, q, z, d⟩
end

structure Cls (K : PySem.W.Frag) (C : Addr) : Prop where
  pg : PySem.W.plainGet K C Str.empty = true
  hd : PySem.W.hasDictIn K C = true
  po : PySem.W.plainOver K C = true
  sa : PySem.W.findIn K (.ref C) "__setattr__" = some (some (.builtin "object.__setattr__"))
theorem Cls.get {K : PySem.W.Frag} {C : Addr} (c : Cls K C) (f : Str) : PySem.W.plainGet K C f = true := c.pg
def NoAttr (K : PySem.W.Frag) (C : Addr) (f : Str) : Prop := PySem.W.findIn K (.ref C) f = some none
theorem NoAttr.taker {K : PySem.W.Frag} {C : Addr} {f : Str} (n : NoAttr K C f) : PySem.W.takerIn K C f = some none := by
  unfold PySem.W.takerIn
  rw [show PySem.W.findIn K (.ref C) f = some none from n]
  rfl
structure Con (K : PySem.W.Frag) (C : Addr) (f : Str) (v : V) (u : Value) : Prop where
  at_ : PySem.W.findIn K (.ref C) f = some (some u)
  rel : RelV v u
  get : PySem.W.specialIn K u "__get__" = some none
  cp : PySem.W.copiedNames.contains f = false
structure Meth (K : PySem.W.Frag) (C : Addr) (m : Str) (f : Addr) : Prop where
  at_ : PySem.W.findIn K (.ref C) m = some (some (.ref f))
  fn : PySem.W.isFn K (.ref f) = true
  kp : PySem.W.keepIn K (.ref f) = true

section
variable {X : Cx} {pins : List (Addr × Obj)} {σ : St} {H : Hp} {s : Shared} {a C dx : Addr} {fs : List (Str × V)} {f : Str} {v : V} {A : Around} {E : Value → Shared → Prop}

theorem getattr_ok {b : Bool} {Q : Value → Shared → Prop} (I : Inv X pins σ H s) (e : H a = some (.ins C dx fs)) (c : Cls X.K C) (n : NoAttr X.K C f) (l : fs.lookup f = some v)
    (h : ∀ u s', Inv X pins σ H s' → RelV v u → Q u s') : wpAny (model X.prog X.w) A (getAttr (.ref a) f b) Q E s := by
  obtain ⟨mA, O, r, _, _, _⟩ := ins_get I.hok e
  obtain ⟨u, hu, ru⟩ := RelO.some_of (v := v) (o := mA f) (by rw [← l]; exact r f)
  exact get_map I.kIn O (c.get f) c.hd n hu (handed_of ru) (h u _ (I.tok _) ru)

theorem getmeth_ok {m : Str} {g : Addr} {pl : Sem Bool} {Q : Value × List Value → Shared → Prop} (I : Inv X pins σ H s) (e : H a = some (.ins C dx fs)) (c : Cls X.K C) (k : Meth X.K C m g) (l : fs.lookup m = none)
    (h : Q (.ref g, [.ref a]) s) : wpAny (model X.prog X.w) A (getMethod (.ref a) m pl) Q E s := by
  obtain ⟨mA, O, r, _, _, _⟩ := ins_get I.hok e
  have hn : mA m = none := RelO.none_of (by rw [← l]; exact r m)
  exact get_meth I.kIn O (c.get m) k.at_ k.fn hn h

theorem setattr_ok {y : V} {u : Value} {Q : Unit → Shared → Prop} (I : Inv X pins σ H s) (e : H a = some (.ins C dx fs)) (c : Cls X.K C) (n : NoAttr X.K C f) (hl : fs.length < 1000) (ry : RelV y u)
    (h : ∀ s', Inv X pins σ (upd H a (.ins C dx (putF f y fs))) s' → Q () s') : wpAny (model X.prog X.w) A (setAttr (.ref a) f u) Q E s := by
  obtain ⟨mA, O, r, wi, _, ho⟩ := ins_get I.hok e
  have hz : (fs.map (·.1)).length ≤ sizeLine := by rw [List.length_map, sizeLine_eq]; omega
  refine set_map I.kIn O c.sa c.po n.taker c.hd wi hz fun h' O' sb => h _ ?_
  have hd : ∃ o, h'.get? dx = some o := let ⟨o, _, _, e', _⟩ := O'.ns; ⟨o, e'⟩
  refine I.write (x := a) (e := dx) (by rw [e]; exact True.intro) (.inr ho) (fun b q hb z => (sb.2 b hb).trans z) hd ?_
  refine ⟨by rw [upd_ne O.ne]; exact ho, ?_, O.ne, O'.obj, _, O'.ns, fun g => ?_, fun g hg => ?_⟩
  · have := length_putF f y fs; omega
  · show RelO ((putF f y fs).lookup g) (if g = f then some u else mA g)
    rw [lookup_putF]
    by_cases q : g = f
    · rw [if_pos q, if_pos q]; exact ry
    · rw [if_neg q, if_neg q]; exact r g
  · by_cases q : g = f
    · rw [q]; exact (keys_putF f y fs).1
    · refine (keys_putF f y fs).2 g (wi g fun z => hg ?_)
      show (if g = f then some u else mA g) = none
      rw [if_neg q]; exact z

theorem Inv.made (I : Inv X pins σ H s) : Inv X pins σ (upd (upd H s.heap.objs.size (.own (s.heap.objs.size + 1))) (s.heap.objs.size + 1) (.ins C s.heap.objs.size []))
    { s with heap := (s.heap.push PySem.W.emptyDict).push (PySem.W.instObj C s.heap.objs.size) } := by
  have e1 : (s.heap.push PySem.W.emptyDict).get? s.heap.objs.size = some PySem.W.emptyDict := Heap.get?_push_size s.heap rfl
  have e2 : ((s.heap.push PySem.W.emptyDict).push (PySem.W.instObj C s.heap.objs.size)).get? (s.heap.objs.size + 1) = some (PySem.W.instObj C s.heap.objs.size) := by
    have := Heap.get?_push_size (s.heap.push PySem.W.emptyDict) (o := PySem.W.instObj C s.heap.objs.size) rfl
    rwa [Heap.size_push] at this
  have e3 : (s.heap.push PySem.W.emptyDict).Ns s.heap.objs.size (fun _ => none) := ⟨PySem.W.emptyDict, #[], _, e1, rfl, (fun e he => absurd he (by simp)), fun _ => rfl⟩
  have I1 := I.laid (a := s.heap.objs.size) (o := .own (s.heap.objs.size + 1)) (h' := s.heap.push PySem.W.emptyDict) (t' := s.toks) (fun b u q => Heap.get?_push_of_some _ q) (Nat.le_refl _) ⟨_, e1⟩
  refine I1.laid (a := s.heap.objs.size + 1) (o := .ins C s.heap.objs.size []) (t' := s.toks) (fun b u q => Heap.get?_push_of_some _ q) (Nat.le_of_eq (Heap.size_push _ _)) ?_
  have ne : s.heap.objs.size ≠ s.heap.objs.size + 1 := Nat.ne_of_lt (Nat.lt_succ_self _)
  refine ⟨by rw [upd_ne ne, upd_same], Nat.zero_le _, ne, e2, fun _ => none, (Heap.Ns1.of_empty e3).at fun o q => Heap.get?_push_of_some _ q, fun _ => True.intro, fun y hy => absurd rfl hy⟩

theorem attr_of {prog : Program} {w : World} {env : Env} {e : Expr} {f : Str} {pos : Pos} {s : Shared} {Q : Value → Shared → Prop} (hb : attributeBase e f env (eval e env) = eval e env)
    (h : wpAny (model prog w) A (eval e env) (fun o s₁ => wpAny (model prog w) A (getAttr o f true) Q E s₁) E s) : wpAny (model prog w) A (eval (.Attribute e f pos) env) Q E s :=
  Attribute_any_ h (by rw [arm_eval_Attribute, hb])
end

def tFld (K : PySem.W.Frag) (ta : TE) (f : Str) : TE := fun σ H Q => ta σ H fun x H1 => ∃ a C dx fs v, x = .ref a ∧ H1 a = some (.ins C dx fs) ∧ Cls K C ∧ NoAttr K C f ∧ fs.lookup f = some v ∧ Q v H1
def sFld (K : PySem.W.Frag) (ta tv : TE) (f : Str) : TS := fun D σ H => tv σ H fun y H1 => ta σ H1 fun x H2 => ∃ a C dx fs, x = .ref a ∧ H2 a = some (.ins C dx fs) ∧ Cls K C ∧ NoAttr K C f ∧ fs.length < 1000 ∧
  D.nx σ (upd H2 a (.ins C dx (putF f y fs)))
section
variable {X : Cx} {o e value : Expr} {f : Str} {pos pos' tpos : Pos} {ta tv : TE}
theorem pe_fld (he : PE X e ta) (hb : attributeBase e f X.env (eval e X.env) = eval e X.env) : PE X (.Attribute e f pos) (tFld X.K ta f) := by
  intro pins s σ H Q I h
  refine attr_of hb (thn (he pins s σ H _ I h) fun u s1 ⟨x, H1, I1, rx, a, C, dx, fs, v, ex, ea, c, n, l, q⟩ => ?_)
  subst ex
  obtain rfl : u = Value.ref a := rx
  exact getattr_ok I1 ea c n l fun u' s2 I2 ru => ⟨v, H1, I2, ru, q⟩
theorem ps_fld (ha : PE X o ta) (hv : PE X value tv) (hs : swapsWith value (some (.Attribute o f pos')) pos.line X.env = pure false) : PS X (.Assign [.Attribute o f pos'] value pos) (sFld X.K ta tv f) := by
  intro pins s σ H D I h
  refine plainObj_wpAny_Assign_Attribute (thn (hv pins s σ H _ I h) fun u s1 ⟨y, H1, I1, ry, q⟩ => thn (ha pins s1 σ H1 _ I1 q) fun ov s2 ⟨x, H2, I2, rx, a, C, dx, fs, ex, ea, c, n, l, q2⟩ => ?_) hs
  subst ex
  obtain rfl : ov = Value.ref a := rx
  exact setattr_ok I2 ea c n l ry fun s3 I3 => ⟨σ, _, I3, q2⟩
end

section
variable {X : Cx} {pins : List (Addr × Obj)} {σ : St} {H : Hp} {s : Shared} {A : Around} {E : Value → Shared → Prop} {Q : Value → Shared → Prop} {c : Value} {b : Bool}
inductive TyOf (K : PySem.W.Frag) (H : Hp) : V → Value → Prop where
  | non : TyOf K H .non (.type "NoneType")
  | bl (x : Bool) : TyOf K H (.bl x) (.type "bool")
  | int (i : Int) : TyOf K H (.int i) (.type "int")
  | str (x : Str) : TyOf K H (.str x) (.type "str")
  | flt (x : UInt64) : TyOf K H (.flt x) (.type "float")
  | lst {a : Addr} {xs : List V} (e : H a = some (.lst xs)) : TyOf K H (.ref a) (.type "list")
  | frz {a : Addr} {o : Obj} {xs : List V} (e : H a = some (.frz o (.lst xs))) : TyOf K H (.ref a) (.type "list")
  | tup {a : Addr} {xs : List V} (e : H a = some (.tup xs)) : TyOf K H (.ref a) (.type "tuple")
  | dK {a : Addr} {kvs : List (Key × V)} (e : H a = some (.dK kvs)) : TyOf K H (.ref a) (.type "dict")
  | dT {a : Addr} {kvs : List (List Key × V)} (e : H a = some (.dT kvs)) : TyOf K H (.ref a) (.type "dict")
  | ins {a C dx : Addr} {fs : List (Str × V)} (e : H a = some (.ins C dx fs)) (cl : Cls K C) (ha : PySem.W.findIn K (.ref C) "__class__" = some (some (.builtin "object.__class__")))
      (hn : PySem.W.specialIn K (.builtin "object.__class__") "__get__" = some (some (.builtin "getset_descriptor.__get__"))) (htk : PySem.W.takesIn K (.builtin "object.__class__") = some true)
      (hm : PySem.W.mroIn K C (.type "object") = some true) : TyOf K H (.ref a) (.ref C)
theorem isinst_ok {x : V} {u t : Value} (I : Inv X pins σ H s) (rx : RelV x u) (ty : TyOf X.K H x t) (e : PySem.W.kitOne X.K t c = some b) (h : ∀ tk, Q (.bool b) { s with toks := tk }) :
    wpAny (model X.prog X.w) A (call (.builtin "isinstance") [u, c]) Q E s := by
  cases ty with
  | non => cases (show u = Value.none from rx); exact PySem.W.kia_one PySem.W.kitx_none I.kIn True.intro e (fun z => nomatch z) h
  | bl y => cases (show u = Value.bool y from rx); exact PySem.W.kia_one PySem.W.kitx_bool I.kIn True.intro e (fun z => nomatch z) h
  | int i => obtain ⟨t, q⟩ := (show ∃ t, u = Value.int i t from rx); cases q; exact PySem.W.kia_one PySem.W.kitx_int I.kIn True.intro e (fun z => nomatch z) h
  | str y => obtain ⟨t, q⟩ := (show ∃ t, u = Value.str y t from rx); cases q; exact PySem.W.kia_one PySem.W.kitx_str I.kIn True.intro e (fun z => nomatch z) h
  | flt y => obtain ⟨t, q⟩ := (show ∃ t, u = Value.float y t from rx); cases q; exact PySem.W.kia_one PySem.W.kitx_float I.kIn True.intro e (fun z => nomatch z) h
  | @lst a xs ea =>
    cases (show u = Value.ref a from rx)
    obtain ⟨_, _, n, _, h1⟩ := (show ObjOk X.prog X.w H s.heap a (.lst xs) from I.hok a _ ea)
    exact PySem.W.kia_one PySem.W.kitx_list I.kIn ⟨_, h1, rfl⟩ e (fun z => nomatch z) h
  | @frz a ob xs ea =>
    cases (show u = Value.ref a from rx)
    obtain ⟨_, _, _, n, _, h1⟩ := (show ObjOk X.prog X.w H s.heap a (.frz ob (.lst xs)) from I.hok a _ ea)
    exact PySem.W.kia_one PySem.W.kitx_list I.kIn ⟨_, h1, rfl⟩ e (fun z => nomatch z) h
  | @tup a xs ea =>
    cases (show u = Value.ref a from rx)
    obtain ⟨_, _, _, p⟩ := (show ObjOk X.prog X.w H s.heap a (.tup xs) from I.hok a _ ea)
    obtain ⟨o, h1, h2, _⟩ := p
    exact PySem.W.kia_one PySem.W.kitx_tuple I.kIn ⟨o, h1, h2⟩ e (fun z => nomatch z) h
  | @dK a kvs ea =>
    cases (show u = Value.ref a from rx)
    obtain ⟨_, _, vs, _, p⟩ := (show ObjOk X.prog X.w H s.heap a (.dK kvs) from I.hok a _ ea)
    obtain ⟨o, es, ep, h1, h2, _⟩ := p
    exact PySem.W.kia_one PySem.W.kitx_dict I.kIn ⟨o, h1, h2.1⟩ e (fun z => nomatch z) h
  | @dT a kvs ea =>
    cases (show u = Value.ref a from rx)
    obtain ⟨_, _, xs, _, o, es, ep, h1, h2, _⟩ := (show ObjOk X.prog X.w H s.heap a (.dT kvs) from I.hok a _ ea)
    exact PySem.W.kia_one PySem.W.kitx_dict I.kIn ⟨o, h1, h2.1⟩ e (fun z => nomatch z) h
  | @ins a C dx fs ea cl ha hn htk hm =>
    cases (show u = Value.ref a from rx)
    obtain ⟨mA, O, _⟩ := ins_get I.hok ea
    obtain ⟨od, J, _⟩ := O.look
    exact PySem.W.kia_one (PySem.W.kitx_own (cl.get _) cl.hd ha hn htk hm) I.kIn J e (fun z => nomatch z) h
end
end L2

namespace L2
open PySem PySem.Spec PyProof.Rows

structure Room (k : Nat) (A : Around) : Prop where
  hd : A.handled = none
  dp : A.depth + 3 * k + 5 < recursionLimit
  un : A.units + 16 * k + 200 < cLine
theorem Room.mono {j k : Nat} {A : Around} (r : Room k A) (h : j ≤ k) : Room j A := ⟨r.hd, by have := r.dp; omega, by have := r.un; omega⟩
theorem Room.deeper {k : Nat} {A : Around} (r : Room (k + 1) A) (env : Env) : Room k (A.deeper env) :=
  ⟨r.hd, by have := r.dp; show A.depth + 1 + 3 * k + 5 < _; omega, by have := r.un; show A.units + 3 + 16 * k + 200 < _; omega⟩
theorem Room.in1 {k : Nat} {A : Around} (r : Room (k + 1) A) : Room k A.in1 :=
  ⟨r.hd, by have := r.dp; show A.depth + 3 * k + 5 < _; omega, by have := r.un; show A.units + 1 + 16 * k + 200 < _; omega⟩
theorem make_depth {A : Around} {C : Addr} {us : List Value} {kw : List (Str × Value)} : (A.under (.builtin "type.__call__" ⟨.ref C :: us, kw⟩)).depth = A.depth + 1 := by
  first | rfl | simp [Around.under, Code.weight, Code.isCreation, Code.isGuard, Code.isCaller, Code.frames, Code.isFrame, guardIds]
theorem make_units {A : Around} {C : Addr} {us : List Value} {kw : List (Str × Value)} : (A.under (.builtin "type.__call__" ⟨.ref C :: us, kw⟩)).units = A.units + 1 := by
  first | rfl | simp [Around.under, Code.cUnits, Code.frames, Code.isFrame]
theorem Room.make {k : Nat} {A : Around} (r : Room (k + 1) A) (C : Addr) (us : List Value) (kw : List (Str × Value)) : Room k (A.under (.builtin "type.__call__" ⟨.ref C :: us, kw⟩)) :=
  ⟨r.hd, by have := r.dp; rw [make_depth]; omega, by have := r.un; rw [make_units]; omega⟩
theorem Room.depth {k : Nat} {A : Around} (r : Room k A) : A.depth < recursionLimit := by have := r.dp; omega
theorem Room.units {k : Nat} {A : Around} (r : Room k A) : A.units + 64 < cLine := by have := r.un; omega
theorem Room.units0 {k : Nat} {A : Around} (r : Room k A) : A.units < cLine := by have := r.un; omega

def tNil : TA := fun _ H Q => Q [] H
def tCons (ta : TE) (tr : TA) : TA := fun σ H Q => ta σ H fun x H1 => tr σ H1 fun xs H2 => Q (x :: xs) H2
section
variable {X : Cx} {e : Expr} {es : List Expr} {te : TE} {t : TA} {pos : Pos}
theorem pa_nil : PA X [] tNil := fun _ _ _ _ H Q I h => Calls.spliced_nil ⟨[], H, I, .nil, h⟩
theorem pa_cons (ha : PE X e te) (hr : PA X es t) (hs : starEach (e :: es) X.env = (false, eval e X.env) :: starEach es X.env := by rfl) : PA X (e :: es) (tCons te t) := by
  intro pos pins s σ H Q I h
  rw [hs]
  show wpAny _ _ (spliced ((false, eval e X.env) :: backTo pos (starEach es X.env))) _ _ s
  refine Calls.spliced_cons (thn (ha pins s σ H _ I h) fun u s1 ⟨x, H1, I1, r1, q1⟩ => ?_)
  exact thn (hr pos pins s1 σ H1 _ I1 q1) fun us s2 ⟨xs, H2, I2, r2, q2⟩ => ⟨x :: xs, H2, I2, .cons r1 r2, q2⟩

def tTup (t : TA) : TE := fun σ H Q => t σ H fun xs H1 => xs.length ≤ sizeLine ∧ ∀ p, H1 p = none → Q (.ref p) (upd H1 p (.tup xs))
def tLst (t : TA) : TE := fun σ H Q => t σ H fun xs H1 => xs.length ≤ sizeLine ∧ ∀ p, H1 p = none → Q (.ref p) (upd H1 p (.lst xs))
theorem pe_tup {x1} (h : PA X es t) : PE X (.Tuple es x1 pos) (tTup t) := by
  intro pins s σ H Q I hq
  refine wpAny_Tuple_spliced (thn (h pos pins s σ H _ I hq) fun us s1 ⟨xs, H1, I1, r, z, q⟩ => ⟨by rw [← r.length]; exact z, ?_⟩)
  have hf : H1 s1.heap.objs.size = none := I1.hok.fresh (Nat.le_refl _)
  refine ⟨.ref s1.heap.objs.size, upd H1 s1.heap.objs.size (.tup xs), I1.laid (t' := s1.toks) (fun b u e => Heap.get?_push_of_some _ e) (Nat.le_refl _) ?_, rfl, q _ hf⟩
  exact ⟨z, us, r, ⟨_, Heap.get?_push_size _ rfl, rfl, _, rfl⟩⟩
theorem pe_lst (h : PA X es t) : PE X (.List es pos) (tLst t) := by
  intro pins s σ H Q I hq
  refine wpAny_List_spliced (thn (h pos pins s σ H _ I hq) fun us s1 ⟨xs, H1, I1, r, z, q⟩ => ⟨by rw [← r.length]; exact z, ?_⟩)
  have hf : H1 s1.heap.objs.size = none := I1.hok.fresh (Nat.le_refl _)
  refine ⟨.ref s1.heap.objs.size, upd H1 s1.heap.objs.size (.lst xs), I1.laid (t' := s1.toks) (fun b u e => Heap.get?_push_of_some _ e) (Nat.le_refl _) ?_, rfl, q _ hf⟩
  exact ⟨z, us, 0, r, Heap.get?_push_size _ rfl⟩
end

abbrev Sp := List V → Hp → VK → XK → Prop
abbrev CXT := List Env → Hp → Shared → XK → Value → Shared → Prop

structure Env0 (P : Program) (w : World) (K : PySem.W.Frag) (mg : Str → Option Value) (base : Heap) (A : Around) (outer : List Env) (s : Shared) (H : Hp) : Prop where
  frames : A.frames = some outer
  mod : Mod K mg base
  bs : ∀ b o, base.get? b = some o → s.heap.get? b = some o ∧ H b = none
  bsz : base.objs.size ≤ s.heap.objs.size
  funs : s.heap.FunFrames base outer
  frf : ∀ b ∈ frs outer, H b = none
  hok : HOk P w H s.heap
  bare : AllBare s.gens
def CE (outer : List Env) (P : Program) (w : World) (H : Hp) (s : Shared) (Q : VK) (u : Value) (s' : Shared) : Prop :=
  ∃ v H', s'.os = s.os ∧ AllBare s'.gens ∧ Un (frs outer) [] H H' s.heap s'.heap ∧ HOk P w H' s'.heap ∧ RelV v u ∧ Q v H'
def CR (CX : CXT) (outer : List Env) (P : Program) (w : World) (H : Hp) (s : Shared) (Q : VK) (E : XK) (r : Result) (s' : Shared) : Prop :=
  match r with
  | .ok (.ret u) => CE outer P w H s Q u s'
  | .ok _ => False
  | .error e => CX outer H s E e s'
structure FnOk (P : Program) (w : World) (K : PySem.W.Frag) (mg : Str → Option Value) (base : Heap) (CX : CXT) (k : Nat) (f : Addr) (fd : FuncData) (ps : List Str) (sp : Sp) : Prop where
  len : ∀ vs H Q E, sp vs H Q E → vs.length = ps.length
  run : ∀ (A : Around) (outer : List Env) (s : Shared) (H : Hp) (args : Args) (us : List Value) (vs : List V) (Q : VK) (E : XK), Room k A → Env0 P w K mg base A outer s H → BindsTo s fd args (ps.zip us) → Vals vs us → sp vs H Q E →
    codeAny (model P w) A (.call (.ref f) args) (CR CX outer P w H s Q E) s
theorem FnOk.mono {P : Program} {w : World} {K : PySem.W.Frag} {mg : Str → Option Value} {base : Heap} {CX : CXT} {j k : Nat} {f : Addr} {fd : FuncData} {ps : List Str} {sp : Sp} (F : FnOk P w K mg base CX j f fd ps sp) (h : j ≤ k) :
    FnOk P w K mg base CX k f fd ps sp := ⟨F.len, fun A outer s H args us vs Q E hr => F.run A outer s H args us vs Q E (hr.mono h)⟩
theorem FnOk.imp {P : Program} {w : World} {K : PySem.W.Frag} {mg : Str → Option Value} {base : Heap} {CX : CXT} {k : Nat} {f : Addr} {fd : FuncData} {ps : List Str} {sp sp' : Sp} (F : FnOk P w K mg base CX k f fd ps sp)
    (h : ∀ vs H Q E, sp' vs H Q E → sp vs H Q E) : FnOk P w K mg base CX k f fd ps sp' :=
  ⟨fun vs H Q E q => F.len vs H Q E (h _ _ _ _ q), fun A outer s H args us vs Q E hr he hb hv hs => F.run A outer s H args us vs Q E hr he hb hv (h _ _ _ _ hs)⟩

theorem Env0.make {P : Program} {w : World} {K : PySem.W.Frag} {mg : Str → Option Value} {base : Heap} {A : Around} {outer : List Env} {s : Shared} {H : Hp} (e : Env0 P w K mg base A outer s H) (C : Addr) (us : List Value) (kw : List (Str × Value)) :
    Env0 P w K mg base (A.under (.builtin "type.__call__" ⟨.ref C :: us, kw⟩)) outer s H := ⟨by first | exact e.frames | (simpa [Around.under, Code.envs, Code.isFrame, pushEnvs] using e.frames), e.mod, e.bs, e.bsz, e.funs, e.frf, e.hok, e.bare⟩
theorem Env0.in1 {P : Program} {w : World} {K : PySem.W.Frag} {mg : Str → Option Value} {base : Heap} {A : Around} {outer : List Env} {s : Shared} {H : Hp} (e : Env0 P w K mg base A outer s H) :
    Env0 P w K mg base A.in1 outer s H := ⟨e.frames, e.mod, e.bs, e.bsz, e.funs, e.frf, e.hok, e.bare⟩

section
variable {X : Cx} {pins : List (Addr × Obj)} {σ : St} {H : Hp} {s s' : Shared}
theorem Inv.env0 (I : Inv X pins σ H s) : Env0 X.prog X.w X.K X.mg X.base X.A X.stack s H :=
  ⟨I.ok.frames, I.ok.mod, I.bs, Nat.le_trans I.ok.bsz I.sz, I.stack, I.stkFree, I.hok, I.bare⟩
theorem Inv.after {Q : VK} {u : Value} (I : Inv X pins σ H s) (h : CE X.stack X.prog X.w H s Q u s') : EP X pins σ Q u s' := by
  obtain ⟨v, H', os, bare, un, hok, r, q⟩ := h
  obtain ⟨hh, g, d, t, os'⟩ := s'
  obtain rfl : os' = s.os := os
  exact ⟨v, H', I.call (h' := hh) (g' := g) (d' := d) (t' := t) (ch := []) un hok bare (fun b z => absurd z (by simp)), r, q⟩
end

def tCall (sp : Sp) (dvs : List V) (E : XK) (t : TA) : TE := fun σ H Q => t σ H fun vs H1 => sp (vs ++ dvs) H1 Q E
def tMeth (C : Addr) (m : Str) (sp : Sp) (dvs : List V) (E : XK) (ta : TE) (t : TA) : TE := fun σ H Q => ta σ H fun x H1 => ∃ a dx fs, x = .ref a ∧ H1 a = some (.ins C dx fs) ∧ fs.lookup m = none ∧
  t σ H1 fun vs H2 => sp (x :: (vs ++ dvs)) H2 Q E
def tMake (C : Addr) (sp : Sp) (dvs : List V) (E : XK) (t : TA) : TE := fun σ H Q => t σ H fun vs H1 => ∀ x dx, H1 x = none → H1 dx = none → dx ≠ x →
  sp (.ref x :: (vs ++ dvs)) (upd (upd H1 dx (.own x)) x (.ins C dx [])) (fun v H2 => v = .non ∧ Q (.ref x) H2) E

def Binds (K : PySem.W.Frag) (fd : FuncData) (ps : List Str) (ds : List Value) : Prop :=
  ∀ (s : Shared) (us : List Value), K.In s.heap → (us ++ ds).length = ps.length → BindsTo s fd ⟨us, []⟩ (ps.zip (us ++ ds))
theorem Binds.all {K : PySem.W.Frag} {fd : FuncData} {ps : List Str} (h : ∀ us : List Value, us.length = ps.length → bindArgs fd ⟨us, []⟩ = pure (ps.zip us)) : Binds K fd ps [] := fun s us _ hl => by
  rw [List.append_nil] at hl ⊢
  exact .of_eq (h us hl)

def Passes (CX : CXT) (X : Cx) (E : XK) : Prop := ∀ (pins : List (Addr × Obj)) (σ : St) (H : Hp) (s : Shared) (e : Value) (s' : Shared), Inv X pins σ H s → CX X.stack H s E e s' → X.xe e s'

section
variable {X : Cx} {CX : CXT} {k : Nat} {f C : Addr} {fd : FuncData} {ps : List Str} {sp : Sp} {dvs : List V} {ds : List Value} {E : XK} {x m : Str} {p pos apos : Pos} {e o : Expr} {es : List Expr} {ta : TE} {t : TA}

theorem run_fn {pins : List (Addr × Obj)} {σ : St} {H : Hp} {s : Shared} {Q : VK} {us : List Value} {vs : List V} (F : FnOk X.prog X.w X.K X.mg X.base CX k f fd ps sp) (hr : Room k X.A) (hb : Binds X.K fd ps ds) (hd : Vals dvs ds) (hx : Passes CX X E)
    (I : Inv X pins σ H s) (r : Vals vs us) (h : sp (vs ++ dvs) H Q E) : wpAny (model X.prog X.w) X.A (call (.ref f) us) (EP X pins σ Q) X.xe s := by
  have r2 : Vals (vs ++ dvs) (us ++ ds) := r.append hd
  have hl : (us ++ ds).length = ps.length := by rw [← r2.length]; exact F.len _ _ _ _ h
  refine wpAny_call (codeAny_mono (F.run X.A X.stack s H ⟨us, []⟩ (us ++ ds) (vs ++ dvs) Q E hr I.env0 (hb s us I.kIn hl) r2 h) fun r s' hq => ?_)
  cases r with
  | error e => exact hx pins σ H s e s' I hq
  | ok fl =>
    cases fl with
    | ret u => exact I.after hq
    | next => exact False.elim hq
    | brk => exact False.elim hq
    | cont => exact False.elim hq

theorem pe_call (F : FnOk X.prog X.w X.K X.mg X.base CX k f fd ps sp) (hr : Room k X.A) (hg : Gl X x) (hm : X.mg x = some (.ref f)) (hk : PySem.W.keepIn X.K (.ref f) = true) (hb : Binds X.K fd ps ds) (hd : Vals dvs ds) (hx : Passes CX X E)
    (ha : PA X (e :: es) t) (hdb : (x == ("__debug__" : Str)) = false := by decide) (he : starEach (e :: es) X.env = (false, eval e X.env) :: starEach es X.env := by rfl) (hpl : (backTo pos (starEach es X.env)).any (·.1) = false := by rfl) :
    PE X (.Call (.Name x p) (e :: es) [] pos) (tCall sp dvs E t) := by
  intro pins s σ H Q I h
  refine wpAny_Call_Name_kw (ld_glob I hg hm ?_ hdb)
  refine PySem.W.callWith_K (h₀ := X.base) I.ok.mod.kin hk (thn (ha pos pins s σ H _ I h) fun us s1 ⟨vs, H1, I1, r, q⟩ => ⟨I1.kIn, ?_⟩) he hpl
  exact run_fn F hr hb hd hx I1 r q
theorem pe_meth {pl : Sem Bool} (he : PE X o ta) (c : Cls X.K C) (hm : Meth X.K C m f) (F : FnOk X.prog X.w X.K X.mg X.base CX k f fd ps sp) (hr : Room k X.A) (hb : Binds X.K fd ps ds) (hd : Vals dvs ds) (hx : Passes CX X E) (ha : PA X (e :: es) t)
    (hst : starEach (e :: es) X.env = (false, eval e X.env) :: starEach es X.env := by rfl) (hpl : (backTo pos (starEach es X.env)).any (·.1) = false := by rfl)
    (ht : eval (.Call (.Attribute o m apos) (e :: es) [] pos) X.env = (do
      let ov ← eval o X.env
      standAt apos.atName
      let (f, first) ← holding [ov] (getMethod ov m pl)
      callWith pos f first (backTo pos (starEach (e :: es) X.env)) (backToKw pos (keywordEach [] X.env))) := by rfl) :
    PE X (.Call (.Attribute o m apos) (e :: es) [] pos) (tMeth C m sp dvs E ta t) := by
  intro pins s σ H Q I h
  refine PySem.W.methodCall_KW (pl := pl) (thn (he pins s σ H _ I h) fun u s1 ⟨x, H1, I1, rx, a, dx, fs, ex, ea, l, q⟩ => ?_) ht
  subst ex
  obtain rfl : u = Value.ref a := rx
  refine getmeth_ok I1 ea c hm l ?_
  refine PySem.W.callWith_K (first := [.ref a]) (h₀ := X.base) I.ok.mod.kin hm.kp (thn (ha pos pins s1 σ H1 _ I1 q) fun us s2 ⟨vs, H2, I2, r, q2⟩ => ⟨I2.kIn, ?_⟩) hst hpl
  exact run_fn (us := .ref a :: us) (vs := .ref a :: vs) F hr hb hd hx I2 (.cons rfl r) q2
theorem pe_meth0 {pl : Sem Bool} (he : PE X o ta) (c : Cls X.K C) (hm : Meth X.K C m f) (F : FnOk X.prog X.w X.K X.mg X.base CX k f fd ps sp) (hr : Room k X.A) (hb : Binds X.K fd ps ds) (hd : Vals dvs ds) (hx : Passes CX X E)
    (ht : eval (.Call (.Attribute o m apos) [] [] pos) X.env = (do
      let ov ← eval o X.env
      standAt apos.atName
      let (f, first) ← holding [ov] (getMethod ov m pl)
      callWith pos f first (backTo pos (starEach [] X.env)) (backToKw pos (keywordEach [] X.env))) := by rfl) :
    PE X (.Call (.Attribute o m apos) [] [] pos) (tMeth C m sp dvs E ta tNil) := by
  intro pins s σ H Q I h
  refine PySem.W.methodCall_KW (pl := pl) (thn (he pins s σ H _ I h) fun u s1 ⟨x, H1, I1, rx, a, dx, fs, ex, ea, l, q⟩ => ?_) ht
  subst ex
  obtain rfl : u = Value.ref a := rx
  refine getmeth_ok I1 ea c hm l ?_
  exact PySem.W.callWith_K0 (first := [.ref a]) I1.kIn hm.kp (run_fn (us := [.ref a]) (vs := [.ref a]) F hr hb hd hx I1 (.cons rfl .nil) q)

structure Mk (K : PySem.W.Frag) (C f : Addr) : Prop where
  makes : PySem.W.makesIn K C = true
  init : PySem.W.findIn K (.ref C) "__init__" = some (some (.ref f))
  fn : PySem.W.isFn K (.ref f) = true
  kp : PySem.W.keepIn K (.ref C) = true

theorem run_make {pins : List (Addr × Obj)} {σ : St} {H : Hp} {s : Shared} {Q : VK} {us : List Value} {vs : List V} (M : Mk X.K C f) (F : FnOk X.prog X.w X.K X.mg X.base CX k f fd ps sp) (hr : Room (k + 1) X.A) (hb : Binds X.K fd ps ds) (hd : Vals dvs ds)
    (hx : Passes CX X E) (I : Inv X pins σ H s) (r : Vals vs us)
    (h : ∀ x dx, H x = none → H dx = none → dx ≠ x → sp (.ref x :: (vs ++ dvs)) (upd (upd H dx (.own x)) x (.ins C dx [])) (fun v H2 => v = .non ∧ Q (.ref x) H2) E) :
    wpAny (model X.prog X.w) X.A (call (.ref C) us) (EP X pins σ Q) X.xe s := by
  have hq := h (s.heap.objs.size + 1) s.heap.objs.size (I.hok.fresh (Nat.le_succ _)) (I.hok.fresh (Nat.le_refl _)) (Nat.ne_of_lt (Nat.lt_succ_self _))
  have I2 := Inv.made (C := C) I
  have r2 : Vals (V.ref (s.heap.objs.size + 1) :: (vs ++ dvs)) (Value.ref (s.heap.objs.size + 1) :: (us ++ ds)) := .cons rfl (r.append hd)
  have hl : (Value.ref (s.heap.objs.size + 1) :: us ++ ds).length = ps.length := by
    have e := r2.length
    rw [F.len _ _ _ _ hq] at e
    exact e.symm
  refine wpAny_call (make_map (f := f) I.kIn M.makes M.init (beq_iff_eq.mp M.fn) (codeAny_mono (F.run _ X.stack _ _ ⟨Value.ref (s.heap.objs.size + 1) :: us, []⟩ (Value.ref (s.heap.objs.size + 1) :: (us ++ ds)) _ _ E (hr.make C us [])
    (I2.env0.make C us []) (hb _ (Value.ref (s.heap.objs.size + 1) :: us) I2.kIn hl) r2 hq) fun r s' hq' => ?_))
  cases r with
  | error e => exact hx pins σ _ _ e s' I2 hq'
  | ok fl =>
    cases fl with
    | ret u =>
      obtain ⟨v, H', I3, rv, ev, q3⟩ := I2.after hq'
      subst ev
      exact ⟨rv, ⟨V.ref (s.heap.objs.size + 1), H', I3, rfl, q3⟩⟩
    | next => exact False.elim hq'
    | brk => exact False.elim hq'
    | cont => exact False.elim hq'
theorem pe_make0 (M : Mk X.K C f) (F : FnOk X.prog X.w X.K X.mg X.base CX k f fd ps sp) (hr : Room (k + 1) X.A) (hg : Gl X x) (hm : X.mg x = some (.ref C)) (hb : Binds X.K fd ps ds) (hd : Vals dvs ds) (hx : Passes CX X E)
    (hdb : (x == ("__debug__" : Str)) = false := by decide) : PE X (.Call (.Name x p) [] [] pos) (tMake C sp dvs E tNil) := by
  intro pins s σ H Q I h
  refine wpAny_Call_Name_kw (ld_glob I hg hm ?_ hdb)
  exact PySem.W.callWith_K0 I.kIn M.kp (run_make (us := []) M F hr hb hd hx I .nil h)
end

def PK (X : Cx) (kws : List Keyword) (t : TA) : Prop :=
  ∀ (pos : Pos) (pins : List (Addr × Obj)) (s : Shared) (σ : St) (H : Hp) (Q : List V → Hp → Prop), Inv X pins σ H s → t σ H Q → wpAny (model X.prog X.w) X.A (evalAll ((backToKw pos (keywordEach kws X.env)).map (·.2))) (AP X pins σ Q) X.xe s
section
variable {X : Cx} {CX : CXT} {k : Nat} {f C : Addr} {fd : FuncData} {ps ks : List Str} {sp : Sp} {E : XK} {x m : Str} {p pos apos kpos : Pos} {e o : Expr} {es : List Expr} {kws : List Keyword} {te ta : TE} {t tk : TA} {nm : Option Str}
theorem pk_nil : PK X [] tNil := fun _ _ _ _ H Q I h => wpAny_evalAll_nil ⟨[], H, I, .nil, h⟩
theorem pk_cons (ha : PE X e te) (hr : PK X kws t) : PK X (⟨nm, e, kpos⟩ :: kws) (tCons te t) := by
  intro pos pins s σ H Q I h
  show wpAny _ _ (evalAll ((do let v ← eval e X.env; standAt pos; pure v) :: (backToKw pos (keywordEach kws X.env)).map (·.2))) _ _ s
  refine wpAny_evalAll_cons (wpAny_bind (thn (ha pins s σ H _ I h) fun u s1 ⟨x, H1, I1, r1, q1⟩ => wpAny_bind (wpAny_standAt (wpAny_pure ?_))))
  exact thn (hr pos pins s1 σ H1 _ I1 q1) fun us s2 ⟨xs, H2, I2, r2, q2⟩ => ⟨x :: xs, H2, I2, .cons r1 r2, q2⟩

structure KBinds (K : PySem.W.Frag) (fd : FuncData) (ps ks : List Str) (g : List Value → List Value → List Value) (gV : List V → List V → List V) : Prop where
  to : ∀ (s : Shared) (us ws : List Value), K.In s.heap → (g us ws).length = ps.length → BindsTo s fd ⟨us, ks.zip ws⟩ (ps.zip (g us ws))
  rel : ∀ {vs : List V} {us : List Value} {zs : List V} {ws : List Value}, Vals vs us → Vals zs ws → Vals (gV vs zs) (g us ws)
variable {g : List Value → List Value → List Value} {gV : List V → List V → List V}
end

structure FnScope (N P : List Str) (sc : Scope) : Prop where
  kind : sc.kind = .function
  co : sc.isCoroutine = false
  gen : sc.isGenerator = false
  nd : N.Nodup
  pre : N.take P.length = P
  par : ∀ x ∈ P, sc.names.lookup x = some .local ∨ sc.names.lookup x = some .cell
  nofree : ∀ y ∈ sc.names, y.2 ≠ .free

theorem bindL_out {kindOf : Str → Option NameKind} {x : Str} : ∀ {binds : List (Str × Value)} {m : Str → Option Value}, (∀ v, (x, v) ∉ binds) → bindL kindOf binds m x = m x
  | [], _, _ => rfl
  | (n, v) :: r, m, h => by
    unfold bindL
    rw [bindL_out fun w hw => h w (List.mem_cons_of_mem _ hw)]
    split
    · have : x ≠ n := by rintro rfl; exact h v List.mem_cons_self
      simp [this]
    · rfl
theorem bindC_out {kindOf : Str → Option NameKind} {x : Str} : ∀ {binds : List (Str × Value)} {m : Str → Option Value}, (∀ v, (x, v) ∉ binds) → bindC kindOf binds m x = m x
  | [], _, _ => rfl
  | (n, v) :: r, m, h => by
    unfold bindC
    rw [bindC_out fun w hw => h w (List.mem_cons_of_mem _ hw)]
    split
    · rfl
    · have : x ≠ n := by rintro rfl; exact h v List.mem_cons_self
      simp [this]
theorem bindL_get {kindOf : Str → Option NameKind} {x : Str} {v : Value} : ∀ {P : List Str} {vs : List Value} {i : Nat} {m : Str → Option Value}, P.Nodup → P[i]? = some x → vs[i]? = some v → kindOf x = some .local →
    bindL kindOf (P.zip vs) m x = some v
  | [], _, _, _, _, h, _, _ => by simp at h
  | _ :: _, [], _, _, _, _, h, _ => by simp at h
  | p :: P, w :: vs, 0, m, nd, h1, h2, hk => by
    simp at h1 h2; subst h1; subst h2
    show bindL kindOf ((p, w) :: P.zip vs) m p = _
    unfold bindL
    rw [bindL_out fun v hv => (List.nodup_cons.mp nd).1 (List.of_mem_zip hv).1, if_pos hk]
    simp
  | p :: P, w :: vs, i + 1, m, nd, h1, h2, hk => by
    show bindL kindOf ((p, w) :: P.zip vs) m x = _
    unfold bindL
    exact bindL_get (i := i) (List.nodup_cons.mp nd).2 (by simpa using h1) (by simpa using h2) hk
theorem bindC_get {kindOf : Str → Option NameKind} {x : Str} {v : Value} : ∀ {P : List Str} {vs : List Value} {i : Nat} {m : Str → Option Value}, P.Nodup → P[i]? = some x → vs[i]? = some v → kindOf x ≠ some .local →
    bindC kindOf (P.zip vs) m x = some v
  | [], _, _, _, _, h, _, _ => by simp at h
  | _ :: _, [], _, _, _, _, h, _ => by simp at h
  | p :: P, w :: vs, 0, m, nd, h1, h2, hk => by
    simp at h1 h2; subst h1; subst h2
    show bindC kindOf ((p, w) :: P.zip vs) m p = _
    unfold bindC
    rw [bindC_out fun v hv => (List.nodup_cons.mp nd).1 (List.of_mem_zip hv).1, if_neg hk]
    simp
  | p :: P, w :: vs, i + 1, m, nd, h1, h2, hk => by
    show bindC kindOf ((p, w) :: P.zip vs) m x = _
    unfold bindC
    exact bindC_get (i := i) (List.nodup_cons.mp nd).2 (by simpa using h1) (by simpa using h2) hk

def start (N : List Str) (vs : List V) : St := vs.map some ++ List.replicate (N.length - vs.length) none

def cxOf (CX : CXT) (P : Program) (w : World) (K : PySem.W.Frag) (mg : Str → Option Value) (base : Heap) (N : List Str) (qual : Str) (scope : Scope) (f : Addr) (cd : Value) (A : Around) (outer : List Env) (s : Shared) (H : Hp) (E : XK) : Cx where
  prog := P
  w := w
  K := K
  mg := mg
  base := base
  A := A.deeper (envOfC qual scope s.heap.objs.size f cd)
  N := N
  s₀ := s
  H₀ := H
  env := envOfC qual scope s.heap.objs.size f cd
  outer := outer
  stack := envOfC qual scope s.heap.objs.size f cd :: outer
  ex := []
  calm := true
  fn := fun _ => true
  pn := []
  xe := fun e s' => wpAny (model P w) (A.deeper (envOfC qual scope s.heap.objs.size f cd)) (leaving (envOfC qual scope s.heap.objs.size f cd) e) (fun _ s'' => CX outer H s E e s'') (fun e' s'' => CX outer H s E e' s'') s'

theorem cell_has {sc : Scope} {n : Nat} {x : Str} (h : sc.names.lookup x = some .cell) : ∃ c, (cellsFrom n sc.names []).lookup x = some c := by
  have q := PySem.W.cellsFrom_some sc.names n [] (.inl h)
  exact Option.isSome_iff_exists.mp q

theorem inv_start {CX : CXT} {P : Program} {w : World} {K : PySem.W.Frag} {mg : Str → Option Value} {base : Heap} {N ps : List Str} {qual : Str} {scope : Scope} {f : Addr} {cd : Value} {A : Around} {outer : List Env} {s s1 : Shared} {H : Hp} {E : XK} {us : List Value} {vs : List V}
    (S : FnScope N ps scope) (hd : A.handled = none) (e0 : Env0 P w K mg base A outer s H) (hl : vs.length = ps.length) (r : Vals vs us)
    (x : InCallC s s.heap.objs.size (bindL (envOfC qual scope s.heap.objs.size f cd).kindOf (ps.zip us) fun _ => none) (cellsFrom (s.heap.objs.size + 1) scope.names []) (bindC (envOfC qual scope s.heap.objs.size f cd).kindOf (ps.zip us) fun _ => none) s1) :
    Inv (cxOf CX P w K mg base N qual scope f cd A outer s H E) [] (start N vs) H s1 := by
  have hpl : ps.length ≤ N.length := by have := congrArg List.length S.pre; rw [List.length_take] at this; omega
  obtain ⟨h1, tk, rfl, hk⟩ := x.done
  have noA : ∀ b : Addr, b ∉ (cxOf CX P w K mg base N qual scope f cd A outer s H E).ex := fun b z => absurd (show b ∈ ([] : List Addr) from z) (by simp)
  refine ⟨⟨e0.mod, S.kind, rfl, rfl, Nat.le_refl _, fun y z c h1 h2 => ?_, fun y hy => ?_, fun y c _ h => ?_, fun _ => hd, Around.frames_deeper e0.frames, .inr ⟨rfl, rfl⟩, fun b z => absurd z (noA b), e0.bs, e0.bsz, fun b _ _ => noA b, fun b z => absurd z (noA b), e0.funs, e0.frf⟩,
    rfl, e0.bare, Un.kept hk, ⟨_, x.toInCall.ns, fun i y v h1 h2 h3 => ?_⟩, fun y c h => ⟨_, x.cell y c h⟩, e0.hok.fresh (Nat.le_refl _), fun y c h => ?_, fun p hp => absurd (show p ∈ ([] : List (Addr × Obj)) from hp) (by simp), e0.hok.kept hk, ?_⟩
  · exact name_of_addr x.apart (PySem.mem_of_lookup h1) (PySem.mem_of_lookup h2)
  · have hy : scope.names.lookup y = some .cell ∨ scope.names.lookup y = some .free := hy
    rcases hy with hy | hy
    · exact cell_has hy
    · exact absurd rfl (S.nofree _ (PySem.mem_of_lookup hy))
  · exact Nat.le_of_lt (x.above y c (PySem.mem_of_lookup h))
  · have hi : i < vs.length := by
      unfold start at h2
      by_cases hi : i < vs.length
      · exact hi
      · rw [List.getElem?_append_right (by simpa using hi)] at h2
        rw [List.getElem?_replicate] at h2
        split at h2 <;> cases h2
    have ha : vs[i]? = some v := by
      unfold start at h2
      rw [List.getElem?_append_left (by simpa using hi), List.getElem?_map] at h2
      cases e : vs[i]? with
      | none => rw [e] at h2; cases h2
      | some a => rw [e] at h2; cases h2; rfl
    obtain ⟨u, hu, rv⟩ := r.get ha
    have hp : ps[i]? = some y := by
      rw [← S.pre, List.getElem?_take_of_lt (by omega)]; exact h1
    have ndP : ps.Nodup := by rw [← S.pre]; exact S.nd.sublist (List.take_sublist _ _)
    refine ⟨u, rv, ?_⟩
    rcases S.par y (List.mem_of_getElem? hp) with k | k
    · exact .inl ⟨k, bindL_get ndP hp hu k⟩
    · obtain ⟨c, e⟩ := cell_has (n := s.heap.objs.size + 1) k
      refine .inr ⟨.inl k, c, e, ?_⟩
      have q := x.cell y c e
      rw [bindC_get ndP hp hu (by show scope.names.lookup y ≠ _; rw [k]; decide)] at q
      exact q
  · exact e0.hok.fresh (Nat.le_of_lt (x.above y c (PySem.mem_of_lookup h)))
  · unfold start
    show _ = N.length
    rw [List.length_append, List.length_map, List.length_replicate]
    omega

theorem fn_of {CX : CXT} {P : Program} {w : World} {K : PySem.W.Frag} {mg : Str → Option Value} {base : Heap} {k : Nat} {f : Addr} {name qual : Str} {params : Arguments} {body : List Stmt} {scope : Scope} {dV kV doc pm cdv ct oc : Value} {an od : Option Addr}
    {osl : Array (Option Value)} {N ps : List Str} {sp : Sp} (lk : K.lookup f = some ⟨oc, od, .func (PySem.W.fnOf name qual params body scope dV kV doc pm an cdv ct), osl⟩) (hcd : PySem.W.codeIn K cdv qual = true) (S : FnScope N ps scope)
    (len : ∀ vs H Q E, sp vs H Q E → vs.length = ps.length)
    (hbody : ∀ (A : Around) (outer : List Env) (s : Shared) (H : Hp) (vs : List V) (Q : VK) (E : XK), Room k (A.deeper (envOfC qual scope s.heap.objs.size f cdv)) → sp vs H Q E →
      ∃ t, PSs (cxOf CX P w K mg base N qual scope f cdv A outer s H E) body t ∧ t { nx := fun _ H' => Q .non H', rt := Q } (start N vs) H) :
    FnOk P w K mg base CX (k + 1) f (PySem.W.fnOf name qual params body scope dV kV doc pm an cdv ct) ps sp := by
  refine ⟨len, fun A outer s H args us vs Q E hr e0 hb r hsp => ?_⟩
  have hl := len _ _ _ _ hsp
  have KX : K.In s.heap := e0.mod.kin.keeps fun b o e => (e0.bs b o e).1
  have lim : s.heap.NoLimit := e0.mod.nolimit.keeps fun b o e => (e0.bs b o e).1
  have hkind : ∀ y ∈ ps.zip us, scope.names.lookup y.1 = some .local ∨ (scope.names.lookup y.1 = some .cell ∧ ((cellsFrom (s.heap.objs.size + 1) scope.names []).lookup y.1).isSome = true) := fun ⟨n, v⟩ hy => by
    rcases S.par n (List.of_mem_zip hy).1 with q | q
    · exact .inl q
    · exact .inr ⟨q, PySem.W.cellsFrom_some _ _ _ (.inl q)⟩
  refine codeAny_call_function hr.depth (KX _ _ lk) rfl S.co S.gen rfl (PySem.W.codeRec_of KX hcd) (hb _ _ _ _ ?_)
  refine wpAny_newFunctionEnv_cells S.kind hkind fun env he s1 x => ?_
  subst he
  refine ⟨lim.keeps x.toInCall.keep, codeAny_func ?_⟩
  obtain ⟨t, ht, hq⟩ := hbody A outer s H vs Q E (hr.deeper _) hsp
  have I : Inv (cxOf CX P w K mg base N qual scope f cdv A outer s H E) [] (start N vs) H s1 := inv_start S hr.hd e0 hl r x
  refine wpAny_mono (ht [] s1 (start N vs) H _ I hq) (fun fl s' hs => ?_) fun e s' hs => hs
  have fin : ∀ {σ' : St} {H' : Hp} {v : V} {u : Value}, Inv (cxOf CX P w K mg base N qual scope f cdv A outer s H E) [] σ' H' s' → RelV v u → Q v H' → CE outer P w H s Q u s' :=
    fun {σ' H' v u} J rv q => ⟨v, H', J.os, J.bare, J.base, J.hok, rv, q⟩
  cases fl with
  | ret u =>
    obtain ⟨v, σ', H', J, rv, q⟩ := hs
    exact fin J rv q
  | next =>
    obtain ⟨σ', H', J, q⟩ := hs
    exact fin (v := V.non) (u := Value.none) J rfl q
  | brk =>
    obtain ⟨_, _, _, q⟩ := hs
    exact False.elim q
  | cont =>
    obtain ⟨_, _, _, q⟩ := hs
    exact False.elim q
end L2

namespace L2
open PySem PySem.Spec PyProof.Rows
section
variable {X : Cx} {x : Str} {p pos : Pos} {e : Expr} {es : List Expr} {t : TA} {id T : String} {r : List V → Hp → VK → Prop}

def tCB (r : List V → Hp → VK → Prop) (t : TA) : TE := fun σ H Q => t σ H fun vs H1 => r vs H1 Q
theorem pe_callB (hc : CallR X (.builtin id) r) (hg : Gl X x) (hm : X.mg x = none) (hv : bootBuiltins x = some (.builtin id)) (ha : PA X (e :: es) t) (hn : x ≠ "__name__" := by decide) (hdb : (x == ("__debug__" : Str)) = false := by decide)
    (he : starEach (e :: es) X.env = (false, eval e X.env) :: starEach es X.env := by rfl) (hpl : (backTo pos (starEach es X.env)).any (·.1) = false := by rfl) : PE X (.Call (.Name x p) (e :: es) [] pos) (tCB r t) := by
  intro pins s σ H Q I h
  refine wpAny_Call_Name_kw (ld_blt I hg hm hv ?_ hn hdb)
  exact PyProof.Rows.callWith_builtin1 (thn (ha pos pins s σ H _ I h) fun us s1 ⟨vs, H1, I1, r1, q1⟩ => hc pins s1 σ H1 vs us Q I1 r1 q1) he hpl
theorem pe_callTy (hc : CallR X (.type T) r) (hg : Gl X x) (hm : X.mg x = none) (hv : bootBuiltins x = some (.type T)) (ha : PA X (e :: es) t) (hn : x ≠ "__name__" := by decide) (hdb : (x == ("__debug__" : Str)) = false := by decide)
    (he : starEach (e :: es) X.env = (false, eval e X.env) :: starEach es X.env := by rfl) (hpl : (backTo pos (starEach es X.env)).any (·.1) = false := by rfl) : PE X (.Call (.Name x p) (e :: es) [] pos) (tCB r t) := by
  intro pins s σ H Q I h
  refine wpAny_Call_Name_kw (ld_blt I hg hm hv ?_ hn hdb)
  exact PyProof.Rows.callWith_type1 (thn (ha pos pins s σ H _ I h) fun us s1 ⟨vs, H1, I1, r1, q1⟩ => hc pins s1 σ H1 vs us Q I1 r1 q1) he hpl
end
end L2

namespace HT
open PySem PyProof.Rows

section
open PySem.SeqAt
open PySem.AutoSeq1 (wpAny_loadPart')
open PySem.MeetsSeq PySem.MeetsSeq2 PySem.MeetsSeq3

end

section
variable {prog : Program} {w : World} {A : Around} {E : Value → Shared → Prop} {s : Shared}

def sIx (n d : Nat) : Option Int → Nat
  | none => d
  | some v => if v < 0 then (v + (n : Int)).toNat else min v.toNat n
theorem sIx_none (n d : Nat) : sIx n d none = d := rfl
theorem sIx_nat (n d k : Nat) : sIx n d (some (k : Int)) = min k n := by
  show (if (k : Int) < 0 then ((k : Int) + (n : Int)).toNat else min (k : Int).toNat n) = min k n
  rw [if_neg (by omega), Int.toNat_natCast]
end
end HT

namespace L2
open PySem PySem.Spec PyProof.Rows

abbrev TO := St → Hp → (Option Int → Hp → Prop) → Prop
def PO (X : Cx) (e : Option Expr) (t : TO) : Prop :=
  ∀ (pins : List (Addr × Obj)) (s : Shared) (σ : St) (H : Hp) (Q : Option Int → Hp → Prop), Inv X pins σ H s → t σ H Q →
    wpAny (model X.prog X.w) X.A (evalPart e X.env) (fun u s' => ∃ o H', Inv X pins σ H' s' ∧ IsPart u o ∧ Q o H') X.xe s
def tNoPart : TO := fun _ H Q => Q none H
def tPart (t : TE) : TO := fun σ H Q => t σ H fun x H1 => ∃ i, x = .int i ∧ Q (some i) H1

section
variable {X : Cx} {e : Expr} {te : TE} {lo hi : Option Expr} {tl th : TO} {pos p2 : Pos}

theorem po_none : PO X none tNoPart := by
  intro pins s σ H Q I h
  rw [evalPart_none]
  exact wpAny_pure ⟨none, H, I, .none, h⟩
theorem po_some (h : PE X e te) : PO X (some e) (tPart te) := by
  intro pins s σ H Q I hw
  rw [evalPart_some]
  refine thn (h pins s σ H _ I hw) fun u s1 ⟨x, H1, I1, r1, q1⟩ => ?_
  obtain ⟨i, rfl, q⟩ := q1
  obtain ⟨t, rfl⟩ := r1
  exact ⟨some i, H1, I1, .int i t, q⟩

def SlR (X : Cx) (r : V → Option Int → Option Int → Hp → VK → Prop) : Prop :=
  ∀ (pins : List (Addr × Obj)) (s : Shared) (σ : St) (H : Hp) (x : V) (v vl vu : Value) (lo hi : Option Int) (sl : Addr) (Q : VK), Inv X pins σ H s → RelV x v → s.heap.IsSliceOf sl vl vu .none → IsPart vl lo → IsPart vu hi → r x lo hi H Q →
    ∃ T id, typeLookup (.type T) "__getitem__" = pure (some (.builtin id)) ∧ s.TypeIs v T ∧ wpAny (model X.prog X.w) X.A (getItem v (.ref sl)) (EP X pins σ Q) X.xe s
theorem SlR.or {r r' : V → Option Int → Option Int → Hp → VK → Prop} (h : SlR X r) (h' : SlR X r') : SlR X (fun x lo hi H Q => r x lo hi H Q ∨ r' x lo hi H Q) := by
  intro pins s σ H x v vl vu lo hi sl Q I rx hs pl pu q
  rcases q with q | q
  · exact h pins s σ H x v vl vu lo hi sl Q I rx hs pl pu q
  · exact h' pins s σ H x v vl vu lo hi sl Q I rx hs pl pu q
def tSl (r : V → Option Int → Option Int → Hp → VK → Prop) (te : TE) (tl th : TO) : TE := fun σ H Q => te σ H fun x H1 => tl σ H1 fun l H2 => th σ H2 fun u H3 => r x l u H3 Q
theorem pe_slice {r : V → Option Int → Option Int → Hp → VK → Prop} (hr : SlR X r) (he : PE X e te) (hl : PO X lo tl) (hu : PO X hi th) : PE X (.Subscript e (.Slice lo hi none p2) pos) (tSl r te tl th) := by
  intro pins s σ H Q I h
  refine Subscript_ (thn (he pins s σ H _ I h) fun v s1 ⟨x, H1, I1, r1, q1⟩ => ?_)
  refine wpAny_Slice (thn (hl pins s1 σ H1 _ I1 q1) fun vl s2 ⟨l, H2, I2, pl, q2⟩ => thn (hu pins s2 σ H2 _ I2 q2) fun vu s3 ⟨u, H3, I3, pu, q3⟩ => ?_)
  rw [evalPart_none]
  refine wpAny_pure ?_
  have I4 : Inv X pins σ H3 { s3 with heap := s3.heap.push { cls := .type "slice", data := .fields #[vl, vu, .none] } } := I3.kept (t' := s3.toks) fun b ob q => Heap.get?_push_of_some _ q
  obtain ⟨T, id, hT, ht, hg⟩ := hr pins { s3 with heap := s3.heap.push { cls := .type "slice", data := .fields #[vl, vu, .none] } } σ H3 x v vl vu l u s3.heap.objs.size Q I4 r1 (Heap.IsSliceOf.new ..) pl pu q3
  show wpAny (model X.prog X.w) X.A (subscriptTail e (.Slice lo hi none p2) v (.ref s3.heap.objs.size)) (EP X pins σ Q) X.xe { s3 with heap := s3.heap.push { cls := .type "slice", data := .fields #[vl, vu, .none] } }
  exact tail_any (ops := [.ref s3.heap.objs.size, v]) ht hT hg (by with_unfolding_all rfl)

def cutV (xs : List V) (lo hi : Option Int) : List V := (xs.drop (HT.sIx xs.length 0 lo)).take (HT.sIx xs.length xs.length hi - HT.sIx xs.length 0 lo)
theorem cutV_length (xs : List V) (lo hi : Option Int) : (cutV xs lo hi).length ≤ xs.length := by
  unfold cutV
  rw [List.length_take, List.length_drop]
  omega
theorem Vals.nil_iff {xs : List V} {us : List Value} (r : Vals xs us) : us = [] ↔ xs = [] := by
  cases r with
  | nil => simp
  | cons _ _ => simp
end
end L2

namespace L2
open PySem PySem.Spec PyProof.Rows

def ixN (n : Nat) (i : Int) : Option Nat := if 0 ≤ i then (if i < n then some i.toNat else none) else if -(n : Int) ≤ i then some (i + n).toNat else none
def atI {α : Type} (xs : List α) (i : Int) : Option α := (ixN xs.length i).bind fun j => xs[j]?
theorem ixN_seq {n : Nat} {i : Int} {j : Nat} (h : ixN n i = some j) : seqIndex? i n = some j ∧ j < n ∧ -(n : Int) ≤ i ∧ i < n := by
  unfold ixN at h
  by_cases h0 : 0 ≤ i
  · rw [if_pos h0] at h
    by_cases h1 : i < n
    · rw [if_pos h1] at h
      have e : i.toNat = j := Option.some.inj h
      exact ⟨by rw [seqIndex_of h0 h1, e], by omega, by omega, h1⟩
    · rw [if_neg h1] at h; cases h
  · rw [if_neg h0] at h
    by_cases h1 : -(n : Int) ≤ i
    · rw [if_pos h1] at h
      have e : (i + n).toNat = j := Option.some.inj h
      exact ⟨by rw [seqIndex_neg (by omega) h1, e], by omega, h1, by omega⟩
    · rw [if_neg h1] at h; cases h
theorem atI_get {α : Type} {xs : List α} {i : Int} {v : α} (h : atI xs i = some v) : ∃ j, seqIndex? i xs.length = some j ∧ xs[j]? = some v ∧ j < xs.length ∧ -(xs.length : Int) ≤ i ∧ i < xs.length := by
  unfold atI at h
  cases e : ixN xs.length i with
  | none => rw [e] at h; cases h
  | some j =>
    rw [e] at h
    obtain ⟨h1, h2, h3, h4⟩ := ixN_seq e
    exact ⟨j, h1, h, h2, h3, h4⟩
theorem atI_nat {α : Type} {xs : List α} {j : Nat} {v : α} (h : xs[j]? = some v) : atI xs (j : Int) = some v := by
  have hj : j < xs.length := (List.getElem?_eq_some_iff.mp h).1
  have e : ixN xs.length (j : Int) = some j := by
    unfold ixN
    rw [if_pos (by omega), if_pos (by omega)]; simp
  unfold atI; rw [e]; exact h
theorem atI_last {α : Type} (xs : List α) (v : α) : atI (xs ++ [v]) (-1) = some v := by
  have hl : (xs ++ [v]).length = xs.length + 1 := by simp
  have e : ixN (xs ++ [v]).length (-1) = some xs.length := by
    unfold ixN
    rw [hl, if_neg (by decide), if_pos (by omega)]
    congr 1
    omega
  unfold atI
  rw [e]
  show (xs ++ [v])[xs.length]? = some v
  simp

def PlainIx (b : Expr) : Prop := ∀ o i, subscripted b false o i = operate [o, i] (getItem o i)
def IxR (X : Cx) (r : R2) : Prop :=
  ∀ (value slice : Expr) (pins : List (Addr × Obj)) (s : Shared) (σ : St) (H : Hp) (x y : V) (v u : Value) (Q : VK), Inv X pins σ H s → RelV x v → RelV y u → r x y H Q →
    subscripted slice false v u = operate [v, u] (getItem v u) → wpAny (model X.prog X.w) X.A (subscriptTail value slice v u) (EP X pins σ Q) X.xe s
def MtR (X : Cx) (id : String) (r : V → List V → Hp → VK → Prop) : Prop :=
  ∀ (pins : List (Addr × Obj)) (s : Shared) (σ : St) (H : Hp) (x : V) (xs : List V) (v : Value) (us : List Value) (Q : VK), Inv X pins σ H s → RelV x v → Vals xs us → r x xs H Q →
    wpAny (model X.prog X.w) X.A (call (.builtin id) (v :: us)) (EP X pins σ Q) X.xe s
section
variable {X : Cx} {a b : Expr} {ta tb : TE} {pos : Pos}
theorem IxR.or {r r' : R2} (h : IxR X r) (h' : IxR X r') : IxR X (fun x y H Q => r x y H Q ∨ r' x y H Q) := by
  intro value slice pins s σ H x y v u Q I rx ry q hs
  rcases q with q | q
  · exact h value slice pins s σ H x y v u Q I rx ry q hs
  · exact h' value slice pins s σ H x y v u Q I rx ry q hs
theorem MtR.or {id : String} {r r' : V → List V → Hp → VK → Prop} (h : MtR X id r) (h' : MtR X id r') : MtR X id (fun x xs H Q => r x xs H Q ∨ r' x xs H Q) := by
  intro pins s σ H x xs v us Q I rx rs q
  rcases q with q | q
  · exact h pins s σ H x xs v us Q I rx rs q
  · exact h' pins s σ H x xs v us Q I rx rs q
theorem pe_ix {r : R2} (hr : IxR X r) (ha : PE X a ta) (hb : PE X b tb) (hs : PlainIx b) : PE X (.Subscript a b pos) (tOp r ta tb) := by
  intro pins s σ H Q I h
  exact Subscript_ (binT ha hb I h fun v u s2 x y H2 I2 rx ry q => hr a b pins s2 σ H2 x y v u Q I2 rx ry q (hs _ _))

def rIxL (K : PySem.W.Frag) : R2 := fun x y H Q => ∃ p xs i v, x = .ref p ∧ y = .int i ∧ SqL K H p xs ∧ atI xs i = some v ∧ Q v H
def rIxT (K : PySem.W.Frag) : R2 := fun x y H Q => ∃ p xs i v, x = .ref p ∧ y = .int i ∧ SqT K H p xs ∧ atI xs i = some v ∧ Q v H
def rIxS : R2 := fun x y H Q => ∃ z i c, x = .str z ∧ y = .int i ∧ z.length ≤ sizeLine ∧ atI z.cps.toList i = some c ∧ Q (.str ⟨#[c]⟩) H
theorem ix_list : IxR X (rIxL X.K) := by
  intro value slice pins s σ H x y v u Q I rx ry h hs
  obtain ⟨p, xs, i, z, rfl, rfl, hq, he, q⟩ := h
  cases rx
  obtain ⟨t, rfl⟩ := ry
  obtain ⟨its, r, pl, hz⟩ := I.list hq
  obtain ⟨j, h1, h2, h3, h4, h5⟩ := atI_get he
  obtain ⟨w, ew, rw'⟩ := r.get h2
  have hl := r.length
  have hn := line63
  have fin : EP X pins σ Q w s := ⟨z, H, I, rw', q⟩
  by_cases h0 : 0 ≤ i
  · have hj : i.toNat = j := by
      rw [seqIndex_of h0 h5] at h1
      exact Option.some.inj h1
    exact item_listR pl.isList h0 (by omega) (by rw [hj]; simpa using ew) fin hs
  · have hj : (i + (its.toArray.size : Int)).toNat = j := by
      rw [seqIndex_neg (by omega) h4] at h1
      rw [List.size_toArray, ← hl]
      exact Option.some.inj h1
    exact subscriptTail_builtinR (x := w) pl.isList.typeIs slot_list_getitem.lookup
      (wpAny_getItem_list_neg (Q := fun r s' => r = w ∧ EP X pins σ Q r s') pl.isList (by omega) (by rw [List.size_toArray] <;> omega) (by omega) (by rw [hj]; simpa using ew) ⟨rfl, fin⟩) hs
theorem ix_tup : IxR X (rIxT X.K) := by
  intro value slice pins s σ H x y v u Q I rx ry h hs
  obtain ⟨p, xs, i, z, rfl, rfl, hq, he, q⟩ := h
  cases rx
  obtain ⟨t, rfl⟩ := ry
  obtain ⟨its, r, pl, hz⟩ := I.tuple hq
  obtain ⟨j, h1, h2, h3, h4, h5⟩ := atI_get he
  obtain ⟨w, ew, rw'⟩ := r.get h2
  have hl := r.length
  have hn := line63
  have fin : EP X pins σ Q w s := ⟨z, H, I, rw', q⟩
  exact subscriptTail_builtinR (x := w) pl.typeIs slot_tuple_getitem.lookup
    (getItem_tuple (j := j) (Q := fun r s' => r = w ∧ EP X pins σ Q r s') pl (by omega) (by omega) (by rw [List.size_toArray, ← hl]; exact h1) (by simpa using ew) ⟨rfl, fin⟩) hs
theorem ix_str : IxR X rIxS := by
  intro value slice pins s σ H x y v u Q I rx ry h hs
  obtain ⟨z, i, c, rfl, rfl, hz, he, q⟩ := h
  obtain ⟨t, rfl⟩ := rx
  obtain ⟨t', rfl⟩ := ry
  obtain ⟨j, h1, h2, h3, h4, h5⟩ := atI_get he
  have hl : z.cps.toList.length = z.length := by simp [Str.length]
  rw [hl] at h1 h4 h5
  have hn := line63
  exact tail_any (typeIs_str s z t) slot_str_getitem.lookup (getItem_str (c := c) (by
    have e1 : decide (i < -(2 ^ 63 : Int)) = false := decide_eq_false (by omega)
    have e2 : decide (i ≥ 2 ^ 63) = false := decide_eq_false (by omega)
    rw [e1, e2, Bool.or_false]) (by rw [h1]; simpa using h2) ⟨.str ⟨#[c]⟩, H, I.tok _, ⟨_, rfl⟩, q⟩) hs
theorem Inv.lst {pins : List (Addr × Obj)} {σ : St} {H : Hp} {s : Shared} {p : Addr} {xs : List V} (I : Inv X pins σ H s) (h : H p = some (.lst xs)) :
    ∃ (its : List Value) (n : Nat), Vals xs its ∧ s.heap.get? p = some { cls := .type "list", data := .seq its.toArray n } ∧ xs.length ≤ sizeLine := by
  obtain ⟨z, its, n, r, e⟩ := I.hok p _ h
  exact ⟨its, n, r, e, z⟩
theorem slice_bounds (lo hi : Option Int) (n : Nat) : (sliceBounds lo hi none n).1 = ((HT.sIx n 0 lo : Nat) : Int) ∧ (sliceBounds lo hi none n).2.1 = ((HT.sIx n n hi : Nat) : Int) ∧ (sliceBounds lo hi none n).2.2 = 1 := by
  refine ⟨?_, ?_, rfl⟩
  · cases lo with
    | none => simp [sliceBounds, HT.sIx]
    | some i =>
      simp only [sliceBounds, HT.sIx, Option.getD_none, show (1 : Int) > 0 by decide, if_true]
      by_cases h : i < 0
      · simp only [h, if_true] <;> omega
      · simp only [h, if_false] <;> omega
  · cases hi with
    | none => simp [sliceBounds, HT.sIx]
    | some i =>
      simp only [sliceBounds, HT.sIx, Option.getD_none, show (1 : Int) > 0 by decide, if_true]
      by_cases h : i < 0
      · simp only [h, if_true] <;> omega
      · simp only [h, if_false] <;> omega
theorem slicePick_cut (its : List Value) (lo hi : Option Int) : slicePick its.toArray lo hi none = ((its.drop (HT.sIx its.length 0 lo)).take (HT.sIx its.length its.length hi - HT.sIx its.length 0 lo)).toArray := by
  obtain ⟨h1, h2, h3⟩ := slice_bounds lo hi its.toArray.size
  unfold slicePick
  rw [h1, h2, h3]
  simp only [sliceRange_one, pick_run, List.size_toArray] <;> rfl
def rSlL (K : PySem.W.Frag) : V → Option Int → Option Int → Hp → VK → Prop := fun x lo hi H Q => ∃ a xs, x = .ref a ∧ SqL K H a xs ∧ ∀ p, H p = none → Q (.ref p) (upd H p (.lst (cutV xs lo hi)))
theorem sl_list : SlR X (rSlL X.K) := by
  intro pins s σ H x v vl vu lo hi sl Q I rx hs pl pu h
  obtain ⟨a, xs, rfl, hx, q⟩ := h
  cases rx
  obtain ⟨its, r, ht, hz⟩ := I.list hx
  have hlen := r.length
  refine ⟨"list", _, slot_list_getitem.lookup, ht.isList.typeIs, ?_⟩
  refine wpAny_getItem_list_slice ht.isList hs pl pu .none (by simp) ?_ (by rw [List.size_toArray] <;> omega)
  rw [slicePick_cut, ← hlen]
  refine ⟨.ref s.heap.objs.size, _, I.laid (t' := s.toks) (o := .lst (cutV xs lo hi)) (fun b ob q => Heap.get?_push_of_some _ q) (Nat.le_refl _) ?_, rfl, q _ (I.hok.fresh (Nat.le_refl _))⟩
  exact ⟨Nat.le_trans (cutV_length xs lo hi) hz, _, 0, (r.drop (HT.sIx xs.length 0 lo)).take (HT.sIx xs.length xs.length hi - HT.sIx xs.length 0 lo), Heap.get?_push_size _ rfl⟩

def flatV : V → Bool
  | .non => true
  | .bl _ => true
  | .int _ => true
  | .str _ => true
  | _ => false
def eqV : V → V → Bool
  | .non, .non => true
  | .bl a, .bl b => a == b
  | .bl a, .int b => (if a then 1 else 0) == b
  | .int a, .bl b => a == (if b then 1 else 0)
  | .int a, .int b => a == b
  | .str a, .str b => a == b
  | _, _ => false
theorem eqAt_V {A : Around} {s : Shared} {y x : V} {u v : Value} (ry : RelV y u) (rx : RelV x v) (fy : flatV y = true) (fx : flatV x = true) : SeqAt.EqAt A s u v (eqV y x) := by
  cases y with
  | non =>
    cases ry
    cases x with
    | non => cases rx; exact SeqAt.EqAt.same _
    | bl b => cases rx; exact SeqAt.EqAt.none_bool b
    | int b => obtain ⟨t, rfl⟩ := rx; exact SeqAt.EqAt.none_int b t
    | str b => obtain ⟨t, rfl⟩ := rx; exact SeqAt.EqAt.none_str b t
    | _ => exact absurd (show false = true from fx) Bool.false_ne_true
  | bl a =>
    cases ry
    cases x with
    | non => cases rx; exact SeqAt.EqAt.bool_none a
    | bl b => cases rx; exact SeqAt.EqAt.bool_bool a b
    | int b => obtain ⟨t, rfl⟩ := rx; exact SeqAt.EqAt.bool_int a b t
    | str b => obtain ⟨t, rfl⟩ := rx; exact SeqAt.EqAt.bool_str a b t
    | _ => exact absurd (show false = true from fx) Bool.false_ne_true
  | int a =>
    obtain ⟨t', rfl⟩ := ry
    cases x with
    | non => cases rx; exact SeqAt.EqAt.int_none a t'
    | bl b => cases rx; exact SeqAt.EqAt.int_bool a t' b
    | int b => obtain ⟨t, rfl⟩ := rx; exact SeqAt.EqAt.int_int a t' b t
    | str b => obtain ⟨t, rfl⟩ := rx; exact SeqAt.EqAt.int_str a t' b t
    | _ => exact absurd (show false = true from fx) Bool.false_ne_true
  | str a =>
    obtain ⟨t', rfl⟩ := ry
    cases x with
    | non => cases rx; exact SeqAt.EqAt.str_none a t'
    | bl b => cases rx; exact SeqAt.EqAt.str_bool a t' b
    | int b => obtain ⟨t, rfl⟩ := rx; exact SeqAt.EqAt.str_int a t' b t
    | str b => obtain ⟨t, rfl⟩ := rx; exact SeqAt.EqAt.str_str a t' b t
    | _ => exact absurd (show false = true from fx) Bool.false_ne_true
  | _ => exact absurd (show false = true from fy) Bool.false_ne_true
def eqU (x : V) (u : Value) : Bool := match u with
  | .none => eqV .non x
  | .bool b => eqV (.bl b) x
  | .int i _ => eqV (.int i) x
  | .str z _ => eqV (.str z) x
  | _ => false
theorem eqU_of {x y : V} {u : Value} (r : RelV y u) (f : flatV y = true) : eqU x u = eqV y x := by
  cases y with
  | non => cases r; rfl
  | bl b => cases r; rfl
  | int i => obtain ⟨t, rfl⟩ := r; rfl
  | str z => obtain ⟨t, rfl⟩ := r; rfl
  | _ => exact absurd (show false = true from f) Bool.false_ne_true
theorem any_eqU {x : V} : ∀ {xs : List V} {us : List Value}, Vals xs us → xs.all flatV = true → us.any (eqU x) = xs.any fun y => eqV y x
  | _, _, .nil, _ => rfl
  | y :: xs, u :: us, .cons r t, f => by
    rw [List.all_cons, Bool.and_eq_true] at f
    rw [List.any_cons, List.any_cons, eqU_of r f.1, any_eqU t f.2]
theorem mem_eqAt {A : Around} {s : Shared} {x : V} {v : Value} (rx : RelV x v) (fx : flatV x = true) : ∀ {xs : List V} {us : List Value}, Vals xs us → xs.all flatV = true → ∀ u ∈ us, SeqAt.EqAt A s u v (eqU x u)
  | _, _, .nil, _ => fun u hu => by cases hu
  | y :: xs, u :: us, .cons r t, f => fun u' hu => by
    rw [List.all_cons, Bool.and_eq_true] at f
    rcases List.mem_cons.mp hu with rfl | hu
    · rw [eqU_of r f.1]; exact eqAt_V r rx f.1 fx
    · exact mem_eqAt rx fx t f.2 u' hu
def inV (x : V) (xs : List V) : Bool := xs.any fun y => eqV y x
def rIn (K : PySem.W.Frag) (neg : Bool) : R2 := fun x y H Q => ∃ p xs, y = .ref p ∧ (SqL K H p xs ∨ SqT K H p xs) ∧ flatV x = true ∧ xs.all flatV = true ∧ Q (.bl (if neg then !inV x xs else inV x xs)) H
theorem op_notIn_seq : OpR X (compareOp .NotIn) (rIn X.K true) := by
  intro pins s σ H x y v u Q I rx ry h
  obtain ⟨p, xs, rfl, hq, fx, fs, q⟩ := h
  cases ry
  rcases hq with hq | hq
  · obtain ⟨its, r, pl, hz⟩ := I.list hq
    refine SeqAt.notIn_listAt (eqU x) pl.isList (fun w hw => mem_eqAt rx fx r fs w (by simpa using hw)) ⟨.bl _, H, I, rfl, ?_⟩
    rw [show its.toArray.any (eqU x) = its.any (eqU x) by simp, any_eqU r fs]
    exact q
  · obtain ⟨its, r, pl, hz⟩ := I.tuple hq
    refine SeqAt.notIn_tupleAt (eqU x) pl (fun w hw => mem_eqAt rx fx r fs w (by simpa using hw)) ⟨.bl _, H, I, rfl, ?_⟩
    rw [show its.toArray.any (eqU x) = its.any (eqU x) by simp, any_eqU r fs]
    exact q
theorem call_len_seq : CallR X (.builtin "len") (fun xs H Q => ∃ p ys, xs = [.ref p] ∧ (SqL X.K H p ys ∨ SqT X.K H p ys) ∧ Q (.int ys.length) H) := by
  intro pins s σ H xs us Q I r h
  obtain ⟨p, ys, rfl, hq, q⟩ := h
  obtain ⟨u, rfl, rx⟩ := vals1 r
  cases rx
  have hn := line63
  rcases hq with hq | hq
  · obtain ⟨its, r', pl, hz⟩ := I.list hq
    have hlen := r'.length
    exact Calls.call_len_list pl.isList (by simp only [List.size_toArray] <;> omega) ⟨.int ys.length, H, I.tok _, ⟨s.toks + 1, by rw [List.size_toArray, hlen]⟩, q⟩
  · obtain ⟨its, r', pl, hz⟩ := I.tuple hq
    have hlen := r'.length
    exact len_tuple pl (by simp only [List.size_toArray] <;> omega) ⟨.int ys.length, H, I.tok _, ⟨s.toks + 1, by rw [List.size_toArray, hlen]⟩, q⟩
theorem call_len_str : CallR X (.builtin "len") (fun xs H Q => ∃ z, xs = [.str z] ∧ z.length ≤ sizeLine ∧ Q (.int z.length) H) := by
  intro pins s σ H xs us Q I r h
  obtain ⟨z, rfl, hz, q⟩ := h
  obtain ⟨u, rfl, t, rfl⟩ := vals1 r
  have hn := line63
  exact len_str (by omega) ⟨.int z.length, H, I.tok _, ⟨_, rfl⟩, q⟩
theorem CallR.or {f : Value} {r r' : List V → Hp → VK → Prop} (h : CallR X f r) (h' : CallR X f r') : CallR X f (fun xs H Q => r xs H Q ∨ r' xs H Q) := by
  intro pins s σ H xs us Q I rs q
  rcases q with q | q
  · exact h pins s σ H xs us Q I rs q
  · exact h' pins s σ H xs us Q I rs q
theorem call_list_of : CallR X (.type "list") (fun xs H Q => ∃ p ys, xs = [.ref p] ∧ (SqL X.K H p ys ∨ SqT X.K H p ys) ∧ ∀ l, H l = none → Q (.ref l) (upd H l (.lst ys))) := by
  intro pins s σ H xs us Q I r h
  obtain ⟨p, ys, rfl, hq, q⟩ := h
  obtain ⟨u, rfl, rx⟩ := vals1 r
  cases rx
  have fin : ∀ (its : List Value), Vals ys its → ys.length ≤ sizeLine → ∀ (h' : Heap) (c' : Nat), (∀ b o', s.heap.get? b = some o' → h'.get? b = some o') →
      h'.get? s.heap.objs.size = some { cls := .type "list", dict := none, data := .seq its.toArray c', slots := #[] } → EP X pins σ Q (.ref s.heap.objs.size) { s with heap := h' } := fun its r' hz h' c' kp e =>
    ⟨.ref s.heap.objs.size, _, I.laid (t' := s.toks) kp (Nat.le_refl _) (show ObjOk X.prog X.w _ h' _ (.lst ys) from ⟨hz, its, c', r', e⟩), rfl, q _ (I.hok.fresh (Nat.le_refl _))⟩
  rcases hq with hq | hq
  · obtain ⟨its, r', pl, hz⟩ := I.list hq
    have hlen := r'.length
    obtain ⟨o, ho, hc, n, hd⟩ := pl.isList
    exact call_list_seq p (.inl rfl) ho hc hd (fun h' c' kp e => fin its r' hz h' c' kp e) (by simp only [List.size_toArray] <;> omega)
  · obtain ⟨its, r', pl, hz⟩ := I.tuple hq
    have hlen := r'.length
    obtain ⟨o, ho, hc, n, hd⟩ := pl
    exact call_list_seq p (.inr rfl) ho hc hd (fun h' c' kp e => fin its r' hz h' c' kp e) (by simp only [List.size_toArray] <;> omega)
theorem call_tuple_of : CallR X (.type "tuple") (fun xs H Q => ∃ p ys, xs = [.ref p] ∧ ((SqL X.K H p ys ∧ ∀ l, H l = none → Q (.ref l) (upd H l (.tup ys))) ∨ (SqT X.K H p ys ∧ Q (.ref p) H))) := by
  intro pins s σ H xs us Q I r h
  obtain ⟨p, ys, rfl, h⟩ := h
  obtain ⟨u, rfl, rx⟩ := vals1 r
  cases rx
  rcases h with ⟨hq, q⟩ | ⟨hq, q⟩
  · obtain ⟨its, r', pl, hz⟩ := I.list hq
    have hlen := r'.length
    refine call_tuple_list pl.isList (fun h' kp => ?_) (by simp only [List.size_toArray] <;> omega)
    have I1 : Inv X pins σ H { s with heap := h' } := I.kept (t' := s.toks) kp
    have I2 : Inv X pins σ (upd H h'.objs.size (.tup ys)) { s with heap := h'.push { cls := .type "tuple", data := .seq its.toArray } } :=
      I1.laid (t' := s.toks) (fun b o e => Heap.get?_push_of_some _ e) (Nat.le_refl _) (show ObjOk X.prog X.w _ _ _ (.tup ys) from ⟨hz, its, r', IsTup.new _ _⟩)
    exact ⟨.ref h'.objs.size, _, I2, rfl, q _ (I1.hok.fresh (Nat.le_refl _))⟩
  · obtain ⟨its, r', pl, hz⟩ := I.tuple hq
    exact call_tuple_same pl ⟨.ref p, H, I, rfl, q⟩

def tyV (K : PySem.W.Frag) (T : String) (x : V) (H : Hp) : Prop := match x with
  | .str _ => T = "str"
  | .int _ => T = "int"
  | .ref p => (T = "list" ∧ ∃ xs, SqL K H p xs) ∨ (T = "tuple" ∧ ∃ o, K.lookup p = some o ∧ o.cls = .type "tuple" ∧ o.dict = none) ∨
      (T = "dict" ∧ ((∃ kvs, H p = some (.dK kvs)) ∨ ∃ kvs, H p = some (.dT kvs))) ∨ (T = "set" ∧ ∃ S n, H p = some (.set S n))
  | _ => False
theorem tyV_is {pins : List (Addr × Obj)} {σ : St} {H : Hp} {s : Shared} {T : String} {x : V} {v : Value} (I : Inv X pins σ H s) (r : RelV x v) (ty : tyV X.K T x H) :
    s.TypeIs v T ∧ ∀ a, v = .ref a → ∃ ob, s.heap.get? a = some ob ∧ ob.dict = none := by
  cases x with
  | str z =>
    obtain ⟨t, rfl⟩ := r
    cases (show T = "str" from ty)
    exact ⟨typeIs_str s z t, fun _ e => nomatch e⟩
  | int i =>
    obtain ⟨t, rfl⟩ := r
    cases (show T = "int" from ty)
    exact ⟨typeIs_int s i t, fun _ e => nomatch e⟩
  | ref p =>
    cases r
    rcases ty with ⟨rfl, xs, hq⟩ | ⟨rfl, o, hk, hc, hd⟩ | ⟨rfl, hk⟩ | ⟨rfl, S, n, hk⟩
    · obtain ⟨its, _, pl, _⟩ := I.list hq
      refine ⟨pl.isList.typeIs, fun a e => ?_⟩
      cases e
      obtain ⟨o, n, e, c, hd, _⟩ := pl
      exact ⟨o, e, hd⟩
    · refine ⟨⟨o, I.kIn p o hk, hc⟩, fun a e => ?_⟩
      cases e
      exact ⟨o, I.kIn _ o hk, hd⟩
    · have z : ∃ o, s.heap.get? p = some o ∧ o.ExactDict := by
        rcases hk with ⟨kvs, hk⟩ | ⟨kvs, hk⟩
        · obtain ⟨_, _, _, _, o, _, _, e, ex, _⟩ := I.hok p _ hk
          exact ⟨o, e, ex⟩
        · obtain ⟨_, _, _, _, o, _, _, e, ex, _⟩ := I.hok p _ hk
          exact ⟨o, e, ex⟩
      obtain ⟨o, e, ex⟩ := z
      refine ⟨⟨o, e, ex.1⟩, fun a e2 => ?_⟩
      cases e2
      exact ⟨o, e, ex.2.1⟩
    · obtain ⟨o, _, _, _, e, ex, _⟩ := I.hok p _ hk
      refine ⟨⟨o, e, ex.1⟩, fun a e2 => ?_⟩
      cases e2
      exact ⟨o, e, ex.2.1⟩
  | _ => exact False.elim ty
def tBM0 (K : PySem.W.Frag) (T : String) (r : V → List V → Hp → VK → Prop) (to : TE) : TE := fun σ H Q => to σ H fun x H1 => tyV K T x H1 ∧ r x [] H1 Q
def tBM (K : PySem.W.Frag) (T : String) (r : V → List V → Hp → VK → Prop) (to : TE) (t : TA) : TE := fun σ H Q => to σ H fun x H1 => tyV K T x H1 ∧ t σ H1 fun xs H2 => r x xs H2 Q
variable {o e : Expr} {es : List Expr} {to : TE} {t : TA} {name : Str} {apos cpos : Pos} {T id : String} {r : V → List V → Hp → VK → Prop}
theorem pe_bm0 (pa : PlainAttrs T) (slot : Slot T name id) (hty : typeOf (.builtin id) = pure (.type "method_descriptor")) (hm : MtR X id r) (ho : PE X o to)
    (hbase : attributeBase o name X.env (eval o X.env) = eval o X.env := by rfl) (hline : (apos.endLine == cpos.line) = true := by rfl) : PE X (.Call (.Attribute o name apos) [] [] cpos) (tBM0 X.K T r to) := by
  intro pins s σ H Q I h
  refine wpAny_Call_method0_late hbase hline (thn (ho pins s σ H _ I h) fun v s1 ⟨x, H1, I1, r1, ty, q1⟩ => ?_)
  obtain ⟨h1, h2⟩ := tyV_is I1 r1 ty
  exact ⟨T, id, pa, slot, hty, h1, h2, Calls.callWith_builtin rfl (PySem.evalArgs_none (hm pins s1 σ H1 x [] v [] Q I1 r1 .nil q1))⟩
theorem pe_bm (pa : PlainAttrs T) (slot : Slot T name id) (hty : typeOf (.builtin id) = pure (.type "method_descriptor")) (hm : MtR X id r) (ho : PE X o to) (ha : PA X (e :: es) t)
    (hbase : attributeBase o name X.env (eval o X.env) = eval o X.env := by rfl)
    (hfew : ((backTo cpos (starEach (e :: es) X.env)).all (fun x => !x.1) && (backToKw cpos (keywordEach [] X.env)).all (fun x => x.1.isSome)
      && decide ((e :: es).length + ([] : List Keyword).length + (if ([] : List Keyword).isEmpty then 0 else 1) < 30)) = true := by rfl)
    (hline : (apos.endLine == cpos.line) = true := by rfl) (hs : starEach (e :: es) X.env = (false, eval e X.env) :: starEach es X.env := by rfl) (hplain : (backTo cpos (starEach es X.env)).any (·.1) = false := by rfl) :
    PE X (.Call (.Attribute o name apos) (e :: es) [] cpos) (tBM X.K T r to t) := by
  intro pins s σ H Q I h
  refine wpAny_Call_method_late hbase hfew hline rfl (thn (ho pins s σ H _ I h) fun v s1 ⟨x, H1, I1, r1, ty, q1⟩ => ?_)
  obtain ⟨h1, h2⟩ := tyV_is I1 r1 ty
  refine ⟨T, id, pa, slot, hty, h1, h2, ?_⟩
  have hA := ha cpos pins s1 σ H1 _ I1 q1
  rw [hs] at hA ⊢
  refine Calls.callWith_builtin (by show (false || (backTo cpos (starEach es X.env)).any (·.1)) = false; rw [hplain] <;> rfl) (Calls.evalArgs_plain ?_)
  exact thn hA fun us s2 ⟨vs, H2, I2, r2, q2⟩ => hm pins s2 σ H2 x vs v us Q I2 r1 r2 q2
end
end L2

namespace L2
open PySem PySem.Spec PyProof.Rows

def MtM (X : Cx) (id : String) (r : V → List V → Hp → VK → Prop) : Prop :=
  ∀ (pins : List (Addr × Obj)) (s : Shared) (σ : St) (H : Hp) (x : V) (xs : List V) (v : Value) (us : List Value) (Q : VK), Inv X pins σ H s → RelV x v → Vals xs us → r x xs H Q →
    wpAny (model X.prog X.w) X.A (call (.builtin id) (v :: us)) (EP X pins σ Q) X.xe s

theorem Vals.one : ∀ {x : V} {us : List Value}, Vals [x] us → ∃ u, us = [u] ∧ RelV x u
  | _, _, .cons r .nil => ⟨_, rfl, r⟩
theorem Vals.two : ∀ {x y : V} {us : List Value}, Vals [x, y] us → ∃ u v, us = [u, v] ∧ RelV x u ∧ RelV y v
  | _, _, _, .cons r (.cons q .nil) => ⟨_, _, rfl, r, q⟩
theorem Vals.zero : ∀ {us : List Value}, Vals [] us → us = []
  | _, .nil => rfl
theorem Vals.reverse {xs : List V} {us : List Value} (h : Vals xs us) : Vals xs.reverse us.reverse := by
  induction h with
  | nil => exact .nil
  | cons r t ih => rw [List.reverse_cons, List.reverse_cons]; exact Vals.append ih (.cons r .nil)
section
variable {X : Cx} {pins : List (Addr × Obj)} {σ : St} {H : Hp} {s : Shared} {l b : Addr} {xs ys zs : List V}

theorem Inv.lset {its its' : List Value} {n : Nat} {f : Array Value → Array Value} {t' : Nat} (I : Inv X pins σ H s) (hH : H l = some (.lst xs))
    (e : s.heap.get? l = some { cls := .type "list", data := .seq its.toArray n }) (hf : f its.toArray = its'.toArray) (hv : Vals ys its') (hz : ys.length ≤ sizeLine) :
    Inv X pins σ (upd H l (.lst ys)) { s with heap := s.heap.update l (Obj.mapSeq f), toks := t' } := by
  have q := PySem.IsL.update e f
  rw [hf] at q
  refine I.write (x := l) (e := l) (by rw [hH]; exact trivial) (.inl rfl) (fun b' u hb hu => (Heap.get?_update_other s.heap (Obj.mapSeq f) (Ne.symm hb)).trans hu) ⟨_, q⟩ ?_
  exact ⟨hz, its', _, hv, q⟩
theorem Inv.lnew {its : List Value} {t' : Nat} (I : Inv X pins σ H s) (hv : Vals ys its) (hz : ys.length ≤ sizeLine) :
    Inv X pins σ (upd H s.heap.objs.size (.lst ys)) { s with heap := s.heap.push { cls := .type "list", data := .seq its.toArray }, toks := t' } :=
  I.laid (fun _ _ q => Heap.get?_push_of_some _ q) (Nat.le_refl _) ⟨hz, its, 0, hv, Heap.get?_push_size _ rfl⟩
theorem Inv.fresh (I : Inv X pins σ H s) : H s.heap.objs.size = none := I.hok.fresh (Nat.le_refl _)
theorem Inv.lstM (I : Inv X pins σ H s) (hH : H l = some (.lst xs)) : xs.length ≤ sizeLine ∧ ∃ (its : List Value) (n : Nat), Vals xs its ∧ xs.length = its.length ∧ s.heap.get? l = some { cls := .type "list", data := .seq its.toArray n } := by
  obtain ⟨z, its, n, r, e⟩ := I.hok l _ hH
  exact ⟨z, its, n, r, r.length, e⟩

end

section
variable {X : Cx}

def rAppend : V → List V → Hp → VK → Prop := fun x vs H Q => ∃ l xs y, x = .ref l ∧ vs = [y] ∧ H l = some (.lst xs) ∧ xs.length < sizeLine ∧ Q .non (upd H l (.lst (xs ++ [y])))
theorem mt_append : MtM X "list.append" rAppend := by
  intro pins s σ H x vs v us Q I rx rv h
  obtain ⟨l, xs, y, rfl, rfl, hH, hz, q⟩ := h
  cases rx
  obtain ⟨u, rfl, ru⟩ := rv.one
  obtain ⟨z, its, n, r, hl, e⟩ := I.lstM hH
  refine call_meets F.slot_list_append ⟨_, e, rfl⟩ F.entry_list_append (F.args_list_append_2 _ _) (PySem.list_append l its.toArray n u (by rw [List.size_toArray]; omega)) ⟨e, ?_⟩
  refine ⟨.non, _, I.lset (its' := its ++ [u]) hH e (by simp) (r.append (.cons ru .nil)) ?_, rfl, q⟩
  rw [List.length_append, List.length_singleton]
  omega

def rReverse : V → List V → Hp → VK → Prop := fun x vs H Q => ∃ l xs, x = .ref l ∧ vs = [] ∧ H l = some (.lst xs) ∧ Q .non (upd H l (.lst xs.reverse))
theorem mt_reverse : MtM X "list.reverse" rReverse := by
  intro pins s σ H x vs v us Q I rx rv h
  obtain ⟨l, xs, rfl, rfl, hH, q⟩ := h
  cases rx
  have hus := rv.zero
  subst hus
  obtain ⟨z, its, n, r, hl, e⟩ := I.lstM hH
  refine call_meets F.slot_list_reverse ⟨_, e, rfl⟩ F.entry_list_reverse (F.args_list_reverse_1 _) (AutoSeq1.list_reverse_list_0 l its.toArray n (by rw [List.size_toArray]; omega)) ⟨e, ?_⟩
  refine ⟨.non, _, I.lset (its' := its.reverse) hH e (by simp) r.reverse ?_, rfl, q⟩
  rw [List.length_reverse]
  omega

def rCat : R2 := fun x y H Q => ∃ l b xs zs, x = .ref l ∧ y = .ref b ∧ H l = some (.lst xs) ∧ H b = some (.lst zs) ∧ xs.length + zs.length ≤ sizeLine ∧ ∀ p, H p = none → Q (.ref p) (upd H p (.lst (xs ++ zs)))
theorem op_cat : OpR X (binaryOp .Add) rCat := by
  intro pins s σ H x y v u Q I rx ry h
  obtain ⟨l, b, xs, zs, rfl, rfl, hH, hB, hz, q⟩ := h
  cases rx
  cases ry
  obtain ⟨z, its, n, r, hl, e⟩ := I.lstM hH
  obtain ⟨z2, its2, n2, r2, hl2, e2⟩ := I.lstM hB
  refine PySem.P.add_list e e2 ?_ (by rw [List.size_toArray, List.size_toArray]; omega)
  have ea : its.toArray ++ its2.toArray = (its ++ its2).toArray := by simp
  rw [ea]
  exact ⟨.ref _, _, I.lnew (t' := s.toks) (r.append r2) (by rw [List.length_append]; omega), rfl, q _ I.fresh⟩
end

section
variable {prog : Program} {w : World} {A : Around} {E : Value → Shared → Prop} {s : Shared}
set_option maxRecDepth 100000 in
end

section
variable {X : Cx}
end
end L2

namespace Att
open PySem PySem.W PySem.Calls PyProof.Rows

theorem ints_of_wellAll {P : Params} {h : Heap} : ∀ (ns : List Int) (vs : List Value), WellAll P h vs (ns.map WData.int) → IntsAre vs ns := by
  intro ns
  induction ns with
  | nil =>
    intro vs w
    rw [List.map_nil] at w
    cases w
    exact .nil
  | cons n ns ih =>
    intro vs w
    rw [List.map_cons] at w
    cases w with
    | cons a b =>
      cases a
      exact .cons _ _ (ih _ b)

theorem script_of {l : OpenLaw} {n : Nat} (hn : l.most = some n) {P : Params} {h : Heap} {args : List WData} {vals : List Value}
    (hpre : l.row.toRowW.claim.pre args = true) (hwl : WellAll P h vals args) :
    ∃ a vs ns, vals = [Value.ref a] ∧ args = [WData.list (ns.map WData.int)] ∧ h.get? a = some { cls := .type "list", data := .seq vs.toArray } ∧ IntsAre vs ns ∧ ns.length ≤ n := by
  have hsh : WShape.hasAll [] args [.list .int] = true := (pre_splitW hpre).1
  have hc : l.pre.holds [] { args := args } = true := (pre_splitW hpre).2
  obtain ⟨d, r, rfl, h1, h2⟩ := hasAllW_cons hsh
  obtain rfl := hasAllW_nil h2
  obtain ⟨xs, rfl, h3⟩ := hasW_list h1
  obtain ⟨ns, rfl⟩ := items_int h3
  have hlen : ns.length ≤ n := by
    unfold OpenLaw.pre at hc
    have h4 : (WTm.not (.lt (.lit (.int (n : Int))) (.len (.arg 0)))).holds [] { args := [.list (ns.map .int)] } = true := by
      have h4 := (holds_andW hc).1
      rw [hn] at h4
      exact h4
    have h5 := condW_of h4 (w_not (w_lt w_lit (w_len_list (w_arg rfl))))
    rw [List.length_map] at h5
    refine Nat.le_of_not_lt fun q => ?_
    have q' : (n : Int) < ((ns.length : Nat) : Int) := by omega
    first
      | (rw [decide_eq_true q'] at h5; exact absurd h5 (by decide))
      | (simp at h5; omega)
  cases hwl with
  | cons w1 w2 =>
    cases w2
    cases w1 with
    | list ho hall => exact ⟨_, _, ns, rfl, rfl, ho, ints_of_wellAll ns _ hall, hlen⟩

theorem post_true (l : OpenLaw) (args : List WData) : l.row.toRowW.claim.post args (.bool true) args = true :=
  postW_of (r := l.row.toRowW) (X := (true == true))
    (show WShape.has [] (.bool true) .bool = true by first | rfl | decide | simp [WShape.has, WShape.arms, WShape.armsAll])
    (show (WTm.eq .res (.lit (.bool true))).value [] { args := args, res := some (.bool true), after := args } = some (.bool (true == true)) from w_eq_bool (w_res rfl) w_lit) rfl

theorem attach_call {l : OpenLaw} {n : Nat} {q : Program} {loose : List Str} {XP : (Str → Option Value) → Heap → Prop} {YP : World → Heap → Prop} {d : DefRec}
    (hn : l.most = some n) (hdf : d.params.defaults = [])
    (call : ∀ (w : World) (s₀ s₁ : Shared) (mg mb : Str → Option Value) (fa : Addr) (o : Obj) (pm cd doc : Value) (a : Addr) (vs : List Value) (ns : List Int),
      Ground q loose [] XP w s₀ mg mb s₁.heap → YP w s₁.heap →
      s₁.heap.get? fa = some o → o.data = .func (docDef d.name d.params d.body d.scope pm cd doc) → s₁.heap.CodeRec cd d.name → mg d.name = some (.ref fa) →
      s₁.heap.get? a = some { cls := .type "list", data := .seq vs.toArray } → IntsAre vs ns → ns.length ≤ n → s₁.gens = #[] →
      codeAny (model l.prog w) callerA (.call (.ref fa) ⟨[.ref a], []⟩) (fun r s' => r = .ok (.ret (.bool true)) ∧ OldK s₁.heap s'.heap ∧ s'.os = s₁.os ∧ AllBare s'.gens) s₁) :
    WalkO q loose XP YP l.row.toRowW d [] (fun f vs => PySem.call f vs) := by
  intro w s₀ s₁ mg mb G Y fa o pm cd doc dV kV ho hd hcd hD hmg hg args vals as hpre hlay hrd hwl hlo
  obtain rfl : dV = .none := Dflts.none hD hdf
  obtain rfl : kV = .none := Dflts.noKw hD
  obtain ⟨a, vs, ns, rfl, rfl, hobj, hints, hlen⟩ := script_of hn hpre hwl
  refine enter_call (codeAny_mono (call w s₀ s₁ mg mb fa o pm cd doc a vs ns G Y ho (fd_plain hd) hcd hmg hobj hints hlen hg) fun r s' hq => ?_)
  obtain ⟨rfl, h2, h3, h4⟩ := hq
  exact ⟨.inl ⟨.bool true, .bool true, [], rfl, fun _ => rfl, .bool true, post_true l _, fun _ => ⟨List.Pairwise.nil, fun _ hm => (nomatch hm)⟩⟩, h2, h3, h4⟩

section
variable {prog : Program} {w : World} {A : Around} {E : Value → Shared → Prop} {s : Shared} {K : Frag}

end
end Att

namespace L2
open PySem PySem.Spec PyProof.Rows

theorem vals_ints : ∀ {vs : List Value} {ns : List Int}, IntsAre vs ns → Vals (ns.map V.int) vs
  | _, _, .nil => .nil
  | _, _, .cons n t h => .cons ⟨t, rfl⟩ (vals_ints h)

def Only (H : Hp) : Prop := ∀ b, H b = none ∨ ∃ o xs, H b = some (.frz o (.lst xs))

theorem law_call {P : Program} {w : World} {K : PySem.W.Frag} {mg mb : Str → Option Value} {CX : CXT} {k : Nat} {fa a : Addr} {fd : FuncData} {x : Str} {sp : Sp} {s₁ : Shared} {vs : List Value} {ns : List Int}
    (KX : K.In s₁.heap) (hns : s₁.heap.Ns mainGlobals mg) (hb : s₁.heap.Ns builtinsNs mb) (hbb : ∀ x : Str, x ≠ "__name__" → mb x = bootBuiltins x) (hlim : s₁.heap.NoLimit) (hg : s₁.gens = #[])
    (ha : s₁.heap.get? a = some { cls := .type "list", data := .seq vs.toArray }) (hi : IntsAre vs ns) (hl : ns.length ≤ sizeLine) (hr : Room k callerA)
    (F : ∀ base : Heap, K.In base → base.Ns mainGlobals mg → FnOk P w K mg base CX k fa fd [x] sp) (hbind : ∀ (s : Shared) (u : Value), BindsTo s fd ⟨[u], []⟩ [(x, u)])
    (hsp : ∀ H : Hp, Only H → SqL K H a (ns.map V.int) → sp [.ref a] H (fun v _ => v = .bl true) fun _ _ _ => False)
    (hCX : ∀ H e s', CX [] H s₁ (fun _ _ _ => False) e s' → False) :
    codeAny (model P w) callerA (.call (.ref fa) ⟨[.ref a], []⟩) (fun r s' => r = .ok (.ret (.bool true)) ∧ OldK s₁.heap s'.heap ∧ s'.os = s₁.os ∧ AllBare s'.gens) s₁ := by
  have rv := vals_ints hi
  have lenV := hi.length
  -- from an abstract heap in which nothing but the script may be tracked
  have core : ∀ H : Hp, Only H → SqL K H a (ns.map V.int) → HOk P w H s₁.heap → (∀ b, H b ≠ none → b = a) → (H a ≠ none → K.lookup a = none) →
      codeAny (model P w) callerA (.call (.ref fa) ⟨[.ref a], []⟩) (fun r s' => r = .ok (.ret (.bool true)) ∧ OldK s₁.heap s'.heap ∧ s'.os = s₁.os ∧ AllBare s'.gens) s₁ := by
    intro H hO hS hok hA hK
    have base_of : ∀ {b : Addr} {o : Obj}, s₁.heap.get? b = some o → H b = none → (hidT s₁.heap H).get? b = some o := fun e n => hidT_get e n
    have noA : ∀ {b : Addr} {o : Obj} {es : Array DictEntry} {ep : Nat}, s₁.heap.get? b = some o → o.data = .dict es ep → H b = none := fun {b o es ep} e d => by
      cases q : H b with
      | none => rfl
      | some u =>
        have e' : b = a := hA b (by rw [q]; simp)
        subst e'
        rw [ha] at e; cases e
        have d' : Data.seq vs.toArray _ = Data.dict es ep := d
        cases d'
    have nsK : ∀ {b : Addr} {m : Str → Option Value}, s₁.heap.Ns b m → (hidT s₁.heap H).Ns b m := fun {b m} ⟨o, es, ep, e, d, r⟩ => ⟨o, es, ep, base_of e (noA e d), d, r⟩
    have hKb : K.In (hidT s₁.heap H) := fun b o e => base_of (KX b o e) (by
      cases q : H b with
      | none => rfl
      | some u =>
        have e' : b = a := hA b (by rw [q]; simp)
        subst e'
        rw [hK (by rw [q]; simp)] at e; cases e)
    have hM : Mod K mg (hidT s₁.heap H) := ⟨hKb, nsK hns, ⟨mb, nsK hb, hbb⟩, let ⟨mc, h1, h2⟩ := hlim; ⟨mc, nsK h1, h2⟩⟩
    have e0 : Env0 P w K mg (hidT s₁.heap H) callerA [] s₁ H := ⟨rfl, hM, fun b o e => of_hidT e, Nat.le_of_eq (hidT_size _ _), trivial, fun b hb => absurd (show b ∈ ([] : List Addr) from hb) (by simp), hok, .of_eq hg⟩
    refine codeAny_mono ((F _ hKb (nsK hns)).run callerA [] s₁ H ⟨[.ref a], []⟩ [.ref a] [.ref a] _ _ hr e0 (hbind s₁ (.ref a)) (.cons rfl .nil) (hsp H hO hS)) fun r s' h => ?_
    cases r with
    | error e => exact (hCX H e s' h).elim
    | ok fl =>
      cases fl with
      | next => exact False.elim h
      | brk => exact False.elim h
      | cont => exact False.elim h
      | ret u =>
        obtain ⟨v, H', os, bare, un, hok', r', q⟩ := h
        have q' : v = .bl true := q
        subst q'
        obtain rfl : u = Value.bool true := r'
        refine ⟨rfl, OldK.of_keep fun b o e => ?_, os, bare⟩
        cases q : H b with
        | none => exact un.keep b o e q (by intro z; exact absurd (show b ∈ ([] : List Addr) from z) (by simp)) (by simp)
        | some u =>
          rcases hO b with z | ⟨ob, xs, z⟩
          · rw [q] at z; cases z
          · have z2 := un.frzs b ob _ z
            obtain ⟨e1, _⟩ := hok b _ z
            obtain ⟨e2, _⟩ := hok' b _ z2
            rw [e] at e1; cases e1
            exact e2
  cases hk : K.lookup a with
  | some o =>
    -- the script is one of the module's own objects
    have e := KX a o hk
    rw [ha] at e
    cases e
    refine core (fun _ => none) (fun _ => .inl rfl) (.inr ⟨_, vs.toArray, _, hk, rfl, rfl, rfl, by rw [List.size_toArray, lenV]; exact hl, by simpa using rv⟩) (fun b u z => by have z' : (none : Option HO) = some u := z; cases z') (fun b z => absurd rfl z) fun z => absurd rfl z
  | none =>
    refine core (fun b => if b = a then some (.frz { cls := .type "list", data := .seq vs.toArray } (.lst (ns.map V.int))) else none) (fun b => ?_) (.inl (.inr ⟨{ cls := .type "list", data := .seq vs.toArray }, if_pos rfl⟩)) (fun b u z => ?_) (fun b z => ?_) fun _ => hk
    · by_cases hb : b = a
      · exact .inr ⟨_, _, if_pos hb⟩
      · exact .inl (if_neg hb)
    · by_cases hb : b = a
      · have z' := (if_pos hb).symm.trans z
        cases z'
        subst hb
        exact ⟨ha, by rw [List.length_map]; exact hl, vs, _, rv, ha⟩
      · have z' := (if_neg hb).symm.trans z
        cases z'
    · by_cases hb : b = a
      · exact hb
      · exact absurd (if_neg hb) z
end L2

namespace L2
open PySem PySem.Spec PyProof.Rows

abbrev KOf {K : PySem.W.Frag} {h : Heap} (_ : K.In h) : PySem.W.Frag := K

theorem walk_of {l : PySem.W.OpenLaw} {n k : Nat} {q : Program} {loose : List Str} {XP : (Str → Option Value) → Heap → Prop} {YP : World → Heap → Prop} {d : DefRec} {K : Params → PySem.W.Frag} {CX : World → CXT} {sp : World → Sp} {x : Str}
    (hn : l.most = some n) (hn2 : n ≤ sizeLine) (hdf : d.params.defaults = []) (hr : Room k callerA)
    (hY : ∀ (w : World) (h : Heap), YP w h → (K w.params).In h)
    (F : ∀ (w : World) (mg : Str → Option Value) (fa : Addr) (h : Heap), (K w.params).In h → h.Ns mainGlobals mg → mg d.name = some (.ref fa) →
      ∃ fd : FuncData, (∀ (s : Shared) (u : Value), BindsTo s fd ⟨[u], []⟩ [(x, u)]) ∧
        ∀ base : Heap, (K w.params).In base → base.Ns mainGlobals mg → FnOk l.prog w (K w.params) mg base (CX w) k fa fd [x] (sp w))
    (hsp : ∀ (w : World) (H : Hp) (a : Addr) (ns : List Int), ns.length ≤ n → Only H → SqL (K w.params) H a (ns.map V.int) → sp w [.ref a] H (fun v _ => v = .bl true) fun _ _ _ => False)
    (hCX : ∀ (w : World) (H : Hp) (s : Shared) (e : Value) (s' : Shared), CX w [] H s (fun _ _ _ => False) e s' → False) :
    PySem.W.WalkO q loose XP YP l.row.toRowW d [] (fun f vs => PySem.call f vs) := by
  refine Att.attach_call hn hdf fun w s₀ s₁ mg mb fa o pm cd doc a vs ns G Y ho hd hcd hmg hobj hints hlen hg => ?_
  have KX := hY w _ Y
  obtain ⟨fd, hb, hF⟩ := F w mg fa _ KX G.T.g hmg
  exact law_call KX G.T.g G.T.b G.T.builtins G.T.nolimit hg hobj hints (Nat.le_trans hlen hn2) hr hF hb (fun H hO hS => hsp w H a ns hlen hO hS) fun H e s' => hCX w H s₁ e s'
end L2

/- THE LAST THEOREM (shape; LID, My.* are yours):
   My.Adr: a structure of the addresses that your layer names (classes, functions); My.Txt K t: a structure (Prop) of the equations over K;
   My.txt_mk : {K} {implicit addresses ..} (e1 : nsIn K mainGlobals "law" = some (some (.ref f))) (e2 : K.lookup f = some ⟨oc, od, .func (fnOf "law" "law" params body scope dV kV doc pm an cdv ct), sl⟩) (e3 : codeIn K cdv "law" = true) .. : ∃ t, My.Txt K t

set_option maxRecDepth 100000 in
set_option maxHeartbeats 0 in
theorem PySem.Challenge.cw_LID_holds : PySem.Challenge.rw_LID.Holds := by
  w_on; o_law; k_head; (case hw => w_witness2)
  k_fill
  refine L2.walk_of (l := PySem.Challenge.rw_LID) (n := 63) (k := 40) (x := "script") (CX := fun w => ..) (sp := fun _ => My.sp_law) rfl (by decide) rfl ⟨rfl, by decide, by decide⟩ (fun w h Y => PySem.W.kIn_of Y) ?F ?S ?C
  case F =>
    intro w mg fa h KX G hmg
    have T : ∃ t, My.Txt (L2.KOf KX) t := by
      dsimp only [L2.KOf]                          -- K must stand as «<heap const> w.params» for k_is
      refine' My.txt_mk ?e1 ?e2 ?e3 ..
      (case e1 => PySem.W.k_is)                    -- in the order: a name -> its address -> its object -> its parts
      (case e2 => PySem.W.k_is)
      ..
    obtain ⟨t, T⟩ := T
    have e0 := hmg.symm.trans (PySem.W.mg_of KX G T.law)
    cases e0                                       -- fa is the law's own address
    exact ⟨_, fun s u => .of_eq rfl, fun base kb nb => My.law_fn T kb nb⟩     -- if «.of_eq rfl» comes too early: refine' ⟨_, ?b, fun base kb nb => My.law_fn T kb nb⟩; exact fun s u => .of_eq rfl
  case S => exact fun w H a ns hl hO hS => ..
  case C => exact ..
(the tactic k_is has no namespace: write k_is) -/

namespace L2
open PySem PySem.Spec PyProof.Rows

def inClass (s : Stmt) (j : Nat) : Stmt := match s with
  | .ClassDef _ _ _ body _ _ _ _ _ _ _ => body.getD j (.Pass ⟨0, 0, 0, 0⟩)
  | _ => .Pass ⟨0, 0, 0, 0⟩
def defArgs (s : Stmt) : Arguments := match s with
  | .FunctionDef _ a _ _ _ _ _ _ _ _ => a
  | _ => { posonlyargs := [], args := [], vararg := none, kwonlyargs := [], kw_defaults := [], kwarg := none, defaults := [] }
def defBody (s : Stmt) : List Stmt := match s with
  | .FunctionDef _ _ b _ _ _ _ _ _ _ => b
  | _ => []
def defScope (s : Stmt) : Scope := match s with
  | .FunctionDef _ _ _ _ _ _ sc _ _ _ => sc
  | _ => { kind := .function, names := [], isGenerator := false, isCoroutine := false }

abbrev CX0 : CXT := fun _ _ _ _ _ _ => False
abbrev E0 : XK := fun _ _ _ => False
theorem pass0 {X : Cx} : Passes CX0 X E0 := fun _ _ _ _ _ _ _ h => h.elim

structure Fun (K : PySem.W.Frag) (x qual : Str) (st : Stmt) (f : Addr) (fd : FuncData) : Prop where
  ex : ∃ (oc : Value) (od : Option Addr) (kV doc pm : Value) (an : Option Addr) (cdv ct : Value) (osl : Array (Option Value)),
    fd = PySem.W.fnOf x qual (defArgs st) (defBody st) (defScope st) .none kV doc pm an cdv ct ∧ K.lookup f = some ⟨oc, od, .func fd, osl⟩ ∧ PySem.W.codeIn K cdv qual = true
  kp : PySem.W.keepIn K (.ref f) = true
section
variable {P : Program} {w : World} {K : PySem.W.Frag} {mg : Str → Option Value} {base : Heap}
theorem Fun.ok {x qual : Str} {st : Stmt} {f : Addr} {fd : FuncData} {N ps : List Str} {k : Nat} {sp : Sp} (F : Fun K x qual st f fd) (S : FnScope N ps (defScope st)) (len : ∀ vs H Q E, sp vs H Q E → vs.length = ps.length)
    (hbody : ∀ (cdv : Value) (A : Around) (outer : List Env) (s : Shared) (H : Hp) (vs : List V) (Q : VK) (E : XK), Room k (A.deeper (envOfC qual (defScope st) s.heap.objs.size f cdv)) → sp vs H Q E →
      ∃ t, PSs (cxOf CX0 P w K mg base N qual (defScope st) f cdv A outer s H E).nox (defBody st) t ∧ t { nx := fun _ H' => Q .non H', rt := Q } (start N vs) H) : FnOk P w K mg base CX0 (k + 1) f fd ps sp := by
  obtain ⟨oc, od, kV, doc, pm, an, cdv, ct, osl, rfl, lk, hcd⟩ := F.ex
  refine fn_of lk hcd S len fun A outer s H vs Q E hr hsp => ?_
  obtain ⟨t, h, q⟩ := hbody cdv A outer s H vs Q E hr hsp
  exact ⟨t, h.nox, q⟩
theorem Fun.binds {x qual : Str} {st : Stmt} {f : Addr} {fd : FuncData} {ps : List Str} (F : Fun K x qual st f fd)
    (h : ∀ (kV doc pm : Value) (an : Option Addr) (cdv ct : Value) (us : List Value), us.length = ps.length → bindArgs (PySem.W.fnOf x qual (defArgs st) (defBody st) (defScope st) .none kV doc pm an cdv ct) ⟨us, []⟩ = pure (ps.zip us)) : Binds K fd ps [] := by
  obtain ⟨oc, od, kV, doc, pm, an, cdv, ct, osl, rfl, lk, hcd⟩ := F.ex
  exact .all (h kV doc pm an cdv ct)
theorem fun_mk {x qual : Str} {st : Stmt} {f : Addr} {oc : Value} {od an : Option Addr} {osl : Array (Option Value)} {kV doc pm cdv ct : Value} (l : K.lookup f = some ⟨oc, od, .func (PySem.W.fnOf x qual (defArgs st) (defBody st) (defScope st) .none kV doc pm an cdv ct), osl⟩)
    (c : PySem.W.codeIn K cdv qual = true) (k : PySem.W.keepIn K (.ref f) = true) : Fun K x qual st f (PySem.W.fnOf x qual (defArgs st) (defBody st) (defScope st) .none kV doc pm an cdv ct) := ⟨⟨oc, od, kV, doc, pm, an, cdv, ct, osl, rfl, l, c⟩, k⟩
end
theorem hu_of {A : Around} {k : Nat} (hr : Room k A) : A.units + 1 < cLine := Nat.lt_of_le_of_lt (Nat.add_le_add_left (by decide : 1 ≤ 64) _) hr.units
section
variable {X : Cx}
theorem pv (i : Nat) {x : Str} {pos : Pos} (hN : X.N[i]? = some x := by rfl) (hv : Vis X.env.scope x := by first | exact Or.inl rfl | exact Or.inr (Or.inl rfl) | exact Or.inr (Or.inr rfl)) (hd : (x == ("__debug__" : Str)) = false := by decide)
    (hcd : (x == ("__classdict__" : Str)) = false := by decide) : PE X (.Name x pos) (tVar i) := pe_var hN hv hd hcd
end

theorem ite2 {c A B : Prop} [Decidable c] (h1 : c → A) (h2 : ¬ c → B) : if c then A else B := by
  by_cases h : c
  · rw [if_pos h]
    exact h1 h
  · rw [if_neg h]
    exact h2 h
def Same (H H' : Hp) : Prop := ∀ b o, H b = some o → H' b = some o
theorem Same.refl (H : Hp) : Same H H := fun _ _ h => h
theorem Same.trans {H H1 H2 : Hp} (a : Same H H1) (b : Same H1 H2) : Same H H2 := fun c o h => b c o (a c o h)
theorem Same.free {H H' : Hp} (e : Same H H') {l : Addr} (h : H' l = Option.none) : H l = Option.none := by
  cases q : H l with
  | none => rfl
  | some o =>
    rw [e l o q] at h
    cases h
theorem Same.seq {K : PySem.W.Frag} {H H' : Hp} {a : Addr} {xs : List V} (e : Same H H') (h : SqL K H a xs) : SqL K H' a xs := by
  rcases h with (h | ⟨o, h⟩) | h
  · exact .inl (.inl (e _ _ h))
  · exact .inl (.inr ⟨o, e _ _ h⟩)
  · exact .inr h

end L2


set_option Elab.async false
set_option linter.all false
set_option maxRecDepth 100000
set_option maxHeartbeats 4000000
namespace L2
open PySem PySem.Spec PyProof.Rows


theorem ObjOk.has {P : Program} {w : World} {H : Hp} {h : Heap} {a : Addr} {o : HO} (x : ObjOk P w H h a o) : ∃ u, h.get? a = some u := by
  cases o with
  | lst xs => obtain ⟨_, _, _, _, q⟩ := x; exact ⟨_, q⟩
  | tup xs => obtain ⟨_, _, _, ob, q, _⟩ := x; exact ⟨ob, q⟩
  | dK kvs => obtain ⟨_, _, _, _, ob, _, _, q, _⟩ := x; exact ⟨ob, q⟩
  | dT kvs => obtain ⟨_, _, _, _, ob, _, _, q, _⟩ := x; exact ⟨ob, q⟩
  | set S n => obtain ⟨ob, _, _, _, q, _⟩ := x; exact ⟨ob, q⟩
  | ins C dx fs => obtain ⟨_, _, _, q, _⟩ := x; exact ⟨_, q⟩
  | own y => obtain ⟨ob, q⟩ := x; exact ⟨ob, q⟩
  | xd fs => obtain ⟨_, ⟨ob, _, _, q, _⟩, _⟩ := x; exact ⟨ob, q⟩
  | rng lo hi => obtain ⟨_, _, _, q⟩ := x; exact ⟨_, q⟩
  | frz ob u => obtain ⟨q, _⟩ := x; exact ⟨_, q⟩
  | tbl ps => exact ⟨_, (show h.get? a = some _ from x)⟩
  | met f y => exact ⟨_, (show h.get? a = some _ from x)⟩
  | ext φ => obtain ⟨_, ⟨ob, q⟩, _⟩ := x; exact ⟨ob, q⟩

def Fly (l : List Env) (g : Heap) (H : Hp) (a : Addr) (C : Value) (h : Heap) : Prop :=
  ∃ (B : Heap) (t : Addr), Heap.FlyingW B l a C (.ref t) h ∧ H a = none ∧
    ∀ b o, h.get? b = some o → ((∃ u, g.get? b = some u) ∨ ∃ u, H b = some u) → b ∉ frs l → B.get? b = some o
def CXO (P : Program) (w : World) : CXT := fun outer H s E e s' =>
  ∃ (a : Addr) (C : Value) (H' : Hp), e = .ref a ∧ s'.os = s.os ∧ AllBare s'.gens ∧ Un (frs outer) [] H H' s.heap s'.heap ∧ HOk P w H' s'.heap ∧ Fly outer s.heap H' a C s'.heap ∧ E C none H'

section
variable {P : Program} {w : World} {K : PySem.W.Frag} {mg : Str → Option Value} {base : Heap} {N : List Str} {qual : Str} {scope : Scope} {f : Addr} {cd : Value} {A : Around} {outer : List Env} {s : Shared} {H : Hp} {E : XK}

theorem Inv.hasNo {X : Cx} {pins : List (Addr × Obj)} {σ : St} {H : Hp} {s : Shared} {a : Addr} (I : Inv X pins σ H s) (e : s.heap.get? a = none) : H a = none := by
  cases q : H a with
  | none => rfl
  | some u =>
    obtain ⟨o, z⟩ := (I.hok a u q).has
    rw [e] at z; cases z

end

theorem Fun.okX {P : Program} {w : World} {K : PySem.W.Frag} {mg : Str → Option Value} {base : Heap} {x qual : Str} {st : Stmt} {f : Addr} {fd : FuncData} {N ps : List Str} {k : Nat} {sp : Sp} (F : Fun K x qual st f fd) (S : FnScope N ps (defScope st)) (len : ∀ vs H Q E, sp vs H Q E → vs.length = ps.length)
    (hbody : ∀ (cdv : Value) (A : Around) (outer : List Env) (s : Shared) (H : Hp) (vs : List V) (Q : VK) (E : XK), Room k (A.deeper (envOfC qual (defScope st) s.heap.objs.size f cdv)) → sp vs H Q E →
      ∃ t, PSs (cxOf (CXO P w) P w K mg base N qual (defScope st) f cdv A outer s H E) (defBody st) t ∧ t { nx := fun _ H' => Q .non H', rt := Q } (start N vs) H) : FnOk P w K mg base (CXO P w) (k + 1) f fd ps sp := by
  obtain ⟨oc, od, kV, doc, pm, an, cdv, ct, osl, rfl, lk, hcd⟩ := F.ex
  exact fn_of lk hcd S len fun A outer s H vs Q E hr hsp => hbody cdv A outer s H vs Q E hr hsp

structure ExC (K : PySem.W.Frag) (C : Addr) : Prop where
  ex : PySem.W.excIn K C [.type "ValueError", .type "Exception", .type "BaseException", .type "object"] "ValueError.__new__" = true

section
variable {X : Cx} {E : XK} {x : Str} {C : Addr} {e : Expr} {es : List Expr} {t : TA} {np cpos pos : Pos}
end

def Landed (X : Cx) (pins : List (Addr × Obj)) (Kx : Value → Hp → Prop) (e : Value) (s' : Shared) : Prop :=
  ∃ (a : Addr) (C : Value) (σ : St) (H : Hp) (g : Heap), e = .ref a ∧ Inv X pins σ H s' ∧ Fly X.stack g H a C s'.heap ∧ (∀ p ∈ X.pn ++ pins, ∃ u, g.get? p.1 = some u) ∧
    (∀ b u, X.s₀.heap.get? b = some u → b ∉ X.ex → ∃ u', g.get? b = some u') ∧ Kx C H
abbrev tryCx (X : Cx) (pins : List (Addr × Obj)) (Kx : Value → Hp → Prop) : Cx := { X with pn := X.pn ++ pins, xe := Landed X pins Kx }
abbrev suiteCx (X : Cx) (a : Addr) : Cx := { X with A := X.A.mark (some (.ref a)), calm := false, xe := fun _ _ => False }
section
variable {X : Cx} {pins pins' : List (Addr × Obj)} {σ : St} {H : Hp} {s : Shared} {Kx : Value → Hp → Prop} {a : Addr}
theorem Inv.frame {σ' : St} {h' : Heap} {m' : Str → Option Value} {t' : Nat} (I : Inv X pins σ H s) (hn : h'.Ns X.env.locals m') (hs : Heap.SameBut X.env.locals s.heap h')
    (hl : ∀ (i : Nat) (x : Str) (v : V), X.N[i]? = some x → σ'[i]? = some (some v) → Vis X.env.scope x → ∃ u, RelV v u ∧ Look X.env h' m' x u) (hlen : σ'.length = σ.length) : Inv X pins σ' H { s with heap := h', toks := t' } := by
  have neL : ∀ b o, X.s₀.heap.get? b = some o → b ≠ X.env.locals := fun b o e => Nat.ne_of_lt (Nat.lt_of_lt_of_le (Heap.lt_size e) I.ok.above)
  refine ⟨I.ok, I.os, I.bare, ⟨fun b o e n hb hx => (hs.2 b (neL b o e)).trans (I.base.keep b o e n hb hx), fun b o e n hb hx => ?_, I.base.free, fun b o e hx => ?_, I.base.tups, I.base.frzs, I.base.tbls⟩, ⟨m', hn, hl⟩, fun y c e => ?_, I.free, I.freeC, fun p hp => ?_, fun b u q => ?_, hlen.trans I.len⟩
  · obtain ⟨sl, e1⟩ := I.base.slot b o e n hb hx
    exact ⟨sl, (hs.2 b (neL b o e)).trans e1⟩
  · obtain ⟨o', e1⟩ := I.base.there b o e hx
    exact ⟨o', (hs.2 b (neL b o e)).trans e1⟩
  · obtain ⟨v, z⟩ := I.cell y c e
    exact ⟨v, z.sameBut hs (I.cne y c e)⟩
  · obtain ⟨e, n, ne, nf, d⟩ := I.pin p hp
    exact ⟨(hs.2 p.1 ne).trans e, n, ne, nf, d⟩
  · refine (I.hok b u q).stay (fun c v hc e => (hs.2 c ?_).trans e) (fun _ z => z) fun _ _ z => z
    intro z
    have fr := I.free
    rcases hc with rfl | hc
    · rw [z, fr] at q; cases q
    · rw [z, fr] at hc; cases hc
end

section
variable {X : Cx} {body suite : List Stmt} {b₀ : Stmt} {n x : Str} {i : Nat} {R : Addr} {np hpos pos : Pos} {tb : (Value → Hp → Prop) → TS} {th : TS}
end
end L2

set_option Elab.async false
set_option linter.all false
set_option maxRecDepth 100000
set_option maxHeartbeats 4000000
namespace L2
open PySem PySem.Spec PyProof.Rows

section
variable {X : Cx}
def rSlS : V → Option Int → Option Int → Hp → VK → Prop := fun x lo hi H Q => ∃ z, x = .str z ∧ z.length ≤ sizeLine ∧ Q (.str (Txt.slice z lo hi)) H
theorem part_of {v : Value} {o : Option Int} (p : IsPart v o) : ∃ l : Option (Int × Tok), v = partValue l ∧ l.map (·.1) = o := by
  cases p with
  | none => exact ⟨none, rfl, rfl⟩
  | int i t => exact ⟨some (i, t), rfl, rfl⟩
theorem sl_str : SlR X rSlS := by
  intro pins s σ H x v vl vu lo hi sl Q I rx hs pl pu h
  obtain ⟨z, rfl, hz, q⟩ := h
  obtain ⟨t, rfl⟩ := rx
  obtain ⟨l, rfl, rfl⟩ := part_of pl
  obtain ⟨u, rfl, rfl⟩ := part_of pu
  refine ⟨"str", _, PySem.F.slot_str_getitem.lookup, typeIs_str s z t, wpAny_getItem_str_slice (l := l) (u := u) (st := none) hs rfl ?_⟩
  exact post_val_or_str ⟨Nat.le_trans (Txt.slice_le z _ _) hz, fun t' k => ⟨.str _, H, I.tok _, ⟨_, rfl⟩, q⟩⟩

def eqL : List V → List V → Bool
  | [], [] => true
  | x :: xs, y :: ys => eqV x y && eqL xs ys
  | _, _ => false
theorem eqL_len : ∀ {xs ys : List V}, xs.length ≠ ys.length → eqL xs ys = false
  | [], [], h => absurd rfl h
  | [], _ :: _, _ => rfl
  | _ :: _, [], _ => rfl
  | x :: xs, y :: ys, h => by
    have : eqL xs ys = false := eqL_len fun z => h (by rw [List.length_cons, List.length_cons, z])
    show (eqV x y && eqL xs ys) = false
    rw [this, Bool.and_false]
theorem eqL_all : ∀ (xs ys : List V), xs.length = ys.length → (List.range xs.length).all (fun j => eqV (xs.getD j .non) (ys.getD j .non)) = eqL xs ys
  | [], [], _ => rfl
  | [], _ :: _, h => nomatch h
  | _ :: _, [], h => nomatch h
  | x :: xs, y :: ys, h => by
    have ih := eqL_all xs ys (by simpa using h)
    rw [List.length_cons, List.range_succ_eq_map, List.all_cons, List.all_map]
    show (eqV x y && _) = (eqV x y && eqL xs ys)
    rw [← ih]
    rfl
def rEqL (K : PySem.W.Frag) (neg : Bool) : R2 := fun x y H Q => ∃ l b xs ys, x = .ref l ∧ y = .ref b ∧ SqL K H l xs ∧ SqL K H b ys ∧ xs.all flatV = true ∧ ys.all flatV = true ∧ Q (.bl (if neg then !eqL xs ys else eqL xs ys)) H
theorem flat_at {xs ys : List V} {its its2 : List Value} {A : Around} {s : Shared} (r : Vals xs its) (r2 : Vals ys its2) (fx : xs.all flatV = true) (fy : ys.all flatV = true) :
    ∀ (j : Nat) (h1 : j < its.toArray.size) (h2 : j < its2.toArray.size), SeqAt.EqAt A s its.toArray[j] its2.toArray[j] (eqV (xs.getD j .non) (ys.getD j .non)) := by
  intro j h1 h2
  have l1 := r.length
  have l2 := r2.length
  have hx : j < xs.length := by rw [l1]; simpa using h1
  have hy : j < ys.length := by rw [l2]; simpa using h2
  obtain ⟨u, e1, q1⟩ := r.get (List.getElem?_eq_getElem hx)
  obtain ⟨w, e2, q2⟩ := r2.get (List.getElem?_eq_getElem hy)
  have e3 : its.toArray[j] = u := by
    rw [List.getElem_toArray]; rw [List.getElem?_eq_getElem (by simpa using h1)] at e1; exact Option.some.inj e1
  have e4 : its2.toArray[j] = w := by
    rw [List.getElem_toArray]; rw [List.getElem?_eq_getElem (by simpa using h2)] at e2; exact Option.some.inj e2
  have g1 : xs.getD j .non = xs[j] := by rw [List.getD_eq_getElem?_getD, List.getElem?_eq_getElem hx]; rfl
  have g2 : ys.getD j .non = ys[j] := by rw [List.getD_eq_getElem?_getD, List.getElem?_eq_getElem hy]; rfl
  rw [e3, e4, g1, g2]
  exact eqAt_V q1 q2 (List.all_eq_true.mp fx _ (List.getElem_mem hx)) (List.all_eq_true.mp fy _ (List.getElem_mem hy))
theorem op_ne_lst (hu : X.A.units < cLine) : OpR X (compareOp .NotEq) (rEqL X.K true) := by
  intro pins s σ H x y v u Q I rx ry h
  obtain ⟨l, b, xs, ys, rfl, rfl, hx, hy, fx, fy, q⟩ := h
  cases rx; cases ry
  obtain ⟨its, r, pl, _⟩ := I.list hx
  obtain ⟨its2, r2, pl2, _⟩ := I.list hy
  have l1 := r.length
  have l2 := r2.length
  by_cases hl : xs.length = ys.length
  · refine SeqAt.RcNeAt.lists pl.isList pl2.isList (by simp; omega) hu (flat_at r r2 fx fy) _ _ _ _ ?_
    rw [List.size_toArray, ← l1, eqL_all xs ys hl]
    exact ⟨.bl _, H, I, rfl, q⟩
  · refine SeqAt.RcNeAt.lists_lengths pl.isList pl2.isList (by simp; omega) hu _ _ _ _ ?_
    rw [show (if true = true then !eqL xs ys else eqL xs ys) = true by rw [eqL_len hl]; rfl] at q
    exact ⟨.bl _, H, I, rfl, q⟩

theorem all_range : ∀ bs : List Bool, (List.range bs.length).all (fun i => bs.getD i false) = bs.all id
  | [] => rfl
  | b :: bs => by
    rw [List.length_cons, List.range_succ_eq_map, List.all_cons, List.all_map, List.all_cons]
    show (b && _) = (b && _)
    rw [← all_range bs]
    rfl
theorem call_all_list (hc : X.calm = true) : CallR X (.builtin "all") (fun xs H Q => ∃ (p : Addr) (bs : List Bool), xs = [.ref p] ∧ SqL X.K H p (bs.map V.bl) ∧ Q (.bl (bs.all id)) H) := by
  intro pins s σ H xs us Q I r h
  obtain ⟨p, bs, rfl, hq, q⟩ := h
  obtain ⟨u, rfl, rx⟩ := vals1 r
  cases rx
  obtain ⟨its, r', pl, hz⟩ := I.list hq
  have hlen := r'.length
  obtain ⟨o, n, ho, _⟩ := id pl
  have hne : p ≠ s.heap.objs.size := Nat.ne_of_lt (Heap.lt_size ho)
  have tr : TruthOf X.prog X.w X.A.in1 (fun i v => its.toArray[i]? = some v) (fun i => bs.getD i false) := by
    intro i v s2 Q2 E2 hv hq2
    have hv' : its[i]? = some v := by simpa using hv
    have hi : i < bs.length := by
      have := (List.getElem?_eq_some_iff.mp hv').1
      rw [← hlen, List.length_map] at this; exact this
    obtain ⟨w, e1, e2⟩ := r'.get (i := i) (x := .bl bs[i]) (by rw [List.getElem?_map, List.getElem?_eq_getElem hi]; rfl)
    rw [hv'] at e1
    cases e1
    cases e2
    refine wpAny_truthy_bool ?_
    have e3 : bs.getD i false = bs[i] := by rw [List.getD_eq_getElem?_getD, List.getElem?_eq_getElem hi]; rfl
    have q3 : Q2 (bs.getD i false) s2 := hq2
    rw [e3] at q3
    exact q3
  refine call_all_walk (wpAny_pyIter_list pl.isList ?_)
  refine ⟨s.heap.objs.size, [s.heap.objs.size, p], [s.heap.objs.size], its.toArray.size, _, _, _, rfl, Walks.list (A := X.A.in1) (I.ok.hd hc) _ _ hne its.toArray, ⟨⟨_, Heap.get?_push_size _ rfl, rfl, rfl⟩, ?_⟩, tr, fun h' tk hk => ?_⟩
  · obtain ⟨o2, e2, r2⟩ := pl.isList
    exact ⟨o2, Heap.get?_push_of_some _ e2, r2⟩
  · have hk2 : ∀ b o, s.heap.get? b = some o → h'.get? b = some o := fun b o e => hk b o (fun z => by
      have e1 := Heap.lt_size e
      rw [List.mem_singleton.mp z] at e1
      exact absurd e1 (Nat.lt_irrefl _)) (Heap.get?_push_of_some _ e)
    have e : (List.range its.toArray.size).all (fun i => bs.getD i false) = bs.all id := by
      rw [List.size_toArray, ← hlen, List.length_map]; exact all_range bs
    rw [e]
    exact ⟨.bl _, H, I.kept (t' := tk) hk2, rfl, q⟩
end

theorem Inv.laidN {X : Cx} {pins : List (Addr × Obj)} {σ : St} {H : Hp} {s : Shared} {h' : Heap} {a : Addr} {o : HO} {t' : Nat} (I : Inv X pins σ H s) (k : ∀ b u, s.heap.get? b = some u → h'.get? b = some u) (hn : s.heap.get? a = none)
    (new : ObjOk X.prog X.w (upd H a o) h' a o) : Inv X pins σ (upd H a o) { s with heap := h', toks := t' } := by
  have ha : H a = none := I.hasNo hn
  have nt : ∀ b u, H b = some u → b ≠ a := fun b u q => ne_of_none q ha
  refine I.un ⟨fun b u q _ _ _ => k b u q, fun b u q _ _ _ => ⟨u.slots, k b u q⟩, fun b u q n _ => ?_, fun b u q _ => ⟨u, k b u q⟩, fun b xs q => ?_, fun b u xs q => ?_, fun b ps q => ⟨#[], ?_⟩⟩ fun b u q => ?_
  · have ne : b ≠ a := fun z => by rw [z, hn] at q; cases q
    rw [upd_ne ne]; exact n
  · rw [upd_ne (nt _ _ q)]; exact q
  · rw [upd_ne (nt _ _ q)]; exact q
  · rw [upd_ne (nt _ _ q), q]; simp
  · by_cases hb : b = a
    · subst hb; rw [upd_same] at q; cases q; exact new
    · rw [upd_ne hb] at q
      exact (I.hok b u q).stay (fun c v _ z => k c v z) (fun c z => by rw [upd_ne (nt _ _ z)]; exact z) fun c xs z => by rw [upd_ne (nt _ _ z)]; exact z

def inS (z : Str) (c : Nat) : Bool := !(Builtin.Str.occurrences z ⟨#[c]⟩ 0 z.length 1).isEmpty
theorem vals_signs {g : Nat → Bool} : ∀ (cs : List Nat) (vs rs : List Value), vs.length = cs.length → (∀ (j : Nat) (v : Value), vs[j]? = some v → ∃ c u, cs[j]? = some c ∧ v = .str ⟨#[c]⟩ u) →
    Paired (fun v r => ∀ c u, v = .str ⟨#[c]⟩ u → r = .bool (g c)) vs rs → Vals (cs.map fun c => V.bl (g c)) rs
  | [], [], _, _, _, .nil => .nil
  | [], _ :: _, _, h, _, _ => nomatch h
  | _ :: _, [], _, h, _, _ => nomatch h
  | c :: cs, v :: vs, _, h, hg, .cons r t => by
    obtain ⟨c', u, e1, e2⟩ := hg 0 v rfl
    have e3 : c = c' := by simpa using e1
    subst e3
    exact .cons (r c u e2) (vals_signs cs vs _ (by simpa using h) (fun j w hw => by simpa using hg (j + 1) w (by simpa using hw)) t)
section
variable {X : Cx} {x z : Str} {p1 p2 p3 px pos : Pos} {iter : Expr} {ti : TE} {scope : Scope} {cl : List (Str × Addr)} {zs : Str}
def ZRead (X : Cx) (scope : Scope) (cl : List (Str × Addr)) (z : Str) (p2 : Pos) (zs : Str) (σ : St) : Prop :=
  ∀ (pins : List (Addr × Obj)) (H : Hp) (s1 s3 : Shared) (C : Addr) (Q : Value → Shared → Prop) (E : Value → Shared → Prop), Inv X pins σ H s1 → (∀ b o, s1.heap.get? b = some o → s3.heap.get? b = some o) → (∀ t, Q (.str zs t) s3) →
    wpAny (model X.prog X.w) X.A (eval (.Name z p2) (compEnvC scope cl C X.env)) Q E s3
def tCompIn (X : Cx) (scope : Scope) (cl : List (Str × Addr)) (z : Str) (p2 : Pos) (ti : TE) : TE := fun σ H Q => ∃ zs, ZRead X scope cl z p2 zs σ ∧ ti σ H fun v H1 => ∃ y, v = .str y ∧ y.length ≤ sizeLine ∧
  ∀ p, H1 p = none → Q (.ref p) (upd H1 p (.lst (y.cps.toList.map fun c => V.bl (inS zs c))))
theorem pe_compIn (hc : X.calm = true) (hi : PE X iter ti) (hclos : closureFor scope X.env = pure cl) (hcell : ∀ y ∈ scope.names, y.2 ≠ .cell) (hkind : scope.kind = .function)
    (hnames : ∀ y ∈ scope.names, y.2 = .local → scope.names.lookup y.1 = some .local) (hx : scope.names.lookup x = some .local) (hs : ∀ v, foldedSetIterable iter X.env v = pure v := by intro _; rfl) (hd : (x == ("__debug__" : Str)) = false := by decide) :
    PE X (.ListComp (.Compare (.Name x p1) [.In] [.Name z p2] p3) [⟨.Name x px, iter, [], 0⟩] scope pos) (tCompIn X scope cl z p2 ti) := by
  intro pins s σ H Q I h
  obtain ⟨zs, zr, h⟩ := h
  refine wpAny_ListComp_free (cl := cl) (fun _ => true) (fun v r => ∀ c u, v = .str ⟨#[c]⟩ u → r = .bool (inS zs c)) hclos hcell hkind hnames hx (thn (hi pins s σ H _ I h) fun xv s1 ⟨v, H1, I1, r1, y, ev, hy, q⟩ => ?_) hs
  subst ev
  obtain ⟨t, rfl⟩ := r1
  refine wpAny_pyIter_str fun o St W hst => ?_
  have old : ∀ (h' : Heap), (∀ b o', b ∉ [s1.heap.objs.size] → (s1.heap.push o).get? b = some o' → h'.get? b = some o') → ∀ b o', s1.heap.get? b = some o' → h'.get? b = some o' := fun h' hk b o' e =>
    hk b o' (fun z => by
      have e1 := Heap.lt_size e
      rw [List.mem_singleton.mp z] at e1
      exact absurd e1 (Nat.lt_irrefl _)) (Heap.get?_push_of_some _ e)
  refine ⟨s1.heap.objs.size, [s1.heap.objs.size], [s1.heap.objs.size], y.cps.size, SignAt y, St, rfl, W X.A (I1.ok.hd hc), hy, hst, fun b hb => ?_, ⟨?_, ?_⟩, ?_⟩
  · rw [List.mem_singleton.mp hb]
    show s1.heap.objs.size < (s1.heap.push o).objs.size
    rw [Heap.size_push]; exact Nat.lt_succ_self _
  · intro C i v s3 m3 E' _ hP hn hm hk _
    exact wpAny_pure ⟨rfl, s3.heap, s3.toks, rfl, fun _ _ e => e⟩
  · intro C i v s3 m3 E' _ hP _ hn hm hk _
    obtain ⟨c, u, _, rfl⟩ := hP
    refine wpAny_Compare1 (wpAny_Name (wpAny_loadName_local (env := compEnvC scope cl C X.env) (m := m3) hkind (lookup_relabel_local hx) hn hm ?_) hd)
    refine zr pins H1 s1 s3 C _ _ I1 (old _ hk) fun t3 => ?_
    refine in_str ⟨fun c' u' e => ?_, s3.heap, s3.toks, rfl, fun _ _ e => e⟩
    injection e with e1 _
    injection e1 with e2
    have e3 : c = c' := by simpa using e2
    subst e3
    rfl
  · intro D h' tk ys vs hnew hl hpl hlen hP hF hk
    have hn1 : s1.heap.get? D = none := by
      cases e : s1.heap.get? D with
      | none => rfl
      | some u =>
        have := Heap.get?_push_of_some o e
        rw [show (s1.heap.push o).get? D = none from hnew] at this
        cases this
    obtain ⟨n, hD⟩ := hpl
    have hfil : vs.filter (fun _ => true) = vs := List.filter_eq_self.mpr fun _ _ => rfl
    rw [hfil] at hF
    have V1 : Vals (y.cps.toList.map fun c => V.bl (inS zs c)) ys.toList := vals_signs y.cps.toList vs ys.toList (by rw [hlen]; simp) (fun j v hv => by
      obtain ⟨c, u, e1, e2⟩ := hP j v hv
      exact ⟨c, u, by simpa using e1, e2⟩) hF
    have new : ObjOk X.prog X.w (upd H1 D (.lst (y.cps.toList.map fun c => V.bl (inS zs c)))) h' D (.lst (y.cps.toList.map fun c => V.bl (inS zs c))) := by
      refine ⟨?_, ys.toList, n, V1, ?_⟩
      · rw [List.length_map]
        have : y.cps.toList.length = y.length := by simp [Str.length]
        omega
      · rw [Array.toArray_toList]; exact hD
    exact ⟨.ref D, _, I1.laidN (t' := tk) (old h' hk) hn1 new, rfl, q D (I1.hasNo hn1)⟩
theorem zread_glob {σ : St} {t : Tok} (hg : (relabel scope X.env).names.lookup z = some .globalImplicit) (hkind : scope.kind = .function) (hm : X.mg z = some (.str zs t)) (hd : (z == ("__debug__" : Str)) = false := by decide) : ZRead X scope cl z p2 zs σ := by
  intro pins H s1 s3 C Q E I k q
  exact Calls.Name_function_global (env := compEnvC scope cl C X.env) hkind hg (Calls.loadGlobal_global (env := compEnvC scope cl C X.env) (by
    show s3.heap.Ns X.env.globals X.mg
    rw [I.ok.glob]; exact (I.mod.glob.keeps I.bk).keeps k) hm (q t)) hd
end

section
variable {X : Cx}
theorem call_isi_ty : CallR X (.builtin "isinstance") (fun xs H Q => ∃ x T t b, xs = [x, .ty T] ∧ TyOf X.K H x t ∧ PySem.W.kitOne X.K t (.type T) = some b ∧ Q (.bl b) H) := by
  intro pins s σ H xs us Q I r h
  obtain ⟨x, T, t, b, rfl, ty, e, q⟩ := h
  obtain ⟨u, w', rfl, rx, ry⟩ := vals2 r
  cases (show w' = Value.type T from ry)
  exact isinst_ok I rx ty e fun tk => ⟨.bl b, H, I.tok _, rfl, q⟩
end

section
variable {X : Cx} {x : Str} {pos : Pos}
theorem pe_gref {a : Addr} (hg : Gl X x) (hm : X.mg x = some (.ref a)) (hd : (x == ("__debug__" : Str)) = false := by decide) : PE X (.Name x pos) (tC (.ref a)) := pe_glob hg hm rfl hd
theorem pe_gty {T : String} (hg : Gl X x) (hm : X.mg x = none) (hv : bootBuiltins x = some (.type T)) (hn : x ≠ "__name__" := by decide) (hd : (x == ("__debug__" : Str)) = false := by decide) : PE X (.Name x pos) (tC (.ty T)) := pe_bltn hg hm hv rfl hn hd
end
end L2

set_option Elab.async false
set_option linter.all false
set_option maxRecDepth 100000
set_option maxHeartbeats 4000000
namespace L2
open PySem PySem.Spec PyProof.Rows PySem.W PySem.Calls Builtin Builtin.ObjectAttr Builtin.Getset_descriptor

section
variable {prog : Program} {w : World} {A : Around} {E : Value → Shared → Prop} {s : Shared} {K : PySem.W.Frag} {a C : Addr} {o : Obj} {R : Result → Shared → Prop}
structure ExI (K : PySem.W.Frag) (C : Addr) : Prop where
  cl : (PySem.W.clsIn K C).isSome = true
  g1 : PySem.W.findIn K (.ref C) "__getattribute__" = some (some (.builtin "BaseException.__getattribute__"))
  g2 : PySem.W.findIn K (.ref C) "__getattr__" = some none
  g3 : PySem.W.findIn K (.ref C) "__class__" = some (some (.builtin "object.__class__"))
  g4 : PySem.W.mroIn K C (.type "object") = some true
  g5 : PySem.W.mroIn K C (.type "BaseException") = some true
  g6 : PySem.W.specialIn K (.builtin "object.__class__") "__get__" = some (some (.builtin "getset_descriptor.__get__"))
  g7 : PySem.W.takesIn K (.builtin "object.__class__") = some true
end
end L2

set_option Elab.async false
set_option linter.all false
set_option maxRecDepth 100000
set_option maxHeartbeats 4000000
namespace L2
open PySem PySem.Spec PyProof.Rows

theorem thnF {α : Type} {t : Sem α} {Q Q' : α → Shared → Prop} {M : Model} {A : Around} {E : Value → Shared → Prop} {s : Shared} (h : wpAny M A t Q (fun _ _ => False) s) (hQ : ∀ a s, Q a s → Q' a s) : wpAny M A t Q' E s := wpAny_mono h hQ fun _ _ z => z.elim

abbrev testsOf (ifs : List Expr) (env : Env) : Sem Bool := forIn ifs true fun c r => if r = true then do let ok ← isTrue c env (eval c env); pure (ForInStep.yield ok) else pure (ForInStep.yield r)

theorem comp_turns {prog : Program} {w : World} {A : Around} {R : Result → Shared → Prop} {s : Shared} {elt tg iter : Expr} {ifs : List Expr} {scope : Scope} {pos : Pos} {it acc : Value} {env : Env} (J : Nat → Shared → Prop)
    (turn : ∀ k s1, J k s1 → wpAny (model prog w) A (pyNext it) (fun r s2 => match r with
      | none => R (.ok .next) s2
      | some v => wpAny (model prog w) A (letOwnedTupleGo tg it v) (fun _ s3 => wpAny (model prog w) A (assign tg env v) (fun _ s4 => wpAny (model prog w) A (testsOf ifs env) (fun ok s5 =>
          if ok = true then wpAny (model prog w) A (eval elt env) (fun x s6 => wpAny (model prog w) A (call (.builtin "list.append") [acc, x]) (fun _ s7 => ∃ m, m < k ∧ J m s7) (fun _ _ => False) s6) (fun _ _ => False) s5
          else ∃ m, m < k ∧ J m s5) (fun _ _ => False) s4) (fun _ _ => False) s3) (fun _ _ => False) s2) (fun _ _ => False) s1)
    (k : Nat) (h : J k s) : codeAny (model prog w) A (.compLoop (.ListComp elt [⟨tg, iter, ifs, 0⟩] scope pos) 0 it acc env) R s := by
  refine codeAny_loop rfl J (fun k s1 hJ => ?_) k h
  refine wpAny_noted ?_
  rw [compTurn_list]
  refine wpAny_bind (wpAny_standAt (wpAny_bind (thnF (turn k s1 hJ) fun r s2 h2 => ?_)))
  cases r with
  | none => exact wpAny_pure h2
  | some v =>
    refine wpAny_bind (thnF h2 fun _ s3 h3 => wpAny_bind (thnF h3 fun _ s4 h4 => wpAny_bind (thnF h4 fun ok s5 h5 => ?_)))
    cases ok with
    | false => exact wpAny_pure ⟨rfl, h5⟩
    | true => exact wpAny_bind (wpAny_bind (thnF h5 fun x s6 h6 => wpAny_bind (thnF h6 fun _ s7 h7 => wpAny_pure (wpAny_pure ⟨rfl, h7⟩))))

abbrev compCx (X : Cx) (N : List Str) (scope : Scope) (cl : List (Str × Addr)) (C : Addr) (s0 : Shared) (H0 : Hp) (ex : List Addr) (pins : List (Addr × Obj)) : Cx :=
  { X with N := N, s₀ := s0, H₀ := H0, env := compEnvC scope cl C X.env, outer := X.stack, stack := X.stack, ex := ex, fn := fun _ => false, pn := X.pn ++ pins, xe := fun _ _ => False }
def FreeOk (X : Cx) (scope : Scope) (cl : List (Str × Addr)) : List Str → List (Option Nat) → Prop
  | [], [] => True
  | _ :: N, none :: fr => FreeOk X scope cl N fr
  | y :: N, some i :: fr => (X.N[i]? = some y ∧ (X.env.kindOf y = some .cell ∨ X.env.kindOf y = some .free) ∧ ((relabel scope X.env).names.lookup y = some .cell ∨ (relabel scope X.env).names.lookup y = some .free) ∧
      ∃ c, X.env.cells.lookup y = some c ∧ cl.lookup y = some c) ∧ FreeOk X scope cl N fr
  | _, _ => False
def compSt (fr : List (Option Nat)) (σ : St) : St := fr.map fun o => match o with | none => none | some i => (σ[i]?).getD none
theorem FreeOk.len {X : Cx} {scope : Scope} {cl : List (Str × Addr)} : ∀ {N : List Str} {fr : List (Option Nat)}, FreeOk X scope cl N fr → fr.length = N.length
  | [], [], _ => rfl
  | _ :: N, none :: fr, h => by rw [List.length_cons, List.length_cons, FreeOk.len (N := N) h]
  | _ :: N, some i :: fr, h => by rw [List.length_cons, List.length_cons, FreeOk.len (N := N) h.2]
  | [], _ :: _, h => h.elim
  | _ :: _, [], h => h.elim
theorem FreeOk.at {X : Cx} {scope : Scope} {cl : List (Str × Addr)} {σ : St} {v : V} {y : Str} : ∀ {N : List Str} {fr : List (Option Nat)} {j : Nat}, FreeOk X scope cl N fr → N[j]? = some y → (compSt fr σ)[j]? = some (some v) →
    ∃ i : Nat, σ[i]? = some (some v) ∧ X.N[i]? = some y ∧ (X.env.kindOf y = some .cell ∨ X.env.kindOf y = some .free) ∧ ((relabel scope X.env).names.lookup y = some .cell ∨ (relabel scope X.env).names.lookup y = some .free) ∧
      ∃ c, X.env.cells.lookup y = some c ∧ cl.lookup y = some c
  | [], [], j, _, e, _ => by simp at e
  | [], _ :: _, _, h, _, _ => h.elim
  | _ :: _, [], _, h, _, _ => h.elim
  | _ :: N, none :: fr, 0, _, _, q => by cases q
  | _ :: N, none :: fr, j + 1, h, e, q => FreeOk.at (N := N) (fr := fr) (j := j) h e q
  | x :: N, some i :: fr, 0, h, e, q => by
    have e' : x = y := Option.some.inj e
    subst e'
    have q' : some ((σ[i]?).getD none) = some (some v) := q
    refine ⟨i, ?_, h.1⟩
    cases z : σ[i]? with
    | none => rw [z] at q'; cases q'
    | some o => rw [z] at q'; exact congrArg some (Option.some.inj q')
  | _ :: N, some i :: fr, j + 1, h, e, q => FreeOk.at (N := N) (fr := fr) (j := j) h.2 e q
def ClOk (X : Cx) : List (Str × Addr) → Prop
  | [] => True
  | (y, c) :: r => X.env.cells.lookup y = some c ∧ ClOk X r
theorem ClOk.at {X : Cx} {y : Str} {c : Addr} : ∀ {cl : List (Str × Addr)}, ClOk X cl → cl.lookup y = some c → X.env.cells.lookup y = some c
  | [], _, e => by cases e
  | (z, d) :: r, h, e => by
    rw [List.lookup_cons] at e
    cases q : y == z with
    | true =>
      rw [q] at e
      have e1 : y = z := by simpa using q
      have e2 : d = c := Option.some.inj e
      subst e1 e2
      exact h.1
    | false =>
      rw [q] at e
      exact ClOk.at h.2 e
theorem lookup_all {α : Type} {p : Str × α → Bool} {y : Str} {k : α} : ∀ {l : List (Str × α)}, l.all p = true → l.lookup y = some k → p (y, k) = true
  | [], _, e => by cases e
  | (z, d) :: r, h, e => by
    rw [List.all_cons, Bool.and_eq_true] at h
    rw [List.lookup_cons] at e
    cases q : y == z with
    | true =>
      rw [q] at e
      have e1 : y = z := by simpa using q
      have e2 : d = k := Option.some.inj e
      subst e1 e2
      exact h.1
    | false =>
      rw [q] at e
      exact lookup_all h.2 e

section
variable {X : Cx} {pins : List (Addr × Obj)} {σ : St} {H : Hp} {s : Shared} {N : List Str} {fr : List (Option Nat)} {scope : Scope} {cl : List (Str × Addr)}
theorem Inv.block {ex : List Addr} {h' : Heap} {C : Addr} {m : Str → Option Value} {tk : Nat} (I : Inv X pins σ H s) (hkind : scope.kind = .function) (hfr : FreeOk X scope cl N fr) (hcl : ClOk X cl)
    (hhas : ((relabel scope X.env).names.all fun p => !(p.2 == .cell || p.2 == .free) || (cl.lookup p.1).isSome) = true) (hex : ∀ b ∈ ex, FpOk X pins H b) (hlt : ∀ b ∈ ex, b < s.heap.objs.size)
    (old : ∀ b o, s.heap.get? b = some o → h'.get? b = some o) (hC : s.heap.objs.size ≤ C) (hns : h'.Ns C m) : Inv (compCx X N scope cl C s H ex pins) [] (compSt fr σ) H { s with heap := h', toks := tk } := by
  have nst : ∀ b, b ≠ X.env.locals → b ∉ X.fs → b ∉ frs X.stack := fun b h1 h2 z => (List.mem_cons.mp (I.stkSub b z)).elim h1 h2
  have ltC : ∀ b o, s.heap.get? b = some o → b ≠ C := fun b o e => Nat.ne_of_lt (Nat.lt_of_lt_of_le (Heap.lt_size e) hC)
  refine ⟨⟨I.ok.mod, hkind, I.ok.glob, I.ok.blt, hC, fun x y c e1 e2 => I.ok.inj x y c (hcl.at e1) (hcl.at e2), fun x hx => ?_, (fun _ _ z => nomatch z), I.ok.hd, I.ok.frames, .inl rfl, fun b hb => ⟨Nat.ne_of_lt (Nat.lt_of_lt_of_le (hlt b hb) hC), fun x c e => (hex b hb).2.2.2.2.1 x c (hcl.at e)⟩,
      I.bs, Nat.le_trans I.ok.bsz I.sz, fun b o e hb => ?_, fun b hb => nst b (hex b hb).2.1 (hex b hb).2.2.1, I.stack, I.stkFree⟩, rfl, I.bare, Un.kept old, ⟨m, hns, fun i x v e1 e2 e3 => ?_⟩, fun x c e => ?_, ?_, fun x c e => I.freeC x c (hcl.at e), fun p hp => ?_, I.hok.kept old, ?_⟩
  · have q : ∃ k, (relabel scope X.env).names.lookup x = some k ∧ (k = .cell ∨ k = .free) := hx.elim (fun z => ⟨_, z, .inl rfl⟩) fun z => ⟨_, z, .inr rfl⟩
    obtain ⟨k, q1, q2⟩ := q
    have z := lookup_all hhas q1
    have z2 : (cl.lookup x).isSome = true := by
      rcases q2 with rfl | rfl
      · simpa using z
      · simpa using z
    exact Option.isSome_iff_exists.mp z2
  · rcases (hex b hb).2.2.2.1 with z | z
    · exact I.ok.noex b o e z
    · exact absurd (Nat.lt_of_lt_of_le (Nat.lt_of_lt_of_le (Heap.lt_size e) I.ok.bsz) z) (Nat.lt_irrefl _)
  · obtain ⟨j, q1, q2, q3, q4, c, q5, q6⟩ := hfr.at e1 e2
    obtain ⟨m0, hn0, hl0⟩ := I.loc
    obtain ⟨u, r, l⟩ := hl0 j x v q2 q1 (q3.elim (fun z => .inr (.inl z)) fun z => .inr (.inr z))
    refine ⟨u, r, .inr ⟨q4, c, q6, ?_⟩⟩
    rcases l with ⟨k, _⟩ | ⟨_, c', e', o, ho, hd⟩
    · rcases q3 with z | z
      · rw [z] at k; cases k
      · rw [z] at k; cases k
    · rw [q5] at e'; cases e'
      exact ⟨o, old _ _ ho, hd⟩
  · obtain ⟨v, o, ho, hd⟩ := I.cell x c (hcl.at e)
    exact ⟨v, o, old _ _ ho, hd⟩
  · exact I.hok.fresh hC
  · have hp' : p ∈ X.pn ++ pins := by simpa using hp
    obtain ⟨e, n, ne, nf, d⟩ := I.pin p hp'
    exact ⟨old _ _ e, n, ltC _ _ e, nst _ ne nf, d⟩
  · show (compSt fr σ).length = N.length
    unfold compSt
    rw [List.length_map, hfr.len]

theorem Inv.trackS {a : Addr} {ob : Obj} {vs : Array Value} {n : Nat} {o : HO} (I : Inv X pins σ H s) (ha : H a = none) (hob : s.heap.get? a = some ob) (hd : ob.data = .seq vs n)
    (h0 : X.s₀.heap.get? a = none) (hp : ∀ p ∈ X.pn ++ pins, p.1 ≠ a) (new : ObjOk X.prog X.w (upd H a o) s.heap a o) : Inv X pins σ (upd H a o) s := by
  have nt : ∀ b u, H b = some u → b ≠ a := fun b u q => ne_of_none q ha
  refine ⟨I.ok, I.os, I.bare, ⟨I.base.keep, I.base.slot, fun b u e n hx => ?_, I.base.there, fun b xs q => ?_, fun b u xs q => ?_, fun b ps q => ?_⟩, I.loc, I.cell, ?_, fun y c e => ?_, fun p q => ?_, fun b u q => ?_, I.len⟩
  · have ne : b ≠ a := fun z => by rw [z, h0] at e; cases e
    rw [upd_ne ne]; exact I.base.free b u e n hx
  · have z := I.base.tups b xs q
    rw [upd_ne (nt _ _ z)]; exact z
  · have z := I.base.frzs b u xs q
    rw [upd_ne (nt _ _ z)]; exact z
  · obtain ⟨m, z⟩ := I.base.tbls b ps q
    exact ⟨m, by rw [upd_ne (nt _ _ z)]; exact z⟩
  · have ne : X.env.locals ≠ a := fun z => by
      obtain ⟨m, ⟨oL, es, ep, e1, e2, _⟩, _⟩ := I.loc
      rw [z, hob] at e1; cases e1
      rw [hd] at e2; cases e2
    rw [upd_ne ne]; exact I.free
  · have ne : c ≠ a := fun z => by
      obtain ⟨v, oc, e1, e2⟩ := I.cell y c e
      rw [z, hob] at e1; cases e1
      rw [hd] at e2; cases e2
    rw [upd_ne ne]; exact I.freeC y c e
  · obtain ⟨e, n, r⟩ := I.pin p q
    exact ⟨e, by rw [upd_ne (hp p q)]; exact n, r⟩
  · by_cases hb : b = a
    · subst hb; rw [upd_same] at q; cases q; exact new
    · rw [upd_ne hb] at q
      exact (I.hok b u q).stay (fun c v _ z => z) (fun c z => by rw [upd_ne (nt _ _ z)]; exact z) fun c xs z => by rw [upd_ne (nt _ _ z)]; exact z
end

def PTs (X : Cx) (ifs : List Expr) (t : TT) : Prop :=
  ∀ (pins : List (Addr × Obj)) (s : Shared) (σ : St) (H : Hp) (Q : Bool → Hp → Prop), Inv X pins σ H s → t σ H Q → wpAny (model X.prog X.w) X.A (testsOf ifs X.env) (TP X pins σ Q) X.xe s
def tTrue : TT := fun _ H Q => Q true H
theorem pts_nil {X : Cx} : PTs X [] tTrue := fun _ _ _ H _ I h => wpAny_tests_nil ⟨H, I, h⟩
theorem pts_one {X : Cx} {c : Expr} {t : TT} (h : PT X c t) : PTs X [c] t := fun pins s σ H Q I q => wpAny_tests_one (h pins s σ H Q I q)

def endC (Q : VK) (acc : List V) (H : Hp) : Prop := ∀ p, H p = none → Q (.ref p) (upd H p (.lst acc))
def tComp (fr : List (Option Nat)) (wi : TI) (g : TG) (tt : TT) (te : TE) : TE := fun σ H Q => wi σ H fun J H1 => ∃ W : Nat → Nat → List V → St → Hp → Prop, (∃ m, W 0 m [] (compSt fr σ) H1) ∧ ∀ i m acc σ1 H, W i m acc σ1 H →
  (J.stop i H ∧ endC Q acc H) ∨
  (J.go i H ∧ acc.length < sizeLine ∧ ∃ N : List V → St → Hp → Prop, (∀ acc' σ' H', N acc' σ' H' → ∃ m', m' < m ∧ W (i + 1) m' acc' σ' H') ∧ ∀ x H', J.yld i H x H' → g x σ1 H' fun σ2 H2 => tt σ2 H2 fun b H3 => if b = true then te σ2 H3 fun y H4 => N (acc ++ [y]) σ2 H4 else N acc σ2 H3)
theorem pe_comp {X : Cx} {elt tg iter : Expr} {ifs : List Expr} {scope : Scope} {cl : List (Str × Addr)} {pos : Pos} {N : List Str} {fr : List (Option Nat)} {wi : TI} {g : TG} {tt : TT} {te : TE}
    (hc : X.calm = true) (hi : PI X tg iter wi) (hclos : closureFor scope X.env = pure cl) (hcell : ∀ y ∈ scope.names, y.2 ≠ .cell) (hkind : scope.kind = .function)
    (hnames : ∀ y ∈ scope.names, y.2 = .local → scope.names.lookup y.1 = some .local) (hfr : FreeOk X scope cl N fr) (hcl : ClOk X cl)
    (hhas : ((relabel scope X.env).names.all fun p => !(p.2 == .cell || p.2 == .free) || (cl.lookup p.1).isSome) = true)
    (hg : ∀ C s0 H0 ex pins, PG (compCx X N scope cl C s0 H0 ex pins) tg g) (ht : ∀ C s0 H0 ex pins, PTs (compCx X N scope cl C s0 H0 ex pins) ifs tt) (he : ∀ C s0 H0 ex pins, PE (compCx X N scope cl C s0 H0 ex pins) elt te)
    (hs : ∀ v, foldedSetIterable iter X.env v = pure v := by intro _; rfl) : PE X (.ListComp elt [⟨tg, iter, ifs, 0⟩] scope pos) (tComp fr wi g tt te) := by
  intro pins s σ H Q I h
  rw [eval_ListComp]
  refine wpAny_comprehension_free (use := none) rfl hs hclos hkind hnames (thn (hi pins s σ H _ I h) fun xv s1 h1 => thn h1 fun itv s2 h2 => ?_)
  obtain ⟨it, fp, tn, J, H2, e, I2, T, st2, f2, W, ⟨m0, w0⟩, turn⟩ := h2
  subst e
  refine wpAny_newObj_type (wpAny_newFunctionEnv hcell (fun y hy => nomatch hy) (fun h4 hns hsb => ?_) hkind)
  dsimp only at hns hsb ⊢
  generalize hD : s2.heap.objs.size = D at *
  generalize hG : s2.heap.push { cls := .type "list", dict := none, data := .seq ([] : List Value).toArray } = G at hns hsb ⊢
  have hC : G.objs.size = D + 1 := by rw [← hG, Heap.size_push, hD]
  generalize hCC : G.objs.size = C at hns hsb hC ⊢
  subst hC
  have old : ∀ b o, s2.heap.get? b = some o → h4.get? b = some o := fun b o e => by
    have lt := Heap.lt_size e
    rw [hD] at lt
    exact hsb.extBut b o (Nat.ne_of_lt (Nat.lt_succ_of_lt lt)) (Heap.get?_push_of_some _ (hG ▸ Heap.get?_push_of_some _ e))
  have hDl : h4.get? D = some { cls := .type "list", dict := none, data := .seq ([] : List Value).toArray 0 } :=
    hsb.extBut _ _ (Nat.ne_of_lt (Nat.lt_succ_self _)) (Heap.get?_push_of_some _ (hG ▸ hD ▸ Heap.get?_push_size _ rfl))
  have flt : ∀ b ∈ fp, b < D := fun b hb => by
    obtain ⟨o, e, _⟩ := T.obj 0 _ st2 b hb
    have lt := Heap.lt_size e
    rw [hD] at lt
    exact lt
  have nst : ∀ b, b ≠ X.env.locals → b ∉ X.fs → b ∉ frs X.stack := fun b h1 h2 z => (List.mem_cons.mp (I2.stkSub b z)).elim h1 h2
  have pl : ∀ p ∈ X.pn ++ pins, p.1 < D := fun p hp => by
    have lt := Heap.lt_size (I2.pin p hp).1
    rw [hD] at lt
    exact lt
  have I4 : ∀ tk, Inv (compCx X N scope cl (D + 1) s2 H2 fp pins) [] (compSt fr σ) H2 { s2 with heap := h4, toks := tk } := fun tk =>
    I2.block hkind hfr hcl hhas f2 (fun b hb => by rw [hD]; exact flt b hb) old (by rw [hD]; exact Nat.le_succ _) hns
  have stat : ∀ {H' : Hp} {o : Obj}, (∀ b ∈ fp, H' b = none) → ∀ b ∈ fp, FpOk (compCx X N scope cl (D + 1) s2 H2 fp pins) [(D, o)] H' b := fun {H' o} hn b hb => by
    obtain ⟨_, k1, k2, _, k4, k5⟩ := f2 b hb
    refine ⟨hn b hb, Nat.ne_of_lt (Nat.lt_succ_of_lt (flt b hb)), nst b k1 k2, .inl hb, fun x c e => k4 x c (hcl.at e), fun p hp => ?_⟩
    rcases List.mem_append.mp hp with hp | hp
    · exact k5 p hp
    · rw [List.mem_singleton.mp hp]
      exact (Nat.ne_of_lt (flt b hb)).symm
  have dnf : D ∉ frs X.stack := fun z => by
    obtain ⟨_, o, e, _⟩ := I2.stack.mem z
    have lt := Heap.lt_size e
    rw [hD] at lt
    exact absurd lt (Nat.lt_irrefl _)
  have loop : ∀ tk, codeAny (model X.prog X.w) X.A (.compLoop (.ListComp elt [⟨tg, iter, ifs, 0⟩] scope pos) 0 (.ref it) (.ref D) (compEnvC scope cl (D + 1) X.env)) (compPost (model X.prog X.w) X.A X.xe none (EP X pins σ Q) (.ref D) (D + 1)) { s2 with heap := h4, toks := tk } := fun tk => by
    refine comp_turns (fun k s' => ∃ i σ' H' its nD acc, Inv (compCx X N scope cl (D + 1) s2 H2 fp pins) [] σ' H' s' ∧
        s'.heap.get? D = some { cls := .type "list", dict := none, data := .seq (List.toArray its) nD } ∧ H' D = none ∧ Vals acc its ∧ acc.length ≤ sizeLine ∧ tn i s'.heap ∧ (∀ b ∈ fp, H' b = none) ∧ W i k acc σ' H') ?_ m0
      ⟨0, _, H2, [], 0, [], I4 tk, hDl, I2.hok.fresh (by rw [hD]; exact Nat.le_refl _), .nil, Nat.zero_le _, T.keep 0 _ _ st2 fun b _ o e => old b o e, fun b hb => (f2 b hb).1, w0⟩
    rintro k s5 ⟨i, σ5, H5, its, nD, acc, I5, hL, hn5, va, hacc, st5, fr5, w5⟩
    have dcell : ∀ x c, cl.lookup x = some c → c ≠ D := fun x c e z => by
      obtain ⟨v, q⟩ := I2.cell x c (hcl.at e)
      have lt := q.lt
      rw [hD, z] at lt
      exact absurd lt (Nat.lt_irrefl _)
    have I5' : Inv (compCx X N scope cl (D + 1) s2 H2 fp pins) [(D, { cls := .type "list", dict := none, data := .seq (List.toArray its) nD })] σ5 H5 s5 := I5.pins_of fun p hp => by
      rw [List.mem_singleton.mp hp]
      exact ⟨hL, hn5, Nat.ne_of_lt (Nat.lt_succ_self _), dnf, fun v z => by cases z⟩
    rcases turn i k acc σ5 H5 w5 with ⟨stop, qn⟩ | ⟨go, hlt, N1, hN1, step⟩
    · refine thnF (T.done (compCx X N scope cl (D + 1) s2 H2 fp pins) rfl rfl rfl hc i _ s5 _ H5 _ I5' (stat fr5) st5 stop) fun r s6 ⟨hr, I6⟩ => ?_
      subst hr
      obtain ⟨m6, hn6, _⟩ := I6.loc
      refine ⟨m6, hn6, fun h7 hs7 => ?_⟩
      have hL7 : h7.get? D = some { cls := .type "list", dict := none, data := .seq (List.toArray its) nD } := hs7.extBut _ _ (Nat.ne_of_lt (Nat.lt_succ_self _)) (I6.pin (D, _) (List.mem_append_right _ (List.mem_singleton.mpr rfl))).1
      have neC : ∀ b o, s2.heap.get? b = some o → b ≠ D + 1 := fun b o e => by
        have lt := Heap.lt_size e
        rw [hD] at lt
        exact Nat.ne_of_lt (Nat.lt_succ_of_lt lt)
      have nt : ∀ b u, H5 b = some u → b ≠ D + 1 := fun b u q z => by
        have f := I6.free
        rw [z] at q
        rw [show H5 (D + 1) = none from f] at q
        cases q
      have un : Un (frs X.stack) fp H2 H5 s2.heap h7 := ⟨fun b o e n hb hx => hs7.extBut b o (neC b o e) (I6.base.keep b o e n hb hx),
        fun b o e n hb hx => let ⟨sl, q⟩ := I6.base.slot b o e n hb hx; ⟨sl, hs7.extBut b _ (neC b o e) q⟩, I6.base.free, fun b o e hx => let ⟨o', q⟩ := I6.base.there b o e hx; ⟨o', hs7.extBut b _ (neC b o e) q⟩, I6.base.tups, I6.base.frzs, I6.base.tbls⟩
      have hok : HOk X.prog X.w H5 h7 := fun b u q => (I6.hok b u q).stay (fun c v hc e => hs7.extBut c v (by
        rcases hc with rfl | hc
        · exact nt _ _ q
        · exact nt _ _ hc) e) (fun _ z => z) fun _ _ z => z
      have I8 : Inv X pins σ H5 { s6 with heap := h7 } := I2.call' (s' := { s6 with heap := h7 }) I6.os un hok I6.bare fun b hb => let ⟨_, k1, _, k3, k4, k5⟩ := f2 b hb; ⟨k3, k1, k4, k5⟩
      have I9 : Inv X pins σ (upd H5 D (.lst acc)) { s6 with heap := h7 } := I8.trackS hn5 hL7 rfl (by
          cases z : X.s₀.heap.get? D with
          | none => rfl
          | some o =>
            have lt := Nat.lt_of_lt_of_le (Heap.lt_size z) I2.sz
            rw [hD] at lt
            exact absurd lt (Nat.lt_irrefl _)) (fun p hp => Nat.ne_of_lt (pl p hp)) ⟨hacc, its, nD, va, hL7⟩
      exact ⟨.ref D, _, I9, rfl, qn D hn5⟩
    · refine thnF (T.item (compCx X N scope cl (D + 1) s2 H2 fp pins) rfl rfl rfl hc i _ s5 _ H5 _ I5' (stat fr5) st5 go) fun r s6 ⟨u, hr, h6⟩ => ?_
      subst hr
      refine thnF h6 fun _ s7 ⟨x, H7, I7, r7, y7, st7, fr7⟩ => ?_
      have I7' : Inv (compCx X N scope cl (D + 1) s2 H2 fp pins) ([(D, { cls := .type "list", dict := none, data := .seq (List.toArray its) nD })] ++ pinsAt fp s7.heap) σ5 H7 s7 := I7.pinned (stat fr7) (T.obj _ _ st7)
      refine thnF (hg _ _ _ _ _ _ s7 _ H7 x u _ I7' r7 (step x H7 y7)) fun _ s8 ⟨σ8, H8, I8, q8⟩ => ?_
      refine thnF (ht _ _ _ _ _ _ s8 σ8 H8 _ I8 q8) fun ok s9 ⟨H9, I9, q9⟩ => ?_
      have wk : ∀ {σ' : St} {H' : Hp} {s' : Shared}, Inv (compCx X N scope cl (D + 1) s2 H2 fp pins) ([(D, { cls := .type "list", dict := none, data := .seq (List.toArray its) nD })] ++ pinsAt fp s7.heap) σ' H' s' →
          tn (i + 1) s'.heap ∧ (∀ b ∈ fp, H' b = none) ∧ s'.heap.get? D = some { cls := .type "list", dict := none, data := .seq (List.toArray its) nD } ∧ H' D = none := fun {σ' H' s'} J' => by
        have pin : ∀ p ∈ ([(D, { cls := .type "list", dict := none, data := .seq (List.toArray its) nD })] : List (Addr × Obj)) ++ pinsAt fp s7.heap, s'.heap.get? p.1 = some p.2 ∧ H' p.1 = none := fun p hp => let ⟨e, n, _⟩ := J'.pin p (List.mem_append_right _ hp); ⟨e, n⟩
        refine ⟨T.keep _ _ _ st7 fun b hb o e => (pin (b, o) (List.mem_append_right _ (mem_pinsAt hb e))).1, fun b hb => ?_, (pin (D, _) (List.mem_append_left _ (List.mem_singleton.mpr rfl))).1, (pin (D, _) (List.mem_append_left _ (List.mem_singleton.mpr rfl))).2⟩
        obtain ⟨o, e, _⟩ := T.obj _ _ st7 b hb
        exact (pin (b, o) (List.mem_append_right _ (mem_pinsAt hb e))).2
      cases ok with
      | false =>
        obtain ⟨m', hm, w9⟩ := hN1 _ _ _ q9
        obtain ⟨k1, k2, k3, k4⟩ := wk I9
        exact ⟨m', hm, i + 1, σ8, H9, its, nD, acc, I9.pins_of (fun _ z => nomatch z), k3, k4, va, hacc, k1, k2, w9⟩
      | true =>
        refine thnF (he _ _ _ _ _ _ s9 σ8 H9 _ I9 q9) fun y s10 ⟨v, H10, I10, r10, q10⟩ => ?_
        obtain ⟨m', hm, w10⟩ := hN1 _ _ _ q10
        obtain ⟨k1, k2, k3, k4⟩ := wk I10
        refine call_meets F.slot_list_append ⟨_, k3, rfl⟩ F.entry_list_append (F.args_list_append_2 _ _) (PySem.list_append D its.toArray nD y (by rw [List.size_toArray, ← va.length]; omega)) ⟨k3, ?_⟩
        have up : ∀ b o, b ≠ D → s10.heap.get? b = some o → (s10.heap.update D (Obj.mapSeq fun z => z.push y)).get? b = some o := fun b o hb e => (Heap.get?_update_other s10.heap _ (Ne.symm hb)).trans e
        have I11 : Inv (compCx X N scope cl (D + 1) s2 H2 fp pins) [] σ8 H10 { s10 with heap := s10.heap.update D (Obj.mapSeq fun z => z.push y), toks := s10.toks } :=
          (I10.pins_of (pins' := []) fun _ z => nomatch z).turned up k4 (Nat.ne_of_lt (Nat.lt_succ_self _)) (.inr (by rw [hD]; exact Nat.le_refl _)) dcell fun p hp => by
            have hp' : p ∈ X.pn ++ pins := by simpa using hp
            exact Nat.ne_of_lt (pl p hp')
        have q := PySem.IsL.update k3 (fun z => z.push y)
        rw [show (List.toArray its).push y = (its ++ [y]).toArray by simp] at q
        refine ⟨m', hm, i + 1, σ8, H10, its ++ [y], _, acc ++ [v], I11, q, k4, va.append (.cons r10 .nil), ?_, T.keep _ _ _ k1 fun b hb o e => up b o (Nat.ne_of_lt (flt b hb)) e, k2, w10⟩
        rw [List.length_append, List.length_singleton]
        omega
  exact codeAny_compStart_list (loop _) (T.self _ 0 _ _ _ (T.keep 0 _ _ st2 fun b _ o e => old b o e) (loop _))
theorem comp_list {K : PySem.W.Frag} {a : Addr} {xs : List V} {g : TG} {tt : TT} {te : TE} {σ0 : St} {H : Hp} {Q : VK} (Pv : Nat → List V → St → Hp → Prop) (h0 : Pv 0 [] σ0 H) (hz : xs.length ≤ sizeLine) (hl : ∀ i acc σ H, i ≤ xs.length → Pv i acc σ H → SqL K H a xs)
    (hs : ∀ i x acc σ H, acc.length ≤ i → xs[i]? = some x → Pv i acc σ H → g x σ H fun σ2 H2 => tt σ2 H2 fun b H3 => if b = true then te σ2 H3 fun y H4 => (acc ++ [y]).length ≤ i + 1 ∧ Pv (i + 1) (acc ++ [y]) σ2 H4 else acc.length ≤ i + 1 ∧ Pv (i + 1) acc σ2 H3)
    (hd : ∀ acc σ H, acc.length ≤ xs.length → Pv xs.length acc σ H → endC Q acc H) :
    ∃ W : Nat → Nat → List V → St → Hp → Prop, (∃ m, W 0 m [] σ0 H) ∧ ∀ i m acc σ1 H, W i m acc σ1 H →
      ((Itl K a).stop i H ∧ endC Q acc H) ∨
      ((Itl K a).go i H ∧ acc.length < sizeLine ∧ ∃ N : List V → St → Hp → Prop, (∀ acc' σ' H', N acc' σ' H' → ∃ m', m' < m ∧ W (i + 1) m' acc' σ' H') ∧ ∀ x H', (Itl K a).yld i H x H' → g x σ1 H' fun σ2 H2 => tt σ2 H2 fun b H3 => if b = true then te σ2 H3 fun y H4 => N (acc ++ [y]) σ2 H4 else N acc σ2 H3) := by
  refine ⟨fun i m acc σ H => m = xs.length - i ∧ i ≤ xs.length ∧ acc.length ≤ i ∧ Pv i acc σ H, ⟨xs.length, by simp, Nat.zero_le _, Nat.zero_le _, h0⟩, ?_⟩
  rintro i m acc σ1 H ⟨rfl, hi, ha, p⟩
  have q := hl i acc σ1 H hi p
  by_cases hlt : i < xs.length
  · refine .inr ⟨⟨xs, xs[i], q, by simp [hlt]⟩, by omega, fun acc' σ' H' => acc'.length ≤ i + 1 ∧ Pv (i + 1) acc' σ' H', fun acc' σ' H' z => ⟨xs.length - (i + 1), by omega, rfl, hlt, z.1, z.2⟩, fun x H' y => ?_⟩
    obtain ⟨e, y⟩ := y
    subst e
    exact hs i x acc σ1 _ ha (y xs q) p
  · have e : i = xs.length := by omega
    subst e
    exact .inl ⟨⟨xs, q, Nat.le_refl _⟩, hd acc σ1 H ha p⟩
theorem comp_range {lo : Int} {n : Nat} {g : TG} {tt : TT} {te : TE} {σ0 : St} {H : Hp} {Q : VK} (Pv : Nat → List V → St → Hp → Prop) (h0 : Pv 0 [] σ0 H) (hz : n ≤ sizeLine)
    (hs : ∀ i acc σ H, i < n → acc.length ≤ i → Pv i acc σ H → g (.int (lo + i)) σ H fun σ2 H2 => tt σ2 H2 fun b H3 => if b = true then te σ2 H3 fun y H4 => (acc ++ [y]).length ≤ i + 1 ∧ Pv (i + 1) (acc ++ [y]) σ2 H4 else acc.length ≤ i + 1 ∧ Pv (i + 1) acc σ2 H3)
    (hd : ∀ acc σ H, acc.length ≤ n → Pv n acc σ H → endC Q acc H) :
    ∃ W : Nat → Nat → List V → St → Hp → Prop, (∃ m, W 0 m [] σ0 H) ∧ ∀ i m acc σ1 H, W i m acc σ1 H →
      ((Itr lo n).stop i H ∧ endC Q acc H) ∨
      ((Itr lo n).go i H ∧ acc.length < sizeLine ∧ ∃ N : List V → St → Hp → Prop, (∀ acc' σ' H', N acc' σ' H' → ∃ m', m' < m ∧ W (i + 1) m' acc' σ' H') ∧ ∀ x H', (Itr lo n).yld i H x H' → g x σ1 H' fun σ2 H2 => tt σ2 H2 fun b H3 => if b = true then te σ2 H3 fun y H4 => N (acc ++ [y]) σ2 H4 else N acc σ2 H3) := by
  refine ⟨fun i m acc σ H => m = n - i ∧ i ≤ n ∧ acc.length ≤ i ∧ Pv i acc σ H, ⟨n, by simp, Nat.zero_le _, Nat.zero_le _, h0⟩, ?_⟩
  rintro i m acc σ1 H ⟨rfl, hi, ha, p⟩
  by_cases hlt : i < n
  · refine .inr ⟨hlt, by omega, fun acc' σ' H' => acc'.length ≤ i + 1 ∧ Pv (i + 1) acc' σ' H', fun acc' σ' H' z => ⟨n - (i + 1), by omega, rfl, hlt, z.1, z.2⟩, fun x H' y => ?_⟩
    obtain ⟨e, y⟩ := y
    subst e y
    exact hs i acc σ1 _ hlt ha p
  · have e : i = n := by omega
    subst e
    exact .inl ⟨Nat.le_refl _, hd acc σ1 H ha p⟩
end L2

set_option Elab.async false
set_option linter.all false
set_option maxRecDepth 100000
set_option maxHeartbeats 4000000
namespace L2
open PySem PySem.Spec PyProof.Rows

mutual
inductive DV (K : PySem.W.Frag) (H : Hp) : V → PyData → Prop
  | non : DV K H .non .none
  | bl (b : Bool) : DV K H (.bl b) (.bool b)
  | int (i : Int) : DV K H (.int i) (.int i)
  | str (x : Str) (h : (PyData.str x).canLay0 = true) : DV K H (.str x) (.str x)
  | lst {a : Addr} {xs : List V} {ds : List PyData} (h : SqL K H a xs) (r : DVs K H xs ds) : DV K H (.ref a) (.list ds)
  | tup {a : Addr} {xs : List V} {ds : List PyData} (h : SqT K H a xs) (r : DVs K H xs ds) : DV K H (.ref a) (.tuple ds)
inductive DVs (K : PySem.W.Frag) (H : Hp) : List V → List PyData → Prop
  | nil : DVs K H [] []
  | cons {x : V} {xs : List V} {d : PyData} {ds : List PyData} (h : DV K H x d) (r : DVs K H xs ds) : DVs K H (x :: xs) (d :: ds)
end
mutual
theorem DV.can {K : PySem.W.Frag} {H : Hp} : ∀ {x : V} {d : PyData}, DV K H x d → d.canLay0 = true
  | _, _, .non => by simp only [PyData.canLay0]
  | _, _, .bl _ => by simp only [PyData.canLay0]
  | _, _, .int _ => by simp only [PyData.canLay0]
  | _, _, .str _ h => h
  | _, _, .lst _ r => by simp only [PyData.canLay0]; exact DVs.can r
  | _, _, .tup _ r => by simp only [PyData.canLay0]; exact DVs.can r
theorem DVs.can {K : PySem.W.Frag} {H : Hp} : ∀ {xs : List V} {ds : List PyData}, DVs K H xs ds → PyData.canLayAll0 ds = true
  | _, _, .nil => by simp only [PyData.canLayAll0]
  | _, _, .cons h r => by simp only [PyData.canLayAll0, Bool.and_eq_true]; exact ⟨DV.can h, DVs.can r⟩
end
theorem SqT.sameT {K : PySem.W.Frag} {H H' : Hp} {a : Addr} {xs : List V} (e : Same H H') (h : SqT K H a xs) : SqT K H' a xs := by
  rcases h with (h | ⟨o, h⟩) | h
  · exact .inl (.inl (e _ _ h))
  · exact .inl (.inr ⟨o, e _ _ h⟩)
  · exact .inr h
mutual
theorem DV.same {K : PySem.W.Frag} {H H' : Hp} (s : Same H H') : ∀ {x : V} {d : PyData}, DV K H x d → DV K H' x d
  | _, _, .non => .non
  | _, _, .bl b => .bl b
  | _, _, .int i => .int i
  | _, _, .str x h => .str x h
  | _, _, .lst h r => .lst (s.seq h) (DVs.same s r)
  | _, _, .tup h r => .tup (SqT.sameT s h) (DVs.same s r)
theorem DVs.same {K : PySem.W.Frag} {H H' : Hp} (s : Same H H') : ∀ {xs : List V} {ds : List PyData}, DVs K H xs ds → DVs K H' xs ds
  | _, _, .nil => .nil
  | _, _, .cons h r => .cons (DV.same s h) (DVs.same s r)
end
section
variable {X : Cx} {pins : List (Addr × Obj)} {σ : St} {H : Hp} {s : Shared}
mutual
theorem DV.reads (I : Inv X pins σ H s) : ∀ {x : V} {d : PyData} {u : Value}, DV X.K H x d → RelV x u → ∃ as, Reads s.heap u d as
  | _, _, _, .non, r => by cases r; exact ⟨_, .none⟩
  | _, _, _, .bl b, r => by cases r; exact ⟨_, .bool b⟩
  | _, _, _, .int i, r => by obtain ⟨t, rfl⟩ := r; exact ⟨_, .int i t⟩
  | _, _, _, .str x _, r => by obtain ⟨t, rfl⟩ := r; exact ⟨_, .str x t⟩
  | _, _, _, .lst h rs, r => by
    cases r
    obtain ⟨its, v, pl, _⟩ := I.list h
    obtain ⟨o, n, ho, hc, _, hd⟩ := pl
    obtain ⟨as, q⟩ := DVs.reads I rs v
    exact ⟨_, .list ho hc hd (by simpa using q)⟩
  | _, _, _, .tup h rs, r => by
    cases r
    obtain ⟨its, v, pl, _⟩ := I.tuple h
    obtain ⟨o, ho, hc, n, hd⟩ := pl
    obtain ⟨as, q⟩ := DVs.reads I rs v
    exact ⟨_, .tuple ho hc hd (by simpa using q)⟩
theorem DVs.reads (I : Inv X pins σ H s) : ∀ {xs : List V} {ds : List PyData} {us : List Value}, DVs X.K H xs ds → Vals xs us → ∃ as, ReadsAll s.heap us ds as
  | _, _, _, .nil, .nil => ⟨_, .nil⟩
  | _, _, _, .cons h r, .cons v vs => by
    obtain ⟨as, q1⟩ := DV.reads I h v
    obtain ⟨bs, q2⟩ := DVs.reads I r vs
    exact ⟨_, .cons q1 q2⟩
end
end
def rEqD (K : PySem.W.Frag) (neg : Bool) : R2 := fun x y H Q => ∃ dx dy, DV K H x dx ∧ DV K H y dy ∧ dx.depth ≤ 60 ∧ Q (.bl (if neg then !PyData.eqv dx dy else PyData.eqv dx dy)) H
theorem op_eqD {X : Cx} (hu : X.A.units + 64 < cLine) : OpR X (compareOp .Eq) (rEqD X.K false) := by
  intro pins s σ H x y v u Q I rx ry h
  obtain ⟨dx, dy, hx, hy, hd, q⟩ := h
  obtain ⟨as, r1⟩ := hx.reads I rx
  obtain ⟨bs, r2⟩ := hy.reads I ry
  exact SeqAt.compareEq_reads r1 r2 hx.can hy.can (by omega) ⟨.bl _, H, I, rfl, q⟩
theorem op_neD {X : Cx} (hu : X.A.units + 64 < cLine) : OpR X (compareOp .NotEq) (rEqD X.K true) := by
  intro pins s σ H x y v u Q I rx ry h
  obtain ⟨dx, dy, hx, hy, hd, q⟩ := h
  obtain ⟨as, r1⟩ := hx.reads I rx
  obtain ⟨bs, r2⟩ := hy.reads I ry
  exact SeqAt.compareNe_reads r1 r2 hx.can hy.can (by omega) ⟨.bl _, H, I, rfl, q⟩
end L2

set_option Elab.async false
set_option linter.all false
set_option maxRecDepth 100000
set_option maxHeartbeats 4000000
namespace L2
open PySem PySem.Spec PyProof.Rows

section
variable {X : Cx}
end
end L2

set_option Elab.async false
set_option linter.all false
set_option maxRecDepth 100000
set_option maxHeartbeats 4000000
namespace L2
open PySem PySem.Spec PyProof.Rows
section
variable {X : Cx} {x : Str} {pos : Pos}
theorem pe_gintE {k : Int} (hg : Gl X x) (hm : ∃ t, X.mg x = some (.int k t)) (hd : (x == ("__debug__" : Str)) = false := by decide) : PE X (.Name x pos) (tC (.int k)) := by
  obtain ⟨t, hm⟩ := hm
  exact pe_glob hg hm ⟨t, rfl⟩ hd
def tDNew : TE := fun _ H Q => ∀ p, H p = none → Q (.ref p) (upd H p (.dK []))
theorem pe_dnew {X : Cx} {pos : Pos} : PE X (.Dict [] [] pos) tDNew := by
  intro pins s σ H Q I h
  have lt : sysModules < s.heap.objs.size := Nat.lt_trans (show sysModules < mainGlobals by decide) (I.mod.glob.keeps I.bk).lt
  have new : ObjOk X.prog X.w (upd H s.heap.objs.size (.dK [])) (s.heap.push { cls := .type "dict", data := .dict #[] }) s.heap.objs.size (.dK []) :=
    ⟨Nat.zero_le _, beq_eq_false_iff_ne.mpr (Ne.symm (Nat.ne_of_lt lt)), [], .nil, Heap.DictOf.new s.heap⟩
  exact wpAny_Dict_empty ⟨.ref s.heap.objs.size, _, I.laid (t' := s.toks) (fun _ _ q => Heap.get?_push_of_some _ q) (Nat.le_refl _) new, rfl, h _ (I.hok.fresh (Nat.le_refl _))⟩
def notStar : Expr → Bool
  | .Starred _ _ => false
  | _ => true
theorem star_cons {e : Expr} {es : List Expr} {env : Env} (h : notStar e = true) : starEach (e :: es) env = (false, eval e env) :: starEach es env := by
  cases e <;> first | rfl | cases h
theorem pac {e : Expr} {es : List Expr} {te : TE} {t : TA} (ha : PE X e te) (hr : PA X es t) (h : notStar e = true := by rfl) : PA X (e :: es) (tCons te t) := pa_cons ha hr (star_cons h)
end
end L2
namespace K1
open PySem L2
def two (n : Nat) : Str := ⟨#[48 + n / 10, 48 + n % 10]⟩
def numV : V → Int → Int → Bool
  | .int i, lo, hi => decide (lo ≤ i ∧ i ≤ hi)
  | _, _, _ => false
inductive Kd (H : Hp) : V → String → Prop where
  | non : Kd H .non "NoneType"
  | bl (b : Bool) : Kd H (.bl b) "bool"
  | int (i : Int) : Kd H (.int i) "int"
  | str (x : Str) : Kd H (.str x) "str"
  | lst {a : Addr} {xs : List V} (e : H a = some (.lst xs)) : Kd H (.ref a) "list"
  | tup {a : Addr} {xs : List V} (e : H a = some (.tup xs)) : Kd H (.ref a) "tuple"
  | dK {a : Addr} {kvs : List (Key × V)} (e : H a = some (.dK kvs)) : Kd H (.ref a) "dict"
theorem Kd.ty {K : PySem.W.Frag} {H : Hp} {v : V} {T : String} (k : Kd H v T) : TyOf K H v (.type T) := by
  cases k with
  | non => exact .non
  | bl b => exact .bl b
  | int i => exact .int i
  | str x => exact .str x
  | lst e => exact .lst e
  | tup e => exact .tup e
  | dK e => exact .dK e
theorem Kd.same {H H' : Hp} {v : V} {T : String} (s : Same H H') (k : Kd H v T) : Kd H' v T := by
  cases k with
  | non => exact .non
  | bl b => exact .bl b
  | int i => exact .int i
  | str x => exact .str x
  | lst e => exact .lst (s _ _ e)
  | tup e => exact .tup (s _ _ e)
  | dK e => exact .dK (s _ _ e)
theorem kit_int {K : PySem.W.Frag} {H : Hp} {v : V} {T : String} (k : Kd H v T) : PySem.W.kitOne K (.type T) (.type "int") = some (decide (T = "int" ∨ T = "bool")) := by
  cases k <;> rfl
theorem kit_bool {K : PySem.W.Frag} {H : Hp} {v : V} {T : String} (k : Kd H v T) : PySem.W.kitOne K (.type T) (.type "bool") = some (decide (T = "bool")) := by
  cases k <;> rfl
theorem kit_str {K : PySem.W.Frag} {H : Hp} {v : V} {T : String} (k : Kd H v T) : PySem.W.kitOne K (.type T) (.type "str") = some (decide (T = "str")) := by
  cases k <;> rfl

theorem itT {c A B : Prop} [Decidable c] (h : c) (a : A) : if c then A else B := by rw [if_pos h]; exact a
theorem itF {c A B : Prop} [Decidable c] (h : ¬ c) (b : B) : if c then A else B := by rw [if_neg h]; exact b


def dg (c : Nat) : Bool := decide (48 ≤ c ∧ c ≤ 57)

theorem same_new {H : Hp} {p : Addr} (h : H p = none) (o : HO) : Same H (upd H p o) := fun b u q => by rw [upd_ne (ne_of_none q h)]; exact q

theorem map_bl {α : Type} (g : α → Bool) (l : List α) : (l.map fun c => V.bl (g c)) = (l.map g).map V.bl := by rw [List.map_map]; rfl

def wr (m : Nat) : Str := two (m / 60) ++ Str.ofString ":" ++ two (m % 60)

def wholeV : V → Bool
  | .int _ => true
  | _ => false

theorem flat_ints (ns : List Int) : (ns.map V.int).all flatV = true := by
  rw [List.all_map]; exact List.all_eq_true.mpr fun _ _ => rfl

structure Bump (tp : Addr) (k : Int) (H H' : Hp) : Prop where
  keep : ∀ b o, b ≠ tp → H b = some o → H' b = some o
  tape : H' tp = some (.lst [.int k])

theorem Bump.trans {tp : Addr} {k k' : Int} {H H1 H2 : Hp} (a : Bump tp k H H1) (b : Bump tp k' H1 H2) : Bump tp k' H H2 := ⟨fun c o n h => b.keep c o n (a.keep c o n h), b.tape⟩

theorem Bump.same {tp : Addr} {k : Int} {H H1 H2 : Hp} (a : Bump tp k H H1) (s : Same H1 H2) : Bump tp k H H2 := ⟨fun c o n h => s _ _ (a.keep c o n h), s _ _ a.tape⟩

def Own (K : PySem.W.Frag) (a : Addr) (xs : List V) : Prop := ∃ (o : Obj) (its : Array Value) (n : Nat), K.lookup a = some o ∧ o.cls = .type "list" ∧ o.dict = none ∧ o.data = .seq its n ∧ its.size ≤ sizeLine ∧ Vals xs its.toList
def Scr (K : PySem.W.Frag) (H : Hp) (a tp : Addr) (ns : List Int) : Prop := (a ≠ tp ∧ Rd H a (.lst (ns.map V.int))) ∨ Own K a (ns.map V.int)
theorem Scr.same {K : PySem.W.Frag} {H H' : Hp} {a tp : Addr} {ns : List Int} (h : Scr K H a tp ns) (s : Same H H') : Scr K H' a tp ns :=
  h.imp (fun ⟨n, r⟩ => ⟨n, r.imp (s _ _) fun ⟨o, q⟩ => ⟨o, s _ _ q⟩⟩) id
theorem Scr.new {K : PySem.W.Frag} {H : Hp} {a tp : Addr} {ns : List Int} (h : SqL K H a (ns.map V.int)) (n : H tp = none) (o : HO) : Scr K (upd H tp o) a tp ns := by
  rcases h with (h | ⟨u, h⟩) | h
  · exact .inl ⟨ne_of_none h n, .inl (by rw [upd_ne (ne_of_none h n)]; exact h)⟩
  · exact .inl ⟨ne_of_none h n, .inr ⟨u, by rw [upd_ne (ne_of_none h n)]; exact h⟩⟩
  · exact .inr h
theorem mulM {x y : Int} (h0 : 0 ≤ y) (h1 : y < 18446744073709551616) : CMul x y := .inr ⟨by omega, by omega⟩

def optV : Option Nat → V
  | none => .non
  | some m => .int (m : Nat)

theorem len2 {a b : Str} {n m : Nat} (ha : a.length ≤ n) (hb : b.length ≤ m) : (a ++ b).length ≤ n + m := by rw [Str.length_append]; omega

theorem at2 {x y : V} {d : Int} (h0 : 0 ≤ d) (h1 : d < 2) : atI [x, y] d = some x ∨ atI [x, y] d = some y := by
  rcases (show d = 0 ∨ d = 1 by omega) with rfl | rfl
  · exact .inl rfl
  · exact .inr rfl
theorem at_all {p : V → Prop} {xs : List V} {d : Int} (h : ∀ v ∈ xs, p v) (h0 : 0 ≤ d) (h1 : d < xs.length) : ∃ v, atI xs d = some v ∧ p v := by
  have hl : d.toNat < xs.length := by omega
  refine ⟨xs[d.toNat], ?_, h _ (List.getElem_mem hl)⟩
  have q : atI xs ((d.toNat : Nat) : Int) = some xs[d.toNat] := atI_nat (List.getElem?_eq_getElem hl)
  rw [show ((d.toNat : Nat) : Int) = d by omega] at q
  exact q
end K1

set_option Elab.async false
set_option linter.all false
set_option maxRecDepth 100000
set_option maxHeartbeats 4000000
namespace L2
open PySem PySem.Spec PyProof.Rows

section
variable {X : Cx} {m : Str} {o e : Expr} {es : List Expr} {ta : TE} {t : TA} {pos apos : Pos}
structure MkN (K : PySem.W.Frag) (C : Addr) : Prop where
  makes : PySem.W.makesIn K C = true
  init : PySem.W.findIn K (.ref C) "__init__" = some (some (.builtin "object.__init__"))
  kp : PySem.W.keepIn K (.ref C) = true
end

structure FunD (K : PySem.W.Frag) (x qual : Str) (st : Stmt) (f : Addr) (fd : FuncData) (D : Addr) (ds : List Value) : Prop where
  ex : ∃ (oc : Value) (od : Option Addr) (kV doc pm : Value) (an : Option Addr) (cdv ct : Value) (osl : Array (Option Value)),
    fd = PySem.W.fnOf x qual (defArgs st) (defBody st) (defScope st) (.ref D) kV doc pm an cdv ct ∧ K.lookup f = some ⟨oc, od, .func fd, osl⟩ ∧ PySem.W.codeIn K cdv qual = true
  dt : ∃ (o : Obj) (n : Nat), K.lookup D = some o ∧ o.data = .seq ds.toArray n
  kp : PySem.W.keepIn K (.ref f) = true
section
variable {P : Program} {w : World} {K : PySem.W.Frag} {mg : Str → Option Value} {base : Heap} {x qual : Str} {st : Stmt} {f D : Addr} {fd : FuncData} {ds : List Value}
theorem FunD.ok {N ps : List Str} {k : Nat} {sp : Sp} (F : FunD K x qual st f fd D ds) (S : FnScope N ps (defScope st)) (len : ∀ vs H Q E, sp vs H Q E → vs.length = ps.length)
    (hbody : ∀ (cdv : Value) (A : Around) (outer : List Env) (s : Shared) (H : Hp) (vs : List V) (Q : VK) (E : XK), Room k (A.deeper (envOfC qual (defScope st) s.heap.objs.size f cdv)) → sp vs H Q E →
      ∃ t, PSs (cxOf CX0 P w K mg base N qual (defScope st) f cdv A outer s H E).nox (defBody st) t ∧ t { nx := fun _ H' => Q .non H', rt := Q } (start N vs) H) : FnOk P w K mg base CX0 (k + 1) f fd ps sp := by
  obtain ⟨oc, od, kV, doc, pm, an, cdv, ct, osl, rfl, lk, hcd⟩ := F.ex
  refine fn_of lk hcd S len fun A outer s H vs Q E hr hsp => ?_
  obtain ⟨t, h, q⟩ := hbody cdv A outer s H vs Q E hr hsp
  exact ⟨t, h.nox, q⟩
theorem FunD.okX {N ps : List Str} {k : Nat} {sp : Sp} (F : FunD K x qual st f fd D ds) (S : FnScope N ps (defScope st)) (len : ∀ vs H Q E, sp vs H Q E → vs.length = ps.length)
    (hbody : ∀ (cdv : Value) (A : Around) (outer : List Env) (s : Shared) (H : Hp) (vs : List V) (Q : VK) (E : XK), Room k (A.deeper (envOfC qual (defScope st) s.heap.objs.size f cdv)) → sp vs H Q E →
      ∃ t, PSs (cxOf (CXO P w) P w K mg base N qual (defScope st) f cdv A outer s H E) (defBody st) t ∧ t { nx := fun _ H' => Q .non H', rt := Q } (start N vs) H) : FnOk P w K mg base (CXO P w) (k + 1) f fd ps sp := by
  obtain ⟨oc, od, kV, doc, pm, an, cdv, ct, osl, rfl, lk, hcd⟩ := F.ex
  exact fn_of lk hcd S len fun A outer s H vs Q E hr hsp => hbody cdv A outer s H vs Q E hr hsp
end
end L2

set_option Elab.async false
set_option linter.all false
set_option maxRecDepth 100000
set_option maxHeartbeats 4000000
namespace K1
open PySem L2
inductive RT where
  | always
  | week (b : Nat)
  | span (a b : Nat) (r : RT)
  | each (n : Nat) (ss : List Nat)
  | either (r s : RT)
  | both (r s : RT)
  | but (ds : List Nat) (r : RT)
def RT.weight : RT → Nat
  | .always | .week _ | .each _ _ => 1
  | .span _ _ r | .but _ r => 1 + r.weight
  | .either r s | .both r s => 1 + (r.weight + s.weight)
def RT.depth : RT → Nat
  | .always | .week _ | .each _ _ => 1
  | .span _ _ r | .but _ r => 1 + r.depth
  | .either r s | .both r s => 1 + max r.depth s.depth
structure RC where
  rule : Addr
  week : Addr
  span : Addr
  each : Addr
  either : Addr
  both : Addr
  but : Addr
abbrev natV (l : List Nat) : List V := l.map fun n => V.int (n : Nat)
inductive RAt (c : RC) (K : PySem.W.Frag) (H : Hp) : Addr → RT → Prop
  | always {a dx : Addr} (h : H a = some (.ins c.rule dx [])) : RAt c K H a .always
  | week {a dx : Addr} {b : Nat} (h : H a = some (.ins c.week dx [("bits", .int (b : Nat))])) (hb : b ≤ 127) : RAt c K H a (.week b)
  | span {a dx i : Addr} {x y : Nat} {r : RT} (h : H a = some (.ins c.span dx [("first", .int (x : Nat)), ("last", .int (y : Nat)), ("inner", .ref i)])) (hx : x ≤ y) (hy : y ≤ 9999) (hi : RAt c K H i r) : RAt c K H a (.span x y r)
  | each {a dx p : Addr} {n : Nat} {ss : List Nat} (h : H a = some (.ins c.each dx [("length", .int (n : Nat)), ("starts", .ref p)])) (hn : 1 ≤ n) (hn2 : n ≤ 28) (hp : SqT K H p (natV ss)) : RAt c K H a (.each n ss)
  | either {a dx i j : Addr} {r s : RT} (h : H a = some (.ins c.either dx [("one", .ref i), ("other", .ref j)])) (hi : RAt c K H i r) (hj : RAt c K H j s) : RAt c K H a (.either r s)
  | both {a dx i j : Addr} {r s : RT} (h : H a = some (.ins c.both dx [("one", .ref i), ("other", .ref j)])) (hi : RAt c K H i r) (hj : RAt c K H j s) : RAt c K H a (.both r s)
  | but {a dx p i : Addr} {ds : List Nat} {r : RT} (h : H a = some (.ins c.but dx [("days", .ref p), ("inner", .ref i)])) (hp : SqT K H p (natV ds)) (hi : RAt c K H i r) : RAt c K H a (.but ds r)
theorem RAt.same {c : RC} {K : PySem.W.Frag} {H H' : Hp} (s : Same H H') {a : Addr} {r : RT} (h : RAt c K H a r) : RAt c K H' a r := by
  induction h with
  | always h => exact .always (s _ _ h)
  | week h hb => exact .week (s _ _ h) hb
  | span h hx hy _ ih => exact .span (s _ _ h) hx hy ih
  | each h hn hn2 hp => exact .each (s _ _ h) hn hn2 (SqT.sameT s hp)
  | either h _ _ i1 i2 => exact .either (s _ _ h) i1 i2
  | both h _ _ i1 i2 => exact .both (s _ _ h) i1 i2
  | but h hp _ ih => exact .but (s _ _ h) (SqT.sameT s hp) ih
end K1

set_option Elab.async false
set_option linter.all false
set_option maxRecDepth 100000
set_option maxHeartbeats 600000
namespace L2
open PySem PySem.Spec PyProof.Rows
def MxAt (S : Addr) (h : Heap) (b : Option Int) : Prop := ∃ (vs : Array Value) (c : Nat), h.get? S = some { cls := .type "list", dict := none, data := .seq vs c, slots := #[] } ∧ match b with
  | none => vs = #[]
  | some x => ∃ t, vs = #[.int x t, .int x t]
theorem MxAt.keep {S : Addr} {h h' : Heap} {b : Option Int} (m : MxAt S h b) (k : ∀ o, h.get? S = some o → h'.get? S = some o) : MxAt S h' b :=
  let ⟨vs, c, e, z⟩ := m
  ⟨vs, c, k _ e, z⟩
end L2

set_option Elab.async false
set_option linter.all false
namespace L2
open PySem
abbrev Ris (xs : Array Nat) : Prop := xs.toList.Pairwise (· < ·)
structure TabOk (t : SetTable) : Prop where
  du : t.dummies = #[]
  ri : t.plain = true → Ris t.place
end L2

set_option Elab.async false
set_option linter.all false
set_option maxRecDepth 100000
set_option maxHeartbeats 4000000
namespace L2
open PySem
def keyOf (e : Int × Value) : Int := match e.2 with
  | .int k _ => k
  | _ => 0
section
variable {prog : Program} {w : World}
def ISet (prog : Program) (w : World) (h : Heap) (a : Addr) (ks : List Int) : Prop := ∃ (o : Obj) (es : Array (Int × Value)) (ep : Nat) (t : SetTable),
  h.get? a = some o ∧ o.ExactSet ∧ o.data = .set es ep t ∧ ElemsOf (intKind prog w) es.toList ∧ t.fits es.size = true ∧ TabOk t ∧ (w.params.followText "set-order" = false → t.led = true) ∧
  (es.toList.map keyOf).Nodup ∧ (∀ k, k ∈ es.toList.map keyOf ↔ k ∈ ks) ∧ es.size ≤ ks.length
theorem ISet.keep {h h' : Heap} {a : Addr} {ks : List Int} (x : ISet prog w h a ks) (k : ∀ o, h.get? a = some o → h'.get? a = some o) : ISet prog w h' a ks :=
  let ⟨o, es, ep, t, ho, r⟩ := x
  ⟨o, es, ep, t, k _ ho, r⟩
end
end L2

set_option Elab.async false
set_option linter.all false
set_option maxRecDepth 100000
set_option maxHeartbeats 4000000
namespace L2
open PySem
section
variable {prog : Program} {w : World} {A : Around} {E : Value → Shared → Prop} {s : Shared}
def SIt (h : Heap) (I : Addr) (f : Value) (i : Nat) (p n ep : Nat) : Prop := ∃ o, h.get? I = some o ∧ o.cls = .type "set_iterator" ∧ o.data = .fields #[f, .int i 0, .ref p, .int n 0, .int ep 0]
theorem SIt.ty {I p n ep i : Nat} {f : Value} (x : SIt s.heap I f i p n ep) : s.TypeIs (.ref I) "set_iterator" := let ⟨o, ho, hc, _⟩ := x; ⟨o, ho, hc⟩
def SAt (h : Heap) (p ep : Nat) (es : Array (Int × Value)) (t : SetTable) : Prop := ∃ o, h.get? p = some o ∧ o.ExactSet ∧ o.data = .set es ep t ∧ t.fits es.size = true
end
end L2

set_option Elab.async false
set_option linter.all false
set_option maxRecDepth 100000
set_option maxHeartbeats 4000000
namespace L2
open PySem
section
variable {prog : Program} {w : World} {A : Around} {E : Value → Shared → Prop} {s : Shared}
def TAt (h : Heap) (T : Nat) (ys : List Nat) : Prop := ∃ o, h.get? T = some o ∧ o.cls = .type "tuple" ∧ ∃ n, o.data = .seq (ys.map fun i => rawInt (i : Nat)).toArray n
end
end L2

set_option Elab.async false
set_option linter.all false
set_option maxRecDepth 100000
set_option maxHeartbeats 4000000
namespace L2
open PySem PyProof.Rows
section
variable {prog : Program} {w : World} {A : Around} {E : Value → Shared → Prop} {s : Shared}
theorem SIt.keep {h h' : Heap} {I p n ep i : Nat} {f : Value} (x : SIt h I f i p n ep) (k : ∀ o, h.get? I = some o → h'.get? I = some o) : SIt h' I f i p n ep := let ⟨o, ho, r⟩ := x; ⟨o, k _ ho, r⟩
theorem SAt.keep {h h' : Heap} {p ep : Nat} {es : Array (Int × Value)} {t : SetTable} (x : SAt h p ep es t) (k : ∀ o, h.get? p = some o → h'.get? p = some o) : SAt h' p ep es t := let ⟨o, ho, r⟩ := x; ⟨o, k _ ho, r⟩
theorem TAt.keep {h h' : Heap} {T : Nat} {ys : List Nat} (x : TAt h T ys) (k : ∀ o, h.get? T = some o → h'.get? T = some o) : TAt h' T ys := let ⟨o, ho, r⟩ := x; ⟨o, k _ ho, r⟩
end
end L2

set_option Elab.async false
set_option linter.all false
set_option maxRecDepth 100000
set_option maxHeartbeats 4000000
namespace L2
open PySem PyProof.Rows
section
variable {prog : Program} {w : World} {A : Around} {E : Value → Shared → Prop} {s : Shared}
theorem ISet.ty {p : Addr} {ks : List Int} (x : ISet prog w s.heap p ks) : s.TypeIs (.ref p) "set" := let ⟨o, _, _, _, ho, hex, _⟩ := x; ⟨o, ho, hex.1⟩
theorem ISet.lt {h : Heap} {p : Addr} {ks : List Int} (x : ISet prog w h p ks) : p < h.objs.size := let ⟨_, _, _, _, ho, _⟩ := x; Heap.lt_size ho
end
end L2

set_option Elab.async false
set_option linter.all false
set_option maxRecDepth 100000
set_option maxHeartbeats 4000000
namespace L2
open PySem PySem.Spec PyProof.Rows
section
variable {prog : Program} {w : World} {A : Around} {R : Result → Shared → Prop} {I : Addr} {fp wr : List Addr} {G : Array GenState → Array GenState → Prop} {n : Nat} {P : Nat → Value → Prop} {St : Nat → Shared → Prop}
end
end L2

set_option Elab.async false
set_option linter.all false
set_option maxRecDepth 100000
set_option maxHeartbeats 4000000
namespace L2
open PySem PySem.Spec PyProof.Rows
section
variable {prog : Program} {w : World} {A : Around} {E : Value → Shared → Prop} {s : Shared}
theorem IntsAre.len {vs : List Value} {ns : List Int} (h : IntsAre vs ns) : vs.length = ns.length := by
  induction h with
  | nil => rfl
  | cons n t _ ih => rw [List.length_cons, List.length_cons, ih]
end
end L2

set_option Elab.async false
set_option linter.all false
set_option maxRecDepth 100000
set_option maxHeartbeats 4000000
namespace L2
open PySem PySem.Spec PyProof.Rows
end L2

set_option Elab.async false
set_option linter.all false
set_option maxRecDepth 100000
set_option maxHeartbeats 4000000
namespace L2
open PySem PySem.Spec PyProof.Rows
end L2

set_option Elab.async false
set_option linter.all false
set_option maxRecDepth 100000
set_option maxHeartbeats 4000000
namespace K1
open PySem L2
structure Rsg (l : List Nat) (lo hi : Nat) : Prop where
  one : 1 ≤ l.length
  few : l.length ≤ 12
  up : l.Pairwise (· < ·)
  all : ∀ x ∈ l, lo ≤ x ∧ x ≤ hi
structure OwnC (K : PySem.W.Frag) (C : Addr) : Prop where
  ha : PySem.W.findIn K (.ref C) "__class__" = some (some (.builtin "object.__class__"))
  hn : PySem.W.specialIn K (.builtin "object.__class__") "__get__" = some (some (.builtin "getset_descriptor.__get__"))
  tk : PySem.W.takesIn K (.builtin "object.__class__") = some true
  hm : PySem.W.mroIn K C (.type "object") = some true
theorem OwnC.ty {K : PySem.W.Frag} {C : Addr} (o : OwnC K C) (c : Cls K C) {H : Hp} {a dx : Addr} {fs : List (Str × V)} (e : H a = some (.ins C dx fs)) : TyOf K H (.ref a) (.ref C) := .ins e c o.ha o.hn o.tk o.hm
theorem num_ok {b : Nat} {lo hi : Int} (h1 : lo ≤ b) (h2 : (b : Int) ≤ hi) : numV (.int (b : Nat)) lo hi = true := decide_eq_true ⟨h1, h2⟩
inductive TAtr (tp : Addr) (H : Hp) : V → RT → Prop
  | always {a : Addr} (h : H a = some (.tup [.str (Str.ofString "always")])) : TAtr tp H (.ref a) .always
  | week {a : Addr} {b : Nat} (h : H a = some (.tup [.str (Str.ofString "week"), .int (b : Nat)])) : TAtr tp H (.ref a) (.week b)
  | span {a : Addr} {x y : Nat} {v : V} {r : RT} (h : H a = some (.tup [.str (Str.ofString "span"), .int (x : Nat), .int (y : Nat), v])) (hv : TAtr tp H v r) : TAtr tp H (.ref a) (.span x y r)
  | each {a l : Addr} {n : Nat} {ss : List Nat} (h : H a = some (.tup [.str (Str.ofString "each"), .int (n : Nat), .ref l])) (hl : H l = some (.lst (natV ss))) (ne : l ≠ tp) : TAtr tp H (.ref a) (.each n ss)
  | either {a : Addr} {v u : V} {r s : RT} (h : H a = some (.tup [.str (Str.ofString "either"), v, u])) (hv : TAtr tp H v r) (hu : TAtr tp H u s) : TAtr tp H (.ref a) (.either r s)
  | both {a : Addr} {v u : V} {r s : RT} (h : H a = some (.tup [.str (Str.ofString "both"), v, u])) (hv : TAtr tp H v r) (hu : TAtr tp H u s) : TAtr tp H (.ref a) (.both r s)
  | but {a l : Addr} {ds : List Nat} {v : V} {r : RT} (h : H a = some (.tup [.str (Str.ofString "but"), .ref l, v])) (hl : H l = some (.lst (natV ds))) (ne : l ≠ tp) (hv : TAtr tp H v r) : TAtr tp H (.ref a) (.but ds r)
theorem TAtr.keep {tp : Addr} {H H' : Hp} (k : ∀ b o, b ≠ tp → H b = some o → H' b = some o) (nt : ∀ xs, H tp ≠ some (.tup xs)) {v : V} {r : RT} (h : TAtr tp H v r) : TAtr tp H' v r := by
  have q : ∀ {a xs}, H a = some (.tup xs) → H' a = some (.tup xs) := fun {a xs} e => k _ _ (fun z => by rw [z] at e; exact nt _ e) e
  induction h with
  | always h => exact .always (q h)
  | week h => exact .week (q h)
  | span h _ ih => exact .span (q h) ih
  | each h hl ne => exact .each (q h) (k _ _ ne hl) ne
  | either h _ _ i1 i2 => exact .either (q h) i1 i2
  | both h _ _ i1 i2 => exact .both (q h) i1 i2
  | but h hl ne _ ih => exact .but (q h) (k _ _ ne hl) ne ih
theorem TAtr.same {tp : Addr} {H H' : Hp} (s : Same H H') {v : V} {r : RT} (h : TAtr tp H v r) : TAtr tp H' v r := by
  induction h with
  | always h => exact .always (s _ _ h)
  | week h => exact .week (s _ _ h)
  | span h _ ih => exact .span (s _ _ h) ih
  | each h hl ne => exact .each (s _ _ h) (s _ _ hl) ne
  | either h _ _ i1 i2 => exact .either (s _ _ h) i1 i2
  | both h _ _ i1 i2 => exact .both (s _ _ h) i1 i2
  | but h hl ne _ ih => exact .but (s _ _ h) (s _ _ hl) ne ih
theorem tape_tup {H : Hp} {tp : Addr} {ys : List V} (h : H tp = some (.lst ys)) (xs : List V) : H tp ≠ some (.tup xs) := fun e => by rw [h] at e; cases e
theorem TAtr.bump {tp : Addr} {k : Int} {ys : List V} {H H' : Hp} (ht : H tp = some (.lst ys)) (b : Bump tp k H H') {v : V} {r : RT} (h : TAtr tp H v r) : TAtr tp H' v r := h.keep b.keep (tape_tup ht)
theorem RAt.bump {c : RC} {K : PySem.W.Frag} {tp : Addr} {k : Int} {ys : List V} {H H' : Hp} (ht : H tp = some (.lst ys)) (b : Bump tp k H H') {a : Addr} {r : RT} (h : RAt c K H a r) : RAt c K H' a r := by
  have q : ∀ {x C dx fs}, H x = some (.ins C dx fs) → H' x = some (.ins C dx fs) := fun {x C dx fs} e => b.keep _ _ (fun z => by rw [z, ht] at e; cases e) e
  have qt : ∀ {p xs}, SqT K H p xs → SqT K H' p xs := fun {p xs} e => e.imp (fun r => r.imp (fun e => b.keep _ _ (fun z => by rw [z, ht] at e; cases e) e) (fun ⟨o, e⟩ => ⟨o, b.keep _ _ (fun z => by rw [z, ht] at e; cases e) e⟩)) id
  induction h with
  | always h => exact .always (q h)
  | week h hb => exact .week (q h) hb
  | span h hx hy _ ih => exact .span (q h) hx hy ih
  | each h hn hn2 hp => exact .each (q h) hn hn2 (qt hp)
  | either h _ _ i1 i2 => exact .either (q h) i1 i2
  | both h _ _ i1 i2 => exact .both (q h) i1 i2
  | but h hp _ ih => exact .but (q h) (qt hp) ih
end K1
namespace L2
open PySem PySem.Spec PyProof.Rows
end L2
namespace K1
open PySem L2
def Fst (f : Nat → Bool) (lo n : Nat) : Option Nat → Prop
  | none => ∀ j, j < n → f (lo + j) = false
  | some x => ∃ i, i < n ∧ x = lo + i ∧ f (lo + i) = true ∧ ∀ j, j < i → f (lo + j) = false
theorem Fst.one {f g : Nat → Bool} {lo n m : Nat} {x y : Option Nat} (h : Fst f lo n x) (h' : Fst g lo m y) (fg : ∀ j, j < n → j < m → f (lo + j) = g (lo + j)) (fn : ∀ j, m ≤ j → j < n → f (lo + j) = false) (gm : ∀ j, n ≤ j → j < m → g (lo + j) = false) : x = y := by
  cases x with
  | none =>
    cases y with
    | none => rfl
    | some y =>
      obtain ⟨i, hi, rfl, hy, _⟩ := h'
      by_cases c : i < n
      · have := h i c
        rw [fg i c hi, hy] at this
        cases this
      · rw [gm i (by omega) hi] at hy
        cases hy
  | some x =>
    obtain ⟨i, hi, rfl, hx, hb⟩ := h
    have im : i < m := by
      by_cases c : i < m
      · exact c
      · rw [fn i (by omega) hi] at hx
        cases hx
    rw [fg i hi im] at hx
    cases y with
    | none =>
      rw [h' i im] at hx
      cases hx
    | some y =>
      obtain ⟨j, hj, rfl, hy, hc⟩ := h'
      have e : i = j := by
        rcases Nat.lt_trichotomy i j with c | c | c
        · rw [hc i c] at hx; cases hx
        · exact c
        · have jn : j < n := by omega
          rw [← fg j jn hj, hb j c] at hy
          cases hy
      rw [e]
end K1

set_option Elab.async false
set_option linter.all false
set_option maxRecDepth 100000
set_option maxHeartbeats 4000000
namespace L2
open PySem PySem.Spec PyProof.Rows
theorem strs_of : ∀ {ts : List Str} {us : List Value}, Vals (ts.map V.str) us → ∃ l : List (Str × Tok), us = strValues l ∧ l.map (·.1) = ts
  | [], _, .nil => ⟨[], rfl, rfl⟩
  | t :: r, _, .cons (b := u) h q => by
    obtain ⟨tk, rfl⟩ := h
    obtain ⟨l, rfl, e⟩ := strs_of q
    exact ⟨(t, tk) :: l, rfl, by rw [List.map_cons, e]⟩
theorem fold_le (n : Nat) : ∀ (ts : List Str) (k : Nat), ts.foldl (fun a x => a + x.length + n) k = k + (ts.map fun x => x.length + n).sum
  | [], k => by simp
  | t :: r, k => by
    rw [List.foldl_cons, fold_le n r, List.map_cons, List.sum_cons]
    omega
theorem sum_len (n : Nat) : ∀ ts : List Str, (ts.map fun x => x.length + n).sum = (ts.map (·.length)).sum + ts.length * n
  | [] => by simp
  | y :: r => by
    have ih := sum_len n r
    simp only [List.map_cons, List.sum_cons, List.length_cons, Nat.succ_mul]
    omega
def rJoin (K : PySem.W.Frag) : V → List V → Hp → VK → Prop := fun x xs H Q => ∃ (z : Str) (p : Addr) (ts : List Str), x = .str z ∧ xs = [.ref p] ∧ SqL K H p (ts.map V.str) ∧ (ts.map fun x => x.length + z.length).sum ≤ sizeLine ∧ Q (.str (Str.join z ts)) H
theorem mt_join {X : Cx} : MtR X "str.join" (rJoin X.K) := by
  intro pins s σ H x xs v us Q I rx r h
  obtain ⟨z, p, ts, rfl, rfl, hq, hz, q⟩ := h
  obtain ⟨t, rfl⟩ := rx
  obtain ⟨u, rfl, e⟩ := vals1 r
  cases e
  obtain ⟨its, r', pl, _⟩ := I.list hq
  obtain ⟨l, rfl, el⟩ := strs_of r'
  have hl : Builtin.Str.tooLong ((l.map (·.1)).toArray.foldl (· + ·.length + z.length) 0) = false := by
    rw [el, List.foldl_toArray, fold_le]
    unfold Builtin.Str.tooLong
    exact decide_eq_false (by omega)
  refine call_meets F.slot_str_join (typeIs_str _ _ _) F.entry_str_join (F.args_str_join_2 _ _) (meets_str_join_list z t p l hl) ⟨pl.isList, ?_⟩
  have ej : Builtin.Str.glued z (l.map (·.1)) = Str.join z ts := by rw [el]; exact StrLaws.glued_eq_join z ts
  have le : (Str.join z ts).length ≤ sizeLine := by
    have h1 := StrLaws.join_length_le z ts
    have h2 := sum_len z.length ts
    omega
  have many : ∀ (m : Made), m = .str (Builtin.Str.glued z (l.map (·.1))) → m.post (fun v s' => wants (EP X pins σ Q) X.xe (.ok (.ret v)) s') s := fun m e => by
    subst e
    refine ⟨by rw [ej]; exact le, ?_⟩
    rw [ej]
    exact ⟨.str _, H, I.tok _, ⟨_, rfl⟩, q⟩
  match l, el, many with
  | [], el, many => exact many _ rfl
  | [y], el, many =>
    obtain ⟨yz, yt⟩ := y
    have e2 : Str.join z ts = yz := by rw [← el]; rfl
    rw [e2] at q
    exact ⟨.str yz, H, I, ⟨yt, rfl⟩, q⟩
  | y :: y2 :: r2, el, many => exact many _ rfl
end L2

set_option Elab.async false
set_option linter.all false
set_option maxRecDepth 100000
set_option maxHeartbeats 4000000
namespace K1
open PySem L2
abbrev valL (l : List Nat) : Nat := PySem.NumText.digitsVal l
theorem str_len (z : Str) : z.cps.toList.length = z.length := by simp [Str.length]
theorem sl_to (z : Str) (j : Nat) (h : j ≤ z.length) : Txt.slice z none (some (j : Int)) = ⟨(z.cps.toList.take j).toArray⟩ := by
  have e := StrLaws.sliceText_to (x := z) (j := (j : Int)) ⟨by omega, by rw [str_len]; omega⟩
  rw [List.drop_zero, show ((j : Int) - 0).toNat = j by omega] at e
  exact e
theorem sl_from (z : Str) (j : Nat) (h : j ≤ z.length) : Txt.slice z (some (j : Int)) none = ⟨(z.cps.toList.drop j).toArray⟩ := by
  have e := StrLaws.sliceText_from (x := z) (i := (j : Int)) ⟨by omega, by rw [str_len]; omega⟩
  rw [show ((j : Int)).toNat = j by omega, List.take_of_length_le (by rw [List.length_drop]; omega)] at e
  exact e
end K1

set_option Elab.async false
set_option linter.all false
set_option maxRecDepth 100000
set_option maxHeartbeats 4000000
namespace K1
open PySem L2
theorem join_room {z : Str} {ts : List Str} {m : Nat} (hz : z.length ≤ 1) (hm : ts.length ≤ 20) (h : ∀ x ∈ ts, x.length ≤ 10) : (ts.map fun x => x.length + z.length).sum ≤ sizeLine := by
  have key : ∀ l : List Str, (∀ x ∈ l, x.length ≤ 10) → (l.map fun x => x.length + z.length).sum ≤ 11 * l.length := by
    intro l
    induction l with
    | nil => intro _; simp
    | cons y r ih =>
      intro h
      have h1 := h y List.mem_cons_self
      have h2 := ih fun x hx => h x (List.mem_cons_of_mem _ hx)
      simp only [List.map_cons, List.sum_cons, List.length_cons]
      omega
  have := key ts h
  exact Nat.le_trans (show _ ≤ 1000 by omega) (by decide)
end K1

set_option Elab.async false
set_option linter.all false
set_option maxRecDepth 100000
set_option maxHeartbeats 600000
namespace L2
open PySem PySem.Spec PyProof.Rows
end L2

set_option Elab.async false
set_option linter.all false
set_option maxRecDepth 100000
set_option maxHeartbeats 4000000
namespace L2
open PySem PySem.Spec PyProof.Rows
def Odd1 (H : Hp) (v : V) : Prop := flatV v = true ∨ (∃ (a : Addr) (xs : List V), v = .ref a ∧ H a = some (.lst xs)) ∨ (∃ (a : Addr) (xs : List V), v = .ref a ∧ H a = some (.tup xs)) ∨ (∃ (a : Addr) (kvs : List (Key × V)), v = .ref a ∧ H a = some (.dK kvs))
theorem Odd1.same {H H' : Hp} {v : V} (s : Same H H') (h : Odd1 H v) : Odd1 H' v := by
  rcases h with h | ⟨a, xs, e, h⟩ | ⟨a, xs, e, h⟩ | ⟨a, xs, e, h⟩
  · exact .inl h
  · exact .inr (.inl ⟨a, xs, e, s _ _ h⟩)
  · exact .inr (.inr (.inl ⟨a, xs, e, s _ _ h⟩))
  · exact .inr (.inr (.inr ⟨a, xs, e, s _ _ h⟩))
end L2

set_option Elab.async false
set_option linter.all false
namespace L2
open PySem PySem.Spec PyProof.Rows
def tJoin (t u : TS) : TS := fun D σ H => ∃ J : St → Hp → Prop, t { D with nx := J } σ H ∧ ∀ σ' H', J σ' H' → u D σ' H'
theorem pss_join {X : Cx} {st : Stmt} {rest : List Stmt} {t u : TS} (h1 : PS X st t) (h2 : PSs X rest u) : PSs X (st :: rest) (tJoin t u) := by
  intro pins s σ H D I h
  obtain ⟨J, h, hJ⟩ := h
  refine wpAny_execs_cons (thn (h1 pins s σ H { D with nx := J } I h) fun f s1 q => ?_)
  cases f with
  | next =>
    obtain ⟨σ', H', I', q⟩ := q
    exact h2 pins s1 σ' H' D I' (hJ _ _ q)
  | ret v => exact q
  | brk => exact q
  | cont => exact q
end L2

set_option Elab.async false
set_option linter.all false
set_option maxRecDepth 100000
set_option maxHeartbeats 4000000
namespace L2
open PySem PySem.Spec PyProof.Rows

section
variable {X : Cx} {pins : List (Addr × Obj)} {σ : St} {H : Hp} {s : Shared} {h' : Heap}
theorem Inv.turnedL {t' : Nat} {fp : List Addr} (I : Inv X pins σ H s) (k : ∀ b o, b ∉ fp → s.heap.get? b = some o → h'.get? b = some o) (hf : ∀ b ∈ fp, FpOk X pins H b) : Inv X pins σ H { s with heap := h', toks := t' } := by
  have nit : ∀ b u, H b = some u → b ∉ fp := fun b u e z => by rw [(hf b z).1] at e; cases e
  refine I.step (g' := s.gens) (d' := s.drawn) (ch := fp) (fun b hb => ⟨(hf b hb).2.2.2.1, (hf b hb).2.1, (hf b hb).2.2.2.2.1, (hf b hb).2.2.2.2.2⟩) (fun b o _ _ hc e _ => k b o hc e) (fun b o _ _ hc e _ => ⟨o.slots, k b o hc e⟩) (fun _ _ _ _ n => n)
    (fun b o hc e => ⟨o, k b o hc e⟩) (fun _ _ e => e) (fun _ _ _ e => e) (fun b ps e => ⟨#[], by rw [e]; simp⟩) (fun m hm => ?_) (fun b u e => ?_) I.bare
  · obtain ⟨o, es, ep, ho, r⟩ := hm
    exact ⟨o, es, ep, k _ o (fun z => (hf _ z).2.1 rfl) ho, r⟩
  · refine (I.hok b u e).stay (fun c v hc q => k c v ?_ q) (fun _ q => q) fun _ _ q => q
    rcases hc with z | z
    · rw [z]; exact nit b u e
    · exact nit c _ z
theorem Inv.paired {t' : Nat} {fp : List Addr} {x y : V} {u v : Value} (I : Inv X pins σ H s) (hf : ∀ b ∈ fp, FpOk X pins H b) (ht : ∀ b ∈ fp, ∃ o, s.heap.get? b = some o)
    (k : ∀ b o, b ∉ fp → s.heap.get? b = some o → h'.get? b = some o) (hT : h'.get? s.heap.objs.size = some { cls := .type "tuple", data := .seq #[u, v] }) (rx : RelV x u) (ry : RelV y v) :
    Inv X pins σ (upd H s.heap.objs.size (.tup [x, y])) { s with heap := h', toks := t' } ∧ ∀ b ∈ fp, upd H s.heap.objs.size (.tup [x, y]) b = none := by
  have I1 : Inv X pins σ (upd H s.heap.objs.size (.tup [x, y])) { s with heap := s.heap.push { cls := .type "tuple", data := .seq #[u, v] }, toks := t' } :=
    I.laid (fun b ob q => Heap.get?_push_of_some _ q) (Nat.le_refl _) ⟨show 2 ≤ sizeLine by decide, [u, v], .cons rx (.cons ry .nil), IsTup.new _ _⟩
  have ne : ∀ b ∈ fp, b ≠ s.heap.objs.size := fun b hb e => by
    obtain ⟨o, q⟩ := ht b hb
    exact absurd (Heap.lt_size q) (by rw [e]; exact Nat.lt_irrefl _)
  have nn : ∀ b ∈ fp, upd H s.heap.objs.size (.tup [x, y]) b = none := fun b hb => by rw [upd_ne (ne b hb)]; exact (hf b hb).1
  refine ⟨Inv.turnedL (s := { s with heap := s.heap.push { cls := .type "tuple", data := .seq #[u, v] }, toks := t' }) (t' := t') (fp := fp) I1 (fun b o hb e => ?_) (fun b hb => ⟨nn b hb, (hf b hb).2⟩), nn⟩
  have e' : (s.heap.push { cls := .type "tuple", data := .seq #[u, v] }).get? b = some o := e
  by_cases hb2 : b = s.heap.objs.size
  · subst hb2
    rw [Heap.get?_push_size _ rfl] at e'
    cases e'
    exact hT
  · rw [Heap.get?_push_ne _ _ _ hb2] at e'
    exact k b o hb e'
end
def Ite (K : PySem.W.Frag) (l : Addr) : It :=
  ⟨fun i H => ∃ xs x, SqL K H l xs ∧ xs[i]? = some x, fun i H v H' => ∃ p x, H p = none ∧ (∀ xs, SqL K H l xs → xs[i]? = some x) ∧ v = .ref p ∧ H' = upd H p (.tup [.int i, x]), fun i H => ∃ xs, SqL K H l xs ∧ xs.length ≤ i⟩
def Itz (K : PySem.W.Frag) (l m : Addr) : It :=
  ⟨fun i H => ∃ xs ys x y, SqL K H l xs ∧ SqL K H m ys ∧ xs[i]? = some x ∧ ys[i]? = some y, fun i H v H' => ∃ p x y, H p = none ∧ (∀ xs, SqL K H l xs → xs[i]? = some x) ∧ (∀ ys, SqL K H m ys → ys[i]? = some y) ∧ v = .ref p ∧ H' = upd H p (.tup [x, y]),
    fun i H => ∃ xs ys, SqL K H l xs ∧ SqL K H m ys ∧ (xs.length ≤ i ∨ ys.length ≤ i)⟩
theorem turn_enum {P : Program} {w : World} {K : PySem.W.Frag} {es : List Expr} {k : Nat} {pos : Pos} (l e it : Addr) (hei : e ≠ it) : Turn P w K (.Tuple es k pos) (Ite K l) [e, it] e (fun i h => (∃ old, IsEnum h e it i old) ∧ h.IsListIter it l i) where
  mem := by simp
  obj := fun i h st b hb => by
    obtain ⟨⟨old, he⟩, o, ho, hc, hd⟩ := st
    have e' : b = e ∨ b = it := by simpa using hb
    rcases e' with rfl | rfl
    · exact ⟨_, he, fun v z => by cases z⟩
    · exact ⟨o, ho, fun v z => by rw [hd] at z; cases z⟩
  keep := fun i h h' st kk => ⟨let ⟨old, he⟩ := st.1; ⟨old, kk e (by simp) _ he⟩, st.2.at fun o q => kk it (by simp) o q⟩
  item := by
    intro X hP hw hK hc i pins s σ H E I hf st hg
    subst hP hw hK
    obtain ⟨xs, x, hq, hx⟩ := hg
    obtain ⟨its, rv, p, hz⟩ := I.list hq
    obtain ⟨u, hu, ru⟩ := rv.get hx
    obtain ⟨⟨old, he⟩, hit⟩ := st
    have hit0 := hit
    refine wpAny_pyNext_enum_item he hit p.isList (x := u) (by simpa using hu) hei fun h1 ho hit' hT hsz hk => ⟨_, rfl, ?_⟩
    refine wpAny_letOwnedTupleGo_enum (s := { s with heap := h1, toks := s.toks + 1 }) ho fun h2 he2 hs2 => ?_
    have hlt : e < s.heap.objs.size := Heap.lt_size he
    have hilt : it < s.heap.objs.size := by obtain ⟨_, q, _⟩ := hit; exact Heap.lt_size q
    have hT2 : h2.get? s.heap.objs.size = some { cls := .type "tuple", data := .seq #[.int i s.toks, u] } := (hs2.2 _ (Nat.ne_of_gt hlt)).trans hT
    obtain ⟨I2, n2⟩ := I.paired (t' := s.toks + 1) (fp := [e, it]) (x := .int i) (y := x) (h' := h2) hf (fun b hb => by
      have e' : b = e ∨ b = it := by simpa using hb
      rcases e' with rfl | rfl
      · exact ⟨_, he⟩
      · obtain ⟨o, q, _⟩ := hit0; exact ⟨o, q⟩) (fun b o hb q => by
      have hb1 : b ≠ e := fun z => hb (by simp [z])
      have hb2 : b ≠ it := fun z => hb (by simp [z])
      exact (hs2.2 b hb1).trans (hk b o hb1 hb2 q)) hT2 ⟨s.toks, rfl⟩ ru
    refine ⟨.ref s.heap.objs.size, _, I2, rfl, ⟨_, x, I.hok.fresh (Nat.le_refl _), fun ys hy => by rw [I.list_inj hy hq]; exact hx, rfl, rfl⟩, ⟨⟨_, by simpa using he2⟩, hit'.at fun o q => (hs2.2 it hei.symm).trans q⟩, n2⟩
  done := by
    intro X hP hw hK hc i pins s σ H E I hf st hg
    subst hP hw hK
    obtain ⟨xs, hq, hx⟩ := hg
    obtain ⟨its, rv, p, hz⟩ := I.list hq
    obtain ⟨⟨old, he⟩, hit⟩ := st
    have hl := rv.length
    exact wpAny_pyNext_enum_end (I.ok.hd hc) he hit p.isList (by simp; omega) fun h' eb => ⟨rfl, I.turnedL (t' := s.toks) (fp := [e, it]) (fun b o hb q => eb b o (fun z => hb (by simp [z])) q) hf⟩
  self := fun _ _ _ _ _ st h => by
    obtain ⟨⟨old, he⟩, _⟩ := st
    exact wpAny_pyIter_enum he h
theorem turn_zip {P : Program} {w : World} {K : PySem.W.Frag} {es : List Expr} {k : Nat} {pos : Pos} (l m z TI TO i1 i2 : Addr) (D : ZipApart z TI TO i1 i2 l m) : Turn P w K (.Tuple es k pos) (Itz K l m) [z, TI, TO, i1, i2] z (fun i h => IsZip h z TI TO .none ∧ IsPair h TI (.ref i1) (.ref i2) ∧ (∃ a b, IsPair h TO a b) ∧ h.IsListIter i1 l i ∧ h.IsListIter i2 m i) where
  mem := by simp
  obj := fun i h st b hb => by
    obtain ⟨hz, hTI, ⟨a, c, hTO⟩, ⟨o1, g1, _, d1⟩, ⟨o2, g2, _, d2⟩⟩ := st
    have e' : b = z ∨ b = TI ∨ b = TO ∨ b = i1 ∨ b = i2 := by simpa using hb
    rcases e' with rfl | rfl | rfl | rfl | rfl
    · exact ⟨_, hz, fun v z => by cases z⟩
    · exact ⟨_, hTI, fun v z => by cases z⟩
    · exact ⟨_, hTO, fun v z => by cases z⟩
    · exact ⟨o1, g1, fun v z => by rw [d1] at z; cases z⟩
    · exact ⟨o2, g2, fun v z => by rw [d2] at z; cases z⟩
  keep := fun i h h' st kk => ⟨kk z (by simp) _ st.1, kk TI (by simp) _ st.2.1, let ⟨a, b, q⟩ := st.2.2.1; ⟨a, b, kk TO (by simp) _ q⟩, st.2.2.2.1.at fun o q => kk i1 (by simp) o q, st.2.2.2.2.at fun o q => kk i2 (by simp) o q⟩
  item := by
    intro X hP hw hK hc i pins s σ H E I hf st hg
    subst hP hw hK
    obtain ⟨xs, ys, x, y, hq1, hq2, hx, hy⟩ := hg
    obtain ⟨its1, rv1, p1, hz1⟩ := I.list hq1
    obtain ⟨its2, rv2, p2, hz2⟩ := I.list hq2
    obtain ⟨u, hu, ru⟩ := rv1.get hx
    obtain ⟨v, hv, rv⟩ := rv2.get hy
    obtain ⟨hz, hTI, ⟨a, b, hTO⟩, h1, h2⟩ := st
    have h10 := h1
    have h20 := h2
    refine wpAny_pyNext_zip_item D hz hTI hTO h1 h2 p1.isList p2.isList (x := u) (y := v) (by simpa using hu) (by simpa using hv) fun g1 a1 a2 a3 a4 a5 a6 hk => ⟨_, rfl, ?_⟩
    refine wpAny_letOwnedTupleGo_zip (s := { s with heap := g1 }) a1 fun g2 b1 bs => ?_
    have hlt : z < s.heap.objs.size := Heap.lt_size hz
    have hT2 : g2.get? s.heap.objs.size = some { cls := .type "tuple", data := .seq #[u, v] } := (bs.2 _ (Nat.ne_of_gt hlt)).trans a5
    obtain ⟨I2, n2⟩ := I.paired (t' := s.toks) (fp := [z, TI, TO, i1, i2]) (x := x) (y := y) (h' := g2) hf (fun b hb => by
      have e' : b = z ∨ b = TI ∨ b = TO ∨ b = i1 ∨ b = i2 := by simpa using hb
      rcases e' with rfl | rfl | rfl | rfl | rfl
      · exact ⟨_, hz⟩
      · exact ⟨_, hTI⟩
      · exact ⟨_, hTO⟩
      · obtain ⟨o, q, _⟩ := h10; exact ⟨o, q⟩
      · obtain ⟨o, q, _⟩ := h20; exact ⟨o, q⟩) (fun b o hb q => by
      have c1 : b ≠ z := fun w => hb (by simp [w])
      have c2 : b ≠ TO := fun w => hb (by simp [w])
      have c3 : b ≠ i1 := fun w => hb (by simp [w])
      have c4 : b ≠ i2 := fun w => hb (by simp [w])
      exact (bs.2 b c1).trans (hk b o c1 c2 c3 c4 q)) hT2 ru rv
    exact ⟨.ref s.heap.objs.size, _, I2, rfl, ⟨_, x, y, I.hok.fresh (Nat.le_refl _), fun zs hy => by rw [I.list_inj hy hq1]; exact hx, fun zs hy' => by rw [I.list_inj hy' hq2]; exact hy, rfl, rfl⟩,
      ⟨b1, (bs.2 _ D.TIz).trans (hk _ _ D.TIz D.TITO D.TIi1 D.TIi2 hTI), ⟨_, _, (bs.2 _ D.TOz).trans a2⟩, a3.at fun o q => (bs.2 _ D.i1z).trans q, a4.at fun o q => (bs.2 _ D.i2z).trans q⟩, n2⟩
  done := by
    intro X hP hw hK hc i pins s σ H E I hf st hg
    subst hP hw hK
    obtain ⟨xs, ys, hq1, hq2, hx⟩ := hg
    obtain ⟨its1, rv1, p1, hz1⟩ := I.list hq1
    obtain ⟨its2, rv2, p2, hz2⟩ := I.list hq2
    have l1 := rv1.length
    have l2 := rv2.length
    obtain ⟨hz, hTI, ⟨a, b, hTO⟩, h1, h2⟩ := st
    exact wpAny_pyNext_zip_end (I.ok.hd hc) D hz hTI hTO h1 h2 p1.isList p2.isList (by rcases hx with hx | hx; exact .inl (by simp; omega); exact .inr (by simp; omega)) fun h' eb =>
      ⟨rfl, I.turnedL (t' := s.toks) (fp := [z, TI, TO, i1, i2]) (fun b o hb q => eb b o (fun w => hb (by simp [w])) (fun w => hb (by simp [w])) (fun w => hb (by simp [w])) (fun w => hb (by simp [w])) q) hf⟩
  self := fun _ _ _ _ _ st h => wpAny_pyIter_zip st.1 h

section
variable {X : Cx}
def iEnum (K : PySem.W.Frag) (ta : TA) : TI := fun σ H R => ta σ H fun vs H1 => ∃ a, vs = [.ref a] ∧ (∃ xs, SqL K H1 a xs) ∧ R (Ite K a) H1
def iZip (K : PySem.W.Frag) (ta : TA) : TI := fun σ H R => ta σ H fun vs H1 => ∃ a b, vs = [.ref a, .ref b] ∧ (∃ xs, SqL K H1 a xs) ∧ (∃ ys, SqL K H1 b ys) ∧ R (Itz K a b) H1
theorem pi_enum {es : List Expr} {k : Nat} {tp : Pos} {a : Expr} {ta : TA} {p pos : Pos} (hg : Gl X "enumerate") (hm : X.mg "enumerate" = none) (ha : PA X [a] ta) (hs : starEach [a] X.env = [(false, eval a X.env)] := by rfl) : PI X (.Tuple es k tp) (.Call (.Name "enumerate" p) [a] [] pos) (iEnum X.K ta) := by
  intro pins s σ H R I h
  refine Call_ (ld_blt I hg hm boot_enumerate (PyProof.Rows.callWith_type1 (thn (ha pos pins s σ H _ I h) fun us s1 ⟨vs, H1, I1, r1, q1⟩ => ?_) hs rfl))
  obtain ⟨l, e, ⟨xs, hq⟩, q⟩ := q1
  subst e
  cases r1 with
  | cons r rr =>
    cases rr
    cases r
    obtain ⟨its, rv, pl, hz⟩ := I1.list hq
    refine call_enumerate_list pl.isList fun h' he hit hsz hk => ?_
    refine wpAny_pyIter_enum (s := { s1 with heap := h' }) he ?_
    refine ⟨s1.heap.objs.size + 1, [s1.heap.objs.size + 1, s1.heap.objs.size], _, _, H1, rfl, I1.kept (t' := s1.toks) hk, turn_enum l _ _ (Nat.succ_ne_self _), ⟨⟨_, he⟩, hit⟩, fun b hb => ?_, q⟩
    have e' : b = s1.heap.objs.size + 1 ∨ b = s1.heap.objs.size := by simpa using hb
    have hb' : s1.heap.objs.size ≤ b := by rcases e' with rfl | rfl; exact Nat.le_succ _; exact Nat.le_refl _
    exact I1.fpOk hb' (I1.hok.fresh hb')
theorem pi_zip {es : List Expr} {k : Nat} {tp : Pos} {a b : Expr} {ta : TA} {p pos : Pos} (hg : Gl X "zip") (hm : X.mg "zip" = none) (ha : PA X [a, b] ta) (hs : starEach [a, b] X.env = [(false, eval a X.env), (false, eval b X.env)] := by rfl) (hs2 : starEach [b] X.env = [(false, eval b X.env)] := by rfl) :
    PI X (.Tuple es k tp) (.Call (.Name "zip" p) [a, b] [] pos) (iZip X.K ta) := by
  intro pins s σ H R I h
  refine Call_ (ld_blt I hg hm boot_zip (PyProof.Rows.callWith_type1 (thn (ha pos pins s σ H _ I h) fun us s1 ⟨vs, H1, I1, r1, q1⟩ => ?_) (by rw [hs, hs2]) (by rw [hs2]; rfl)))
  obtain ⟨l, m, e, ⟨xs, hq1⟩, ⟨ys, hq2⟩, q⟩ := q1
  subst e
  cases r1 with
  | cons r rr =>
    cases rr with
    | cons r' rr =>
      cases rr
      cases r
      cases r'
      obtain ⟨its1, rv1, p1, hz1⟩ := I1.list hq1
      obtain ⟨its2, rv2, p2, hz2⟩ := I1.list hq2
      have lt1 : l < s1.heap.objs.size := by obtain ⟨o, e, _⟩ := p1.isList; exact Heap.lt_size e
      have lt2 : m < s1.heap.objs.size := by obtain ⟨o, e, _⟩ := p2.isList; exact Heap.lt_size e
      refine call_zip_2 p1.isList p2.isList fun h' hz hTI hTO hi1 hi2 hsz hk => ?_
      refine wpAny_pyIter_zip (s := { s1 with heap := h' }) hz ?_
      refine ⟨s1.heap.objs.size + 4, [s1.heap.objs.size + 4, s1.heap.objs.size + 2, s1.heap.objs.size + 3, s1.heap.objs.size, s1.heap.objs.size + 1], _, _, H1, rfl, I1.kept (t' := s1.toks) hk, turn_zip l m _ _ _ _ _ (zipApart_new lt1 lt2), ⟨hz, hTI, ⟨_, _, hTO⟩, hi1, hi2⟩, fun b hb => ?_, q⟩
      have hb' : s1.heap.objs.size ≤ b := by
        simp only [List.mem_cons, List.not_mem_nil, or_false] at hb
        rcases hb with rfl | rfl | rfl | rfl | rfl
        · exact Nat.le_add_right _ _
        · exact Nat.le_add_right _ _
        · exact Nat.le_add_right _ _
        · exact Nat.le_refl _
        · exact Nat.le_add_right _ _
      exact I1.fpOk hb' (I1.hok.fresh hb')
end
theorem for_enum {K : PySem.W.Frag} {a : Addr} {xs : List V} {g : TG} {tb : TS} {D : Ends} {σ : St} {H : Hp} (Pv : Nat → St → Hp → Prop) (h0 : Pv 0 σ H) (hl : ∀ i σ H, i ≤ xs.length → Pv i σ H → SqL K H a xs)
    (hs : ∀ i x p σ H, xs[i]? = some x → H p = none → Pv i σ H → g (.ref p) σ (upd H p (.tup [.int i, x])) fun σ2 H2 => tb { D with nx := Pv (i + 1), ct := Pv (i + 1), bk := D.nx } σ2 H2) (hd : ∀ σ H, Pv xs.length σ H → D.nx σ H) :
    ∃ W : Nat → Nat → St → Hp → Prop, (∃ m, W 0 m σ H) ∧ ∀ i m σ H, W i m σ H →
      ((Ite K a).stop i H ∧ D.nx σ H) ∨ ((Ite K a).go i H ∧ ∃ N : St → Hp → Prop, (∀ σ' H', N σ' H' → ∃ m', m' < m ∧ W (i + 1) m' σ' H') ∧ ∀ x H', (Ite K a).yld i H x H' → g x σ H' fun σ2 H2 => tb { D with nx := N, ct := N, bk := D.nx } σ2 H2) := by
  refine ⟨fun i m σ H => m = xs.length - i ∧ i ≤ xs.length ∧ Pv i σ H, ⟨xs.length, by simp, Nat.zero_le _, h0⟩, ?_⟩
  rintro i m σ H ⟨rfl, hi, p⟩
  have q := hl i σ H hi p
  by_cases hlt : i < xs.length
  · refine .inr ⟨⟨xs, xs[i], q, by simp [hlt]⟩, Pv (i + 1), fun σ' H' p' => ⟨xs.length - (i + 1), by omega, rfl, hlt, p'⟩, fun v H' y => ?_⟩
    obtain ⟨r, x, hr, y, rfl, rfl⟩ := y
    exact hs i x r σ _ (y xs q) hr p
  · have e : i = xs.length := by omega
    subst e
    exact .inl ⟨⟨xs, q, Nat.le_refl _⟩, hd σ H p⟩
theorem for_zip {K : PySem.W.Frag} {a b : Addr} {xs ys : List V} {g : TG} {tb : TS} {D : Ends} {σ : St} {H : Hp} (Pv : Nat → St → Hp → Prop) (h0 : Pv 0 σ H) (hl : ∀ i σ H, i ≤ xs.length → i ≤ ys.length → Pv i σ H → SqL K H a xs ∧ SqL K H b ys)
    (hs : ∀ i x y p σ H, xs[i]? = some x → ys[i]? = some y → H p = none → Pv i σ H → g (.ref p) σ (upd H p (.tup [x, y])) fun σ2 H2 => tb { D with nx := Pv (i + 1), ct := Pv (i + 1), bk := D.nx } σ2 H2) (hd : ∀ i σ H, i = min xs.length ys.length → Pv i σ H → D.nx σ H) :
    ∃ W : Nat → Nat → St → Hp → Prop, (∃ m, W 0 m σ H) ∧ ∀ i m σ H, W i m σ H →
      ((Itz K a b).stop i H ∧ D.nx σ H) ∨ ((Itz K a b).go i H ∧ ∃ N : St → Hp → Prop, (∀ σ' H', N σ' H' → ∃ m', m' < m ∧ W (i + 1) m' σ' H') ∧ ∀ x H', (Itz K a b).yld i H x H' → g x σ H' fun σ2 H2 => tb { D with nx := N, ct := N, bk := D.nx } σ2 H2) := by
  refine ⟨fun i m σ H => m = xs.length - i ∧ (i ≤ xs.length ∧ i ≤ ys.length) ∧ Pv i σ H, ⟨xs.length, by simp, ⟨Nat.zero_le _, Nat.zero_le _⟩, h0⟩, ?_⟩
  rintro i m σ H ⟨rfl, ⟨hi, hj⟩, p⟩
  obtain ⟨q1, q2⟩ := hl i σ H hi hj p
  by_cases hlt : i < xs.length ∧ i < ys.length
  · obtain ⟨h1, h2⟩ := hlt
    refine .inr ⟨⟨xs, ys, xs[i], ys[i], q1, q2, by simp [h1], by simp [h2]⟩, Pv (i + 1), fun σ' H' p' => ⟨xs.length - (i + 1), by omega, rfl, ⟨h1, h2⟩, p'⟩, fun v H' y => ?_⟩
    obtain ⟨r, x, y, hr, y1, y2, rfl, rfl⟩ := y
    exact hs i x y r σ _ (y1 xs q1) (y2 ys q2) hr p
  · exact .inl ⟨⟨xs, ys, q1, q2, by omega⟩, hd i σ H (by omega) p⟩
end L2

set_option Elab.async false
set_option linter.all false
set_option maxRecDepth 100000
namespace L2
open PySem PySem.Spec PyProof.Rows

section
variable {κ : Type} [DecidableEq κ]
def valV (kvs : List (κ × V)) (k : κ) : Option V := (kvs.find? fun kv => decide (kv.1 = k)).map (·.2)
def putK (kvs : List (κ × V)) (k : κ) (v : V) : List (κ × V) :=
  if (kvs.any fun kv => decide (kv.1 = k)) = true then kvs.map (fun kv => if kv.1 = k then (kv.1, v) else kv) else kvs ++ [(k, v)]
def dropK (kvs : List (κ × V)) (k : κ) : List (κ × V) := kvs.filter fun kv => decide (kv.1 ≠ k)

theorem valV_pos {p : κ × V} {r : List (κ × V)} {k : κ} (e : p.1 = k) : valV (p :: r) k = some p.2 := by simp [valV, List.find?_cons, e]
theorem valV_neg {p : κ × V} {r : List (κ × V)} {k : κ} (e : ¬ p.1 = k) : valV (p :: r) k = valV r k := by simp [valV, List.find?_cons, e]
theorem valV_any (k : κ) : ∀ kvs : List (κ × V), (kvs.any fun kv => decide (kv.1 = k)) = (valV kvs k).isSome
  | [] => rfl
  | p :: r => by
    rw [List.any_cons]
    by_cases e : p.1 = k
    · simp only [valV_pos e, decide_eq_true e, Bool.true_or, Option.isSome_some]
    · rw [valV_neg e, decide_eq_false e, Bool.false_or]; exact valV_any k r
theorem length_putK (kvs : List (κ × V)) (k : κ) (v : V) : (putK kvs k v).length ≤ kvs.length + 1 := by
  unfold putK
  split
  · rw [List.length_map]; omega
  · rw [List.length_append, List.length_cons, List.length_nil]; omega
theorem putK_new {kvs : List (κ × V)} {k : κ} (v : V) (h : valV kvs k = none) : putK kvs k v = kvs ++ [(k, v)] := by
  unfold putK
  rw [valV_any, h]
  exact if_neg (by decide)

theorem RelO.isSome_eq {o : Option V} {u : Option Value} (r : RelO o u) : o.isSome = u.isSome := by
  cases o with
  | none => cases u with
    | none => rfl
    | some _ => exact (show False from r).elim
  | some _ => cases u with
    | none => exact (show False from r).elim
    | some _ => rfl
theorem RelO.getD {o : Option V} {u : Option Value} {d : V} {d' : Value} (r : RelO o u) (rd : RelV d d') : RelV (o.getD d) (u.getD d') := by
  cases o with
  | none => cases u with
    | none => exact rd
    | some _ => exact (show False from r).elim
  | some _ => cases u with
    | none => exact (show False from r).elim
    | some _ => exact r

theorem KV.val {kvs : List (κ × V)} {vs : List (κ × Value)} (r : KV kvs vs) (k : κ) : RelO (valV kvs k) (valueAt vs k) := by
  unfold KV at r
  induction r with
  | nil => exact True.intro
  | @cons p q ps qs h t ih =>
    obtain ⟨h1, h2⟩ := h
    by_cases e : p.1 = k
    · have e' : q.1 = k := h1.symm.trans e
      have b : valueAt (q :: qs) k = some q.2 := by simp [valueAt, List.find?_cons, e']
      rw [valV_pos e, b]; exact h2
    · have e' : ¬ q.1 = k := fun z => e (h1.trans z)
      have b : valueAt (q :: qs) k = valueAt qs k := by simp [valueAt, List.find?_cons, e']
      rw [valV_neg e, b]; exact ih
theorem KV.any {kvs : List (κ × V)} {vs : List (κ × Value)} (r : KV kvs vs) (k : κ) : (kvs.any fun kv => decide (kv.1 = k)) = vs.any fun kv => decide (kv.1 = k) := by
  unfold KV at r
  induction r with
  | nil => rfl
  | cons h t ih => rw [List.any_cons, List.any_cons, ih, h.1]
theorem KV.repl {kvs : List (κ × V)} {vs : List (κ × Value)} (r : KV kvs vs) (k : κ) {y : V} {u : Value} (ry : RelV y u) :
    KV (kvs.map fun kv => if kv.1 = k then (kv.1, y) else kv) (vs.map fun kv => if kv.1 = k then (kv.1, u) else kv) := by
  unfold KV at r ⊢
  induction r with
  | nil => exact .nil
  | @cons p q ps qs h t ih =>
    rw [List.map_cons, List.map_cons]
    refine .cons ?_ ih
    obtain ⟨h1, h2⟩ := h
    by_cases e : p.1 = k
    · rw [if_pos e, if_pos (h1.symm.trans e)]; exact ⟨h1, ry⟩
    · rw [if_neg e, if_neg (fun z => e (h1.trans z))]; exact ⟨h1, h2⟩
theorem KV.put {kvs : List (κ × V)} {vs : List (κ × Value)} (r : KV kvs vs) (k : κ) {y : V} {u : Value} (ry : RelV y u) : KV (putK kvs k y) (stored vs k u) := by
  unfold putK stored
  rw [r.any k]
  by_cases e : (vs.any fun kv => decide (kv.1 = k)) = true
  · rw [if_pos e, if_pos e]; exact r.repl k ry
  · rw [if_neg e, if_neg e]; exact Paired.snoc r ⟨rfl, ry⟩
theorem KV.drop {kvs : List (κ × V)} {vs : List (κ × Value)} (r : KV kvs vs) (k : κ) : KV (dropK kvs k) (without vs k) := by
  unfold KV at r ⊢
  unfold dropK without
  induction r with
  | nil => exact .nil
  | @cons p q ps qs h t ih =>
    obtain ⟨h1, h2⟩ := h
    rw [List.filter_cons, List.filter_cons]
    by_cases e : p.1 = k
    · have a : ¬ decide (p.1 ≠ k) = true := by simp [e]
      have b : ¬ decide (q.1 ≠ k) = true := by simp [h1.symm.trans e]
      rw [if_neg a, if_neg b]; exact ih
    · have e' : ¬ q.1 = k := fun z => e (h1.trans z)
      have a : decide (p.1 ≠ k) = true := by simp [e]
      have b : decide (q.1 ≠ k) = true := by simp [e']
      rw [if_pos a, if_pos b]; exact .cons ⟨h1, h2⟩ ih
theorem KV.keys {kvs : List (κ × V)} {vs : List (κ × Value)} (r : KV kvs vs) : kvs.map (·.1) = vs.map (·.1) := by
  unfold KV at r
  induction r with
  | nil => rfl
  | cons h t ih => rw [List.map_cons, List.map_cons, ih, h.1]
theorem KV.length {kvs : List (κ × V)} {vs : List (κ × Value)} (r : KV kvs vs) : kvs.length = vs.length := Paired.length r
end


theorem kV_is {P : Program} {w : World} {k : Key} {u : Value} (r : RelV (kV k) u) : (mixKind P w).is k u = true := by
  cases k with
  | inl i => obtain ⟨t, e⟩ := (show ∃ t, u = Value.int i t from r); subst e; exact mixKind_int P w i t
  | inr x => obtain ⟨t, e⟩ := (show ∃ t, u = Value.str x t from r); subst e; exact mixKind_str P w x t
theorem items_are {P : Program} {w : World} : ∀ {ks : List Key} {us : List Value}, Vals (ks.map kV) us → ItemsAre (mixKind P w) ks us
  | [], _, r => by rw [List.map_nil] at r; cases r; exact .nil
  | k :: ks, _, r => by
    rw [List.map_cons] at r
    cases r with
    | cons h t => exact .cons (kV_is h) (items_are t)

abbrev KT (H : Hp) : List (List Key × V) → List (List Key × Addr × Value) → Prop := Paired fun p q => p.1 = q.1 ∧ H q.2.1 = some (.tup (p.1.map kV)) ∧ RelV p.2 q.2.2
theorem KT.val {H : Hp} {kvs : List (List Key × V)} {xs : List (List Key × Addr × Value)} (r : KT H kvs xs) (k : List Key) : RelO (valV kvs k) ((atKey xs k).map (·.2)) := by
  induction r with
  | nil => exact True.intro
  | @cons p q ps qs h t ih =>
    obtain ⟨h1, _, h2⟩ := h
    by_cases e : p.1 = k
    · have e' : q.1 = k := h1.symm.trans e
      have b : atKey (q :: qs) k = some q.2 := by simp [atKey, List.find?_cons, e']
      rw [valV_pos e, b]; exact h2
    · have e' : ¬ q.1 = k := fun z => e (h1.trans z)
      have b : atKey (q :: qs) k = atKey qs k := by simp [atKey, List.find?_cons, e']
      rw [valV_neg e, b]; exact ih
theorem KT.repl {H : Hp} {kvs : List (List Key × V)} {xs : List (List Key × Addr × Value)} (r : KT H kvs xs) (k : List Key) {y : V} {u : Value} (ry : RelV y u) :
    KT H (kvs.map fun kv => if kv.1 = k then (kv.1, y) else kv) (xs.map (putAt k u)) := by
  induction r with
  | nil => exact .nil
  | @cons p q ps qs h t ih =>
    rw [List.map_cons, List.map_cons]
    refine .cons ?_ ih
    obtain ⟨h1, h2, h3⟩ := h
    unfold putAt
    by_cases e : p.1 = k
    · rw [if_pos e, if_pos (h1.symm.trans e)]; exact ⟨h1, h2, ry⟩
    · rw [if_neg e, if_neg (fun z => e (h1.trans z))]; exact ⟨h1, h2, h3⟩
theorem KT.put {H : Hp} {kvs : List (List Key × V)} {xs : List (List Key × Addr × Value)} (r : KT H kvs xs) (k : List Key) {b : Addr} {y : V} {u : Value} (hb : H b = some (.tup (k.map kV))) (ry : RelV y u) :
    KT H (putK kvs k y) (storedH xs k b u) := by
  have e : (kvs.any fun kv => decide (kv.1 = k)) = (atKey xs k).isSome := by
    rw [valV_any, (r.val k).isSome_eq, Option.isSome_map]
  unfold putK storedH
  rw [e]
  by_cases q : (atKey xs k).isSome = true
  · rw [if_pos q, if_pos q]; exact r.repl k ry
  · rw [if_neg q, if_neg q]; exact Paired.snoc r ⟨rfl, hb, ry⟩
theorem KT.keeps {H H' : Hp} {kvs : List (List Key × V)} {xs : List (List Key × Addr × Value)} (r : KT H kvs xs) (ht : ∀ b ys, H b = some (.tup ys) → H' b = some (.tup ys)) : KT H' kvs xs :=
  Paired.mapP r fun _ _ z => ⟨z.1, ht _ _ z.2.1, z.2.2⟩

section
variable {P : Program} {w : World} {H : Hp} {h : Heap} {a : Addr}
theorem rd_of {u : HO} (ok : HOk P w H h) (e : Rd H a u) : ObjOk P w H h a u := e.ok ok
theorem dk_rd {kvs : List (Key × V)} (ok : HOk P w H h) (e : Rd H a (.dK kvs)) : kvs.length ≤ sizeLine ∧ (a == sysModules) = false ∧ ∃ vs, KV kvs vs ∧ h.DictOf (mixKind P w) a vs :=
  show ObjOk P w H h a (.dK kvs) from rd_of ok e
theorem dk_of {kvs : List (Key × V)} (ok : HOk P w H h) (e : H a = some (.dK kvs)) : kvs.length ≤ sizeLine ∧ (a == sysModules) = false ∧ ∃ vs, KV kvs vs ∧ h.DictOf (mixKind P w) a vs := dk_rd ok (.inl e)
theorem key_of {ks : List Key} (ok : HOk P w H h) (e : H a = some (.tup (ks.map kV))) : (tupleKind (mixKind P w)).is h ks a := by
  obtain ⟨_, its, r, o, h1, h2, n, h3⟩ := (show ObjOk P w H h a (.tup (ks.map kV)) from ok a _ e)
  exact ⟨o, its.toArray, n, h1, h2, h3, by simpa using items_are r⟩
theorem dt_rd {kvs : List (List Key × V)} (ok : HOk P w H h) (e : Rd H a (.dT kvs)) : kvs.length ≤ sizeLine ∧ (a == sysModules) = false ∧
    ∃ xs, KT H kvs xs ∧ h.DictOfH (tupleKind (mixKind P w)) a xs := by
  obtain ⟨z, y, xs, r, o, es, ep, h1, h2, h3, h4, h5⟩ := (show ObjOk P w H h a (.dT kvs) from rd_of ok e)
  refine ⟨z, y, xs, r, o, es, ep, h1, h2, h3, h4, fun x hx => ?_, h5⟩
  have all : ∀ {l : List (List Key × V)} {m : List (List Key × Addr × Value)}, KT H l m → ∀ x ∈ m, (tupleKind (mixKind P w)).is h x.1 x.2.1 := by
    intro l m q
    induction q with
    | nil => intro x hx; exact nomatch hx
    | @cons p q ps qs hq t ih =>
      intro x hx
      rcases List.mem_cons.mp hx with e | hx
      · subst e
        exact key_of ok (by rw [← hq.1]; exact hq.2.1)
      · exact ih x hx
  exact all r x hx
theorem dt_of {kvs : List (List Key × V)} (ok : HOk P w H h) (e : H a = some (.dT kvs)) : kvs.length ≤ sizeLine ∧ (a == sysModules) = false ∧
    ∃ xs, KT H kvs xs ∧ h.DictOfH (tupleKind (mixKind P w)) a xs := dt_rd ok (.inl e)
end

def DGet (H : Hp) (a : Addr) (y : V) (r : Option V) : Prop :=
  (∃ kvs k, Rd H a (.dK kvs) ∧ y = kV k ∧ r = valV kvs k) ∨ ∃ kvs k b, Rd H a (.dT kvs) ∧ y = .ref b ∧ H b = some (.tup (k.map kV)) ∧ r = valV kvs k
def DPut (H : Hp) (a : Addr) (y v : V) (H' : Hp) : Prop :=
  (∃ kvs k, H a = some (.dK kvs) ∧ y = kV k ∧ kvs.length < sizeLine ∧ H' = upd H a (.dK (putK kvs k v))) ∨
  ∃ kvs k b, H a = some (.dT kvs) ∧ y = .ref b ∧ H b = some (.tup (k.map kV)) ∧ kvs.length < sizeLine ∧ H' = upd H a (.dT (putK kvs k v))
theorem DGet.k {H : Hp} {a : Addr} {kvs : List (Key × V)} {k : Key} (e : H a = some (.dK kvs)) : DGet H a (kV k) (valV kvs k) := .inl ⟨kvs, k, .inl e, rfl, rfl⟩
theorem DGet.t {H : Hp} {a b : Addr} {kvs : List (List Key × V)} {k : List Key} (e : H a = some (.dT kvs)) (eb : H b = some (.tup (k.map kV))) : DGet H a (.ref b) (valV kvs k) := .inr ⟨kvs, k, b, .inl e, rfl, eb, rfl⟩
theorem DPut.k {H : Hp} {a : Addr} {kvs : List (Key × V)} {k : Key} {v : V} (e : H a = some (.dK kvs)) (hl : kvs.length < sizeLine) : DPut H a (kV k) v (upd H a (.dK (putK kvs k v))) := .inl ⟨kvs, k, e, rfl, hl, rfl⟩
theorem DPut.t {H : Hp} {a b : Addr} {kvs : List (List Key × V)} {k : List Key} {v : V} (e : H a = some (.dT kvs)) (eb : H b = some (.tup (k.map kV))) (hl : kvs.length < sizeLine) :
    DPut H a (.ref b) v (upd H a (.dT (putK kvs k v))) := .inr ⟨kvs, k, b, e, rfl, eb, hl, rfl⟩


section
variable {X : Cx} {pins : List (Addr × Obj)} {σ : St} {H : Hp} {s : Shared} {a : Addr} {y v : V} {u r : Value} {o : Option V} {A : Around} {E : Value → Shared → Prop}

theorem Inv.big (I : Inv X pins σ H s) : sysModules < s.heap.objs.size := by
  have h : mainGlobals < s.heap.objs.size := (I.mod.glob.keeps I.bk).lt
  exact Nat.lt_trans (by decide) h

theorem d_getItem {Q : Value → Shared → Prop} (hu : A.units + 1 < cLine) (I : Inv X pins σ H s) (g : DGet H a y (some v)) (ry : RelV y u) (h : ∀ w' s', Inv X pins σ H s' → RelV v w' → Q w' s') :
    wpAny (model X.prog X.w) A (getItem (.ref a) u) Q E s := by
  rcases g with ⟨kvs, k, e, ey, l⟩ | ⟨kvs, k, b, e, ey, eb, l⟩
  · subst ey
    obtain ⟨z, hd, vs, rel, dd⟩ := dk_rd I.hok e
    obtain ⟨w', hw, rw'⟩ := RelO.some_of (v := v) (o := valueAt vs k) (by rw [l]; exact rel.val k)
    exact wpAny_getItem_of (kV_is ry) dd.mapOf hw (h w' _ (I.tok _) rw')
  · subst ey
    cases (show u = Value.ref b from ry)
    obtain ⟨z, hd, xs, rel, dd⟩ := dt_rd I.hok e
    obtain ⟨w', hw, rw'⟩ := RelO.some_of (v := v) (o := (atKey xs k).map (·.2)) (by rw [l]; exact rel.val k)
    obtain ⟨p, hp, hp2⟩ := Option.map_eq_some_iff.mp hw
    refine wpAny_getItem_heap (tupleKind_room_in1 hu) (key_of I.hok eb) dd hp ?_
    rw [hp2]
    exact h w' _ (I.tok _) rw'
theorem d_in {Q : Value → Shared → Prop} (hu : A.units + 1 < cLine) (I : Inv X pins σ H s) (g : DGet H a y o) (ry : RelV y u) (h : ∀ s', Inv X pins σ H s' → Q (.bool o.isSome) s') :
    wpAny (model X.prog X.w) A (compareOp .In u (.ref a)) Q E s := by
  rcases g with ⟨kvs, k, e, ey, l⟩ | ⟨kvs, k, b, e, ey, eb, l⟩
  · subst ey
    obtain ⟨z, hd, vs, rel, dd⟩ := dk_rd I.hok e
    refine wpAny_in_of (kV_is ry) hd dd.mapOf ?_
    rw [← (rel.val k).isSome_eq, ← l]
    exact h _ (I.tok _)
  · subst ey
    cases (show u = Value.ref b from ry)
    obtain ⟨z, hd, xs, rel, dd⟩ := dt_rd I.hok e
    refine wpAny_in_heap (tupleKind_room_in1 hu) (key_of I.hok eb) hd dd ?_
    have q := (rel.val k).isSome_eq
    rw [Option.isSome_map] at q
    rw [← q, ← l]
    exact h _ (I.tok _)
theorem d_notIn {Q : Value → Shared → Prop} (hu : A.units + 1 < cLine) (I : Inv X pins σ H s) (g : DGet H a y o) (ry : RelV y u) (h : ∀ s', Inv X pins σ H s' → Q (.bool (!o.isSome)) s') :
    wpAny (model X.prog X.w) A (compareOp .NotIn u (.ref a)) Q E s := by
  rcases g with ⟨kvs, k, e, ey, l⟩ | ⟨kvs, k, b, e, ey, eb, l⟩
  · subst ey
    obtain ⟨z, hd, vs, rel, dd⟩ := dk_rd I.hok e
    refine wpAny_notIn_of (kV_is ry) hd dd.mapOf ?_
    rw [← (rel.val k).isSome_eq, ← l]
    exact h _ (I.tok _)
  · subst ey
    cases (show u = Value.ref b from ry)
    obtain ⟨z, hd, xs, rel, dd⟩ := dt_rd I.hok e
    refine wpAny_notIn_heap (tupleKind_room_in1 hu) (key_of I.hok eb) hd dd ?_
    have q := (rel.val k).isSome_eq
    rw [Option.isSome_map] at q
    rw [← q, ← l]
    exact h _ (I.tok _)
theorem d_write {h' : Heap} {t' : Nat} {ob : HO} (I : Inv X pins σ H s) (mu : Mut (H a)) (hs : Heap.SameBut a s.heap h') (he : ∃ q, h'.get? a = some q) (new : ObjOk X.prog X.w (upd H a ob) h' a ob) :
    Inv X pins σ (upd H a ob) { s with heap := h', toks := t' } :=
  I.write (x := a) (e := a) mu (.inl rfl) (fun b q hb z => (hs.2 b hb).trans z) he new
theorem dk_new {P : Program} {w : World} {H' : Hp} {h' : Heap} {kvs : List (Key × V)} {vs : List (Key × Value)} (z : kvs.length ≤ sizeLine) (hd : (a == sysModules) = false) (rel : KV kvs vs) (dd : h'.DictOf (mixKind P w) a vs) :
    ObjOk P w H' h' a (.dK kvs) := ⟨z, hd, vs, rel, dd⟩
theorem d_setItem {H' : Hp} {Q : Unit → Shared → Prop} (hu : A.units + 1 < cLine) (I : Inv X pins σ H s) (g : DPut H a y v H') (ry : RelV y u) (rv : RelV v r) (h : ∀ s', Inv X pins σ H' s' → Q () s') :
    wpAny (model X.prog X.w) A (setItem (.ref a) u r) Q E s := by
  rcases g with ⟨kvs, k, e, ey, l, eH⟩ | ⟨kvs, k, b, e, ey, eb, l, eH⟩
  · subst ey eH
    obtain ⟨z, hd, vs, rel, dd⟩ := dk_of I.hok e
    have hz : vs.length ≤ sizeLine := by rw [← rel.length]; exact z
    have hl : (putK kvs k v).length ≤ sizeLine := by have := length_putK kvs k v; omega
    refine wpAny_setItem_pairs (hsz := hz) (kV_is ry) dd fun h' dd' hs => h _ ?_
    have he : ∃ q, h'.get? a = some q := let ⟨q, _, _, hq, _⟩ := dd'; ⟨q, hq⟩
    exact d_write I (by rw [e]; exact True.intro) hs he (dk_new hl hd (rel.put k rv) dd')
  · subst ey eH
    cases (show u = Value.ref b from ry)
    obtain ⟨z, hd, xs, rel, dd⟩ := dt_of I.hok e
    have hz : xs.length ≤ sizeLine := by rw [← Paired.length rel]; exact z
    have hl : (putK kvs k v).length ≤ sizeLine := by have := length_putK kvs k v; omega
    refine wpAny_setItem_heap (hsz := hz) (tupleKind_room_in1 hu) (key_of I.hok eb) dd fun h' dd' hs => h _ ?_
    obtain ⟨q, es, ep, hq, h2, h3, h4, _, h5⟩ := dd'
    refine d_write I (by rw [e]; exact True.intro) hs ⟨q, hq⟩ ⟨hl, hd, _, (rel.put k eb rv).keeps fun c ys ec => ?_, q, es, ep, hq, h2, h3, h4, h5⟩
    rw [upd_ne (ne_of ec e (fun z => nomatch z))]
    exact ec
end

section
variable {X : Cx} {pins : List (Addr × Obj)} {σ : St} {H : Hp} {s : Shared} {a : Addr} {kvs : List (Key × V)} {k : Key} {u : Value} {A : Around} {E : Value → Shared → Prop}
theorem d_len {Q : Value → Shared → Prop} (I : Inv X pins σ H s) (e : Rd H a (.dK kvs)) (h : ∀ t s', Inv X pins σ H s' → Q (.int kvs.length t) s') : wpAny (model X.prog X.w) A (call (.builtin "len") [.ref a]) Q E s := by
  obtain ⟨z, hd, vs, rel, dd⟩ := dk_rd I.hok e
  refine call_len_dict hd dd (by rw [← rel.length]; rw [sizeLine_eq] at z; omega) ?_
  rw [← rel.length]
  exact h _ _ (I.tok _)
end


def NoSl (i : Expr) : Prop := ∀ ov iv, subscripted i false ov iv = operate [ov, iv] (getItem ov iv)
theorem subD_of {prog : Program} {w : World} {A : Around} {E : Value → Shared → Prop} {s : Shared} {env : Env} {value slice : Expr} {pos : Pos} {T id : String} {Q : Value → Shared → Prop}
    (hl : typeLookup (.type T) "__getitem__" = pure (some (.builtin id))) (hs : NoSl slice)
    (h : wpAny (model prog w) A (eval value env) (fun o s₁ => wpAny (model prog w) A (eval slice env) (fun i s₂ => s₂.TypeIs o T ∧ wpAny (model prog w) A (getItem o i) Q E s₂) E s₁) E s) :
    wpAny (model prog w) A (eval (.Subscript value slice pos) env) Q E s := by
  refine Subscript_ (wpAny_mono h (fun o s₁ h₁ => wpAny_mono h₁ (fun i s₂ h₂ => ?_) fun _ _ x => x) fun _ _ x => x)
  obtain ⟨hT, h₂⟩ := h₂
  unfold subscriptTail
  refine wpAny_bind ?_
  rw [getitemInPython_of_ne hT.not_modules]
  refine wpAny_bind (wpAny_specialOf hT hl ?_)
  have fin : wpAny (model prog w) A (subscripted slice false o i) (fun r s₃ => wpAny (model prog w) A (letTemporaryGo value o r >>= fun _ => pure r) Q E s₃) E s₂ := by
    rw [hs o i]
    exact wpAny_operating (wpAny_mono h₂ (fun r s₃ h₃ => wpAny_bind (wpAny_letTemporaryGo (wpAny_pure h₃))) fun _ _ x => x)
  first
    | exact wpAny_pure (wpAny_bind fin)
    | exact wpAny_bind (wpAny_pure (wpAny_bind fin))
    | exact wpAny_bind fin

theorem dict_typeIs {X : Cx} {pins : List (Addr × Obj)} {σ : St} {H : Hp} {s : Shared} {a : Addr} {y : V} {o : Option V} (I : Inv X pins σ H s) (g : DGet H a y o) : s.TypeIs (.ref a) "dict" := by
  rcases g with ⟨kvs, k, e, _, _⟩ | ⟨kvs, k, b, e, _, _, _⟩
  · obtain ⟨_, _, vs, _, dd⟩ := dk_rd I.hok e
    exact dd.typeIs
  · obtain ⟨_, _, xs, _, dd⟩ := dt_rd I.hok e
    exact dd.typeIs
def tDGet (td ty : TE) : TE := fun σ H Q => td σ H fun x H1 => ty σ H1 fun y H2 => ∃ a v, x = .ref a ∧ DGet H2 a y (some v) ∧ Q v H2
def tDIn (ty td : TE) : TE := fun σ H Q => ty σ H fun y H1 => td σ H1 fun x H2 => ∃ a o, x = .ref a ∧ DGet H2 a y o ∧ Q (.bl o.isSome) H2
def tDNotIn (ty td : TE) : TE := fun σ H Q => ty σ H fun y H1 => td σ H1 fun x H2 => ∃ a o, x = .ref a ∧ DGet H2 a y o ∧ Q (.bl (!o.isSome)) H2
def sDPut (td ty tv : TE) : TS := fun D σ H => tv σ H fun v H1 => td σ H1 fun x H2 => ty σ H2 fun y H3 => ∃ a H4, x = .ref a ∧ DPut H3 a y v H4 ∧ D.nx σ H4
section
variable {X : Cx} {o i e value : Expr} {pos pos' tpos : Pos} {td ty tv : TE}
theorem pe_dget (hu : X.A.units + 1 < cLine) (ho : PE X o td) (hi : PE X i ty) (hs : NoSl i) : PE X (.Subscript o i pos) (tDGet td ty) := by
  intro pins s σ H Q I h
  refine subD_of PySem.F.slot_dict_getitem.lookup hs (thn (ho pins s σ H _ I h) fun u s1 ⟨x, H1, I1, rx, q1⟩ => thn (hi pins s1 σ H1 _ I1 q1) fun iv s2 ⟨y, H2, I2, ry, a, v, ex, g, q2⟩ => ?_)
  subst ex
  obtain rfl : u = Value.ref a := rx
  exact ⟨dict_typeIs I2 g, d_getItem hu I2 g ry fun w' s3 I3 rw' => ⟨v, H2, I3, rw', q2⟩⟩
theorem pc_din (hu : X.A.units + 1 < cLine) (hi : PE X i ty) (ho : PE X o td) : PC X .In i o (tDIn ty td) := by
  intro pins s σ H Q I h
  refine thn (hi pins s σ H _ I h) fun iv s1 ⟨y, H1, I1, ry, q1⟩ => thn (ho pins s1 σ H1 _ I1 q1) fun u s2 ⟨x, H2, I2, rx, a, ov, ex, g, q2⟩ => ?_
  subst ex
  obtain rfl : u = Value.ref a := rx
  exact d_in hu I2 g ry fun s3 I3 => ⟨.bl ov.isSome, H2, I3, rfl, q2⟩
theorem pc_dnotin (hu : X.A.units + 1 < cLine) (hi : PE X i ty) (ho : PE X o td) : PC X .NotIn i o (tDNotIn ty td) := by
  intro pins s σ H Q I h
  refine thn (hi pins s σ H _ I h) fun iv s1 ⟨y, H1, I1, ry, q1⟩ => thn (ho pins s1 σ H1 _ I1 q1) fun u s2 ⟨x, H2, I2, rx, a, ov, ex, g, q2⟩ => ?_
  subst ex
  obtain rfl : u = Value.ref a := rx
  exact d_notIn hu I2 g ry fun s3 I3 => ⟨.bl (!ov.isSome), H2, I3, rfl, q2⟩
theorem ps_dput (hu : X.A.units + 1 < cLine) (ho : PE X o td) (hi : PE X i ty) (hv : PE X value tv) (hs : swapsWith value (some (.Subscript o i pos')) pos.line X.env = pure false) :
    PS X (.Assign [.Subscript o i pos'] value pos) (sDPut td ty tv) := by
  intro pins s σ H D I h
  refine wpAny_Assign_Subscript (thn (hv pins s σ H _ I h) fun r s1 ⟨v, H1, I1, rv, q1⟩ => thn (ho pins s1 σ H1 _ I1 q1) fun u s2 ⟨x, H2, I2, rx, q2⟩ => thn (hi pins s2 σ H2 _ I2 q2) fun iv s3 ⟨y, H3, I3, ry, a, H4, ex, g, q3⟩ => ?_) hs
  subst ex
  obtain rfl : u = Value.ref a := rx
  exact d_setItem hu I3 g ry rv fun s4 I4 => ⟨σ, H4, I4, q3⟩
end


theorem dt_empty {P : Program} {w : World} {H : Hp} (h : Heap) (hb : sysModules < h.objs.size) : ObjOk P w H (h.push { cls := .type "dict", data := .dict #[] }) h.objs.size (.dT []) :=
  ⟨Nat.zero_le _, beq_eq_false_iff_ne.mpr (Ne.symm (Nat.ne_of_lt hb)), [], .nil, _, #[], 0, Heap.get?_push_size _ rfl, ⟨rfl, rfl, rfl⟩, rfl, rfl, List.nodup_nil⟩
def tDNewT : TE := fun _ H Q => ∀ p, H p = none → Q (.ref p) (upd H p (.dT []))
section
variable {X : Cx} {pos : Pos}
theorem pe_dnewT : PE X (.Dict [] [] pos) tDNewT := fun pins s σ H Q I h =>
  wpAny_Dict_empty ⟨.ref s.heap.objs.size, _, I.laid (a := s.heap.objs.size) (o := .dT []) (t' := s.toks) (fun _ _ q => Heap.get?_push_of_some _ q) (Nat.le_refl _) (dt_empty s.heap I.big), rfl, h _ (I.hok.fresh (Nat.le_refl _))⟩
end

abbrev VV : List (V × V) → List (Value × Value) → Prop := Paired fun p q => RelV p.1 q.1 ∧ RelV p.2 q.2
structure M1 (X : Cx) (o : Expr) (m : Str) (apos : Pos) (e : Expr) (cpos : Pos) : Prop where
  base : attributeBase o m X.env (eval o X.env) = eval o X.env
  few : ((backTo cpos (starEach [e] X.env)).all (fun x => !x.1) && (backToKw cpos (keywordEach [] X.env)).all (fun x => x.1.isSome)
    && decide (([e] : List Expr).length + ([] : List Keyword).length + (if ([] : List Keyword).isEmpty then 0 else 1) < 30)) = true
  line : (apos.endLine == cpos.line) = true
  trees : backTo cpos (starEach [e] X.env) = [(false, eval e X.env)]
structure M2 (X : Cx) (o : Expr) (m : Str) (apos : Pos) (e f : Expr) (cpos : Pos) : Prop where
  base : attributeBase o m X.env (eval o X.env) = eval o X.env
  few : ((backTo cpos (starEach [e, f] X.env)).all (fun x => !x.1) && (backToKw cpos (keywordEach [] X.env)).all (fun x => x.1.isSome)
    && decide (([e, f] : List Expr).length + ([] : List Keyword).length + (if ([] : List Keyword).isEmpty then 0 else 1) < 30)) = true
  line : (apos.endLine == cpos.line) = true
  trees : backTo cpos (starEach [e, f] X.env) = [(false, eval e X.env), (false, eval f X.env)]

section
variable {X : Cx} {pins : List (Addr × Obj)} {σ : St} {H : Hp} {s : Shared} {a : Addr} {y d : V} {u r : Value} {o : Option V} {A : Around} {E : Value → Shared → Prop}
end

section
variable {X : Cx} {o e f : Expr} {apos cpos : Pos} {td ty tx : TE}
end

section
variable {X : Cx} {pins : List (Addr × Obj)} {σ : St} {H : Hp} {s : Shared} {a : Addr} {kvs : List (Key × V)} {A : Around} {E : Value → Shared → Prop}
end


section
variable {X : Cx} {pins : List (Addr × Obj)} {σ : St} {H : Hp} {s : Shared} {a : Addr} {y : V} {u : Value} {A : Around} {E : Value → Shared → Prop}
end
end L2

namespace L2
open PySem PySem.Spec PyProof.Rows
section
variable {X : Cx}
theorem call_lenD : CallR X (.builtin "len") (fun xs H Q => ∃ a kvs, xs = [V.ref a] ∧ H a = some (.dK kvs) ∧ Q (.int kvs.length) H) := by
  intro pins s σ H xs us Q I r h
  obtain ⟨a, kvs, rfl, ha, q⟩ := h
  obtain ⟨u, rfl, ru⟩ := vals1 r
  cases ru
  exact d_len I (.inl ha) fun t s' I' => ⟨.int kvs.length, H, I', ⟨t, rfl⟩, q⟩
end
section
variable {κ : Type} [DecidableEq κ]
end
end L2

set_option Elab.async false
set_option linter.all false
set_option maxRecDepth 100000
set_option maxHeartbeats 4000000
namespace L2
open PySem PySem.Spec PyProof.Rows

section
variable {prog : Program} {w : World} {A : Around} {E : Value → Shared → Prop} {s : Shared} {κ : Type} [DecidableEq κ] {knd : KeyKind prog w κ}
theorem extend_dict {R : Result → Shared → Prop} {d : Addr} {kvs : List (κ × Value)} {ep : Nat} (hh : A.handled = none) (hd : (d == sysModules) = false) (hm : s.heap.DictAt knd d kvs ep) (hlen : kvs.length ≤ sizeLine)
    (S : Addr) (hSd : S ≠ d) (res : Value) (c₀ : Nat) (hS : s.heap.get? S = some { cls := .type "list", data := .seq #[] c₀ })
    (hR : ∀ h' tk acc' c', (∀ b o, b ≠ S → s.heap.get? b = some o → h'.get? b = some o) → h'.get? S = some { cls := .type "list", dict := none, data := .seq acc' c', slots := #[] } →
      ItemsOf (fun i v => ∃ k x, kvs[i]? = some (k, x) ∧ knd.is k v = true) acc' kvs.length → R (.ok (.ret res)) { s with heap := h', toks := tk }) :
    wpAny (model prog w) A.in1 (Builtin.List.listExtendWith (.ref S) (.ref d) res)
      (fun fin s' => match fin with | .done f => R (.ok f) s' | .again c' => c'.quiet = true ∧ codeAny (model prog w) A c' R s') (fun e s' => R (.error e) s') s := by
  have hSlt : S < s.heap.objs.size := Heap.lt_size hS
  have hdlt : d < s.heap.objs.size := hm.lt_size
  have hSI : S ≠ s.heap.objs.size := Nat.ne_of_lt hSlt
  have hSf : S ∉ [s.heap.objs.size, d] := fun hmm => by
    rcases List.mem_cons.mp hmm with e | e
    · exact hSI e
    · exact hSd (List.mem_singleton.mp e)
  have W := (Walks.dictKeys (prog := prog) (w := w) (A := A.in1) (knd := knd) hh s.heap.objs.size d (Nat.ne_of_lt hdlt) kvs ep).toS
  have hT : s.TypeIs (.ref d) "dict" := hm.dictOf.typeIs
  unfold Builtin.List.listExtendWith
  refine wpAny_bind (wpAny_typeOf (T := "dict") hT ?_)
  have h1 : Builtin.List.listSameRef (.ref S) (.ref d) = false := by simp [Builtin.List.listSameRef, hSd]
  have h2 : (Value.type "dict" == Value.type "list") = false := by decide
  have h3 : (Value.type "dict" == Value.type "tuple") = false := by decide
  simp only [h1, h2, h3, Bool.or_false, Bool.false_eq_true, if_false]
  refine wpAny_bind (wpAny_pyIter_dict hd hm ?_)
  refine wpAny_bind (wpAny_holding ?_)
  have hm1 := hm.push { cls := .type "dict_keyiterator", data := .fields #[.ref d, .int 0 0, .int kvs.length 0, .int ep 0] }
  have hT1 : Shared.TypeIs { s with heap := s.heap.push { cls := .type "dict_keyiterator", data := .fields #[.ref d, .int 0 0, .int kvs.length 0, .int ep 0] } } (.ref d) "dict" := Heap.DictOf.typeIs (s := { s with heap := s.heap.push { cls := .type "dict_keyiterator", data := .fields #[.ref d, .int 0 0, .int kvs.length 0, .int ep 0] } }) hm1.dictOf
  unfold Builtin.List.listLengthHint
  refine wpAny_bind (wpAny_specialOf (T := "dict") hT1 F.slot_dict_len.lookup ?_)
  generalize hid : ("dict.__len__" : String) = id0
  wp_delta
  rw [show splitId id0 = some ("dict", "__len__") from by subst hid; decide +kernel]
  subst hid
  refine wpAny_bind (wpAny_isInstance (T := "dict") (b := true) hT1 (by rw [isSubtype_type]; kernel_rfl) ?_)
  refine wpAny_ite_split (fun hab => absurd hab (by decide)) (fun _ => ?_)
  refine wpAny_ite_split (fun _ => ?_) (fun hab => absurd (by decide +kernel) hab)
  refine wpAny_bind (wpAny_typeOf (T := "dict") hT1 ?_)
  refine wpAny_pure ?_
  rw [if_pos (by decide +kernel)]
  have hS₁ := Heap.get?_push_of_some { cls := .type "dict_keyiterator", data := .fields #[.ref d, .int 0 0, .int kvs.length 0, .int ep 0] } hS
  have it₁ : (s.heap.push { cls := .type "dict_keyiterator", data := .fields #[.ref d, .int 0 0, .int kvs.length 0, .int ep 0] }).get? s.heap.objs.size = some _ := Heap.get?_push_size _ rfl
  refine wpAny_bind (wpAny_rule ?_)
  refine wpAny_bind ?_
  show wpAny _ _ (updateSeq S (·.push .none) >>= fun _ => updateSeq S (·.pop)) _ _ _
  refine wpAny_bind (wpAny_updateSeq hS₁ rfl ?_)
  have hS₂ := Heap.get?_update_self (Obj.mapSeq (·.push Value.none)) hS₁ rfl
  refine wpAny_updateSeq (hz := by seq_fits) hS₂ rfl ?_
  have hS₃ := Heap.get?_update_self (Obj.mapSeq (·.pop)) hS₂ rfl
  have up : ∀ b o, b ≠ S → (s.heap.push { cls := .type "dict_keyiterator", data := .fields #[.ref d, .int 0 0, .int kvs.length 0, .int ep 0] }).get? b = some o → (((s.heap.push { cls := .type "dict_keyiterator", data := .fields #[.ref d, .int 0 0, .int kvs.length 0, .int ep 0] }).update S (Obj.mapSeq (·.push Value.none))).update S (Obj.mapSeq (·.pop))).get? b = some o :=
    fun b o hb e => (Heap.get?_update_other _ _ (Ne.symm hb)).trans ((Heap.get?_update_other _ _ (Ne.symm hb)).trans e)
  refine wpAny_pure ⟨plainId_quiet F.plain_extend_loop _, codeAny_extend_loopS W hlen _ hSf _ kvs.length 0 _ _ _ rfl (Nat.zero_le _) ⟨⟨_, up _ _ (Ne.symm hSI) it₁, rfl, rfl⟩, hm1.at' fun o e => up d o (Ne.symm hSd) e⟩ hS₃ (ItemsOf.nil _) fun s' acc' c' hmv hS' hacc => ?_⟩
  rw [Moved.eq_with hmv]
  refine hR s'.heap s'.toks acc' c' (fun b ob hb e => hmv.heap b ob (fun hmem => ?_) (up b ob hb (Heap.get?_push_of_some _ e))) hS' hacc
  rcases List.mem_cons.mp hmem with e' | hmem
  · exact hb e'
  · exact absurd (Heap.lt_size e) (by rw [List.mem_singleton.mp hmem]; exact Nat.lt_irrefl _)
theorem init_dict {R : Result → Shared → Prop} {d : Addr} {kvs : List (κ × Value)} {ep : Nat} (hh : A.handled = none) (hd : (d == sysModules) = false) (hm : s.heap.DictAt knd d kvs ep) (hlen : kvs.length ≤ sizeLine)
    (S : Addr) (hSd : S ≠ d) (hS : s.heap.get? S = some { cls := .type "list", data := .seq #[] })
    (hR : ∀ h' tk acc' c', (∀ b o, b ≠ S → s.heap.get? b = some o → h'.get? b = some o) → h'.get? S = some { cls := .type "list", dict := none, data := .seq acc' c', slots := #[] } →
      ItemsOf (fun i v => ∃ k x, kvs[i]? = some (k, x) ∧ knd.is k v = true) acc' kvs.length → R (.ok (.ret .none)) { s with heap := h', toks := tk }) :
    wpAny (model prog w) A.in1 (Builtin.«list.__init__» ⟨[.ref S, .ref d], []⟩)
      (fun fin s' => match fin with | .done f => R (.ok f) s' | .again c' => c'.quiet = true ∧ codeAny (model prog w) A c' R s') (fun e s' => R (.error e) s') s := by
  show wpAny _ _ (do let old ← Builtin.List.listItems (.ref S); Builtin.List.listUpdate (.ref S) (fun _ => #[]); letGo old.toList.reverse; Builtin.List.listExtendWith (.ref S) (.ref d) .none) _ _ s
  refine wpAny_bind ?_
  unfold Builtin.List.listItems
  refine wpAny_bind (wpAny_seqItems hS rfl (wpAny_pure ?_))
  show wpAny _ _ (updateSeq S (fun _ => #[]) >>= fun _ => letGo (#[] : Array Value).toList.reverse >>= fun _ => Builtin.List.listExtendWith (.ref S) (.ref d) .none) _ _ s
  refine wpAny_bind (wpAny_updateSeq hS rfl ?_)
  have hS₂ := Heap.get?_update_self (Obj.mapSeq (fun _ => (#[] : Array Value))) hS rfl
  have oth : ∀ b o, b ≠ S → s.heap.get? b = some o → (s.heap.update S (Obj.mapSeq (fun _ => (#[] : Array Value)))).get? b = some o :=
    fun b o hb e => (Heap.get?_update_other _ _ (Ne.symm hb)).trans e
  refine wpAny_bind (wpAny_letGo ?_)
  refine extend_dict (s := { s with heap := s.heap.update S (Obj.mapSeq (fun _ => (#[] : Array Value))) }) hh hd (hm.at' fun o e => oth d o (Ne.symm hSd) e) hlen S hSd .none _ hS₂ fun h' tk acc' c' hk hS' hacc => ?_
  exact hR h' tk acc' c' (fun b o hb e => hk b o hb (oth b o hb e)) hS' hacc
theorem callLD {d : Addr} {kvs : List (κ × Value)} {ep : Nat} {Q : Value → Shared → Prop} (hh : A.handled = none) (hd : (d == sysModules) = false) (hm : s.heap.DictAt knd d kvs ep) (hlen : kvs.length ≤ sizeLine)
    (hQ : ∀ h' tk acc' c', (∀ b o, s.heap.get? b = some o → h'.get? b = some o) →
      h'.get? s.heap.objs.size = some { cls := .type "list", dict := none, data := .seq acc' c', slots := #[] } → ItemsOf (fun i v => ∃ k x, kvs[i]? = some (k, x) ∧ knd.is k v = true) acc' kvs.length → Q (.ref s.heap.objs.size) { s with heap := h', toks := tk }) :
    wpAny (model prog w) A (call (.type "list") [.ref d]) Q E s := by
  refine callType_codes (Q₁ := fun obj s₁ => obj = .ref s.heap.objs.size ∧ s₁ = { s with heap := s.heap.push { cls := .type "list", data := .seq #[] } }) F.called_list (F.typeCall_list_1 _) F.entry_list_init
    (code_list_new _ ⟨rfl, rfl⟩) fun obj s₁ h₁ => ?_
  obtain ⟨rfl, rfl⟩ := h₁
  have hS : (s.heap.push { cls := .type "list", data := .seq #[] }).get? s.heap.objs.size = some { cls := .type "list", data := .seq #[] } := Heap.get?_push_size _ rfl
  refine ⟨⟨_, hS, rfl⟩, F.args_list_init_2 _ _, init_dict (s := { s with heap := s.heap.push { cls := .type "list", data := .seq #[] } }) (A := A.in1) hh hd (hm.push _) hlen _ (Nat.ne_of_gt hm.lt_size) hS fun h' tk acc' c' hk hS' hacc => ?_⟩
  exact ⟨rfl, hQ h' tk acc' c' (fun b o e => hk b o (Nat.ne_of_lt (Heap.lt_size e)) (Heap.get?_push_of_some _ e)) hS' hacc⟩
end
section
variable {X : Cx}
theorem keys_vals : ∀ {kvs : List (Key × V)} {vs : List (Key × Value)} {acc : List Value}, KV kvs vs → acc.length = vs.length → (∀ (j : Nat) (v : Value), acc[j]? = some v → ∃ (k : Key) (x : Value), vs[j]? = some (k, x) ∧ (mixKind X.prog X.w).is k v = true) → Vals (kvs.map fun kv => kV kv.1) acc
  | _, _, [], .nil, _, _ => .nil
  | _, _, [], .cons _ _, e, _ => by cases e
  | _, _, _ :: _, .nil, e, _ => by cases e
  | (k0, _) :: _, (k1, _) :: _, u :: us, .cons r t, e, h => by
    obtain ⟨rk, _⟩ := r
    obtain ⟨k, x, e0, i0⟩ := h 0 u rfl
    cases e0
    refine .cons ?_ (keys_vals t (Nat.succ.inj e) fun j v q => h (j + 1) v q)
    have rk' : k0 = k1 := rk
    subst rk'
    cases k0 with
    | inl i => exact Value.isInt_shape i0
    | inr z => exact Value.isStrOf_shape i0
theorem call_list_dict (hc : X.calm = true) : CallR X (.type "list") (fun xs H Q => ∃ d kvs, xs = [.ref d] ∧ H d = some (.dK kvs) ∧ ∀ l, H l = none → Q (.ref l) (upd H l (.lst (kvs.map fun kv => kV kv.1)))) := by
  intro pins s σ H xs us Q I r h
  obtain ⟨d, kvs, rfl, hd, q⟩ := h
  obtain ⟨u, rfl, rx⟩ := vals1 r
  cases rx
  obtain ⟨hl, hs, vs, kv, hD⟩ := I.hok d _ hd
  obtain ⟨ep, hA⟩ := hD.dictAt
  have hlen : vs.length = kvs.length := (Paired.length kv).symm
  refine callLD (I.ok.hd hc) hs hA (by omega) fun h' tk acc' c' kp e hacc => ?_
  obtain ⟨acc⟩ := acc'
  refine ⟨.ref s.heap.objs.size, _, I.laid (t' := tk) kp (Nat.le_refl _) (show ObjOk X.prog X.w _ h' _ (.lst (kvs.map fun kv => kV kv.1)) from ⟨by rw [List.length_map]; exact hl, acc, c', keys_vals (X := X) kv (by simpa using hacc.1) (fun j v q => hacc.2 j v (by simpa using q)), e⟩), rfl, q _ (I.hok.fresh (Nat.le_refl _))⟩
end
end L2

set_option Elab.async false
set_option linter.all false
set_option maxRecDepth 100000
set_option maxHeartbeats 4000000
namespace K1
open PySem L2

def wo (H : Hp) (l : Addr) : Hp := fun a => if a = l then none else H a
theorem wo_ne {H : Hp} {l a : Addr} (h : a ≠ l) : wo H l a = H a := if_neg h
theorem wo_same {H : Hp} {l : Addr} : Same (wo H l) H := fun a o e => by
  by_cases h : a = l
  · rw [wo, if_pos h] at e; cases e
  · rw [wo_ne h] at e; exact e
theorem wo_of {H : Hp} {l a : Addr} {o : HO} (e : wo H l a = some o) : a ≠ l ∧ H a = some o := by
  by_cases h : a = l
  · rw [wo, if_pos h] at e; cases e
  · rw [wo_ne h] at e; exact ⟨h, e⟩
theorem wo_mono {H H' : Hp} {l : Addr} (s : Same H H') : Same (wo H l) (wo H' l) := fun a o e => by
  obtain ⟨h, e⟩ := wo_of e
  rw [wo_ne h]; exact s _ _ e
theorem wo_upd {H : Hp} {l : Addr} {o : HO} : wo (upd H l o) l = wo H l := by
  funext a
  by_cases h : a = l
  · rw [wo, wo, if_pos h, if_pos h]
  · rw [wo_ne h, wo_ne h, upd_ne h]
theorem wo_at {H : Hp} {l a : Addr} {o : HO} (e : H a = some o) (h : a ≠ l) : wo H l a = some o := by rw [wo_ne h]; exact e
theorem same_put {H0 H : Hp} {l : Addr} (s : Same H0 H) (n : H0 l = none) (o : HO) : Same H0 (upd H l o) := fun a u e => by
  rw [upd_ne (ne_of_none e n)]; exact s _ _ e
theorem same_wo {H0 H : Hp} {l : Addr} (s : Same H0 H) (n : H0 l = none) : Same H0 (wo H l) := fun a u e => by
  rw [wo_ne (ne_of_none e n)]; exact s _ _ e
inductive Al {β α : Type} (R : β → α → Prop) : List β → List α → Prop where
  | nil : Al R [] []
  | cons {v : β} {x : α} {vs : List β} {xs : List α} : R v x → Al R vs xs → Al R (v :: vs) (x :: xs)
section
variable {β α : Type} {R R' : β → α → Prop}
theorem Al.length {vs : List β} {xs : List α} (h : Al R vs xs) : vs.length = xs.length := by
  induction h with
  | nil => rfl
  | cons _ _ ih => rw [List.length_cons, List.length_cons, ih]
theorem Al.imp {vs : List β} {xs : List α} (h : Al R vs xs) (f : ∀ v x, R v x → R' v x) : Al R' vs xs := by
  induction h with
  | nil => exact .nil
  | cons a _ ih => exact .cons (f _ _ a) ih
theorem Al.app {vs us : List β} {xs ys : List α} (h : Al R vs xs) (g : Al R us ys) : Al R (vs ++ us) (xs ++ ys) := by
  induction h with
  | nil => exact g
  | cons a _ ih => exact .cons a ih
theorem Al.snoc {vs : List β} {xs : List α} {v : β} {x : α} (h : Al R vs xs) (g : R v x) : Al R (vs ++ [v]) (xs ++ [x]) := h.app (.cons g .nil)
theorem Al.get {vs : List β} {xs : List α} (h : Al R vs xs) : ∀ {i : Nat} {v : β}, vs[i]? = some v → ∃ x, xs[i]? = some x ∧ R v x := by
  induction h with
  | nil => intro i v e; cases e
  | cons a _ ih =>
    intro i v e
    cases i with
    | zero => cases e; exact ⟨_, rfl, a⟩
    | succ i => exact ih e
theorem Al.take {vs : List β} {xs : List α} (h : Al R vs xs) : ∀ n, Al R (vs.take n) (xs.take n) := by
  induction h with
  | nil => intro n; rw [List.take_nil, List.take_nil]; exact .nil
  | cons a _ ih =>
    intro n
    cases n with
    | zero => exact .nil
    | succ n => exact .cons a (ih n)
theorem Al.drop {vs : List β} {xs : List α} (h : Al R vs xs) : ∀ n, Al R (vs.drop n) (xs.drop n) := by
  induction h with
  | nil => intro n; rw [List.drop_nil, List.drop_nil]; exact .nil
  | cons a b ih =>
    intro n
    cases n with
    | zero => exact .cons a b
    | succ n => exact ih n
theorem Al.nil_iff {vs : List β} {xs : List α} (h : Al R vs xs) : vs = [] ↔ xs = [] := by
  have := h.length
  constructor
  · intro e; rw [e] at this; exact List.eq_nil_of_length_eq_zero this.symm
  · intro e; rw [e] at this; exact List.eq_nil_of_length_eq_zero this
end
def NameOk (z : Str) : Prop := 1 ≤ z.length ∧ z.length ≤ 8 ∧ (∀ c ∈ z.cps.toList, 97 ≤ c ∧ c ≤ 122) ∧ z ≠ Str.ofString "nowhere"
theorem _root_.L2.Same.seqT {K : PySem.W.Frag} {H H' : Hp} {a : Addr} {xs : List V} (e : Same H H') (h : SqT K H a xs) : SqT K H' a xs := by
  rcases h with (h | ⟨o, h⟩) | h
  · exact .inl (.inl (e _ _ h))
  · exact .inl (.inr ⟨o, e _ _ h⟩)
  · exact .inr h
theorem bitAnd_nat (a b : Nat) : Builtin.bitAnd (a : Int) (b : Int) = ((a &&& b : Nat) : Int) := by
  unfold Builtin.bitAnd
  rw [decide_eq_true (show (0 : Int) ≤ (a : Int) by omega), decide_eq_true (show (0 : Int) ≤ (b : Int) by omega)]
  rfl
theorem bitNot_bitNot (x : Int) : Builtin.bitNot (Builtin.bitNot x) = x := by
  unfold Builtin.bitNot; omega
theorem bitOr_nat (a b : Nat) : Builtin.bitOr (a : Int) (b : Int) = ((a ||| b : Nat) : Int) := by
  unfold Builtin.bitOr Builtin.bitAnd
  rw [decide_eq_false (show ¬ (0 : Int) ≤ Builtin.bitNot (a : Int) by unfold Builtin.bitNot; omega), decide_eq_false (show ¬ (0 : Int) ≤ Builtin.bitNot (b : Int) by unfold Builtin.bitNot; omega)]
  show Builtin.bitNot (Builtin.bitNot _) = _
  rw [bitNot_bitNot, bitNot_bitNot, bitNot_bitNot]
  rfl
end K1

set_option Elab.async false
set_option linter.all false
namespace L2
open PySem PySem.Spec PyProof.Rows
section
variable {X : Cx} {a b : Expr} {rest : List Expr} {ta tb : TE} {pos : Pos}
end
end L2

set_option Elab.async false
set_option linter.all false
set_option maxRecDepth 100000
set_option maxHeartbeats 4000000
namespace L2
open PySem PySem.Spec PyProof.Rows K1

section
variable {prog : Program} {w : World} {A : Around} {E : Value → Shared → Prop} {s : Shared}
namespace F
end F
variable {κ : Type} [DecidableEq κ] {knd : KeyKind prog w κ}
end
section
variable {X : Cx}
end
end L2

set_option Elab.async false
set_option linter.all false
set_option maxRecDepth 100000
set_option maxHeartbeats 600000
namespace L2
open PySem PySem.Spec PyProof.Rows
theorem lam_run {P : Program} {w : World} {K : PySem.W.Frag} {mg : Str → Option Value} {base : Heap} {k : Nat} {f c' : Addr} {name qual : Str} {params : Arguments} {body : Expr} {scope : Scope} {pm ctv : Value} {N ps : List Str} (S : FnScope N ps scope)
    {A : Around} {outer : List Env} {s : Shared} {H : Hp} {us : List Value} {vs : List V} {Q : VK} {E : XK} {te : TE}
    (hr : Room (k + 1) A) (e0 : Env0 P w K mg base A outer s H) (ho : s.heap.get? f = some (PySem.W.kla_obj name qual params body scope [] pm c' ctv)) (hc : s.heap.CodeRec (.ref c') qual)
    (hb : bindArgs (PySem.W.kla_fn name qual params body scope [] pm (.ref c') ctv) ⟨us, []⟩ = pure (ps.zip us)) (r : Vals vs us) (hl : vs.length = ps.length)
    (he : PE (cxOf CX0 P w K mg base N qual scope f (.ref c') A outer s H E) body te) (hq : te (start N vs) H Q) :
    codeAny (model P w) A (.call (.ref f) ⟨us, []⟩) (CR CX0 outer P w H s Q E) s := by
  have lim : s.heap.NoLimit := e0.mod.nolimit.keeps fun b o e => (e0.bs b o e).1
  have hkind : ∀ y ∈ ps.zip us, scope.names.lookup y.1 = some .local ∨ (scope.names.lookup y.1 = some .cell ∧ ((cellsFrom (s.heap.objs.size + 1) scope.names []).lookup y.1).isSome = true) := fun ⟨n, v⟩ hy => by
    rcases S.par n (List.of_mem_zip hy).1 with q | q
    · exact .inl q
    · exact .inr ⟨q, PySem.W.cellsFrom_some _ _ _ (.inl q)⟩
  refine PySem.W.kla_callFunE hr.depth ho rfl S.co S.gen rfl hc ?_
  rw [hb]
  refine wpAny_pure ?_
  refine wpAny_newFunctionEnv_cells S.kind hkind fun env he' s1 x => ?_
  subst he'
  refine ⟨lim.keeps x.toInCall.keep, PySem.W.kla_codeExpr ?_⟩
  have I : Inv (cxOf CX0 P w K mg base N qual scope f (.ref c') A outer s H E) [] (start N vs) H s1 := inv_start S hr.hd e0 hl r x
  refine wpAny_mono (he [] s1 (start N vs) H _ I hq) (fun u s' hs => ?_) fun e s' hs => hs
  obtain ⟨v, H', J, rv, q⟩ := hs
  exact ⟨v, H', J.os, J.bare, J.base, J.hok, rv, q⟩

theorem Inv.one {X : Cx} {pins : List (Addr × Obj)} {σ : St} {H : Hp} {s : Shared} {h' : Heap} {t' : Nat} {b : Addr} (I : Inv X pins σ H s) (hf : FpOk X pins H b) (k : ∀ c o, c ≠ b → s.heap.get? c = some o → h'.get? c = some o) : Inv X pins σ H { s with heap := h', toks := t' } :=
  I.turned (t' := t') k hf.1 hf.2.1 hf.2.2.2.1 hf.2.2.2.2.1 hf.2.2.2.2.2
theorem minkey_loop {X : Cx} {pins : List (Addr × Obj)} {σ : St} {H : Hp} {xs : List V} {p f : Addr} (kf : Nat → Int) (hc : X.calm = true) (hq : SqL X.K H p xs) {I S : Addr} (hSI : S ≠ I) (hpI : p ≠ I) (fI : FpOk X pins H I) (fS : FpOk X pins H S)
    (turn : ∀ (i : Nat) (v : V), xs[i]? = some v → ∀ (u : Value) (pins' : List (Addr × Obj)) (s' : Shared), RelV v u → Inv X pins' σ H s' → wpAny (model X.prog X.w) X.A.in1 (call (.ref f) [u]) (EP X pins' σ fun r H' => r = .int (kf i) ∧ H' = H) (fun _ _ => False) s')
    {R : Result → Shared → Prop} (hR : ∀ (i : Nat) (v : V) (u : Value) (s' : Shared), xs[i]? = some v → RelV v u → (∀ j, j < xs.length → kf i ≤ kf j ∧ (j < i → kf i < kf j)) → Inv X pins σ H s' → R (.ok (.ret u)) s') :
    ∀ (r j i : Nat) (s : Shared) (vb : V) (ub : Value) (tb : Tok) (c : Nat), xs.length - (j + 1) = r → j + 1 ≤ xs.length → Inv X pins σ H s → s.heap.get? S = some (seqObj "list" #[ub, .int (kf i) tb] c) → s.heap.IsListIter I p (j + 1) → xs[i]? = some vb → RelV vb ub → i ≤ j →
      (∀ j', j' ≤ j → kf i ≤ kf j' ∧ (j' < i → kf i < kf j')) → codeAny (model X.prog X.w) X.A (.builtin "min.loop" ⟨[.ref I, .ref f, .ref S], []⟩) R s := by
  have hname : (toString "min" ++ toString ".loop" : String) = "min.loop" := by decide
  intro r
  induction r with
  | zero =>
    intro j i s vb ub tb c hr hj Iv hS hit hvb rvb hij hbest
    obtain ⟨its, rv, pl, hz⟩ := Iv.list hq
    have hlen := rv.length
    have hsz : its.toArray.size = xs.length := by rw [List.size_toArray, hlen]
    have W := Walks.list (prog := X.prog) (w := X.w) (A := X.A.in1) (Iv.ok.hd hc) I p hpI its.toArray
    refine codeAny_builtin PySem.F.entry_min_loop ?_
    rw [Around.under_plainId PySem.F.plain_min_loop _]
    show wpAny _ _ (seqItems? (.ref S) >>= _) _ _ _
    refine wpAny_bind (wpAny_seqItems hS rfl ?_)
    show wpAny _ _ (tryCatch (pyNext (.ref I)) _ >>= _) _ _ _
    refine wpAny_bind (wpAny_tryCatch (W.done _ _ _ ⟨by rw [hsz, show xs.length = j + 1 by omega]; exact hit, pl.isList⟩ fun h' tk' hk' => ?_))
    have I1 : Inv X pins σ H { s with heap := h', toks := tk' } := Iv.one fI fun c o hc e => hk' c o (by simpa using hc) e
    have hS' := hk' S _ (by simpa using hSI) hS
    have s1 := Heap.SameBut.update h' S (Obj.mapSeq fun _ => (#[] : Array Value))
    show wpAny _ _ (updateSeq S (fun _ => #[]) >>= _) _ _ _
    refine wpAny_bind ?_
    refine wpAny_updateSeq hS' rfl (wpAny_bind (wpAny_letGo (wpAny_pure ?_)))
    exact hR i vb ub _ hvb rvb (fun j' hj' => hbest j' (by omega)) (I1.one fS fun c o hc e => (s1.2 c hc).trans e)
  | succ r ih =>
    intro j i s vb ub tb c hr hj Iv hS hit hvb rvb hij hbest
    have hlt : j + 1 < xs.length := by omega
    obtain ⟨its, rv, pl, hz⟩ := Iv.list hq
    have hlen := rv.length
    have hsz : its.toArray.size = xs.length := by rw [List.size_toArray, hlen]
    have W := Walks.list (prog := X.prog) (w := X.w) (A := X.A.in1) (Iv.ok.hd hc) I p hpI its.toArray
    refine codeAny_builtin PySem.F.entry_min_loop ?_
    rw [Around.under_plainId PySem.F.plain_min_loop _]
    show wpAny _ _ (seqItems? (.ref S) >>= _) _ _ _
    refine wpAny_bind (wpAny_seqItems hS rfl ?_)
    show wpAny _ _ (tryCatch (pyNext (.ref I)) _ >>= _) _ _ _
    refine wpAny_bind (wpAny_tryCatch (W.item (j + 1) _ _ _ (by rw [hsz]; exact hlt) ⟨hit, pl.isList⟩ fun u h' tk' hP hst' hk' => ?_))
    have hu : its[j + 1]? = some u := by simpa using hP
    obtain ⟨x, ex⟩ : ∃ x, xs[j + 1]? = some x := ⟨_, List.getElem?_eq_getElem hlt⟩
    obtain ⟨u', eu', ru⟩ := rv.get ex
    rw [hu] at eu'
    obtain rfl := Option.some.inj eu'
    obtain ⟨oI', hoI', hoc, hod⟩ := id hst'.1
    have I1 : Inv X pins σ H { s with heap := h', toks := tk' } := Iv.one fI fun c o hc e => hk' c o (by simpa using hc) e
    have hS' := hk' S _ (by simpa using hSI) hS
    have I2 : Inv X (pins ++ [(S, seqObj "list" #[ub, .int (kf i) tb] c), (I, oI')]) σ H { s with heap := h', toks := tk' } := I1.pins_of fun q hq => by
      rcases List.mem_append.mp hq with hq | hq
      · exact I1.pin q (List.mem_append_right _ hq)
      · rcases List.mem_cons.mp hq with rfl | hq
        · exact ⟨hS', fS.1, fS.2.1, fS.2.2.1, fun v z => by cases z⟩
        · rw [List.mem_singleton.mp hq]
          exact ⟨hoI', fI.1, fI.2.1, fI.2.2.1, fun v z => by rw [hod] at z; cases z⟩
    show wpAny _ _ (tryCatch (holding [u] (call (.ref f) [u])) _ >>= _) _ _ _
    refine wpAny_bind (wpAny_tryCatch (wpAny_holding (wpAny_mono (turn (j + 1) x ex u _ _ ru I2) (fun y s2 he => ?_) fun _ _ hF => hF.elim)))
    obtain ⟨vy, H', J, ry, rfl, rfl⟩ := he
    obtain ⟨t2, rfl⟩ := ry
    have J1 := J.unpinned
    have hS2 := (J.pin (S, seqObj "list" #[ub, .int (kf i) tb] c) (List.mem_append_right _ (List.mem_append_right _ (.head _)))).1
    have hI2 := (J.pin (I, oI') (List.mem_append_right _ (List.mem_append_right _ (.tail _ (.head _))))).1
    have hit2 : s2.heap.IsListIter I p (j + 1 + 1) := ⟨oI', hI2, hoc, hod⟩
    show wpAny _ _ (tryCatch (holding [u, .int (kf (j + 1)) t2] (richCompare .Lt (.int (kf (j + 1)) t2) (.int (kf i) tb) >>= _)) _ >>= _) _ _ _
    refine wpAny_bind (wpAny_tryCatch (wpAny_holding (wpAny_bind (CmpOf.ints_lt (prog := X.prog) (w := X.w) (A := X.A.in1) (P := fun i v => ∃ t, v = .int (kf i) t) kf (fun i v h => h) (j + 1) i _ _ _ _ _ ⟨t2, rfl⟩ ⟨tb, rfl⟩ ?_))))
    refine wpAny_bind (wpAny_holding (wpAny_truthy_bool ?_))
    refine wpAny_bind (wpAny_letGo (wpAny_pure ?_))
    by_cases hb' : kf (j + 1) < kf i
    · have s1 := Heap.SameBut.update s2.heap S (Obj.mapSeq fun _ => #[u, .int (kf (j + 1)) t2])
      obtain ⟨c2, hc2⟩ : ∃ c2, (s2.heap.update S (Obj.mapSeq fun _ => #[u, .int (kf (j + 1)) t2])).get? S = some (seqObj "list" #[u, .int (kf (j + 1)) t2] c2) := ⟨_, get?_update_seq hS2 fun _ => #[u, .int (kf (j + 1)) t2]⟩
      simp only [hb', decide_true, if_true]
      refine wpAny_bind ?_
      refine wpAny_updateSeq hS2 rfl (wpAny_bind (wpAny_letGo ?_))
      rw [hname]
      refine wpAny_pure ⟨plainId_quiet PySem.F.plain_min_loop _, ih (j + 1) (j + 1) _ x u t2 c2 (by omega) hlt (J1.one fS fun c o hc e => (s1.2 c hc).trans e) hc2 ⟨oI', (s1.2 I hSI.symm).trans hI2, hoc, hod⟩ ex ru (Nat.le_refl _) fun j' hj' => ?_⟩
      by_cases e : j' = j + 1
      · subst e
        exact ⟨by omega, fun _ => by omega⟩
      · have := hbest j' (by omega)
        exact ⟨by omega, fun _ => by omega⟩
    · simp only [hb', decide_false, Bool.false_eq_true, if_false]
      refine wpAny_bind (wpAny_letGo ?_)
      rw [hname]
      refine wpAny_pure ⟨plainId_quiet PySem.F.plain_min_loop _, ih (j + 1) i _ vb ub tb c (by omega) hlt (J1.tok _) hS2 hit2 hvb rvb (by omega) fun j' hj' => ?_⟩
      by_cases e : j' = j + 1
      · subst e
        exact ⟨by omega, fun h => by omega⟩
      · exact hbest j' (by omega)
theorem call_minkey {X : Cx} {pins : List (Addr × Obj)} {s : Shared} {σ : St} {H : Hp} {Q : VK} {xs : List V} {p f : Addr} (kf : Nat → Int) (hc : X.calm = true) (Iv : Inv X pins σ H s) (hq : SqL X.K H p xs) (hne : 0 < xs.length)
    (turn : ∀ (i : Nat) (v : V), xs[i]? = some v → ∀ (u : Value) (pins' : List (Addr × Obj)) (s' : Shared), RelV v u → Inv X pins' σ H s' → wpAny (model X.prog X.w) X.A.in1 (call (.ref f) [u]) (EP X pins' σ fun r H' => r = .int (kf i) ∧ H' = H) (fun _ _ => False) s')
    (q : ∀ (i : Nat) (v : V), xs[i]? = some v → (∀ j, j < xs.length → kf i ≤ kf j ∧ (j < i → kf i < kf j)) → Q v H) :
    wpAny (model X.prog X.w) X.A (call (.builtin "min") [.ref p] [(Str.ofString "key", .ref f)]) (EP X pins σ Q) X.xe s := by
  have hname : (toString "min" ++ toString ".loop" : String) = "min.loop" := by decide
  obtain ⟨its, rv, pl, hz⟩ := Iv.list hq
  have hlen := rv.length
  have hsz : its.toArray.size = xs.length := by rw [List.size_toArray, hlen]
  obtain ⟨o, n, ho, _⟩ := id pl
  have hpl : p < s.heap.objs.size := Heap.lt_size ho
  refine kmk_tree PySem.F.kind_min PySem.F.plain_min PySem.F.entry_min (kmk_min_key _ _) ?_
  show wpAny _ X.A.in1 (Builtin.Builtins.bindParams "min" ["key", "default"] 0 ⟨[], [(Str.ofString "key", .ref f)]⟩ >>= _) _ _ s
  refine wpAny_bind (wpAny_of_eq (show Builtin.Builtins.bindParams "min" ["key", "default"] 0 ⟨[], [(Str.ofString "key", .ref f)]⟩ = pure [some (.ref f), none] from rfl) ?_)
  refine wpAny_bind (wpAny_pure ?_)
  refine wpAny_bind (wpAny_pyIter_list pl.isList ?_)
  refine wpAny_bind (wpAny_newList ?_ (Nat.zero_le _))
  rw [hname]
  have hS : (s.heap.push { cls := .type "list_iterator", data := .fields #[.ref p, .int 0 0] }).objs.size = s.heap.objs.size + 1 := size_push' ..
  generalize hSn : (s.heap.push { cls := .type "list_iterator", data := .fields #[.ref p, .int 0 0] }).objs.size = S at hS
  have hpI : p ≠ s.heap.objs.size := Nat.ne_of_lt hpl
  have hSI : S ≠ s.heap.objs.size := by omega
  have kp : ∀ b o, s.heap.get? b = some o → ((s.heap.push { cls := .type "list_iterator", data := .fields #[.ref p, .int 0 0] }).push (seqObj "list" #[] 0)).get? b = some o := fun b o e => Heap.get?_push_of_some _ (Heap.get?_push_of_some _ e)
  have gI : ((s.heap.push { cls := .type "list_iterator", data := .fields #[.ref p, .int 0 0] }).push (seqObj "list" #[] 0)).get? s.heap.objs.size = some { cls := .type "list_iterator", data := .fields #[.ref p, .int 0 0] } :=
    Heap.get?_push_of_some _ (Heap.get?_push_size _ rfl)
  have gS : ((s.heap.push { cls := .type "list_iterator", data := .fields #[.ref p, .int 0 0] }).push (seqObj "list" #[] 0)).get? S = some (seqObj "list" #[] 0) := by rw [← hSn]; exact Heap.get?_push_size _ rfl
  have nI : H s.heap.objs.size = none := Iv.hok.fresh (Nat.le_refl _)
  have nS : H S = none := Iv.hok.fresh (by omega)
  have fI : FpOk X pins H s.heap.objs.size := Iv.fpOk (Nat.le_refl _) nI
  have fS : FpOk X pins H S := Iv.fpOk (by omega) nS
  have I0 : Inv X pins σ H { s with heap := (s.heap.push { cls := .type "list_iterator", data := .fields #[.ref p, .int 0 0] }).push (seqObj "list" #[] 0) } := Iv.kept (t' := s.toks) kp
  generalize (s.heap.push { cls := .type "list_iterator", data := .fields #[.ref p, .int 0 0] }).push (seqObj "list" #[] 0) = h0 at gI gS I0 kp ⊢
  refine wpAny_pure ⟨plainId_quiet PySem.F.plain_min_loop _, ?_⟩
  obtain ⟨its, rv, pl, hz⟩ := I0.list hq
  have hlen := rv.length
  have hsz : its.toArray.size = xs.length := by rw [List.size_toArray, hlen]
  have W := Walks.list (prog := X.prog) (w := X.w) (A := X.A.in1) (Iv.ok.hd hc) s.heap.objs.size p hpI its.toArray
  refine codeAny_builtin PySem.F.entry_min_loop ?_
  rw [Around.under_plainId PySem.F.plain_min_loop _]
  show wpAny _ X.A.in1 (seqItems? (.ref _) >>= _) _ _ _
  refine wpAny_bind (wpAny_seqItems gS rfl ?_)
  show wpAny _ X.A.in1 (tryCatch (pyNext (.ref s.heap.objs.size)) _ >>= _) _ _ _
  refine wpAny_bind (wpAny_tryCatch (W.item 0 _ _ _ (by rw [hsz]; exact hne) ⟨⟨_, gI, rfl, rfl⟩, pl.isList⟩ fun u h' tk' hP hst' hk' => ?_))
  have hu : its[0]? = some u := by simpa using hP
  obtain ⟨x, ex⟩ : ∃ x, xs[0]? = some x := ⟨_, List.getElem?_eq_getElem hne⟩
  obtain ⟨u', eu', ru⟩ := rv.get ex
  rw [hu] at eu'
  obtain rfl := Option.some.inj eu'
  obtain ⟨oI', hoI', hoc, hod⟩ := id hst'.1
  have I1 : Inv X pins σ H { s with heap := h', toks := tk' } := I0.one fI fun c o hc e => hk' c o (by simpa using hc) e
  have hS' := hk' S _ (by simpa using hSI) gS
  have I2 : Inv X (pins ++ [(S, seqObj "list" #[] 0), (s.heap.objs.size, oI')]) σ H { s with heap := h', toks := tk' } := I1.pins_of fun q hq => by
    rcases List.mem_append.mp hq with hq | hq
    · exact I1.pin q (List.mem_append_right _ hq)
    · rcases List.mem_cons.mp hq with rfl | hq
      · exact ⟨hS', fS.1, fS.2.1, fS.2.2.1, fun v z => by cases z⟩
      · rw [List.mem_singleton.mp hq]
        exact ⟨hoI', fI.1, fI.2.1, fI.2.2.1, fun v z => by rw [hod] at z; cases z⟩
  show wpAny _ X.A.in1 (tryCatch (holding [u] (call (.ref f) [u])) _ >>= _) _ _ _
  refine wpAny_bind (wpAny_tryCatch (wpAny_holding (wpAny_mono (turn 0 x ex u _ _ ru I2) (fun y s2 he => ?_) fun _ _ hF => hF.elim)))
  obtain ⟨vy, H', J, ry, rfl, rfl⟩ := he
  obtain ⟨t2, rfl⟩ := ry
  have J1 := J.unpinned
  have hS2 := (J.pin (S, seqObj "list" #[] 0) (List.mem_append_right _ (List.mem_append_right _ (.head _)))).1
  have hI2 := (J.pin (s.heap.objs.size, oI') (List.mem_append_right _ (List.mem_append_right _ (.tail _ (.head _))))).1
  have s1 := Heap.SameBut.update s2.heap S (Obj.mapSeq fun _ => #[u, .int (kf 0) t2])
  obtain ⟨c2, hc2⟩ : ∃ c2, (s2.heap.update S (Obj.mapSeq fun _ => #[u, .int (kf 0) t2])).get? S = some (seqObj "list" #[u, .int (kf 0) t2] c2) := ⟨_, get?_update_seq hS2 fun _ => #[u, .int (kf 0) t2]⟩
  show wpAny _ X.A.in1 (updateSeq S (fun _ => #[u, .int (kf 0) t2]) >>= _) _ _ _
  refine wpAny_bind ?_
  refine wpAny_updateSeq hS2 rfl ?_
  rw [hname]
  refine wpAny_pure ⟨plainId_quiet PySem.F.plain_min_loop _, minkey_loop kf hc hq hSI hpI fI fS turn (fun i v u s' e r b I' => ⟨v, H', I', r, q i v e b⟩) _ 0 0 _ x u t2 c2 rfl hne (J1.one fS fun c o hc e => (s1.2 c hc).trans e) hc2 ⟨oI', (s1.2 _ hSI.symm).trans hI2, hoc, hod⟩ ex ru (Nat.le_refl _) fun j' hj' => ?_⟩
  obtain rfl : j' = 0 := by omega
  exact ⟨by omega, fun h => absurd h (Nat.lt_irrefl _)⟩
end L2

set_option Elab.async false
set_option linter.all false
set_option maxRecDepth 100000
set_option maxHeartbeats 600000
namespace L2
open PySem PySem.Spec PyProof.Rows
def codeO (c' : Addr) (qual : Str) : HO := .ext fun h => h.CodeRec (.ref c') qual
def lamO (f : Addr) (qual : Str) (params : Arguments) (body : Expr) (scope : Scope) (pm : Value) (c' : Addr) (ctv : Value) : HO := .ext fun h => h.get? f = some (PySem.W.kla_obj "<lambda>" qual params body scope [] pm c' ctv)
def BM (mg : Str → Option Value) (base : Heap) : Prop := ∃ bm ob, mg "__builtins__" = some (.ref bm) ∧ bm ≠ builtinsNs ∧ bm ≠ mainGlobals ∧ base.get? bm = some ob ∧ ob.cls = .type "module" ∧ ob.dict = some builtinsNs ∧ ob.data = .plain
theorem code_ok {P : Program} {w : World} {H : Hp} {h : Heap} {c' : Addr} {qual : Str} (hr : h.CodeRec (.ref c') qual) : ObjOk P w H h c' (codeO c' qual) := by
  refine ⟨hr, ?_, fun h1 h2 q k => ?_⟩
  · obtain ⟨c2, oc, vs, t, e, hoc, _⟩ := hr
    cases e
    exact ⟨oc, hoc⟩
  · obtain ⟨c2, oc, vs, t, e, hoc, hd, hq⟩ := q
    cases e
    exact ⟨_, oc, vs, t, rfl, k _ hoc, hd, hq⟩
theorem lam_ok {P : Program} {w : World} {H : Hp} {h : Heap} {f c' : Addr} {qual : Str} {params : Arguments} {body : Expr} {scope : Scope} {pm ctv : Value} (e : h.get? f = some (PySem.W.kla_obj "<lambda>" qual params body scope [] pm c' ctv)) : ObjOk P w H h f (lamO f qual params body scope pm c' ctv) :=
  ⟨e, ⟨_, e⟩, fun _ _ q k => k _ q⟩
def tLam (P : Addr) (mg : Str → Option Value) (qual : Str) (params : Arguments) (body : Expr) (scope : Scope) (pos : Pos) : TE := fun _ H Q => ∃ ps : Array Value, H P = some (.tbl ps) ∧ TriplesOk ps.toList ∧
  ((codeAmong pos ps.toList = none ∧ ∀ f c' ctv, H f = none → H c' = none → f ≠ c' → Q (.ref f) (upd (upd (upd H P (.tbl (ps ++ #[rawInt pos.line, rawInt pos.col, .ref c']))) c' (codeO c' qual)) f (lamO f qual params body scope ((mg "__name__").getD .none) c' ctv))) ∨
   ∃ c', codeAmong pos ps.toList = some (.ref c') ∧ ∀ f ctv, H f = none → Q (.ref f) (upd H f (lamO f qual params body scope ((mg "__name__").getD .none) c' ctv)))
theorem pe_lam {X : Cx} {params : Arguments} {body : Expr} {scope : Scope} {pos : Pos} {c P : Addr} (hcode : X.env.code = .ref c) (C : PySem.W.CodeHd X.base c P) (hbm : BM X.mg X.base) (hcl : closureFor scope X.env = pure []) (hdef : defaultsOf params X.env = ([], [])) :
    PE X (.Lambda params body scope pos) (tLam P X.mg (X.env.qual ++ "<lambda>") params body scope pos) := by
  intro pins s σ H Q I h
  obtain ⟨ps, hP, ht, h⟩ := h
  have gP : s.heap.get? P = some (PySem.W.tabObj ps) := I.hok P _ hP
  have base_ne : ∀ {b o}, X.base.get? b = some o → b ≠ P := fun e z => by
    have := (I.bs _ _ e).2
    rw [z, hP] at this
    cases this
  have hgP : mainGlobals ≠ P := by
    obtain ⟨o, es, ep, e, _⟩ := I.mod.glob
    exact base_ne e
  obtain ⟨bm, ob, b1, b2, b3, b4, b5, b6, b7⟩ := hbm
  have hb : s.heap.BuiltinsAt X.mg P := ⟨bm, ob, b1, b2, b3, base_ne b4, I.bk _ _ b4, b5, b6, b7⟩
  refine PySem.W.kla_eval hdef ?_
  rcases h with ⟨hn, q⟩ | ⟨c', hf, q⟩
  · refine PySem.W.kla_makeFunction (mg := X.mg) hcl I.ok.glob (I.mod.glob.keeps I.bk) hcode (C.keeps I.bk) gP ht hn hgP hb fun c' ctv h' tk hx hge hlt hrec htb => ?_
    have nc : H c' = none := I.hok.fresh hge
    have hPs : P < s.heap.objs.size := Heap.lt_size gP
    have cP : c' ≠ P := Nat.ne_of_gt (Nat.lt_of_lt_of_le hPs hge)
    have at1 : ∀ {b o}, H b = some o → (∀ qs, o ≠ .tbl qs) → upd (upd H P (.tbl (ps ++ #[rawInt pos.line, rawInt pos.col, .ref c']))) c' (codeO c' (X.env.qual ++ "<lambda>")) b = some o := fun e n => by
      rw [upd_ne (ne_of_none e nc), upd_ne (ne_of e hP (n _))]; exact e
    have I1 : Inv X pins σ (upd (upd H P (.tbl (ps ++ #[rawInt pos.line, rawInt pos.col, .ref c']))) c' (codeO c' (X.env.qual ++ "<lambda>"))) { s with heap := h', gens := s.gens, drawn := s.drawn, toks := tk } := by
      refine I.step (ch := []) (fun _ z => nomatch z) (fun b o _ _ _ e n => hx b o (fun z => by rw [z, hP] at n; cases n) e) (fun b o _ _ _ e n => ⟨o.slots, hx b o (fun z => by rw [z, hP] at n; cases n) e⟩) (fun b o _ e n => ?_) (fun b o _ e => ?_) (fun b xs e => at1 e fun _ z => by cases z) (fun b o u e => at1 e fun _ z => by cases z) (fun b qs e => ?_) (fun m hn => hn.extBut hx fun z => ?_) (fun b u e => ?_) I.bare
      · rw [upd_ne (Nat.ne_of_lt (Nat.lt_of_lt_of_le (Heap.lt_size e) hge)), upd_ne fun z => by rw [z, hP] at n; cases n]
        exact n
      · by_cases z : b = P
        · exact ⟨_, by rw [z]; exact htb⟩
        · exact ⟨o, hx b o z e⟩
      · by_cases z : b = P
        · subst z
          rw [hP] at e
          obtain rfl : ps = qs := by injection e with e; injection e
          exact ⟨#[rawInt pos.line, rawInt pos.col, .ref c'], by rw [upd_ne cP.symm, upd_same]⟩
        · exact ⟨#[], by rw [upd_ne (ne_of_none e nc), upd_ne z, e]; simp⟩
      · have := I.free
        rw [z, hP] at this
        cases this
      · by_cases z : b = c'
        · subst z
          rw [upd_same] at e
          obtain rfl := Option.some.inj e
          exact code_ok hrec
        · rw [upd_ne z] at e
          by_cases z2 : b = P
          · subst z2
            rw [upd_same] at e
            obtain rfl := Option.some.inj e
            exact htb
          · rw [upd_ne z2] at e
            refine (I.hok b u e).stay (fun b' u' hb' e' => hx b' u' (fun zz => ?_) e') (fun b' e' => at1 e' fun _ z => by cases z) (fun b' xs e' => at1 e' fun _ z => by cases z)
            rcases hb' with rfl | hb'
            · exact z2 zz
            · rw [zz, hP] at hb'; cases hb'
    have I2 := I1.laid (a := h'.objs.size) (o := lamO h'.objs.size (X.env.qual ++ "<lambda>") params body scope ((X.mg "__name__").getD .none) c' ctv) (t' := tk) (h' := h'.push (PySem.W.kla_obj "<lambda>" (X.env.qual ++ "<lambda>") params body scope [] ((X.mg "__name__").getD .none) c' ctv)) (fun b u e => Heap.get?_push_of_some _ e) (Nat.le_refl _) (lam_ok (Heap.get?_push_size _ rfl))
    have nf : H h'.objs.size = none := I.hok.fresh (Nat.le_trans hge (Nat.le_of_lt hlt))
    exact ⟨.ref _, _, I2, rfl, q _ c' ctv nf nc (Nat.ne_of_gt hlt)⟩
  · refine PySem.W.kla_makeFunctionHit (mg := X.mg) hcl I.ok.glob (I.mod.glob.keeps I.bk) hcode (C.keeps I.bk) gP ht hf hb fun ctv h' tk hk hsz => ?_
    have I2 := I.laid (a := h'.objs.size) (o := lamO h'.objs.size (X.env.qual ++ "<lambda>") params body scope ((X.mg "__name__").getD .none) c' ctv) (t' := tk) (h' := h'.push (PySem.W.kla_obj "<lambda>" (X.env.qual ++ "<lambda>") params body scope [] ((X.mg "__name__").getD .none) c' ctv)) (fun b u e => Heap.get?_push_of_some _ (hk b u e)) hsz (lam_ok (Heap.get?_push_size _ rfl))
    exact ⟨.ref _, _, I2, rfl, q _ ctv (I.hok.fresh hsz)⟩
def tMinKey (K : PySem.W.Frag) (N : List Str) (qual : Str) (params : Arguments) (body : Expr) (scope : Scope) (te : TE) (t tk : TA) : TE := fun σ H Q => t σ H fun vs H1 => tk σ H1 fun zs H2 => ∃ (p f c' : Addr) (pm ctv : Value) (xs : List V) (kf : Nat → Int), vs = [.ref p] ∧ zs = [.ref f] ∧ SqL K H2 p xs ∧ 0 < xs.length ∧
  H2 f = some (lamO f qual params body scope pm c' ctv) ∧ H2 c' = some (codeO c' qual) ∧ (∀ (i : Nat) (v : V), xs[i]? = some v → te (start N [v]) H2 fun r H' => r = .int (kf i) ∧ H' = H2) ∧ ∀ (i : Nat) (v : V), xs[i]? = some v → (∀ j, j < xs.length → kf i ≤ kf j ∧ (j < i → kf i < kf j)) → Q v H2
theorem pe_minkey {X : Cx} {e : Expr} {es : List Expr} {kws : List Keyword} {t tk : TA} {p pos : Pos} {k : Nat} {x : Str} {N : List Str} {qual : Str} {params : Arguments} {body : Expr} {scope : Scope} {te : TE} (hc : X.calm = true) (hg : Gl X "min") (hm : X.mg "min" = none) (hv : bootBuiltins "min" = some (.builtin "min"))
    (hr : Room (k + 2) X.A) (S : FnScope N [x] scope) (hb : ∀ (pm : Value) (c' : Addr) (ctv u : Value), bindArgs (PySem.W.kla_fn "<lambda>" qual params body scope [] pm (.ref c') ctv) ⟨[u], []⟩ = pure [(x, u)])
    (hbody : ∀ (f c' : Addr) (A : Around) (outer : List Env) (s : Shared) (H : Hp), Room k (A.deeper (envOfC qual scope s.heap.objs.size f (.ref c'))) → PE (cxOf CX0 X.prog X.w X.K X.mg X.base N qual scope f (.ref c') A outer s H E0) body te)
    (ha : PA X (e :: es) t) (hkw : PK X kws tk) (hall : (backToKw pos (keywordEach kws X.env)).all (·.1.isSome) = true := by rfl) (hks : (backToKw pos (keywordEach kws X.env)).filterMap (·.1) = [Str.ofString "key"] := by rfl)
    (he : starEach (e :: es) X.env = (false, eval e X.env) :: starEach es X.env := by rfl)
    (hpl : (backTo pos (starEach (e :: es) X.env)).any (·.1) = false := by rfl) (hpk : (backToKw pos (keywordEach kws X.env)).any (·.1.isNone) = false := by rfl) :
    PE X (.Call (.Name "min" p) (e :: es) kws pos) (tMinKey X.K N qual params body scope te t tk) := by
  intro pins s σ H Q I h
  refine wpAny_Call_Name_kw (ld_blt I hg hm hv ?_ (by decide) (by decide))
  refine callWith_builtin_kwB hpl hpk (evalArgs_kw2 hall (thn (ha pos pins s σ H _ I h) fun us s1 ⟨vs, H1, I1, r, q⟩ => ?_) he)
  refine thn (hkw pos pins s1 σ H1 _ I1 q) fun ws s2 ⟨zs, H2, I2, rz, q2⟩ => ?_
  rw [hks]
  obtain ⟨l, f, c', pm, ctv, xs, kf, rfl, rfl, hq, hne, hf, hcd, turn, q3⟩ := q2
  obtain ⟨u, rfl, rx⟩ := vals1 r
  cases rx
  obtain ⟨u, rfl, rx⟩ := vals1 rz
  cases rx
  refine call_minkey kf hc I2 hq hne (fun i v ev u pins' s' ru I' => ?_) q3
  have ho := (I'.hok f _ hf).1
  have hcr := (I'.hok c' _ hcd).1
  have e0 : Env0 X.prog X.w X.K X.mg X.base X.A.in1 X.stack s' H2 := { I'.env0 with frames := I'.env0.frames }
  refine wpAny_call (codeAny_mono (lam_run (E := E0) S hr.in1 e0 ho hcr (hb _ _ _ _) (.cons ru .nil) rfl (hbody f c' X.A.in1 X.stack s' H2 (hr.in1.deeper _)) (turn i v ev)) fun r s3 hq3 => ?_)
  cases r with
  | error e => exact False.elim hq3
  | ok fl =>
    cases fl with
    | ret u => exact I'.after hq3
    | next => exact False.elim hq3
    | brk => exact False.elim hq3
    | cont => exact False.elim hq3
def lamAt (b : List Stmt) (i : Nat) : Arguments × Expr × Scope × Pos := match b[i]? with
  | some (.Assign _ (.Call _ _ (kw :: _) _) _) => match kw.value with
    | .Lambda a e sc p => (a, e, sc, p)
    | _ => (⟨[], [], none, [], [], none, []⟩, .Name "" ⟨0, 0, 0, 0⟩, ⟨.function, [], false, false, []⟩, ⟨0, 0, 0, 0⟩)
  | _ => (⟨[], [], none, [], [], none, []⟩, .Name "" ⟨0, 0, 0, 0⟩, ⟨.function, [], false, false, []⟩, ⟨0, 0, 0, 0⟩)
end L2

set_option Elab.async false
set_option linter.all false
set_option maxRecDepth 100000
set_option maxHeartbeats 1000000
namespace L2
open PySem PySem.Spec PyProof.Rows
theorem law_callT {P : Program} {w : World} {K : PySem.W.Frag} {mg mb : Str → Option Value} {CX : CXT} {k : Nat} {fa a c T : Addr} {fd : FuncData} {x : Str} {sp : Sp} {s₁ : Shared} {vs : List Value} {ns : List Int}
    (KX : K.In s₁.heap) (hns : s₁.heap.Ns mainGlobals mg) (hb : s₁.heap.Ns builtinsNs mb) (hbb : ∀ x : Str, x ≠ "__name__" → mb x = bootBuiltins x) (hlim : s₁.heap.NoLimit) (hg : s₁.gens = #[])
    (ha : s₁.heap.get? a = some { cls := .type "list", data := .seq vs.toArray }) (hi : IntsAre vs ns) (hl : ns.length ≤ sizeLine) (hr : Room k callerA)
    (C : PySem.W.CodeHd s₁.heap c T) (hT : s₁.heap.get? T = some (PySem.W.tabObj #[])) (hKT : K.lookup T = none) (hbm : BM mg s₁.heap)
    (F : ∀ base : Heap, K.In base → base.Ns mainGlobals mg → PySem.W.CodeHd base c T → BM mg base → FnOk P w K mg base CX k fa fd [x] sp) (hbind : ∀ (s : Shared) (u : Value), BindsTo s fd ⟨[u], []⟩ [(x, u)])
    (hsp : ∀ H : Hp, H T = some (.tbl #[]) → SqL K H a (ns.map V.int) → sp [.ref a] H (fun v _ => v = .bl true) fun _ _ _ => False)
    (hCX : ∀ H e s', CX [] H s₁ (fun _ _ _ => False) e s' → False) :
    codeAny (model P w) callerA (.call (.ref fa) ⟨[.ref a], []⟩) (fun r s' => r = .ok (.ret (.bool true)) ∧ OldK s₁.heap s'.heap ∧ s'.os = s₁.os ∧ AllBare s'.gens) s₁ := by
  have rv := vals_ints hi
  have lenV := hi.length
  have aT : a ≠ T := fun z => by rw [z, hT] at ha; cases ha
  have core : ∀ H : Hp, (∀ b, H b = none ∨ (b = T ∧ H b = some (.tbl #[])) ∨ ∃ o xs, H b = some (.frz o (.lst xs))) → H T = some (.tbl #[]) → SqL K H a (ns.map V.int) → HOk P w H s₁.heap → (∀ b, H b ≠ none → b = a ∨ b = T) → (H a ≠ none → K.lookup a = none) →
      codeAny (model P w) callerA (.call (.ref fa) ⟨[.ref a], []⟩) (fun r s' => r = .ok (.ret (.bool true)) ∧ OldK s₁.heap s'.heap ∧ s'.os = s₁.os ∧ AllBare s'.gens) s₁ := by
    intro H hO hHT hS hok hA hK
    have base_of : ∀ {b : Addr} {o : Obj}, s₁.heap.get? b = some o → H b = none → (hidT s₁.heap H).get? b = some o := fun e n => hidT_get e n
    have noC : ∀ {b : Addr} {o : Obj}, s₁.heap.get? b = some o → o.cls ≠ .type "list" → o.cls ≠ .none → H b = none := fun {b o} e n1 n2 => by
      cases q : H b with
      | none => rfl
      | some u =>
        rcases hA b (by rw [q]; simp) with rfl | rfl
        · rw [ha] at e; cases e; exact absurd rfl n1
        · rw [hT] at e; cases e; exact absurd rfl n2
    have noA : ∀ {b : Addr} {o : Obj} {es : Array DictEntry} {ep : Nat}, s₁.heap.get? b = some o → o.data = .dict es ep → H b = none := fun {b o es ep} e d => by
      cases q : H b with
      | none => rfl
      | some u =>
        rcases hA b (by rw [q]; simp) with rfl | rfl
        · rw [ha] at e; cases e
          have d' : Data.seq vs.toArray _ = Data.dict es ep := d
          cases d'
        · rw [hT] at e; cases e; cases d
    have nsK : ∀ {b : Addr} {m : Str → Option Value}, s₁.heap.Ns b m → (hidT s₁.heap H).Ns b m := fun {b m} ⟨o, es, ep, e, d, r⟩ => ⟨o, es, ep, base_of e (noA e d), d, r⟩
    have hKb : K.In (hidT s₁.heap H) := fun b o e => base_of (KX b o e) (by
      cases q : H b with
      | none => rfl
      | some u =>
        rcases hA b (by rw [q]; simp) with rfl | rfl
        · rw [hK (by rw [q]; simp)] at e; cases e
        · rw [hKT] at e; cases e)
    have hCb : PySem.W.CodeHd (hidT s₁.heap H) c T := by
      obtain ⟨o, ws, file, tf, flags, tg, inF, text, tt, e, hc, r⟩ := C
      exact ⟨o, ws, file, tf, flags, tg, inF, text, tt, base_of e (noC e (by rw [hc]; exact fun z => absurd (Value.type.inj z) (by decide)) (by rw [hc]; intro z; cases z)), hc, r⟩
    have hBb : BM mg (hidT s₁.heap H) := by
      obtain ⟨bm, ob, b1, b2, b3, b4, b5, b6⟩ := hbm
      exact ⟨bm, ob, b1, b2, b3, base_of b4 (noC b4 (by rw [b5]; exact fun z => absurd (Value.type.inj z) (by decide)) (by rw [b5]; intro z; cases z)), b5, b6⟩
    have hM : Mod K mg (hidT s₁.heap H) := ⟨hKb, nsK hns, ⟨mb, nsK hb, hbb⟩, let ⟨mc, h1, h2⟩ := hlim; ⟨mc, nsK h1, h2⟩⟩
    have e0 : Env0 P w K mg (hidT s₁.heap H) callerA [] s₁ H := ⟨rfl, hM, fun b o e => of_hidT e, Nat.le_of_eq (hidT_size _ _), trivial, fun b hb => absurd (show b ∈ ([] : List Addr) from hb) (by simp), hok, .of_eq hg⟩
    refine codeAny_mono ((F _ hKb (nsK hns) hCb hBb).run callerA [] s₁ H ⟨[.ref a], []⟩ [.ref a] [.ref a] _ _ hr e0 (hbind s₁ (.ref a)) (.cons rfl .nil) (hsp H hHT hS)) fun r s' h => ?_
    cases r with
    | error e => exact (hCX H e s' h).elim
    | ok fl =>
      cases fl with
      | next => exact False.elim h
      | brk => exact False.elim h
      | cont => exact False.elim h
      | ret u =>
        obtain ⟨v, H', os, bare, un, hok', r', q⟩ := h
        have q' : v = .bl true := q
        subst q'
        obtain rfl : u = Value.bool true := r'
        have keep : ∀ b o, b ≠ T → s₁.heap.get? b = some o → s'.heap.get? b = some o := fun b o nT e => by
          cases q : H b with
          | none => exact un.keep b o e q (by intro z; exact absurd (show b ∈ ([] : List Addr) from z) (by simp)) (by simp)
          | some u =>
            rcases hO b with z | ⟨z, _⟩ | ⟨ob, xs, z⟩
            · rw [q] at z; cases z
            · exact absurd z nT
            · have z2 := un.frzs b ob _ z
              obtain ⟨e1, _⟩ := hok b _ z
              obtain ⟨e2, _⟩ := hok' b _ z2
              rw [e] at e1; cases e1
              exact e2
        obtain ⟨more, hm⟩ := un.tbls T _ hHT
        have gT : s'.heap.get? T = some { cls := .none, data := .fields (#[] ++ more) } := hok' T _ hm
        refine ⟨rfl, ⟨fun b o e => ?_, fun b o e => ?_⟩, os, bare⟩
        · by_cases z : b = T
          · subst z
            rw [hT] at e
            obtain rfl := Option.some.inj e
            exact .inr (.inl ⟨(C.tab hT).isCodeTable, rfl, #[], more, rfl, gT⟩)
          · exact .inl (keep b o z e)
        · by_cases z : b = T
          · subst z; exact ⟨_, gT⟩
          · exact ⟨o, keep b o z e⟩
  cases hk : K.lookup a with
  | some o =>
    have e := KX a o hk
    rw [ha] at e
    cases e
    refine core (fun b => if b = T then some (.tbl #[]) else none) (fun b => ?_) (if_pos rfl) (.inr ⟨_, vs.toArray, _, hk, rfl, rfl, rfl, by rw [List.size_toArray, lenV]; exact hl, by simpa using rv⟩) (fun b u z => ?_) (fun b z => ?_) fun z => absurd (if_neg aT) z
    · by_cases hb : b = T
      · exact .inr (.inl ⟨hb, if_pos hb⟩)
      · exact .inl (if_neg hb)
    · by_cases hb : b = T
      · have z' := (if_pos hb).symm.trans z
        cases z'
        subst hb
        exact hT
      · have z' := (if_neg hb).symm.trans z
        cases z'
    · by_cases hb : b = T
      · exact .inr hb
      · exact absurd (if_neg hb) z
  | none =>
    have at1 : ∀ b, b ≠ T → b ≠ a → (fun b => if b = T then some (HO.tbl #[]) else if b = a then some (.frz { cls := .type "list", data := .seq vs.toArray } (.lst (ns.map V.int))) else none) b = none := fun b h1 h2 => by
      show (if b = T then _ else if b = a then _ else _) = none
      rw [if_neg h1, if_neg h2]
    have at2 : (fun b => if b = T then some (HO.tbl #[]) else if b = a then some (.frz { cls := .type "list", data := .seq vs.toArray } (.lst (ns.map V.int))) else none) a = some (.frz { cls := .type "list", data := .seq vs.toArray } (.lst (ns.map V.int))) := by
      show (if a = T then _ else if a = a then _ else _) = _
      rw [if_neg aT, if_pos rfl]
    refine core (fun b => if b = T then some (.tbl #[]) else if b = a then some (.frz { cls := .type "list", data := .seq vs.toArray } (.lst (ns.map V.int))) else none) (fun b => ?_) (if_pos rfl) (.inl (.inr ⟨{ cls := .type "list", data := .seq vs.toArray }, at2⟩)) (fun b u z => ?_) (fun b z => ?_) fun _ => hk
    · by_cases h1 : b = T
      · exact .inr (.inl ⟨h1, if_pos h1⟩)
      · by_cases h2 : b = a
        · subst h2; exact .inr (.inr ⟨_, _, at2⟩)
        · exact .inl (at1 b h1 h2)
    · by_cases h1 : b = T
      · have z' := (if_pos h1).symm.trans z
        cases z'
        subst h1
        exact hT
      · by_cases h2 : b = a
        · subst h2
          have z' := at2.symm.trans z
          cases z'
          exact ⟨ha, by rw [List.length_map]; exact hl, vs, _, rv, ha⟩
        · have z' := (at1 b h1 h2).symm.trans z
          cases z'
    · by_cases h1 : b = T
      · exact .inr h1
      · by_cases h2 : b = a
        · exact .inl h2
        · exact absurd (at1 b h1 h2) z
theorem walk_ofT {l : PySem.W.OpenLaw} {n k : Nat} {q : Program} {loose : List Str} {XP : (Str → Option Value) → Heap → Prop} {YP : World → Heap → Prop} {d : DefRec} {K : Params → PySem.W.Frag} {CX : CXT} {sp : PySem.W.Frag → Addr → Sp} {x x2 : Str}
    (hn : l.most = some n) (hn2 : n ≤ sizeLine) (hdf : d.params.defaults = []) (hr : Room k callerA)
    (hY : ∀ (w : World) (h : Heap), YP w h → (K w.params).In h) (hr2 : ((recsOf q).find? (fun e => e.name == x2)).isSome = true)
    (F : ∀ (w : World) (mg : Str → Option Value) (fa : Addr) (h : Heap), (K w.params).In h → h.Ns mainGlobals mg → mg d.name = some (.ref fa) →
      ∃ c T : Addr, PySem.W.tabIn (K w.params) x2 = some (c, T) ∧ (K w.params).lookup T = none ∧ ∃ fd : FuncData, (∀ (s : Shared) (u : Value), BindsTo s fd ⟨[u], []⟩ [(x, u)]) ∧
        ∀ base : Heap, (K w.params).In base → base.Ns mainGlobals mg → PySem.W.CodeHd base c T → BM mg base → FnOk l.prog w (K w.params) mg base CX k fa fd [x] (sp (K w.params) T))
    (hsp : ∀ (K : PySem.W.Frag) (T : Addr) (H : Hp) (a : Addr) (ns : List Int), ns.length ≤ n → H T = some (.tbl #[]) → SqL K H a (ns.map V.int) → sp K T [.ref a] H (fun v _ => v = .bl true) fun _ _ _ => False)
    (hCX : ∀ (H : Hp) (s : Shared) (e : Value) (s' : Shared), CX [] H s (fun _ _ _ => False) e s' → False) :
    PySem.W.WalkO q loose XP YP l.row.toRowW d [] (fun f vs => PySem.call f vs) := by
  refine Att.attach_call hn hdf fun w s₀ s₁ mg mb fa o pm cd doc a vs ns G Y ho hd hcd hmg hobj hints hlen hg => ?_
  have KX := hY w _ Y
  obtain ⟨c, T, ht, hT, fd, hb, hF⟩ := F w mg fa _ KX G.T.g hmg
  obtain ⟨d2, hr2⟩ := Option.isSome_iff_exists.mp hr2
  obtain ⟨C, hT0⟩ := PySem.W.tab_of G.T KX hr2 ht
  obtain ⟨bm, ob, b1, b2, b3, b4, b5, b6⟩ := G.T.bmain
  have hbG : bm ≠ mainGlobals := fun z => by
    obtain ⟨o', es, ep, e, hd', _⟩ := G.T.g
    rw [z, e] at b3; cases b3; rw [hd'] at b6; cases b6
  exact law_callT KX G.T.g G.T.b G.T.builtins G.T.nolimit hg hobj hints (Nat.le_trans hlen hn2) hr C hT0 hT ⟨bm, ob, b1, b2, hbG, b3, b4, b5, b6⟩ hF hb (fun H hH hS => hsp _ T H a ns hlen hH hS) fun H e s' => hCX H s₁ e s'
theorem Fun.okC {P : Program} {w : World} {K : PySem.W.Frag} {mg : Str → Option Value} {base : Heap} {x qual : Str} {st : Stmt} {f : Addr} {fd : FuncData} {N ps : List Str} {k : Nat} {sp : Sp} (F : Fun K x qual st f fd) (S : FnScope N ps (defScope st)) (len : ∀ vs H Q E, sp vs H Q E → vs.length = ps.length)
    (hbody : ∀ (cdv : Value) (A : Around) (outer : List Env) (s : Shared) (H : Hp) (vs : List V) (Q : VK) (E : XK), fd.code = cdv → Room k (A.deeper (envOfC qual (defScope st) s.heap.objs.size f cdv)) → sp vs H Q E →
      ∃ t, PSs (cxOf CX0 P w K mg base N qual (defScope st) f cdv A outer s H E).nox (defBody st) t ∧ t { nx := fun _ H' => Q .non H', rt := Q } (start N vs) H) : FnOk P w K mg base CX0 (k + 1) f fd ps sp := by
  obtain ⟨oc, od, kV, doc, pm, an, cdv, ct, osl, rfl, lk, hcd⟩ := F.ex
  refine fn_of lk hcd S len fun A outer s H vs Q E hr hsp => ?_
  obtain ⟨t, h, q⟩ := hbody cdv A outer s H vs Q E rfl hr hsp
  exact ⟨t, h.nox, q⟩
theorem tabIn_of {K : PySem.W.Frag} {x : Str} {f c T : Addr} {oc lo : Value} {od lod : Option Addr} {fd : FuncData} {sl lsl : Array (Option Value)} {lvs : Array Value} (ea : PySem.W.nsIn K mainGlobals x = some (some (.ref f))) (el : K.lookup f = some ⟨oc, od, .func fd, sl⟩) (ec : fd.code = .ref c) (eo : K.lookup c = some ⟨lo, lod, .fields lvs, lsl⟩) (ev : lvs[11]? = some (.ref T)) : PySem.W.tabIn K x = some (c, T) := by
  unfold PySem.W.tabIn
  rw [ea]
  dsimp only
  rw [el]
  dsimp only
  rw [ec]
  dsimp only
  rw [eo]
  dsimp only
  rw [ev]
end L2

set_option Elab.async false
set_option linter.all false
set_option maxRecDepth 100000
set_option maxHeartbeats 1000000
namespace K1
open PySem L2
def TabLam (lt : Addr) (pos : Pos) (q : Str) (H : Hp) : Prop := H lt = some (.tbl #[]) ∨ ∃ c', H lt = some (.tbl #[rawInt pos.line, rawInt pos.col, .ref c']) ∧ H c' = some (codeO c' q)
theorem TabLam.same {lt : Addr} {pos : Pos} {q : Str} {H H' : Hp} (s : Same H H') (h : TabLam lt pos q H) : TabLam lt pos q H' := by
  rcases h with h | ⟨c', h, hc⟩
  · exact .inl (s _ _ h)
  · exact .inr ⟨c', s _ _ h, s _ _ hc⟩
theorem TabLam.at {lt : Addr} {pos : Pos} {q : Str} {H : Hp} (h : TabLam lt pos q H) : ∃ ps, H lt = some (.tbl ps) := by
  rcases h with h | ⟨c', h, hc⟩
  · exact ⟨_, h⟩
  · exact ⟨_, h⟩
theorem tlam_of {lt : Addr} {mg : Str → Option Value} {q : Str} {params : Arguments} {body : Expr} {scope : Scope} {pos : Pos} {σ : St} {H : Hp} {Q : VK} (h : TabLam lt pos q H)
    (k : ∀ (f c' : Addr) (ctv : Value) (H' : Hp), Same (wo H lt) H' → TabLam lt pos q H' → H' f = some (lamO f q params body scope ((mg "__name__").getD .none) c' ctv) → H' c' = some (codeO c' q) → Q (.ref f) H') : tLam lt mg q params body scope pos σ H Q := by
  rcases h with h | ⟨c', h, hc⟩
  · refine ⟨#[], h, trivial, .inl ⟨rfl, fun f c' ctv hf hc' ne => ?_⟩⟩
    have nf : lt ≠ f := ne_of_none h hf
    have nc : lt ≠ c' := ne_of_none h hc'
    have ec : (upd (upd (upd H lt (.tbl (#[] ++ #[rawInt pos.line, rawInt pos.col, .ref c']))) c' (codeO c' q)) f (lamO f q params body scope ((mg "__name__").getD .none) c' ctv)) c' = some (codeO c' q) := by
      rw [upd_ne (Ne.symm ne), upd_same]
    refine k f c' ctv _ (fun a o e => ?_) (.inr ⟨c', ?_, ec⟩) upd_same ec
    · obtain ⟨n, e⟩ := wo_of e
      rw [upd_ne (ne_of_none e hf), upd_ne (ne_of_none e hc'), upd_ne n]; exact e
    · rw [upd_ne nf, upd_ne nc, upd_same]; rfl
  · refine ⟨_, h, trivial, .inr ⟨c', ?_, fun f ctv hf => ?_⟩⟩
    · show codeAmong pos [rawInt pos.line, rawInt pos.col, .ref c'] = some (.ref c')
      simp [codeAmong, rawInt]
    · have s := same_new hf (lamO f q params body scope ((mg "__name__").getD .none) c' ctv)
      exact k f c' ctv _ (wo_same.trans s) (.inr ⟨c', s _ _ h, s _ _ hc⟩) upd_same (s _ _ hc)
theorem TabLam.put {lt a : Addr} {pos : Pos} {q : Str} {H : Hp} {xs : List V} {o : HO} (h : TabLam lt pos q H) (e : H a = some (.lst xs)) : TabLam lt pos q (upd H a o) := by
  rcases h with h | ⟨c', h, hc⟩
  · exact .inl (by rw [upd_ne fun z => by rw [z, e] at h; cases h]; exact h)
  · exact .inr ⟨c', by rw [upd_ne fun z => by rw [z, e] at h; cases h]; exact h, by rw [upd_ne fun z => by rw [z, e] at hc; cases hc]; exact hc⟩
theorem wo_tab {H : Hp} {lt a : Addr} {o : HO} {ps : Array Value} (h : H lt = some (.tbl ps)) (e : H a = some o) (n : ∀ ps, o ≠ .tbl ps) : wo H lt a = some o :=
  wo_at e fun z => by rw [z, h] at e; exact n ps (Option.some.inj e).symm
theorem sqT_wo {K : PySem.W.Frag} {H : Hp} {lt a : Addr} {xs : List V} {ps : Array Value} (h : H lt = some (.tbl ps)) (e : SqT K H a xs) : SqT K (wo H lt) a xs := by
  rcases e with (e | ⟨o, e⟩) | e
  · exact .inl (.inl (wo_tab h e fun _ z => by cases z))
  · exact .inl (.inr ⟨o, wo_tab h e fun _ z => by cases z⟩)
  · exact .inr e
theorem sqL_wo {K : PySem.W.Frag} {H : Hp} {lt a : Addr} {xs : List V} {ps : Array Value} (h : H lt = some (.tbl ps)) (e : SqL K H a xs) : SqL K (wo H lt) a xs := by
  rcases e with (e | ⟨o, e⟩) | e
  · exact .inl (.inl (wo_tab h e fun _ z => by cases z))
  · exact .inl (.inr ⟨o, wo_tab h e fun _ z => by cases z⟩)
  · exact .inr e
end K1

set_option Elab.async false
set_option linter.all false
set_option maxRecDepth 100000
set_option maxHeartbeats 1000000
namespace L2
open PySem PySem.Spec PyProof.Rows PySem.W
def EntAt (h : Heap) (d : Addr) (es : Array DictEntry) (ep : Nat) : Prop := ∃ o, h.get? d = some o ∧ o.ExactDict ∧ o.data = .dict es ep
theorem EntAt.typeIs {s : Shared} {d : Addr} {es : Array DictEntry} {ep : Nat} (x : EntAt s.heap d es ep) : s.TypeIs (.ref d) "dict" := let ⟨o, ho, hc, _⟩ := x; ⟨o, ho, hc.1⟩
theorem EntAt.at {h h' : Heap} {d : Addr} {es : Array DictEntry} {ep : Nat} (x : EntAt h d es ep) (k : ∀ o, h.get? d = some o → h'.get? d = some o) : EntAt h' d es ep := let ⟨o, ho, r⟩ := x; ⟨o, k o ho, r⟩
theorem EntAt.lt {h : Heap} {d : Addr} {es : Array DictEntry} {ep : Nat} (x : EntAt h d es ep) : d < h.objs.size := let ⟨_, ho, _⟩ := x; Heap.lt_size ho
section
variable {prog : Program} {w : World} {A : Around} {E : Value → Shared → Prop} {s : Shared}
theorem ent_iter {v d : Addr} {es : Array DictEntry} {ep : Nat} {Q : Value → Shared → Prop} (hv : s.heap.IsValuesView v d) (hm : EntAt s.heap d es ep)
    (hQ : Q (.ref s.heap.objs.size) { s with heap := s.heap.push { cls := .type "dict_valueiterator", data := .fields #[.ref d, .int 0 0, .int es.size 0, .int ep 0] } }) : wpAny (model prog w) A (pyIter (.ref v)) Q E s := by
  obtain ⟨ov, a1, a2, a3⟩ := id hv
  obtain ⟨o, b1, b2, b3⟩ := id hm
  apply wpAny_pyIter_slot hv.typeIs F.slot_dict_values_iter
  refine wpAny_call_entry F.slot_dict_values_iter hv.typeIs F.entry_dict_values_iter ?_ (F.args_dict_values_iter_1 _)
  unfold Builtin.«dict_values.__iter__»
  apply wpAny_bind
  apply wpAny_pure
  apply wpAny_bind
  unfold Builtin.Dict_items.dictOf
  apply wpAny_bind
  refine wpAny_field a1 a3 (x := .ref d) rfl ?_
  apply wpAny_pure
  apply wpAny_bind
  unfold Builtin.Dict_items.newIterator
  apply wpAny_bind
  refine wpAny_dictEntries b1 b3 ?_
  apply wpAny_bind
  refine wpAny_dictEpoch b1 b3 ?_
  simp only [show Builtin.Dict_items.ownsTuple "dict_valueiterator" = false by decide, Bool.false_eq_true, if_false]
  refine wpAny_newObj_type ?_
  apply wpAny_pure
  refine ⟨_, rfl, "dict_valueiterator", _, ⟨_, Heap.get?_push_size _ rfl, rfl⟩, F.slot_dict_valueiterator_next.lookup, ?_⟩
  simpa [rawInt] using hQ
theorem ent_item {it d : Addr} {i ep : Nat} {es : Array DictEntry} {Q : Option Value → Shared → Prop} (hit : s.heap.IsValIter it d i es.size ep) (hm : EntAt s.heap d es ep) (hi : i < es.size)
    (hQ : ∀ h', h'.IsValIter it d (i + 1) es.size ep → Heap.SameBut it s.heap h' → Q (some es[i].val) { s with heap := h' }) : wpAny (model prog w) A (pyNext (.ref it)) Q E s := by
  obtain ⟨oi, a1, a2, a3⟩ := id hit
  obtain ⟨o, b1, b2, b3⟩ := id hm
  unfold pyNext
  apply wpAny_bind
  apply wpAny_attempt
  refine wpAny_callSpecial?_slot (name := Str.ofString "__next__") hit.typeIs F.slot_dict_valueiterator_next ?_
  refine wpAny_call_entry F.slot_dict_valueiterator_next hit.typeIs F.entry_dict_valueiterator_next ?_ (F.args_dict_valueiterator_next_1 _)
  apply wpAny_bind
  apply wpAny_pure
  apply wpAny_bind
  apply wpAny_bind
  apply wpAny_bind
  first | refine wpAny_typeNameOfWhole_valiter hit.typeIs ?_ | refine wpAny_typeNameOf_valiter hit.typeIs ?_
  apply wpAny_pure
  apply wpAny_bind
  refine wpAny_fieldsOf a1 a3 ?_
  simp only [show Builtin.Dict_items.ownsTuple "dict_valueiterator" = false by decide, Bool.false_eq_true, if_false]
  show wpAny _ _ (if (Value.ref d == Value.none) = true then _ else _) _ _ s
  rw [if_neg (by intro z; cases z)]
  apply wpAny_bind
  apply wpAny_pure
  apply wpAny_bind
  refine wpAny_dictEntries b1 b3 ?_
  rw [if_neg (by simp)]
  apply wpAny_bind
  apply wpAny_pure
  apply wpAny_bind
  refine wpAny_dictEpoch b1 b3 ?_
  rw [if_neg (by simp)]
  apply wpAny_pure
  simp only [show ¬ ((i : Int) < 0) by omega, if_false, Int.toNat_natCast, Array.getElem?_eq_getElem hi]
  apply wpAny_bind
  apply wpAny_bind
  first | refine wpAny_typeNameOfWhole_valiter hit.typeIs ?_ | refine wpAny_typeNameOf_valiter hit.typeIs ?_
  apply wpAny_pure
  apply wpAny_bind
  refine wpAny_isOneOf_valiter hit.typeIs ?_
  show wpAny _ _ (setField (.ref it) 1 (rawInt ((i : Int) + 1)) >>= _) _ _ s
  apply wpAny_bind
  refine wpAny_setField a1 a3 (by simp) ?_
  have hit' : (s.heap.update it (Obj.mapFields (·.setIfInBounds 1 (rawInt ((i : Int) + 1))))).IsValIter it d (i + 1) es.size ep :=
    ⟨_, Heap.get?_update_self _ a1 (Obj.isFreed_of_fields (Obj.data_mapFields a3 _)), (Obj.cls_mapFields ..).trans a2, by rw [Obj.data_mapFields a3]; simp [rawInt]⟩
  apply wpAny_bind
  apply wpAny_holding
  apply wpAny_bind
  refine wpAny_isOneOf_valiter (s := { s with heap := s.heap.update it (Obj.mapFields (·.setIfInBounds 1 (rawInt ((i : Int) + 1)))) }) hit'.typeIs ?_
  apply wpAny_bind
  refine wpAny_isOneOf_valiter (s := { s with heap := s.heap.update it (Obj.mapFields (·.setIfInBounds 1 (rawInt ((i : Int) + 1)))) }) hit'.typeIs ?_
  show wpAny _ _ (pure es[i].val) _ _ _
  apply wpAny_pure
  apply wpAny_pure
  refine ⟨_, rfl, ?_⟩
  apply wpAny_pure
  exact hQ _ hit' (Heap.SameBut.update ..)
theorem ent_end {it d : Addr} {ep : Nat} {es : Array DictEntry} {Q : Option Value → Shared → Prop} (hh : A.handled = none) (hit : s.heap.IsValIter it d es.size es.size ep) (hm : EntAt s.heap d es ep)
    (hQ : ∀ h', Heap.ExtBut it s.heap h' → Q none { s with heap := h' }) : wpAny (model prog w) A (pyNext (.ref it)) Q E s := by
  obtain ⟨oi, a1, a2, a3⟩ := id hit
  obtain ⟨o, b1, b2, b3⟩ := id hm
  unfold pyNext
  apply wpAny_bind
  apply wpAny_attempt
  refine wpAny_callSpecial?_slot (name := Str.ofString "__next__") hit.typeIs F.slot_dict_valueiterator_next ?_
  refine wpAny_call_entry F.slot_dict_valueiterator_next hit.typeIs F.entry_dict_valueiterator_next ?_ (F.args_dict_valueiterator_next_1 _)
  apply wpAny_bind
  apply wpAny_pure
  apply wpAny_bind
  apply wpAny_bind
  apply wpAny_bind
  first | refine wpAny_typeNameOfWhole_valiter hit.typeIs ?_ | refine wpAny_typeNameOf_valiter hit.typeIs ?_
  apply wpAny_pure
  apply wpAny_bind
  refine wpAny_fieldsOf a1 a3 ?_
  simp only [show Builtin.Dict_items.ownsTuple "dict_valueiterator" = false by decide, Bool.false_eq_true, if_false]
  show wpAny _ _ (if (Value.ref d == Value.none) = true then _ else _) _ _ s
  rw [if_neg (by intro z; cases z)]
  apply wpAny_bind
  apply wpAny_pure
  apply wpAny_bind
  refine wpAny_dictEntries b1 b3 ?_
  rw [if_neg (by simp)]
  apply wpAny_bind
  apply wpAny_pure
  apply wpAny_bind
  refine wpAny_dictEpoch b1 b3 ?_
  rw [if_neg (by simp)]
  apply wpAny_pure
  simp only [show ¬ ((es.size : Int) < 0) by omega, if_false, Int.toNat_natCast, Array.getElem?_eq_none (Nat.le_refl _)]
  apply wpAny_bind
  apply wpAny_bind
  first | refine wpAny_typeNameOfWhole_valiter hit.typeIs ?_ | refine wpAny_typeNameOf_valiter hit.typeIs ?_
  apply wpAny_pure
  show wpAny _ _ (setField (.ref it) 0 .none >>= _) _ _ s
  apply wpAny_bind
  refine wpAny_setField a1 a3 (by simp) ?_
  show wpAny _ _ (newExc (.type "StopIteration") [] >>= _) _ _ _
  apply wpAny_bind
  simp only [newExc, newTuple]
  apply wpAny_bind
  refine wpAny_newObj_type ?_ (by size_fits)
  apply wpAny_bind (m := firstArgMember _ _)
  refine wpAny_of_eq (a := Value.none) (by first | rfl | (simp only [firstArgMember]; rfl)) ?_
  refine wpAny_newObj_type ?_ (by size_fits)
  simp only [raiseNew]
  apply wpAny_bind
  apply wpAny_handled
  rw [show A.in1.handled = none from hh]
  refine wpAny_bind (wpAny_pure ?_)
  apply wpAny_throw
  apply wpAny_bind
  refine wpAny_isInstance (T := "StopIteration") (b := true) ⟨_, Heap.get?_push_size _ rfl, rfl⟩ isSubtype_stop ?_
  apply wpAny_pure
  exact hQ _ (((Heap.SameBut.update ..).extBut.push _).push _)
theorem ent_walks (hh : A.handled = none) (I d : Addr) (hne : d ≠ I) (es : Array DictEntry) (ep : Nat) :
    Walks prog w A I [I, d] [I] es.size (fun i v => ∃ e, es[i]? = some e ∧ e.val = v) (fun i h => h.IsValIter I d i es.size ep ∧ EntAt h d es ep) where
  sub := fun b hb => by simp at hb; simp [hb]
  frame := fun _ _ _ st hk => ⟨st.1.at fun o e => hk I (by simp) o e, st.2.at fun o e => hk d (by simp) o e⟩
  item := fun i s Q E hi st hQ => ent_item st.1 st.2 hi fun h' i' sb => hQ _ h' s.toks ⟨_, Array.getElem?_eq_getElem hi, rfl⟩ ⟨i', st.2.at fun o e => sb.extBut d o hne e⟩ fun b o hb e => sb.extBut b o (fun h => hb (by simp [h])) e
  done := fun s Q E st hQ => ent_end hh st.1 st.2 fun h' he => hQ h' s.toks fun b o hb e => he b o (fun h => hb (by simp [h])) e
  self := fun _ _ _ _ st hQ => wpAny_pyIter_valiter st.1 hQ
theorem ent_src {r d : Addr} {es : Array DictEntry} {ep : Nat} : KdlSrc prog w "dict_values" r d es.size (fun i v => ∃ e, es[i]? = some e ∧ e.val = v) (fun h => h.IsValuesView r d ∧ EntAt h d es ep) where
  type := fun _ hm => hm.1.typeIs
  there := fun _ hm => ⟨let ⟨_, ho, _⟩ := hm.1; Heap.lt_size ho, hm.2.lt⟩
  keep := fun _ _ hm hk => ⟨let ⟨o, ho, x⟩ := hm.1; ⟨o, hk r (.inl rfl) o ho, x⟩, hm.2.at fun o e => hk d (.inr rfl) o e⟩
  notList := by decide
  notTuple := by decide
  hint := fun _ _ _ _ hm hq => kdl_hint_values hm.1.typeIs hq
  iter := fun _ _ hh hm => ⟨_, _, (fun _ _ hq => ent_iter hm.1 hm.2 hq), ent_walks hh _ d (Nat.ne_of_lt hm.2.lt) es ep, ⟨⟨_, Heap.get?_push_size _ rfl, rfl, rfl⟩, hm.2.at fun o e => Heap.get?_push_of_some _ e⟩⟩
end
def viewO (v d : Addr) : HO := .ext fun h => h.IsValuesView v d
theorem view_ok {P : Program} {w : World} {H : Hp} {h : Heap} {v d : Addr} (x : h.IsValuesView v d) : ObjOk P w H h v (viewO v d) :=
  ⟨x, let ⟨o, ho, _⟩ := x; ⟨o, ho⟩, fun _ _ ⟨o, ho, r⟩ k => ⟨o, k _ ho, r⟩⟩
theorem dT_ent {P : Program} {w : World} {H : Hp} {h : Heap} {d : Addr} {kvs : List (List Key × V)} (x : ObjOk P w H h d (.dT kvs)) : kvs.length ≤ sizeLine ∧ (d == sysModules) = false ∧ ∃ es ep, EntAt h d es ep ∧ Vals (kvs.map (·.2)) (es.toList.map (·.val)) := by
  obtain ⟨hl, hs, xs, pr, o, es, ep, e, ex, ed, el, nd⟩ := x
  refine ⟨hl, hs, es, ep, ⟨o, e, ex, ed⟩, ?_⟩
  rw [el, List.map_map]
  clear el ed ex e hl nd
  induction pr with
  | nil => exact .nil
  | cons a _ ih => exact .cons a.2.2 ih
section
variable {X : Cx}
theorem mt_dvalues : MtR X "dict.values" (fun x vs H Q => ∃ d kvs, x = .ref d ∧ vs = [] ∧ H d = some (.dT kvs) ∧ ∀ v, H v = none → Q (.ref v) (upd H v (viewO v d))) := by
  intro pins s σ H x vs v us Q I rx rv h
  obtain ⟨d, kvs, rfl, rfl, hd, q⟩ := h
  cases rx
  cases rv
  obtain ⟨hl, hs, es, ep, he, _⟩ := dT_ent (I.hok d _ hd)
  have fin : EP X pins σ Q (.ref s.heap.objs.size) { s with heap := s.heap.push { cls := .type "dict_values", data := .fields #[.ref d] } } := by
    have I2 := I.laid (a := s.heap.objs.size) (o := viewO s.heap.objs.size d) (t' := s.toks) (h' := s.heap.push { cls := .type "dict_values", data := .fields #[.ref d] }) (fun b u e => Heap.get?_push_of_some _ e) (Nat.le_refl _) (view_ok ⟨_, Heap.get?_push_size _ rfl, rfl, rfl⟩)
    exact ⟨.ref _, _, I2, rfl, q _ (I.hok.fresh (Nat.le_refl _))⟩
  refine wpAny_call_entry F.slot_dict_values he.typeIs F.entry_dict_values ?_ (F.args_dict_values_1 _)
  unfold Builtin.«dict.values»
  apply wpAny_bind
  unfold Builtin.Dict.noArgs
  apply wpAny_bind
  refine wpAny_notOrdered_dict he.typeIs ?_
  show wpAny _ _ (pure d) _ _ s
  apply wpAny_pure
  show wpAny _ _ (Builtin.Dict.showsAll d >>= _) _ _ s
  unfold Builtin.Dict.showsAll
  rw [if_neg (by rw [hs]; exact Bool.false_ne_true)]
  apply wpAny_bind
  apply wpAny_pure
  apply wpAny_bind
  refine wpAny_newObj_type ?_
  apply wpAny_pure
  exact ⟨_, rfl, fin⟩
theorem call_list_values (hc : X.calm = true) : CallR X (.type "list") (fun xs H Q => ∃ v d kvs, xs = [.ref v] ∧ H v = some (viewO v d) ∧ H d = some (.dT kvs) ∧ ∀ l, H l = none → Q (.ref l) (upd H l (.lst (kvs.map (·.2))))) := by
  intro pins s σ H xs us Q I r h
  obtain ⟨v, d, kvs, rfl, hv, hd, q⟩ := h
  obtain ⟨u, rfl, rx⟩ := vals1 r
  cases rx
  have hV : s.heap.IsValuesView v d := (I.hok v _ hv).1
  obtain ⟨hl, hs, es, ep, he, vals⟩ := dT_ent (I.hok d _ hd)
  have hn : es.size = kvs.length := by have := vals.length; rw [List.length_map, List.length_map, Array.length_toList] at this; exact this.symm
  refine kdl_call ent_src (I.ok.hd hc) ⟨hV, he⟩ (by omega) fun h' tk acc' c' kp e hacc => ?_
  obtain ⟨acc⟩ := acc'
  have eq : acc = es.toList.map (·.val) := by
    apply List.ext_getElem
    · have := hacc.1
      rw [List.length_map, Array.length_toList]
      simpa using this
    · intro j h1 h2
      obtain ⟨en, e1, e2⟩ := hacc.2 j acc[j] (by simp [h1])
      rw [List.getElem_map, ← e2]
      have : es.toList[j]? = some en := by rw [Array.getElem?_toList]; exact e1
      rw [List.getElem?_eq_getElem (by rw [List.length_map] at h2; exact h2)] at this
      rw [Option.some.inj this]
  subst eq
  exact ⟨.ref s.heap.objs.size, _, I.laid (t' := tk) kp (Nat.le_refl _) (show ObjOk X.prog X.w _ h' _ (.lst (kvs.map (·.2))) from ⟨by rw [List.length_map]; exact hl, _, c', vals, e⟩), rfl, q _ (I.hok.fresh (Nat.le_refl _))⟩
end
end L2

set_option Elab.async false
set_option linter.all false
namespace Dy
variable {S R N : Type}
structure Way (S N : Type) where
  p : Nat
  B : List N
  h : S
def run (step : S → R → N → Option S) (price : N → Nat) : S → Nat → List R → List N → Option (Nat × S)
  | h, p, [], [] => some (p, h)
  | h, p, r :: rs, n :: ns => match step h r n with
    | some h' => run step price h' (p + price n) rs ns
    | none => none
  | _, _, [], _ :: _ => none
  | _, _, _ :: _, [] => none
variable {step : S → R → N → Option S} {price : N → Nat}
theorem run_len : ∀ {rs : List R} {ns : List N} {h : S} {p : Nat} {x : Nat × S}, run step price h p rs ns = some x → ns.length = rs.length
  | [], [], _, _, _, _ => rfl
  | r :: rs, n :: ns, h, p, x, e => by
    unfold run at e
    cases es : step h r n with
    | none => rw [es] at e; cases e
    | some h' =>
      rw [es] at e
      rw [List.length_cons, List.length_cons, run_len (rs := rs) (ns := ns) e]
  | [], _ :: _, _, _, _, e => by unfold run at e; cases e
  | _ :: _, [], _, _, _, e => by unfold run at e; cases e
theorem run_snoc {r : R} {n : N} : ∀ {rs : List R} {ns : List N} {h : S} {p : Nat} {p1 : Nat} {h1 h2 : S}, run step price h p rs ns = some (p1, h1) → step h1 r n = some h2 → run step price h p (rs ++ [r]) (ns ++ [n]) = some (p1 + price n, h2)
  | [], [], h, p, p1, h1, h2, e, es => by
    unfold run at e
    cases e
    show run step price h p (r :: []) (n :: []) = _
    unfold run
    rw [es]
    rfl
  | r' :: rs, n' :: ns, h, p, p1, h1, h2, e, es => by
    unfold run at e
    show run step price h p (r' :: (rs ++ [r])) (n' :: (ns ++ [n])) = _
    unfold run
    cases e' : step h r' n' with
    | none => rw [e'] at e; cases e
    | some h' =>
      rw [e'] at e
      exact run_snoc (rs := rs) (ns := ns) e es
  | [], _ :: _, _, _, _, _, _, e, _ => by unfold run at e; cases e
  | _ :: _, [], _, _, _, _, _, e, _ => by unfold run at e; cases e
theorem run_unsnoc {r : R} : ∀ {rs : List R} {ns : List N} {h : S} {p : Nat} {x : Nat × S}, run step price h p (rs ++ [r]) ns = some x → ∃ ms n p1 h1, ns = ms ++ [n] ∧ run step price h p rs ms = some (p1, h1) ∧ step h1 r n = some x.2 ∧ x.1 = p1 + price n
  | [], [], h, p, x, e => by
    have e : run step price h p (r :: []) [] = some x := e
    unfold run at e; cases e
  | [], n :: ns, h, p, x, e => by
    have e : run step price h p (r :: []) (n :: ns) = some x := e
    unfold run at e
    cases es : step h r n with
    | none => rw [es] at e; cases e
    | some h' =>
      rw [es] at e
      cases ns with
      | nil =>
        have e : run step price h' (p + price n) [] [] = some x := e
        unfold run at e
        cases e
        exact ⟨[], n, p, h, rfl, by unfold run; rfl, es, rfl⟩
      | cons m ns =>
        have e : run step price h' (p + price n) [] (m :: ns) = some x := e
        unfold run at e; cases e
  | r' :: rs, [], h, p, x, e => by
    have e : run step price h p (r' :: (rs ++ [r])) [] = some x := e
    unfold run at e; cases e
  | r' :: rs, n' :: ns, h, p, x, e => by
    have e : run step price h p (r' :: (rs ++ [r])) (n' :: ns) = some x := e
    unfold run at e
    cases es : step h r' n' with
    | none => rw [es] at e; cases e
    | some h' =>
      rw [es] at e
      obtain ⟨ms, n, p1, h1, e1, e2, e3, e4⟩ := run_unsnoc (rs := rs) (ns := ns) e
      refine ⟨n' :: ms, n, p1, h1, by rw [e1]; rfl, ?_, e3, e4⟩
      unfold run
      rw [es]
      exact e2
structure Ok (step : S → R → N → Option S) (price : N → Nat) (h0 : S) (NS : List N) (rs : List R) (W : List (Way S N)) : Prop where
  snd : ∀ w ∈ W, run step price h0 0 rs w.B = some (w.p, w.h)
  inN : ∀ w ∈ W, ∀ n ∈ w.B, n ∈ NS
  ful : ∀ B p h, (∀ n ∈ B, n ∈ NS) → run step price h0 0 rs B = some (p, h) → ∃ w ∈ W, w.h = h ∧ w.p ≤ p
theorem Ok.nil (h0 : S) (NS : List N) : Ok step price h0 NS [] [⟨0, [], h0⟩] := by
  refine ⟨fun w hw => ?_, fun w hw n hn => ?_, fun B p h hB e => ?_⟩
  · rw [List.mem_singleton] at hw; subst hw; unfold run; rfl
  · rw [List.mem_singleton] at hw; subst hw; cases hn
  · cases B with
    | nil => unfold run at e; cases e; exact ⟨_, List.mem_singleton.mpr rfl, rfl, Nat.le_refl _⟩
    | cons => unfold run at e; cases e
structure Tb (step : S → R → N → Option S) (price : N → Nat) (h0 : S) (NS : List N) (rs : List R) (r : R) (D : Way S N → N → Prop) (T : List (Way S N)) : Prop where
  snd : ∀ w ∈ T, run step price h0 0 (rs ++ [r]) w.B = some (w.p, w.h)
  inN : ∀ w ∈ T, ∀ n ∈ w.B, n ∈ NS
  ful : ∀ w n h, D w n → step w.h r n = some h → ∃ v ∈ T, v.h = h ∧ v.p ≤ w.p + price n
theorem Tb.end {h0 : S} {NS : List N} {rs : List R} {r : R} {W T : List (Way S N)} {D : Way S N → N → Prop} (o : Ok step price h0 NS rs W) (t : Tb step price h0 NS rs r D T) (hD : ∀ w ∈ W, ∀ n ∈ NS, D w n) : Ok step price h0 NS (rs ++ [r]) T := by
  refine ⟨t.snd, t.inN, fun B p h hB e => ?_⟩
  obtain ⟨ms, n, p1, h1, rfl, e2, e3, e4⟩ := run_unsnoc e
  obtain ⟨w, hw, e5, l5⟩ := o.ful ms p1 h1 (fun n hn => hB n (List.mem_append_left _ hn)) e2
  have e4 : p = p1 + price n := e4
  have e3 : step h1 r n = some h := e3
  rw [← e5] at e3
  obtain ⟨v, hv, e6, l6⟩ := t.ful w n h (hD w hw n (hB n (List.mem_append_right _ (List.mem_singleton.mpr rfl)))) e3
  exact ⟨v, hv, e6, by omega⟩
def digs (xs : List N) (d : N) : Nat → Nat → List N
  | _, 0 => []
  | w, k + 1 => xs.getD (w % xs.length) d :: digs xs d (w / xs.length) k
theorem digs_all {xs : List N} {d : N} : ∀ {k : Nat} {B : List N}, B.length = k → (∀ n ∈ B, n ∈ xs) → ∃ w, w < xs.length ^ k ∧ digs xs d w k = B
  | 0, [], _, _ => ⟨0, by simp, rfl⟩
  | k + 1, b :: B, hl, hB => by
    obtain ⟨w, hw, e⟩ := digs_all (k := k) (B := B) (d := d) (Nat.succ.inj hl) fun n hn => hB n (List.mem_cons_of_mem _ hn)
    obtain ⟨i, hi, ei⟩ := List.mem_iff_getElem.mp (hB b (List.mem_cons_self ..))
    have h0 : 0 < xs.length := by omega
    refine ⟨i + xs.length * w, ?_, ?_⟩
    · rw [Nat.pow_succ]
      have : xs.length * w + xs.length ≤ xs.length * xs.length ^ k := by
        have := Nat.mul_le_mul_left xs.length (show w + 1 ≤ xs.length ^ k from hw)
        rw [Nat.mul_add, Nat.mul_one] at this
        exact this
      rw [Nat.mul_comm (xs.length ^ k)]
      omega
    · unfold digs
      rw [Nat.add_mul_mod_self_left, Nat.mod_eq_of_lt hi, Nat.add_mul_div_left _ _ h0, Nat.div_eq_of_lt hi, Nat.zero_add, e, List.getD_eq_getElem?_getD, List.getElem?_eq_getElem hi, ← ei]
      rfl
  | 0, _ :: _, hl, _ => by cases hl
  | _ + 1, [], hl, _ => by cases hl
theorem digs_in {xs : List N} {d : N} (h0 : 0 < xs.length) : ∀ {k w : Nat}, ∀ n ∈ digs xs d w k, n ∈ xs
  | 0, w, n, hn => by cases hn
  | k + 1, w, n, hn => by
    unfold digs at hn
    rcases List.mem_cons.mp hn with rfl | hn
    · rw [List.getD_eq_getElem?_getD, List.getElem?_eq_getElem (Nat.mod_lt _ h0)]
      exact List.getElem_mem _
    · exact digs_in h0 n hn
theorem digs_len {xs : List N} {d : N} : ∀ {k w : Nat}, (digs xs d w k).length = k
  | 0, _ => rfl
  | k + 1, w => by unfold digs; rw [List.length_cons, digs_len]
def put (c : Way S N → Bool) (T : List (Way S N)) (x : Way S N) : List (Way S N) := if T.any c = true then T.map (fun w => if c w = true then x else w) else T ++ [x]
theorem mem_put {c : Way S N → Bool} {T : List (Way S N)} {x w : Way S N} (h : w ∈ put c T x) : w = x ∨ (w ∈ T ∧ c w = false) := by
  unfold put at h
  by_cases a : T.any c = true
  · rw [if_pos a] at h
    obtain ⟨v, hv, e⟩ := List.mem_map.mp h
    by_cases b : c v = true
    · rw [if_pos b] at e; exact .inl e.symm
    · rw [if_neg b] at e; subst e; exact .inr ⟨hv, Bool.eq_false_iff.mpr b⟩
  · rw [if_neg a] at h
    rcases List.mem_append.mp h with h | h
    · exact .inr ⟨h, Bool.eq_false_iff.mpr fun b => a (List.any_eq_true.mpr ⟨w, h, b⟩)⟩
    · exact .inl (List.mem_singleton.mp h)
theorem put_new {c : Way S N → Bool} {T : List (Way S N)} {x : Way S N} : x ∈ put c T x := by
  unfold put
  by_cases a : T.any c = true
  · obtain ⟨w, hw, b⟩ := List.any_eq_true.mp a
    rw [if_pos a]
    exact List.mem_map.mpr ⟨w, hw, if_pos b⟩
  · rw [if_neg a]
    exact List.mem_append_right _ (List.mem_singleton.mpr rfl)
theorem put_old {c : Way S N → Bool} {T : List (Way S N)} {x w : Way S N} (h : w ∈ T) (b : c w = false) : w ∈ put c T x := by
  unfold put
  by_cases a : T.any c = true
  · rw [if_pos a]
    exact List.mem_map.mpr ⟨w, h, if_neg (by rw [b]; decide)⟩
  · rw [if_neg a]
    exact List.mem_append_left _ h
theorem put_len {c : Way S N → Bool} {T : List (Way S N)} {x : Way S N} : (put c T x).length ≤ T.length + 1 := by
  unfold put
  split
  · rw [List.length_map]; omega
  · rw [List.length_append, List.length_singleton]; omega
def Un (T : List (Way S N)) : Prop := ∀ v ∈ T, ∀ w ∈ T, v.h = w.h → v.p = w.p
theorem Tb.put {c : Way S N → Bool} {h0 h : S} {NS : List N} {rs : List R} {r : R} {D : Way S N → N → Prop} {T : List (Way S N)} {w : Way S N} {n : N} (t : Tb step price h0 NS rs r D T) (u : Un T) (hw : run step price h0 0 rs w.B = some (w.p, w.h)) (hB : ∀ m ∈ w.B, m ∈ NS) (hn : n ∈ NS) (hs : step w.h r n = some h)
    (hc : ∀ v ∈ T, c v = true ↔ v.h = h) (less : ∀ v ∈ T, v.h = h → w.p + price n ≤ v.p) : Tb step price h0 NS rs r (fun w' n' => D w' n' ∨ (w' = w ∧ n' = n)) (Dy.put c T ⟨w.p + price n, w.B ++ [n], h⟩) ∧ Un (Dy.put c T ⟨w.p + price n, w.B ++ [n], h⟩) := by
  refine ⟨⟨fun v hv => ?_, fun v hv m hm => ?_, fun v m h' hd hs' => ?_⟩, fun v hv v' hv' e => ?_⟩
  · rcases mem_put hv with rfl | ⟨hv, _⟩
    · exact run_snoc hw hs
    · exact t.snd v hv
  · rcases mem_put hv with rfl | ⟨hv, _⟩
    · rcases List.mem_append.mp hm with hm | hm
      · exact hB m hm
      · rw [List.mem_singleton.mp hm]; exact hn
    · exact t.inN v hv m hm
  · rcases hd with hd | ⟨rfl, rfl⟩
    · obtain ⟨x, hx, e1, l1⟩ := t.ful v m h' hd hs'
      by_cases b : c x = true
      · have e2 := (hc x hx).mp b
        exact ⟨_, put_new, e2.symm.trans e1, Nat.le_trans (less x hx e2) l1⟩
      · exact ⟨x, put_old hx (Bool.eq_false_iff.mpr b), e1, l1⟩
    · rw [hs] at hs'
      cases hs'
      exact ⟨_, put_new, rfl, Nat.le_refl _⟩
  · rcases mem_put hv with rfl | ⟨hv, b⟩
    · rcases mem_put hv' with rfl | ⟨hv', b'⟩
      · rfl
      · have := (hc v' hv').mpr e.symm
        rw [b'] at this; cases this
    · rcases mem_put hv' with rfl | ⟨hv', b'⟩
      · have := (hc v hv).mpr e
        rw [b] at this; cases this
      · exact u v hv v' hv' e
theorem Tb.skip {h0 : S} {NS : List N} {rs : List R} {r : R} {D : Way S N → N → Prop} {T : List (Way S N)} {w : Way S N} {n : N} (t : Tb step price h0 NS rs r D T) (hs : step w.h r n = none) : Tb step price h0 NS rs r (fun w' n' => D w' n' ∨ (w' = w ∧ n' = n)) T :=
  ⟨t.snd, t.inN, fun v m h hd e => by
    rcases hd with hd | ⟨rfl, rfl⟩
    · exact t.ful v m h hd e
    · rw [hs] at e; cases e⟩
theorem Tb.kept {h0 h : S} {NS : List N} {rs : List R} {r : R} {D : Way S N → N → Prop} {T : List (Way S N)} {w v : Way S N} {n : N} (t : Tb step price h0 NS rs r D T) (hs : step w.h r n = some h) (hv : v ∈ T) (e : v.h = h) (l : v.p ≤ w.p + price n) : Tb step price h0 NS rs r (fun w' n' => D w' n' ∨ (w' = w ∧ n' = n)) T :=
  ⟨t.snd, t.inN, fun x m h' hd e' => by
    rcases hd with hd | ⟨rfl, rfl⟩
    · exact t.ful x m h' hd e'
    · rw [hs] at e'; cases e'; exact ⟨v, hv, e, l⟩⟩
theorem Tb.mono {h0 : S} {NS : List N} {rs : List R} {r : R} {D D' : Way S N → N → Prop} {T : List (Way S N)} (t : Tb step price h0 NS rs r D T) (i : ∀ w n, D' w n → D w n) : Tb step price h0 NS rs r D' T := ⟨t.snd, t.inN, fun w n h d => t.ful w n h (i w n d)⟩
def Done (W : List (Way S N)) (NS : List N) (i j : Nat) (w : Way S N) (n : N) : Prop := (∃ i', i' < i ∧ W[i']? = some w ∧ n ∈ NS) ∨ (W[i]? = some w ∧ ∃ j', j' < j ∧ NS[j']? = some n)
theorem Done.zero {W : List (Way S N)} {NS : List N} {w : Way S N} {n : N} (h : Done W NS 0 0 w n) : False := by
  rcases h with ⟨i', h, _⟩ | ⟨_, j', h, _⟩ <;> omega
theorem Done.more {W : List (Way S N)} {NS : List N} {i j : Nat} {w w0 : Way S N} {n n0 : N} (hw : W[i]? = some w0) (hn : NS[j]? = some n0) (h : Done W NS i (j + 1) w n) : Done W NS i j w n ∨ (w = w0 ∧ n = n0) := by
  rcases h with h | ⟨h1, j', h2, h3⟩
  · exact .inl (.inl h)
  · by_cases e : j' = j
    · subst e
      rw [hw] at h1; rw [hn] at h3
      exact .inr ⟨(Option.some.inj h1).symm, (Option.some.inj h3).symm⟩
    · exact .inl (.inr ⟨h1, j', by omega, h3⟩)
theorem Done.next {W : List (Way S N)} {NS : List N} {i : Nat} {w : Way S N} {n : N} (h : Done W NS (i + 1) 0 w n) : Done W NS i NS.length w n := by
  rcases h with ⟨i', h1, h2, h3⟩ | ⟨_, j', h, _⟩
  · by_cases e : i' = i
    · subst e
      obtain ⟨j, hj⟩ := List.getElem?_of_mem h3
      exact .inr ⟨h2, j, (List.getElem?_eq_some_iff.mp hj).1, hj⟩
    · exact .inl ⟨i', by omega, h2, h3⟩
  · omega
theorem Done.all {W : List (Way S N)} {NS : List N} {w : Way S N} {n : N} (hw : w ∈ W) (hn : n ∈ NS) : Done W NS W.length 0 w n := by
  obtain ⟨i, hi⟩ := List.getElem?_of_mem hw
  exact .inl ⟨i, (List.getElem?_eq_some_iff.mp hi).1, hi, hn⟩
theorem Tb.start {h0 : S} {NS : List N} {rs : List R} {r : R} {W : List (Way S N)} : Tb step price h0 NS rs r (Done W NS 0 0) [] := ⟨fun w hw => by (cases hw), fun w hw => by (cases hw), fun w n h d => d.zero.elim⟩
theorem digs_snoc {xs : List N} {d : N} : ∀ {k w : Nat}, digs xs d w (k + 1) = digs xs d w k ++ [xs.getD (w / xs.length ^ k % xs.length) d]
  | 0, w => by
    show [xs.getD (w % xs.length) d] = [] ++ [xs.getD (w / xs.length ^ 0 % xs.length) d]
    rw [Nat.pow_zero, Nat.div_one]
    rfl
  | k + 1, w => by
    show xs.getD (w % xs.length) d :: digs xs d (w / xs.length) (k + 1) = (xs.getD (w % xs.length) d :: digs xs d (w / xs.length) k) ++ [xs.getD (w / xs.length ^ (k + 1) % xs.length) d]
    rw [digs_snoc (k := k), Nat.div_div_eq_div_mul, Nat.mul_comm, ← Nat.pow_succ]
    rfl
def MinOf (f : Nat → Option Nat) (c : Nat) (o : Option Nat) : Prop := (o = none → ∀ w, w < c → f w = none) ∧ ∀ m, o = some m → (∃ w, w < c ∧ f w = some m) ∧ ∀ w, w < c → ∀ m', f w = some m' → m ≤ m'
theorem MinOf.zero {f : Nat → Option Nat} : MinOf f 0 none := ⟨fun _ w h => absurd h (Nat.not_lt_zero _), fun m e => by cases e⟩
theorem MinOf.pass {f : Nat → Option Nat} {c : Nat} {o : Option Nat} (h : MinOf f c o) (e : f c = none) : MinOf f (c + 1) o := by
  refine ⟨fun n w hw => ?_, fun m em => ⟨?_, fun w hw m' e' => ?_⟩⟩
  · by_cases z : w = c
    · rw [z]; exact e
    · exact h.1 n w (by omega)
  · obtain ⟨w, hw, e1⟩ := (h.2 m em).1
    exact ⟨w, by omega, e1⟩
  · by_cases z : w = c
    · rw [z, e] at e'; cases e'
    · exact (h.2 m em).2 w (by omega) m' e'
theorem MinOf.take {f : Nat → Option Nat} {c m : Nat} {o : Option Nat} (h : MinOf f c o) (e : f c = some m) (less : ∀ b, o = some b → m ≤ b) : MinOf f (c + 1) (some m) := by
  refine ⟨fun n => by (cases n), fun m1 em => ⟨⟨c, by omega, ?_⟩, fun w hw m' e' => ?_⟩⟩
  · cases em; exact e
  · cases em
    by_cases z : w = c
    · rw [z, e] at e'; cases e'; exact Nat.le_refl _
    · cases o with
      | none => rw [h.1 rfl w (by omega)] at e'; cases e'
      | some b => exact Nat.le_trans (less b rfl) ((h.2 b rfl).2 w (by omega) m' e')
theorem MinOf.leave {f : Nat → Option Nat} {c m b : Nat} (h : MinOf f c (some b)) (e : f c = some m) (l : b ≤ m) : MinOf f (c + 1) (some b) := by
  refine ⟨fun n => by (cases n), fun m1 em => ⟨?_, fun w hw m' e' => ?_⟩⟩
  · cases em
    obtain ⟨w, hw, e1⟩ := (h.2 b rfl).1
    exact ⟨w, by omega, e1⟩
  · cases em
    by_cases z : w = c
    · rw [z, e] at e'; cases e'; exact l
    · exact (h.2 b rfl).2 w (by omega) m' e'
end Dy

set_option Elab.async false
set_option linter.all false
set_option maxRecDepth 100000
set_option maxHeartbeats 4000000
namespace K19
open PySem L2 K1
seal PySem.wpAny
def top (i : Nat) : Stmt := PySem.Challenge.pw_roadbook_k19_least_by_all_ways.main.body.getD i (.Pass ⟨0, 0, 0, 0⟩)
abbrev s_wall : Stmt := top 0
abbrev s_is_any_number : Stmt := top 12
theorem sc_is_any_number : FnScope ["value"] ["value"] (defScope s_is_any_number) := ⟨rfl, rfl, rfl, by decide +kernel, rfl, by decide +kernel, by decide +kernel⟩
abbrev s_is_number : Stmt := top 13
theorem sc_is_number : FnScope ["value", "least", "most"] ["value", "least", "most"] (defScope s_is_number) := ⟨rfl, rfl, rfl, by decide +kernel, rfl, by decide +kernel, by decide +kernel⟩
abbrev s_check_number : Stmt := top 14
theorem sc_check_number : FnScope ["value", "least", "most"] ["value", "least", "most"] (defScope s_check_number) := ⟨rfl, rfl, rfl, by decide +kernel, rfl, by decide +kernel, by decide +kernel⟩
abbrev s_are_rising : Stmt := top 15
theorem sc_are_rising : FnScope ["values", "longest", "least", "most", "floor", "value"] ["values", "longest", "least", "most"] (defScope s_are_rising) := ⟨rfl, rfl, rfl, by decide +kernel, rfl, by decide +kernel, by decide +kernel⟩
abbrev s_is_name : Stmt := top 16
theorem sc_is_name : FnScope ["value"] ["value"] (defScope s_is_name) := ⟨rfl, rfl, rfl, by decide +kernel, rfl, by decide +kernel, by decide +kernel⟩
abbrev s_is_known : Stmt := top 17
theorem sc_is_known : FnScope ["value", "named"] ["value", "named"] (defScope s_is_known) := ⟨rfl, rfl, rfl, by decide +kernel, rfl, by decide +kernel, by decide +kernel⟩
abbrev s_zone_bits : Stmt := top 19
theorem sc_zone_bits : FnScope ["zones", "bits", "zone"] ["zones"] (defScope s_zone_bits) := ⟨rfl, rfl, rfl, by decide +kernel, rfl, by decide +kernel, by decide +kernel⟩
abbrev s_fits : Stmt := top 20
theorem sc_fits : FnScope ["net", "ticket", "bits"] ["net", "ticket", "bits"] (defScope s_fits) := ⟨rfl, rfl, rfl, by decide +kernel, rfl, by decide +kernel, by decide +kernel⟩
abbrev s_least_tickets : Stmt := top 23
theorem sc_least_tickets : FnScope ["net", "rides", "ways", "ride", "best"] ["net", "rides"] (defScope s_least_tickets) := ⟨rfl, rfl, rfl, by decide +kernel, rfl, by decide +kernel, by decide +kernel⟩
abbrev s_held_behind : Stmt := top 24
theorem sc_held_behind : FnScope ["net", "held", "ride", "name", "ticket"] ["net", "held", "ride", "name"] (defScope s_held_behind) := ⟨rfl, rfl, rfl, by decide +kernel, rfl, by decide +kernel, by decide +kernel⟩
abbrev s_price_for : Stmt := top 25
theorem sc_price_for : FnScope ["net", "name"] ["net", "name"] (defScope s_price_for) := ⟨rfl, rfl, rfl, by decide +kernel, rfl, by decide +kernel, by decide +kernel⟩
abbrev s_ways_behind : Stmt := top 26
theorem sc_ways_behind : FnScope ["net", "ways", "ride", "cheapest", "price", "bought", "held", "name", "kept", "way"] ["net", "ways", "ride"] (defScope s_ways_behind) := ⟨rfl, rfl, rfl, by decide +kernel, rfl, by decide +kernel, by decide +kernel⟩
abbrev s_check_new : Stmt := top 32
theorem sc_check_new : FnScope ["name", "named"] ["name", "named"] (defScope s_check_new) := ⟨rfl, rfl, rfl, by decide +kernel, rfl, by decide +kernel, by decide +kernel⟩
abbrev s_check_room : Stmt := top 33
theorem sc_check_room : FnScope ["kept", "most"] ["kept", "most"] (defScope s_check_room) := ⟨rfl, rfl, rfl, by decide +kernel, rfl, by decide +kernel, by decide +kernel⟩
abbrev s_law_draw : Stmt := top 36
theorem sc_law_draw : FnScope ["_law_script", "_law_k", "_law_cell", "_law_number"] ["_law_script", "_law_k"] (defScope s_law_draw) := ⟨rfl, rfl, rfl, by decide +kernel, rfl, by decide +kernel, by decide +kernel⟩
abbrev s_law_whole : Stmt := top 37
theorem sc_law_whole : FnScope ["_law_found"] ["_law_found"] (defScope s_law_whole) := ⟨rfl, rfl, rfl, by decide +kernel, rfl, by decide +kernel, by decide +kernel⟩
abbrev s_law_names : Stmt := top 38
theorem sc_law_names : FnScope ["_law_script", "_law_k", "_law_many", "_law_letters", "_law_number", "_law_row", "_law_size", "_law_at", "_law_rest"] ["_law_script", "_law_k", "_law_many"] (defScope s_law_names) := ⟨rfl, rfl, rfl, by decide +kernel, rfl, by decide +kernel, by decide +kernel⟩
abbrev s_law_zones : Stmt := top 39
theorem sc_law_zones : FnScope ["_law_bits"] ["_law_bits"] (defScope s_law_zones) := ⟨rfl, rfl, rfl, by decide +kernel, rfl, by decide +kernel, by decide +kernel⟩
abbrev s_law_tickets : Stmt := top 40
theorem sc_law_tickets : FnScope ["_law_script", "_law_k", "_law_many", "_law_found", "_law_j", "_law_name", "_law_number", "_law_price", "_law_lasts", "_law_bits"] ["_law_script", "_law_k", "_law_many"] (defScope s_law_tickets) := ⟨rfl, rfl, rfl, by decide +kernel, rfl, by decide +kernel, by decide +kernel⟩
abbrev s_law_net : Stmt := top 41
theorem sc_law_net : FnScope ["_law_tickets_here", "_law_net_here", "_law_name", "_law_price", "_law_lasts", "_law_zones_here"] ["_law_tickets_here"] (defScope s_law_net) := ⟨rfl, rfl, rfl, by decide +kernel, rfl, by decide +kernel, by decide +kernel⟩
abbrev s_law_rides : Stmt := top 42
theorem sc_law_rides : FnScope ["_law_script", "_law_k", "_law_many", "_law_found", "_law_moment", "_law_j", "_law_number", "_law_bits"] ["_law_script", "_law_k", "_law_many"] (defScope s_law_rides) := ⟨rfl, rfl, rfl, by decide +kernel, rfl, by decide +kernel, by decide +kernel⟩
abbrev s_law_edged : Stmt := top 43
theorem sc_law_edged : FnScope ["_law_script", "_law_tickets_here", "_law_rides_here", "_law_found", "_law_k", "_law_ride", "_law_number", "_law_moment", "_law_lasts"] ["_law_script", "_law_tickets_here", "_law_rides_here"] (defScope s_law_edged) := ⟨rfl, rfl, rfl, by decide +kernel, rfl, by decide +kernel, by decide +kernel⟩
abbrev s_law_crossed : Stmt := top 44
theorem sc_law_crossed : FnScope ["_law_script", "_law_number", "_law_names_here", "_law_lasts", "_law_long", "_law_short", "_law_first", "_law_gap", "_law_third", "_law_bits", "_law_rides_here"] ["_law_script"] (defScope s_law_crossed) := ⟨rfl, rfl, rfl, by decide +kernel, rfl, by decide +kernel, by decide +kernel⟩
abbrev s_law_spent : Stmt := top 45
theorem sc_law_spent : FnScope ["_law_tickets_here", "_law_rides_here", "_law_bought", "_law_spent_here", "_law_held", "_law_ride", "_law_name"] ["_law_tickets_here", "_law_rides_here", "_law_bought"] (defScope s_law_spent) := ⟨rfl, rfl, rfl, by decide +kernel, rfl, by decide +kernel, by decide +kernel⟩
abbrev s_law_least : Stmt := top 46
theorem sc_law_least : FnScope ["_law_tickets_here", "_law_rides_here", "_law_names_here", "_law_best", "_law_way", "_law_bought", "_law_ride", "_law_spent_here"] ["_law_tickets_here", "_law_rides_here"] (defScope s_law_least) := ⟨rfl, rfl, rfl, by decide +kernel, rfl, by decide +kernel, by decide +kernel⟩
abbrev s_law_good : Stmt := top 47
theorem sc_law_good : FnScope ["_law_net_here", "_law_tickets_here", "_law_rides_here", "_law_best", "_law_handed", "_law_found"] ["_law_net_here", "_law_tickets_here", "_law_rides_here", "_law_best"] (defScope s_law_good) := ⟨rfl, rfl, rfl, by decide +kernel, rfl, by decide +kernel, by decide +kernel⟩
abbrev s_law : Stmt := top 48
theorem sc_law : FnScope ["_law_script", "_law_tickets_here", "_law_rides_here", "_law_net_here", "_law_best", "_law_others"] ["_law_script"] (defScope s_law) := ⟨rfl, rfl, rfl, by decide +kernel, rfl, by decide +kernel, by decide +kernel⟩
abbrev s_Net_init : Stmt := inClass (top 34) 0
theorem sc_Net_init : FnScope ["self"] ["self"] (defScope s_Net_init) := ⟨rfl, rfl, rfl, by decide +kernel, rfl, by decide +kernel, by decide +kernel⟩
abbrev s_Net_copied : Stmt := inClass (top 34) 1
abbrev s_Net_add_stop : Stmt := inClass (top 34) 2
abbrev s_Net_add_walk : Stmt := inClass (top 34) 3
abbrev s_Net_add_rule : Stmt := inClass (top 34) 4
abbrev s_Net_add_ticket : Stmt := inClass (top 34) 5
theorem sc_Net_add_ticket : FnScope ["self", "name", "price", "lasts", "zones"] ["self", "name", "price", "lasts", "zones"] (defScope s_Net_add_ticket) := ⟨rfl, rfl, rfl, by decide +kernel, rfl, by decide +kernel, by decide +kernel⟩
abbrev s_Net_add_trip : Stmt := inClass (top 34) 6
abbrev s_Net_check_stop : Stmt := inClass (top 34) 7
abbrev s_Net_check_trip : Stmt := inClass (top 34) 8
abbrev s_Net_check_call : Stmt := inClass (top 34) 9
abbrev s_Net_has_walk : Stmt := inClass (top 34) 10
abbrev s_Net_stops : Stmt := inClass (top 34) 11
abbrev s_Net_walks : Stmt := inClass (top 34) 12
abbrev s_Net_rules : Stmt := inClass (top 34) 13
abbrev s_Net_tickets : Stmt := inClass (top 34) 14
theorem sc_Net_tickets : FnScope ["self"] ["self"] (defScope s_Net_tickets) := ⟨rfl, rfl, rfl, by decide +kernel, rfl, by decide +kernel, by decide +kernel⟩
abbrev s_Net_trips : Stmt := inClass (top 34) 15
abbrev s_Net_zone : Stmt := inClass (top 34) 16
abbrev s_Net_change : Stmt := inClass (top 34) 17
abbrev s_Net_rule : Stmt := inClass (top 34) 18
abbrev s_Net_ticket : Stmt := inClass (top 34) 19
theorem sc_Net_ticket : FnScope ["self", "name", "row"] ["self", "name"] (defScope s_Net_ticket) := ⟨rfl, rfl, rfl, by decide +kernel, rfl, by decide +kernel, by decide +kernel⟩
abbrev s_Net_rule_name : Stmt := inClass (top 34) 20
abbrev s_Net_calls : Stmt := inClass (top 34) 21
theorem b_all : bootBuiltins "all" = some (.builtin "all") := by decide +kernel
theorem b_bool : bootBuiltins "bool" = some (.type "bool") := by decide +kernel
theorem b_int : bootBuiltins "int" = some (.type "int") := by decide +kernel
theorem b_isinstance : bootBuiltins "isinstance" = some (.builtin "isinstance") := by decide +kernel
theorem b_len : bootBuiltins "len" = some (.builtin "len") := by decide +kernel
theorem b_list : bootBuiltins "list" = some (.type "list") := by decide +kernel
theorem b_max : bootBuiltins "max" = some (.builtin "max") := by decide +kernel
theorem b_min : bootBuiltins "min" = some (.builtin "min") := by decide +kernel
theorem b_str : bootBuiltins "str" = some (.type "str") := by decide +kernel
theorem b_tuple : bootBuiltins "tuple" = some (.type "tuple") := by decide +kernel
structure Adr where
  f_wall : Addr
  d_wall : FuncData
  f_is_any_number : Addr
  d_is_any_number : FuncData
  f_is_number : Addr
  d_is_number : FuncData
  f_check_number : Addr
  d_check_number : FuncData
  f_are_rising : Addr
  d_are_rising : FuncData
  f_is_name : Addr
  d_is_name : FuncData
  f_is_known : Addr
  d_is_known : FuncData
  f_zone_bits : Addr
  d_zone_bits : FuncData
  f_fits : Addr
  d_fits : FuncData
  f_least_tickets : Addr
  d_least_tickets : FuncData
  f_held_behind : Addr
  d_held_behind : FuncData
  f_price_for : Addr
  d_price_for : FuncData
  f_ways_behind : Addr
  d_ways_behind : FuncData
  f_check_new : Addr
  d_check_new : FuncData
  f_check_room : Addr
  d_check_room : FuncData
  f_law_draw : Addr
  d_law_draw : FuncData
  f_law_whole : Addr
  d_law_whole : FuncData
  f_law_names : Addr
  d_law_names : FuncData
  f_law_zones : Addr
  d_law_zones : FuncData
  f_law_tickets : Addr
  d_law_tickets : FuncData
  f_law_net : Addr
  d_law_net : FuncData
  f_law_rides : Addr
  d_law_rides : FuncData
  f_law_edged : Addr
  d_law_edged : FuncData
  f_law_crossed : Addr
  d_law_crossed : FuncData
  f_law_spent : Addr
  d_law_spent : FuncData
  f_law_least : Addr
  d_law_least : FuncData
  f_law_good : Addr
  d_law_good : FuncData
  f_law : Addr
  d_law : FuncData
  f_Net_init : Addr
  d_Net_init : FuncData
  f_Net_copied : Addr
  d_Net_copied : FuncData
  f_Net_add_stop : Addr
  d_Net_add_stop : FuncData
  f_Net_add_walk : Addr
  d_Net_add_walk : FuncData
  f_Net_add_rule : Addr
  d_Net_add_rule : FuncData
  f_Net_add_ticket : Addr
  d_Net_add_ticket : FuncData
  f_Net_add_trip : Addr
  d_Net_add_trip : FuncData
  f_Net_check_stop : Addr
  d_Net_check_stop : FuncData
  f_Net_check_trip : Addr
  d_Net_check_trip : FuncData
  f_Net_check_call : Addr
  d_Net_check_call : FuncData
  f_Net_has_walk : Addr
  d_Net_has_walk : FuncData
  f_Net_stops : Addr
  d_Net_stops : FuncData
  f_Net_walks : Addr
  d_Net_walks : FuncData
  f_Net_rules : Addr
  d_Net_rules : FuncData
  f_Net_tickets : Addr
  d_Net_tickets : FuncData
  f_Net_trips : Addr
  d_Net_trips : FuncData
  f_Net_zone : Addr
  d_Net_zone : FuncData
  f_Net_change : Addr
  d_Net_change : FuncData
  f_Net_rule : Addr
  d_Net_rule : FuncData
  f_Net_ticket : Addr
  d_Net_ticket : FuncData
  f_Net_rule_name : Addr
  d_Net_rule_name : FuncData
  f_Net_calls : Addr
  d_Net_calls : FuncData
  c_RoadError : Addr
  c_TooMany : Addr
  c_BadName : Addr
  c_Twice : Addr
  c_NoStop : Addr
  c_NoTicket : Addr
  c_BadNumber : Addr
  c_Net : Addr
  g_NOTHING_HELD : Addr
  lc : Addr
  lt : Addr
structure Tab (K : W.Frag) (mg : Str → Option Value) (t : Adr) : Prop where
  z_all : mg "all" = none
  z_bool : mg "bool" = none
  z_enumerate : mg "enumerate" = none
  z_int : mg "int" = none
  z_isinstance : mg "isinstance" = none
  z_len : mg "len" = none
  z_list : mg "list" = none
  z_max : mg "max" = none
  z_min : mg "min" = none
  z_range : mg "range" = none
  z_str : mg "str" = none
  z_tuple : mg "tuple" = none
  z_zip : mg "zip" = none
  m_LETTERS : ∃ tk, mg "LETTERS" = some (.str (Str.ofString "abcdefghijklmnopqrstuvwxyz") tk)
  m_MOST_LETTERS : ∃ tk, mg "MOST_LETTERS" = some (.int 8 tk)
  m_NOTHING_HELD : mg "NOTHING_HELD" = some (.ref t.g_NOTHING_HELD)
  o_NOTHING_HELD : ∀ H, SqT K H t.g_NOTHING_HELD [.non, .int (-1)]
  m_MOST_TICKETS : ∃ tk, mg "MOST_TICKETS" = some (.int 3 tk)
  m_LAST_ZONE : ∃ tk, mg "LAST_ZONE" = some (.int 6 tk)
  m_MOST_PRICE : ∃ tk, mg "MOST_PRICE" = some (.int 10000 tk)
  m_MOST_LASTING : ∃ tk, mg "MOST_LASTING" = some (.int 1440 tk)
  F_wall : Fun K "_wall" "_wall" s_wall t.f_wall t.d_wall
  m_wall : mg "_wall" = some (.ref t.f_wall)
  b_wall : Binds K t.d_wall ["k"] []
  F_is_any_number : Fun K "is_any_number" "is_any_number" s_is_any_number t.f_is_any_number t.d_is_any_number
  m_is_any_number : mg "is_any_number" = some (.ref t.f_is_any_number)
  b_is_any_number : Binds K t.d_is_any_number ["value"] []
  F_is_number : Fun K "is_number" "is_number" s_is_number t.f_is_number t.d_is_number
  m_is_number : mg "is_number" = some (.ref t.f_is_number)
  b_is_number : Binds K t.d_is_number ["value", "least", "most"] []
  F_check_number : Fun K "check_number" "check_number" s_check_number t.f_check_number t.d_check_number
  m_check_number : mg "check_number" = some (.ref t.f_check_number)
  b_check_number : Binds K t.d_check_number ["value", "least", "most"] []
  F_are_rising : Fun K "are_rising" "are_rising" s_are_rising t.f_are_rising t.d_are_rising
  m_are_rising : mg "are_rising" = some (.ref t.f_are_rising)
  b_are_rising : Binds K t.d_are_rising ["values", "longest", "least", "most"] []
  F_is_name : Fun K "is_name" "is_name" s_is_name t.f_is_name t.d_is_name
  m_is_name : mg "is_name" = some (.ref t.f_is_name)
  b_is_name : Binds K t.d_is_name ["value"] []
  F_is_known : Fun K "is_known" "is_known" s_is_known t.f_is_known t.d_is_known
  m_is_known : mg "is_known" = some (.ref t.f_is_known)
  b_is_known : Binds K t.d_is_known ["value", "named"] []
  F_zone_bits : Fun K "zone_bits" "zone_bits" s_zone_bits t.f_zone_bits t.d_zone_bits
  m_zone_bits : mg "zone_bits" = some (.ref t.f_zone_bits)
  b_zone_bits : Binds K t.d_zone_bits ["zones"] []
  F_fits : Fun K "fits" "fits" s_fits t.f_fits t.d_fits
  m_fits : mg "fits" = some (.ref t.f_fits)
  b_fits : Binds K t.d_fits ["net", "ticket", "bits"] []
  F_least_tickets : Fun K "least_tickets" "least_tickets" s_least_tickets t.f_least_tickets t.d_least_tickets
  m_least_tickets : mg "least_tickets" = some (.ref t.f_least_tickets)
  b_least_tickets : Binds K t.d_least_tickets ["net", "rides"] []
  F_held_behind : Fun K "held_behind" "held_behind" s_held_behind t.f_held_behind t.d_held_behind
  m_held_behind : mg "held_behind" = some (.ref t.f_held_behind)
  b_held_behind : Binds K t.d_held_behind ["net", "held", "ride", "name"] []
  F_price_for : Fun K "price_for" "price_for" s_price_for t.f_price_for t.d_price_for
  m_price_for : mg "price_for" = some (.ref t.f_price_for)
  b_price_for : Binds K t.d_price_for ["net", "name"] []
  F_ways_behind : Fun K "ways_behind" "ways_behind" s_ways_behind t.f_ways_behind t.d_ways_behind
  m_ways_behind : mg "ways_behind" = some (.ref t.f_ways_behind)
  b_ways_behind : Binds K t.d_ways_behind ["net", "ways", "ride"] []
  F_check_new : Fun K "check_new" "check_new" s_check_new t.f_check_new t.d_check_new
  m_check_new : mg "check_new" = some (.ref t.f_check_new)
  b_check_new : Binds K t.d_check_new ["name", "named"] []
  F_check_room : Fun K "check_room" "check_room" s_check_room t.f_check_room t.d_check_room
  m_check_room : mg "check_room" = some (.ref t.f_check_room)
  b_check_room : Binds K t.d_check_room ["kept", "most"] []
  F_law_draw : Fun K "_law_draw" "_law_draw" s_law_draw t.f_law_draw t.d_law_draw
  m_law_draw : mg "_law_draw" = some (.ref t.f_law_draw)
  b_law_draw : Binds K t.d_law_draw ["_law_script", "_law_k"] []
  F_law_whole : Fun K "_law_whole" "_law_whole" s_law_whole t.f_law_whole t.d_law_whole
  m_law_whole : mg "_law_whole" = some (.ref t.f_law_whole)
  b_law_whole : Binds K t.d_law_whole ["_law_found"] []
  F_law_names : Fun K "_law_names" "_law_names" s_law_names t.f_law_names t.d_law_names
  m_law_names : mg "_law_names" = some (.ref t.f_law_names)
  b_law_names : Binds K t.d_law_names ["_law_script", "_law_k", "_law_many"] []
  F_law_zones : Fun K "_law_zones" "_law_zones" s_law_zones t.f_law_zones t.d_law_zones
  m_law_zones : mg "_law_zones" = some (.ref t.f_law_zones)
  b_law_zones : Binds K t.d_law_zones ["_law_bits"] []
  F_law_tickets : Fun K "_law_tickets" "_law_tickets" s_law_tickets t.f_law_tickets t.d_law_tickets
  m_law_tickets : mg "_law_tickets" = some (.ref t.f_law_tickets)
  b_law_tickets : Binds K t.d_law_tickets ["_law_script", "_law_k", "_law_many"] []
  F_law_net : Fun K "_law_net" "_law_net" s_law_net t.f_law_net t.d_law_net
  m_law_net : mg "_law_net" = some (.ref t.f_law_net)
  b_law_net : Binds K t.d_law_net ["_law_tickets_here"] []
  F_law_rides : Fun K "_law_rides" "_law_rides" s_law_rides t.f_law_rides t.d_law_rides
  m_law_rides : mg "_law_rides" = some (.ref t.f_law_rides)
  b_law_rides : Binds K t.d_law_rides ["_law_script", "_law_k", "_law_many"] []
  F_law_edged : Fun K "_law_edged" "_law_edged" s_law_edged t.f_law_edged t.d_law_edged
  m_law_edged : mg "_law_edged" = some (.ref t.f_law_edged)
  b_law_edged : Binds K t.d_law_edged ["_law_script", "_law_tickets_here", "_law_rides_here"] []
  F_law_crossed : Fun K "_law_crossed" "_law_crossed" s_law_crossed t.f_law_crossed t.d_law_crossed
  m_law_crossed : mg "_law_crossed" = some (.ref t.f_law_crossed)
  b_law_crossed : Binds K t.d_law_crossed ["_law_script"] []
  F_law_spent : Fun K "_law_spent" "_law_spent" s_law_spent t.f_law_spent t.d_law_spent
  m_law_spent : mg "_law_spent" = some (.ref t.f_law_spent)
  b_law_spent : Binds K t.d_law_spent ["_law_tickets_here", "_law_rides_here", "_law_bought"] []
  F_law_least : Fun K "_law_least" "_law_least" s_law_least t.f_law_least t.d_law_least
  m_law_least : mg "_law_least" = some (.ref t.f_law_least)
  b_law_least : Binds K t.d_law_least ["_law_tickets_here", "_law_rides_here"] []
  F_law_good : Fun K "_law_good" "_law_good" s_law_good t.f_law_good t.d_law_good
  m_law_good : mg "_law_good" = some (.ref t.f_law_good)
  b_law_good : Binds K t.d_law_good ["_law_net_here", "_law_tickets_here", "_law_rides_here", "_law_best"] []
  F_law : Fun K "law" "law" s_law t.f_law t.d_law
  m_law : mg "law" = some (.ref t.f_law)
  b_law : Binds K t.d_law ["_law_script"] []
  F_Net_init : Fun K "__init__" "Net.__init__" s_Net_init t.f_Net_init t.d_Net_init
  b_Net_init : Binds K t.d_Net_init ["self"] []
  F_Net_copied : Fun K "copied" "Net.copied" s_Net_copied t.f_Net_copied t.d_Net_copied
  b_Net_copied : Binds K t.d_Net_copied ["self"] []
  F_Net_add_stop : Fun K "add_stop" "Net.add_stop" s_Net_add_stop t.f_Net_add_stop t.d_Net_add_stop
  b_Net_add_stop : Binds K t.d_Net_add_stop ["self", "name", "zone", "change"] []
  F_Net_add_walk : Fun K "add_walk" "Net.add_walk" s_Net_add_walk t.f_Net_add_walk t.d_Net_add_walk
  b_Net_add_walk : Binds K t.d_Net_add_walk ["self", "one", "other", "minutes"] []
  F_Net_add_rule : Fun K "add_rule" "Net.add_rule" s_Net_add_rule t.f_Net_add_rule t.d_Net_add_rule
  b_Net_add_rule : Binds K t.d_Net_add_rule ["self", "name", "rule"] []
  F_Net_add_ticket : Fun K "add_ticket" "Net.add_ticket" s_Net_add_ticket t.f_Net_add_ticket t.d_Net_add_ticket
  b_Net_add_ticket : Binds K t.d_Net_add_ticket ["self", "name", "price", "lasts", "zones"] []
  F_Net_add_trip : Fun K "add_trip" "Net.add_trip" s_Net_add_trip t.f_Net_add_trip t.d_Net_add_trip
  b_Net_add_trip : Binds K t.d_Net_add_trip ["self", "name", "rule", "calls"] []
  F_Net_check_stop : Fun K "check_stop" "Net.check_stop" s_Net_check_stop t.f_Net_check_stop t.d_Net_check_stop
  b_Net_check_stop : Binds K t.d_Net_check_stop ["self", "name"] []
  F_Net_check_trip : Fun K "check_trip" "Net.check_trip" s_Net_check_trip t.f_Net_check_trip t.d_Net_check_trip
  b_Net_check_trip : Binds K t.d_Net_check_trip ["self", "name"] []
  F_Net_check_call : Fun K "check_call" "Net.check_call" s_Net_check_call t.f_Net_check_call t.d_Net_check_call
  b_Net_check_call : Binds K t.d_Net_check_call ["self", "call"] []
  F_Net_has_walk : Fun K "has_walk" "Net.has_walk" s_Net_has_walk t.f_Net_has_walk t.d_Net_has_walk
  b_Net_has_walk : Binds K t.d_Net_has_walk ["self", "one", "other"] []
  F_Net_stops : Fun K "stops" "Net.stops" s_Net_stops t.f_Net_stops t.d_Net_stops
  b_Net_stops : Binds K t.d_Net_stops ["self"] []
  F_Net_walks : Fun K "walks" "Net.walks" s_Net_walks t.f_Net_walks t.d_Net_walks
  b_Net_walks : Binds K t.d_Net_walks ["self"] []
  F_Net_rules : Fun K "rules" "Net.rules" s_Net_rules t.f_Net_rules t.d_Net_rules
  b_Net_rules : Binds K t.d_Net_rules ["self"] []
  F_Net_tickets : Fun K "tickets" "Net.tickets" s_Net_tickets t.f_Net_tickets t.d_Net_tickets
  b_Net_tickets : Binds K t.d_Net_tickets ["self"] []
  F_Net_trips : Fun K "trips" "Net.trips" s_Net_trips t.f_Net_trips t.d_Net_trips
  b_Net_trips : Binds K t.d_Net_trips ["self"] []
  F_Net_zone : Fun K "zone" "Net.zone" s_Net_zone t.f_Net_zone t.d_Net_zone
  b_Net_zone : Binds K t.d_Net_zone ["self", "stop"] []
  F_Net_change : Fun K "change" "Net.change" s_Net_change t.f_Net_change t.d_Net_change
  b_Net_change : Binds K t.d_Net_change ["self", "stop"] []
  F_Net_rule : Fun K "rule" "Net.rule" s_Net_rule t.f_Net_rule t.d_Net_rule
  b_Net_rule : Binds K t.d_Net_rule ["self", "name"] []
  F_Net_ticket : Fun K "ticket" "Net.ticket" s_Net_ticket t.f_Net_ticket t.d_Net_ticket
  b_Net_ticket : Binds K t.d_Net_ticket ["self", "name"] []
  F_Net_rule_name : Fun K "rule_name" "Net.rule_name" s_Net_rule_name t.f_Net_rule_name t.d_Net_rule_name
  b_Net_rule_name : Binds K t.d_Net_rule_name ["self", "trip"] []
  F_Net_calls : Fun K "calls" "Net.calls" s_Net_calls t.f_Net_calls t.d_Net_calls
  b_Net_calls : Binds K t.d_Net_calls ["self", "trip"] []
  cl_Net : Cls K t.c_Net
  mk_Net : Mk K t.c_Net t.f_Net_init
  me_Net_add_rule : Meth K t.c_Net "add_rule" t.f_Net_add_rule
  me_Net_add_stop : Meth K t.c_Net "add_stop" t.f_Net_add_stop
  me_Net_add_ticket : Meth K t.c_Net "add_ticket" t.f_Net_add_ticket
  me_Net_add_trip : Meth K t.c_Net "add_trip" t.f_Net_add_trip
  me_Net_add_walk : Meth K t.c_Net "add_walk" t.f_Net_add_walk
  me_Net_calls : Meth K t.c_Net "calls" t.f_Net_calls
  me_Net_change : Meth K t.c_Net "change" t.f_Net_change
  me_Net_check_call : Meth K t.c_Net "check_call" t.f_Net_check_call
  me_Net_check_stop : Meth K t.c_Net "check_stop" t.f_Net_check_stop
  me_Net_check_trip : Meth K t.c_Net "check_trip" t.f_Net_check_trip
  me_Net_copied : Meth K t.c_Net "copied" t.f_Net_copied
  me_Net_has_walk : Meth K t.c_Net "has_walk" t.f_Net_has_walk
  me_Net_rule : Meth K t.c_Net "rule" t.f_Net_rule
  me_Net_rule_name : Meth K t.c_Net "rule_name" t.f_Net_rule_name
  me_Net_rules : Meth K t.c_Net "rules" t.f_Net_rules
  me_Net_stops : Meth K t.c_Net "stops" t.f_Net_stops
  me_Net_ticket : Meth K t.c_Net "ticket" t.f_Net_ticket
  me_Net_tickets : Meth K t.c_Net "tickets" t.f_Net_tickets
  me_Net_trips : Meth K t.c_Net "trips" t.f_Net_trips
  me_Net_walks : Meth K t.c_Net "walks" t.f_Net_walks
  me_Net_zone : Meth K t.c_Net "zone" t.f_Net_zone
  na_Net_stop_rows : NoAttr K t.c_Net "stop_rows"
  na_Net_walk_rows : NoAttr K t.c_Net "walk_rows"
  na_Net_rule_rows : NoAttr K t.c_Net "rule_rows"
  na_Net_ticket_rows : NoAttr K t.c_Net "ticket_rows"
  na_Net_trip_rows : NoAttr K t.c_Net "trip_rows"
  m_RoadError : mg "RoadError" = some (.ref t.c_RoadError)
  m_TooMany : mg "TooMany" = some (.ref t.c_TooMany)
  m_BadName : mg "BadName" = some (.ref t.c_BadName)
  m_Twice : mg "Twice" = some (.ref t.c_Twice)
  m_NoStop : mg "NoStop" = some (.ref t.c_NoStop)
  m_NoTicket : mg "NoTicket" = some (.ref t.c_NoTicket)
  m_BadNumber : mg "BadNumber" = some (.ref t.c_BadNumber)
  m_Net : mg "Net" = some (.ref t.c_Net)
  lam_c : t.d_least_tickets.code = .ref t.lc
  lam_t : W.tabIn K "least_tickets" = some (t.lc, t.lt)
  lam_n : K.lookup t.lt = none
section
variable {P : Program} {w : World} {K : W.Frag} {mg : Str → Option Value} {base : Heap} {t : Adr}
def spAnyN : Sp := fun vs H Q _ => ∃ (v : V) (T : String), vs = [v] ∧ Kd H v T ∧ Q (.bl (wholeV v)) H
theorem ok_is_any_number (Tx : Tab K mg t) : FnOk P w K mg base CX0 1 t.f_is_any_number t.d_is_any_number ["value"] spAnyN := by
  refine Tx.F_is_any_number.ok sc_is_any_number (fun vs H Q E h => ?_) (fun cdv A outer s H vs Q E hr h => ?_)
  · obtain ⟨v, T, rfl, _⟩ := h
    rfl
  obtain ⟨v, T, rfl, kd, q⟩ := h
  refine ⟨_, (pss_one (ps_ret (pe_and (pe_callB call_isi_ty rfl Tx.z_isinstance b_isinstance (pac (pv 0) (pac (pe_gty rfl Tx.z_int b_int) pa_nil))) (pe_one (pe_not (pe_callB call_isi_ty rfl Tx.z_isinstance b_isinstance (pac (pv 0) (pac (pe_gty rfl Tx.z_bool b_bool) pa_nil)))))))), ?_⟩
  refine ⟨_, rfl, v, "int", _, _, rfl, kd.ty, kit_int kd, _, rfl, ?_⟩
  cases kd with
  | non => exact itF (by decide) q
  | str x => exact itF (by decide) q
  | lst e => exact itF (by decide) q
  | tup e => exact itF (by decide) q
  | dK e => exact itF (by decide) q
  | bl b => exact itT (by decide) ⟨_, rfl, _, "bool", _, _, rfl, (Kd.bl b).ty (H := H), kit_bool (H := H) (.bl b), _, rfl, q⟩
  | int i => exact itT (by decide) ⟨_, rfl, _, "bool", _, _, rfl, (Kd.int i).ty (H := H), kit_bool (H := H) (.int i), _, rfl, q⟩

def spNum : Sp := fun vs H Q _ => ∃ (v : V) (lo hi : Int) (T : String), vs = [v, .int lo, .int hi] ∧ Kd H v T ∧ Q (.bl (numV v lo hi)) H
theorem ok_is_number (Tx : Tab K mg t) : FnOk P w K mg base CX0 2 t.f_is_number t.d_is_number ["value", "least", "most"] spNum := by
  refine Tx.F_is_number.ok sc_is_number (fun vs H Q E h => ?_) (fun cdv A outer s H vs Q E hr h => ?_)
  · obtain ⟨v, lo, hi, T, rfl, _⟩ := h
    rfl
  obtain ⟨v, lo, hi, T, rfl, kd, q⟩ := h
  refine ⟨_, (pss_one (ps_ret (pe_and (pe_call (ok_is_any_number Tx) (hr.mono (by omega)) rfl Tx.m_is_any_number Tx.F_is_any_number.kp Tx.b_is_any_number .nil pass0 (pac (pv 0) pa_nil)) (pe_one (pe_chain op_le op_le (pv 1) (pv 0) (pv 2)))))), ?_⟩
  refine ⟨_, rfl, v, T, rfl, kd, _, rfl, ?_⟩
  cases kd with
  | non => exact itF Bool.false_ne_true q
  | str x => exact itF Bool.false_ne_true q
  | lst e => exact itF Bool.false_ne_true q
  | tup e => exact itF Bool.false_ne_true q
  | dK e => exact itF Bool.false_ne_true q
  | bl b => exact itF Bool.false_ne_true q
  | int i =>
    refine itT rfl ?_
    refine ⟨_, rfl, _, rfl, _, _, rfl, rfl, _, rfl, ?_⟩
    refine ite2 (fun c => ?_) (fun c => ?_)
    · refine ⟨_, rfl, _, _, rfl, rfl, ?_⟩
      have c' : lo ≤ i := of_decide_eq_true c
      have e : decide (i ≤ hi) = numV (.int i) lo hi := by
        show decide (i ≤ hi) = decide (lo ≤ i ∧ i ≤ hi)
        exact decide_eq_decide.mpr ⟨fun z => ⟨c', z⟩, fun z => z.2⟩
      rw [← e] at q; exact q
    · have c' : ¬ lo ≤ i := of_decide_eq_false (Bool.eq_false_iff.mpr c)
      have e : false = numV (.int i) lo hi := by
        show false = decide (lo ≤ i ∧ i ≤ hi)
        exact (decide_eq_false fun z => c' z.1).symm
      rw [← e] at q; exact q


theorem num_ok {b : Nat} {lo hi : Int} (h1 : lo ≤ b) (h2 : (b : Int) ≤ hi) : numV (.int (b : Nat)) lo hi = true := decide_eq_true ⟨h1, h2⟩
def letters : Str := ⟨#[97, 98, 99, 100, 101, 102, 103, 104, 105, 106, 107, 108, 109, 110, 111, 112, 113, 114, 115, 116, 117, 118, 119, 120, 121, 122]⟩
theorem letters_eq : Str.ofString "abcdefghijklmnopqrstuvwxyz" = letters := by decide +kernel
theorem inS_letters : ∀ i : Nat, i < 26 → inS letters (97 + i) = true := by decide +kernel
theorem name_all {z : Str} (h : NameOk z) : ((z.cps.toList.map fun c => inS letters c).all id) = true := by
  rw [List.all_eq_true]
  intro b hb
  obtain ⟨c, hc, rfl⟩ := List.mem_map.mp hb
  have := h.2.2.1 c hc
  have e := inS_letters (c - 97) (by omega)
  rw [show 97 + (c - 97) = c by omega] at e
  exact e
def spChk : Sp := fun vs H Q _ => ∃ (b : Nat) (lo hi : Int), vs = [.int (b : Nat), .int lo, .int hi] ∧ lo ≤ b ∧ (b : Int) ≤ hi ∧ Q .non H
theorem ok_check_number (Tx : Tab K mg t) : FnOk P w K mg base CX0 3 t.f_check_number t.d_check_number ["value", "least", "most"] spChk := by
  refine Tx.F_check_number.ok sc_check_number (fun vs H Q E h => ?_) (fun cdv A outer s H vs Q E hr h => ?_)
  · obtain ⟨b, lo, hi, rfl, _⟩ := h
    rfl
  obtain ⟨b, lo, hi, rfl, h1, h2, q⟩ := h
  refine ⟨_, (pss_one (ps_if (pt_not (pt_val (pe_call (ok_is_number Tx) (hr.mono (by omega)) rfl Tx.m_is_number Tx.F_is_number.kp Tx.b_is_number .nil pass0 (pac (pv 0) (pac (pv 1) (pac (pv 2) pa_nil))))))
    (pss_one ps_never)
    pss_nil)), ?_⟩
  exact ⟨_, rfl, _, rfl, _, rfl, .int (b : Nat), lo, hi, "int", rfl, .int _, _, rfl, itF (by rw [num_ok h1 h2]; decide) q⟩
def spIsName : Sp := fun vs H Q _ => ∃ z : Str, vs = [.str z] ∧ NameOk z ∧ ∀ H', Same H H' → Q (.bl true) H'
theorem ok_is_name (Tx : Tab K mg t) : FnOk P w K mg base CX0 1 t.f_is_name t.d_is_name ["value"] spIsName := by
  refine Tx.F_is_name.ok sc_is_name (fun vs H Q E h => ?_) (fun cdv A outer s H vs Q E hr h => ?_)
  · obtain ⟨z, rfl, _⟩ := h
    rfl
  obtain ⟨z, rfl, hn, q⟩ := h
  obtain ⟨tk, mf⟩ := Tx.m_LETTERS
  rw [letters_eq] at mf
  have hz : z.length ≤ sizeLine := Nat.le_trans hn.2.1 (by decide)
  refine ⟨_, (pss_cons (ps_if (PW.pt (pw_or (pt_not (pt_val (pe_callB call_isi_ty rfl Tx.z_isinstance b_isinstance (pac (pv 0) (pac (pe_gty rfl Tx.z_str b_str) pa_nil))))) (pw_or1 (pt_not (pt_chain op_le op_le pe_int (pe_callB call_len_str rfl Tx.z_len b_len (pac (pv 0) pa_nil)) (pe_gintE rfl Tx.m_MOST_LETTERS))))))
    (pss_one (ps_ret pe_bl))
    pss_nil)
    (pss_one (ps_ret (pe_callB (call_all_list rfl) rfl Tx.z_all b_all (pac (pe_compIn (cl := []) rfl (pv 0) rfl (by decide +kernel) rfl (by decide +kernel) rfl) pa_nil))))), ?_⟩
  refine ⟨_, rfl, .str z, "str", _, _, rfl, (Kd.str z).ty (H := H), kit_str (H := H) (.str z), _, rfl, itF (by decide) ?_⟩
  refine ⟨_, rfl, z, rfl, hz, _, _, rfl, rfl, _, rfl, itT (decide_eq_true (by have := hn.1; omega)) ?_⟩
  refine ⟨_, _, rfl, rfl, _, rfl, itF (by rw [decide_eq_true (show ((z.length : Nat) : Int) ≤ 8 by have := hn.2.1; omega)]; decide) ?_⟩
  refine ⟨letters, zread_glob (t := tk) rfl rfl mf, _, rfl, z, rfl, hz, fun p hp => ?_⟩
  refine ⟨p, z.cps.toList.map (fun c => inS letters c), rfl, SqL.of (by rw [upd_same, map_bl]), ?_⟩
  have q2 := q _ (same_new hp (HO.lst (z.cps.toList.map fun c => V.bl (inS letters c))))
  rw [← name_all hn] at q2; exact q2
def spKnown : Sp := fun vs H Q _ => ∃ (z : Str) (d : Addr) (kvs : List (Key × V)), vs = [.str z, .ref d] ∧ H d = some (.dK kvs) ∧ Q (.bl (valV kvs (Sum.inr z)).isSome) H
theorem ok_is_known (Tx : Tab K mg t) : FnOk P w K mg base CX0 1 t.f_is_known t.d_is_known ["value", "named"] spKnown := by
  refine Tx.F_is_known.ok sc_is_known (fun vs H Q E h => ?_) (fun cdv A outer s H vs Q E hr h => ?_)
  · obtain ⟨z, d, kvs, rfl, _⟩ := h
    rfl
  obtain ⟨z, d, kvs, rfl, hd, q⟩ := h
  refine ⟨_, (pss_one (ps_ret (pe_and (pe_callB call_isi_ty rfl Tx.z_isinstance b_isinstance (pac (pv 0) (pac (pe_gty rfl Tx.z_str b_str) pa_nil))) (pe_one (pe_cmp (pc_din (hu_of hr) (pv 0) (pv 1))))))), ?_⟩
  exact ⟨_, rfl, .str z, "str", _, _, rfl, (Kd.str z).ty (H := H), kit_str (H := H) (.str z), _, rfl, itT (by decide) ⟨_, rfl, _, rfl, d, _, rfl, DGet.k (k := Sum.inr z) hd, q⟩⟩
def spNewN : Sp := fun vs H Q _ => ∃ (z : Str) (d : Addr) (kvs : List (Key × V)), vs = [.str z, .ref d] ∧ H d = some (.dK kvs) ∧ NameOk z ∧ valV kvs (Sum.inr z) = none ∧ ∀ H', Same H H' → Q .non H'
theorem ok_check_new (Tx : Tab K mg t) : FnOk P w K mg base CX0 2 t.f_check_new t.d_check_new ["name", "named"] spNewN := by
  refine Tx.F_check_new.ok sc_check_new (fun vs H Q E h => ?_) (fun cdv A outer s H vs Q E hr h => ?_)
  · obtain ⟨z, d, kvs, rfl, _⟩ := h
    rfl
  obtain ⟨z, d, kvs, rfl, hd, hn, he, q⟩ := h
  refine ⟨_, (pss_cons (ps_if (pt_not (pt_val (pe_call (ok_is_name Tx) (hr.mono (by omega)) rfl Tx.m_is_name Tx.F_is_name.kp Tx.b_is_name .nil pass0 (pac (pv 0) pa_nil))))
    (pss_one ps_never)
    pss_nil)
    (pss_one (ps_if (pt_cmp (pc_din (hu_of hr) (pv 0) (pv 1)))
    (pss_one ps_never)
    pss_nil))), ?_⟩
  refine ⟨_, rfl, z, rfl, hn, fun H1 s1 => ⟨_, rfl, itF (by decide) ?_⟩⟩
  exact ⟨_, rfl, _, rfl, d, _, rfl, DGet.k (k := Sum.inr z) (s1 _ _ hd), _, rfl, itF (by rw [he]; decide) (q H1 s1)⟩
def spRoom : Sp := fun vs H Q _ => ∃ (d : Addr) (kvs : List (Key × V)) (n : Int), vs = [.ref d, .int n] ∧ H d = some (.dK kvs) ∧ (kvs.length : Int) < n ∧ Q .non H
theorem ok_check_room (Tx : Tab K mg t) : FnOk P w K mg base CX0 1 t.f_check_room t.d_check_room ["kept", "most"] spRoom := by
  refine Tx.F_check_room.ok sc_check_room (fun vs H Q E h => ?_) (fun cdv A outer s H vs Q E hr h => ?_)
  · obtain ⟨d, kvs, n, rfl, _⟩ := h
    rfl
  obtain ⟨d, kvs, n, rfl, hd, hl, q⟩ := h
  refine ⟨_, (pss_one (ps_if (pt_cmpR op_ge (pe_callB call_lenD rfl Tx.z_len b_len (pac (pv 0) pa_nil)) (pv 1) (nomark _))
    (pss_one ps_never)
    pss_nil)), ?_⟩
  exact ⟨_, rfl, d, kvs, rfl, hd, _, rfl, _, _, rfl, rfl, _, rfl, itF (by rw [decide_eq_false (by omega)]; decide) q⟩
def zonesOf (b : Nat) : List Nat := [1, 2, 3, 4, 5, 6].filter fun z => decide (b / 2 ^ (z - 1) % 2 = 1)
def zb (zs : List Nat) : Nat := zs.foldl (fun b z => b ||| 2 ^ (z - 1)) 0
theorem zb_zones : ∀ b : Nat, b < 64 → zb (zonesOf b) = b := by decide +kernel
theorem zones_rng (b : Nat) : ∀ z ∈ zonesOf b, 1 ≤ z ∧ z ≤ 6 := fun z h => by
  have := (List.mem_filter.mp h).1
  simp only [List.mem_cons, List.not_mem_nil, or_false] at this
  omega
theorem zones_up (b : Nat) : (zonesOf b).Pairwise (· < ·) := List.Pairwise.filter _ (by decide)
theorem zones_len (b : Nat) : (zonesOf b).length ≤ 6 := List.length_filter_le _ _
theorem zones_one : ∀ b : Nat, b < 64 → 1 ≤ b → 1 ≤ (zonesOf b).length := by decide +kernel
def spZb (K : W.Frag) : Sp := fun vs H Q _ => ∃ (l : Addr) (b : Nat), vs = [.ref l] ∧ SqL K H l (natV (zonesOf b)) ∧ b < 64 ∧ Q (.int (b : Nat)) H
theorem ok_zone_bits (Tx : Tab K mg t) : FnOk P w K mg base CX0 1 t.f_zone_bits t.d_zone_bits ["zones"] (spZb K) := by
  refine Tx.F_zone_bits.ok sc_zone_bits (fun vs H Q E h => ?_) (fun cdv A outer s H vs Q E hr h => ?_)
  · obtain ⟨l, b, rfl, _⟩ := h
    rfl
  obtain ⟨l, b, rfl, hl, hb, q⟩ := h
  refine ⟨_, (pss_cons (ps_set (i := 1) sc_zone_bits.nd rfl (Or.inl rfl) pe_int)
    (pss_cons (ps_for PassesOwn.never rfl (pi_list (pv 0)) (pg_name (i := 2) sc_zone_bits.nd rfl (Or.inl rfl))
    (pss_one (ps_set (i := 1) sc_zone_bits.nd rfl (Or.inl rfl) (pe_op op_or (pv 1) (pe_op op_shl pe_int (pe_op op_sub (pv 2) pe_int))))))
    (pss_one (ps_ret (pv 1))))), ?_⟩
  refine ⟨_, rfl, l, rfl, ⟨_, hl⟩, for_list (xs := natV (zonesOf b)) (fun i σ H' => H' = H ∧ ∃ v, σ = [some (.ref l), some (.int ((zb ((zonesOf b).take i) : Nat))), v]) ⟨rfl, _, rfl⟩ (fun i σ H' _ ⟨e, _⟩ => by rw [e]; exact hl) ?_ ?_⟩
  · rintro i x σ H' hx ⟨rfl, v, rfl⟩
    unfold natV at hx
    rw [List.getElem?_map] at hx
    cases hs : (zonesOf b)[i]? with
    | none => rw [hs] at hx; cases hx
    | some m =>
      rw [hs] at hx
      obtain rfl : V.int ((m : Nat) : Int) = x := Option.some.inj hx
      have hm := zones_rng b m (List.mem_of_getElem? hs)
      refine ⟨_, rfl, _, rfl, _, _, rfl, rfl, _, _, rfl, rfl, ⟨by omega, by omega, by decide⟩, _, _, rfl, rfl, rfl, some (.int ((m : Nat) : Int)), ?_⟩
      have e1 : (1 * 2 ^ (((m : Nat) : Int) - 1).toNat : Int) = ((2 ^ (m - 1) : Nat) : Int) := by
        rw [Int.one_mul, show (((m : Nat) : Int) - 1).toNat = m - 1 by omega]
        exact PyProof.Rows.two_pow_cast _
      have e2 : zb ((zonesOf b).take (i + 1)) = zb ((zonesOf b).take i) ||| 2 ^ (m - 1) := by
        rw [List.take_add_one, hs]
        unfold zb
        rw [List.foldl_append]
        rfl
      have e3 : Builtin.bitOr ((zb ((zonesOf b).take i) : Nat) : Int) (1 * 2 ^ (((m : Nat) : Int) - 1).toNat) = ((zb ((zonesOf b).take (i + 1)) : Nat) : Int) := by
        rw [e1, e2]; exact bitOr_nat _ _
      show List.set _ _ _ = _
      rw [← e3]
      rfl
  · rintro σ H' ⟨rfl, v, rfl⟩
    refine ⟨_, rfl, ?_⟩
    have e : (natV (zonesOf b)).length = (zonesOf b).length := List.length_map ..
    rw [e, List.take_length, zb_zones b hb]
    exact q

def spRis : Sp := fun vs H Q _ => ∃ (a : Addr) (ss : List Nat) (n lo : Nat) (hi : Int), vs = [.ref a, .int (n : Nat), .int (lo : Nat), .int hi] ∧ H a = some (.lst (natV ss)) ∧ 1 ≤ ss.length ∧ ss.length ≤ n ∧ ss.Pairwise (· < ·) ∧ (∀ x ∈ ss, lo ≤ x ∧ ((x : Nat) : Int) ≤ hi) ∧ Q (.bl true) H
theorem ok_are_rising (Tx : Tab K mg t) : FnOk P w K mg base CX0 3 t.f_are_rising t.d_are_rising ["values", "longest", "least", "most"] spRis := by
  refine Tx.F_are_rising.ok sc_are_rising (fun vs H Q E h => ?_) (fun cdv A outer s H vs Q E hr h => ?_)
  · obtain ⟨a, ss, n, lo, hi, rfl, _⟩ := h
    rfl
  obtain ⟨a, ss, n, lo, hi, rfl, ha, l1, l2, up, al, q⟩ := h
  refine ⟨_, (pss_cons (ps_if (PW.pt (pw_or (pt_not (pt_val (pe_callB call_isi_ty rfl Tx.z_isinstance b_isinstance (pac (pv 0) (pac (pe_gty rfl Tx.z_list b_list) pa_nil))))) (pw_or1 (pt_not (pt_chain op_le op_le pe_int (pe_callB call_len_seq rfl Tx.z_len b_len (pac (pv 0) pa_nil)) (pv 1))))))
    (pss_one (ps_ret pe_bl))
    pss_nil)
    (pss_cons (ps_set (i := 4) sc_are_rising.nd rfl (Or.inl rfl) (pv 2))
    (pss_cons (ps_for PassesOwn.never rfl (pi_list (pv 0)) (pg_name (i := 5) sc_are_rising.nd rfl (Or.inl rfl))
    (pss_cons (ps_if (pt_not (pt_val (pe_call (ok_is_number Tx) (hr.mono (by omega)) rfl Tx.m_is_number Tx.F_is_number.kp Tx.b_is_number .nil pass0 (pac (pv 5) (pac (pv 4) (pac (pv 3) pa_nil))))))
    (pss_one (ps_ret pe_bl))
    pss_nil)
    (pss_one (ps_set (i := 4) sc_are_rising.nd rfl (Or.inl rfl) (pe_op op_add (pv 5) pe_int)))))
    (pss_one (ps_ret pe_bl))))), ?_⟩
  have hlen : (natV ss).length = ss.length := List.length_map ..
  refine ⟨_, rfl, .ref a, "list", _, _, rfl, .lst ha, rfl, _, rfl, itF (by decide) ?_⟩
  refine ⟨_, rfl, a, _, rfl, .inl (SqL.of ha), _, _, rfl, rfl, _, rfl, itT (decide_eq_true (by rw [hlen]; omega)) ?_⟩
  refine ⟨_, rfl, _, _, rfl, rfl, _, rfl, itF (by rw [decide_eq_true (show (((natV ss).length : Nat) : Int) ≤ ((n : Nat) : Int) by rw [hlen]; omega)]; decide) ?_⟩
  refine ⟨_, rfl, _, rfl, a, rfl, ⟨_, SqL.of ha⟩, for_list (xs := natV ss) (fun i σ H' => H' = H ∧ ∃ (f : Nat) (v : Option V), σ = [some (.ref a), some (.int (n : Nat)), some (.int (lo : Nat)), some (.int hi), some (.int (f : Nat)), v] ∧ ∀ j x, i ≤ j → ss[j]? = some x → f ≤ x)
    ⟨rfl, lo, _, rfl, fun j x _ e => (al x (List.mem_of_getElem? e)).1⟩ (fun i σ H' _ ⟨e, _⟩ => by rw [e]; exact SqL.of ha) ?_ ?_⟩
  · rintro i x σ H' hx ⟨rfl, f, v, rfl, hf⟩
    rw [List.getElem?_map] at hx
    cases hs : ss[i]? with
    | none => rw [hs] at hx; cases hx
    | some m =>
      rw [hs] at hx
      obtain rfl : V.int ((m : Nat) : Int) = x := Option.some.inj hx
      have hm := al m (List.mem_of_getElem? hs)
      have fm := hf i m (Nat.le_refl _) hs
      refine ⟨_, rfl, _, rfl, _, rfl, .int (m : Nat), _, _, "int", rfl, .int _, _, rfl, itF (by rw [num_ok (by omega) hm.2]; decide) ?_⟩
      refine ⟨_, rfl, _, _, rfl, rfl, rfl, m + 1, _, rfl, fun j y hj e => ?_⟩
      have := List.pairwise_iff_getElem.mp up i j (List.getElem?_eq_some_iff.mp hs).1 (List.getElem?_eq_some_iff.mp e).1 (by omega)
      rw [(List.getElem?_eq_some_iff.mp hs).2, (List.getElem?_eq_some_iff.mp e).2] at this
      exact this
  · rintro σ H' ⟨rfl, f, v, rfl, _⟩
    exact q

structure Tk where
  nm : Str
  pr : Nat
  la : Nat
  b : Nat
structure Tk.Ok (k : Tk) : Prop where
  nm : NameOk k.nm
  pr : k.pr ≤ 10000
  la1 : 1 ≤ k.la
  la : k.la ≤ 1440
  b1 : 1 ≤ k.b
  b : k.b < 64
def findT (TK : List Tk) (z : Str) : Option Tk := TK.find? fun k => decide (k.nm = z)
theorem findT_mem {TK : List Tk} {z : Str} {k : Tk} (h : findT TK z = some k) : k ∈ TK ∧ k.nm = z := ⟨List.mem_of_find?_eq_some h, of_decide_eq_true (List.find?_some (p := fun k : Tk => decide (k.nm = z)) h)⟩
def RowIs (H : Hp) (kv : Key × V) (k : Tk) : Prop := kv.1 = Sum.inr k.nm ∧ ∃ r z, kv.2 = .ref r ∧ H r = some (.tup [.int (k.pr : Nat), .int (k.la : Nat), .ref z]) ∧ H z = some (.tup (natV (zonesOf k.b)))
theorem RowIs.same {H H' : Hp} {kv : Key × V} {k : Tk} (s : Same H H') (h : RowIs H kv k) : RowIs H' kv k := by
  obtain ⟨e, r, z, e1, e2, e3⟩ := h
  exact ⟨e, r, z, e1, s _ _ e2, s _ _ e3⟩
theorem rows_find {H : Hp} {rows : List (Key × V)} {TK : List Tk} (h : Al (RowIs H) rows TK) (z : Str) :
    (findT TK z = none → valV rows (Sum.inr z) = none) ∧ ∀ k, findT TK z = some k → ∃ v, valV rows (Sum.inr z) = some v ∧ RowIs H (Sum.inr z, v) k := by
  induction h with
  | nil => exact ⟨fun _ => rfl, fun k e => by cases e⟩
  | @cons kv k rows TK hr _ ih =>
    by_cases e : k.nm = z
    · have ek : kv.1 = Sum.inr z := by rw [hr.1, e]
      have ef : findT (k :: TK) z = some k := by unfold findT; rw [List.find?_cons, decide_eq_true e]
      refine ⟨fun n => (by rw [ef] at n; cases n), fun k' e' => ?_⟩
      rw [ef] at e'
      cases e'
      refine ⟨kv.2, valV_pos ek, ?_⟩
      obtain ⟨q1, q2⟩ := hr
      exact ⟨by show Sum.inr z = _; rw [e], q2⟩
    · have ek : kv.1 ≠ Sum.inr z := fun x => e (by rw [hr.1] at x; exact Sum.inr.inj x)
      have ef : findT (k :: TK) z = findT TK z := by unfold findT; rw [List.find?_cons, decide_eq_false e]
      have ev : valV (kv :: rows) (Sum.inr z) = valV rows (Sum.inr z) := by unfold valV; rw [List.find?_cons, decide_eq_false ek]
      rw [ef, ev]
      exact ih
structure NetF (fs : List (Str × V)) (d : Addr) : Prop where
  tr : fs.lookup ("ticket_rows" : Str) = some (V.ref d)
  n1 : fs.lookup ("ticket" : Str) = none
  n2 : fs.lookup ("tickets" : Str) = none
  n3 : fs.lookup ("add_ticket" : Str) = none
def NetAt (t : Adr) (H : Hp) (n : Addr) (TK : List Tk) : Prop := ∃ dx fs d rows, H n = some (.ins t.c_Net dx fs) ∧ NetF fs d ∧ H d = some (.dK rows) ∧ Al (RowIs H) rows TK
theorem NetAt.same {H H' : Hp} {n : Addr} {TK : List Tk} (s : Same H H') (h : NetAt t H n TK) : NetAt t H' n TK := by
  obtain ⟨dx, fs, d, rows, e1, e2, e3, e4⟩ := h
  exact ⟨dx, fs, d, rows, s _ _ e1, e2, s _ _ e3, e4.imp fun _ _ => RowIs.same s⟩
theorem fewS {f : Str} {v : V} {fs : List (Str × V)} {n : Nat} (h : fs.length ≤ n) : (putF f v fs).length ≤ n + 1 := Nat.le_trans (length_putF _ _ _) (Nat.succ_le_succ h)
def spInit (t : Adr) : Sp := fun vs H Q _ => ∃ (x : Addr) (H0 : Hp), vs = [.ref x] ∧ H0 x = none ∧ Same H0 H ∧ (∃ dx, H x = some (.ins t.c_Net dx [])) ∧ ∀ H', Same H0 H' → (∃ dx fs d, H' x = some (.ins t.c_Net dx fs) ∧ NetF fs d ∧ H' d = some (.dK []) ∧ H0 d = none) → Q .non H'
theorem ok_Net_init (Tx : Tab K mg t) : FnOk P w K mg base CX0 1 t.f_Net_init t.d_Net_init ["self"] (spInit t) := by
  refine Tx.F_Net_init.ok sc_Net_init (fun vs H Q E h => ?_) (fun cdv A outer s H vs Q E hr h => ?_)
  · obtain ⟨x, H0, rfl, _⟩ := h
    rfl
  obtain ⟨x, H0, rfl, n0, s0, ⟨dx, hx⟩, q⟩ := h
  refine ⟨_, (pss_cons (ps_fld (pv 0) pe_dnew rfl)
    (pss_cons (ps_fld (pv 0) (pe_lst pa_nil) rfl)
    (pss_cons (ps_fld (pv 0) pe_dnew rfl)
    (pss_cons (ps_fld (pv 0) pe_dnew rfl)
    (pss_one (ps_fld (pv 0) pe_dnew rfl)))))), ?_⟩
  intro p1 g1
  have s1 := s0.trans (same_new g1 (.dK []))
  have x1 : p1 ≠ x := fun z => by rw [z, hx] at g1; cases g1
  refine ⟨_, rfl, x, _, dx, [], rfl, (by rw [upd_ne x1.symm]; exact hx), Tx.cl_Net, Tx.na_Net_stop_rows, by decide, ?_⟩
  have s2 := same_put s1 n0 (.ins t.c_Net dx (putF "stop_rows" (.ref p1) []))
  refine ⟨by show 0 ≤ sizeLine; decide, fun p2 g2 => ?_⟩
  have s3 := s2.trans (same_new g2 (.lst []))
  have x2 : p2 ≠ x := fun z => by rw [z, upd_same] at g2; cases g2
  refine ⟨_, rfl, x, _, dx, _, rfl, (by rw [upd_ne x2.symm]; exact upd_same), Tx.cl_Net, Tx.na_Net_walk_rows, Nat.lt_of_le_of_lt (fewS (Nat.zero_le 0)) (by decide), ?_⟩
  have s4 := same_put s3 n0 (.ins t.c_Net dx (putF "walk_rows" (.ref p2) (putF "stop_rows" (.ref p1) [])))
  intro p3 g3
  have s5 := s4.trans (same_new g3 (.dK []))
  have x3 : p3 ≠ x := fun z => by rw [z, upd_same] at g3; cases g3
  refine ⟨_, rfl, x, _, dx, _, rfl, (by rw [upd_ne x3.symm]; exact upd_same), Tx.cl_Net, Tx.na_Net_rule_rows, Nat.lt_of_le_of_lt (fewS (fewS (Nat.zero_le 0))) (by decide), ?_⟩
  have s6 := same_put s5 n0 (.ins t.c_Net dx (putF "rule_rows" (.ref p3) (putF "walk_rows" (.ref p2) (putF "stop_rows" (.ref p1) []))))
  intro p4 g4
  have s7 := s6.trans (same_new g4 (.dK []))
  have x4 : p4 ≠ x := fun z => by rw [z, upd_same] at g4; cases g4
  refine ⟨_, rfl, x, _, dx, _, rfl, (by rw [upd_ne x4.symm]; exact upd_same), Tx.cl_Net, Tx.na_Net_ticket_rows, Nat.lt_of_le_of_lt (fewS (fewS (fewS (Nat.zero_le 0)))) (by decide), ?_⟩
  have s8 := same_put s7 n0 (.ins t.c_Net dx (putF "ticket_rows" (.ref p4) (putF "rule_rows" (.ref p3) (putF "walk_rows" (.ref p2) (putF "stop_rows" (.ref p1) [])))))
  have d8 := s6.free g4
  intro p5 g5
  have s9 := s8.trans (same_new g5 (.dK []))
  have x5 : p5 ≠ x := fun z => by rw [z, upd_same] at g5; cases g5
  have x54 : p5 ≠ p4 := fun z => by rw [z, upd_ne x4, upd_same] at g5; cases g5
  refine ⟨_, rfl, x, _, dx, _, rfl, (by rw [upd_ne x5.symm]; exact upd_same), Tx.cl_Net, Tx.na_Net_trip_rows, Nat.lt_of_le_of_lt (fewS (fewS (fewS (fewS (Nat.zero_le 0))))) (by decide), ?_⟩
  refine q _ (same_put s9 n0 _) ⟨dx, _, p4, upd_same, ⟨rfl, rfl, rfl, rfl⟩, ?_, d8⟩
  rw [upd_ne x4, upd_ne x54.symm, upd_ne x4]
  exact upd_same

def spTickets (t : Adr) : Sp := fun vs H Q _ => ∃ (n : Addr) (TK : List Tk), vs = [.ref n] ∧ NetAt t H n TK ∧ ∀ l H', Same H H' → H' l = some (.lst (TK.map fun k => V.str k.nm)) → Q (.ref l) H'
theorem rows_keys {H : Hp} {rows : List (Key × V)} {TK : List Tk} (h : Al (RowIs H) rows TK) : (rows.map fun kv => kV kv.1) = TK.map fun k => V.str k.nm := by
  induction h with
  | nil => rfl
  | cons a _ ih => rw [List.map_cons, List.map_cons, ih, a.1]; rfl
theorem ok_Net_tickets (Tx : Tab K mg t) : FnOk P w K mg base CX0 1 t.f_Net_tickets t.d_Net_tickets ["self"] (spTickets t) := by
  refine Tx.F_Net_tickets.ok sc_Net_tickets (fun vs H Q E h => ?_) (fun cdv A outer s H vs Q E hr h => ?_)
  · obtain ⟨n, TK, rfl, _⟩ := h
    rfl
  obtain ⟨n, TK, rfl, ⟨dx, fs, d, rows, e1, e2, e3, e4⟩, q⟩ := h
  refine ⟨_, (pss_one (ps_ret (pe_callTy (call_list_dict rfl) rfl Tx.z_list b_list (pac (pe_fld (pv 0) rfl) pa_nil)))), ?_⟩
  refine ⟨_, rfl, n, _, dx, _, _, rfl, e1, Tx.cl_Net, Tx.na_Net_ticket_rows, e2.tr, d, rows, rfl, e3, fun l hl => ?_⟩
  refine q l _ (same_new hl _) ?_
  rw [rows_keys e4]
  exact upd_same
def spTicket (t : Adr) : Sp := fun vs H Q _ => ∃ (n : Addr) (TK : List Tk) (k : Tk), vs = [.ref n, .str k.nm] ∧ NetAt t H n TK ∧ findT TK k.nm = some k ∧ ∀ p l H', Same H H' → H' p = some (.tup [.int (k.pr : Nat), .int (k.la : Nat), .ref l]) → H' l = some (.lst (natV (zonesOf k.b))) → Q (.ref p) H'
theorem ok_Net_ticket (Tx : Tab K mg t) : FnOk P w K mg base CX0 2 t.f_Net_ticket t.d_Net_ticket ["self", "name"] (spTicket t) := by
  refine Tx.F_Net_ticket.ok sc_Net_ticket (fun vs H Q E h => ?_) (fun cdv A outer s H vs Q E hr h => ?_)
  · obtain ⟨n, TK, k, rfl, _⟩ := h
    rfl
  obtain ⟨n, TK, k, rfl, ⟨dx, fs, d, rows, e1, e2, e3, e4⟩, ek, q⟩ := h
  obtain ⟨v, ev, _, r, z, rfl, er, ez⟩ := (rows_find e4 k.nm).2 k ek
  refine ⟨_, (pss_cons (ps_if (pt_not (pt_val (pe_call (ok_is_known Tx) (hr.mono (by omega)) rfl Tx.m_is_known Tx.F_is_known.kp Tx.b_is_known .nil pass0 (pac (pv 1) (pac (pe_fld (pv 0) rfl) pa_nil)))))
    (pss_one ps_never)
    pss_nil)
    (pss_cons (ps_set (i := 2) sc_Net_ticket.nd rfl (Or.inl rfl) (pe_dget (hu_of hr) (pe_fld (pv 0) rfl) (pv 1) (fun _ _ => rfl)))
    (pss_one (ps_ret (pe_tup (pac (pe_ix ix_tup (pv 2) pe_int (fun _ _ => rfl)) (pac (pe_ix ix_tup (pv 2) pe_int (fun _ _ => rfl)) (pac (pe_callTy call_list_of rfl Tx.z_list b_list (pac (pe_ix ix_tup (pv 2) pe_int (fun _ _ => rfl)) pa_nil)) pa_nil)))))))), ?_⟩
  refine ⟨_, rfl, _, rfl, n, _, dx, _, _, rfl, e1, Tx.cl_Net, Tx.na_Net_ticket_rows, e2.tr, k.nm, d, rows, rfl, e3, _, rfl, itF (by rw [ev]; exact Bool.false_ne_true) ?_⟩
  refine ⟨_, rfl, n, _, dx, _, _, rfl, e1, Tx.cl_Net, Tx.na_Net_ticket_rows, e2.tr, _, rfl, d, .ref r, rfl, ?_, ?_⟩
  · rw [← ev]; exact DGet.k (k := Sum.inr k.nm) e3
  refine ⟨_, rfl, r, _, 0, _, rfl, rfl, SqT.of er, rfl, _, rfl, r, _, 1, _, rfl, rfl, SqT.of er, rfl, _, rfl, r, _, 2, _, rfl, rfl, SqT.of er, rfl, z, _, rfl, .inr (SqT.of ez), fun l hl => ?_⟩
  have s1 := same_new hl (.lst (natV (zonesOf k.b)))
  refine ⟨by show 3 ≤ sizeLine; decide, fun p hp => ?_⟩
  exact q p l _ (s1.trans (same_new hp _)) upd_same ((same_new hp _) _ _ upd_same)
def spFits (t : Adr) : Sp := fun vs H Q _ => ∃ (n : Addr) (TK : List Tk) (k : Tk) (b : Nat), vs = [.ref n, .str k.nm, .int (b : Nat)] ∧ NetAt t H n TK ∧ findT TK k.nm = some k ∧ k.b < 64 ∧ ∀ H', Same H H' → Q (.bl (decide (k.b &&& b = b))) H'
theorem ok_fits (Tx : Tab K mg t) : FnOk P w K mg base CX0 3 t.f_fits t.d_fits ["net", "ticket", "bits"] (spFits t) := by
  refine Tx.F_fits.ok sc_fits (fun vs H Q E h => ?_) (fun cdv A outer s H vs Q E hr h => ?_)
  · obtain ⟨n, TK, k, b, rfl, _⟩ := h
    rfl
  obtain ⟨n, TK, k, b, rfl, hN, ek, kb, q⟩ := h
  have hN' := hN
  obtain ⟨dx, fs, d, rows, e1, e2, e3, e4⟩ := hN'
  refine ⟨_, (pss_one (ps_ret (pe_cmpR op_eq (pe_op op_and (pe_call (ok_zone_bits Tx) (hr.mono (by omega)) rfl Tx.m_zone_bits Tx.F_zone_bits.kp Tx.b_zone_bits .nil pass0 (pac (pe_ix ix_tup (pe_meth (pv 0) Tx.cl_Net Tx.me_Net_ticket (ok_Net_ticket Tx) (hr.mono (by omega)) Tx.b_Net_ticket .nil pass0 (pac (pv 1) pa_nil)) pe_int (fun _ _ => rfl)) pa_nil)) (pv 2)) (pv 2) (nomark _)))), ?_⟩
  refine ⟨_, rfl, n, dx, _, rfl, e1, e2.n1, _, rfl, n, TK, k, rfl, hN, ek, fun p l H1 s1 hp hl => ?_⟩
  refine ⟨p, _, 2, _, rfl, rfl, SqT.of hp, rfl, l, k.b, rfl, SqL.of hl, kb, _, rfl, _, _, rfl, rfl, _, rfl, rfl, ?_⟩
  have e : decide (V.int (Builtin.bitAnd ((k.b : Nat) : Int) ((b : Nat) : Int)) = V.int ((b : Nat) : Int)) = decide (k.b &&& b = b) := by
    rw [bitAnd_nat]
    exact decide_eq_decide.mpr ⟨fun x => by injection x with x; omega, fun x => by rw [x]⟩
  have q2 := q H1 s1
  rw [← e] at q2
  exact q2

structure Rd where
  b : Nat
  mo : Int
def RdAt (H : Hp) (v : V) (r : Rd) : Prop := ∃ p, v = .ref p ∧ H p = some (.tup [.int (r.b : Nat), .int r.mo])
theorem RdAt.same {H H' : Hp} {v : V} {r : Rd} (s : Same H H') (h : RdAt H v r) : RdAt H' v r := let ⟨p, e, h⟩ := h; ⟨p, e, s _ _ h⟩
def nmV : Option Str → V
  | none => .non
  | some z => .str z
def heldV : Option (Tk × Int) → List V
  | none => [.non, .int (-1)]
  | some (k, u) => [.str k.nm, .int u]
def buyM (r : Rd) : Option Tk → Option (Tk × Int)
  | some k => if k.b &&& r.b = r.b then some (k, r.mo + k.la) else none
  | none => none
def keepM (r : Rd) : Option (Tk × Int) → Option (Tk × Int)
  | some (k, u) => if k.b &&& r.b = r.b ∧ r.mo < u then some (k, u) else none
  | none => none
def stepM (TK : List Tk) (held : Option (Tk × Int)) (r : Rd) : Option Str → Option (Tk × Int)
  | some z => buyM r (findT TK z)
  | none => keepM r held
def priceM (TK : List Tk) : Option Str → Nat
  | none => 0
  | some z => match findT TK z with
    | some k => k.pr
    | none => 0
def spentM (TK : List Tk) : Option (Tk × Int) → Nat → List Rd → List (Option Str) → Option Nat
  | h, p, r :: rs, n :: ns => match stepM TK h r n with
    | some h' => spentM TK (some h') (p + priceM TK n) rs ns
    | none => none
  | _, p, [], _ => some p
  | _, p, _ :: _, [] => some p
def optV : Option Nat → V
  | none => .non
  | some n => .int (n : Nat)
def HeldOk (TK : List Tk) : Option (Tk × Int) → Prop
  | none => True
  | some (k, _) => findT TK k.nm = some k
theorem findT_nm {TK : List Tk} {z : Str} {k : Tk} (h : findT TK z = some k) : findT TK k.nm = some k := by rw [(findT_mem h).2]; exact h
theorem step_ok {TK : List Tk} {h : Option (Tk × Int)} {r : Rd} {n : Option Str} {h' : Tk × Int} (ho : HeldOk TK h) (e : stepM TK h r n = some h') : HeldOk TK (some h') := by
  cases n with
  | some z =>
    have e : buyM r (findT TK z) = some h' := e
    cases ef : findT TK z with
    | none => rw [ef] at e; cases e
    | some k =>
      rw [ef] at e
      have e : (if k.b &&& r.b = r.b then some (k, r.mo + k.la) else none) = some h' := e
      by_cases c : k.b &&& r.b = r.b
      · rw [if_pos c] at e; cases e; exact findT_nm ef
      · rw [if_neg c] at e; cases e
  | none =>
    match h, ho, e with
    | none, _, e => cases e
    | some (k, u), ho, e =>
      by_cases c : k.b &&& r.b = r.b ∧ r.mo < u
      · have e' : (if k.b &&& r.b = r.b ∧ r.mo < u then some (k, u) else none) = some h' := e
        rw [if_pos c] at e'; cases e'; exact ho
      · have e' : (if k.b &&& r.b = r.b ∧ r.mo < u then some (k, u) else none) = some h' := e
        rw [if_neg c] at e'; cases e'
theorem inV_names (TK : List Tk) (z : Str) : inV (.str z) (TK.map fun k => V.str k.nm) = (findT TK z).isSome := by
  induction TK with
  | nil => rfl
  | cons k TK ih =>
    unfold inV at ih ⊢
    rw [List.map_cons, List.any_cons, ih]
    unfold findT
    rw [List.find?_cons]
    by_cases e : k.nm = z
    · rw [decide_eq_true e, e]
      show ((z == z) || _) = _
      rw [beq_self_eq_true]; rfl
    · rw [decide_eq_false e]
      show ((k.nm == z) || _) = _
      rw [show (k.nm == z) = false from beq_eq_false_iff_ne.mpr e]; rfl
theorem inV_non (TK : List Tk) : inV .non (TK.map fun k => V.str k.nm) = false := by
  induction TK with
  | nil => rfl
  | cons k TK ih => exact ih
theorem flat_names (TK : List Tk) : (TK.map fun k => V.str k.nm).all flatV = true := by
  rw [List.all_eq_true]
  intro v hv
  obtain ⟨k, _, rfl⟩ := List.mem_map.mp hv
  rfl
def spHeldT (t : Adr) (K : W.Frag) : Sp := fun vs H Q _ => ∃ (n h : Addr) (TK : List Tk) (held : Option (Tk × Int)) (vr : V) (r : Rd) (nm : Option Str), vs = [.ref n, .ref h, vr, nmV nm] ∧ NetAt t H n TK ∧ (∀ k ∈ TK, k.Ok) ∧ SqT K H h (heldV held) ∧ (∀ x, held = some x → H h = some (.tup (heldV (some x)))) ∧ HeldOk TK held ∧ RdAt H vr r ∧
  (stepM TK held r nm = none → ∀ H', Same H H' → Q .non H') ∧ ∀ x, stepM TK held r nm = some x → ∀ h' H', Same H H' → H' h' = some (.tup (heldV (some x))) → Q (.ref h') H'
theorem ok_held_behind_t (Tx : Tab K mg t) : FnOk P w K mg base CX0 4 t.f_held_behind t.d_held_behind ["net", "held", "ride", "name"] (spHeldT t K) := by
  refine Tx.F_held_behind.ok sc_held_behind (fun vs H Q E h => ?_) (fun cdv A outer s H vs Q E hr h => ?_)
  · obtain ⟨n, h, TK, held, vr, r, nm, rfl, _⟩ := h
    rfl
  obtain ⟨n, h, TK, held, vr, r, nm, rfl, hN, hK, hh, ht, ho, ⟨p, rfl, hr'⟩, qn, qs⟩ := h
  have hN' := hN
  obtain ⟨dx, fs, d, rows, e1, e2, e3, e4⟩ := hN'
  refine ⟨_, (pss_cons (ps_set (i := 4) sc_held_behind.nd rfl (Or.inl rfl) (pe_ifExp (pt_cmp (pc_isN (pv 3))) (pe_ix ix_tup (pv 1) pe_int (fun _ _ => rfl)) (pv 3)))
    (pss_cons (ps_if (PW.pt (pw_or (pt_cmpR op_notIn_seq (pv 4) (pe_meth0 (pv 0) Tx.cl_Net Tx.me_Net_tickets (ok_Net_tickets Tx) (hr.mono (by omega)) Tx.b_Net_tickets .nil pass0) rfl) (pw_or1 (pt_not (pt_val (pe_call (ok_fits Tx) (hr.mono (by omega)) rfl Tx.m_fits Tx.F_fits.kp Tx.b_fits .nil pass0 (pac (pv 0) (pac (pv 4) (pac (pe_ix ix_tup (pv 2) pe_int (fun _ _ => rfl)) pa_nil)))))))))
    (pss_one (ps_ret pe_non))
    pss_nil)
    (pss_cons (ps_if (pt_cmp (pc_notN (pv 3)))
    (pss_one (ps_ret (pe_tup (pac (pv 3) (pac (pe_op op_add (pe_ix ix_tup (pv 2) pe_int (fun _ _ => rfl)) (pe_ix ix_tup (pe_meth (pv 0) Tx.cl_Net Tx.me_Net_ticket (ok_Net_ticket Tx) (hr.mono (by omega)) Tx.b_Net_ticket .nil pass0 (pac (pv 3) pa_nil)) pe_int (fun _ _ => rfl))) pa_nil)))))
    pss_nil)
    (pss_one (ps_ret (pe_ifExp (pt_cmpR op_lt (pe_ix ix_tup (pv 2) pe_int (fun _ _ => rfl)) (pe_ix ix_tup (pv 1) pe_int (fun _ _ => rfl)) (nomark _)) (pv 1) pe_non)))))), ?_⟩
  cases nm with
  | none =>
    refine ⟨_, rfl, _, rfl, itT rfl ?_⟩
    cases held with
    | none =>
      refine ⟨_, rfl, h, _, 0, _, rfl, rfl, hh, rfl, ?_⟩
      refine ⟨_, rfl, _, rfl, n, dx, _, rfl, e1, e2.n2, n, TK, rfl, hN, fun l H1 s1 hl => ?_⟩
      refine ⟨l, _, rfl, .inl (SqL.of hl), rfl, flat_names TK, _, rfl, itT (by rw [inV_non]; decide) ?_⟩
      exact qn rfl H1 s1
    | some ku =>
      obtain ⟨k, u⟩ := ku
      have hk : findT TK k.nm = some k := ho
      have kok := hK k (findT_mem hk).1
      refine ⟨_, rfl, h, _, 0, _, rfl, rfl, hh, rfl, ?_⟩
      refine ⟨_, rfl, _, rfl, n, dx, _, rfl, e1, e2.n2, n, TK, rfl, hN, fun l H1 s1 hl => ?_⟩
      refine ⟨l, _, rfl, .inl (SqL.of hl), rfl, flat_names TK, _, rfl, itF (by rw [inV_names, hk]; exact Bool.false_ne_true) ?_⟩
      refine ⟨_, rfl, _, rfl, _, rfl, p, _, 0, _, rfl, rfl, SqT.of (s1 _ _ hr'), rfl, n, TK, k, r.b, rfl, hN.same s1, hk, kok.b, fun H2 s2 => ?_⟩
      have S2 := s1.trans s2
      have hh2 : SqT K H2 h (heldV (some (k, u))) := S2.seqT hh
      by_cases c : k.b &&& r.b = r.b
      · refine ⟨_, rfl, itF (by rw [decide_eq_true c]; decide) ?_⟩
        refine ⟨_, rfl, _, rfl, itF (by decide) ?_⟩
        refine ⟨_, rfl, p, _, 1, _, rfl, rfl, SqT.of (S2 _ _ hr'), rfl, _, rfl, h, _, 1, _, rfl, rfl, hh2, rfl, _, _, rfl, rfl, _, rfl, ?_⟩
        by_cases c2 : r.mo < u
        · refine itT (decide_eq_true c2) ⟨_, rfl, ?_⟩
          exact qs (k, u) (by show (if k.b &&& r.b = r.b ∧ r.mo < u then some (k, u) else none) = _; rw [if_pos ⟨c, c2⟩]) h H2 S2 (S2 _ _ (ht _ rfl))
        · refine itF (by rw [decide_eq_false c2]; decide) ?_
          exact qn (by show (if k.b &&& r.b = r.b ∧ r.mo < u then some (k, u) else none) = _; rw [if_neg fun z => c2 z.2]) H2 S2
      · refine ⟨_, rfl, itT (by rw [decide_eq_false c]; decide) ?_⟩
        exact qn (by show (if k.b &&& r.b = r.b ∧ r.mo < u then some (k, u) else none) = _; rw [if_neg fun z => c z.1]) H2 S2
  | some z =>
    refine ⟨_, rfl, _, rfl, itF (by intro y; cases y) ?_⟩
    refine ⟨_, rfl, ?_⟩
    refine ⟨_, rfl, _, rfl, n, dx, _, rfl, e1, e2.n2, n, TK, rfl, hN, fun l H1 s1 hl => ?_⟩
    cases ef : findT TK z with
    | none =>
      refine ⟨l, _, rfl, .inl (SqL.of hl), rfl, flat_names TK, _, rfl, itT (by rw [show inV (nmV (some z)) (TK.map fun k => V.str k.nm) = (findT TK z).isSome from inV_names TK z, ef]; decide) ?_⟩
      exact qn (by show buyM r (findT TK z) = none; rw [ef]; rfl) H1 s1
    | some k =>
      have hk := findT_nm ef
      have kok := hK k (findT_mem hk).1
      have ez : z = k.nm := (findT_mem ef).2.symm
      subst ez
      have es : stepM TK held r (some k.nm) = if k.b &&& r.b = r.b then some (k, r.mo + k.la) else none := by
        show buyM r (findT TK k.nm) = _
        rw [ef]; rfl
      refine ⟨l, _, rfl, .inl (SqL.of hl), rfl, flat_names TK, _, rfl, itF (by rw [show inV (nmV (some k.nm)) (TK.map fun k => V.str k.nm) = (findT TK k.nm).isSome from inV_names TK k.nm, ef]; exact Bool.false_ne_true) ?_⟩
      refine ⟨_, rfl, _, rfl, _, rfl, p, _, 0, _, rfl, rfl, SqT.of (s1 _ _ hr'), rfl, n, TK, k, r.b, rfl, hN.same s1, hk, kok.b, fun H2 s2 => ?_⟩
      have S2 := s1.trans s2
      by_cases c : k.b &&& r.b = r.b
      · refine ⟨_, rfl, itF (by rw [decide_eq_true c]; decide) ?_⟩
        refine ⟨_, rfl, _, rfl, itT (by show (!decide (V.str k.nm = V.non)) = true; simp) ?_⟩
        refine ⟨_, rfl, _, rfl, p, _, 1, _, rfl, rfl, SqT.of (S2 _ _ hr'), rfl, _, rfl, n, dx, _, rfl, S2 _ _ e1, e2.n1, _, rfl, n, TK, k, rfl, hN.same S2, hk, fun p3 l3 H3 s3 hp3 hl3 => ?_⟩
        refine ⟨p3, _, 1, _, rfl, rfl, SqT.of hp3, rfl, _, _, rfl, rfl, by show 2 ≤ sizeLine; decide, fun p4 hp4 => ?_⟩
        exact qs (k, r.mo + k.la) (by rw [es, if_pos c]) p4 _ ((S2.trans s3).trans (same_new hp4 _)) upd_same
      · refine ⟨_, rfl, itT (by rw [decide_eq_false c]; decide) ?_⟩
        exact qn (by rw [es, if_neg c]) H2 S2

def spPriceFor (t : Adr) : Sp := fun vs H Q _ => ∃ (n : Addr) (TK : List Tk) (nm : Option Str), vs = [.ref n, nmV nm] ∧ NetAt t H n TK ∧ (∀ z, nm = some z → ∃ k, findT TK z = some k) ∧ ∀ H', Same H H' → Q (.int (priceM TK nm : Nat)) H'
theorem ok_price_for (Tx : Tab K mg t) : FnOk P w K mg base CX0 3 t.f_price_for t.d_price_for ["net", "name"] (spPriceFor t) := by
  refine Tx.F_price_for.ok sc_price_for (fun vs H Q E h => ?_) (fun cdv A outer s H vs Q E hr h => ?_)
  · obtain ⟨n, TK, nm, rfl, _⟩ := h
    rfl
  obtain ⟨n, TK, nm, rfl, hN, hf, q⟩ := h
  have hN' := hN
  obtain ⟨dx, fs, d, rows, e1, e2, e3, e4⟩ := hN'
  refine ⟨_, (pss_one (ps_ret (pe_ifExp (pt_cmp (pc_isN (pv 1))) pe_int (pe_ix ix_tup (pe_meth (pv 0) Tx.cl_Net Tx.me_Net_ticket (ok_Net_ticket Tx) (hr.mono (by omega)) Tx.b_Net_ticket .nil pass0 (pac (pv 1) pa_nil)) pe_int (fun _ _ => rfl))))), ?_⟩
  cases nm with
  | none => exact ⟨_, rfl, _, rfl, itT rfl (q H (Same.refl H))⟩
  | some z =>
    obtain ⟨k, ek⟩ := hf z rfl
    have ez : z = k.nm := (findT_mem ek).2.symm
    subst ez
    refine ⟨_, rfl, _, rfl, itF (by intro y; cases y) ?_⟩
    refine ⟨_, rfl, n, dx, _, rfl, e1, e2.n1, _, rfl, n, TK, k, rfl, hN, ek, fun p l H1 s1 hp hl => ?_⟩
    refine ⟨p, _, 0, _, rfl, rfl, SqT.of hp, rfl, ?_⟩
    have q2 := q H1 s1
    rw [show priceM TK (some k.nm) = k.pr by show (match findT TK k.nm with | some k => k.pr | none => 0) = k.pr; rw [ek]] at q2
    exact q2
theorem spent_step {TK : List Tk} {R : List Rd} {B : List (Option Str)} {i : Nat} {r : Rd} {n : Option Str} (h : Option (Tk × Int)) (p : Nat) (hr : R[i]? = some r) (hn : B[i]? = some n) :
    spentM TK h p (R.drop i) (B.drop i) = match stepM TK h r n with | some h' => spentM TK (some h') (p + priceM TK n) (R.drop (i + 1)) (B.drop (i + 1)) | none => none := by
  have e1 : R.drop i = r :: R.drop (i + 1) := by
    obtain ⟨h1, h2⟩ := List.getElem?_eq_some_iff.mp hr
    rw [List.drop_eq_getElem_cons h1, h2]
  have e2 : B.drop i = n :: B.drop (i + 1) := by
    obtain ⟨h1, h2⟩ := List.getElem?_eq_some_iff.mp hn
    rw [List.drop_eq_getElem_cons h1, h2]
  rw [e1, e2]
  rfl
theorem spent_end {TK : List Tk} {R : List Rd} {B : List (Option Str)} {i : Nat} (h : Option (Tk × Int)) (p : Nat) (hi : i = min R.length B.length) : spentM TK h p (R.drop i) (B.drop i) = some p := by
  rcases Nat.le_total R.length B.length with hl | hl
  · rw [List.drop_eq_nil_of_le (show R.length ≤ i by omega)]
    unfold spentM
    rfl
  · rw [List.drop_eq_nil_of_le (show B.length ≤ i by omega)]
    cases R.drop i <;> rfl
def spWhole : Sp := fun vs H Q _ => ∃ (v : V) (T : String), vs = [v] ∧ Kd H v T ∧ Q (.bl (wholeV v)) H
theorem ok_law_whole (Tx : Tab K mg t) : FnOk P w K mg base CX0 1 t.f_law_whole t.d_law_whole ["_law_found"] spWhole := by
  refine Tx.F_law_whole.ok sc_law_whole (fun vs H Q E h => ?_) (fun cdv A outer s H vs Q E hr h => ?_)
  · obtain ⟨v, T, rfl, _⟩ := h
    rfl
  obtain ⟨v, T, rfl, kd, q⟩ := h
  refine ⟨_, (pss_one (ps_ret (pe_and (pe_callB call_isi_ty rfl Tx.z_isinstance b_isinstance (pac (pv 0) (pac (pe_gty rfl Tx.z_int b_int) pa_nil))) (pe_one (pe_not (pe_callB call_isi_ty rfl Tx.z_isinstance b_isinstance (pac (pv 0) (pac (pe_gty rfl Tx.z_bool b_bool) pa_nil)))))))), ?_⟩
  refine ⟨_, rfl, v, "int", _, _, rfl, kd.ty, kit_int kd, _, rfl, ?_⟩
  cases kd with
  | non => exact itF (by decide) q
  | str x => exact itF (by decide) q
  | lst e => exact itF (by decide) q
  | tup e => exact itF (by decide) q
  | dK e => exact itF (by decide) q
  | bl b => exact itT (by decide) ⟨_, rfl, _, "bool", _, _, rfl, (Kd.bl b).ty (H := H), kit_bool (H := H) (.bl b), _, rfl, q⟩
  | int i => exact itT (by decide) ⟨_, rfl, _, "bool", _, _, rfl, (Kd.int i).ty (H := H), kit_bool (H := H) (.int i), _, rfl, q⟩


def spDraw (K : W.Frag) : Sp := fun vs H Q _ => ∃ (a : Addr) (ns : List Int) (k : Int), vs = [.ref a, .int k] ∧ SqL K H a (ns.map V.int) ∧ 0 ≤ k ∧ k ≤ 100000 ∧ ∀ (d : Nat) H', d < 998244353 → Same H H' → Q (.int (d : Nat)) H'
theorem ok_law_draw (Tx : Tab K mg t) : FnOk P w K mg base CX0 1 t.f_law_draw t.d_law_draw ["_law_script", "_law_k"] (spDraw K) := by
  refine Tx.F_law_draw.ok sc_law_draw (fun vs H Q E h => ?_) (fun cdv A outer s H vs Q E hr h => ?_)
  · obtain ⟨a, ns, k, rfl, _⟩ := h
    rfl
  obtain ⟨a, ns, k, rfl, hS, k0, k1, q⟩ := h
  refine ⟨_, (pss_cons (ps_set (i := 2) sc_law_draw.nd rfl (Or.inl rfl) pe_int)
    (pss_join (ps_if (pt_cmpR (op_ne_lst hr.units0) (pv 0) (pe_lst pa_nil) (nomark _))
    (pss_one (ps_set (i := 2) sc_law_draw.nd rfl (Or.inl rfl) (pe_ix ix_list (pv 0) (pe_op op_mod (pv 1) (pe_callB call_len_seq rfl Tx.z_len b_len (pac (pv 0) pa_nil))) (fun _ _ => rfl))))
    pss_nil)
    (pss_cons (ps_set (i := 3) sc_law_draw.nd rfl (Or.inl rfl) (pe_op op_add (pe_op op_add (pe_op op_mod (pv 2) pe_int) (pe_op op_mul pe_int (pv 1))) pe_int))
    (pss_one (ps_ret (pe_op op_fdiv (pe_op op_mod (pe_op op_mul (pe_op op_mod (pe_op op_mul (pv 3) (pv 3)) pe_int) (pv 3)) pe_int) pe_int)))))), ?_⟩
  refine ⟨fun σ H' => Same H H' ∧ ∃ c : Int, σ = [some (.ref a), some (.int k), some (.int c), none], ?_, ?_⟩
  · refine ⟨_, rfl, (by show 0 ≤ sizeLine; decide), fun p hp => ?_⟩
    have sm := same_new hp (.lst [])
    refine ⟨a, p, _, _, rfl, rfl, sm.seq hS, SqL.of upd_same, flat_ints ns, rfl, _, rfl, ?_⟩
    cases ns with
    | nil => exact itF (by decide) ⟨sm, 0, rfl⟩
    | cons n r =>
      refine itT rfl ?_
      have hpos : (0 : Int) < (((n :: r).map V.int).length : Nat) := by rw [List.length_map, List.length_cons]; omega
      have h1 := Int.emod_nonneg k (show ((((n :: r).map V.int).length : Nat) : Int) ≠ 0 by omega)
      have h2 := Int.emod_lt_of_pos k hpos
      have hlt : (k % (((n :: r).map V.int).length : Nat)).toNat < (n :: r).length := by
        rw [List.length_map] at h1 h2 ⊢
        omega
      refine ⟨_, rfl, _, rfl, _, rfl, a, _, rfl, .inl (sm.seq hS), _, _, rfl, rfl, hpos, a, _, _, .int ((n :: r)[(k % (((n :: r).map V.int).length : Nat)).toNat]), rfl, rfl, sm.seq hS, ?_, sm, _, rfl⟩
      have e : k % (((n :: r).map V.int).length : Nat) = (((k % (((n :: r).map V.int).length : Nat)).toNat : Nat) : Int) := by omega
      have q2 : atI ((n :: r).map V.int) (((k % (((n :: r).map V.int).length : Nat)).toNat : Nat) : Int) = some (.int ((n :: r)[(k % (((n :: r).map V.int).length : Nat)).toNat])) := atI_nat (by rw [List.getElem?_map, List.getElem?_eq_getElem hlt]; rfl)
      rw [← e] at q2
      exact q2
  · rintro σ H' ⟨sm, c, rfl⟩
    have g1 : 0 ≤ c % 1000000007 := Int.emod_nonneg _ (by decide)
    have g2 : c % 1000000007 < 1000000007 := Int.emod_lt_of_pos _ (by decide)
    refine ⟨_, rfl, _, _, rfl, rfl, (by show (0 : Int) < 1000000007; decide), _, rfl, _, _, rfl, rfl, .inl ⟨by decide, by decide⟩, _, _, rfl, rfl, _, _, rfl, rfl, ?_⟩
    refine ⟨_, rfl, _, rfl, _, _, rfl, rfl, mulM (by show 0 ≤ c % 1000000007 + 7919 * k + 13; omega) (by show c % 1000000007 + 7919 * k + 13 < _; omega), _, _, rfl, rfl, (by show (0 : Int) < 1000000007; decide), _, rfl, _, _, rfl, rfl,
      mulM (by show 0 ≤ c % 1000000007 + 7919 * k + 13; omega) (by show c % 1000000007 + 7919 * k + 13 < _; omega), _, _, rfl, rfl, (by show (0 : Int) < 998244353; decide), _, _, rfl, rfl, ⟨by decide, by decide⟩, ?_⟩
    have e : ∀ z : Int, ∃ d : Nat, d < 998244353 ∧ z % 998244353 / 11 = ((d : Nat) : Int) := fun z => ⟨(z % 998244353 / 11).toNat, by omega, by omega⟩
    obtain ⟨d, hd, ed⟩ := e ((c % 1000000007 + 7919 * k + 13) * (c % 1000000007 + 7919 * k + 13) % 1000000007 * (c % 1000000007 + 7919 * k + 13))
    have q2 := q d H' hd sm
    rw [← ed] at q2
    exact q2
def tx (l : List Nat) : Str := ⟨l.toArray⟩
theorem tx_len (l : List Nat) : (tx l).length = l.length := by show l.toArray.size = _; rw [List.size_toArray]
theorem tx_app (a b : List Nat) : tx a ++ tx b = tx (a ++ b) := by
  show Str.mk (a.toArray ++ b.toArray) = _
  rw [List.append_toArray]; rfl
theorem tx_list (l : List Nat) : (tx l).cps.toList = l := by show l.toArray.toList = l; rfl
theorem tx_inj {a b : List Nat} (h : tx a = tx b) : a = b := by
  have := congrArg (fun z : Str => z.cps.toList) h
  rwa [tx_list, tx_list] at this
theorem join_signs : ∀ l : List Nat, Str.join (Str.ofString "") (l.map fun c => tx [c]) = tx l
  | [] => rfl
  | c :: l => by
    rw [List.map_cons, show Str.ofString "" = (⟨#[]⟩ : Str) from rfl, PyProof.Rows.join_nil_cons]
    have ih := join_signs l
    rw [show Str.ofString "" = (⟨#[]⟩ : Str) from rfl] at ih
    rw [ih, tx_app]
    rfl
theorem lt_at : ∀ i : Nat, i < 26 → atI (Str.ofString "abcdefghijklmnopqrstuvwxyz").cps.toList (i : Int) = some (97 + i) := by decide +kernel
theorem nodup_range_map {f : Nat → Str} {n : Nat} (h : ∀ i j, i < j → j < n → f i ≠ f j) : ((List.range n).map f).Nodup := by
  unfold List.Nodup
  rw [List.pairwise_map]
  exact List.Pairwise.imp_of_mem (fun {a b} ha hb hab => h a b hab (List.mem_range.mp hb)) List.pairwise_lt_range
theorem signs_room (l : List Nat) (h : l.length ≤ 20) : ((l.map fun c => tx [c]).map fun x => x.length + (Str.ofString "").length).sum ≤ sizeLine :=
  join_room (m := 0) (by decide) (by rw [List.length_map]; exact h) fun x hx => by
    obtain ⟨c, _, rfl⟩ := List.mem_map.mp hx
    rw [tx_len, List.length_singleton]; decide
theorem nowh : Str.ofString "nowhere" = tx [110, 111, 119, 104, 101, 114, 101] := by decide +kernel
def rowC (d q m : Nat) (n : Nat) : List Nat := (List.range n).map fun j => 97 + (d / q + m * j) % 26
theorem row_nth {d q m n j : Nat} (h : j < n) : (rowC d q m n)[j]? = some (97 + (d / q + m * j) % 26) := by
  unfold rowC
  rw [List.getElem?_map, List.getElem?_range h]; rfl
theorem rowC_len (d q m n : Nat) : (rowC d q m n).length = n := by unfold rowC; rw [List.length_map, List.length_range]
theorem rowC_ok (d q m n : Nat) : ∀ c ∈ rowC d q m n, 97 ≤ c ∧ c ≤ 122 := fun c h => by
  obtain ⟨j, _, rfl⟩ := List.mem_map.mp h
  omega
theorem signs_comp {H : Hp} {Q : VK} {te : TE} {σ0 : St} {d q m n : Nat} {g : TG} (hn : n ≤ 8) (h0 : σ0 = [none, some (.str (Str.ofString "abcdefghijklmnopqrstuvwxyz")), some (.int (d : Nat))]) (hg : g = gName 0)
    (ht : ∀ (i : Nat) (Q' : VK), i < n → Q' (.str (tx [97 + (d / q + m * i) % 26])) H → te [some (.int ((i : Nat) : Int)), some (.str (Str.ofString "abcdefghijklmnopqrstuvwxyz")), some (.int (d : Nat))] H Q')
    (hq : endC Q (((rowC d q m n).map fun c => tx [c]).map V.str) H) :
    ∃ W : Nat → Nat → List V → St → Hp → Prop, (∃ m, W 0 m [] σ0 H) ∧ ∀ i m acc σ1 H, W i m acc σ1 H →
      ((Itr 0 n).stop i H ∧ endC Q acc H) ∨
      ((Itr 0 n).go i H ∧ acc.length < sizeLine ∧ ∃ N : List V → St → Hp → Prop, (∀ acc' σ' H', N acc' σ' H' → ∃ m', m' < m ∧ W (i + 1) m' acc' σ' H') ∧ ∀ x H', (Itr 0 n).yld i H x H' → g x σ1 H' fun σ2 H2 => tTrue σ2 H2 fun b H3 => if b = true then te σ2 H3 fun y H4 => N (acc ++ [y]) σ2 H4 else N acc σ2 H3) := by
  subst hg
  refine comp_range (fun i acc σ H' => H' = H ∧ acc = ((rowC d q m i).map fun c => tx [c]).map V.str ∧ ∃ v, σ = [v, some (.str (Str.ofString "abcdefghijklmnopqrstuvwxyz")), some (.int (d : Nat))]) ⟨rfl, rfl, none, h0⟩ (Nat.le_trans hn (by decide)) ?_ ?_
  · rintro i acc σ H' hi ha ⟨rfl, rfl, v, rfl⟩
    dsimp only [gName, tTrue]
    rw [if_pos rfl]
    have e0 : (0 : Int) + ((i : Nat) : Int) = ((i : Nat) : Int) := by omega
    rw [e0]
    refine ht i _ hi ⟨?_, rfl, ?_, _, rfl⟩
    · rw [List.length_append, List.length_singleton]; omega
    · unfold rowC
      rw [List.range_succ, List.map_append, List.map_append, List.map_append]
      rfl
  · rintro acc σ H' ha ⟨rfl, rfl, v, rfl⟩
    exact hq
def spNames (K : W.Frag) : Sp := fun vs H Q _ => ∃ (a : Addr) (ns : List Int) (k : Int) (many : Nat), vs = [.ref a, .int k, .int (many : Nat)] ∧ SqL K H a (ns.map V.int) ∧ 0 ≤ k ∧ k ≤ 100000 ∧ many ≤ 8 ∧
  ∀ (NS : List Str) l H', Same H H' → H l = none → H' l = some (.lst (NS.map V.str)) → NS.length = many → NS.Nodup → (∀ z ∈ NS, NameOk z) → Q (.ref l) H'
theorem ok_law_names (Tx : Tab K mg t) : FnOk P w K mg base CX0 2 t.f_law_names t.d_law_names ["_law_script", "_law_k", "_law_many"] (spNames K) := by
  refine Tx.F_law_names.ok sc_law_names (fun vs H Q E h => ?_) (fun cdv A outer s H vs Q E hr h => ?_)
  · obtain ⟨a, ns, k, many, rfl, _⟩ := h
    rfl
  obtain ⟨a, ns, k, many, rfl, hS, k0, k1, hm, q⟩ := h
  refine ⟨_, (pss_cons (ps_set (i := 3) sc_law_names.nd rfl (Or.inr rfl) pe_str)
    (pss_cons (ps_set (i := 4) sc_law_names.nd rfl (Or.inr rfl) (pe_call (ok_law_draw Tx) (hr.mono (by omega)) rfl Tx.m_law_draw Tx.F_law_draw.kp Tx.b_law_draw .nil pass0 (pac (pv 0) (pac (pv 1) pa_nil))))
    (pss_cons (ps_if (pt_cmpR op_eq (pe_op op_mod (pv 4) pe_int) pe_int (nomark _))
    (pss_cons (ps_set (i := 5) sc_law_names.nd rfl (Or.inr rfl) (pe_bm PySem.F.plainAttrs_str PySem.F.slot_str_join PySem.F.type_str_join mt_join pe_str (pac (pe_comp (cl := [(Str.ofString "_law_number", s.heap.objs.size + 2), (Str.ofString "_law_letters", s.heap.objs.size + 1)]) (N := ["_law_j", "_law_letters", "_law_number"]) (fr := [none, some 3, some 4]) rfl (pi_range1 rfl Tx.z_range (pac pe_int pa_nil)) rfl (by decide +kernel) rfl (by decide +kernel) ⟨⟨rfl, Or.inl rfl, Or.inl rfl, _, rfl, rfl⟩, ⟨⟨rfl, Or.inl rfl, Or.inl rfl, _, rfl, rfl⟩, trivial⟩⟩ ⟨rfl, ⟨rfl, trivial⟩⟩ rfl (fun _ _ _ _ _ => (pg_name (i := 0) (show List.Nodup (["_law_j", "_law_letters", "_law_number"] : List Str) by decide +kernel) rfl (Or.inl rfl))) (fun _ _ _ _ _ => pts_nil) (fun _ _ _ _ _ => (pe_ix ix_str (pv 1) (pe_op op_mod (pe_op op_add (pe_op op_fdiv (pv 2) pe_int) (pe_op op_mul pe_int (pv 0))) pe_int) (fun _ _ => rfl)))) pa_nil)))
    (pss_one (ps_ret (pe_comp (cl := [(Str.ofString "_law_row", s.heap.objs.size + 3)]) (N := ["_law_j", "_law_row"]) (fr := [none, some 5]) rfl (pi_range1 rfl Tx.z_range (pac (pv 2) pa_nil)) rfl (by decide +kernel) rfl (by decide +kernel) ⟨⟨rfl, Or.inl rfl, Or.inl rfl, _, rfl, rfl⟩, trivial⟩ ⟨rfl, trivial⟩ rfl (fun _ _ _ _ _ => (pg_name (i := 0) (show List.Nodup (["_law_j", "_law_row"] : List Str) by decide +kernel) rfl (Or.inl rfl))) (fun _ _ _ _ _ => pts_nil) (fun _ _ _ _ _ => (pe_slice sl_str (pv 1) po_none (po_some (pe_op op_add pe_int (pv 0)))))))))
    pss_nil)
    (pss_cons (ps_set (i := 6) sc_law_names.nd rfl (Or.inl rfl) (pe_op op_mod (pe_op op_fdiv (pv 4) pe_int) pe_int))
    (pss_cons (ps_set (i := 7) sc_law_names.nd rfl (Or.inr rfl) (pe_op op_mod (pe_op op_fdiv (pv 4) pe_int) (pe_op op_add (pv 6) pe_int)))
    (pss_cons (ps_set (i := 8) sc_law_names.nd rfl (Or.inr rfl) (pe_bm PySem.F.plainAttrs_str PySem.F.slot_str_join PySem.F.type_str_join mt_join pe_str (pac (pe_comp (cl := [(Str.ofString "_law_number", s.heap.objs.size + 2), (Str.ofString "_law_letters", s.heap.objs.size + 1)]) (N := ["_law_j", "_law_letters", "_law_number"]) (fr := [none, some 3, some 4]) rfl (pi_range1 rfl Tx.z_range (pac (pv 6) pa_nil)) rfl (by decide +kernel) rfl (by decide +kernel) ⟨⟨rfl, Or.inl rfl, Or.inl rfl, _, rfl, rfl⟩, ⟨⟨rfl, Or.inl rfl, Or.inl rfl, _, rfl, rfl⟩, trivial⟩⟩ ⟨rfl, ⟨rfl, trivial⟩⟩ rfl (fun _ _ _ _ _ => (pg_name (i := 0) (show List.Nodup (["_law_j", "_law_letters", "_law_number"] : List Str) by decide +kernel) rfl (Or.inl rfl))) (fun _ _ _ _ _ => pts_nil) (fun _ _ _ _ _ => (pe_ix ix_str (pv 1) (pe_op op_mod (pe_op op_add (pe_op op_fdiv (pv 2) pe_int) (pe_op op_mul pe_int (pv 0))) pe_int) (fun _ _ => rfl)))) pa_nil)))
    (pss_one (ps_ret (pe_comp (cl := [(Str.ofString "_law_rest", s.heap.objs.size + 5), (Str.ofString "_law_number", s.heap.objs.size + 2), (Str.ofString "_law_letters", s.heap.objs.size + 1), (Str.ofString "_law_at", s.heap.objs.size + 4)]) (N := ["_law_j", "_law_rest", "_law_letters", "_law_at", "_law_number"]) (fr := [none, some 8, some 3, some 7, some 4]) rfl (pi_range1 rfl Tx.z_range (pac (pv 2) pa_nil)) rfl (by decide +kernel) rfl (by decide +kernel) ⟨⟨rfl, Or.inl rfl, Or.inl rfl, _, rfl, rfl⟩, ⟨⟨rfl, Or.inl rfl, Or.inl rfl, _, rfl, rfl⟩, ⟨⟨rfl, Or.inl rfl, Or.inl rfl, _, rfl, rfl⟩, ⟨⟨rfl, Or.inl rfl, Or.inl rfl, _, rfl, rfl⟩, trivial⟩⟩⟩⟩ ⟨rfl, ⟨rfl, ⟨rfl, ⟨rfl, trivial⟩⟩⟩⟩ rfl (fun _ _ _ _ _ => (pg_name (i := 0) (show List.Nodup (["_law_j", "_law_rest", "_law_letters", "_law_at", "_law_number"] : List Str) by decide +kernel) rfl (Or.inl rfl))) (fun _ _ _ _ _ => pts_nil) (fun _ _ _ _ _ => (pe_op op_add_str (pe_op op_add_str (pe_slice sl_str (pv 1) po_none (po_some (pv 3))) (pe_ix ix_str (pv 2) (pe_op op_mod (pe_op op_add (pe_op op_fdiv (pv 4) pe_int) (pv 0)) pe_int) (fun _ _ => rfl))) (pe_slice sl_str (pv 1) (po_some (pv 3)) po_none)))))))))))), ?_⟩
  refine ⟨_, rfl, _, rfl, a, ns, k, rfl, hS, k0, k1, fun d H1 hd s1 => ?_⟩
  refine ⟨_, rfl, _, _, rfl, rfl, (by show (0 : Int) < 3; decide), rfl, _, rfl, ?_⟩
  refine ite2 (fun c => ?_) (fun c => ?_)
  · refine ⟨rfl, 8, rfl, by decide, by decide, signs_comp (d := d) (q := 3) (m := 5) (n := 8) (by decide) rfl rfl (fun i Q' hi hq => ?_) fun p hp => ?_⟩
    · refine ⟨_, rfl, _, rfl, _, _, rfl, rfl, ⟨by decide, by decide⟩, _, rfl, _, _, rfl, rfl, .inl ⟨by decide, by decide⟩, _, _, rfl, rfl, _, _, rfl, rfl, (by show (0 : Int) < 26; decide), _, _, 97 + (d / 3 + 5 * i) % 26, rfl, rfl, by decide, ?_, hq⟩
      have := lt_at ((d / 3 + 5 * i) % 26) (by omega)
      rw [show (((d / 3 + 5 * i) % 26 : Nat) : Int) = (((d : Nat) : Int) / 3 + 5 * ((i : Nat) : Int)) % 26 by omega] at this
      exact this
    · have s2 := same_new hp (.lst (((rowC d 3 5 8).map fun c => tx [c]).map V.str))
      refine ⟨_, p, (rowC d 3 5 8).map fun c => tx [c], rfl, rfl, SqL.of upd_same, signs_room _ (by rw [rowC_len]; decide), ?_⟩
      rw [join_signs]
      refine ⟨_, rfl, _, rfl, by omega, by omega, ?_⟩
      refine comp_range (fun i acc σ H' => H' = upd H1 p (.lst (((rowC d 3 5 8).map fun c => tx [c]).map V.str)) ∧ acc = ((List.range i).map fun j => tx ((rowC d 3 5 8).take (1 + j))).map V.str ∧ ∃ v, σ = [v, some (.str (tx (rowC d 3 5 8)))]) ⟨rfl, rfl, none, rfl⟩ (Nat.le_trans (show _ ≤ 8 by omega) (by decide)) ?_ ?_
      · rintro i acc σ H' hi ha ⟨rfl, rfl, v, rfl⟩
        dsimp only [gName, tTrue]
        rw [if_pos rfl]
        refine ⟨_, rfl, _, rfl, _, _, rfl, rfl, _, rfl, _, rfl, (by rw [tx_len, rowC_len]; decide), ?_⟩
        have e0 : (1 : Int) + (0 + ((i : Nat) : Int)) = ((1 + i : Nat) : Int) := by omega
        rw [e0, sl_to _ _ (by rw [tx_len, rowC_len]; omega), tx_list]
        refine ⟨by rw [List.length_append, List.length_singleton]; omega, rfl, ?_, _, rfl⟩
        rw [List.range_succ, List.map_append, List.map_append]
        rfl
      · rintro acc σ H' ha ⟨rfl, rfl, v, rfl⟩ l hl
        have s3 := same_new hl (.lst (((List.range ((many : Nat) : Int).toNat).map fun j => tx ((rowC d 3 5 8).take (1 + j))).map V.str))
        refine q ((List.range ((many : Nat) : Int).toNat).map fun j => tx ((rowC d 3 5 8).take (1 + j))) l _ ((s1.trans s2).trans s3) ((s1.trans s2).free hl) upd_same (by rw [List.length_map, List.length_range]; omega) (nodup_range_map fun i j hij hj e => ?_) fun z hz => ?_
        · have := congrArg List.length (tx_inj e)
          rw [List.length_take, List.length_take, rowC_len] at this
          omega
        · obtain ⟨j, hj, rfl⟩ := List.mem_map.mp hz
          have hj := List.mem_range.mp hj
          refine ⟨by rw [tx_len, List.length_take, rowC_len]; omega, by rw [tx_len, List.length_take, rowC_len]; omega, fun c hc => ?_, fun e => ?_⟩
          · rw [tx_list] at hc
            exact rowC_ok d 3 5 8 c (List.mem_of_mem_take hc)
          · rw [nowh] at e
            have e := tx_inj e
            have l := congrArg List.length e
            rw [List.length_take, rowC_len] at l
            have l7 : min (1 + j) 8 = 7 := l
            have e0 := congrArg (fun l => l[0]?) e
            have e1 := congrArg (fun l => l[1]?) e
            rw [List.getElem?_take_of_lt (by omega), row_nth (by decide)] at e0 e1
            have e0 := Option.some.inj e0
            have e1 := Option.some.inj e1
            omega
  · obtain ⟨S, hS8, eS⟩ : ∃ S : Nat, S < 8 ∧ ((d : Nat) : Int) / 3 % 8 = ((S : Nat) : Int) := ⟨(((d : Nat) : Int) / 3 % 8).toNat, by omega, by omega⟩
    obtain ⟨A', hA, eA⟩ : ∃ A' : Nat, A' ≤ S ∧ ((d : Nat) : Int) / 24 % (((S : Nat) : Int) + 1) = ((A' : Nat) : Int) := by
      have h1 := Int.emod_nonneg (((d : Nat) : Int) / 24) (show (((S : Nat) : Int) + 1) ≠ 0 by omega)
      have h2 := Int.emod_lt_of_pos (((d : Nat) : Int) / 24) (show 0 < (((S : Nat) : Int) + 1) by omega)
      exact ⟨(((d : Nat) : Int) / 24 % (((S : Nat) : Int) + 1)).toNat, by omega, by omega⟩
    refine ⟨_, rfl, _, _, rfl, rfl, ⟨by decide, by decide⟩, _, _, rfl, rfl, (by show (0 : Int) < 8; decide), ?_⟩
    dsimp only
    rw [eS]
    refine ⟨_, rfl, _, _, rfl, rfl, ⟨by decide, by decide⟩, _, rfl, _, _, rfl, rfl, _, _, rfl, rfl, (by show (0 : Int) < ((S : Nat) : Int) + 1; omega), ?_⟩
    dsimp only
    rw [eA]
    refine ⟨rfl, _, rfl, _, rfl, by omega, by omega, signs_comp (d := d) (q := 216) (m := 7) (n := ((S : Nat) : Int).toNat) (by omega) rfl rfl (fun i Q' hi hq => ?_) fun p hp => ?_⟩
    · refine ⟨_, rfl, _, rfl, _, _, rfl, rfl, ⟨by decide, by decide⟩, _, rfl, _, _, rfl, rfl, .inl ⟨by decide, by decide⟩, _, _, rfl, rfl, _, _, rfl, rfl, (by show (0 : Int) < 26; decide), _, _, 97 + (d / 216 + 7 * i) % 26, rfl, rfl, by decide, ?_, hq⟩
      have := lt_at ((d / 216 + 7 * i) % 26) (by omega)
      rw [show (((d / 216 + 7 * i) % 26 : Nat) : Int) = (((d : Nat) : Int) / 216 + 7 * ((i : Nat) : Int)) % 26 by omega] at this
      exact this
    · have eS2 : ((S : Nat) : Int).toNat = S := by omega
      rw [eS2]
      have s2 := same_new hp (.lst (((rowC d 216 7 S).map fun c => tx [c]).map V.str))
      refine ⟨_, p, (rowC d 216 7 S).map fun c => tx [c], rfl, rfl, SqL.of upd_same, signs_room _ (by rw [rowC_len]; omega), ?_⟩
      rw [join_signs]
      refine ⟨_, rfl, _, rfl, by omega, by omega, ?_⟩
      refine comp_range (fun i acc σ H' => H' = upd H1 p (.lst (((rowC d 216 7 S).map fun c => tx [c]).map V.str)) ∧ acc = ((List.range i).map fun j => tx ((rowC d 216 7 S).take A' ++ [97 + (d / 5616 + j) % 26] ++ (rowC d 216 7 S).drop A')).map V.str ∧ ∃ v, σ = [v, some (.str (tx (rowC d 216 7 S))), some (.str (Str.ofString "abcdefghijklmnopqrstuvwxyz")), some (.int ((A' : Nat) : Int)), some (.int (d : Nat))]) ⟨rfl, rfl, none, rfl⟩ (Nat.le_trans (show _ ≤ 8 by omega) (by decide)) ?_ ?_
      · rintro i acc σ H' hi ha ⟨rfl, rfl, v, rfl⟩
        dsimp only [gName, tTrue]
        rw [if_pos rfl]
        have lz : (tx (rowC d 216 7 S)).length ≤ sizeLine := by rw [tx_len, rowC_len]; exact Nat.le_trans (show S ≤ 8 by omega) (by decide)
        refine ⟨_, rfl, _, rfl, _, rfl, _, rfl, lz, ?_⟩
        rw [sl_to _ _ (by rw [tx_len, rowC_len]; exact hA), tx_list]
        refine ⟨_, rfl, _, rfl, _, _, rfl, rfl, ⟨by decide, by decide⟩, _, rfl, _, _, rfl, rfl, _, _, rfl, rfl, (by show (0 : Int) < 26; decide), _, _, 97 + (d / 5616 + i) % 26, rfl, rfl, by decide, ?_, ?_⟩
        · have := lt_at ((d / 5616 + i) % 26) (by omega)
          rw [show (((d / 5616 + i) % 26 : Nat) : Int) = (((d : Nat) : Int) / 5616 + (0 + ((i : Nat) : Int))) % 26 by omega] at this
          exact this
        have l1 : ((rowC d 216 7 S).take A').length ≤ 8 := by rw [List.length_take, rowC_len]; omega
        have l2 : ((rowC d 216 7 S).drop A').length ≤ 8 := by rw [List.length_drop, rowC_len]; omega
        refine ⟨_, _, rfl, rfl, ?_, ?_⟩
        · show (tx ((rowC d 216 7 S).take A')).length + (tx [97 + (d / 5616 + i) % 26]).length ≤ sizeLine
          rw [tx_len, tx_len, List.length_singleton]
          exact Nat.le_trans (show _ ≤ 9 by omega) (by decide)
        refine ⟨_, rfl, _, rfl, _, rfl, _, rfl, lz, ?_⟩
        rw [sl_from _ _ (by rw [tx_len, rowC_len]; exact hA), tx_list]
        refine ⟨_, _, rfl, rfl, ?_, ?_⟩
        · show (tx ((rowC d 216 7 S).take A') ++ tx [97 + (d / 5616 + i) % 26]).length + (tx ((rowC d 216 7 S).drop A')).length ≤ sizeLine
          rw [tx_app, tx_len, tx_len, List.length_append, List.length_singleton]
          exact Nat.le_trans (show _ ≤ 17 by omega) (by decide)
        refine ⟨by rw [List.length_append, List.length_singleton]; omega, rfl, ?_, _, rfl⟩
        show _ ++ [V.str (tx ((rowC d 216 7 S).take A') ++ tx [97 + (d / 5616 + i) % 26] ++ tx ((rowC d 216 7 S).drop A'))] = _
        rw [tx_app, tx_app, List.range_succ, List.map_append, List.map_append]
        rfl
      · rintro acc σ H' ha ⟨rfl, rfl, v, rfl⟩ l hl
        have s3 := same_new hl (.lst (((List.range ((many : Nat) : Int).toNat).map fun j => tx ((rowC d 216 7 S).take A' ++ [97 + (d / 5616 + j) % 26] ++ (rowC d 216 7 S).drop A')).map V.str))
        refine q ((List.range ((many : Nat) : Int).toNat).map fun j => tx ((rowC d 216 7 S).take A' ++ [97 + (d / 5616 + j) % 26] ++ (rowC d 216 7 S).drop A')) l _ ((s1.trans s2).trans s3) ((s1.trans s2).free hl) upd_same (by rw [List.length_map, List.length_range]; omega) (nodup_range_map fun i j hij hj e => ?_) fun z hz => ?_
        · have e := tx_inj e
          rw [List.append_assoc, List.append_assoc] at e
          have e := List.append_cancel_left e
          injection e with e _
          omega
        · obtain ⟨j, hj, rfl⟩ := List.mem_map.mp hz
          refine ⟨?_, ?_, fun c hc => ?_, fun e => ?_⟩
          · rw [tx_len, List.length_append, List.length_append, List.length_singleton]; omega
          · rw [tx_len, List.length_append, List.length_append, List.length_singleton, List.length_take, List.length_drop, rowC_len]; omega
          · rw [tx_list] at hc
            rcases List.mem_append.mp hc with hc | hc
            · rcases List.mem_append.mp hc with hc | hc
              · exact rowC_ok d 216 7 S c (List.mem_of_mem_take hc)
              · rw [List.mem_singleton] at hc; omega
            · exact rowC_ok d 216 7 S c (List.mem_of_mem_drop hc)
          · rw [nowh] at e
            have e := tx_inj e
            have l := congrArg List.length e
            rw [List.length_append, List.length_append, List.length_singleton, List.length_take, List.length_drop, rowC_len] at l
            have l7 : min A' S + 1 + (S - A') = 7 := l
            have lt : ((rowC d 216 7 S).take A' ++ [97 + (d / 5616 + j) % 26]).length = A' + 1 := by rw [List.length_append, List.length_singleton, List.length_take, rowC_len]; omega
            by_cases hA2 : 2 ≤ A'
            · have e0 := congrArg (fun l => l[0]?) e
              have e1 := congrArg (fun l => l[1]?) e
              rw [List.getElem?_append_left (by rw [lt]; omega), List.getElem?_append_left (by rw [List.length_take, rowC_len]; omega), List.getElem?_take_of_lt (by omega), row_nth (by omega)] at e0 e1
              have e0 := Option.some.inj e0
              have e1 := Option.some.inj e1
              omega
            · have e0 := congrArg (fun l => l[5]?) e
              have e1 := congrArg (fun l => l[6]?) e
              rw [List.getElem?_append_right (by rw [lt]; omega), lt, List.getElem?_drop, row_nth (by omega)] at e0 e1
              have e0 := Option.some.inj e0
              have e1 := Option.some.inj e1
              rw [show A' + (5 - (A' + 1)) = 4 by omega] at e0
              rw [show A' + (6 - (A' + 1)) = 5 by omega] at e1
              omega

def spZones : Sp := fun vs H Q _ => ∃ b : Nat, vs = [.int (b : Nat)] ∧ ∀ l H', Same H H' → H l = none → H' l = some (.lst (natV (zonesOf b))) → Q (.ref l) H'
theorem zones_take (b : Nat) (i : Nat) (hi : i < 6) : ([1, 2, 3, 4, 5, 6].take (i + 1)).filter (fun z => decide (b / 2 ^ (z - 1) % 2 = 1)) = (([1, 2, 3, 4, 5, 6] : List Nat).take i).filter (fun z => decide (b / 2 ^ (z - 1) % 2 = 1)) ++ if b / 2 ^ i % 2 = 1 then [i + 1] else [] := by
  rw [List.take_add_one, List.filter_append]
  congr 1
  have : ([1, 2, 3, 4, 5, 6] : List Nat)[i]? = some (i + 1) := by
    match i, hi with
    | 0, _ => rfl
    | 1, _ => rfl
    | 2, _ => rfl
    | 3, _ => rfl
    | 4, _ => rfl
    | 5, _ => rfl
  rw [this]
  show List.filter _ [i + 1] = _
  rw [List.filter_cons, List.filter_nil, show i + 1 - 1 = i by omega]
  by_cases h : b / 2 ^ i % 2 = 1
  · rw [if_pos h, decide_eq_true h]; rfl
  · rw [if_neg h, decide_eq_false h]; rfl
theorem two_at : ∀ i : Nat, i < 6 → atI [V.int 1, V.int 2, V.int 4, V.int 8, V.int 16, V.int 32] (1 + (i : Int) - 1) = some (.int ((2 ^ i : Nat) : Int)) := fun i hi => by
  match i, hi with
  | 0, _ => rfl
  | 1, _ => rfl
  | 2, _ => rfl
  | 3, _ => rfl
  | 4, _ => rfl
  | 5, _ => rfl
theorem ok_law_zones (Tx : Tab K mg t) : FnOk P w K mg base CX0 1 t.f_law_zones t.d_law_zones ["_law_bits"] spZones := by
  refine Tx.F_law_zones.ok sc_law_zones (fun vs H Q E h => ?_) (fun cdv A outer s H vs Q E hr h => ?_)
  · obtain ⟨b, rfl, _⟩ := h
    rfl
  obtain ⟨b, rfl, q⟩ := h
  refine ⟨_, (pss_one (ps_ret (pe_comp (cl := [(Str.ofString "_law_bits", s.heap.objs.size + 1)]) (N := ["_law_zone", "_law_bits"]) (fr := [none, some 0]) rfl (pi_range2 rfl Tx.z_range (pac pe_int (pac pe_int pa_nil))) rfl (by decide +kernel) rfl (by decide +kernel) ⟨⟨rfl, Or.inl rfl, Or.inl rfl, _, rfl, rfl⟩, trivial⟩ ⟨rfl, trivial⟩ rfl (fun _ _ _ _ _ => (pg_name (i := 0) (show List.Nodup (["_law_zone", "_law_bits"] : List Str) by decide +kernel) rfl (Or.inl rfl))) (fun _ _ _ _ _ => (pts_one (pt_cmpR op_eq (pe_op op_mod (pe_op op_fdiv (pv 1) (pe_ix (show IxR _ (rIxL K) from ix_list) (pe_lst (pac pe_int (pac pe_int (pac pe_int (pac pe_int (pac pe_int (pac pe_int pa_nil))))))) (pe_op op_sub (pv 0) pe_int) (fun _ _ => rfl))) pe_int) pe_int (nomark _)))) (fun _ _ _ _ _ => (pv 0))))), ?_⟩
  refine ⟨_, _, rfl, ⟨by decide, by decide, by decide, by decide⟩, ?_⟩
  refine comp_range (n := 6) (fun i acc σ H' => Same H H' ∧ acc = natV (([1, 2, 3, 4, 5, 6].take i).filter fun z => decide (b / 2 ^ (z - 1) % 2 = 1)) ∧ ∃ v, σ = [v, some (.int (b : Nat))]) ⟨Same.refl H, rfl, _, rfl⟩ (by decide) ?_ ?_
  · rintro i acc σ H' hi ha ⟨s1, rfl, v, rfl⟩
    refine ⟨_, rfl, by show 6 ≤ sizeLine; decide, fun p hp => ?_⟩
    have s2 := s1.trans (same_new hp (.lst [.int 1, .int 2, .int 4, .int 8, .int 16, .int 32]))
    have hp2 : (2 : Nat) ^ i ≤ 32 := by
      match i, hi with
      | 0, _ => decide
      | 1, _ => decide
      | 2, _ => decide
      | 3, _ => decide
      | 4, _ => decide
      | 5, _ => decide
    have hp1 : 0 < (2 : Nat) ^ i := Nat.pow_pos (by decide)
    refine ⟨_, rfl, _, _, rfl, rfl, p, _, _, _, rfl, rfl, SqL.of upd_same, two_at i hi, _, _, rfl, rfl, ⟨by omega, by omega⟩, _, _, rfl, rfl, (by show (0 : Int) < 2; decide), rfl, _, rfl, ?_⟩
    have ed : decide (V.int (((b : Nat) : Int) / ((2 ^ i : Nat) : Int) % 2) = V.int 1) = decide (b / 2 ^ i % 2 = 1) := by
      rw [show ((b : Nat) : Int) / ((2 ^ i : Nat) : Int) % 2 = ((b / 2 ^ i % 2 : Nat) : Int) by rw [← Int.natCast_ediv]; omega]
      exact decide_eq_decide.mpr ⟨fun x => by injection x with x; omega, fun x => by rw [x]; rfl⟩
    have zt := zones_take b i hi
    by_cases c : b / 2 ^ i % 2 = 1
    · refine itT (by show decide (V.int (((b : Nat) : Int) / ((2 ^ i : Nat) : Int) % 2) = V.int 1) = true; rw [ed, decide_eq_true c]) ?_
      refine ⟨_, rfl, by rw [List.length_append, List.length_singleton]; omega, s2, ?_, _, rfl⟩
      rw [zt, if_pos c]
      unfold natV
      rw [List.map_append]
      show _ ++ [V.int (1 + ((i : Nat) : Int))] = _ ++ [V.int (((i + 1 : Nat)) : Int)]
      rw [show (1 + ((i : Nat) : Int)) = ((i + 1 : Nat) : Int) by omega]
    · refine itF (by show ¬ decide (V.int (((b : Nat) : Int) / ((2 ^ i : Nat) : Int) % 2) = V.int 1) = true; rw [ed, decide_eq_false c]; decide) ?_
      refine ⟨by omega, s2, ?_, _, rfl⟩
      rw [zt, if_neg c, List.append_nil]
  · rintro acc σ H' ha ⟨s1, rfl, v, rfl⟩ l hl
    exact q l _ (s1.trans (same_new hl _)) (s1.free hl) upd_same
def TkAt (H : Hp) (v : V) (k : Tk) : Prop := ∃ p l, v = .ref p ∧ H p = some (.tup [.str k.nm, .int (k.pr : Nat), .int (k.la : Nat), .ref l]) ∧ H l = some (.lst (natV (zonesOf k.b)))
theorem TkAt.same {H H' : Hp} {v : V} {k : Tk} (s : Same H H') (h : TkAt H v k) : TkAt H' v k := let ⟨p, l, e, h1, h2⟩ := h; ⟨p, l, e, s _ _ h1, s _ _ h2⟩
def spTks (K : W.Frag) : Sp := fun vs H Q _ => ∃ (a : Addr) (ns : List Int) (k : Int) (many : Nat), vs = [.ref a, .int k, .int (many : Nat)] ∧ SqL K H a (ns.map V.int) ∧ 0 ≤ k ∧ k ≤ 90000 ∧ many ≤ 8 ∧
  ∀ (TK : List Tk) (vs : List V) l H', Same H H' → H l = none → H' l = some (.lst vs) → Al (TkAt H') vs TK → TK.length = many → (TK.map (·.nm)).Nodup → (∀ k ∈ TK, k.Ok) → Q (.ref l) H'
theorem ok_law_tickets (Tx : Tab K mg t) : FnOk P w K mg base CX0 3 t.f_law_tickets t.d_law_tickets ["_law_script", "_law_k", "_law_many"] (spTks K) := by
  refine Tx.F_law_tickets.ok sc_law_tickets (fun vs H Q E h => ?_) (fun cdv A outer s H vs Q E hr h => ?_)
  · obtain ⟨a, ns, k, many, rfl, _⟩ := h
    rfl
  obtain ⟨a, ns, k, many, rfl, hS, k0, k1, hm, q⟩ := h
  refine ⟨_, (pss_cons (ps_set (i := 3) sc_law_tickets.nd rfl (Or.inl rfl) (pe_lst pa_nil))
    (pss_cons (ps_for PassesOwn.never rfl (pi_enum rfl Tx.z_enumerate (pac (pe_call (ok_law_names Tx) (hr.mono (by omega)) rfl Tx.m_law_names Tx.F_law_names.kp Tx.b_law_names .nil pass0 (pac (pv 0) (pac (pv 1) (pac (pv 2) pa_nil)))) pa_nil)) (pg_tup rfl (pgs_cons (pg_name (i := 4) sc_law_tickets.nd rfl (Or.inl rfl)) (pgs_cons (pg_name (i := 5) sc_law_tickets.nd rfl (Or.inl rfl)) pgs_nil)))
    (pss_cons (ps_set (i := 6) sc_law_tickets.nd rfl (Or.inl rfl) (pe_call (ok_law_draw Tx) (hr.mono (by omega)) rfl Tx.m_law_draw Tx.F_law_draw.kp Tx.b_law_draw .nil pass0 (pac (pv 0) (pac (pe_op op_add (pe_op op_add (pv 1) pe_int) (pv 4)) pa_nil))))
    (pss_cons (ps_set (i := 7) sc_law_tickets.nd rfl (Or.inl rfl) (pe_op op_mod (pv 6) (pe_ix ix_list (pe_lst (pac pe_int (pac pe_int (pac pe_int (pac pe_int pa_nil))))) (pe_op op_mod (pe_op op_fdiv (pv 6) pe_int) pe_int) (fun _ _ => rfl))))
    (pss_cons (ps_set (i := 8) sc_law_tickets.nd rfl (Or.inl rfl) (pe_op op_add pe_int (pe_op op_mod (pe_op op_fdiv (pv 6) pe_int) (pe_ix ix_list (pe_lst (pac pe_int (pac pe_int (pac pe_int pa_nil)))) (pe_op op_mod (pe_op op_fdiv (pv 6) pe_int) pe_int) (fun _ _ => rfl)))))
    (pss_cons (ps_set (i := 9) sc_law_tickets.nd rfl (Or.inl rfl) (pe_ix ix_list (pe_lst (pac pe_int (pac (pe_op op_add pe_int (pe_op op_mod (pe_op op_fdiv (pv 6) pe_int) pe_int)) pa_nil))) (pe_op op_mod (pe_op op_fdiv (pv 6) pe_int) pe_int) (fun _ _ => rfl)))
    (pss_one (ps_expr (pe_bm PySem.F.plainAttrs_list PySem.F.slot_list_append PySem.F.type_list_append mt_append (pv 3) (pac (pe_tup (pac (pv 5) (pac (pv 7) (pac (pv 8) (pac (pe_call (ok_law_zones Tx) (hr.mono (by omega)) rfl Tx.m_law_zones Tx.F_law_zones.kp Tx.b_law_zones .nil pass0 (pac (pv 9) pa_nil)) pa_nil))))) pa_nil)))))))))
    (pss_one (ps_ret (pv 3))))), ?_⟩
  refine ⟨by show 0 ≤ sizeLine; decide, fun l hl => ?_⟩
  have s1 := same_new hl (.lst [])
  refine ⟨_, rfl, _, rfl, _, rfl, a, ns, k, many, rfl, s1.seq hS, k0, by omega, hm, fun NS ln H1 s2 hln0 hln eN nN okN => ?_⟩
  have S2 := s1.trans s2
  have nl : ln ≠ l := fun e => by rw [e, upd_same] at hln0; cases hln0
  refine ⟨ln, rfl, ⟨_, SqL.of hln⟩, for_enum (xs := NS.map V.str) (fun i σ H' => Same H H' ∧ H' ln = some (.lst (NS.map V.str)) ∧ ∃ (TK : List Tk) (vs : List V) (v4 v5 v6 v7 v8 v9 : Option V), σ = [some (.ref a), some (.int k), some (.int (many : Nat)), some (.ref l), v4, v5, v6, v7, v8, v9] ∧ H' l = some (.lst vs) ∧ Al (TkAt (wo H' l)) vs TK ∧ TK.map (·.nm) = NS.take i ∧ ∀ k ∈ TK, k.Ok)
    ⟨S2, hln, [], [], _, _, _, _, _, _, rfl, s2 _ _ upd_same, .nil, rfl, fun k hk => by cases hk⟩ (fun i σ H' _ ⟨_, e, _⟩ => SqL.of e) ?_ ?_⟩
  · rintro i x pp σ H2 hx hpp ⟨s3, hln2, TK, vs, v4, v5, v6, v7, v8, v9, rfl, hl2, al, en, okT⟩
    rw [List.getElem?_map] at hx
    cases ez : NS[i]? with
    | none => rw [ez] at hx; cases hx
    | some z =>
      rw [ez] at hx
      obtain rfl : V.str z = x := Option.some.inj hx
      have hi : i < 8 := by have := (List.getElem?_eq_some_iff.mp ez).1; omega
      have s4 := s3.trans (same_new hpp (.tup [.int (i : Nat), .str z]))
      have nlp : l ≠ pp := ne_of_none hl2 hpp
      refine ⟨pp, _, rfl, SqT.of upd_same, rfl, _, _, rfl, _, _, rfl, rfl, ?_⟩
      refine ⟨_, rfl, _, rfl, _, _, rfl, rfl, _, rfl, _, _, rfl, rfl, a, ns, _, rfl, s4.seq hS, by omega, by omega, fun d H3 hd s5 => ?_⟩
      obtain ⟨vm, em, m1, rfl, hm1, hm1'⟩ := at_all (p := fun v => ∃ m : Nat, v = .int (m : Nat) ∧ 1 ≤ m ∧ m ≤ 10001) (xs := [.int 4, .int 101, .int 101, .int 10001]) (d := ((d : Nat) : Int) / 16 % 4) (fun v hv => by
        simp only [List.mem_cons, List.not_mem_nil, or_false] at hv
        rcases hv with rfl | rfl | rfl | rfl
        · exact ⟨4, rfl, by decide, by decide⟩
        · exact ⟨101, rfl, by decide, by decide⟩
        · exact ⟨101, rfl, by decide, by decide⟩
        · exact ⟨10001, rfl, by decide, by decide⟩) (by omega) (by show ((d : Nat) : Int) / 16 % 4 < 4; omega)
      obtain ⟨vm2, em2, m2, rfl, hm2, hm2'⟩ := at_all (p := fun v => ∃ m : Nat, v = .int (m : Nat) ∧ 1 ≤ m ∧ m ≤ 1440) (xs := [.int 60, .int 240, .int 1440]) (d := ((d : Nat) : Int) / 4096 % 3) (fun v hv => by
        simp only [List.mem_cons, List.not_mem_nil, or_false] at hv
        rcases hv with rfl | rfl | rfl
        · exact ⟨60, rfl, by decide, by decide⟩
        · exact ⟨240, rfl, by decide, by decide⟩
        · exact ⟨1440, rfl, by decide, by decide⟩) (by omega) (by show ((d : Nat) : Int) / 4096 % 3 < 3; omega)
      obtain ⟨vb, eb, B, rfl, hB, hB'⟩ := at_all (p := fun v => ∃ m : Nat, v = .int (m : Nat) ∧ 1 ≤ m ∧ m < 64) (xs := [.int 63, .int (1 + ((d : Nat) : Int) / 1024 % 63)]) (d := ((d : Nat) : Int) / 512 % 2) (fun v hv => by
        simp only [List.mem_cons, List.not_mem_nil, or_false] at hv
        rcases hv with rfl | rfl
        · exact ⟨63, rfl, by decide, by decide⟩
        · exact ⟨1 + d / 1024 % 63, congrArg V.int (by omega), by omega, by omega⟩) (by omega) (by show ((d : Nat) : Int) / 512 % 2 < 2; omega)
      refine ⟨_, rfl, by show 4 ≤ sizeLine; decide, fun p1 g1 => ?_⟩
      refine ⟨_, rfl, _, _, rfl, rfl, ⟨by decide, by decide⟩, _, _, rfl, rfl, (by show (0 : Int) < 4; decide), p1, _, _, _, rfl, rfl, SqL.of upd_same, em, _, _, rfl, rfl, (by omega), ?_⟩
      have s6 := s5.trans (same_new g1 (.lst [.int 4, .int 101, .int 101, .int 10001]))
      refine ⟨_, rfl, _, _, rfl, rfl, ⟨by decide, by decide⟩, by show 3 ≤ sizeLine; decide, fun p2 g2 => ?_⟩
      have s7 := s6.trans (same_new g2 (.lst [.int 60, .int 240, .int 1440]))
      refine ⟨_, rfl, _, _, rfl, rfl, ⟨by decide, by decide⟩, _, _, rfl, rfl, (by show (0 : Int) < 3; decide), p2, _, _, _, rfl, rfl, SqL.of upd_same, em2, _, _, rfl, rfl, (by omega), _, _, rfl, rfl, ?_⟩
      refine ⟨_, rfl, _, _, rfl, rfl, ⟨by decide, by decide⟩, _, _, rfl, rfl, (by show (0 : Int) < 63; decide), _, _, rfl, rfl, by show 2 ≤ sizeLine; decide, fun p3 g3 => ?_⟩
      have s8 := s7.trans (same_new g3 (.lst [.int 63, .int (1 + ((d : Nat) : Int) / 1024 % 63)]))
      refine ⟨_, rfl, _, _, rfl, rfl, ⟨by decide, by decide⟩, _, _, rfl, rfl, (by show (0 : Int) < 2; decide), p3, _, _, _, rfl, rfl, SqL.of upd_same, eb, ?_⟩
      have S8 := (same_new hpp (.tup [.int (i : Nat), .str z])).trans s8
      have hl8 := S8 _ _ hl2
      generalize upd (upd (upd H3 p1 (.lst [.int 4, .int 101, .int 101, .int 10001])) p2 (.lst [.int 60, .int 240, .int 1440])) p3 (.lst [.int 63, .int (1 + ((d : Nat) : Int) / 1024 % 63)]) = H4 at S8 hl8 ⊢
      refine ⟨_, rfl, .inl ⟨rfl, _, SqL.of hl8⟩, _, rfl, _, rfl, _, rfl, _, rfl, B, rfl, fun lz H5 s9 hz0 hz => ⟨by show 4 ≤ sizeLine; decide, fun pt gt => ?_⟩⟩
      have S9 := S8.trans s9
      have hl9 := s9 _ _ hl8
      have nlz : lz ≠ l := fun e => by rw [e, hl8] at hz0; cases hz0
      have npt : pt ≠ l := fun e => by rw [e, hl9] at gt; cases gt
      have e1 : ((d : Nat) : Int) % ((m1 : Nat) : Int) = ((d % m1 : Nat) : Int) := (Int.natCast_emod d m1).symm
      have e2 : (1 : Int) + ((d : Nat) : Int) / 64 % ((m2 : Nat) : Int) = ((1 + d / 64 % m2 : Nat) : Int) := by
        rw [Int.natCast_add, Int.natCast_emod, Int.natCast_ediv]; rfl
      have hpt : upd H5 pt (.tup [.str z, .int (((d : Nat) : Int) % ((m1 : Nat) : Int)), .int (1 + ((d : Nat) : Int) / 64 % ((m2 : Nat) : Int)), .ref lz]) pt = some (.tup [.str z, .int ((d % m1 : Nat) : Int), .int ((1 + d / 64 % m2 : Nat) : Int), .ref lz]) := by
        rw [upd_same, e1, e2]
      have s10 := same_new gt (.tup [.str z, .int (((d : Nat) : Int) % ((m1 : Nat) : Int)), .int (1 + ((d : Nat) : Int) / 64 % ((m2 : Nat) : Int)), .ref lz])
      have S10 := S9.trans s10
      have hl10 := S10 _ _ hl2
      have lv : vs.length ≤ 8 := by
        have := al.length
        have h2 := congrArg List.length en
        rw [List.length_map, List.length_take] at h2
        omega
      refine ⟨l, _, _, rfl, rfl, hl10, Nat.lt_of_le_of_lt lv (by decide), ?_⟩
      refine ⟨same_put (s3.trans S10) hl _, (by rw [upd_ne nl]; exact S10 _ _ hln2), TK ++ [⟨z, d % m1, 1 + d / 64 % m2, B⟩], vs ++ [.ref pt], _, _, _, _, _, _, rfl, upd_same, ?_, ?_, ?_⟩
      · rw [wo_upd]
        exact (al.imp fun _ _ => TkAt.same (wo_mono S10)).snoc ⟨pt, lz, rfl, wo_at hpt npt, wo_at (s10 _ _ hz) nlz⟩
      · rw [List.map_append, en, List.take_add_one, ez]; rfl
      · intro k' hk'
        rcases List.mem_append.mp hk' with hk' | hk'
        · exact okT k' hk'
        · rw [List.mem_singleton] at hk'
          subst hk'
          refine ⟨okN z (List.mem_of_getElem? ez), ?_, ?_, ?_, hB, hB'⟩
          · show d % m1 ≤ 10000
            have := Nat.mod_lt d (show 0 < m1 by omega)
            omega
          · show 1 ≤ 1 + d / 64 % m2
            omega
          · show 1 + d / 64 % m2 ≤ 1440
            have := Nat.mod_lt (d / 64) (show 0 < m2 by omega)
            omega
  · rintro σ H2 ⟨s3, hln2, TK, vs, v4, v5, v6, v7, v8, v9, rfl, hl2, al, en, okT⟩
    rw [List.length_map, List.take_length] at en
    refine ⟨_, rfl, q TK vs l H2 s3 hl hl2 (al.imp fun _ _ => TkAt.same wo_same) ?_ (by rw [en]; exact nN) okT⟩
    have := congrArg List.length en
    rw [List.length_map] at this
    omega

def NetIn (t : Adr) (H0 H : Hp) (n d : Addr) (TK : List Tk) : Prop := H0 d = none ∧ ∃ dx fs rows, H n = some (.ins t.c_Net dx fs) ∧ NetF fs d ∧ H d = some (.dK rows) ∧ Al (RowIs H) rows TK
theorem NetIn.at_ {H0 H : Hp} {n d : Addr} {TK : List Tk} (h : NetIn t H0 H n d TK) : NetAt t H n TK := let ⟨_, dx, fs, rows, e1, e2, e3, e4⟩ := h; ⟨dx, fs, d, rows, e1, e2, e3, e4⟩
theorem NetIn.same {H0 H H' : Hp} {n d : Addr} {TK : List Tk} (s : Same H H') (h : NetIn t H0 H n d TK) : NetIn t H0 H' n d TK := let ⟨n0, dx, fs, rows, e1, e2, e3, e4⟩ := h; ⟨n0, dx, fs, rows, s _ _ e1, e2, s _ _ e3, e4.imp fun _ _ => RowIs.same s⟩
theorem RowIs.put {H : Hp} {d : Addr} {kvs : List (Key × V)} {o : HO} {kv : Key × V} {k : Tk} (hd : H d = some (.dK kvs)) (h : RowIs H kv k) : RowIs (upd H d o) kv k := by
  obtain ⟨e, r, z, e1, e2, e3⟩ := h
  exact ⟨e, r, z, e1, by rw [upd_ne (ne_of e2 hd (by intro z; cases z))]; exact e2, by rw [upd_ne (ne_of e3 hd (by intro z; cases z))]; exact e3⟩
theorem putK_new {kvs : List (Key × V)} {k : Key} {v : V} (h : valV kvs k = none) : putK kvs k v = kvs ++ [(k, v)] := by
  unfold putK
  rw [valV_any, h]
  rfl
def spAdd (t : Adr) : Sp := fun vs H Q _ => ∃ (n d : Addr) (TK : List Tk) (k : Tk) (zl : Addr) (H0 : Hp), vs = [.ref n, .str k.nm, .int (k.pr : Nat), .int (k.la : Nat), .ref zl] ∧ NetIn t H0 H n d TK ∧ Same H0 H ∧ H zl = some (.lst (natV (zonesOf k.b))) ∧ k.Ok ∧ findT TK k.nm = none ∧ TK.length < 3 ∧
  ∀ H', Same H0 H' → NetIn t H0 H' n d (TK ++ [k]) → Q .non H'
theorem ok_Net_add_ticket (Tx : Tab K mg t) : FnOk P w K mg base CX0 4 t.f_Net_add_ticket t.d_Net_add_ticket ["self", "name", "price", "lasts", "zones"] (spAdd t) := by
  refine Tx.F_Net_add_ticket.ok sc_Net_add_ticket (fun vs H Q E h => ?_) (fun cdv A outer s H vs Q E hr h => ?_)
  · obtain ⟨n, d, TK, k, zl, H0, rfl, _⟩ := h
    rfl
  obtain ⟨n, d, TK, k, zl, H0, rfl, ⟨n0, dx, fs, rows, e1, e2, e3, e4⟩, s0, hz, ok, hf, hlen, q⟩ := h
  have hv := (rows_find e4 k.nm).1 hf
  have hrl : rows.length < 3 := by rw [e4.length]; exact hlen
  refine ⟨_, (pss_cons (ps_expr (pe_call (ok_check_new Tx) (hr.mono (by omega)) rfl Tx.m_check_new Tx.F_check_new.kp Tx.b_check_new .nil pass0 (pac (pv 1) (pac (pe_fld (pv 0) rfl) pa_nil))))
    (pss_cons (ps_expr (pe_call (ok_check_number Tx) (hr.mono (by omega)) rfl Tx.m_check_number Tx.F_check_number.kp Tx.b_check_number .nil pass0 (pac (pv 2) (pac pe_int (pac (pe_gintE rfl Tx.m_MOST_PRICE) pa_nil)))))
    (pss_cons (ps_expr (pe_call (ok_check_number Tx) (hr.mono (by omega)) rfl Tx.m_check_number Tx.F_check_number.kp Tx.b_check_number .nil pass0 (pac (pv 3) (pac pe_int (pac (pe_gintE rfl Tx.m_MOST_LASTING) pa_nil)))))
    (pss_cons (ps_if (pt_not (pt_val (pe_call (ok_are_rising Tx) (hr.mono (by omega)) rfl Tx.m_are_rising Tx.F_are_rising.kp Tx.b_are_rising .nil pass0 (pac (pv 4) (pac (pe_gintE rfl Tx.m_LAST_ZONE) (pac pe_int (pac (pe_gintE rfl Tx.m_LAST_ZONE) pa_nil)))))))
    (pss_one ps_never)
    pss_nil)
    (pss_cons (ps_expr (pe_call (ok_check_room Tx) (hr.mono (by omega)) rfl Tx.m_check_room Tx.F_check_room.kp Tx.b_check_room .nil pass0 (pac (pe_fld (pv 0) rfl) (pac (pe_gintE rfl Tx.m_MOST_TICKETS) pa_nil))))
    (pss_one (ps_dput (hu_of hr) (pe_fld (pv 0) rfl) (pv 1) (pe_tup (pac (pv 2) (pac (pv 3) (pac (pe_callTy call_tuple_of rfl Tx.z_tuple b_tuple (pac (pv 4) pa_nil)) pa_nil)))) rfl))))))), ?_⟩
  refine ⟨_, rfl, _, rfl, n, _, dx, _, _, rfl, e1, Tx.cl_Net, Tx.na_Net_ticket_rows, e2.tr, k.nm, d, rows, rfl, e3, ok.nm, hv, fun H1 s1 => ?_⟩
  refine ⟨_, rfl, k.pr, 0, 10000, rfl, by omega, by have := ok.pr; omega, ?_⟩
  refine ⟨_, rfl, k.la, 1, 1440, rfl, by have := ok.la1; omega, by have := ok.la; omega, ?_⟩
  refine ⟨_, rfl, zl, zonesOf k.b, 6, 1, 6, rfl, s1 _ _ hz, zones_one k.b ok.b ok.b1, zones_len k.b, zones_up k.b, fun x hx => ⟨(zones_rng k.b x hx).1, by have := (zones_rng k.b x hx).2; omega⟩, _, rfl, itF (by decide) ?_⟩
  refine ⟨_, rfl, n, _, dx, _, _, rfl, s1 _ _ e1, Tx.cl_Net, Tx.na_Net_ticket_rows, e2.tr, d, rows, 3, rfl, s1 _ _ e3, by omega, ?_⟩
  refine ⟨_, rfl, _, rfl, _, rfl, zl, _, rfl, .inl ⟨SqL.of (s1 _ _ hz), fun p hp => ?_⟩⟩
  have s2 := same_new hp (.tup (natV (zonesOf k.b)))
  refine ⟨by show 3 ≤ sizeLine; decide, fun r hr' => ?_⟩
  have s3 := same_new hr' (.tup [.int (k.pr : Nat), .int (k.la : Nat), .ref p])
  have S3 := (s1.trans s2).trans s3
  refine ⟨_, rfl, n, _, dx, _, _, rfl, S3 _ _ e1, Tx.cl_Net, Tx.na_Net_ticket_rows, e2.tr, _, rfl, d, _, rfl, DPut.k (k := Sum.inr k.nm) (S3 _ _ e3) (Nat.lt_trans hrl (by decide)), ?_⟩
  refine q _ (same_put (s0.trans S3) n0 _) ⟨n0, dx, fs, _, ?_, e2, upd_same, ?_⟩
  · rw [upd_ne (ne_of (S3 _ _ e1) (S3 _ _ e3) (by intro z; cases z))]
    exact S3 _ _ e1
  · rw [putK_new hv]
    refine Al.snoc (e4.imp fun _ _ h => (h.same S3).put (S3 _ _ e3)) (RowIs.put (S3 _ _ e3) ⟨rfl, r, p, rfl, upd_same, s3 _ _ upd_same⟩)
def spMkNet (t : Adr) : Sp := fun vs H Q _ => ∃ (l : Addr) (vs' : List V) (TK : List Tk), vs = [.ref l] ∧ H l = some (.lst vs') ∧ Al (TkAt H) vs' TK ∧ (TK.map (·.nm)).Nodup ∧ (∀ k ∈ TK, k.Ok) ∧ TK.length ≤ 3 ∧ ∀ n H', Same H H' → NetAt t H' n TK → Q (.ref n) H'
theorem findT_take {TK : List Tk} (nd : (TK.map (·.nm)).Nodup) {i : Nat} {k : Tk} (e : TK[i]? = some k) : findT (TK.take i) k.nm = none := by
  unfold findT
  rw [List.find?_eq_none]
  intro x hx
  rw [decide_eq_true_eq]
  intro ex
  obtain ⟨j, hj, ej⟩ := List.mem_iff_getElem.mp hx
  rw [List.length_take] at hj
  obtain ⟨hi, ei⟩ := List.getElem?_eq_some_iff.mp e
  rw [List.getElem_take] at ej
  have := List.pairwise_iff_getElem.mp nd j i (by rw [List.length_map]; omega) (by rw [List.length_map]; exact hi) (by omega)
  rw [List.getElem_map, List.getElem_map, ej, ei] at this
  exact this ex
theorem ok_law_net (Tx : Tab K mg t) : FnOk P w K mg base CX0 5 t.f_law_net t.d_law_net ["_law_tickets_here"] (spMkNet t) := by
  refine Tx.F_law_net.ok sc_law_net (fun vs H Q E h => ?_) (fun cdv A outer s H vs Q E hr h => ?_)
  · obtain ⟨l, vs', TK, rfl, _⟩ := h
    rfl
  obtain ⟨l, vs', TK, rfl, hl, al, nd, okT, hlen, q⟩ := h
  refine ⟨_, (pss_cons (ps_set (i := 1) sc_law_net.nd rfl (Or.inl rfl) (pe_make0 Tx.mk_Net (ok_Net_init Tx) (hr.mono (by omega)) rfl Tx.m_Net Tx.b_Net_init .nil pass0))
    (pss_cons (ps_for PassesOwn.never rfl (pi_list (pv 0)) (pg_tup rfl (pgs_cons (pg_name (i := 2) sc_law_net.nd rfl (Or.inl rfl)) (pgs_cons (pg_name (i := 3) sc_law_net.nd rfl (Or.inl rfl)) (pgs_cons (pg_name (i := 4) sc_law_net.nd rfl (Or.inl rfl)) (pgs_cons (pg_name (i := 5) sc_law_net.nd rfl (Or.inl rfl)) pgs_nil)))))
    (pss_one (ps_expr (pe_meth (pv 1) Tx.cl_Net Tx.me_Net_add_ticket (ok_Net_add_ticket Tx) (hr.mono (by omega)) Tx.b_Net_add_ticket .nil pass0 (pac (pv 2) (pac (pv 3) (pac (pv 4) (pac (pe_callTy call_list_of rfl Tx.z_list b_list (pac (pv 5) pa_nil)) pa_nil))))))))
    (pss_one (ps_ret (pv 1))))), ?_⟩
  intro x dx nx ndx nex
  refine ⟨x, H, rfl, nx, same_put (same_new ndx _) nx _, ⟨dx, upd_same⟩, fun H1 s1 hd => ⟨rfl, ?_⟩⟩
  obtain ⟨dx1, fs, d, e1, e2, e3, e4⟩ := hd
  refine ⟨_, rfl, l, rfl, ⟨_, SqL.of (s1 _ _ hl)⟩, for_list (xs := vs') (fun i σ H' => Same H H' ∧ NetIn t H H' x d (TK.take i) ∧ ∃ v2 v3 v4 v5 : Option V, σ = [some (.ref l), some (.ref x), v2, v3, v4, v5]) ⟨s1, ⟨e4, dx1, fs, [], e1, e2, e3, .nil⟩, _, _, _, _, rfl⟩ (fun i σ H' _ ⟨s', _⟩ => SqL.of (s' _ _ hl)) ?_ ?_⟩
  · rintro i v σ H2 hv ⟨s2, hN, v2, v3, v4, v5, rfl⟩
    obtain ⟨k, ek, p, lz, rfl, hp, hz⟩ := al.get hv
    have hN' := hN
    obtain ⟨_, dx2, fs2, rows2, f1, f2, f3, f4⟩ := hN'
    have hi := (List.getElem?_eq_some_iff.mp ek).1
    refine ⟨p, _, rfl, SqT.of (s2 _ _ hp), rfl, _, _, rfl, _, _, rfl, _, _, rfl, _, _, rfl, rfl, ?_⟩
    refine ⟨_, rfl, x, dx2, _, rfl, f1, f2.n3, _, rfl, _, rfl, _, rfl, _, rfl, lz, _, rfl, .inl (SqL.of (s2 _ _ hz)), fun l' hl' => ?_⟩
    have s3 := same_new hl' (.lst (natV (zonesOf k.b)))
    refine ⟨x, d, TK.take i, k, l', H, rfl, hN.same s3, s2.trans s3, upd_same, okT k (List.mem_of_getElem? ek), findT_take nd ek, by rw [List.length_take]; omega, fun H3 s4 hN3 => ?_⟩
    rw [show TK.take i ++ [k] = TK.take (i + 1) by rw [List.take_add_one, ek]; rfl] at hN3
    exact ⟨s4, hN3, _, _, _, _, rfl⟩
  · rintro σ H2 ⟨s2, hN, v2, v3, v4, v5, rfl⟩
    rw [al.length, List.take_length] at hN
    exact ⟨_, rfl, q x H2 s2 hN.at_⟩
def spRides (K : W.Frag) : Sp := fun vs H Q _ => ∃ (a : Addr) (ns : List Int) (k : Int) (many : Nat), vs = [.ref a, .int k, .int (many : Nat)] ∧ SqL K H a (ns.map V.int) ∧ 0 ≤ k ∧ k ≤ 90000 ∧ many ≤ 8 ∧
  ∀ (R : List Rd) (vs : List V) l H', Same H H' → H l = none → H' l = some (.lst vs) → Al (RdAt H') vs R → R.length = many → (∀ r ∈ R, r.b < 64) → Q (.ref l) H'
theorem ok_law_rides (Tx : Tab K mg t) : FnOk P w K mg base CX0 2 t.f_law_rides t.d_law_rides ["_law_script", "_law_k", "_law_many"] (spRides K) := by
  refine Tx.F_law_rides.ok sc_law_rides (fun vs H Q E h => ?_) (fun cdv A outer s H vs Q E hr h => ?_)
  · obtain ⟨a, ns, k, many, rfl, _⟩ := h
    rfl
  obtain ⟨a, ns, k, many, rfl, hS, k0, k1, hm, q⟩ := h
  refine ⟨_, (pss_cons (ps_set (i := 3) sc_law_rides.nd rfl (Or.inl rfl) (pe_lst pa_nil))
    (pss_cons (ps_set (i := 4) sc_law_rides.nd rfl (Or.inl rfl) (pe_op op_mod (pe_call (ok_law_draw Tx) (hr.mono (by omega)) rfl Tx.m_law_draw Tx.F_law_draw.kp Tx.b_law_draw .nil pass0 (pac (pv 0) (pac (pv 1) pa_nil))) pe_int))
    (pss_cons (ps_for PassesOwn.never rfl (pi_range1 rfl Tx.z_range (pac (pv 2) pa_nil)) (pg_name (i := 5) sc_law_rides.nd rfl (Or.inl rfl))
    (pss_cons (ps_set (i := 6) sc_law_rides.nd rfl (Or.inl rfl) (pe_call (ok_law_draw Tx) (hr.mono (by omega)) rfl Tx.m_law_draw Tx.F_law_draw.kp Tx.b_law_draw .nil pass0 (pac (pv 0) (pac (pe_op op_add (pe_op op_add (pv 1) pe_int) (pv 5)) pa_nil))))
    (pss_cons (ps_set (i := 4) sc_law_rides.nd rfl (Or.inl rfl) (pe_op op_add (pv 4) (pe_op op_mod (pv 6) (pe_ix ix_list (pe_lst (pac pe_int (pac pe_int (pac pe_int (pac pe_int pa_nil))))) (pe_op op_mod (pe_op op_fdiv (pv 6) pe_int) pe_int) (fun _ _ => rfl)))))
    (pss_cons (ps_set (i := 7) sc_law_rides.nd rfl (Or.inl rfl) (pe_ix ix_list (pe_lst (pac (pe_op op_add pe_int (pe_op op_mod (pe_op op_fdiv (pv 6) pe_int) pe_int)) (pac (pe_ix ix_list (pe_lst (pac pe_int (pac pe_int (pac pe_int (pac pe_int (pac pe_int (pac pe_int pa_nil))))))) (pe_op op_mod (pe_op op_fdiv (pv 6) pe_int) pe_int) (fun _ _ => rfl)) (pac pe_int pa_nil)))) (pe_op op_mod (pe_op op_fdiv (pv 6) pe_int) pe_int) (fun _ _ => rfl)))
    (pss_one (ps_expr (pe_bm PySem.F.plainAttrs_list PySem.F.slot_list_append PySem.F.type_list_append mt_append (pv 3) (pac (pe_tup (pac (pv 7) (pac (pv 4) pa_nil))) pa_nil))))))))
    (pss_one (ps_ret (pv 3)))))), ?_⟩
  refine ⟨by show 0 ≤ sizeLine; decide, fun l hl => ?_⟩
  have s1 := same_new hl (.lst [])
  refine ⟨_, rfl, _, rfl, a, ns, k, rfl, s1.seq hS, k0, by omega, fun d0 H1 hd0 s2 => ?_⟩
  refine ⟨_, _, rfl, rfl, (by show (0 : Int) < 14000000; decide), ?_⟩
  have S2 := s1.trans s2
  refine ⟨_, rfl, _, rfl, by omega, by omega, for_range (fun i σ H' => Same H H' ∧ ∃ (R : List Rd) (vs : List V) (mo : Int) (v5 v6 v7 : Option V), σ = [some (.ref a), some (.int k), some (.int (many : Nat)), some (.ref l), some (.int mo), v5, v6, v7] ∧ H' l = some (.lst vs) ∧ Al (RdAt (wo H' l)) vs R ∧ R.length = i ∧ ∀ r ∈ R, r.b < 64)
    ⟨S2, [], [], _, _, _, _, rfl, s2 _ _ upd_same, .nil, rfl, fun r hr => by cases hr⟩ ?_ ?_⟩
  · rintro i σ H2 hi ⟨s3, R, vs, mo, v5, v6, v7, rfl, hl2, al, en, okR⟩
    refine ⟨_, rfl, _, rfl, _, _, rfl, rfl, _, rfl, _, _, rfl, rfl, a, ns, _, rfl, s3.seq hS, by omega, by omega, fun d H3 hd s4 => ?_⟩
    obtain ⟨vm, em, m1, rfl, hm1, hm1'⟩ := at_all (p := fun v => ∃ m : Nat, v = .int (m : Nat) ∧ 1 ≤ m ∧ m ≤ 700) (xs := [.int 1, .int 30, .int 200, .int 700]) (d := ((d : Nat) : Int) / 1024 % 4) (fun v hv => by
      simp only [List.mem_cons, List.not_mem_nil, or_false] at hv
      rcases hv with rfl | rfl | rfl | rfl
      · exact ⟨1, rfl, by decide, by decide⟩
      · exact ⟨30, rfl, by decide, by decide⟩
      · exact ⟨200, rfl, by decide, by decide⟩
      · exact ⟨700, rfl, by decide, by decide⟩) (by omega) (by show ((d : Nat) : Int) / 1024 % 4 < 4; omega)
    refine ⟨_, rfl, _, rfl, by show 4 ≤ sizeLine; decide, fun p1 g1 => ?_⟩
    have s5 := s4.trans (same_new g1 (.lst [.int 1, .int 30, .int 200, .int 700]))
    refine ⟨_, rfl, _, _, rfl, rfl, ⟨by decide, by decide⟩, _, _, rfl, rfl, (by show (0 : Int) < 4; decide), p1, _, _, _, rfl, rfl, SqL.of upd_same, em, _, _, rfl, rfl, (by omega), _, _, rfl, rfl, ?_⟩
    obtain ⟨vc, ec, m2, rfl, hm2⟩ := at_all (p := fun v => ∃ m : Nat, v = .int (m : Nat) ∧ m < 64) (xs := [.int 1, .int 2, .int 4, .int 8, .int 16, .int 32]) (d := ((d : Nat) : Int) / 4096 % 6) (fun v hv => by
      simp only [List.mem_cons, List.not_mem_nil, or_false] at hv
      rcases hv with rfl | rfl | rfl | rfl | rfl | rfl
      · exact ⟨1, rfl, by decide⟩
      · exact ⟨2, rfl, by decide⟩
      · exact ⟨4, rfl, by decide⟩
      · exact ⟨8, rfl, by decide⟩
      · exact ⟨16, rfl, by decide⟩
      · exact ⟨32, rfl, by decide⟩) (by omega) (by show ((d : Nat) : Int) / 4096 % 6 < 6; omega)
    obtain ⟨vb, eb, B, rfl, hB⟩ := at_all (p := fun v => ∃ m : Nat, v = .int (m : Nat) ∧ m < 64) (xs := [.int (1 + ((d : Nat) : Int) / 4096 % 63), .int (m2 : Nat), .int 3]) (d := ((d : Nat) : Int) / 64 % 3) (fun v hv => by
      simp only [List.mem_cons, List.not_mem_nil, or_false] at hv
      rcases hv with rfl | rfl | rfl
      · exact ⟨1 + d / 4096 % 63, congrArg V.int (by omega), by omega⟩
      · exact ⟨m2, rfl, hm2⟩
      · exact ⟨3, rfl, by decide⟩) (by omega) (by show ((d : Nat) : Int) / 64 % 3 < 3; omega)
    refine ⟨_, rfl, _, _, rfl, rfl, ⟨by decide, by decide⟩, _, _, rfl, rfl, (by show (0 : Int) < 63; decide), _, _, rfl, rfl, by show 6 ≤ sizeLine; decide, fun p2 g2 => ?_⟩
    have s6 := s5.trans (same_new g2 (.lst [.int 1, .int 2, .int 4, .int 8, .int 16, .int 32]))
    refine ⟨_, rfl, _, _, rfl, rfl, ⟨by decide, by decide⟩, _, _, rfl, rfl, (by show (0 : Int) < 6; decide), p2, _, _, _, rfl, rfl, SqL.of upd_same, ec, by show 3 ≤ sizeLine; decide, fun p3 g3 => ?_⟩
    have s7 := s6.trans (same_new g3 (.lst [.int (1 + ((d : Nat) : Int) / 4096 % 63), .int (m2 : Nat), .int 3]))
    refine ⟨_, rfl, _, _, rfl, rfl, ⟨by decide, by decide⟩, _, _, rfl, rfl, (by show (0 : Int) < 3; decide), p3, _, _, _, rfl, rfl, SqL.of upd_same, eb, ?_⟩
    have hl7 := s7 _ _ hl2
    generalize upd (upd (upd H3 p1 (.lst [.int 1, .int 30, .int 200, .int 700])) p2 (.lst [.int 1, .int 2, .int 4, .int 8, .int 16, .int 32])) p3 (.lst [.int (1 + ((d : Nat) : Int) / 4096 % 63), .int (m2 : Nat), .int 3]) = H4 at s7 hl7 ⊢
    refine ⟨_, rfl, .inl ⟨rfl, _, SqL.of hl7⟩, _, rfl, _, rfl, by show 2 ≤ sizeLine; decide, fun pt gt => ?_⟩
    have npt : pt ≠ l := fun e => by rw [e, hl7] at gt; cases gt
    have s8 := same_new gt (.tup [.int (B : Nat), .int (mo + ((d : Nat) : Int) % ((m1 : Nat) : Int))])
    have S8 := s7.trans s8
    refine ⟨l, _, _, rfl, rfl, S8 _ _ hl2, Nat.lt_of_le_of_lt (show vs.length ≤ 8 by rw [al.length]; omega) (by decide), ?_⟩
    refine ⟨same_put (s3.trans S8) hl _, R ++ [⟨B, mo + ((d : Nat) : Int) % ((m1 : Nat) : Int)⟩], vs ++ [.ref pt], _, _, _, _, rfl, upd_same, ?_, by rw [List.length_append, List.length_singleton, en], ?_⟩
    · rw [wo_upd]
      exact (al.imp fun _ _ => RdAt.same (wo_mono S8)).snoc ⟨pt, rfl, wo_at upd_same npt⟩
    · intro r hr'
      rcases List.mem_append.mp hr' with hr' | hr'
      · exact okR r hr'
      · rw [List.mem_singleton] at hr'; subst hr'; exact hB
  · rintro σ H2 ⟨s3, R, vs, mo, v5, v6, v7, rfl, hl2, al, en, okR⟩
    exact ⟨_, rfl, q R vs l H2 s3 hl hl2 (al.imp fun _ _ => RdAt.same wo_same) (by omega) okR⟩

def HeldAt (H : Hp) : Option (Tk × Int) → V → Prop
  | none, v => v = .non
  | some (k, u), v => ∃ p vt, v = .ref p ∧ H p = some (.tup [vt, .int u]) ∧ TkAt H vt k
theorem HeldAt.same {H H' : Hp} {o : Option (Tk × Int)} {v : V} (s : Same H H') (h : HeldAt H o v) : HeldAt H' o v := by
  match o, h with
  | none, h => exact h
  | some (k, u), ⟨p, vt, e, h1, h2⟩ => exact ⟨p, vt, e, s _ _ h1, h2.same s⟩
def bought1 (TK : List Tk) (r : Rd) (hd : Option (Tk × Int)) : Option Str → Option (Tk × Int)
  | none => hd
  | some z => (findT TK z).map fun k => (k, r.mo + k.la)
theorem missing : ∀ a : Nat, a < 64 → ∀ b : Nat, b < 64 → (((zonesOf b).filter fun z => !(zonesOf a).contains z) = [] ↔ a &&& b = b) := by decide +kernel
theorem inV_nat (zs : List Nat) (z : Nat) : inV (.int (z : Nat)) (natV zs) = zs.contains z := by
  induction zs with
  | nil => rfl
  | cons y zs ih =>
    unfold inV natV at ih ⊢
    rw [List.map_cons, List.any_cons, ih, List.contains_cons]
    congr 1
    show ((((y : Nat) : Int)) == ((z : Nat) : Int)) = (z == y)
    by_cases h : z = y
    · subst h; simp
    · rw [beq_eq_false_iff_ne.mpr h, beq_eq_false_iff_ne.mpr (by omega)]
theorem flat_nat (zs : List Nat) : (natV zs).all flatV = true := by
  rw [List.all_eq_true]
  intro v hv
  obtain ⟨k, _, rfl⟩ := List.mem_map.mp hv
  rfl
theorem findT_snoc {TK : List Tk} {k : Tk} {z : Str} : findT (TK ++ [k]) z = match findT TK z with | some x => some x | none => if k.nm = z then some k else none := by
  unfold findT
  rw [List.find?_append]
  cases (TK.find? fun k => decide (k.nm = z)) with
  | some x => rfl
  | none =>
    rw [List.find?_cons, List.find?_nil]
    by_cases h : k.nm = z
    · rw [if_pos h, decide_eq_true h]; rfl
    · rw [if_neg h, decide_eq_false h]; rfl
def spSpent (K : W.Frag) : Sp := fun vs H Q _ => ∃ (lt lr lb : Addr) (vt : List V) (TK : List Tk) (vr : List V) (R : List Rd) (B : List (Option Str)), vs = [.ref lt, .ref lr, .ref lb] ∧ H lt = some (.lst vt) ∧ Al (TkAt H) vt TK ∧ (∀ k ∈ TK, k.Ok) ∧ TK.length ≤ 8 ∧ H lr = some (.lst vr) ∧ Al (RdAt H) vr R ∧ (∀ r ∈ R, r.b < 64) ∧
  H lb = some (.lst (B.map nmV)) ∧ (∀ n ∈ B, ∀ z, n = some z → ∃ k, findT TK z = some k) ∧ ∀ H', Same H H' → Q (optV (spentM TK none 0 R B)) H'
theorem ok_law_spent (Tx : Tab K mg t) : FnOk P w K mg base CX0 2 t.f_law_spent t.d_law_spent ["_law_tickets_here", "_law_rides_here", "_law_bought"] (spSpent K) := by
  refine Tx.F_law_spent.ok sc_law_spent (fun vs H Q E h => ?_) (fun cdv A outer s H vs Q E hr h => ?_)
  · obtain ⟨lt, lr, lb, vt, TK, vr, R, B, rfl, _⟩ := h
    rfl
  obtain ⟨lt, lr, lb, vt, TK, vr, R, B, rfl, hlt, alT, okT, lenT, hr1, hR, okR, hb, okB, q⟩ := h
  refine ⟨_, (pss_cons (ps_set (i := 3) sc_law_spent.nd rfl (Or.inl rfl) pe_int)
    (pss_cons (ps_set (i := 4) sc_law_spent.nd rfl (Or.inr rfl) pe_non)
    (pss_cons (ps_for PassesOwn.never rfl (pi_zip rfl Tx.z_zip (pac (pv 1) (pac (pv 2) pa_nil))) (pg_tup rfl (pgs_cons (pg_name (i := 5) sc_law_spent.nd rfl (Or.inr rfl)) (pgs_cons (pg_name (i := 6) sc_law_spent.nd rfl (Or.inr rfl)) pgs_nil)))
    (pss_join (ps_if (pt_cmp (pc_notN (pv 6)))
    (pss_cons (ps_set (i := 4) sc_law_spent.nd rfl (Or.inr rfl) (pe_ix ix_list (pe_comp (cl := [(Str.ofString "_law_ride", s.heap.objs.size + 2), (Str.ofString "_law_name", s.heap.objs.size + 3)]) (N := ["_law_ticket", "_law_ride", "_law_name"]) (fr := [none, some 5, some 6]) rfl (pi_list (pv 0)) rfl (by decide +kernel) rfl (by decide +kernel) ⟨⟨rfl, Or.inl rfl, Or.inl rfl, _, rfl, rfl⟩, ⟨⟨rfl, Or.inl rfl, Or.inl rfl, _, rfl, rfl⟩, trivial⟩⟩ ⟨rfl, ⟨rfl, trivial⟩⟩ rfl (fun _ _ _ _ _ => (pg_name (i := 0) (show List.Nodup (["_law_ticket", "_law_ride", "_law_name"] : List Str) by decide +kernel) rfl (Or.inl rfl))) (fun _ _ _ _ _ => (pts_one (pt_cmpR op_eq (pe_ix (show IxR _ (rIxT K) from ix_tup) (pv 0) pe_int (fun _ _ => rfl)) (pv 2) (nomark _)))) (fun _ _ _ _ _ => (pe_tup (pac (pv 0) (pac (pe_op op_add (pe_ix (show IxR _ (rIxT K) from ix_tup) (pv 1) pe_int (fun _ _ => rfl)) (pe_ix (show IxR _ (rIxT K) from ix_tup) (pv 0) pe_int (fun _ _ => rfl))) pa_nil))))) pe_int (fun _ _ => rfl)))
    (pss_one (ps_set (i := 3) sc_law_spent.nd rfl (Or.inl rfl) (pe_op op_add (pv 3) (pe_ix ix_tup (pe_ix (show IxR _ (rIxT K) from ix_tup) (pv 4) pe_int (fun _ _ => rfl)) pe_int (fun _ _ => rfl))))))
    pss_nil)
    (pss_join (ps_if (PW.pt (pw_or (pt_cmp (pc_isN (pv 4))) (pw_or1 (PW.pt (pw_and (pt_cmp (pc_isN (pv 6))) (pw_and1 (pt_cmpR op_ge (pe_ix (show IxR _ (rIxT K) from ix_tup) (pv 5) pe_int (fun _ _ => rfl)) (pe_ix ix_tup (pv 4) pe_int (fun _ _ => rfl)) (nomark _))))))))
    (pss_one (ps_ret pe_non))
    pss_nil)
    (pss_one (ps_if (pt_cmpR (op_ne_lst hr.units0) (pe_comp (cl := [(Str.ofString "_law_held", s.heap.objs.size + 1)]) (N := ["_law_zone", "_law_held"]) (fr := [none, some 4]) rfl (pi_list (pe_call (ok_law_zones Tx) (hr.mono (by omega)) rfl Tx.m_law_zones Tx.F_law_zones.kp Tx.b_law_zones .nil pass0 (pac (pe_ix ix_tup (pv 5) pe_int (fun _ _ => rfl)) pa_nil))) rfl (by decide +kernel) rfl (by decide +kernel) ⟨⟨rfl, Or.inl rfl, Or.inl rfl, _, rfl, rfl⟩, trivial⟩ ⟨rfl, trivial⟩ rfl (fun _ _ _ _ _ => (pg_name (i := 0) (show List.Nodup (["_law_zone", "_law_held"] : List Str) by decide +kernel) rfl (Or.inl rfl))) (fun _ _ _ _ _ => (pts_one (pt_cmpR (show OpR _ (compareOp .NotIn) (rIn K true) from op_notIn_seq) (pv 0) (pe_ix (show IxR _ (rIxT K) from ix_tup) (pe_ix (show IxR _ (rIxT K) from ix_tup) (pv 1) pe_int (fun _ _ => rfl)) pe_int (fun _ _ => rfl)) rfl))) (fun _ _ _ _ _ => (pv 0))) (pe_lst pa_nil) (nomark _))
    (pss_one (ps_ret pe_non))
    pss_nil)))))
    (pss_one (ps_ret (pv 3)))))), ?_⟩
  refine ⟨_, rfl, _, rfl, lr, lb, rfl, ⟨_, SqL.of hr1⟩, ⟨_, SqL.of hb⟩, for_zip (xs := vr) (ys := B.map nmV) (fun i σ H' => Same H H' ∧ ∃ (hd : Option (Tk × Int)) (vh : V) (p : Nat) (v5 v6 : Option V), σ = [some (.ref lt), some (.ref lr), some (.ref lb), some (.int (p : Nat)), some vh, v5, v6] ∧ HeldAt H' hd vh ∧ HeldOk TK hd ∧ spentM TK none 0 R B = spentM TK hd p (R.drop i) (B.drop i))
    ⟨Same.refl H, none, .non, 0, _, _, rfl, rfl, trivial, rfl⟩ (fun i σ H' _ _ ⟨s1, _⟩ => ⟨SqL.of (s1 _ _ hr1), SqL.of (s1 _ _ hb)⟩) ?_ ?_⟩
  · rintro i x y pp σ H1 hx hy hpp ⟨s1, hd, vh, p, v5, v6, rfl, hh, ho, es⟩
    obtain ⟨r, er, hr2⟩ := hR.get hx
    have rb := okR r (List.mem_of_getElem? er)
    rw [List.getElem?_map] at hy
    cases eb : B[i]? with
    | none => rw [eb] at hy; cases hy
    | some nm =>
      rw [eb] at hy
      obtain rfl : nmV nm = y := Option.some.inj hy
      have okn := okB nm (List.mem_of_getElem? eb)
      have s2 := s1.trans (same_new hpp (.tup [x, nmV nm]))
      have hh2 := hh.same (same_new hpp (.tup [x, nmV nm]))
      rw [spent_step hd p er eb] at es
      refine ⟨pp, _, rfl, SqT.of upd_same, rfl, _, _, rfl, _, _, rfl, rfl, ?_⟩
      obtain ⟨pr, rfl, hpr⟩ := hr2
      generalize upd H1 pp (.tup [.ref pr, nmV nm]) = H2 at s2 hh2 ⊢
      refine ⟨fun σ H3 => Same H H3 ∧ ∃ vh', σ = [some (.ref lt), some (.ref lr), some (.ref lb), some (.int ((p + priceM TK nm : Nat) : Int)), some vh', some (.ref pr), some (nmV nm)] ∧ HeldAt H3 (bought1 TK r hd nm) vh' ∧ HeldOk TK (bought1 TK r hd nm), ?_, ?_⟩
      · cases nm with
        | none =>
          refine ⟨_, rfl, _, rfl, itF (by decide) ⟨s2, vh, rfl, hh2, ho⟩⟩
        | some z =>
          refine ⟨_, rfl, _, rfl, itT (by show (!decide (V.str z = V.non)) = true; simp) ?_⟩
          obtain ⟨k, ek⟩ := okn z rfl
          refine ⟨_, rfl, lt, rfl, ⟨_, SqL.of (s2 _ _ hlt)⟩, comp_list (K := K) (a := lt) (xs := vt) (fun i acc σ H' => Same H2 H' ∧ (∃ v, σ = [v, some (.ref pr), some (.str z)]) ∧ (findT (TK.take i) z = none → acc = []) ∧ ∀ k, findT (TK.take i) z = some k → ∃ p vt rest, acc = .ref p :: rest ∧ H' p = some (.tup [vt, .int (r.mo + k.la)]) ∧ TkAt H' vt k)
            ⟨Same.refl H2, ⟨_, rfl⟩, fun _ => rfl, fun k e => by cases e⟩ (by rw [alT.length]; exact Nat.le_trans lenT (by decide)) (fun i acc σ H' _ ⟨s3, _⟩ => SqL.of (s3 _ _ (s2 _ _ hlt))) ?_ ?_⟩
          · rintro j x acc σ H3 hl hx ⟨s3, ⟨v, rfl⟩, i1, i2⟩
            obtain ⟨k', ek', hk'⟩ := alT.get hx
            have tk : TK.take (j + 1) = TK.take j ++ [k'] := by rw [List.take_add_one, ek']; rfl
            have S3 := s2.trans s3
            have hk3 := hk'.same S3
            obtain ⟨pt, lz, rfl, g1, g2⟩ := hk3
            refine ⟨_, rfl, pt, _, 0, _, rfl, rfl, SqT.of g1, rfl, _, rfl, rfl, _, rfl, ?_⟩
            by_cases c : k'.nm = z
            · refine itT (by show decide (V.str k'.nm = V.str z) = true; rw [c]; simp) ?_
              refine ⟨_, rfl, _, rfl, pr, _, 1, _, rfl, rfl, SqT.of (S3 _ _ hpr), rfl, _, rfl, pt, _, 2, _, rfl, rfl, SqT.of g1, rfl, _, _, rfl, rfl, by show 2 ≤ sizeLine; decide, fun p4 g4 => ?_⟩
              have s4 := same_new g4 (.tup [.ref pt, .int (r.mo + ((k'.la : Nat) : Int))])
              refine ⟨by rw [List.length_append, List.length_singleton]; omega, s3.trans s4, ⟨_, rfl⟩, fun e => ?_, fun k e => ?_⟩
              · rw [tk, findT_snoc] at e
                cases ef : findT (TK.take j) z with
                | some x => rw [ef] at e; cases e
                | none => rw [ef] at e; dsimp only at e; rw [if_pos c] at e; cases e
              · rw [tk, findT_snoc] at e
                cases ef : findT (TK.take j) z with
                | some x =>
                  rw [ef] at e
                  have ex : x = k := Option.some.inj e
                  rw [ex] at ef
                  obtain ⟨p5, vt5, rest, rfl, h5, h6⟩ := i2 k ef
                  exact ⟨p5, vt5, rest ++ [.ref p4], rfl, s4 _ _ h5, h6.same s4⟩
                | none =>
                  rw [ef] at e
                  dsimp only at e
                  rw [if_pos c] at e
                  cases e
                  rw [i1 ef]
                  exact ⟨p4, .ref pt, [], rfl, upd_same, pt, lz, rfl, s4 _ _ g1, s4 _ _ g2⟩
            · refine itF (by show ¬ decide (V.str k'.nm = V.str z) = true; simpa using c) ?_
              have e0 : findT (TK.take (j + 1)) z = findT (TK.take j) z := by
                rw [tk, findT_snoc]
                cases findT (TK.take j) z with
                | some x => rfl
                | none => dsimp only; rw [if_neg c]
              rw [e0]
              exact ⟨by omega, s3, ⟨_, rfl⟩, i1, i2⟩
          · rintro acc σ H3 ha ⟨s3, ⟨v, rfl⟩, i1, i2⟩ p5 g5
            rw [alT.length, List.take_length] at i2
            obtain ⟨ph, vt', rest, rfl, h5, h6⟩ := i2 k ek
            have s4 := same_new g5 (.lst (.ref ph :: rest))
            refine ⟨p5, _, 0, _, rfl, rfl, SqL.of upd_same, (show atI (V.ref ph :: rest) ((0 : Nat) : Int) = some (V.ref ph) from atI_nat rfl), ?_⟩
            obtain ⟨pt, lz, rfl, g1, g2⟩ := h6
            refine ⟨_, rfl, _, rfl, ph, _, 0, _, rfl, rfl, SqT.of (s4 _ _ h5), rfl, pt, _, 1, _, rfl, rfl, SqT.of (s4 _ _ g1), rfl, _, _, rfl, rfl, ?_⟩
            have eB : bought1 TK r hd (some z) = some (k, r.mo + k.la) := by show (findT TK z).map _ = _; rw [ek]; rfl
            have eP : priceM TK (some z) = k.pr := by show (match findT TK z with | some k => k.pr | none => 0) = k.pr; rw [ek]
            refine ⟨(s2.trans s3).trans s4, .ref ph, ?_, ?_, ?_⟩
            · rw [eP]; rfl
            · rw [eB]; exact ⟨ph, .ref pt, rfl, s4 _ _ h5, pt, lz, rfl, s4 _ _ g1, s4 _ _ g2⟩
            · rw [eB]; exact findT_nm ek
      · rintro σ H3 ⟨s3, vh', rfl, hh3, ho3⟩
        cases eh : bought1 TK r hd nm with
        | none =>
          rw [eh] at hh3
          obtain rfl : vh' = .non := hh3
          have est : stepM TK hd r nm = none := by
            cases nm with
            | none =>
              have eh : hd = none := eh
              rw [eh]; rfl
            | some z =>
              obtain ⟨k, ek⟩ := okn z rfl
              have eh : (findT TK z).map (fun k => (k, r.mo + ((k.la : Nat) : Int))) = none := eh
              rw [ek] at eh
              cases eh
          rw [est] at es
          refine ⟨fun _ _ => False, ⟨_, rfl, _, rfl, itT rfl ?_⟩, fun _ _ f => f.elim⟩
          have q2 := q H3 s3
          rw [es] at q2
          exact q2
        | some ku =>
          obtain ⟨k, u⟩ := ku
          rw [eh] at hh3 ho3
          obtain ⟨ph, vt', rfl, hph, pt, lz, rfl, g1, g2⟩ := hh3
          have kb := (okT k (findT_mem ho3).1).b
          have est : stepM TK hd r nm = if k.b &&& r.b = r.b ∧ (nm = none → r.mo < u) then some (k, u) else none := by
            cases nm with
            | none =>
              have eh : hd = some (k, u) := eh
              rw [eh]
              show (if k.b &&& r.b = r.b ∧ r.mo < u then some (k, u) else none) = _
              by_cases c : k.b &&& r.b = r.b ∧ r.mo < u
              · rw [if_pos c, if_pos ⟨c.1, fun _ => c.2⟩]
              · rw [if_neg c, if_neg fun z => c ⟨z.1, z.2 rfl⟩]
            | some z =>
              obtain ⟨k0, ek⟩ := okn z rfl
              have eh : (findT TK z).map (fun k => (k, r.mo + ((k.la : Nat) : Int))) = some (k, u) := eh
              rw [ek] at eh
              have eh := Option.some.inj eh
              injection eh with ea eb2
              subst ea
              show buyM r (findT TK z) = _
              rw [ek, ← eb2]
              show (if k0.b &&& r.b = r.b then some (k0, r.mo + ((k0.la : Nat) : Int)) else none) = _
              by_cases c : k0.b &&& r.b = r.b
              · rw [if_pos c, if_pos ⟨c, fun x => by cases x⟩]
              · rw [if_neg c, if_neg fun x => c x.1]
          refine ⟨fun σ' H' => H' = H3 ∧ σ' = [some (.ref lt), some (.ref lr), some (.ref lb), some (.int ((p + priceM TK nm : Nat) : Int)), some (.ref ph), some (.ref pr), some (nmV nm)] ∧ (nm = none → r.mo < u), ?_, ?_⟩
          · refine ⟨_, rfl, _, rfl, itF (by intro y; cases y) ?_⟩
            cases nm with
            | some z => exact ⟨_, rfl, _, rfl, itF (by intro y; cases y) (itF (by decide) ⟨rfl, rfl, fun x => by cases x⟩)⟩
            | none =>
              refine ⟨_, rfl, _, rfl, itT rfl ?_⟩
              refine ⟨_, rfl, pr, _, 1, _, rfl, rfl, SqT.of (s3 _ _ (hpr)), rfl, _, rfl, ph, _, 1, _, rfl, rfl, SqT.of hph, rfl, _, _, rfl, rfl, _, rfl, ?_⟩
              by_cases cu : r.mo < u
              · exact itF (by rw [decide_eq_false (by omega)]; decide) ⟨rfl, rfl, fun _ => cu⟩
              · refine itT (decide_eq_true (by omega)) ?_
                rw [est, if_neg fun z => cu (z.2 rfl)] at es
                have q2 := q H3 s3
                rw [es] at q2
                exact q2
          · rintro σ' H' ⟨rfl, rfl, cu⟩
            refine ⟨_, rfl, pr, _, 0, _, rfl, rfl, SqT.of (s3 _ _ hpr), rfl, r.b, rfl, fun l4 H4 s4 _ h4 => ?_⟩
            have S4 := s3.trans s4
            refine ⟨l4, rfl, ⟨_, SqL.of h4⟩, comp_list (K := K) (a := l4) (xs := natV (zonesOf r.b)) (fun i acc σ H' => H' = H4 ∧ (∃ v, σ = [v, some (.ref ph)]) ∧ acc = natV (((zonesOf r.b).take i).filter fun z => !(zonesOf k.b).contains z))
              ⟨rfl, ⟨_, rfl⟩, rfl⟩ (by unfold natV; rw [List.length_map]; exact Nat.le_trans (zones_len r.b) (by decide)) (fun i acc σ H' _ ⟨e, _⟩ => by rw [e]; exact SqL.of h4) ?_ ?_⟩
            · rintro j x acc σ H5 hl hx ⟨rfl, ⟨v, rfl⟩, rfl⟩
              unfold natV at hx
              rw [List.getElem?_map] at hx
              cases ez : (zonesOf r.b)[j]? with
              | none => rw [ez] at hx; cases hx
              | some z =>
                rw [ez] at hx
                obtain rfl : V.int ((z : Nat) : Int) = x := Option.some.inj hx
                have tk : (zonesOf r.b).take (j + 1) = (zonesOf r.b).take j ++ [z] := by rw [List.take_add_one, ez]; rfl
                refine ⟨_, rfl, _, rfl, ph, _, 0, _, rfl, rfl, SqT.of (s4 _ _ hph), rfl, pt, _, 3, _, rfl, rfl, SqT.of (s4 _ _ g1), rfl, lz, _, rfl, .inl (SqL.of (s4 _ _ g2)), rfl, flat_nat _, _, rfl, ?_⟩
                rw [inV_nat]
                rw [tk, List.filter_append]
                by_cases c : (zonesOf k.b).contains z = true
                · refine itF (by rw [c]; decide) ?_
                  refine ⟨by omega, rfl, ⟨_, rfl⟩, ?_⟩
                  rw [List.filter_cons, List.filter_nil, c]
                  show _ = natV (_ ++ [])
                  rw [List.append_nil]
                · have c := Bool.eq_false_iff.mpr c
                  refine itT (by rw [c]; decide) ?_
                  refine ⟨_, rfl, by rw [List.length_append, List.length_singleton]; omega, rfl, ⟨_, rfl⟩, ?_⟩
                  rw [List.filter_cons, List.filter_nil, c]
                  show _ = natV (_ ++ [z])
                  unfold natV
                  rw [List.map_append]
                  rfl
            · rintro acc σ H5 ha ⟨rfl, ⟨v, rfl⟩, rfl⟩ p6 g6
              have e6 : (natV (zonesOf r.b)).length = (zonesOf r.b).length := List.length_map ..
              rw [e6, List.take_length]
              have s6 := same_new g6 (.lst (natV ((zonesOf r.b).filter fun z => !(zonesOf k.b).contains z)))
              refine ⟨by show 0 ≤ sizeLine; decide, fun p7 g7 => ?_⟩
              have s7 := same_new g7 (.lst [])
              have S7 := (S4.trans s6).trans s7
              refine ⟨p6, p7, _, _, rfl, rfl, SqL.of (s7 _ _ upd_same), SqL.of upd_same, flat_nat _, rfl, _, rfl, ?_⟩
              have mis := missing k.b kb r.b rb
              by_cases c : k.b &&& r.b = r.b
              · refine itF (by rw [mis.mpr c]; decide) ?_
                rw [est, if_pos ⟨c, cu⟩] at es
                exact ⟨S7, some (k, u), .ref ph, p + priceM TK nm, _, _, rfl, ⟨ph, .ref pt, rfl, s7 _ _ (s6 _ _ (s4 _ _ hph)), pt, lz, rfl, s7 _ _ (s6 _ _ (s4 _ _ g1)), s7 _ _ (s6 _ _ (s4 _ _ g2))⟩, ho3, es⟩
              · have nz : ((zonesOf r.b).filter fun z => !(zonesOf k.b).contains z) ≠ [] := fun e => c (mis.mp e)
                rw [est, if_neg fun z => c z.1] at es
                have q2 := q _ S7
                rw [es] at q2
                cases ef : ((zonesOf r.b).filter fun z => !(zonesOf k.b).contains z) with
                | nil => exact absurd ef nz
                | cons y ys => exact itT rfl (by rw [ef] at q2; exact q2)
  · rintro i σ H1 hi ⟨s1, hd, vh, p, v5, v6, rfl, hh, ho, es⟩
    rw [spent_end hd p (by rw [List.length_map] at hi; rw [← hR.length]; exact hi)] at es
    have q2 := q H1 s1
    rw [es] at q2
    exact ⟨_, rfl, q2⟩

abbrev Wy := Dy.Way (Option (Tk × Int)) (Option Str)
def keyH (x : Tk × Int) : List Key := [Sum.inr x.1.nm, Sum.inl x.2]
def keyW (v : Wy) : List Key := match v.h with
  | some x => keyH x
  | none => []
def stepS (TK : List Tk) (h : Option (Tk × Int)) (r : Rd) (n : Option Str) : Option (Option (Tk × Int)) := (stepM TK h r n).map some
def NSof (TK : List Tk) : List (Option Str) := none :: TK.map fun k => some k.nm
theorem NS_map (TK : List Tk) : [V.non] ++ (TK.map fun k => V.str k.nm) = (NSof TK).map nmV := by
  unfold NSof
  rw [List.map_cons, List.map_map]
  rfl
theorem NS_len (TK : List Tk) : (NSof TK).length = TK.length + 1 := by
  unfold NSof
  rw [List.length_cons, List.length_map]
theorem NS_find {TK : List Tk} {n : Option Str} {z : Str} (h : n ∈ NSof TK) (e : n = some z) : ∃ k, findT TK z = some k := by
  subst e
  unfold NSof at h
  rcases List.mem_cons.mp h with h | h
  · cases h
  · obtain ⟨k, hk, e⟩ := List.mem_map.mp h
    cases e
    cases ef : findT TK k.nm with
    | some k' => exact ⟨k', rfl⟩
    | none =>
      unfold findT at ef
      have := List.find?_eq_none.mp ef k hk
      simp at this
theorem keyH_inj {TK : List Tk} {x y : Tk × Int} (hx : HeldOk TK (some x)) (hy : HeldOk TK (some y)) (e : keyH x = keyH y) : x = y := by
  obtain ⟨k, u⟩ := x
  obtain ⟨k', u'⟩ := y
  have hx : findT TK k.nm = some k := hx
  have hy : findT TK k'.nm = some k' := hy
  have e : [Sum.inr k.nm, Sum.inl u] = ([Sum.inr k'.nm, Sum.inl u'] : List Key) := e
  injection e with e1 e2
  injection e2 with e2 _
  have e1 := Sum.inr.inj e1
  have e2 := Sum.inl.inj e2
  rw [e1, hy] at hx
  rw [Option.some.inj hx, e2]
def WyAt (K : W.Frag) (TK : List Tk) (H0 H : Hp) (v : V) (x : Wy) : Prop := ∃ p lb h, v = .ref p ∧ H p = some (.tup [.int (x.p : Nat), .ref lb, .ref h]) ∧ H lb = some (.lst (x.B.map nmV)) ∧ H0 lb = none ∧ SqT K H h (heldV x.h) ∧ (∀ z, x.h = some z → H h = some (.tup (heldV (some z)))) ∧ HeldOk TK x.h
theorem WyAt.same {TK : List Tk} {H0 H H' : Hp} {v : V} {x : Wy} (s : Same H H') (h : WyAt K TK H0 H v x) : WyAt K TK H0 H' v x :=
  let ⟨p, lb, h, e, h1, h2, h3, h4, h5, h6⟩ := h; ⟨p, lb, h, e, s _ _ h1, s _ _ h2, h3, s.seqT h4, fun z e => s _ _ (h5 z e), h6⟩
def KwAt (K : W.Frag) (TK : List Tk) (H0 H : Hp) (kv : List Key × V) (x : Wy) : Prop := (∃ z, x.h = some z ∧ kv.1 = keyH z) ∧ WyAt K TK H0 H kv.2 x
theorem KwAt.same {TK : List Tk} {H0 H H' : Hp} {kv : List Key × V} {x : Wy} (s : Same H H') (h : KwAt K TK H0 H kv x) : KwAt K TK H0 H' kv x := ⟨h.1, h.2.same s⟩
theorem KwAt.ok {TK : List Tk} {H0 H : Hp} {kv : List Key × V} {x : Wy} (h : KwAt K TK H0 H kv x) : ∃ z, x.h = some z ∧ kv.1 = keyH z ∧ HeldOk TK (some z) := by
  obtain ⟨⟨z, e, ek⟩, p, lb, h, _, _, _, _, _, _, ho⟩ := h
  rw [e] at ho
  exact ⟨z, e, ek, ho⟩
theorem KwAt.key {TK : List Tk} {H0 H : Hp} {kv : List Key × V} {x : Wy} (h : KwAt K TK H0 H kv x) : kv.1 = keyW x := by
  obtain ⟨⟨z, e, ek⟩, _⟩ := h
  unfold keyW
  rw [e]
  exact ek
theorem al_vals {R : List Key × V → Wy → Prop} {R' : V → Wy → Prop} (hR : ∀ kv x, R kv x → R' kv.2 x) {kvs : List (List Key × V)} {T : List Wy} (h : Al R kvs T) : Al R' (kvs.map (·.2)) T := by
  induction h with
  | nil => exact .nil
  | cons a _ ih => exact .cons (hR _ _ a) ih
theorem al_mem {R : List Key × V → Wy → Prop} {kvs : List (List Key × V)} {T : List Wy} (h : Al R kvs T) {x : Wy} (hx : x ∈ T) : ∃ kv, R kv x := by
  induction h with
  | nil => cases hx
  | cons a _ ih =>
    rcases List.mem_cons.mp hx with rfl | hx
    · exact ⟨_, a⟩
    · exact ih hx
theorem kw_val {TK : List Tk} {H0 H : Hp} {kvs : List (List Key × V)} {T : List Wy} {z : Tk × Int} (al : Al (KwAt K TK H0 H) kvs T) (hz : HeldOk TK (some z)) :
    (valV kvs (keyH z) = none → ∀ x ∈ T, x.h ≠ some z) ∧ ∀ v, valV kvs (keyH z) = some v → ∃ x ∈ T, x.h = some z ∧ WyAt K TK H0 H v x := by
  induction al with
  | nil => exact ⟨fun _ x hx => by (cases hx), fun v e => by cases e⟩
  | @cons kv x kvs T a _ ih =>
    obtain ⟨y, ey, ek, oy⟩ := a.ok
    by_cases e : kv.1 = keyH z
    · have zy : z = y := keyH_inj hz oy (e.symm.trans ek)
      rw [valV_pos e]
      refine ⟨fun n => by (cases n), fun v n => ?_⟩
      cases n
      exact ⟨x, List.mem_cons_self .., by rw [ey, zy], a.2⟩
    · rw [valV_neg e]
      refine ⟨fun n v hv => ?_, fun v n => ?_⟩
      · rcases List.mem_cons.mp hv with rfl | hv
        · intro z2
          rw [ey] at z2
          rw [Option.some.inj z2] at ek
          exact e ek
        · exact ih.1 n v hv
      · obtain ⟨x', h1, h2, h3⟩ := ih.2 v n
        exact ⟨x', List.mem_cons_of_mem _ h1, h2, h3⟩
theorem al_any {R : List Key × V → Wy → Prop} {kvs : List (List Key × V)} {T : List Wy} (al : Al R kvs T) (hk : ∀ kv x, R kv x → kv.1 = keyW x) (k : List Key) : (kvs.any fun kv => decide (kv.1 = k)) = T.any fun x => decide (keyW x = k) := by
  induction al with
  | nil => rfl
  | cons a _ ih => rw [List.any_cons, List.any_cons, ih, hk _ _ a]
theorem al_put {R : List Key × V → Wy → Prop} {kvs : List (List Key × V)} {T : List Wy} (al : Al R kvs T) (hk : ∀ kv x, R kv x → kv.1 = keyW x) {k : List Key} {v : V} {x : Wy} (hn : R (k, v) x) : Al R (putK kvs k v) (Dy.put (fun x => decide (keyW x = k)) T x) := by
  unfold putK Dy.put
  rw [al_any al hk k]
  split
  · rename_i h
    clear h
    induction al with
    | nil => exact .nil
    | @cons kv y kvs T a _ ih =>
      rw [List.map_cons, List.map_cons]
      refine .cons ?_ ih
      have e := hk _ _ a
      by_cases c : kv.1 = k
      · rw [if_pos c, if_pos (decide_eq_true (e.symm.trans c)), c]
        exact hn
      · rw [if_neg c, if_neg (fun z => c (e.trans (of_decide_eq_true z)))]
        exact a
  · exact al.snoc hn
def spWays (t : Adr) (K : W.Frag) : Sp := fun vs H Q _ => ∃ (n lw : Addr) (TK : List Tk) (vw : List V) (W : List Wy) (vr : V) (r : Rd) (rs : List Rd) (H0 : Hp), vs = [.ref n, .ref lw, vr] ∧ NetAt t H n TK ∧ (∀ k ∈ TK, k.Ok) ∧ Same H0 H ∧ H lw = some (.lst vw) ∧ Al (WyAt K TK H0 H) vw W ∧ RdAt H vr r ∧ Dy.Ok (stepS TK) (priceM TK) none (NSof TK) rs W ∧ rs.length ≤ 100 ∧ TK.length ≤ 8 ∧ W.length * (TK.length + 1) ≤ 100000 ∧
  ∀ l vs' T H', Same H H' → H' l = some (.lst vs') → Al (WyAt K TK H0 H') vs' T → Dy.Ok (stepS TK) (priceM TK) none (NSof TK) (rs ++ [r]) T → T.length ≤ W.length * (TK.length + 1) → Q (.ref l) H'
theorem ok_ways_behind (Tx : Tab K mg t) : FnOk P w K mg base CX0 5 t.f_ways_behind t.d_ways_behind ["net", "ways", "ride"] (spWays t K) := by
  refine Tx.F_ways_behind.ok sc_ways_behind (fun vs H Q E h => ?_) (fun cdv A outer s H vs Q E hr h => ?_)
  · obtain ⟨n, lw, TK, vw, W, vr, r, rs, H0, rfl, _⟩ := h
    rfl
  obtain ⟨n, lw, TK, vw, W, vr, r, rs, H0, rfl, hN, hK, s0, hw, alW, hR, okW, lenR, lenT, lenW, q⟩ := h
  refine ⟨_, (pss_cons (ps_set (i := 3) sc_ways_behind.nd rfl (Or.inl rfl) pe_dnewT)
    (pss_cons (ps_for PassesOwn.never rfl (pi_list (pv 1)) (pg_tup rfl (pgs_cons (pg_name (i := 4) sc_ways_behind.nd rfl (Or.inl rfl)) (pgs_cons (pg_name (i := 5) sc_ways_behind.nd rfl (Or.inl rfl)) (pgs_cons (pg_name (i := 6) sc_ways_behind.nd rfl (Or.inl rfl)) pgs_nil))))
    (pss_one (ps_for PassesOwn.never rfl (pi_list (pe_op op_cat (pe_lst (pac pe_non pa_nil)) (pe_meth0 (pv 0) Tx.cl_Net Tx.me_Net_tickets (ok_Net_tickets Tx) (hr.mono (by omega)) Tx.b_Net_tickets .nil pass0))) (pg_name (i := 7) sc_ways_behind.nd rfl (Or.inl rfl))
    (pss_cons (ps_set (i := 8) sc_ways_behind.nd rfl (Or.inl rfl) (pe_call (ok_held_behind_t Tx) (hr.mono (by omega)) rfl Tx.m_held_behind Tx.F_held_behind.kp Tx.b_held_behind .nil pass0 (pac (pv 0) (pac (pv 6) (pac (pv 2) (pac (pv 7) pa_nil))))))
    (pss_join (ps_if (pt_cmp (pc_isN (pv 8)))
    (pss_one ps_continue)
    pss_nil)
    (pss_cons (ps_set (i := 9) sc_ways_behind.nd rfl (Or.inl rfl) (pe_tup (pac (pe_op op_add (pv 4) (pe_call (ok_price_for Tx) (hr.mono (by omega)) rfl Tx.m_price_for Tx.F_price_for.kp Tx.b_price_for .nil pass0 (pac (pv 0) (pac (pv 7) pa_nil)))) (pac (pe_op op_cat (pv 5) (pe_lst (pac (pv 7) pa_nil))) (pac (pv 8) pa_nil)))))
    (pss_one (ps_if (PW.pt (pw_or (pt_cmp (pc_dnotin (hu_of hr) (pv 8) (pv 3))) (pw_or1 (pt_cmpR op_lt (pe_ix ix_tup (pv 9) pe_int (fun _ _ => rfl)) (pe_ix ix_tup (pe_dget (hu_of hr) (pv 3) (pv 8) (fun _ _ => rfl)) pe_int (fun _ _ => rfl)) (nomark _)))))
    (pss_one (ps_dput (hu_of hr) (pv 3) (pv 8) (pv 9) rfl))
    pss_nil))))))))
    (pss_one (ps_ret (pe_callTy (call_list_values rfl) rfl Tx.z_list b_list (pac (pe_bm0 PySem.F.plainAttrs_dict PySem.F.slot_dict_values PySem.F.type_dict_values mt_dvalues (pv 3)) pa_nil)))))), ?_⟩
  intro d hd
  have s1 := same_new hd (.dT [])
  refine ⟨_, rfl, lw, rfl, ⟨_, SqL.of (s1 _ _ hw)⟩, for_list (xs := vw) (fun i σ H' => Same H H' ∧ ∃ (kvs : List (List Key × V)) (T : List Wy) (v4 v5 v6 v7 v8 v9 : Option V), σ = [some (.ref n), some (.ref lw), some vr, some (.ref d), v4, v5, v6, v7, v8, v9] ∧ H' d = some (.dT kvs) ∧ Al (KwAt K TK H0 (wo H' d)) kvs T ∧ Dy.Tb (stepS TK) (priceM TK) none (NSof TK) rs r (Dy.Done W (NSof TK) i 0) T ∧ Dy.Un T ∧ i ≤ W.length ∧ T.length ≤ i * (TK.length + 1))
    ⟨s1, [], [], _, _, _, _, _, _, rfl, upd_same, .nil, Dy.Tb.start, fun v hv => by (cases hv), Nat.zero_le _, Nat.zero_le _⟩ (fun i σ H' _ ⟨s', _⟩ => SqL.of (s' _ _ hw)) ?_ ?_⟩
  · rintro i x σ H1 hx ⟨s2, kvs, T, v4, v5, v6, v7, v8, v9, rfl, hd1, alT, tb, un, li, lenT1⟩
    obtain ⟨w0, ew, hw0⟩ := alW.get hx
    have li2 : i + 1 ≤ W.length := (List.getElem?_eq_some_iff.mp ew).1
    obtain ⟨p0, lb0, h0, rfl, g1, g2, g3, g4, g5, g6⟩ := hw0
    refine ⟨p0, _, rfl, SqT.of (s2 _ _ g1), rfl, _, _, rfl, _, _, rfl, _, _, rfl, rfl, ?_⟩
    refine ⟨by show 1 ≤ sizeLine; decide, fun p1 j1 => ?_⟩
    have t1 := same_new j1 (.lst [.non])
    have hN1 := hN.same (s2.trans t1)
    have hN1' := hN1
    obtain ⟨dx, fs, dd, rows, e1, e2, e3, e4⟩ := hN1'
    refine ⟨_, rfl, n, dx, _, rfl, e1, e2.n2, n, TK, rfl, hN1, fun l2 H2 t2 hl2 => ?_⟩
    refine ⟨p1, l2, _, _, rfl, rfl, t2 _ _ upd_same, hl2, (by rw [List.length_map]; exact Nat.le_trans (show 1 + TK.length ≤ 9 by omega) (by decide)), fun p3 j3 => ?_⟩
    have t3 := same_new j3 (.lst ([V.non] ++ TK.map fun k => V.str k.nm))
    have U3 := (t1.trans t2).trans t3
    have n3 : p3 ≠ d := (ne_of_none ((t1.trans t2) _ _ hd1) j3).symm
    refine ⟨p3, rfl, ⟨_, SqL.of upd_same⟩, for_list (xs := [V.non] ++ TK.map fun k => V.str k.nm) (fun j σ H' => Same H H' ∧ H' p3 = some (.lst ([V.non] ++ TK.map fun k => V.str k.nm)) ∧ ∃ (kvs : List (List Key × V)) (T : List Wy) (v7 v8 v9 : Option V), σ = [some (.ref n), some (.ref lw), some vr, some (.ref d), some (.int (w0.p : Nat)), some (.ref lb0), some (.ref h0), v7, v8, v9] ∧ H' d = some (.dT kvs) ∧ Al (KwAt K TK H0 (wo H' d)) kvs T ∧ Dy.Tb (stepS TK) (priceM TK) none (NSof TK) rs r (Dy.Done W (NSof TK) i j) T ∧ Dy.Un T ∧ j ≤ TK.length + 1 ∧ T.length ≤ i * (TK.length + 1) + j)
      ⟨s2.trans U3, upd_same, kvs, T, _, _, _, rfl, U3 _ _ hd1, alT.imp fun _ _ => KwAt.same (wo_mono U3), tb, un, Nat.zero_le _, lenT1⟩ (fun i σ H' _ ⟨_, e, _⟩ => SqL.of e) ?_ ?_⟩
    · clear alT tb un lenT1 hd1
      rintro j y σ H3 hy ⟨s3, hp3, kvs, T, v7, v8, v9, rfl, hd3, alT, tb, un, lj, lenT3⟩
      rw [NS_map, List.getElem?_map] at hy
      cases en : (NSof TK)[j]? with
      | none => rw [en] at hy; cases hy
      | some nm =>
      rw [en] at hy
      obtain rfl : nmV nm = y := Option.some.inj hy
      have lj2 : j + 1 ≤ TK.length + 1 := by have := (List.getElem?_eq_some_iff.mp en).1; rw [NS_len] at this; exact this
      have nmIn := List.mem_of_getElem? en
      have fnd : ∀ z, nm = some z → ∃ k, findT TK z = some k := fun z e => NS_find nmIn e
      have hw3 := okW.snd w0 (List.mem_of_getElem? ew)
      have lw3 := Dy.run_len hw3
      have hwN := okW.inN w0 (List.mem_of_getElem? ew)
      refine ⟨_, rfl, _, rfl, _, rfl, _, rfl, n, h0, TK, w0.h, vr, r, nm, rfl, hN.same s3, hK, s3.seqT g4, fun z e => s3 _ _ (g5 z e), g6, hR.same s3, fun est H4 s4 => ?_, fun z est h4 H4 s4 hh4 => ?_⟩
      · refine ⟨fun _ _ => False, ⟨_, rfl, _, rfl, itT rfl ?_⟩, fun _ _ f => f.elim⟩
        exact ⟨s3.trans s4, s4 _ _ hp3, kvs, T, _, _, _, rfl, s4 _ _ hd3, alT.imp fun _ _ => KwAt.same (wo_mono s4), (tb.skip (show stepS TK w0.h r nm = none by unfold stepS; rw [est]; rfl)).mono fun _ _ d => d.more ew en, un, lj2, by omega⟩
      · obtain ⟨zk, zu⟩ := z
        refine ⟨fun σ' H' => H' = H4 ∧ σ' = [some (.ref n), some (.ref lw), some vr, some (.ref d), some (.int (w0.p : Nat)), some (.ref lb0), some (.ref h0), some (nmV nm), some (.ref h4), v9], ⟨_, rfl, _, rfl, itF (by intro y; cases y) ⟨rfl, rfl⟩⟩, ?_⟩
        rintro σ' H5 ⟨rfl, rfl⟩
        have S5 := s3.trans s4
        refine ⟨_, rfl, _, rfl, _, rfl, n, TK, nm, rfl, hN.same S5, fnd, fun H6 s6 => ?_⟩
        have S6 := S5.trans s6
        refine ⟨_, _, rfl, rfl, _, rfl, _, rfl, by show 1 ≤ sizeLine; decide, fun p7 j7 => ?_⟩
        have t7 := same_new j7 (.lst [nmV nm])
        refine ⟨lb0, p7, _, _, rfl, rfl, t7 _ _ (S6 _ _ g2), upd_same, (by rw [List.length_map]; exact Nat.le_trans (show w0.B.length + 1 ≤ 101 by omega) (by decide)), fun p8 j8 => ?_⟩
        have t8 := same_new j8 (.lst (w0.B.map nmV ++ [nmV nm]))
        refine ⟨_, rfl, by show 3 ≤ sizeLine; decide, fun p9 j9 => ?_⟩
        have t9 := same_new j9 (.tup [.int (((w0.p : Nat) : Int) + ((priceM TK nm : Nat) : Int)), .ref p8, .ref h4])
        have U9 := ((s6.trans t7).trans t8).trans t9
        have fr8 : H0 p8 = none := ((s0.trans S6).trans t7).free j8
        have hp8 := t9 _ _ (@upd_same (upd H6 p7 (.lst [nmV nm])) p8 (.lst (w0.B.map nmV ++ [nmV nm])))
        have hp9 := @upd_same (upd (upd H6 p7 (.lst [nmV nm])) p8 (.lst (w0.B.map nmV ++ [nmV nm]))) p9 (.tup [.int (((w0.p : Nat) : Int) + ((priceM TK nm : Nat) : Int)), .ref p8, .ref h4])
        generalize upd (upd (upd H6 p7 (.lst [nmV nm])) p8 (.lst (w0.B.map nmV ++ [nmV nm]))) p9 (.tup [.int (((w0.p : Nat) : Int) + ((priceM TK nm : Nat) : Int)), .ref p8, .ref h4]) = H9 at U9 hp8 hp9 ⊢
        have U39 := s4.trans U9
        have S9 := s3.trans U39
        have hd9 := U39 _ _ hd3
        have hh9 := U9 _ _ hh4
        have n8 : p8 ≠ d := fun z => by rw [z, hd9] at hp8; cases hp8
        have n9 : p9 ≠ d := fun z => by rw [z, hd9] at hp9; cases hp9
        have n4 : h4 ≠ d := fun z => by rw [z, hd9] at hh9; cases hh9
        have hz : HeldOk TK (some (zk, zu)) := step_ok g6 est
        have hkey : H9 h4 = some (.tup ((keyH (zk, zu)).map kV)) := hh9
        have est' : stepS TK w0.h r nm = some (some (zk, zu)) := by unfold stepS; rw [est]; rfl
        have al9 := alT.imp fun _ _ => KwAt.same (wo_mono (l := d) U39)
        have wyN : WyAt K TK H0 (wo H9 d) (.ref p9) ⟨w0.p + priceM TK nm, w0.B ++ [nm], some (zk, zu)⟩ := by
          refine ⟨p9, p8, h4, rfl, wo_at hp9 n9, ?_, fr8, SqT.of (wo_at hh9 n4), fun y e => ?_, hz⟩
          · show wo H9 d p8 = some (.lst ((w0.B ++ [nm]).map nmV))
            rw [List.map_append]
            exact wo_at hp8 n8
          · cases e
            exact wo_at hh9 n4
        have lk : kvs.length = T.length := alT.length
        have bd : (i + 1) * (TK.length + 1) ≤ W.length * (TK.length + 1) := Nat.mul_le_mul_right _ li2
        rw [Nat.add_mul, Nat.one_mul] at bd
        have fin : (∀ v ∈ T, v.h = some (zk, zu) → w0.p + priceM TK nm ≤ v.p) → ∃ T', Al (KwAt K TK H0 (wo H9 d)) (putK kvs (keyH (zk, zu)) (.ref p9)) T' ∧ Dy.Tb (stepS TK) (priceM TK) none (NSof TK) rs r (Dy.Done W (NSof TK) i (j + 1)) T' ∧ Dy.Un T' ∧ T'.length ≤ T.length + 1 := fun less => by
          obtain ⟨a1, a2⟩ := tb.put (c := fun x => decide (keyW x = keyH (zk, zu))) un hw3 hwN nmIn est' (fun v hv => by
            obtain ⟨kv, hkv⟩ := al_mem al9 hv
            obtain ⟨y, ey, _, oy⟩ := hkv.ok
            have ekw : keyW v = keyH y := by unfold keyW; rw [ey]
            rw [ekw, ey]
            exact ⟨fun e => by rw [keyH_inj oy hz (of_decide_eq_true e)], fun e => by rw [Option.some.inj e]; exact decide_eq_true rfl⟩) less
          exact ⟨_, al_put al9 (fun _ _ h => h.key) ⟨⟨_, rfl, rfl⟩, wyN⟩, a1.mono fun _ _ d => d.more ew en, a2, Dy.put_len⟩
        obtain ⟨kn, ks⟩ := kw_val al9 hz
        have hp39 := U39 _ _ hp3
        have lsz : kvs.length < sizeLine := Nat.lt_of_le_of_lt (show kvs.length ≤ 100000 by omega) (by decide)
        cases ev : valV kvs (keyH (zk, zu)) with
        | none =>
          have dg := DGet.t hd9 hkey
          rw [ev] at dg
          refine ⟨_, rfl, _, rfl, d, _, rfl, dg, _, rfl, itT rfl ?_⟩
          obtain ⟨T', a1, a2, a3, a4⟩ := fin fun v hv e => absurd e (kn ev v hv)
          exact ⟨_, rfl, _, rfl, _, rfl, d, _, rfl, DPut.t hd9 hkey lsz, same_put S9 hd _, (by rw [upd_ne n3]; exact hp39), _, T', _, _, _, rfl, upd_same, (by rw [wo_upd]; exact a1), a2, a3, lj2, by omega⟩
        | some v =>
          have dg := DGet.t hd9 hkey
          rw [ev] at dg
          obtain ⟨wv, hv1, hv2, pv, lv, hvh, rfl, f1, _⟩ := ks v ev
          refine ⟨_, rfl, _, rfl, d, _, rfl, dg, _, rfl, itF Bool.false_ne_true ?_⟩
          refine ⟨_, rfl, p9, _, 0, _, rfl, rfl, SqT.of hp9, rfl, _, rfl, _, rfl, d, _, rfl, dg, pv, _, 0, _, rfl, rfl, SqT.of (wo_same _ _ f1), rfl, _, _, rfl, rfl, _, rfl, ?_⟩
          by_cases c : w0.p + priceM TK nm < wv.p
          · refine itT (decide_eq_true (by omega)) ?_
            obtain ⟨T', a1, a2, a3, a4⟩ := fin fun v hv e => by rw [un v hv wv hv1 (e.trans hv2.symm)]; omega
            exact ⟨_, rfl, _, rfl, _, rfl, d, _, rfl, DPut.t hd9 hkey lsz, same_put S9 hd _, (by rw [upd_ne n3]; exact hp39), _, T', _, _, _, rfl, upd_same, (by rw [wo_upd]; exact a1), a2, a3, lj2, by omega⟩
          · refine itF (by rw [decide_eq_false (by omega)]; decide) ?_
            exact ⟨S9, hp39, kvs, T, _, _, _, rfl, hd9, al9, (tb.kept est' hv1 hv2 (by omega)).mono fun _ _ d => d.more ew en, un, lj2, by omega⟩
    · clear alT tb un lenT1 hd1
      rintro σ H3 ⟨s3, hp3, kvs, T, v7, v8, v9, rfl, hd3, alT, tb, un, lj, lenT3⟩
      have el : ([V.non] ++ TK.map fun k => V.str k.nm).length = (NSof TK).length := by rw [NS_map, List.length_map]
      rw [el] at tb lenT3
      rw [NS_len] at lenT3
      exact ⟨s3, kvs, T, _, _, _, _, _, _, rfl, hd3, alT, tb.mono fun _ _ d => d.next, un, li2, by rw [Nat.add_mul, Nat.one_mul]; exact lenT3⟩
  · rintro σ H1 ⟨s2, kvs, T, v4, v5, v6, v7, v8, v9, rfl, hd1, alT, tb, un, li, lenT1⟩
    rw [alW.length] at tb lenT1
    refine ⟨_, rfl, .inr (.inr (.inl ⟨rfl, .inr ⟨kvs, hd1⟩⟩)), d, kvs, rfl, rfl, hd1, fun v hv => ?_⟩
    have t1 := same_new hv (viewO v d)
    refine ⟨v, d, kvs, rfl, upd_same, t1 _ _ hd1, fun l hl => ?_⟩
    have t2 := same_new hl (.lst (kvs.map (·.2)))
    exact q l _ T _ ((s2.trans t1).trans t2) upd_same (al_vals (fun _ _ h => h.2) (alT.imp fun _ _ => KwAt.same ((wo_same.trans t1).trans t2))) (Dy.Tb.end okW tb fun _ hw _ hn => Dy.Done.all hw hn) lenT1
theorem WyAt.wo {TK : List Tk} {H0 H : Hp} {v : V} {x : Wy} {lt : Addr} {ps : Array Value} (e : H lt = some (.tbl ps)) (h : WyAt K TK H0 H v x) : WyAt K TK H0 (wo H lt) v x :=
  let ⟨p, lb, h, e0, h1, h2, h3, h4, h5, h6⟩ := h; ⟨p, lb, h, e0, wo_tab e h1 (fun _ z => by cases z), wo_tab e h2 (fun _ z => by cases z), h3, sqT_wo e h4, fun z ez => wo_tab e (h5 z ez) (fun _ z => by cases z), h6⟩
def lamPos : Pos := ⟨60, 25, 60, 43⟩
def lamQ : Str := (("least_tickets" : Str) ++ ".<locals>.") ++ "<lambda>"
def spLeast (t : Adr) (K : W.Frag) : Sp := fun vs H Q _ => ∃ (n lr : Addr) (TK : List Tk) (vr : List V) (R : List Rd) (G : Hp), vs = [.ref n, .ref lr] ∧ Same G H ∧ G t.lt = none ∧ NetAt t G n TK ∧ (∀ k ∈ TK, k.Ok) ∧ TK.length ≤ 3 ∧ G lr = some (.lst vr) ∧ Al (RdAt G) vr R ∧ R.length ≤ 5 ∧ TabLam t.lt lamPos lamQ H ∧
  ((∀ B p h, (∀ n ∈ B, n ∈ NSof TK) → Dy.run (stepS TK) (priceM TK) none 0 R B ≠ some (p, h)) → ∀ H', Same G H' → TabLam t.lt lamPos lamQ H' → Q .non H') ∧
  ∀ B p h, (∀ n ∈ B, n ∈ NSof TK) → Dy.run (stepS TK) (priceM TK) none 0 R B = some (p, h) → (∀ B' p' h', (∀ n ∈ B', n ∈ NSof TK) → Dy.run (stepS TK) (priceM TK) none 0 R B' = some (p', h') → p ≤ p') → ∀ pt lb H', Same G H' → TabLam t.lt lamPos lamQ H' → H' pt = some (.tup [.int (p : Nat), .ref lb]) → H' lb = some (.lst (B.map nmV)) → G lb = none → Q (.ref pt) H'
theorem ok_least_tickets (Tx : Tab K mg t) (hC : W.CodeHd base t.lc t.lt) (hBM : BM mg base) : FnOk P w K mg base CX0 7 t.f_least_tickets t.d_least_tickets ["net", "rides"] (spLeast t K) := by
  refine Tx.F_least_tickets.okC sc_least_tickets (fun vs H Q E h => ?_) (fun cdv A outer s H vs Q E hcv hr h => ?_)
  · obtain ⟨n, lr, TK, vr, R, G, rfl, _⟩ := h
    rfl
  obtain ⟨n, lr, TK, vr, R, G, rfl, sG, gl, hN, hK, lenT, hlr, alR, lenR, hT, qn, qs⟩ := h
  refine ⟨_, (pss_cons (ps_set (i := 2) sc_least_tickets.nd rfl (Or.inl rfl) (pe_lst (pac (pe_tup (pac pe_int (pac (pe_lst pa_nil) (pac (pe_gref rfl Tx.m_NOTHING_HELD) pa_nil)))) pa_nil)))
    (pss_cons (ps_for PassesOwn.never rfl (pi_list (pv 1)) (pg_name (i := 3) sc_least_tickets.nd rfl (Or.inl rfl))
    (pss_one (ps_set (i := 2) sc_least_tickets.nd rfl (Or.inl rfl) (pe_call (ok_ways_behind Tx) (hr.mono (by omega)) rfl Tx.m_ways_behind Tx.F_ways_behind.kp Tx.b_ways_behind .nil pass0 (pac (pv 0) (pac (pv 2) (pac (pv 3) pa_nil)))))))
    (pss_cons (ps_if (pt_cmpR op_eq (pe_callB call_len_seq rfl Tx.z_len b_len (pac (pv 2) pa_nil)) pe_int (nomark _))
    (pss_one (ps_ret pe_non))
    pss_nil)
    (pss_cons (ps_set (i := 4) sc_least_tickets.nd rfl (Or.inl rfl) (pe_minkey (k := 0) (N := ["way"]) (x := "way") (qual := (("least_tickets" : Str) ++ ".<locals>.") ++ "<lambda>") (params := (lamAt (defBody s_least_tickets) 3).1) (body := (lamAt (defBody s_least_tickets) 3).2.1) (scope := (lamAt (defBody s_least_tickets) 3).2.2.1) rfl rfl Tx.z_min b_min (hr.mono (by omega)) ⟨rfl, rfl, rfl, by decide +kernel, rfl, by decide +kernel, by decide +kernel⟩ (fun _ _ _ _ => rfl) (fun _ _ _ _ _ _ _ => (pe_ix (show IxR _ (rIxT K) from ix_tup) (pv 0) pe_int (fun _ _ => rfl))) (pac (pv 2) pa_nil) (pk_cons (pe_lam (hcv.symm.trans Tx.lam_c) hC hBM rfl rfl) pk_nil)))
    (pss_one (ps_ret (pe_tup (pac (pe_ix ix_tup (pv 4) pe_int (fun _ _ => rfl)) (pac (pe_ix ix_tup (pv 4) pe_int (fun _ _ => rfl)) pa_nil))))))))), ?_⟩
  refine ⟨by show 0 ≤ sizeLine; decide, fun p1 j1 => ⟨by show 3 ≤ sizeLine; decide, fun p2 j2 => ⟨by show 1 ≤ sizeLine; decide, fun p3 j3 => ?_⟩⟩⟩
  have t1 := same_new j1 (.lst [])
  have t2 := same_new j2 (.tup [.int 0, .ref p1, .ref t.g_NOTHING_HELD])
  have t3 := same_new j3 (.lst [.ref p2])
  have U3 := (t1.trans t2).trans t3
  have f1 : G p1 = none := sG.free j1
  have S3 := sG.trans U3
  refine ⟨_, rfl, lr, rfl, ⟨_, SqL.of (S3 _ _ hlr)⟩, for_list (xs := vr) (fun i σ H' => Same G H' ∧ TabLam t.lt lamPos lamQ H' ∧ ∃ (lw : Addr) (vw : List V) (W : List Wy) (v3 v4 : Option V), σ = [some (.ref n), some (.ref lr), some (.ref lw), v3, v4] ∧ H' lw = some (.lst vw) ∧ Al (WyAt K TK G H') vw W ∧ Dy.Ok (stepS TK) (priceM TK) none (NSof TK) (R.take i) W ∧ W.length ≤ 4 ^ i)
    ⟨S3, hT.same U3, p3, [.ref p2], [⟨0, [], none⟩], _, _, rfl, upd_same, .cons ⟨p2, p1, t.g_NOTHING_HELD, rfl, t3 _ _ upd_same, t3 _ _ (t2 _ _ upd_same), f1, Tx.o_NOTHING_HELD _, fun z e => by (cases e), trivial⟩ .nil, Dy.Ok.nil _ _, Nat.le_refl _⟩ (fun i σ H' _ ⟨s', _⟩ => SqL.of (s' _ _ hlr)) ?_ ?_⟩
  · rintro i x σ H1 hx ⟨s1, hT1, lw, vw, W, v3, v4, rfl, hlw, alW, okW, lenW⟩
    obtain ⟨r, er, hr1⟩ := alR.get hx
    have hi := (List.getElem?_eq_some_iff.mp er).1
    have tk : R.take (i + 1) = R.take i ++ [r] := by rw [List.take_add_one, er]; rfl
    have b1 : 4 ^ i ≤ 4 ^ 5 := Nat.pow_le_pow_right (by decide) (by omega)
    have b2 : W.length * (TK.length + 1) ≤ 4 ^ i * 4 := Nat.mul_le_mul lenW (by omega)
    have b3 : (4 : Nat) ^ 5 = 1024 := by decide
    refine ⟨_, rfl, _, rfl, _, rfl, n, lw, TK, vw, W, x, r, R.take i, G, rfl, hN.same s1, hK, s1, hlw, alW, hr1.same s1, okW, by rw [List.length_take]; omega, by omega, by omega, fun l vs' T H2 s2 hl2 al2 ok2 len2 => ?_⟩
    exact ⟨s1.trans s2, hT1.same s2, l, vs', T, _, _, rfl, hl2, al2, by rw [tk]; exact ok2, by rw [Nat.pow_succ]; exact Nat.le_trans len2 b2⟩
  · rintro σ H1 ⟨s1, hT1, lw, vw, W, v3, v4, rfl, hlw, alW, okW, lenW⟩
    rw [alR.length, List.take_length] at okW
    cases vw with
    | nil =>
      refine ⟨_, rfl, lw, _, rfl, .inl (SqL.of hlw), rfl, _, rfl, itT rfl ?_⟩
      refine qn (fun B p h hB e => ?_) H1 s1 hT1
      obtain ⟨x, hx, _⟩ := okW.ful B p h hB e
      rw [alW.nil_iff.mp rfl] at hx
      cases hx
    | cons v0 vw =>
      refine ⟨_, rfl, lw, _, rfl, .inl (SqL.of hlw), rfl, _, rfl, itF (fun z => by
        have z := of_decide_eq_true z
        injection z with z
        rw [List.length_cons] at z
        omega) ?_⟩
      refine ⟨_, rfl, ?_⟩
      dsimp only [tNil, tCons]
      refine tlam_of (q := lamQ) (pos := lamPos) hT1 fun f c' ctv H3 s3 hT3 hf hc' => ?_
      obtain ⟨ps, eT⟩ := hT1.at
      have gw : Same G (wo H1 t.lt) := same_wo s1 gl
      have S3 := gw.trans s3
      have al3 := alW.imp fun _ _ h => (WyAt.wo eT h).same s3
      have hlw3 := s3 _ _ (wo_tab eT hlw fun _ z => by cases z)
      refine ⟨lw, f, c', _, ctv, v0 :: vw, fun i => ((((W[i]?).map (·.p)).getD 0 : Nat) : Int), rfl, rfl, SqL.of hlw3, Nat.succ_pos _, hf, hc', fun i v ev => ?_, fun i v ev least => ?_⟩
      · obtain ⟨x, ex, p, lb, h, rfl, g1, _⟩ := al3.get ev
        refine ⟨_, rfl, p, _, 0, _, rfl, rfl, SqT.of g1, rfl, ?_, rfl⟩
        dsimp only
        rw [ex]
        rfl
      · obtain ⟨x, ex, p, lb, h, rfl, g1, g2, g3, _⟩ := al3.get ev
        have mx := List.mem_of_getElem? ex
        refine ⟨_, rfl, p, _, 0, _, rfl, rfl, SqT.of g1, rfl, _, rfl, p, _, 1, _, rfl, rfl, SqT.of g1, rfl, by show 2 ≤ sizeLine; decide, fun pt jt => ?_⟩
        have t4 := same_new jt (.tup [.int (x.p : Nat), .ref lb])
        refine qs x.B x.p x.h (okW.inN x mx) (okW.snd x mx) (fun B' p' h' hB' e' => ?_) pt lb _ (S3.trans t4) (hT3.same t4) upd_same (t4 _ _ g2) g3
        obtain ⟨y, hy, _, ly⟩ := okW.ful B' p' h' hB' e'
        obtain ⟨j, hj⟩ := List.getElem?_of_mem hy
        have lj : j < (v0 :: vw).length := by rw [alW.length]; exact (List.getElem?_eq_some_iff.mp hj).1
        have := (least j lj).1
        dsimp only at this
        rw [ex, hj] at this
        have this : ((x.p : Nat) : Int) ≤ ((y.p : Nat) : Int) := this
        omega

theorem cut_to (xs : List V) (n : Nat) : cutV xs none (some (n : Int)) = xs.take n := by
  unfold cutV
  rw [HT.sIx_none, HT.sIx_nat, List.drop_zero, Nat.sub_zero]
  rcases Nat.le_total n xs.length with h | h
  · rw [Nat.min_eq_left h]
  · rw [Nat.min_eq_right h, List.take_length, List.take_of_length_le h]
theorem cut_from (xs : List V) (n : Nat) : cutV xs (some (n : Int)) none = xs.drop n := by
  unfold cutV
  rw [HT.sIx_none, HT.sIx_nat]
  rcases Nat.le_total n xs.length with h | h
  · rw [Nat.min_eq_left h, List.take_of_length_le (by rw [List.length_drop]; exact Nat.le_refl _)]
  · rw [Nat.min_eq_right h, Nat.sub_self, List.take_zero, List.drop_eq_nil_of_le h]
theorem at_mod {α : Type} {R : V → α → Prop} {vs : List V} {xs : List α} (h : Al R vs xs) (hn : xs ≠ []) (d : Nat) : (0 : Int) < (vs.length : Nat) ∧ ∃ v x, atI vs ((d : Int) % (vs.length : Nat)) = some v ∧ R v x ∧ x ∈ xs := by
  have hl := h.length
  have pos : 0 < vs.length := by
    rw [hl]
    exact List.length_pos_iff.mpr hn
  refine ⟨by omega, ?_⟩
  have hlt : d % vs.length < vs.length := Nat.mod_lt _ pos
  obtain ⟨x, ex, hx⟩ := h.get (List.getElem?_eq_getElem hlt)
  refine ⟨vs[d % vs.length], x, ?_, hx, List.mem_of_getElem? ex⟩
  have : atI vs ((d % vs.length : Nat) : Int) = some vs[d % vs.length] := atI_nat (List.getElem?_eq_getElem hlt)
  rw [Int.natCast_emod] at this
  exact this
theorem at_end {α : Type} {R : V → α → Prop} {vs : List V} {xs : List α} (h : Al R vs xs) (hn : xs ≠ []) : ∃ v x, atI vs (-1) = some v ∧ R v x ∧ x ∈ xs := by
  rcases List.eq_nil_or_concat vs with e | ⟨l, b, e⟩
  · exact absurd (h.nil_iff.mp e) hn
  · rw [List.concat_eq_append] at e
    subst e
    have := h.length
    rw [List.length_append, List.length_singleton] at this
    obtain ⟨x, ex, hx⟩ := h.get (i := l.length) (v := b) (by rw [List.getElem?_append_right (Nat.le_refl _), Nat.sub_self]; rfl)
    exact ⟨b, x, atI_last l b, hx, List.mem_of_getElem? ex⟩
theorem name_lay {z : Str} (h : NameOk z) : (PyData.str z).canLay0 = true := by
  simp only [PyData.canLay0]
  show z.cps.all (fun c => decide (c < 0x110000)) = true
  rw [← Array.all_toList, List.all_eq_true]
  intro c hc
  have := h.2.2.1 c hc
  exact decide_eq_true (by omega)
def rdD (r : Rd) : PyData := .tuple [.int (r.b : Nat), .int r.mo]
theorem rds_dv {K : W.Frag} {H : Hp} {vs : List V} {R : List Rd} (h : Al (RdAt H) vs R) : DVs K H vs (R.map rdD) := by
  induction h with
  | nil => exact .nil
  | cons a _ ih =>
    obtain ⟨p, rfl, hp⟩ := a
    exact .cons (.tup (SqT.of hp) (.cons (.int _) (.cons (.int _) .nil))) ih
theorem depth_rds (R : List Rd) : PyData.depthAll (R.map rdD) ≤ 2 := by
  induction R with
  | nil => decide
  | cons r R ih =>
    show max (rdD r).depth (PyData.depthAll (R.map rdD)) ≤ 2
    exact Nat.max_le.mpr ⟨by simp [rdD, PyData.depth, PyData.depthAll], ih⟩
def tkD (k : Tk) : PyData := .tuple [.str k.nm, .int (k.pr : Nat), .int (k.la : Nat), .list ((zonesOf k.b).map fun z => .int (z : Nat))]
theorem nats_dv {K : W.Frag} {H : Hp} (zs : List Nat) : DVs K H (natV zs) (zs.map fun z => .int (z : Nat)) := by
  induction zs with
  | nil => exact .nil
  | cons z zs ih => exact .cons (.int _) ih
theorem tks_dv {K : W.Frag} {H : Hp} {vs : List V} {TK : List Tk} (h : Al (TkAt H) vs TK) : (∀ k ∈ TK, k.Ok) → DVs K H vs (TK.map tkD) := by
  induction h with
  | nil => exact fun _ => .nil
  | cons a _ ih =>
    intro ok
    obtain ⟨p, l, rfl, h1, h2⟩ := a
    exact .cons (.tup (SqT.of h1) (.cons (.str _ (name_lay (ok _ (List.mem_cons_self ..)).nm)) (.cons (.int _) (.cons (.int _) (.cons (.lst (SqL.of h2) (nats_dv _)) .nil))))) (ih fun k hk => ok k (List.mem_cons_of_mem _ hk))
theorem depth_nats (zs : List Nat) : PyData.depthAll (zs.map fun z => PyData.int (z : Nat)) ≤ 1 := by
  induction zs with
  | nil => decide
  | cons z zs ih =>
    show max (PyData.int (z : Nat)).depth (PyData.depthAll (zs.map fun z => PyData.int (z : Nat))) ≤ 1
    exact Nat.max_le.mpr ⟨by simp [PyData.depth], ih⟩
theorem depth_tks (TK : List Tk) : PyData.depthAll (TK.map tkD) ≤ 4 := by
  induction TK with
  | nil => decide
  | cons k TK ih =>
    show max (tkD k).depth (PyData.depthAll (TK.map tkD)) ≤ 4
    refine Nat.max_le.mpr ⟨?_, ih⟩
    have := depth_nats (zonesOf k.b)
    simp only [tkD, PyData.depth, PyData.depthAll]
    omega
def spEdged (K : W.Frag) : Sp := fun vs H Q _ => ∃ (a lt lr : Addr) (ns : List Int) (vt : List V) (TK : List Tk) (vr : List V) (R : List Rd), vs = [.ref a, .ref lt, .ref lr] ∧ SqL K H a (ns.map V.int) ∧ H lt = some (.lst vt) ∧ Al (TkAt H) vt TK ∧ (∀ k ∈ TK, k.Ok) ∧ H lr = some (.lst vr) ∧ Al (RdAt H) vr R ∧ R.length ≤ 8 ∧ (∀ r ∈ R, r.b < 64) ∧
  ∀ (R' : List Rd) (vs : List V) l H', Same H H' → H l = none → H' l = some (.lst vs) → Al (RdAt H') vs R' → R'.length ≤ R.length → (∀ r ∈ R', r.b < 64) → Q (.ref l) H'
theorem ok_law_edged (Tx : Tab K mg t) : FnOk P w K mg base CX0 2 t.f_law_edged t.d_law_edged ["_law_script", "_law_tickets_here", "_law_rides_here"] (spEdged K) := by
  refine Tx.F_law_edged.ok sc_law_edged (fun vs H Q E h => ?_) (fun cdv A outer s H vs Q E hr h => ?_)
  · obtain ⟨a, lt, lr, ns, vt, TK, vr, R, rfl, _⟩ := h
    rfl
  obtain ⟨a, lt, lr, ns, vt, TK, vr, R, rfl, hS, hlt, alT, okT, hlr, alR, lenR, okR, q⟩ := h
  refine ⟨_, (pss_cons (ps_set (i := 3) sc_law_edged.nd rfl (Or.inl rfl) (pe_slice sl_list (pv 2) po_none (po_some pe_int)))
    (pss_cons (ps_for PassesOwn.never rfl (pi_enum rfl Tx.z_enumerate (pac (pe_slice sl_list (pv 2) (po_some pe_int) po_none) pa_nil)) (pg_tup rfl (pgs_cons (pg_name (i := 4) sc_law_edged.nd rfl (Or.inl rfl)) (pgs_cons (pg_name (i := 5) sc_law_edged.nd rfl (Or.inl rfl)) pgs_nil)))
    (pss_cons (ps_set (i := 6) sc_law_edged.nd rfl (Or.inl rfl) (pe_call (ok_law_draw Tx) (hr.mono (by omega)) rfl Tx.m_law_draw Tx.F_law_draw.kp Tx.b_law_draw .nil pass0 (pac (pv 0) (pac (pe_op op_add pe_int (pv 4)) pa_nil))))
    (pss_cons (ps_set (i := 7) sc_law_edged.nd rfl (Or.inl rfl) (pe_ix (show IxR _ (rIxT K) from ix_tup) (pv 5) pe_int (fun _ _ => rfl)))
    (pss_join (ps_if (PW.pt (pw_and (pt_cmpR op_eq (pe_op op_mod (pe_op op_fdiv (pv 6) pe_int) pe_int) pe_int (nomark _)) (pw_and1 (pt_cmpR (op_neD hr.units) (pv 1) (pe_lst pa_nil) (nomark _)))))
    (pss_cons (ps_set (i := 8) sc_law_edged.nd rfl (Or.inl rfl) (pe_ix ix_tup (pe_ix ix_list (pv 1) (pe_op op_mod (pv 6) (pe_callB call_len_seq rfl Tx.z_len b_len (pac (pv 1) pa_nil))) (fun _ _ => rfl)) pe_int (fun _ _ => rfl)))
    (pss_one (ps_set (i := 7) sc_law_edged.nd rfl (Or.inl rfl) (pe_op op_sub (pe_op op_add (pe_op op_add (pe_ix ix_tup (pe_ix ix_list (pv 3) (pe_un un_neg pe_int) (fun _ _ => rfl)) pe_int (fun _ _ => rfl)) (pv 8)) (pe_op op_mod (pe_op op_fdiv (pv 6) pe_int) pe_int)) pe_int))))
    pss_nil)
    (pss_one (ps_expr (pe_bm PySem.F.plainAttrs_list PySem.F.slot_list_append PySem.F.type_list_append mt_append (pv 3) (pac (pe_tup (pac (pe_ix ix_tup (pv 5) pe_int (fun _ _ => rfl)) (pac (pe_callB (call_max2 rfl) rfl Tx.z_max b_max (pac (pv 7) (pac (pe_ix ix_tup (pe_ix ix_list (pv 3) (pe_un un_neg pe_int) (fun _ _ => rfl)) pe_int (fun _ _ => rfl)) pa_nil))) pa_nil))) pa_nil))))))))
    (pss_one (ps_ret (pv 3))))), ?_⟩
  refine ⟨_, rfl, _, rfl, lr, _, rfl, SqL.of hlr, fun l hl => ?_⟩
  rw [show cutV vr none (some 1) = vr.take 1 from cut_to vr 1]
  have s1 := same_new hl (.lst (vr.take 1))
  refine ⟨_, rfl, _, rfl, lr, _, rfl, SqL.of (s1 _ _ hlr), fun l2 hl2 => ?_⟩
  rw [show cutV vr (some 1) none = vr.drop 1 from cut_from vr 1]
  have s2 := same_new hl2 (.lst (vr.drop 1))
  have S2 := s1.trans s2
  have n2 : l2 ≠ l := fun e => by rw [e, upd_same] at hl2; cases hl2
  refine ⟨l2, rfl, ⟨_, SqL.of upd_same⟩, for_enum (xs := vr.drop 1) (fun i σ H' => Same H H' ∧ H' l2 = some (.lst (vr.drop 1)) ∧ ∃ (R' : List Rd) (vs : List V) (v4 v5 v6 v7 v8 : Option V), σ = [some (.ref a), some (.ref lt), some (.ref lr), some (.ref l), v4, v5, v6, v7, v8] ∧ H' l = some (.lst vs) ∧ Al (RdAt (wo H' l)) vs R' ∧ R'.length = (R.take 1).length + i ∧ ∀ r ∈ R', r.b < 64)
    ⟨S2, upd_same, R.take 1, vr.take 1, _, _, _, _, _, rfl, s2 _ _ upd_same, (alR.take 1).imp fun _ _ => RdAt.same (same_wo S2 hl), rfl, fun r h => okR r (List.mem_of_mem_take h)⟩ (fun i σ H' _ ⟨_, e, _⟩ => SqL.of e) ?_ ?_⟩
  · rintro i x pp σ H2 hx hpp ⟨s3, hln2, R', vs, v4, v5, v6, v7, v8, rfl, hl3, al, en, ok⟩
    obtain ⟨r, er, hr2⟩ := (alR.drop 1).get hx
    have hi := (List.getElem?_eq_some_iff.mp er).1
    rw [List.length_drop] at hi
    have e1 : (R.take 1).length = 1 := by rw [List.length_take]; omega
    have neR : R' ≠ [] := fun e => by rw [e] at en; simp at en; omega
    have s4 := s3.trans (same_new hpp (.tup [.int (i : Nat), x]))
    obtain ⟨pr, rfl, hpr⟩ := hr2
    refine ⟨pp, _, rfl, SqT.of upd_same, rfl, _, _, rfl, _, _, rfl, rfl, ?_⟩
    refine ⟨_, rfl, _, rfl, _, _, rfl, rfl, a, ns, _, rfl, s4.seq hS, by omega, by omega, fun d H3 hd s5 => ?_⟩
    have S5 := s4.trans s5
    have S35 := (same_new hpp (.tup [.int (i : Nat), .ref pr])).trans s5
    have hl5 := S35 _ _ hl3
    have al5 := al.imp (fun _ _ => RdAt.same (wo_mono (l := l) S35))
    obtain ⟨ve, re, ee, ⟨pe, rfl, hpe⟩, _⟩ := at_end al5 neR
    have hpe' := wo_same _ _ hpe
    refine ⟨_, rfl, pr, _, 1, _, rfl, rfl, SqT.of (S5 _ _ hpr), rfl, ?_⟩
    refine ⟨fun σ H4 => Same H3 H4 ∧ ∃ (mo : Int) (v8 : Option V), σ = [some (.ref a), some (.ref lt), some (.ref lr), some (.ref l), some (.int (i : Nat)), some (.ref pr), some (.int (d : Nat)), some (.int mo), v8], ?_, ?_⟩
    · refine ⟨_, rfl, _, _, rfl, rfl, ⟨by decide, by decide⟩, _, _, rfl, rfl, (by show (0 : Int) < 2; decide), rfl, _, rfl, ite2 (fun _ => ?_) (fun _ => ?_)⟩
      · refine ⟨_, rfl, by show 0 ≤ sizeLine; decide, fun p7 j7 => ?_⟩
        have t7 := same_new j7 (.lst [])
        have S7 := S5.trans t7
        have dv1 : DV K (upd H3 p7 (.lst [])) (.ref lt) (.list (TK.map tkD)) := .lst (SqL.of (S7 _ _ hlt)) (tks_dv (alT.imp fun _ _ => TkAt.same S7) okT)
        have dv2 : DV K (upd H3 p7 (.lst [])) (.ref p7) (.list []) := .lst (SqL.of upd_same) .nil
        refine ⟨_, _, dv1, dv2, ?_, _, rfl, ?_⟩
        · have := depth_tks TK
          simp only [PyData.depth]
          omega
        cases TK with
        | nil => exact itF (by decide) ⟨t7, _, _, rfl⟩
        | cons k0 TK =>
          refine itT rfl ?_
          obtain ⟨hpos, vk, k, eat, ⟨pt, lz, rfl, g1, g2⟩, _⟩ := at_mod (alT.imp fun _ _ => TkAt.same S7) (by simp) d
          refine ⟨_, rfl, _, rfl, _, rfl, lt, _, rfl, .inl (SqL.of (S7 _ _ hlt)), _, _, rfl, rfl, hpos, lt, _, _, _, rfl, rfl, SqL.of (S7 _ _ hlt), eat, pt, _, 2, _, rfl, rfl, SqT.of g1, rfl, ?_⟩
          refine ⟨_, rfl, _, rfl, l, _, _, _, rfl, rfl, SqL.of (t7 _ _ hl5), ee, pe, _, 1, _, rfl, rfl, SqT.of (t7 _ _ hpe'), rfl, _, rfl, _, _, rfl, rfl, _, rfl, _, _, rfl, rfl, ⟨by decide, by decide⟩, _, _, rfl, rfl, (by show (0 : Int) < 3; decide), _, _, rfl, rfl, _, _, rfl, rfl, ?_⟩
          exact ⟨t7, _, _, rfl⟩
      · exact ⟨Same.refl _, _, _, rfl⟩
    · rintro σ H4 ⟨s6, mo, w8, rfl⟩
      have S6 := S5.trans s6
      have hl6 := s6 _ _ hl5
      refine ⟨_, rfl, .inl ⟨rfl, _, SqL.of hl6⟩, _, rfl, pr, _, 0, _, rfl, rfl, SqT.of (S6 _ _ hpr), rfl, _, rfl, _, rfl, _, rfl, l, _, _, _, rfl, rfl, SqL.of hl6, ee, pe, _, 1, _, rfl, rfl, SqT.of (s6 _ _ hpe'), rfl, _, _, rfl, by show 2 ≤ sizeLine; decide, fun pn gn => ?_⟩
      have npn : pn ≠ l := fun e => by rw [e, hl6] at gn; cases gn
      have s7 := same_new gn (.tup [.int (r.b : Nat), .int (if re.mo > mo then re.mo else mo)])
      have lv : vs.length ≤ 8 := by rw [al.length]; omega
      refine ⟨l, _, _, rfl, rfl, s7 _ _ hl6, Nat.lt_of_le_of_lt lv (by decide), ?_⟩
      refine ⟨same_put (S6.trans s7) hl _, (by rw [upd_ne n2]; exact s7 _ _ (s6 _ _ (S35 _ _ hln2))), R' ++ [⟨r.b, if re.mo > mo then re.mo else mo⟩], vs ++ [.ref pn], _, _, _, _, _, rfl, upd_same, ?_, by rw [List.length_append, List.length_singleton]; omega, ?_⟩
      · rw [wo_upd]
        exact (al5.imp fun _ _ => RdAt.same (wo_mono (s6.trans s7))).snoc ⟨pn, rfl, wo_at upd_same npn⟩
      · intro r2 h2
        rcases List.mem_append.mp h2 with h2 | h2
        · exact ok r2 h2
        · rw [List.mem_singleton] at h2; subst h2; exact okR r (List.mem_of_mem_drop (List.mem_of_getElem? er))
  · rintro σ H2 ⟨s3, hln2, R', vs, v4, v5, v6, v7, v8, rfl, hl3, al, en, ok⟩
    refine ⟨_, rfl, q R' vs l H2 s3 hl hl3 (al.imp fun _ _ => RdAt.same wo_same) ?_ ok⟩
    rw [en, List.length_take, List.length_drop, alR.length]
    omega
def spCrossed (K : W.Frag) : Sp := fun vs H Q _ => ∃ (a : Addr) (ns : List Int), vs = [.ref a] ∧ SqL K H a (ns.map V.int) ∧
  ∀ (TK : List Tk) (vt : List V) (lt : Addr) (R : List Rd) (vr : List V) (lr p : Addr) H', Same H H' → H' p = some (.tup [.ref lt, .ref lr]) → H' lt = some (.lst vt) → Al (TkAt H') vt TK → TK.length ≤ 3 → (TK.map (·.nm)).Nodup → (∀ k ∈ TK, k.Ok) → H' lr = some (.lst vr) → Al (RdAt H') vr R → R.length ≤ 4 → (∀ r ∈ R, r.b < 64) → Q (.ref p) H'
theorem ok_law_crossed (Tx : Tab K mg t) : FnOk P w K mg base CX0 3 t.f_law_crossed t.d_law_crossed ["_law_script"] (spCrossed K) := by
  refine Tx.F_law_crossed.ok sc_law_crossed (fun vs H Q E h => ?_) (fun cdv A outer s H vs Q E hr h => ?_)
  · obtain ⟨a, ns, rfl, _⟩ := h
    rfl
  obtain ⟨a, ns, rfl, hS, q⟩ := h
  refine ⟨_, (pss_cons (ps_set (i := 1) sc_law_crossed.nd rfl (Or.inl rfl) (pe_call (ok_law_draw Tx) (hr.mono (by omega)) rfl Tx.m_law_draw Tx.F_law_draw.kp Tx.b_law_draw .nil pass0 (pac (pv 0) (pac pe_int pa_nil))))
    (pss_cons (ps_set (i := 2) sc_law_crossed.nd rfl (Or.inl rfl) (pe_call (ok_law_names Tx) (hr.mono (by omega)) rfl Tx.m_law_names Tx.F_law_names.kp Tx.b_law_names .nil pass0 (pac (pv 0) (pac pe_int (pac pe_int pa_nil)))))
    (pss_cons (ps_set (i := 3) sc_law_crossed.nd rfl (Or.inl rfl) (pe_op op_add pe_int (pe_op op_mod (pe_op op_fdiv (pv 1) pe_int) pe_int)))
    (pss_cons (ps_set (i := 4) sc_law_crossed.nd rfl (Or.inl rfl) (pe_tup (pac (pe_ix ix_list (pv 2) pe_int (fun _ _ => rfl)) (pac (pe_op op_add pe_int (pe_op op_mod (pe_op op_fdiv (pv 1) pe_int) pe_int)) (pac (pv 3) (pac (pe_lst (pac pe_int (pac pe_int (pac pe_int (pac pe_int (pac pe_int (pac pe_int pa_nil))))))) pa_nil))))))
    (pss_cons (ps_set (i := 5) sc_law_crossed.nd rfl (Or.inl rfl) (pe_tup (pac (pe_ix ix_list (pv 2) pe_int (fun _ _ => rfl)) (pac (pe_op op_add pe_int (pe_op op_mod (pe_op op_fdiv (pv 1) pe_int) pe_int)) (pac pe_int (pac (pe_call (ok_law_zones Tx) (hr.mono (by omega)) rfl Tx.m_law_zones Tx.F_law_zones.kp Tx.b_law_zones .nil pass0 (pac (pe_ix ix_list (pe_lst (pac pe_int (pac pe_int pa_nil))) (pe_op op_mod (pv 1) pe_int) (fun _ _ => rfl)) pa_nil)) pa_nil))))))
    (pss_cons (ps_set (i := 6) sc_law_crossed.nd rfl (Or.inl rfl) (pe_op op_mod (pe_call (ok_law_draw Tx) (hr.mono (by omega)) rfl Tx.m_law_draw Tx.F_law_draw.kp Tx.b_law_draw .nil pass0 (pac (pv 0) (pac pe_int pa_nil))) pe_int))
    (pss_cons (ps_set (i := 7) sc_law_crossed.nd rfl (Or.inl rfl) (pe_op op_add pe_int (pe_op op_mod (pe_call (ok_law_draw Tx) (hr.mono (by omega)) rfl Tx.m_law_draw Tx.F_law_draw.kp Tx.b_law_draw .nil pass0 (pac (pv 0) (pac pe_int pa_nil))) pe_int)))
    (pss_cons (ps_set (i := 8) sc_law_crossed.nd rfl (Or.inl rfl) (pe_op op_add (pe_op op_add (pv 6) (pv 3)) (pe_op op_mod (pe_op op_fdiv (pe_call (ok_law_draw Tx) (hr.mono (by omega)) rfl Tx.m_law_draw Tx.F_law_draw.kp Tx.b_law_draw .nil pass0 (pac (pv 0) (pac pe_int pa_nil))) pe_int) (pe_op op_sub (pv 7) pe_int))))
    (pss_cons (ps_set (i := 9) sc_law_crossed.nd rfl (Or.inl rfl) (pe_ix ix_list (pe_lst (pac pe_int (pac pe_int (pac pe_int (pac pe_int pa_nil))))) (pe_op op_mod (pe_op op_fdiv (pv 1) pe_int) pe_int) (fun _ _ => rfl)))
    (pss_cons (ps_set (i := 10) sc_law_crossed.nd rfl (Or.inl rfl) (pe_lst (pac (pe_tup (pac pe_int (pac (pv 6) pa_nil))) (pac (pe_tup (pac (pv 9) (pac (pe_op op_add (pv 6) (pv 7)) pa_nil))) (pac (pe_tup (pac (pv 9) (pac (pv 8) pa_nil))) (pac (pe_tup (pac (pv 9) (pac (pe_op op_add (pv 8) pe_int) pa_nil))) pa_nil))))))
    (pss_one (ps_ret (pe_tup (pac (pe_ix ix_list (pe_lst (pac (pe_lst (pac (pv 4) (pac (pv 5) pa_nil))) (pac (pe_lst (pac (pv 5) (pac (pv 4) pa_nil))) pa_nil))) (pe_op op_mod (pe_op op_fdiv (pv 1) pe_int) pe_int) (fun _ _ => rfl)) (pac (pv 10) pa_nil))))))))))))))), ?_⟩
  refine ⟨_, rfl, a, ns, 70, rfl, hS, by decide, by decide, fun d H1 hd s1 => ?_⟩
  refine ⟨_, rfl, a, ns, 71, 2, rfl, s1.seq hS, by decide, by decide, by decide, fun NS ln H2 s2 _ hln eN nN okN => ?_⟩
  obtain ⟨z1, z2, rfl⟩ : ∃ z1 z2, NS = [z1, z2] := match NS, eN with
    | [z1, z2], _ => ⟨z1, z2, rfl⟩
  have S2 := s1.trans s2
  have ok1 := okN z1 (by simp)
  have ok2 := okN z2 (by simp)
  have n12 : z1 ≠ z2 := fun e => by rw [e] at nN; simp at nN
  have hln : H2 ln = some (.lst [.str z1, .str z2]) := hln
  refine ⟨_, rfl, _, _, rfl, rfl, ⟨by decide, by decide⟩, _, _, rfl, rfl, (by show (0 : Int) < 200; decide), _, _, rfl, rfl, ?_⟩
  generalize hla : d / 2 % 200 = la
  have bla : la < 200 := by omega
  dsimp only
  rw [show (20 : Int) + ((d : Nat) : Int) / 2 % 200 = ((20 + la : Nat) : Int) by omega]
  refine ⟨_, rfl, ln, _, 0, _, rfl, rfl, SqL.of hln, rfl, _, rfl, _, _, rfl, rfl, ⟨by decide, by decide⟩, _, _, rfl, rfl, (by show (0 : Int) < 21; decide), _, _, rfl, rfl, _, rfl, by show 6 ≤ sizeLine; decide, fun p3 j3 => ⟨by show 4 ≤ sizeLine; decide, fun p4 j4 => ?_⟩⟩
  generalize hpr1 : d / 512 % 21 = pr1
  have bpr1 : pr1 < 21 := by omega
  dsimp only
  rw [show (10 : Int) + ((d : Nat) : Int) / 512 % 21 = ((10 + pr1 : Nat) : Int) by omega]
  have t3 := same_new j3 (.lst [.int 1, .int 2, .int 3, .int 4, .int 5, .int 6])
  have t4 := same_new j4 (.tup [.str z1, .int ((10 + pr1 : Nat) : Int), .int ((20 + la : Nat) : Int), .ref p3])
  have hp3 := t4 _ _ (@upd_same H2 p3 (.lst [.int 1, .int 2, .int 3, .int 4, .int 5, .int 6]))
  have hp4 := @upd_same (upd H2 p3 (.lst [.int 1, .int 2, .int 3, .int 4, .int 5, .int 6])) p4 (.tup [.str z1, .int ((10 + pr1 : Nat) : Int), .int ((20 + la : Nat) : Int), .ref p3])
  have U4 := t3.trans t4
  have hln4 := U4 _ _ hln
  have tkL : TkAt (upd (upd H2 p3 (.lst [.int 1, .int 2, .int 3, .int 4, .int 5, .int 6])) p4 (.tup [.str z1, .int ((10 + pr1 : Nat) : Int), .int ((20 + la : Nat) : Int), .ref p3])) (.ref p4) ⟨z1, 10 + pr1, 20 + la, 63⟩ := ⟨p4, p3, rfl, hp4, by
    show _ = some (HO.lst (natV (zonesOf 63)))
    rw [show natV (zonesOf 63) = [V.int 1, V.int 2, V.int 3, V.int 4, V.int 5, V.int 6] by unfold natV; rw [show zonesOf 63 = [1, 2, 3, 4, 5, 6] by decide]; rfl]
    exact hp3⟩
  have okL : Tk.Ok ⟨z1, 10 + pr1, 20 + la, 63⟩ := ⟨ok1, by show 10 + pr1 ≤ 10000; omega, by show 1 ≤ 20 + la; omega, by show 20 + la ≤ 1440; omega, (show 1 ≤ 63 by decide), (show 63 < 64 by decide)⟩
  generalize upd (upd H2 p3 (.lst [.int 1, .int 2, .int 3, .int 4, .int 5, .int 6])) p4 (.tup [.str z1, .int ((10 + pr1 : Nat) : Int), .int ((20 + la : Nat) : Int), .ref p3]) = H4 at U4 hln4 tkL ⊢
  have S4 := S2.trans U4
  clear t3 t4 hp3 hp4 j3 j4 U4
  refine ⟨_, rfl, ln, _, 1, _, rfl, rfl, SqL.of hln4, rfl, _, rfl, _, _, rfl, rfl, ⟨by decide, by decide⟩, _, _, rfl, rfl, (by show (0 : Int) < 5; decide), _, _, rfl, rfl, by show 2 ≤ sizeLine; decide, fun p5 j5 => ?_⟩
  generalize hpr2 : d / 16384 % 5 = pr2
  have bpr2 : pr2 < 5 := by omega
  dsimp only
  rw [show (1 : Int) + ((d : Nat) : Int) / 16384 % 5 = ((1 + pr2 : Nat) : Int) by omega]
  have t5 := same_new j5 (.lst [.int 63, .int 1])
  obtain ⟨vb, eb, b, rfl, b1, b2⟩ := at_all (p := fun v => ∃ m : Nat, v = .int (m : Nat) ∧ 1 ≤ m ∧ m < 64) (xs := [.int 63, .int 1]) (d := ((d : Nat) : Int) % 2) (fun v hv => by
    simp only [List.mem_cons, List.not_mem_nil, or_false] at hv
    rcases hv with rfl | rfl
    · exact ⟨63, rfl, by decide, by decide⟩
    · exact ⟨1, rfl, by decide, by decide⟩) (by omega) (by show ((d : Nat) : Int) % 2 < 2; omega)
  refine ⟨_, rfl, _, _, rfl, rfl, (by show (0 : Int) < 2; decide), p5, _, _, _, rfl, rfl, SqL.of upd_same, eb, b, rfl, fun l6 H6 s6 _ hl6 => ⟨by show 4 ≤ sizeLine; decide, fun p7 j7 => ?_⟩⟩
  have t7 := same_new j7 (.tup [.str z2, .int ((1 + pr2 : Nat) : Int), .int 1, .ref l6])
  have U7 := (t5.trans s6).trans t7
  have tkS : TkAt (upd H6 p7 (.tup [.str z2, .int ((1 + pr2 : Nat) : Int), .int 1, .ref l6])) (.ref p7) ⟨z2, 1 + pr2, 1, b⟩ := ⟨p7, l6, rfl, upd_same, t7 _ _ hl6⟩
  have okS : Tk.Ok ⟨z2, 1 + pr2, 1, b⟩ := ⟨ok2, by show 1 + pr2 ≤ 10000; omega, (show 1 ≤ 1 by decide), (show 1 ≤ 1440 by decide), b1, b2⟩
  generalize upd H6 p7 (.tup [.str z2, .int ((1 + pr2 : Nat) : Int), .int 1, .ref l6]) = H7 at U7 tkS ⊢
  have S7 := S4.trans U7
  have tkL7 := tkL.same U7
  clear t5 s6 t7 j5 j7 hl6 U7 tkL eb hln4
  refine ⟨_, rfl, a, ns, 72, rfl, S7.seq hS, by decide, by decide, fun d2 H8 _ s8 => ⟨_, _, rfl, rfl, (by show (0 : Int) < 14000000; decide), ?_⟩⟩
  refine ⟨_, rfl, a, ns, 73, rfl, (S7.trans s8).seq hS, by decide, by decide, fun d3 H9 _ s9 => ⟨_, _, rfl, rfl, (by show (0 : Int) < 7; decide), _, _, rfl, rfl, ?_⟩⟩
  have S9 := (S7.trans s8).trans s9
  refine ⟨_, rfl, _, rfl, _, _, rfl, rfl, _, rfl, a, ns, 73, rfl, S9.seq hS, by decide, by decide, fun d4 H10 _ s10 => ⟨_, _, rfl, rfl, ⟨by decide, by decide⟩, _, rfl, _, _, rfl, rfl, _, _, rfl, rfl, ?_, _, _, rfl, rfl, ?_⟩⟩
  · show (0 : Int) < 3 + ((d3 : Nat) : Int) % 7 - 2
    omega
  have S10 := S9.trans s10
  have T10 := (s8.trans s9).trans s10
  have tkL10 := tkL7.same T10
  have tkS10 := tkS.same T10
  clear tkL7 tkS
  dsimp only
  generalize ((d2 : Nat) : Int) % 14000000 = m1
  generalize (3 : Int) + ((d3 : Nat) : Int) % 7 = gap
  generalize m1 + ((20 + la : Nat) : Int) + ((d4 : Nat) : Int) / 8 % (gap - 2) = m3
  obtain ⟨vb, eb, bb, rfl, bb2⟩ := at_all (p := fun v => ∃ m : Nat, v = .int (m : Nat) ∧ m < 64) (xs := [.int 63, .int 3, .int 7, .int 62]) (d := ((d : Nat) : Int) / 131072 % 4) (fun v hv => by
    simp only [List.mem_cons, List.not_mem_nil, or_false] at hv
    rcases hv with rfl | rfl | rfl | rfl
    · exact ⟨63, rfl, by decide⟩
    · exact ⟨3, rfl, by decide⟩
    · exact ⟨7, rfl, by decide⟩
    · exact ⟨62, rfl, by decide⟩) (by omega) (by show ((d : Nat) : Int) / 131072 % 4 < 4; omega)
  refine ⟨by show 4 ≤ sizeLine; decide, fun p11 j11 => ⟨_, rfl, _, _, rfl, rfl, ⟨by decide, by decide⟩, _, _, rfl, rfl, (by show (0 : Int) < 4; decide), p11, _, _, _, rfl, rfl, SqL.of upd_same, eb, ?_⟩⟩
  have t11 := same_new j11 (.lst [.int 63, .int 3, .int 7, .int 62])
  generalize upd H10 p11 (.lst [.int 63, .int 3, .int 7, .int 62]) = H11 at t11 ⊢
  refine ⟨_, rfl, by show 2 ≤ sizeLine; decide, fun q1 i1 => ⟨_, rfl, _, rfl, _, rfl, _, _, rfl, rfl, by show 2 ≤ sizeLine; decide, fun q2 i2 => ⟨_, rfl, _, rfl, by show 2 ≤ sizeLine; decide, fun q3 i3 => ⟨_, rfl, _, rfl, _, _, rfl, rfl, by show 2 ≤ sizeLine; decide, fun q4 i4 => ⟨by show 4 ≤ sizeLine; decide, fun lr ir => ?_⟩⟩⟩⟩⟩
  have u1 := same_new i1 (.tup [.int 1, .int m1])
  have u2 := same_new i2 (.tup [.int ((bb : Nat) : Int), .int (m1 + gap)])
  have u3 := same_new i3 (.tup [.int ((bb : Nat) : Int), .int m3])
  have u4 := same_new i4 (.tup [.int ((bb : Nat) : Int), .int (m3 + 1)])
  have u5 := same_new ir (.lst [.ref q1, .ref q2, .ref q3, .ref q4])
  have V5 := (((u1.trans u2).trans u3).trans u4).trans u5
  have alR := Al.cons (R := RdAt (upd (upd (upd (upd (upd H11 q1 (.tup [.int 1, .int m1])) q2 (.tup [.int ((bb : Nat) : Int), .int (m1 + gap)])) q3 (.tup [.int ((bb : Nat) : Int), .int m3])) q4 (.tup [.int ((bb : Nat) : Int), .int (m3 + 1)])) lr (.lst [.ref q1, .ref q2, .ref q3, .ref q4]))) (v := .ref q1) (x := ⟨1, m1⟩) ⟨q1, rfl, u5 _ _ (u4 _ _ (u3 _ _ (u2 _ _ upd_same)))⟩ (.cons (v := .ref q2) (x := ⟨bb, m1 + gap⟩) ⟨q2, rfl, u5 _ _ (u4 _ _ (u3 _ _ upd_same))⟩ (.cons (v := .ref q3) (x := ⟨bb, m3⟩) ⟨q3, rfl, u5 _ _ (u4 _ _ upd_same)⟩ (.cons (v := .ref q4) (x := ⟨bb, m3 + 1⟩) ⟨q4, rfl, u5 _ _ upd_same⟩ .nil)))
  have hlr := @upd_same (upd (upd (upd (upd H11 q1 (.tup [.int 1, .int m1])) q2 (.tup [.int ((bb : Nat) : Int), .int (m1 + gap)])) q3 (.tup [.int ((bb : Nat) : Int), .int m3])) q4 (.tup [.int ((bb : Nat) : Int), .int (m3 + 1)])) lr (.lst [.ref q1, .ref q2, .ref q3, .ref q4])
  generalize upd (upd (upd (upd (upd H11 q1 (.tup [.int 1, .int m1])) q2 (.tup [.int ((bb : Nat) : Int), .int (m1 + gap)])) q3 (.tup [.int ((bb : Nat) : Int), .int m3])) q4 (.tup [.int ((bb : Nat) : Int), .int (m3 + 1)])) lr (.lst [.ref q1, .ref q2, .ref q3, .ref q4]) = H12 at V5 alR hlr ⊢
  have T12 := t11.trans V5
  have S12 := S10.trans T12
  have tkL12 := tkL10.same T12
  have tkS12 := tkS10.same T12
  clear u1 u2 u3 u4 u5 i1 i2 i3 i4 ir V5 t11 j11 tkL10 tkS10 eb
  have okR : ∀ r ∈ ([⟨1, m1⟩, ⟨bb, m1 + gap⟩, ⟨bb, m3⟩, ⟨bb, m3 + 1⟩] : List Rd), r.b < 64 := fun r hr => by
    simp only [List.mem_cons, List.not_mem_nil, or_false] at hr
    rcases hr with rfl | rfl | rfl | rfl
    · exact (by decide : (1 : Nat) < 64)
    · exact bb2
    · exact bb2
    · exact bb2
  refine ⟨_, rfl, _, rfl, by show 2 ≤ sizeLine; decide, fun la1 ja => ⟨_, rfl, _, rfl, by show 2 ≤ sizeLine; decide, fun lb1 jb => ⟨by show 2 ≤ sizeLine; decide, fun lc jc => ?_⟩⟩⟩
  have x1 := same_new ja (.lst [.ref p4, .ref p7])
  have x2 := same_new jb (.lst [.ref p7, .ref p4])
  have x3 := same_new jc (.lst [.ref la1, .ref lb1])
  have hla1 := x3 _ _ (x2 _ _ (@upd_same H12 la1 (.lst [.ref p4, .ref p7])))
  have hlb1 := x3 _ _ (@upd_same (upd H12 la1 (.lst [.ref p4, .ref p7])) lb1 (.lst [.ref p7, .ref p4]))
  have X3 := (x1.trans x2).trans x3
  obtain ⟨vt, et, lt, rfl, hlt⟩ := at_all (p := fun v => ∃ lt : Addr, v = .ref lt ∧ (lt = la1 ∨ lt = lb1)) (xs := [.ref la1, .ref lb1]) (d := ((d : Nat) : Int) / 4 % 2) (fun v hv => by
    simp only [List.mem_cons, List.not_mem_nil, or_false] at hv
    rcases hv with rfl | rfl
    · exact ⟨la1, rfl, .inl rfl⟩
    · exact ⟨lb1, rfl, .inr rfl⟩) (by omega) (by show ((d : Nat) : Int) / 4 % 2 < 2; omega)
  refine ⟨_, rfl, _, _, rfl, rfl, ⟨by decide, by decide⟩, _, _, rfl, rfl, (by show (0 : Int) < 2; decide), lc, _, _, _, rfl, rfl, SqL.of upd_same, et, _, rfl, by show 2 ≤ sizeLine; decide, fun pq jq => ?_⟩
  have x4 := same_new jq (.tup [.ref lt, .ref lr])
  have X4 := X3.trans x4
  have okT : ∀ k ∈ ([⟨z1, 10 + pr1, 20 + la, 63⟩, ⟨z2, 1 + pr2, 1, b⟩] : List Tk), k.Ok := fun k hk => by
    simp only [List.mem_cons, List.not_mem_nil, or_false] at hk
    rcases hk with rfl | rfl
    · exact okL
    · exact okS
  rcases hlt with rfl | rfl
  · exact q [⟨z1, 10 + pr1, 20 + la, 63⟩, ⟨z2, 1 + pr2, 1, b⟩] _ lt _ _ lr pq _ (S12.trans X4) upd_same (x4 _ _ hla1) (.cons (tkL12.same X4) (.cons (tkS12.same X4) .nil)) (show 2 ≤ 3 by decide) (by simpa using n12) okT (X4 _ _ hlr) (alR.imp fun _ _ => RdAt.same X4) (show 4 ≤ 4 by decide) okR
  · exact q [⟨z2, 1 + pr2, 1, b⟩, ⟨z1, 10 + pr1, 20 + la, 63⟩] _ lt _ _ lr pq _ (S12.trans X4) upd_same (x4 _ _ hlb1) (.cons (tkS12.same X4) (.cons (tkL12.same X4) .nil)) (show 2 ≤ 3 by decide) (by simpa using n12.symm) (fun k hk => okT k (by simp only [List.mem_cons, List.not_mem_nil, or_false] at hk ⊢; exact hk.symm)) (X4 _ _ hlr) (alR.imp fun _ _ => RdAt.same X4) (show 4 ≤ 4 by decide) okR
theorem run_spent {TK : List Tk} : ∀ {R : List Rd} {B : List (Option Str)} {h : Option (Tk × Int)} {p : Nat}, B.length = R.length → spentM TK h p R B = (Dy.run (stepS TK) (priceM TK) h p R B).map (·.1)
  | [], [], h, p, _ => by unfold spentM Dy.run; rfl
  | r :: R, n :: B, h, p, e => by
    show (match stepM TK h r n with | some h' => spentM TK (some h') (p + priceM TK n) R B | none => none) = _
    unfold Dy.run stepS
    cases es : stepM TK h r n with
    | none => rfl
    | some h' => exact run_spent (Nat.succ.inj e)
  | [], _ :: _, _, _, e => by cases e
  | _ :: _, [], _, _, e => by cases e
def fW (TK : List Tk) (R : List Rd) (c : Nat) : Option Nat := spentM TK none 0 R (Dy.digs (NSof TK) none c R.length)
theorem fW_run {TK : List Tk} {R : List Rd} {c m : Nat} (e : fW TK R c = some m) : ∃ h, Dy.run (stepS TK) (priceM TK) none 0 R (Dy.digs (NSof TK) none c R.length) = some (m, h) := by
  unfold fW at e
  rw [run_spent Dy.digs_len] at e
  cases er : Dy.run (stepS TK) (priceM TK) none 0 R (Dy.digs (NSof TK) none c R.length) with
  | none => rw [er] at e; cases e
  | some x =>
    rw [er] at e
    obtain ⟨m', h⟩ := x
    have e : some m' = some m := e
    cases e
    exact ⟨h, rfl⟩
theorem NS_pos (TK : List Tk) : 0 < (NSof TK).length := by rw [NS_len]; omega
theorem min_none {TK : List Tk} {R : List Rd} {o : Option Nat} (hm : Dy.MinOf (fW TK R) ((NSof TK).length ^ R.length) o) (h : ∀ B p h, (∀ n ∈ B, n ∈ NSof TK) → Dy.run (stepS TK) (priceM TK) none 0 R B ≠ some (p, h)) : o = none := by
  cases o with
  | none => rfl
  | some m =>
    obtain ⟨c, _, e⟩ := (hm.2 m rfl).1
    obtain ⟨h', e'⟩ := fW_run e
    exact absurd e' (h _ _ _ (Dy.digs_in (NS_pos TK)))
theorem min_some {TK : List Tk} {R : List Rd} {o : Option Nat} {B : List (Option Str)} {p : Nat} {h : Option (Tk × Int)} (hm : Dy.MinOf (fW TK R) ((NSof TK).length ^ R.length) o) (hB : ∀ n ∈ B, n ∈ NSof TK) (e : Dy.run (stepS TK) (priceM TK) none 0 R B = some (p, h))
    (least : ∀ B' p' h', (∀ n ∈ B', n ∈ NSof TK) → Dy.run (stepS TK) (priceM TK) none 0 R B' = some (p', h') → p ≤ p') : o = some p ∧ spentM TK none 0 R B = some p ∧ B.length = R.length := by
  have hl := Dy.run_len e
  have es : spentM TK none 0 R B = some p := by rw [run_spent hl, e]; rfl
  obtain ⟨c, hc, ec⟩ := Dy.digs_all (d := none) hl hB
  have ef : fW TK R c = some p := by unfold fW; rw [ec]; exact es
  refine ⟨?_, es, hl⟩
  cases o with
  | none => rw [hm.1 rfl c hc] at ef; cases ef
  | some m =>
    have l1 := (hm.2 m rfl).2 c hc p ef
    obtain ⟨c', _, e2⟩ := (hm.2 m rfl).1
    obtain ⟨h', e'⟩ := fW_run e2
    have l2 := least _ _ _ (Dy.digs_in (NS_pos TK)) e'
    rw [show m = p by omega]
theorem at_pow {N k : Nat} (h : k ≤ 4) : atI [V.int 1, V.int ((N : Nat) : Int), V.int (((N : Nat) : Int) ^ (2 : Int).toNat), V.int (((N : Nat) : Int) ^ (3 : Int).toNat), V.int (((N : Nat) : Int) ^ (4 : Int).toNat)] ((k : Nat) : Int) = some (V.int ((N ^ k : Nat) : Int)) := by
  have e2 : ∀ j : Nat, ((N : Nat) : Int) ^ j = ((N ^ j : Nat) : Int) := fun j => (Int.natCast_pow N j).symm
  rw [show (2 : Int).toNat = 2 from rfl, show (3 : Int).toNat = 3 from rfl, show (4 : Int).toNat = 4 from rfl, e2 2, e2 3, e2 4]
  match k, h with
  | 0, _ => rw [Nat.pow_zero]; exact atI_nat rfl
  | 1, _ => rw [Nat.pow_one]; exact atI_nat rfl
  | 2, _ => exact atI_nat rfl
  | 3, _ => exact atI_nat rfl
  | 4, _ => exact atI_nat rfl
theorem name_of {TK : List Tk} {c : Nat} : atI ((NSof TK).map nmV) (((c : Nat) : Int) % ((((NSof TK).map nmV).length : Nat) : Int)) = some (nmV ((NSof TK).getD (c % (NSof TK).length) none)) := by
  have hlt := Nat.mod_lt c (NS_pos TK)
  rw [List.length_map, ← Int.natCast_emod]
  refine atI_nat ?_
  rw [List.getElem?_map, List.getD_eq_getElem?_getD, List.getElem?_eq_getElem hlt]
  rfl
def spLeastL (K : W.Frag) : Sp := fun vs H Q _ => ∃ (lt lr : Addr) (vt : List V) (TK : List Tk) (vr : List V) (R : List Rd), vs = [.ref lt, .ref lr] ∧ H lt = some (.lst vt) ∧ Al (TkAt H) vt TK ∧ (∀ k ∈ TK, k.Ok) ∧ TK.length ≤ 3 ∧ H lr = some (.lst vr) ∧ Al (RdAt H) vr R ∧ (∀ r ∈ R, r.b < 64) ∧ R.length ≤ 4 ∧
  ∀ o H', Dy.MinOf (fW TK R) ((NSof TK).length ^ R.length) o → Same H H' → Q (optV o) H'
theorem ok_law_least (Tx : Tab K mg t) : FnOk P w K mg base CX0 3 t.f_law_least t.d_law_least ["_law_tickets_here", "_law_rides_here"] (spLeastL K) := by
  refine Tx.F_law_least.ok sc_law_least (fun vs H Q E h => ?_) (fun cdv A outer s H vs Q E hr h => ?_)
  · obtain ⟨lt, lr, vt, TK, vr, R, rfl, _⟩ := h
    rfl
  obtain ⟨lt, lr, vt, TK, vr, R, rfl, hlt, alT, okT, lenT, hlr, alR, okR, lenR, q⟩ := h
  refine ⟨_, (pss_cons (ps_set (i := 2) sc_law_least.nd rfl (Or.inl rfl) (pe_op op_cat (pe_lst (pac pe_non pa_nil)) (pe_comp (cl := []) (N := ["_law_ticket"]) (fr := [none]) rfl (pi_list (pv 0)) rfl (by decide +kernel) rfl (by decide +kernel) trivial trivial rfl (fun _ _ _ _ _ => (pg_name (i := 0) (show List.Nodup (["_law_ticket"] : List Str) by decide +kernel) rfl (Or.inl rfl))) (fun _ _ _ _ _ => pts_nil) (fun _ _ _ _ _ => (pe_ix (show IxR _ (rIxT K) from ix_tup) (pv 0) pe_int (fun _ _ => rfl))))))
    (pss_cons (ps_set (i := 3) sc_law_least.nd rfl (Or.inl rfl) pe_non)
    (pss_cons (ps_for PassesOwn.never rfl (pi_range1 rfl Tx.z_range (pac (pe_ix ix_list (pe_lst (pac pe_int (pac (pe_callB call_len_seq rfl Tx.z_len b_len (pac (pv 2) pa_nil)) (pac (pe_op op_pow (pe_callB call_len_seq rfl Tx.z_len b_len (pac (pv 2) pa_nil)) pe_int) (pac (pe_op op_pow (pe_callB call_len_seq rfl Tx.z_len b_len (pac (pv 2) pa_nil)) pe_int) (pac (pe_op op_pow (pe_callB call_len_seq rfl Tx.z_len b_len (pac (pv 2) pa_nil)) pe_int) pa_nil)))))) (pe_callB call_len_seq rfl Tx.z_len b_len (pac (pv 1) pa_nil)) (fun _ _ => rfl)) pa_nil)) (pg_name (i := 4) sc_law_least.nd rfl (Or.inl rfl))
    (pss_cons (ps_set (i := 5) sc_law_least.nd rfl (Or.inl rfl) (pe_lst pa_nil))
    (pss_cons (ps_for PassesOwn.never rfl (pi_list (pv 1)) (pg_name (i := 6) sc_law_least.nd rfl (Or.inl rfl))
    (pss_cons (ps_expr (pe_bm PySem.F.plainAttrs_list PySem.F.slot_list_append PySem.F.type_list_append mt_append (pv 5) (pac (pe_ix ix_list (pv 2) (pe_op op_mod (pv 4) (pe_callB call_len_seq rfl Tx.z_len b_len (pac (pv 2) pa_nil))) (fun _ _ => rfl)) pa_nil)))
    (pss_one (ps_set (i := 4) sc_law_least.nd rfl (Or.inl rfl) (pe_op op_fdiv (pv 4) (pe_callB call_len_seq rfl Tx.z_len b_len (pac (pv 2) pa_nil)))))))
    (pss_cons (ps_set (i := 7) sc_law_least.nd rfl (Or.inl rfl) (pe_call (ok_law_spent Tx) (hr.mono (by omega)) rfl Tx.m_law_spent Tx.F_law_spent.kp Tx.b_law_spent .nil pass0 (pac (pv 0) (pac (pv 1) (pac (pv 5) pa_nil)))))
    (pss_one (ps_if (PW.pt (pw_and (pt_cmp (pc_notN (pv 7))) (pw_and1 (PW.pt (pw_or (pt_cmp (pc_isN (pv 3))) (pw_or1 (pt_cmpR op_lt (pv 7) (pv 3) (nomark _))))))))
    (pss_one (ps_set (i := 3) sc_law_least.nd rfl (Or.inl rfl) (pv 7)))
    pss_nil))))))
    (pss_one (ps_ret (pv 3)))))), ?_⟩
  refine ⟨by show 1 ≤ sizeLine; decide, fun p1 j1 => ?_⟩
  have t1 := same_new j1 (.lst [.non])
  refine ⟨_, rfl, lt, rfl, ⟨_, SqL.of (t1 _ _ hlt)⟩, comp_list (K := K) (a := lt) (xs := vt) (fun i acc σ H' => H' = upd H p1 (.lst [.non]) ∧ (∃ v, σ = [v]) ∧ acc = (TK.take i).map fun k => V.str k.nm)
    ⟨rfl, ⟨_, rfl⟩, rfl⟩ (by rw [alT.length]; exact Nat.le_trans lenT (by decide)) (fun i acc σ H' _ ⟨e, _⟩ => by rw [e]; exact SqL.of (t1 _ _ hlt)) ?_ ?_⟩
  · rintro j x acc σ H1 hl hx ⟨rfl, ⟨v, rfl⟩, rfl⟩
    obtain ⟨k, ek, hk⟩ := alT.get hx
    obtain ⟨pt, lz, rfl, g1, g2⟩ := hk
    dsimp only [gName, tTrue]
    rw [if_pos rfl]
    refine ⟨_, rfl, pt, _, 0, _, rfl, rfl, SqT.of (t1 _ _ g1), rfl, by rw [List.length_append, List.length_singleton]; omega, rfl, ⟨_, rfl⟩, ?_⟩
    rw [List.take_add_one, ek]
    simp
  · rintro acc σ H1 hl ⟨rfl, ⟨v, rfl⟩, rfl⟩ p2 j2
    rw [alT.length, List.take_length]
    have t2 := same_new j2 (.lst (TK.map fun k => V.str k.nm))
    refine ⟨p1, p2, _, _, rfl, rfl, t2 _ _ upd_same, upd_same, (by rw [List.length_map]; exact Nat.le_trans (show 1 + TK.length ≤ 9 by omega) (by decide)), fun ln j3 => ?_⟩
    have t3 := same_new j3 (.lst ([V.non] ++ TK.map fun k => V.str k.nm))
    have hln := @upd_same (upd (upd H p1 (.lst [.non])) p2 (.lst (TK.map fun k => V.str k.nm))) ln (.lst ([V.non] ++ TK.map fun k => V.str k.nm))
    have S3 := (t1.trans t2).trans t3
    generalize upd (upd (upd H p1 (.lst [.non])) p2 (.lst (TK.map fun k => V.str k.nm))) ln (.lst ([V.non] ++ TK.map fun k => V.str k.nm)) = H3 at hln S3 ⊢
    rw [NS_map] at hln
    clear t1 t2 t3 j1 j2 j3
    have eL : ((NSof TK).map nmV).length = (NSof TK).length := List.length_map ..
    have bL : (NSof TK).length ≤ 4 := by rw [NS_len]; omega
    have bN : (((((NSof TK).map nmV).length : Nat) : Int)).natAbs < 2 ^ 64 := Nat.lt_of_le_of_lt (show _ ≤ 4 by rw [eL]; omega) (by decide)
    refine ⟨_, rfl, ln, _, rfl, .inl (SqL.of hln), _, rfl, ln, _, rfl, .inl (SqL.of hln), _, _, rfl, rfl, ⟨by decide, by decide, bN⟩, _, rfl, ln, _, rfl, .inl (SqL.of hln), _, _, rfl, rfl, ⟨by decide, by decide, bN⟩, _, rfl, ln, _, rfl, .inl (SqL.of hln), _, _, rfl, rfl, ⟨by decide, by decide, bN⟩, by show 5 ≤ sizeLine; decide, fun p4 j4 => ?_⟩
    refine ⟨_, rfl, lr, _, rfl, .inl (SqL.of ((same_new j4 _) _ _ (S3 _ _ hlr))), p4, _, _, _, rfl, rfl, SqL.of upd_same, at_pow (by rw [alR.length]; exact lenR), ?_⟩
    have t4 := same_new j4 (.lst [V.int 1, V.int ((((NSof TK).map nmV).length : Nat) : Int), V.int (((((NSof TK).map nmV).length : Nat) : Int) ^ (2 : Int).toNat), V.int (((((NSof TK).map nmV).length : Nat) : Int) ^ (3 : Int).toNat), V.int (((((NSof TK).map nmV).length : Nat) : Int) ^ (4 : Int).toNat)])
    generalize upd H3 p4 (.lst [V.int 1, V.int ((((NSof TK).map nmV).length : Nat) : Int), V.int (((((NSof TK).map nmV).length : Nat) : Int) ^ (2 : Int).toNat), V.int (((((NSof TK).map nmV).length : Nat) : Int) ^ (3 : Int).toNat), V.int (((((NSof TK).map nmV).length : Nat) : Int) ^ (4 : Int).toNat)]) = H4 at t4 ⊢
    have hln4 := t4 _ _ hln
    have S4 := S3.trans t4
    have bP : (NSof TK).length ^ R.length ≤ 256 := Nat.le_trans (Nat.pow_le_pow_left bL _) (Nat.le_trans (Nat.pow_le_pow_right (by decide) lenR) (by decide))
    rw [eL, alR.length]
    clear t4 j4 hln S3
    refine ⟨_, rfl, by omega, by omega, for_range (n := (NSof TK).length ^ R.length) (fun c σ H' => Same H H' ∧ H' ln = some (.lst ((NSof TK).map nmV)) ∧ ∃ (o : Option Nat) (v4 v5 v6 v7 : Option V), σ = [some (.ref lt), some (.ref lr), some (.ref ln), some (optV o), v4, v5, v6, v7] ∧ Dy.MinOf (fW TK R) c o)
      ⟨S4, hln4, none, _, _, _, _, rfl, Dy.MinOf.zero⟩ ?_ ?_⟩
    · rintro c σ H5 hc ⟨s5, hln5, o, v4, v5, v6, v7, rfl, mo⟩
      refine ⟨by show 0 ≤ sizeLine; decide, fun lb jb => ?_⟩
      have tb := same_new jb (.lst [])
      refine ⟨_, rfl, lr, rfl, ⟨_, SqL.of (tb _ _ (s5 _ _ hlr))⟩, for_list (xs := vr) (fun i σ H' => Same H5 H' ∧ ∃ (wv : Int) (v6 : Option V), σ = [some (.ref lt), some (.ref lr), some (.ref ln), some (optV o), some (.int wv), some (.ref lb), v6, v7] ∧ wv = ((c / (NSof TK).length ^ i : Nat) : Int) ∧ H' lb = some (.lst ((Dy.digs (NSof TK) none c i).map nmV)))
        ⟨tb, _, _, rfl, (by rw [Nat.pow_zero, Nat.div_one]; omega), upd_same⟩ (fun i σ H' _ ⟨s', _⟩ => SqL.of (s' _ _ (s5 _ _ hlr))) ?_ ?_⟩
      · rintro i x σ H6 hx ⟨s6, wv, v6, rfl, rfl, hlb⟩
        have hi := (List.getElem?_eq_some_iff.mp hx).1
        rw [alR.length] at hi
        have hln6 := s6 _ _ hln5
        have pos : (0 : Int) < ((((NSof TK).map nmV).length : Nat) : Int) := by rw [eL]; have := NS_pos TK; omega
        refine ⟨_, rfl, .inl ⟨rfl, _, SqL.of hlb⟩, _, rfl, _, rfl, _, rfl, ln, _, rfl, .inl (SqL.of hln6), _, _, rfl, rfl, pos, ln, _, _, _, rfl, rfl, SqL.of hln6, name_of, lb, _, _, rfl, rfl, hlb, Nat.lt_of_le_of_lt (show _ ≤ 4 by rw [List.length_map, Dy.digs_len]; omega) (by decide), ?_⟩
        have nl : ln ≠ lb := fun z => by rw [z, jb] at hln5; cases hln5
        refine ⟨_, rfl, _, rfl, ln, _, rfl, .inl (SqL.of (by rw [upd_ne nl]; exact hln6)), _, _, rfl, rfl, ⟨pos, by rw [eL]; omega⟩, ?_⟩
        refine ⟨same_put s6 jb _, _, _, rfl, ?_, ?_⟩
        · rw [eL, Nat.pow_succ, ← Nat.div_div_eq_div_mul]
          rfl
        · rw [upd_same, Dy.digs_snoc, List.map_append]
          rfl
      · rintro σ H6 ⟨s6, wv, v6, rfl, rfl, hlb⟩
        rw [alR.length] at hlb
        have S6 := s5.trans s6
        refine ⟨_, rfl, _, rfl, _, rfl, lt, lr, lb, vt, TK, vr, R, _, rfl, S6 _ _ hlt, alT.imp fun _ _ => TkAt.same S6, okT, by omega, S6 _ _ hlr, alR.imp fun _ _ => RdAt.same S6, okR, hlb, fun m hm z ez => NS_find (Dy.digs_in (NS_pos TK) m hm) ez, fun H7 s7 => ?_⟩
        have S7 := S6.trans s7
        have hln7 := (s6.trans s7) _ _ hln5
        cases ef : spentM TK none 0 R (Dy.digs (NSof TK) none c R.length) with
        | none =>
          exact ⟨_, rfl, _, rfl, itF (by decide) ⟨S7, hln7, o, _, _, _, _, rfl, mo.pass ef⟩⟩
        | some m =>
          refine ⟨_, rfl, _, rfl, itT (by show (!decide (V.int ((m : Nat) : Int) = V.non)) = true; simp) ?_⟩
          cases o with
          | none => exact ⟨_, rfl, _, rfl, itT rfl (itT rfl ⟨_, rfl, S7, hln7, some m, _, _, _, _, rfl, mo.take ef fun b e => by cases e⟩)⟩
          | some b =>
            refine ⟨_, rfl, _, rfl, itF (by intro y; cases y) ⟨_, rfl, _, rfl, _, _, rfl, rfl, _, rfl, ?_⟩⟩
            by_cases cl : m < b
            · exact itT (decide_eq_true (by omega)) ⟨_, rfl, S7, hln7, some m, _, _, _, _, rfl, mo.take ef fun b' e => by cases e; omega⟩
            · exact itF (by rw [decide_eq_false (by omega)]; decide) ⟨S7, hln7, some b, _, _, _, _, rfl, mo.leave ef (by omega)⟩
    · rintro σ H5 ⟨s5, hln5, o, v4, v5, v6, v7, rfl, mo⟩
      exact ⟨_, rfl, q o H5 mo s5⟩
def spGood (t : Adr) (K : W.Frag) : Sp := fun vs H Q _ => ∃ (n lk lr : Addr) (vt : List V) (TK : List Tk) (vr : List V) (R : List Rd) (o : Option Nat) (G : Hp), vs = [.ref n, .ref lk, .ref lr, optV o] ∧ Same G H ∧ G t.lt = none ∧ NetAt t G n TK ∧ G lk = some (.lst vt) ∧ Al (TkAt G) vt TK ∧ (∀ k ∈ TK, k.Ok) ∧ TK.length ≤ 3 ∧ G lr = some (.lst vr) ∧ Al (RdAt G) vr R ∧ (∀ r ∈ R, r.b < 64) ∧ R.length ≤ 4 ∧ Dy.MinOf (fW TK R) ((NSof TK).length ^ R.length) o ∧ TabLam t.lt lamPos lamQ H ∧
  ∀ H', Same G H' → TabLam t.lt lamPos lamQ H' → Q (.bl true) H'
theorem ok_law_good (Tx : Tab K mg t) (hC : W.CodeHd base t.lc t.lt) (hBM : BM mg base) : FnOk P w K mg base CX0 8 t.f_law_good t.d_law_good ["_law_net_here", "_law_tickets_here", "_law_rides_here", "_law_best"] (spGood t K) := by
  refine Tx.F_law_good.ok sc_law_good (fun vs H Q E h => ?_) (fun cdv A outer s H vs Q E hr h => ?_)
  · obtain ⟨n, lk, lr, vt, TK, vr, R, o, G, rfl, _⟩ := h
    rfl
  obtain ⟨n, lk, lr, vt, TK, vr, R, o, G, rfl, sG, gl, hN, hlk, alT, okT, lenT, hlr, alR, okR, lenR, hm, hT, q⟩ := h
  refine ⟨_, (pss_cons (ps_set (i := 4) sc_law_good.nd rfl (Or.inl rfl) (pe_callTy call_list_of rfl Tx.z_list b_list (pac (pv 2) pa_nil)))
    (pss_cons (ps_set (i := 5) sc_law_good.nd rfl (Or.inl rfl) (pe_call (ok_least_tickets Tx hC hBM) (hr.mono (by omega)) rfl Tx.m_least_tickets Tx.F_least_tickets.kp Tx.b_least_tickets .nil pass0 (pac (pv 0) (pac (pv 4) pa_nil))))
    (pss_cons (ps_if (PW.pt (pw_or (pt_cmpR (op_neD hr.units) (pv 4) (pv 2) (nomark _)) (pw_or1 (pt_cmp (pc_isN (pv 3))))))
    (pss_one (ps_ret (pe_and (pe_cmpR (op_eqD hr.units) (pv 4) (pv 2) (nomark _)) (pe_one (pe_cmp (pc_isN (pv 5)))))))
    pss_nil)
    (pss_cons (ps_if (PW.pt (pw_or (pt_not (pt_val (pe_callB call_isi_ty rfl Tx.z_isinstance b_isinstance (pac (pv 5) (pac (pe_gty rfl Tx.z_tuple b_tuple) pa_nil))))) (pw_or (pt_cmpR op_ne (pe_callB call_len_seq rfl Tx.z_len b_len (pac (pv 5) pa_nil)) pe_int (nomark _)) (pw_or1 (pt_not (pt_val (pe_callB call_isi_ty rfl Tx.z_isinstance b_isinstance (pac (pe_ix ix_tup (pv 5) pe_int (fun _ _ => rfl)) (pac (pe_gty rfl Tx.z_list b_list) pa_nil)))))))))
    (pss_one (ps_ret pe_bl))
    pss_nil)
    (pss_cons (ps_if (PW.pt (pw_or (pt_not (pt_val (pe_call (ok_law_whole Tx) (hr.mono (by omega)) rfl Tx.m_law_whole Tx.F_law_whole.kp Tx.b_law_whole .nil pass0 (pac (pe_ix ix_tup (pv 5) pe_int (fun _ _ => rfl)) pa_nil)))) (pw_or (pt_cmpR op_ne (pe_ix ix_tup (pv 5) pe_int (fun _ _ => rfl)) (pv 3) (nomark _)) (pw_or1 (pt_cmpR op_ne (pe_callB call_len_seq rfl Tx.z_len b_len (pac (pe_ix ix_tup (pv 5) pe_int (fun _ _ => rfl)) pa_nil)) (pe_callB call_len_seq rfl Tx.z_len b_len (pac (pv 2) pa_nil)) (nomark _))))))
    (pss_one (ps_ret pe_bl))
    pss_nil)
    (pss_cons (ps_if (pt_cmpR (op_ne_lst hr.units0) (pe_comp (cl := [(Str.ofString "_law_tickets_here", s.heap.objs.size + 1)]) (N := ["_law_name", "_law_tickets_here"]) (fr := [none, some 1]) rfl (pi_list (pe_ix ix_tup (pv 5) pe_int (fun _ _ => rfl))) rfl (by decide +kernel) rfl (by decide +kernel) ⟨⟨rfl, Or.inl rfl, Or.inl rfl, _, rfl, rfl⟩, trivial⟩ ⟨rfl, trivial⟩ rfl (fun _ _ _ _ _ => (pg_name (i := 0) (show List.Nodup (["_law_name", "_law_tickets_here"] : List Str) by decide +kernel) rfl (Or.inl rfl))) (fun _ _ _ _ _ => (pts_one (PW.pt (pw_and (pt_cmp (pc_notN (pv 0))) (pw_and1 (pt_cmpR (show OpR _ (compareOp .NotIn) (rIn K true) from op_notIn_seq) (pv 0) (pe_comp (cl := []) (N := ["_law_ticket"]) (fr := [none]) rfl (show PI _ _ _ (iList K _) from (pi_list (pv 1))) rfl (by decide +kernel) rfl (by decide +kernel) trivial trivial rfl (fun _ _ _ _ _ => (pg_name (i := 0) (show List.Nodup (["_law_ticket"] : List Str) by decide +kernel) rfl (Or.inl rfl))) (fun _ _ _ _ _ => pts_nil) (fun _ _ _ _ _ => (pe_ix (show IxR _ (rIxT K) from ix_tup) (pv 0) pe_int (fun _ _ => rfl)))) rfl)))))) (fun _ _ _ _ _ => (pv 0))) (pe_lst pa_nil) (nomark _))
    (pss_one (ps_ret pe_bl))
    pss_nil)
    (pss_cons (ps_if (pt_cmpR op_ne (pe_call (ok_law_spent Tx) (hr.mono (by omega)) rfl Tx.m_law_spent Tx.F_law_spent.kp Tx.b_law_spent .nil pass0 (pac (pv 1) (pac (pv 2) (pac (pe_ix ix_tup (pv 5) pe_int (fun _ _ => rfl)) pa_nil)))) (pv 3) (nomark _))
    (pss_one (ps_ret pe_bl))
    pss_nil)
    (pss_cons (ps_expr (pe_bm0 PySem.F.plainAttrs_list PySem.F.slot_list_reverse PySem.F.type_list_reverse mt_reverse (pe_ix ix_tup (pv 5) pe_int (fun _ _ => rfl))))
    (pss_cons (ps_expr (pe_bm PySem.F.plainAttrs_list PySem.F.slot_list_append PySem.F.type_list_append mt_append (pe_ix ix_tup (pv 5) pe_int (fun _ _ => rfl)) (pac pe_str pa_nil)))
    (pss_one (ps_ret pe_bl))))))))))), ?_⟩
  refine ⟨_, rfl, lr, _, rfl, .inl (SqL.of (sG _ _ hlr)), fun l1 j1 => ?_⟩
  have t1 := same_new j1 (.lst vr)
  have hl1 := @upd_same H l1 (.lst vr)
  have hT1 := hT.same t1
  have S1 := sG.trans t1
  generalize upd H l1 (.lst vr) = H1 at t1 hl1 hT1 S1 ⊢
  obtain ⟨ps, eT⟩ := hT1.at
  have gG : Same G (wo H1 t.lt) := same_wo S1 gl
  have hl1' := wo_tab eT hl1 fun _ z => by cases z
  have dvH : ∀ (H' : Hp) (a : Addr), Same (wo H1 t.lt) H' → H' a = some (.lst vr) → DV K H' (.ref a) (.list (R.map rdD)) := fun H' a s' e => .lst (SqL.of e) (rds_dv (alR.imp fun _ _ => RdAt.same (gG.trans s')))
  have dep : (PyData.list (R.map rdD)).depth ≤ 60 := by
    have e1 := depth_rds R
    simp only [PyData.depth]
    omega
  refine ⟨_, rfl, _, rfl, n, l1, TK, vr, R, wo H1 t.lt, rfl, wo_same, if_pos rfl, hN.same gG, okT, lenT, hl1', alR.imp fun _ _ => RdAt.same gG, by omega, hT1, fun none_ H2 s2 hT2 => ?_, fun B p h hB er least pt lb H2 s2 hT2 hpt hlb flb => ?_⟩
  · obtain rfl := min_none hm none_
    have d1 := dvH H2 l1 s2 (s2 _ _ hl1')
    have d2 := dvH H2 lr s2 ((gG.trans s2) _ _ hlr)
    refine ⟨_, rfl, _, rfl, _, _, d1, d2, dep, _, rfl, itF (by rw [SeqAt.eqv_refl _ d1.can]; decide) ⟨_, rfl, _, rfl, itT rfl ?_⟩⟩
    refine ⟨_, rfl, _, rfl, _, _, d1, d2, dep, _, rfl, itT (SeqAt.eqv_refl _ d1.can) ⟨_, rfl, ?_⟩⟩
    exact q H2 (gG.trans s2) hT2
  · obtain ⟨rfl, esp, lenB⟩ := min_some hm hB er least
    have d1 := dvH H2 l1 s2 (s2 _ _ hl1')
    have d2 := dvH H2 lr s2 ((gG.trans s2) _ _ hlr)
    have S2 := gG.trans s2
    refine ⟨_, rfl, _, rfl, _, _, d1, d2, dep, _, rfl, itF (by rw [SeqAt.eqv_refl _ d1.can]; decide) ⟨_, rfl, _, rfl, itF (by intro y; cases y) ?_⟩⟩
    refine ⟨_, rfl, .ref pt, "tuple", _, _, rfl, (Kd.tup hpt).ty, rfl, _, rfl, itF (by decide) ?_⟩
    refine ⟨_, rfl, pt, _, rfl, .inr (SqT.of hpt), rfl, _, rfl, itF (show ¬ (!decide (V.int 2 = V.int 2)) = true by decide) ?_⟩
    refine ⟨_, rfl, pt, _, 1, _, rfl, rfl, SqT.of hpt, rfl, .ref lb, "list", _, _, rfl, (Kd.lst hlb).ty, rfl, _, rfl, itF (by decide) ?_⟩
    refine ⟨_, rfl, pt, _, 0, _, rfl, rfl, SqT.of hpt, rfl, .int (p : Nat), "int", rfl, .int _, _, rfl, itF Bool.false_ne_true ?_⟩
    refine ⟨_, rfl, pt, _, 0, _, rfl, rfl, SqT.of hpt, rfl, _, rfl, rfl, _, rfl, itF (by show ¬ (!decide (V.int ((p : Nat) : Int) = V.int ((p : Nat) : Int))) = true; simp) ?_⟩
    refine ⟨_, rfl, pt, _, 1, _, rfl, rfl, SqT.of hpt, rfl, lb, _, rfl, .inl (SqL.of hlb), _, rfl, lr, _, rfl, .inl (SqL.of (S2 _ _ hlr)), rfl, _, rfl, itF (by
      show ¬ (!decide (V.int (((B.map nmV).length : Nat) : Int) = V.int ((vr.length : Nat) : Int))) = true
      rw [List.length_map, alR.length, lenB]
      simp) ?_⟩
    have bB : (B.map nmV).length ≤ sizeLine := Nat.le_trans (show _ ≤ 4 by rw [List.length_map]; omega) (by decide)
    refine ⟨_, rfl, pt, _, 1, _, rfl, rfl, SqT.of hpt, rfl, lb, rfl, ⟨_, SqL.of hlb⟩, comp_list (K := K) (a := lb) (xs := B.map nmV) (fun i acc σ H' => Same H2 H' ∧ (∃ v, σ = [v, some (.ref lk)]) ∧ acc = [])
      ⟨Same.refl _, ⟨_, rfl⟩, rfl⟩ bB (fun i acc σ H' _ ⟨s', _⟩ => SqL.of (s' _ _ hlb)) ?_ ?_⟩
    · rintro j x acc σ H3 hl hx ⟨s3, ⟨v, rfl⟩, rfl⟩
      rw [List.getElem?_map] at hx
      cases eb : B[j]? with
      | none => rw [eb] at hx; cases hx
      | some nm =>
        rw [eb] at hx
        obtain rfl : nmV nm = x := Option.some.inj hx
        cases nm with
        | none => exact ⟨_, rfl, _, rfl, itF (by decide) (itF (by decide) ⟨Nat.zero_le _, s3, ⟨_, rfl⟩, rfl⟩)⟩
        | some z =>
          obtain ⟨k, ek⟩ := NS_find (hB _ (List.mem_of_getElem? eb)) rfl
          have S3 := S2.trans s3
          refine ⟨_, rfl, _, rfl, itT (by show (!decide (V.str z = V.non)) = true; simp) ?_⟩
          refine ⟨_, rfl, _, rfl, lk, rfl, ⟨_, SqL.of (S3 _ _ hlk)⟩, comp_list (K := K) (a := lk) (xs := vt) (fun i acc σ H' => H' = H3 ∧ (∃ v, σ = [v]) ∧ acc = (TK.take i).map fun k => V.str k.nm)
            ⟨rfl, ⟨_, rfl⟩, rfl⟩ (by rw [alT.length]; exact Nat.le_trans lenT (by decide)) (fun i acc σ H' _ ⟨e, _⟩ => by rw [e]; exact SqL.of (S3 _ _ hlk)) ?_ ?_⟩
          · rintro i x acc σ H4 hl4 hx4 ⟨rfl, ⟨v4, rfl⟩, rfl⟩
            obtain ⟨k', ek', hk'⟩ := alT.get hx4
            obtain ⟨pk, lz, rfl, g1, g2⟩ := hk'
            dsimp only [gName, tTrue]
            rw [if_pos rfl]
            refine ⟨_, rfl, pk, _, 0, _, rfl, rfl, SqT.of (S3 _ _ g1), rfl, by rw [List.length_append, List.length_singleton]; omega, rfl, ⟨_, rfl⟩, ?_⟩
            rw [List.take_add_one, ek']
            simp
          · rintro acc σ H4 hl4 ⟨rfl, ⟨v4, rfl⟩, rfl⟩ p5 j5
            rw [alT.length, List.take_length]
            have t5 := same_new j5 (.lst (TK.map fun k => V.str k.nm))
            refine ⟨p5, _, rfl, .inl (SqL.of upd_same), rfl, flat_names TK, _, rfl, ?_⟩
            rw [show inV (nmV (some z)) (TK.map fun k => V.str k.nm) = (findT TK z).isSome from inV_names TK z, ek]
            exact itF Bool.false_ne_true ⟨Nat.zero_le _, s3.trans t5, ⟨_, rfl⟩, rfl⟩
    · rintro acc σ H3 hl ⟨s3, ⟨v, rfl⟩, rfl⟩ p6 j6
      have t6 := same_new j6 (.lst [])
      refine ⟨by show 0 ≤ sizeLine; decide, fun p7 j7 => ?_⟩
      have t7 := same_new j7 (.lst [])
      refine ⟨p6, p7, _, _, rfl, rfl, SqL.of (t7 _ _ upd_same), SqL.of upd_same, rfl, rfl, _, rfl, itF (by decide) ?_⟩
      have U7 := (s3.trans t6).trans t7
      generalize upd (upd H3 p6 (.lst [])) p7 (.lst []) = H7 at t7 U7 ⊢
      clear t6 t7 j6 j7
      have S7 := S2.trans U7
      refine ⟨_, rfl, _, rfl, _, rfl, pt, _, 1, _, rfl, rfl, SqT.of (U7 _ _ hpt), rfl, lk, lr, lb, vt, TK, vr, R, B, rfl, S7 _ _ hlk, alT.imp fun _ _ => TkAt.same S7, okT, by omega, S7 _ _ hlr, alR.imp fun _ _ => RdAt.same S7, okR, U7 _ _ hlb, fun m hm' z ez => NS_find (hB m hm') ez, fun H8 s8 => ?_⟩
      rw [esp]
      refine ⟨_, rfl, rfl, _, rfl, itF (by show ¬ (!decide (V.int ((p : Nat) : Int) = V.int ((p : Nat) : Int))) = true; simp) ?_⟩
      have U8 := U7.trans s8
      have S8 := S2.trans U8
      have hlb8 := U8 _ _ hlb
      have hpt8 := U8 _ _ hpt
      have hT8 := hT2.same U8
      have npb : pt ≠ lb := fun z => by rw [z, hlb8] at hpt8; cases hpt8
      have fG : G lb = none := gG.free flb
      refine ⟨_, rfl, pt, _, 1, _, rfl, rfl, SqT.of hpt8, rfl, .inl ⟨rfl, _, SqL.of hlb8⟩, lb, _, rfl, rfl, hlb8, ?_⟩
      have S9 := same_put S8 fG (.lst (B.map nmV).reverse)
      have hl9 := @upd_same H8 lb (.lst (B.map nmV).reverse)
      have hT9 := hT8.put (o := .lst (B.map nmV).reverse) hlb8
      have hpt9 : (upd H8 lb (.lst (B.map nmV).reverse)) pt = some (.tup [.int (p : Nat), .ref lb]) := by rw [upd_ne npb]; exact hpt8
      generalize upd H8 lb (.lst (B.map nmV).reverse) = H9 at S9 hl9 hT9 hpt9 ⊢
      refine ⟨_, rfl, pt, _, 1, _, rfl, rfl, SqT.of hpt9, rfl, .inl ⟨rfl, _, SqL.of hl9⟩, lb, _, _, rfl, rfl, hl9, Nat.lt_of_le_of_lt (show _ ≤ 4 by rw [List.length_reverse, List.length_map]; omega) (by decide), ?_⟩
      exact q _ (same_put S9 fG _) (hT9.put hl9)
def sp_law (K : W.Frag) (T : Addr) : Sp := fun vs H Q _ => ∃ (a : Addr) (ns : List Int), vs = [.ref a] ∧ H T = some (.tbl #[]) ∧ SqL K H a (ns.map V.int) ∧ ns.length ≤ 63 ∧ ∀ H', Q (.bl true) H'
theorem ok_law (Tx : Tab K mg t) (hC : W.CodeHd base t.lc t.lt) (hBM : BM mg base) : FnOk P w K mg base CX0 20 t.f_law t.d_law ["_law_script"] (sp_law K t.lt) := by
  refine Tx.F_law.ok sc_law (fun vs H Q E h => ?_) (fun cdv A outer s H vs Q E hr h => ?_)
  · obtain ⟨a, ns, rfl, _⟩ := h
    rfl
  obtain ⟨a, ns, rfl, hT0, hS0, hlen, q⟩ := h
  refine ⟨_, (pss_cons (ps_set (i := 1) sc_law.nd rfl (Or.inl rfl) (pe_call (ok_law_tickets Tx) (hr.mono (by omega)) rfl Tx.m_law_tickets Tx.F_law_tickets.kp Tx.b_law_tickets .nil pass0 (pac (pv 0) (pac pe_int (pac (pe_op op_mod (pe_call (ok_law_draw Tx) (hr.mono (by omega)) rfl Tx.m_law_draw Tx.F_law_draw.kp Tx.b_law_draw .nil pass0 (pac (pv 0) (pac pe_int pa_nil))) pe_int) pa_nil)))))
    (pss_cons (ps_set (i := 2) sc_law.nd rfl (Or.inl rfl) (pe_call (ok_law_edged Tx) (hr.mono (by omega)) rfl Tx.m_law_edged Tx.F_law_edged.kp Tx.b_law_edged .nil pass0 (pac (pv 0) (pac (pv 1) (pac (pe_call (ok_law_rides Tx) (hr.mono (by omega)) rfl Tx.m_law_rides Tx.F_law_rides.kp Tx.b_law_rides .nil pass0 (pac (pv 0) (pac pe_int (pac (pe_op op_mod (pe_call (ok_law_draw Tx) (hr.mono (by omega)) rfl Tx.m_law_draw Tx.F_law_draw.kp Tx.b_law_draw .nil pass0 (pac (pv 0) (pac pe_int pa_nil))) pe_int) pa_nil)))) pa_nil)))))
    (pss_join (ps_if (pt_cmpR op_eq (pe_op op_mod (pe_call (ok_law_draw Tx) (hr.mono (by omega)) rfl Tx.m_law_draw Tx.F_law_draw.kp Tx.b_law_draw .nil pass0 (pac (pv 0) (pac pe_int pa_nil))) pe_int) pe_int (nomark _))
    (pss_one (ps_asg (pe_call (ok_law_crossed Tx) (hr.mono (by omega)) rfl Tx.m_law_crossed Tx.F_law_crossed.kp Tx.b_law_crossed .nil pass0 (pac (pv 0) pa_nil)) (pg_tup rfl (pgs_cons (pg_name (i := 1) sc_law.nd rfl (Or.inl rfl)) (pgs_cons (pg_name (i := 2) sc_law.nd rfl (Or.inl rfl)) pgs_nil)))))
    pss_nil)
    (pss_cons (ps_set (i := 3) sc_law.nd rfl (Or.inl rfl) (pe_call (ok_law_net Tx) (hr.mono (by omega)) rfl Tx.m_law_net Tx.F_law_net.kp Tx.b_law_net .nil pass0 (pac (pv 1) pa_nil)))
    (pss_cons (ps_set (i := 4) sc_law.nd rfl (Or.inl rfl) (pe_call (ok_law_least Tx) (hr.mono (by omega)) rfl Tx.m_law_least Tx.F_law_least.kp Tx.b_law_least .nil pass0 (pac (pv 1) (pac (pv 2) pa_nil))))
    (pss_cons (ps_if (pt_not (pt_val (pe_call (ok_law_good Tx hC hBM) (hr.mono (by omega)) rfl Tx.m_law_good Tx.F_law_good.kp Tx.b_law_good .nil pass0 (pac (pv 3) (pac (pv 1) (pac (pv 2) (pac (pv 4) pa_nil)))))))
    (pss_one (ps_ret pe_bl))
    pss_nil)
    (pss_cons (ps_set (i := 5) sc_law.nd rfl (Or.inl rfl) (pe_slice sl_list (pv 2) (po_some pe_int) po_none))
    (pss_join (ps_if (pt_cmpR (op_neD hr.units) (pv 2) (pe_lst pa_nil) (nomark _))
    (pss_one (ps_set (i := 5) sc_law.nd rfl (Or.inl rfl) (pe_op op_cat (pv 5) (pe_lst (pac (pe_tup (pac pe_int (pac (pe_op op_add (pe_ix ix_tup (pe_ix ix_list (pv 2) (pe_un un_neg pe_int) (fun _ _ => rfl)) pe_int (fun _ _ => rfl)) pe_int) pa_nil))) pa_nil)))))
    pss_nil)
    (pss_cons (ps_if (pt_not (pt_val (pe_call (ok_law_good Tx hC hBM) (hr.mono (by omega)) rfl Tx.m_law_good Tx.F_law_good.kp Tx.b_law_good .nil pass0 (pac (pv 3) (pac (pv 1) (pac (pv 5) (pac (pe_call (ok_law_least Tx) (hr.mono (by omega)) rfl Tx.m_law_least Tx.F_law_least.kp Tx.b_law_least .nil pass0 (pac (pv 1) (pac (pv 5) pa_nil))) pa_nil)))))))
    (pss_one (ps_ret pe_bl))
    pss_nil)
    (pss_one (ps_ret (pe_call (ok_law_good Tx hC hBM) (hr.mono (by omega)) rfl Tx.m_law_good Tx.F_law_good.kp Tx.b_law_good .nil pass0 (pac (pv 3) (pac (pv 1) (pac (pv 2) (pac (pv 4) pa_nil)))))))))))))))), ?_⟩
  have hS : SqL K (wo H t.lt) a (ns.map V.int) := sqL_wo hT0 hS0
  have hT : TabLam t.lt lamPos lamQ H := .inl hT0
  have gl : wo H t.lt t.lt = none := if_pos rfl
  have s0 : Same (wo H t.lt) H := wo_same
  generalize wo H t.lt = G at hS gl s0
  refine ⟨_, rfl, _, rfl, a, ns, 9, rfl, s0.seq hS, by decide, by decide, fun d1 H1 hd1 s1 => ?_⟩
  have S1 := s0.trans s1
  refine ⟨_, _, rfl, rfl, (by show (0 : Int) < 4; decide), a, ns, 0, d1 % 4, ?_, S1.seq hS, by decide, by decide, by omega, fun TK0 vt0 lk0 H2 s2 _ hlk0 alT0 eT0 ndT0 okT0 => ?_⟩
  · show [V.ref a, V.int 0, V.int (((d1 : Nat) : Int) % 4)] = _
    rw [show ((d1 : Nat) : Int) % 4 = ((d1 % 4 : Nat) : Int) by omega]
  have S2 := S1.trans s2
  refine ⟨_, rfl, _, rfl, _, rfl, _, rfl, a, ns, 8, rfl, S2.seq hS, by decide, by decide, fun d2 H3 hd2 s3 => ?_⟩
  have S3 := S2.trans s3
  refine ⟨_, _, rfl, rfl, (by show (0 : Int) < 5; decide), a, ns, 10, d2 % 5, ?_, S3.seq hS, by decide, by decide, by omega, fun R1 vr1 lr1 H4 s4 _ hlr1 alR1 eR1 okR1 => ?_⟩
  · show [V.ref a, V.int 10, V.int (((d2 : Nat) : Int) % 5)] = _
    rw [show ((d2 : Nat) : Int) % 5 = ((d2 % 5 : Nat) : Int) by omega]
  have S4 := S3.trans s4
  have T4 := s3.trans s4
  refine ⟨a, lk0, lr1, ns, vt0, TK0, vr1, R1, rfl, S4.seq hS, T4 _ _ hlk0, alT0.imp fun _ _ => TkAt.same T4, okT0, hlr1, alR1, by omega, okR1, fun R2 vr2 lr2 H5 s5 _ hlr2 alR2 lenR2 okR2 => ?_⟩
  have S5 := S4.trans s5
  have T5 := T4.trans s5
  have hT5 : TabLam t.lt lamPos lamQ H5 := hT.same ((s1.trans s2).trans (T5))
  refine ⟨fun σ H' => ∃ (TK : List Tk) (vt : List V) (lk : Addr) (R : List Rd) (vr : List V) (lr : Addr) (v3 v4 v5 : Option V), σ = [some (.ref a), some (.ref lk), some (.ref lr), v3, v4, v5] ∧ Same G H' ∧ TabLam t.lt lamPos lamQ H' ∧ H' lk = some (.lst vt) ∧ Al (TkAt H') vt TK ∧ TK.length ≤ 3 ∧ (TK.map (·.nm)).Nodup ∧ (∀ k ∈ TK, k.Ok) ∧ H' lr = some (.lst vr) ∧ Al (RdAt H') vr R ∧ R.length ≤ 4 ∧ ∀ r ∈ R, r.b < 64, ?_, ?_⟩
  · refine ⟨_, rfl, a, ns, 74, rfl, S5.seq hS, by decide, by decide, fun d3 H6 hd3 s6 => ?_⟩
    have S6 := S5.trans s6
    have T6 := T5.trans s6
    refine ⟨_, _, rfl, rfl, (by show (0 : Int) < 4; decide), rfl, _, rfl, ite2 (fun _ => ?_) (fun _ => ?_)⟩
    · refine ⟨_, rfl, a, ns, rfl, S6.seq hS, fun TK vt lk R vr lr p H7 s7 hp hlk alT lenT ndT okT hlr alR lenR okR => ?_⟩
      refine ⟨p, _, rfl, SqT.of hp, rfl, _, _, rfl, _, _, rfl, rfl, ?_⟩
      exact ⟨TK, vt, lk, R, vr, lr, _, _, _, rfl, S6.trans s7, hT5.same (s6.trans s7), hlk, alT, lenT, ndT, okT, hlr, alR, lenR, okR⟩
    · exact ⟨TK0, vt0, lk0, R2, vr2, lr2, _, _, _, rfl, S6, hT5.same s6, T6 _ _ hlk0, alT0.imp fun _ _ => TkAt.same T6, by omega, ndT0, okT0, s6 _ _ hlr2, alR2.imp fun _ _ => RdAt.same s6, by omega, okR2⟩
  clear hT5 alR2 hlr2 lenR2 okR2 alR1 hlr1 okR1 alT0 hlk0 okT0 ndT0 S5 T5 S4 T4 S3 S2 S1 hT hT0 hS0
  rintro σ H6 ⟨TK, vt, lk, R, vr, lr, v3, v4, v5, rfl, S6, hT6, hlk, alT, lenT, ndT, okT, hlr, alR, lenR, okR⟩
  refine ⟨_, rfl, lk, vt, TK, rfl, hlk, alT, ndT, okT, lenT, fun n H7 s7 hN => ?_⟩
  have hT7 := hT6.same s7
  have hlk7 := s7 _ _ hlk
  have alT7 := alT.imp fun _ _ => TkAt.same s7
  have hlr7 := s7 _ _ hlr
  have alR7 := alR.imp fun _ _ => RdAt.same s7
  clear S6 hT6 hlk alT hlr alR s7
  refine ⟨_, rfl, _, rfl, lk, lr, vt, TK, vr, R, rfl, hlk7, alT7, okT, lenT, hlr7, alR7, okR, lenR, fun o H8 mo s8 => ?_⟩
  have hT8 := hT7.same s8
  have hlk8 := s8 _ _ hlk7
  have alT8 := alT7.imp fun _ _ => TkAt.same s8
  have hlr8 := s8 _ _ hlr7
  have alR8 := alR7.imp fun _ _ => RdAt.same s8
  have hN8 := hN.same s8
  clear hT7 hlk7 alT7 hlr7 alR7 hN s8
  obtain ⟨ps, eT⟩ := hT8.at
  have gk : ∀ {x : Addr} {u : HO}, H8 x = some u → (∀ ps, u ≠ .tbl ps) → wo H8 t.lt x = some u := fun e n => wo_tab eT e n
  have hlkW : wo H8 t.lt lk = some (.lst vt) := gk hlk8 fun _ z => by cases z
  have hlrW : wo H8 t.lt lr = some (.lst vr) := gk hlr8 fun _ z => by cases z
  have alTW : Al (TkAt (wo H8 t.lt)) vt TK := alT8.imp fun _ _ ⟨p, l, e, h1, h2⟩ => ⟨p, l, e, gk h1 (fun _ z => by cases z), gk h2 (fun _ z => by cases z)⟩
  have alRW : Al (RdAt (wo H8 t.lt)) vr R := alR8.imp fun _ _ ⟨p, e, h1⟩ => ⟨p, e, gk h1 (fun _ z => by cases z)⟩
  have hNW : NetAt t (wo H8 t.lt) n TK := by
    obtain ⟨dx, fs, d, rows, e1, e2, e3, e4⟩ := hN8
    exact ⟨dx, fs, d, rows, gk e1 (fun _ z => by cases z), e2, gk e3 (fun _ z => by cases z), e4.imp fun _ _ ⟨e, r, z, q1, q2, q3⟩ => ⟨e, r, z, q1, gk q2 (fun _ z => by cases z), gk q3 (fun _ z => by cases z)⟩⟩
  have gW : wo H8 t.lt t.lt = none := if_pos rfl
  have sW : Same (wo H8 t.lt) H8 := wo_same
  clear hlk8 alT8 hlr8 alR8 hN8
  generalize wo H8 t.lt = W at hlkW hlrW alTW alRW hNW gW sW
  refine ⟨_, rfl, _, rfl, _, rfl, _, rfl, n, lk, lr, vt, TK, vr, R, o, W, rfl, sW, gW, hNW, hlkW, alTW, okT, lenT, hlrW, alRW, okR, lenR, mo, hT8, fun H9 s9 hT9 => ?_⟩
  refine ⟨true, rfl, itF (by decide) ?_⟩
  refine ⟨_, rfl, _, rfl, lr, _, rfl, SqL.of (s9 _ _ hlrW), fun lo jo => ?_⟩
  rw [show cutV vr (some 1) none = vr.drop 1 from cut_from vr 1]
  have to := same_new jo (.lst (vr.drop 1))
  have hlo := @upd_same H9 lo (.lst (vr.drop 1))
  have hT10 := hT9.same to
  have S10 := s9.trans to
  generalize upd H9 lo (.lst (vr.drop 1)) = H10 at hlo hT10 S10 ⊢
  clear to jo
  refine ⟨fun σ H' => ∃ (R' : List Rd) (vr' : List V) (lo' : Addr), σ = [some (.ref a), some (.ref lk), some (.ref lr), some (.ref n), some (optV o), some (.ref lo')] ∧ Same W H' ∧ TabLam t.lt lamPos lamQ H' ∧ H' lo' = some (.lst vr') ∧ Al (RdAt H') vr' R' ∧ R'.length ≤ 4 ∧ ∀ r ∈ R', r.b < 64, ?_, ?_⟩
  · refine ⟨_, rfl, by show 0 ≤ sizeLine; decide, fun p1 j1 => ?_⟩
    have t1 := same_new j1 (.lst [])
    have S11 := S10.trans t1
    have dv1 : DV K (upd H10 p1 (.lst [])) (.ref lr) (.list (R.map rdD)) := .lst (SqL.of (S11 _ _ hlrW)) (rds_dv (alRW.imp fun _ _ => RdAt.same S11))
    have dv2 : DV K (upd H10 p1 (.lst [])) (.ref p1) (.list []) := .lst (SqL.of upd_same) .nil
    refine ⟨_, _, dv1, dv2, ?_, _, rfl, ?_⟩
    · have := depth_rds R
      simp only [PyData.depth]
      omega
    have alD := (alRW.drop 1).imp fun _ _ => RdAt.same S11
    cases eR : R with
    | nil =>
      refine itF (by decide) ?_
      exact ⟨R.drop 1, vr.drop 1, lo, rfl, S11, hT10.same t1, t1 _ _ hlo, alD, by rw [List.length_drop]; omega, fun r h => okR r (List.mem_of_mem_drop h)⟩
    | cons r0 R0 =>
      refine itT rfl ?_
      obtain ⟨ve, re, ee, ⟨pe, rfl, hpe⟩, _⟩ := at_end alRW (by rw [eR]; simp)
      refine ⟨_, rfl, _, rfl, _, rfl, lr, _, _, _, rfl, rfl, SqL.of (S11 _ _ hlrW), ee, pe, _, 1, _, rfl, rfl, SqT.of (S11 _ _ hpe), rfl, _, _, rfl, rfl, by show 2 ≤ sizeLine; decide, fun p2 j2 => ⟨by show 1 ≤ sizeLine; decide, fun p3 j3 => ?_⟩⟩
      have t2 := same_new j2 (.tup [.int 63, .int (re.mo + 5)])
      have t3 := same_new j3 (.lst [.ref p2])
      have T3 := (t1.trans t2).trans t3
      refine ⟨lo, p3, _, _, rfl, rfl, T3 _ _ hlo, upd_same, Nat.le_trans (show _ ≤ 5 by rw [List.length_drop, alRW.length]; show R.length - 1 + 1 ≤ 5; omega) (by decide), fun p4 j4 => ?_⟩
      have t4 := same_new j4 (.lst (vr.drop 1 ++ [.ref p2]))
      have T4 := T3.trans t4
      refine ⟨R.drop 1 ++ [⟨63, re.mo + 5⟩], vr.drop 1 ++ [.ref p2], p4, rfl, S10.trans T4, hT10.same T4, upd_same, ?_, ?_, ?_⟩
      · exact ((alRW.drop 1).imp fun _ _ => RdAt.same (S10.trans T4)).snoc ⟨p2, rfl, t4 _ _ (t3 _ _ upd_same)⟩
      · rw [List.length_append, List.length_drop, List.length_singleton, eR, List.length_cons]
        rw [eR, List.length_cons] at lenR
        omega
      · intro r hr'
        rcases List.mem_append.mp hr' with h | h
        · exact okR r (List.mem_of_mem_drop h)
        · rw [List.mem_singleton] at h; subst h; exact (by decide : (63 : Nat) < 64)
  clear hT10 hlo S10
  rintro σ H10 ⟨R', vr', lo', rfl, S10, hT10, hlo, alO, lenO, okO⟩
  refine ⟨_, rfl, _, rfl, _, rfl, _, rfl, _, rfl, lk, lo', vt, TK, vr', R', rfl, S10 _ _ hlkW, alTW.imp fun _ _ => TkAt.same S10, okT, lenT, hlo, alO, okO, lenO, fun o2 H11 mo2 s11 => ?_⟩
  have S11 := S10.trans s11
  have hT11 := hT10.same s11
  obtain ⟨ps2, eT2⟩ := hT11.at
  have gV : Same W (wo H11 t.lt) := same_wo S11 gW
  have hloW : wo H11 t.lt lo' = some (.lst vr') := wo_tab eT2 (s11 _ _ hlo) fun _ z => by cases z
  have alOW : Al (RdAt (wo H11 t.lt)) vr' R' := alO.imp fun _ _ ⟨p, e, h1⟩ => ⟨p, e, wo_tab eT2 (s11 _ _ h1) (fun _ z => by cases z)⟩
  refine ⟨n, lk, lo', vt, TK, vr', R', o2, wo H11 t.lt, rfl, wo_same, if_pos rfl, hNW.same gV, gV _ _ hlkW, alTW.imp fun _ _ => TkAt.same gV, okT, lenT, hloW, alOW, okO, lenO, mo2, hT11, fun H12 s12 hT12 => ?_⟩
  refine ⟨true, rfl, itF (by decide) ?_⟩
  have S12 := gV.trans s12
  exact ⟨_, rfl, _, rfl, _, rfl, _, rfl, n, lk, lr, vt, TK, vr, R, o, W, rfl, S12, gW, hNW, hlkW, alTW, okT, lenT, hlrW, alRW, okR, lenR, mo, hT12, fun H13 _ _ => q H13⟩

end
theorem all_mk {K : W.Frag} {h : Heap} {mg : Str → Option Value} (X : K.In h) (G : h.Ns mainGlobals mg)
    {aa : Addr} {ab ac ad ae af ag : Value} {ah ai : Option Addr} {aj : Array (Option Value)}
    {ak : Addr} {al am ao ap aq ar : Value} {as au : Option Addr} {av : Array (Option Value)}
    {aw : Addr} {ax ay az aA aB aC : Value} {aD aE : Option Addr} {aF : Array (Option Value)}
    {aG : Addr} {aH aI aJ aK aL aM : Value} {aN aO : Option Addr} {aP : Array (Option Value)}
    {aQ : Addr} {aR aS aT aU aV aW : Value} {aX aY : Option Addr} {aZ : Array (Option Value)}
    {a0 : Addr} {a1 a2 a3 a4 a5 a6 : Value} {a7 a8 : Option Addr} {a9 : Array (Option Value)}
    {ba : Addr} {bb bc bd be bf bg : Value} {bh bi : Option Addr} {bj : Array (Option Value)}
    {bk : Addr} {bl bm bn bo bp bq : Value} {br bs : Option Addr} {bt : Array (Option Value)}
    {bu : Addr} {bv bw bx bz bA bB : Value} {bC bD : Option Addr} {bE : Array (Option Value)}
    {bF : Addr} {bG bH bI bJ bK bL : Value} {bM bN : Option Addr} {bO : Array (Option Value)}
    {bP : Addr} {bQ bR bS bT bU bV : Value} {bW bX : Option Addr} {bY : Array (Option Value)}
    {bZ : Addr} {b0 b1 b2 b3 b4 b5 : Value} {b6 b7 : Option Addr} {b8 : Array (Option Value)}
    {b9 : Addr} {ca cb cc cd ce cf : Value} {cg ch : Option Addr} {ci : Array (Option Value)}
    {cj : Addr} {ck cl cm cn co cp : Value} {cq cr : Option Addr} {cs : Array (Option Value)}
    {cu : Addr} {cv cw cx cy cz cA : Value} {cB cC : Option Addr} {cD : Array (Option Value)}
    {cE : Addr} {cF cG cH cI cJ cK : Value} {cL cM : Option Addr} {cN : Array (Option Value)}
    {cO : Addr} {cP cQ cR cS cT cU : Value} {cV cW : Option Addr} {cX : Array (Option Value)}
    {cY : Addr} {cZ c0 c1 c2 c3 c4 : Value} {c5 c6 : Option Addr} {c7 : Array (Option Value)}
    {c8 : Addr} {c9 da db dc dd de : Value} {df dg : Option Addr} {dh : Array (Option Value)}
    {di : Addr} {dj dk dl dm dn dp : Value} {dq dr : Option Addr} {ds : Array (Option Value)}
    {dt : Addr} {du dv dw dx dy dz : Value} {dA dB : Option Addr} {dC : Array (Option Value)}
    {dD : Addr} {dE dF dG dH dI dJ : Value} {dK dL : Option Addr} {dM : Array (Option Value)}
    {dN : Addr} {dO dP dQ dR dS dT : Value} {dU dV : Option Addr} {dW : Array (Option Value)}
    {dX : Addr} {dY dZ d0 d1 d2 d3 : Value} {d4 d5 : Option Addr} {d6 : Array (Option Value)}
    {d7 : Addr} {d8 d9 ea eb ec ed : Value} {ee ef : Option Addr} {eg : Array (Option Value)}
    {eh : Addr} {ei ej ek el em en : Value} {eo ep : Option Addr} {eq : Array (Option Value)}
    {er : Addr} {es et eu ev ew ey : Value} {ez eA : Option Addr} {eB : Array (Option Value)}
    {eC : Addr} {eD eE eF eG eH eI : Value} {eJ eK : Option Addr} {eL : Array (Option Value)}
    {eM : Addr} {eN eO eP eQ eR eS : Value} {eT eU : Option Addr} {eV : Array (Option Value)}
    {eW : Addr} {eX eY eZ e1 e2 e3 : Value} {e4 e5 : Option Addr} {e6 : Array (Option Value)}
    {e7 : Addr} {e8 e9 fb fc fd fe : Value} {ff fg : Option Addr} {fh : Array (Option Value)}
    {fi : Addr} {fj fk fl fm fn fo : Value} {fp fq : Option Addr} {fr : Array (Option Value)}
    {fs : Addr} {ft fu fv fw fx fy : Value} {fz fA : Option Addr} {fB : Array (Option Value)}
    {fC : Addr} {fD fE fF fG fH fI : Value} {fJ fK : Option Addr} {fL : Array (Option Value)}
    {fM : Addr} {fN fO fP fQ fR fS : Value} {fT fU : Option Addr} {fV : Array (Option Value)}
    {fW : Addr} {fX fY fZ f0 f1 f2 : Value} {f3 f4 : Option Addr} {f5 : Array (Option Value)}
    {f6 : Addr} {f7 f8 f9 ga gb gc : Value} {gd gf : Option Addr} {gg : Array (Option Value)}
    {gh : Addr} {gi gj gk gl gm gn : Value} {go gp : Option Addr} {gq : Array (Option Value)}
    {gr : Addr} {gs gu gv gw gx gy : Value} {gz gA : Option Addr} {gB : Array (Option Value)}
    {gC : Addr} {gD gE gF gG gH gI : Value} {gJ gK : Option Addr} {gL : Array (Option Value)}
    {gM : Addr} {gN gO gP gQ gR gS : Value} {gT gU : Option Addr} {gV : Array (Option Value)}
    {gW : Addr} {gX gY gZ g0 g1 g2 : Value} {g3 g4 : Option Addr} {g5 : Array (Option Value)}
    {g6 : Addr} {g7 g8 g9 hb hc hd : Value} {he hf : Option Addr} {hg : Array (Option Value)}
    {hh : Addr} {hi hj hk hm hn ho : Value} {hp hq : Option Addr} {hr : Array (Option Value)}
    {hs : Addr} {ht hu hv hx hy hz : Value} {hA hD : Option Addr} {hE : Array (Option Value)}
    {hF : Addr} {hG hH hI hJ hK hL : Value} {hM hN : Option Addr} {hO : Array (Option Value)}
    {hP : Addr} {hQ hR hU hV hW hX : Value} {hY hZ : Option Addr} {h0 : Array (Option Value)}
    {h1 : Addr} {h2 h3 h4 h5 h6 h7 : Value} {h8 h9 : Option Addr} {ia : Array (Option Value)}
    {ib : Addr} {ic ie ig ih ii ij : Value} {ik il : Option Addr} {im : Array (Option Value)}
    {io : Addr} {ip iq ir it iu iv : Value} {iw ix : Option Addr} {iy : Array (Option Value)}
    {iz : Addr}
    {iA : Addr}
    {iB : Addr}
    {iC : Addr}
    {iD : Addr}
    {iE : Addr}
    {iF : Addr}
    {iG : Addr}
    {iH iI : Addr} {iJ : Value} {iK : Option Addr} {iL : Array Value} {iM : Array (Option Value)}
    {iN : Tok}
    {iO : Tok}
    {iP : Addr} {iQ : Option Addr} {iR : Nat} {iS : Array (Option Value)} {iT : Tok}
    {iU : Tok}
    {iV : Tok}
    {iW : Tok}
    {iX : Tok}
    (iY : W.nsIn K mainGlobals "_wall" = some (some (.ref aa)))
    (iZ : K.lookup aa = some ⟨ab, ah, .func (W.fnOf "_wall" "_wall" (defArgs s_wall) (defBody s_wall) (defScope s_wall) .none ac ad ae ai af ag), aj⟩)
    (i0 : W.codeIn K af "_wall" = true)
    (i1 : W.keepIn K (.ref aa) = true)
    (i2 : W.nsIn K mainGlobals "is_any_number" = some (some (.ref ak)))
    (i3 : K.lookup ak = some ⟨al, as, .func (W.fnOf "is_any_number" "is_any_number" (defArgs s_is_any_number) (defBody s_is_any_number) (defScope s_is_any_number) .none am ao ap au aq ar), av⟩)
    (i4 : W.codeIn K aq "is_any_number" = true)
    (i5 : W.keepIn K (.ref ak) = true)
    (i6 : W.nsIn K mainGlobals "is_number" = some (some (.ref aw)))
    (i7 : K.lookup aw = some ⟨ax, aD, .func (W.fnOf "is_number" "is_number" (defArgs s_is_number) (defBody s_is_number) (defScope s_is_number) .none ay az aA aE aB aC), aF⟩)
    (i8 : W.codeIn K aB "is_number" = true)
    (i9 : W.keepIn K (.ref aw) = true)
    (ja : W.nsIn K mainGlobals "check_number" = some (some (.ref aG)))
    (jb : K.lookup aG = some ⟨aH, aN, .func (W.fnOf "check_number" "check_number" (defArgs s_check_number) (defBody s_check_number) (defScope s_check_number) .none aI aJ aK aO aL aM), aP⟩)
    (jc : W.codeIn K aL "check_number" = true)
    (jd : W.keepIn K (.ref aG) = true)
    (je : W.nsIn K mainGlobals "are_rising" = some (some (.ref aQ)))
    (jf : K.lookup aQ = some ⟨aR, aX, .func (W.fnOf "are_rising" "are_rising" (defArgs s_are_rising) (defBody s_are_rising) (defScope s_are_rising) .none aS aT aU aY aV aW), aZ⟩)
    (jg : W.codeIn K aV "are_rising" = true)
    (jh : W.keepIn K (.ref aQ) = true)
    (ji : W.nsIn K mainGlobals "is_name" = some (some (.ref a0)))
    (jj : K.lookup a0 = some ⟨a1, a7, .func (W.fnOf "is_name" "is_name" (defArgs s_is_name) (defBody s_is_name) (defScope s_is_name) .none a2 a3 a4 a8 a5 a6), a9⟩)
    (jk : W.codeIn K a5 "is_name" = true)
    (jl : W.keepIn K (.ref a0) = true)
    (jm : W.nsIn K mainGlobals "is_known" = some (some (.ref ba)))
    (jn : K.lookup ba = some ⟨bb, bh, .func (W.fnOf "is_known" "is_known" (defArgs s_is_known) (defBody s_is_known) (defScope s_is_known) .none bc bd be bi bf bg), bj⟩)
    (jo : W.codeIn K bf "is_known" = true)
    (jp : W.keepIn K (.ref ba) = true)
    (jq : W.nsIn K mainGlobals "zone_bits" = some (some (.ref bk)))
    (jr : K.lookup bk = some ⟨bl, br, .func (W.fnOf "zone_bits" "zone_bits" (defArgs s_zone_bits) (defBody s_zone_bits) (defScope s_zone_bits) .none bm bn bo bs bp bq), bt⟩)
    (js : W.codeIn K bp "zone_bits" = true)
    (jt : W.keepIn K (.ref bk) = true)
    (ju : W.nsIn K mainGlobals "fits" = some (some (.ref bu)))
    (jv : K.lookup bu = some ⟨bv, bC, .func (W.fnOf "fits" "fits" (defArgs s_fits) (defBody s_fits) (defScope s_fits) .none bw bx bz bD bA bB), bE⟩)
    (jw : W.codeIn K bA "fits" = true)
    (jx : W.keepIn K (.ref bu) = true)
    (jy : W.nsIn K mainGlobals "least_tickets" = some (some (.ref bF)))
    (jz : K.lookup bF = some ⟨bG, bM, .func (W.fnOf "least_tickets" "least_tickets" (defArgs s_least_tickets) (defBody s_least_tickets) (defScope s_least_tickets) .none bH bI bJ bN bK bL), bO⟩)
    (jA : W.codeIn K bK "least_tickets" = true)
    (jB : W.keepIn K (.ref bF) = true)
    (jC : W.nsIn K mainGlobals "held_behind" = some (some (.ref bP)))
    (jD : K.lookup bP = some ⟨bQ, bW, .func (W.fnOf "held_behind" "held_behind" (defArgs s_held_behind) (defBody s_held_behind) (defScope s_held_behind) .none bR bS bT bX bU bV), bY⟩)
    (jE : W.codeIn K bU "held_behind" = true)
    (jF : W.keepIn K (.ref bP) = true)
    (jG : W.nsIn K mainGlobals "price_for" = some (some (.ref bZ)))
    (jH : K.lookup bZ = some ⟨b0, b6, .func (W.fnOf "price_for" "price_for" (defArgs s_price_for) (defBody s_price_for) (defScope s_price_for) .none b1 b2 b3 b7 b4 b5), b8⟩)
    (jI : W.codeIn K b4 "price_for" = true)
    (jJ : W.keepIn K (.ref bZ) = true)
    (jK : W.nsIn K mainGlobals "ways_behind" = some (some (.ref b9)))
    (jL : K.lookup b9 = some ⟨ca, cg, .func (W.fnOf "ways_behind" "ways_behind" (defArgs s_ways_behind) (defBody s_ways_behind) (defScope s_ways_behind) .none cb cc cd ch ce cf), ci⟩)
    (jM : W.codeIn K ce "ways_behind" = true)
    (jN : W.keepIn K (.ref b9) = true)
    (jO : W.nsIn K mainGlobals "check_new" = some (some (.ref cj)))
    (jP : K.lookup cj = some ⟨ck, cq, .func (W.fnOf "check_new" "check_new" (defArgs s_check_new) (defBody s_check_new) (defScope s_check_new) .none cl cm cn cr co cp), cs⟩)
    (jQ : W.codeIn K co "check_new" = true)
    (jR : W.keepIn K (.ref cj) = true)
    (jS : W.nsIn K mainGlobals "check_room" = some (some (.ref cu)))
    (jT : K.lookup cu = some ⟨cv, cB, .func (W.fnOf "check_room" "check_room" (defArgs s_check_room) (defBody s_check_room) (defScope s_check_room) .none cw cx cy cC cz cA), cD⟩)
    (jU : W.codeIn K cz "check_room" = true)
    (jV : W.keepIn K (.ref cu) = true)
    (jW : W.nsIn K mainGlobals "_law_draw" = some (some (.ref cE)))
    (jX : K.lookup cE = some ⟨cF, cL, .func (W.fnOf "_law_draw" "_law_draw" (defArgs s_law_draw) (defBody s_law_draw) (defScope s_law_draw) .none cG cH cI cM cJ cK), cN⟩)
    (jY : W.codeIn K cJ "_law_draw" = true)
    (jZ : W.keepIn K (.ref cE) = true)
    (j0 : W.nsIn K mainGlobals "_law_whole" = some (some (.ref cO)))
    (j1 : K.lookup cO = some ⟨cP, cV, .func (W.fnOf "_law_whole" "_law_whole" (defArgs s_law_whole) (defBody s_law_whole) (defScope s_law_whole) .none cQ cR cS cW cT cU), cX⟩)
    (j2 : W.codeIn K cT "_law_whole" = true)
    (j3 : W.keepIn K (.ref cO) = true)
    (j4 : W.nsIn K mainGlobals "_law_names" = some (some (.ref cY)))
    (j5 : K.lookup cY = some ⟨cZ, c5, .func (W.fnOf "_law_names" "_law_names" (defArgs s_law_names) (defBody s_law_names) (defScope s_law_names) .none c0 c1 c2 c6 c3 c4), c7⟩)
    (j6 : W.codeIn K c3 "_law_names" = true)
    (j7 : W.keepIn K (.ref cY) = true)
    (j8 : W.nsIn K mainGlobals "_law_zones" = some (some (.ref c8)))
    (j9 : K.lookup c8 = some ⟨c9, df, .func (W.fnOf "_law_zones" "_law_zones" (defArgs s_law_zones) (defBody s_law_zones) (defScope s_law_zones) .none da db dc dg dd de), dh⟩)
    (ka : W.codeIn K dd "_law_zones" = true)
    (kc : W.keepIn K (.ref c8) = true)
    (kd : W.nsIn K mainGlobals "_law_tickets" = some (some (.ref di)))
    (ke : K.lookup di = some ⟨dj, dq, .func (W.fnOf "_law_tickets" "_law_tickets" (defArgs s_law_tickets) (defBody s_law_tickets) (defScope s_law_tickets) .none dk dl dm dr dn dp), ds⟩)
    (kf : W.codeIn K dn "_law_tickets" = true)
    (kg : W.keepIn K (.ref di) = true)
    (kh : W.nsIn K mainGlobals "_law_net" = some (some (.ref dt)))
    (ki : K.lookup dt = some ⟨du, dA, .func (W.fnOf "_law_net" "_law_net" (defArgs s_law_net) (defBody s_law_net) (defScope s_law_net) .none dv dw dx dB dy dz), dC⟩)
    (kj : W.codeIn K dy "_law_net" = true)
    (kk : W.keepIn K (.ref dt) = true)
    (kl : W.nsIn K mainGlobals "_law_rides" = some (some (.ref dD)))
    (km : K.lookup dD = some ⟨dE, dK, .func (W.fnOf "_law_rides" "_law_rides" (defArgs s_law_rides) (defBody s_law_rides) (defScope s_law_rides) .none dF dG dH dL dI dJ), dM⟩)
    (kn : W.codeIn K dI "_law_rides" = true)
    (ko : W.keepIn K (.ref dD) = true)
    (kq : W.nsIn K mainGlobals "_law_edged" = some (some (.ref dN)))
    (kr : K.lookup dN = some ⟨dO, dU, .func (W.fnOf "_law_edged" "_law_edged" (defArgs s_law_edged) (defBody s_law_edged) (defScope s_law_edged) .none dP dQ dR dV dS dT), dW⟩)
    (ks : W.codeIn K dS "_law_edged" = true)
    (kt : W.keepIn K (.ref dN) = true)
    (ku : W.nsIn K mainGlobals "_law_crossed" = some (some (.ref dX)))
    (kv : K.lookup dX = some ⟨dY, d4, .func (W.fnOf "_law_crossed" "_law_crossed" (defArgs s_law_crossed) (defBody s_law_crossed) (defScope s_law_crossed) .none dZ d0 d1 d5 d2 d3), d6⟩)
    (kw : W.codeIn K d2 "_law_crossed" = true)
    (kx : W.keepIn K (.ref dX) = true)
    (ky : W.nsIn K mainGlobals "_law_spent" = some (some (.ref d7)))
    (kz : K.lookup d7 = some ⟨d8, ee, .func (W.fnOf "_law_spent" "_law_spent" (defArgs s_law_spent) (defBody s_law_spent) (defScope s_law_spent) .none d9 ea eb ef ec ed), eg⟩)
    (kA : W.codeIn K ec "_law_spent" = true)
    (kB : W.keepIn K (.ref d7) = true)
    (kC : W.nsIn K mainGlobals "_law_least" = some (some (.ref eh)))
    (kD : K.lookup eh = some ⟨ei, eo, .func (W.fnOf "_law_least" "_law_least" (defArgs s_law_least) (defBody s_law_least) (defScope s_law_least) .none ej ek el ep em en), eq⟩)
    (kE : W.codeIn K em "_law_least" = true)
    (kF : W.keepIn K (.ref eh) = true)
    (kG : W.nsIn K mainGlobals "_law_good" = some (some (.ref er)))
    (kH : K.lookup er = some ⟨es, ez, .func (W.fnOf "_law_good" "_law_good" (defArgs s_law_good) (defBody s_law_good) (defScope s_law_good) .none et eu ev eA ew ey), eB⟩)
    (kI : W.codeIn K ew "_law_good" = true)
    (kJ : W.keepIn K (.ref er) = true)
    (kK : W.nsIn K mainGlobals "law" = some (some (.ref eC)))
    (kL : K.lookup eC = some ⟨eD, eJ, .func (W.fnOf "law" "law" (defArgs s_law) (defBody s_law) (defScope s_law) .none eE eF eG eK eH eI), eL⟩)
    (kM : W.codeIn K eH "law" = true)
    (kN : W.keepIn K (.ref eC) = true)
    (kO : W.nsIn K mainGlobals "RoadError" = some (some (.ref iz)))
    (kP : W.nsIn K mainGlobals "TooMany" = some (some (.ref iA)))
    (kQ : W.nsIn K mainGlobals "BadName" = some (some (.ref iB)))
    (kR : W.nsIn K mainGlobals "Twice" = some (some (.ref iC)))
    (kS : W.nsIn K mainGlobals "NoStop" = some (some (.ref iD)))
    (kT : W.nsIn K mainGlobals "NoTicket" = some (some (.ref iE)))
    (kU : W.nsIn K mainGlobals "BadNumber" = some (some (.ref iF)))
    (kW : W.nsIn K mainGlobals "Net" = some (some (.ref iG)))
    (kX : W.findIn K (.ref iG) "__init__" = some (some (.ref eM)))
    (kY : W.isFn K (.ref eM) = true)
    (kZ : K.lookup eM = some ⟨eN, eT, .func (W.fnOf "__init__" "Net.__init__" (defArgs s_Net_init) (defBody s_Net_init) (defScope s_Net_init) .none eO eP eQ eU eR eS), eV⟩)
    (k0 : W.codeIn K eR "Net.__init__" = true)
    (k1 : W.keepIn K (.ref eM) = true)
    (k2 : W.findIn K (.ref iG) "copied" = some (some (.ref eW)))
    (k3 : W.isFn K (.ref eW) = true)
    (k4 : K.lookup eW = some ⟨eX, e4, .func (W.fnOf "copied" "Net.copied" (defArgs s_Net_copied) (defBody s_Net_copied) (defScope s_Net_copied) .none eY eZ e1 e5 e2 e3), e6⟩)
    (k5 : W.codeIn K e2 "Net.copied" = true)
    (k6 : W.keepIn K (.ref eW) = true)
    (k7 : W.findIn K (.ref iG) "add_stop" = some (some (.ref e7)))
    (k8 : W.isFn K (.ref e7) = true)
    (k9 : K.lookup e7 = some ⟨e8, ff, .func (W.fnOf "add_stop" "Net.add_stop" (defArgs s_Net_add_stop) (defBody s_Net_add_stop) (defScope s_Net_add_stop) .none e9 fb fc fg fd fe), fh⟩)
    (la : W.codeIn K fd "Net.add_stop" = true)
    (lb : W.keepIn K (.ref e7) = true)
    (ld : W.findIn K (.ref iG) "add_walk" = some (some (.ref fi)))
    (lf : W.isFn K (.ref fi) = true)
    (lg : K.lookup fi = some ⟨fj, fp, .func (W.fnOf "add_walk" "Net.add_walk" (defArgs s_Net_add_walk) (defBody s_Net_add_walk) (defScope s_Net_add_walk) .none fk fl fm fq fn fo), fr⟩)
    (lh : W.codeIn K fn "Net.add_walk" = true)
    (li : W.keepIn K (.ref fi) = true)
    (lj : W.findIn K (.ref iG) "add_rule" = some (some (.ref fs)))
    (lk : W.isFn K (.ref fs) = true)
    (ll : K.lookup fs = some ⟨ft, fz, .func (W.fnOf "add_rule" "Net.add_rule" (defArgs s_Net_add_rule) (defBody s_Net_add_rule) (defScope s_Net_add_rule) .none fu fv fw fA fx fy), fB⟩)
    (lm : W.codeIn K fx "Net.add_rule" = true)
    (ln : W.keepIn K (.ref fs) = true)
    (lp : W.findIn K (.ref iG) "add_ticket" = some (some (.ref fC)))
    (lq : W.isFn K (.ref fC) = true)
    (lr : K.lookup fC = some ⟨fD, fJ, .func (W.fnOf "add_ticket" "Net.add_ticket" (defArgs s_Net_add_ticket) (defBody s_Net_add_ticket) (defScope s_Net_add_ticket) .none fE fF fG fK fH fI), fL⟩)
    (ls : W.codeIn K fH "Net.add_ticket" = true)
    (lu : W.keepIn K (.ref fC) = true)
    (lv : W.findIn K (.ref iG) "add_trip" = some (some (.ref fM)))
    (lw : W.isFn K (.ref fM) = true)
    (lx : K.lookup fM = some ⟨fN, fT, .func (W.fnOf "add_trip" "Net.add_trip" (defArgs s_Net_add_trip) (defBody s_Net_add_trip) (defScope s_Net_add_trip) .none fO fP fQ fU fR fS), fV⟩)
    (ly : W.codeIn K fR "Net.add_trip" = true)
    (lz : W.keepIn K (.ref fM) = true)
    (lA : W.findIn K (.ref iG) "check_stop" = some (some (.ref fW)))
    (lB : W.isFn K (.ref fW) = true)
    (lC : K.lookup fW = some ⟨fX, f3, .func (W.fnOf "check_stop" "Net.check_stop" (defArgs s_Net_check_stop) (defBody s_Net_check_stop) (defScope s_Net_check_stop) .none fY fZ f0 f4 f1 f2), f5⟩)
    (lD : W.codeIn K f1 "Net.check_stop" = true)
    (lE : W.keepIn K (.ref fW) = true)
    (lF : W.findIn K (.ref iG) "check_trip" = some (some (.ref f6)))
    (lG : W.isFn K (.ref f6) = true)
    (lH : K.lookup f6 = some ⟨f7, gd, .func (W.fnOf "check_trip" "Net.check_trip" (defArgs s_Net_check_trip) (defBody s_Net_check_trip) (defScope s_Net_check_trip) .none f8 f9 ga gf gb gc), gg⟩)
    (lI : W.codeIn K gb "Net.check_trip" = true)
    (lJ : W.keepIn K (.ref f6) = true)
    (lK : W.findIn K (.ref iG) "check_call" = some (some (.ref gh)))
    (lL : W.isFn K (.ref gh) = true)
    (lM : K.lookup gh = some ⟨gi, go, .func (W.fnOf "check_call" "Net.check_call" (defArgs s_Net_check_call) (defBody s_Net_check_call) (defScope s_Net_check_call) .none gj gk gl gp gm gn), gq⟩)
    (lN : W.codeIn K gm "Net.check_call" = true)
    (lO : W.keepIn K (.ref gh) = true)
    (lP : W.findIn K (.ref iG) "has_walk" = some (some (.ref gr)))
    (lQ : W.isFn K (.ref gr) = true)
    (lR : K.lookup gr = some ⟨gs, gz, .func (W.fnOf "has_walk" "Net.has_walk" (defArgs s_Net_has_walk) (defBody s_Net_has_walk) (defScope s_Net_has_walk) .none gu gv gw gA gx gy), gB⟩)
    (lS : W.codeIn K gx "Net.has_walk" = true)
    (lT : W.keepIn K (.ref gr) = true)
    (lU : W.findIn K (.ref iG) "stops" = some (some (.ref gC)))
    (lV : W.isFn K (.ref gC) = true)
    (lW : K.lookup gC = some ⟨gD, gJ, .func (W.fnOf "stops" "Net.stops" (defArgs s_Net_stops) (defBody s_Net_stops) (defScope s_Net_stops) .none gE gF gG gK gH gI), gL⟩)
    (lX : W.codeIn K gH "Net.stops" = true)
    (lY : W.keepIn K (.ref gC) = true)
    (lZ : W.findIn K (.ref iG) "walks" = some (some (.ref gM)))
    (l0 : W.isFn K (.ref gM) = true)
    (l1 : K.lookup gM = some ⟨gN, gT, .func (W.fnOf "walks" "Net.walks" (defArgs s_Net_walks) (defBody s_Net_walks) (defScope s_Net_walks) .none gO gP gQ gU gR gS), gV⟩)
    (l2 : W.codeIn K gR "Net.walks" = true)
    (l3 : W.keepIn K (.ref gM) = true)
    (l4 : W.findIn K (.ref iG) "rules" = some (some (.ref gW)))
    (l5 : W.isFn K (.ref gW) = true)
    (l6 : K.lookup gW = some ⟨gX, g3, .func (W.fnOf "rules" "Net.rules" (defArgs s_Net_rules) (defBody s_Net_rules) (defScope s_Net_rules) .none gY gZ g0 g4 g1 g2), g5⟩)
    (l7 : W.codeIn K g1 "Net.rules" = true)
    (l8 : W.keepIn K (.ref gW) = true)
    (l9 : W.findIn K (.ref iG) "tickets" = some (some (.ref g6)))
    (ma : W.isFn K (.ref g6) = true)
    (mb : K.lookup g6 = some ⟨g7, he, .func (W.fnOf "tickets" "Net.tickets" (defArgs s_Net_tickets) (defBody s_Net_tickets) (defScope s_Net_tickets) .none g8 g9 hb hf hc hd), hg⟩)
    (mc : W.codeIn K hc "Net.tickets" = true)
    (md : W.keepIn K (.ref g6) = true)
    (me : W.findIn K (.ref iG) "trips" = some (some (.ref hh)))
    (mf : W.isFn K (.ref hh) = true)
    (mh : K.lookup hh = some ⟨hi, hp, .func (W.fnOf "trips" "Net.trips" (defArgs s_Net_trips) (defBody s_Net_trips) (defScope s_Net_trips) .none hj hk hm hq hn ho), hr⟩)
    (mi : W.codeIn K hn "Net.trips" = true)
    (mj : W.keepIn K (.ref hh) = true)
    (mk : W.findIn K (.ref iG) "zone" = some (some (.ref hs)))
    (ml : W.isFn K (.ref hs) = true)
    (mm : K.lookup hs = some ⟨ht, hA, .func (W.fnOf "zone" "Net.zone" (defArgs s_Net_zone) (defBody s_Net_zone) (defScope s_Net_zone) .none hu hv hx hD hy hz), hE⟩)
    (mn : W.codeIn K hy "Net.zone" = true)
    (mo : W.keepIn K (.ref hs) = true)
    (mp : W.findIn K (.ref iG) "change" = some (some (.ref hF)))
    (mq : W.isFn K (.ref hF) = true)
    (mr : K.lookup hF = some ⟨hG, hM, .func (W.fnOf "change" "Net.change" (defArgs s_Net_change) (defBody s_Net_change) (defScope s_Net_change) .none hH hI hJ hN hK hL), hO⟩)
    (ms : W.codeIn K hK "Net.change" = true)
    (mt : W.keepIn K (.ref hF) = true)
    (mu : W.findIn K (.ref iG) "rule" = some (some (.ref hP)))
    (mv : W.isFn K (.ref hP) = true)
    (mw : K.lookup hP = some ⟨hQ, hY, .func (W.fnOf "rule" "Net.rule" (defArgs s_Net_rule) (defBody s_Net_rule) (defScope s_Net_rule) .none hR hU hV hZ hW hX), h0⟩)
    (mx : W.codeIn K hW "Net.rule" = true)
    (my : W.keepIn K (.ref hP) = true)
    (mz : W.findIn K (.ref iG) "ticket" = some (some (.ref h1)))
    (mA : W.isFn K (.ref h1) = true)
    (mB : K.lookup h1 = some ⟨h2, h8, .func (W.fnOf "ticket" "Net.ticket" (defArgs s_Net_ticket) (defBody s_Net_ticket) (defScope s_Net_ticket) .none h3 h4 h5 h9 h6 h7), ia⟩)
    (mC : W.codeIn K h6 "Net.ticket" = true)
    (mD : W.keepIn K (.ref h1) = true)
    (mE : W.findIn K (.ref iG) "rule_name" = some (some (.ref ib)))
    (mF : W.isFn K (.ref ib) = true)
    (mG : K.lookup ib = some ⟨ic, ik, .func (W.fnOf "rule_name" "Net.rule_name" (defArgs s_Net_rule_name) (defBody s_Net_rule_name) (defScope s_Net_rule_name) .none ie ig ih il ii ij), im⟩)
    (mH : W.codeIn K ii "Net.rule_name" = true)
    (mI : W.keepIn K (.ref ib) = true)
    (mJ : W.findIn K (.ref iG) "calls" = some (some (.ref io)))
    (mK : W.isFn K (.ref io) = true)
    (mL : K.lookup io = some ⟨ip, iw, .func (W.fnOf "calls" "Net.calls" (defArgs s_Net_calls) (defBody s_Net_calls) (defScope s_Net_calls) .none iq ir it ix iu iv), iy⟩)
    (mM : W.codeIn K iu "Net.calls" = true)
    (mN : W.keepIn K (.ref io) = true)
    (mO : W.plainGet K iG Str.empty = true)
    (mP : W.hasDictIn K iG = true)
    (mQ : W.plainOver K iG = true)
    (mR : W.findIn K (.ref iG) "__setattr__" = some (some (.builtin "object.__setattr__")))
    (mS : W.makesIn K iG = true)
    (mT : W.keepIn K (.ref iG) = true)
    (mU : W.findIn K (.ref iG) "stop_rows" = some none)
    (mV : W.findIn K (.ref iG) "walk_rows" = some none)
    (mW : W.findIn K (.ref iG) "rule_rows" = some none)
    (mX : W.findIn K (.ref iG) "ticket_rows" = some none)
    (mY : W.findIn K (.ref iG) "trip_rows" = some none)
    (mZ : bK = .ref iH)
    (m0 : K.lookup iH = some ⟨iJ, iK, .fields iL, iM⟩)
    (m1 : (iL[11]? : Option Value) = some (.ref iI))
    (m2 : K.lookup iI = none)
    (m3 : W.nsIn K mainGlobals "all" = some none)
    (m4 : W.nsIn K mainGlobals "bool" = some none)
    (m5 : W.nsIn K mainGlobals "enumerate" = some none)
    (m6 : W.nsIn K mainGlobals "int" = some none)
    (m7 : W.nsIn K mainGlobals "isinstance" = some none)
    (m8 : W.nsIn K mainGlobals "len" = some none)
    (m9 : W.nsIn K mainGlobals "list" = some none)
    (na : W.nsIn K mainGlobals "max" = some none)
    (nc : W.nsIn K mainGlobals "min" = some none)
    (nd : W.nsIn K mainGlobals "range" = some none)
    (nf : W.nsIn K mainGlobals "str" = some none)
    (ng : W.nsIn K mainGlobals "tuple" = some none)
    (nh : W.nsIn K mainGlobals "zip" = some none)
    (ni : W.nsIn K mainGlobals "LETTERS" = some (some (.str (Str.ofString "abcdefghijklmnopqrstuvwxyz") iN)))
    (nj : W.nsIn K mainGlobals "MOST_LETTERS" = some (some (.int 8 iO)))
    (nk : W.nsIn K mainGlobals "NOTHING_HELD" = some (some (.ref iP)))
    (nl : K.lookup iP = some ⟨.type "tuple", iQ, .seq (List.toArray [.none, .int (-1) iT]) iR, iS⟩)
    (nm : W.nsIn K mainGlobals "MOST_TICKETS" = some (some (.int 3 iU)))
    (nn : W.nsIn K mainGlobals "LAST_ZONE" = some (some (.int 6 iV)))
    (no : W.nsIn K mainGlobals "MOST_PRICE" = some (some (.int 10000 iW)))
    (np : W.nsIn K mainGlobals "MOST_LASTING" = some (some (.int 1440 iX)))
    : ∃ t : Adr, Tab K mg t := by
  have nq := fun_mk (st := s_wall) iZ i0 i1
  have nr := nq.binds (ps := ["k"]) fun _ _ _ _ _ _ us hl => match us, hl with | [_], _ => rfl
  have nt := fun_mk (st := s_is_any_number) i3 i4 i5
  have nu := nt.binds (ps := ["value"]) fun _ _ _ _ _ _ us hl => match us, hl with | [_], _ => rfl
  have nv := fun_mk (st := s_is_number) i7 i8 i9
  have nw := nv.binds (ps := ["value", "least", "most"]) fun _ _ _ _ _ _ us hl => match us, hl with | [_, _, _], _ => rfl
  have nx := fun_mk (st := s_check_number) jb jc jd
  have ny := nx.binds (ps := ["value", "least", "most"]) fun _ _ _ _ _ _ us hl => match us, hl with | [_, _, _], _ => rfl
  have nz := fun_mk (st := s_are_rising) jf jg jh
  have nA := nz.binds (ps := ["values", "longest", "least", "most"]) fun _ _ _ _ _ _ us hl => match us, hl with | [_, _, _, _], _ => rfl
  have nB := fun_mk (st := s_is_name) jj jk jl
  have nC := nB.binds (ps := ["value"]) fun _ _ _ _ _ _ us hl => match us, hl with | [_], _ => rfl
  have nD := fun_mk (st := s_is_known) jn jo jp
  have nE := nD.binds (ps := ["value", "named"]) fun _ _ _ _ _ _ us hl => match us, hl with | [_, _], _ => rfl
  have nF := fun_mk (st := s_zone_bits) jr js jt
  have nG := nF.binds (ps := ["zones"]) fun _ _ _ _ _ _ us hl => match us, hl with | [_], _ => rfl
  have nH := fun_mk (st := s_fits) jv jw jx
  have nI := nH.binds (ps := ["net", "ticket", "bits"]) fun _ _ _ _ _ _ us hl => match us, hl with | [_, _, _], _ => rfl
  have nJ := fun_mk (st := s_least_tickets) jz jA jB
  have nK := nJ.binds (ps := ["net", "rides"]) fun _ _ _ _ _ _ us hl => match us, hl with | [_, _], _ => rfl
  have nL := fun_mk (st := s_held_behind) jD jE jF
  have nM := nL.binds (ps := ["net", "held", "ride", "name"]) fun _ _ _ _ _ _ us hl => match us, hl with | [_, _, _, _], _ => rfl
  have nN := fun_mk (st := s_price_for) jH jI jJ
  have nO := nN.binds (ps := ["net", "name"]) fun _ _ _ _ _ _ us hl => match us, hl with | [_, _], _ => rfl
  have nP := fun_mk (st := s_ways_behind) jL jM jN
  have nQ := nP.binds (ps := ["net", "ways", "ride"]) fun _ _ _ _ _ _ us hl => match us, hl with | [_, _, _], _ => rfl
  have nR := fun_mk (st := s_check_new) jP jQ jR
  have nS := nR.binds (ps := ["name", "named"]) fun _ _ _ _ _ _ us hl => match us, hl with | [_, _], _ => rfl
  have nT := fun_mk (st := s_check_room) jT jU jV
  have nU := nT.binds (ps := ["kept", "most"]) fun _ _ _ _ _ _ us hl => match us, hl with | [_, _], _ => rfl
  have nV := fun_mk (st := s_law_draw) jX jY jZ
  have nW := nV.binds (ps := ["_law_script", "_law_k"]) fun _ _ _ _ _ _ us hl => match us, hl with | [_, _], _ => rfl
  have nX := fun_mk (st := s_law_whole) j1 j2 j3
  have nY := nX.binds (ps := ["_law_found"]) fun _ _ _ _ _ _ us hl => match us, hl with | [_], _ => rfl
  have nZ := fun_mk (st := s_law_names) j5 j6 j7
  have n0 := nZ.binds (ps := ["_law_script", "_law_k", "_law_many"]) fun _ _ _ _ _ _ us hl => match us, hl with | [_, _, _], _ => rfl
  have n1 := fun_mk (st := s_law_zones) j9 ka kc
  have n2 := n1.binds (ps := ["_law_bits"]) fun _ _ _ _ _ _ us hl => match us, hl with | [_], _ => rfl
  have n3 := fun_mk (st := s_law_tickets) ke kf kg
  have n4 := n3.binds (ps := ["_law_script", "_law_k", "_law_many"]) fun _ _ _ _ _ _ us hl => match us, hl with | [_, _, _], _ => rfl
  have n5 := fun_mk (st := s_law_net) ki kj kk
  have n6 := n5.binds (ps := ["_law_tickets_here"]) fun _ _ _ _ _ _ us hl => match us, hl with | [_], _ => rfl
  have n7 := fun_mk (st := s_law_rides) km kn ko
  have n8 := n7.binds (ps := ["_law_script", "_law_k", "_law_many"]) fun _ _ _ _ _ _ us hl => match us, hl with | [_, _, _], _ => rfl
  have n9 := fun_mk (st := s_law_edged) kr ks kt
  have oa := n9.binds (ps := ["_law_script", "_law_tickets_here", "_law_rides_here"]) fun _ _ _ _ _ _ us hl => match us, hl with | [_, _, _], _ => rfl
  have ob := fun_mk (st := s_law_crossed) kv kw kx
  have oe := ob.binds (ps := ["_law_script"]) fun _ _ _ _ _ _ us hl => match us, hl with | [_], _ => rfl
  have og := fun_mk (st := s_law_spent) kz kA kB
  have oh := og.binds (ps := ["_law_tickets_here", "_law_rides_here", "_law_bought"]) fun _ _ _ _ _ _ us hl => match us, hl with | [_, _, _], _ => rfl
  have oi := fun_mk (st := s_law_least) kD kE kF
  have oj := oi.binds (ps := ["_law_tickets_here", "_law_rides_here"]) fun _ _ _ _ _ _ us hl => match us, hl with | [_, _], _ => rfl
  have ok := fun_mk (st := s_law_good) kH kI kJ
  have ol := ok.binds (ps := ["_law_net_here", "_law_tickets_here", "_law_rides_here", "_law_best"]) fun _ _ _ _ _ _ us hl => match us, hl with | [_, _, _, _], _ => rfl
  have om := fun_mk (st := s_law) kL kM kN
  have on := om.binds (ps := ["_law_script"]) fun _ _ _ _ _ _ us hl => match us, hl with | [_], _ => rfl
  have oo := fun_mk (st := s_Net_init) kZ k0 k1
  have op := oo.binds (ps := ["self"]) fun _ _ _ _ _ _ us hl => match us, hl with | [_], _ => rfl
  have oq := fun_mk (st := s_Net_copied) k4 k5 k6
  have os := oq.binds (ps := ["self"]) fun _ _ _ _ _ _ us hl => match us, hl with | [_], _ => rfl
  have ot := fun_mk (st := s_Net_add_stop) k9 la lb
  have ou := ot.binds (ps := ["self", "name", "zone", "change"]) fun _ _ _ _ _ _ us hl => match us, hl with | [_, _, _, _], _ => rfl
  have ov := fun_mk (st := s_Net_add_walk) lg lh li
  have ow := ov.binds (ps := ["self", "one", "other", "minutes"]) fun _ _ _ _ _ _ us hl => match us, hl with | [_, _, _, _], _ => rfl
  have ox := fun_mk (st := s_Net_add_rule) ll lm ln
  have oy := ox.binds (ps := ["self", "name", "rule"]) fun _ _ _ _ _ _ us hl => match us, hl with | [_, _, _], _ => rfl
  have oz := fun_mk (st := s_Net_add_ticket) lr ls lu
  have oA := oz.binds (ps := ["self", "name", "price", "lasts", "zones"]) fun _ _ _ _ _ _ us hl => match us, hl with | [_, _, _, _, _], _ => rfl
  have oB := fun_mk (st := s_Net_add_trip) lx ly lz
  have oC := oB.binds (ps := ["self", "name", "rule", "calls"]) fun _ _ _ _ _ _ us hl => match us, hl with | [_, _, _, _], _ => rfl
  have oD := fun_mk (st := s_Net_check_stop) lC lD lE
  have oE := oD.binds (ps := ["self", "name"]) fun _ _ _ _ _ _ us hl => match us, hl with | [_, _], _ => rfl
  have oF := fun_mk (st := s_Net_check_trip) lH lI lJ
  have oG := oF.binds (ps := ["self", "name"]) fun _ _ _ _ _ _ us hl => match us, hl with | [_, _], _ => rfl
  have oH := fun_mk (st := s_Net_check_call) lM lN lO
  have oI := oH.binds (ps := ["self", "call"]) fun _ _ _ _ _ _ us hl => match us, hl with | [_, _], _ => rfl
  have oJ := fun_mk (st := s_Net_has_walk) lR lS lT
  have oK := oJ.binds (ps := ["self", "one", "other"]) fun _ _ _ _ _ _ us hl => match us, hl with | [_, _, _], _ => rfl
  have oL := fun_mk (st := s_Net_stops) lW lX lY
  have oM := oL.binds (ps := ["self"]) fun _ _ _ _ _ _ us hl => match us, hl with | [_], _ => rfl
  have oN := fun_mk (st := s_Net_walks) l1 l2 l3
  have oO := oN.binds (ps := ["self"]) fun _ _ _ _ _ _ us hl => match us, hl with | [_], _ => rfl
  have oP := fun_mk (st := s_Net_rules) l6 l7 l8
  have oQ := oP.binds (ps := ["self"]) fun _ _ _ _ _ _ us hl => match us, hl with | [_], _ => rfl
  have oR := fun_mk (st := s_Net_tickets) mb mc md
  have oS := oR.binds (ps := ["self"]) fun _ _ _ _ _ _ us hl => match us, hl with | [_], _ => rfl
  have oT := fun_mk (st := s_Net_trips) mh mi mj
  have oU := oT.binds (ps := ["self"]) fun _ _ _ _ _ _ us hl => match us, hl with | [_], _ => rfl
  have oV := fun_mk (st := s_Net_zone) mm mn mo
  have oW := oV.binds (ps := ["self", "stop"]) fun _ _ _ _ _ _ us hl => match us, hl with | [_, _], _ => rfl
  have oX := fun_mk (st := s_Net_change) mr ms mt
  have oY := oX.binds (ps := ["self", "stop"]) fun _ _ _ _ _ _ us hl => match us, hl with | [_, _], _ => rfl
  have oZ := fun_mk (st := s_Net_rule) mw mx my
  have o0 := oZ.binds (ps := ["self", "name"]) fun _ _ _ _ _ _ us hl => match us, hl with | [_, _], _ => rfl
  have o1 := fun_mk (st := s_Net_ticket) mB mC mD
  have o2 := o1.binds (ps := ["self", "name"]) fun _ _ _ _ _ _ us hl => match us, hl with | [_, _], _ => rfl
  have o3 := fun_mk (st := s_Net_rule_name) mG mH mI
  have o4 := o3.binds (ps := ["self", "trip"]) fun _ _ _ _ _ _ us hl => match us, hl with | [_, _], _ => rfl
  have o5 := fun_mk (st := s_Net_calls) mL mM mN
  have o6 := o5.binds (ps := ["self", "trip"]) fun _ _ _ _ _ _ us hl => match us, hl with | [_, _], _ => rfl
  exact ⟨⟨aa, W.fnOf "_wall" "_wall" (defArgs s_wall) (defBody s_wall) (defScope s_wall) .none ac ad ae ai af ag, ak, W.fnOf "is_any_number" "is_any_number" (defArgs s_is_any_number) (defBody s_is_any_number) (defScope s_is_any_number) .none am ao ap au aq ar, aw, W.fnOf "is_number" "is_number" (defArgs s_is_number) (defBody s_is_number) (defScope s_is_number) .none ay az aA aE aB aC, aG, W.fnOf "check_number" "check_number" (defArgs s_check_number) (defBody s_check_number) (defScope s_check_number) .none aI aJ aK aO aL aM, aQ, W.fnOf "are_rising" "are_rising" (defArgs s_are_rising) (defBody s_are_rising) (defScope s_are_rising) .none aS aT aU aY aV aW, a0, W.fnOf "is_name" "is_name" (defArgs s_is_name) (defBody s_is_name) (defScope s_is_name) .none a2 a3 a4 a8 a5 a6, ba, W.fnOf "is_known" "is_known" (defArgs s_is_known) (defBody s_is_known) (defScope s_is_known) .none bc bd be bi bf bg, bk, W.fnOf "zone_bits" "zone_bits" (defArgs s_zone_bits) (defBody s_zone_bits) (defScope s_zone_bits) .none bm bn bo bs bp bq, bu, W.fnOf "fits" "fits" (defArgs s_fits) (defBody s_fits) (defScope s_fits) .none bw bx bz bD bA bB, bF, W.fnOf "least_tickets" "least_tickets" (defArgs s_least_tickets) (defBody s_least_tickets) (defScope s_least_tickets) .none bH bI bJ bN bK bL, bP, W.fnOf "held_behind" "held_behind" (defArgs s_held_behind) (defBody s_held_behind) (defScope s_held_behind) .none bR bS bT bX bU bV, bZ, W.fnOf "price_for" "price_for" (defArgs s_price_for) (defBody s_price_for) (defScope s_price_for) .none b1 b2 b3 b7 b4 b5, b9, W.fnOf "ways_behind" "ways_behind" (defArgs s_ways_behind) (defBody s_ways_behind) (defScope s_ways_behind) .none cb cc cd ch ce cf, cj, W.fnOf "check_new" "check_new" (defArgs s_check_new) (defBody s_check_new) (defScope s_check_new) .none cl cm cn cr co cp, cu, W.fnOf "check_room" "check_room" (defArgs s_check_room) (defBody s_check_room) (defScope s_check_room) .none cw cx cy cC cz cA, cE, W.fnOf "_law_draw" "_law_draw" (defArgs s_law_draw) (defBody s_law_draw) (defScope s_law_draw) .none cG cH cI cM cJ cK, cO, W.fnOf "_law_whole" "_law_whole" (defArgs s_law_whole) (defBody s_law_whole) (defScope s_law_whole) .none cQ cR cS cW cT cU, cY, W.fnOf "_law_names" "_law_names" (defArgs s_law_names) (defBody s_law_names) (defScope s_law_names) .none c0 c1 c2 c6 c3 c4, c8, W.fnOf "_law_zones" "_law_zones" (defArgs s_law_zones) (defBody s_law_zones) (defScope s_law_zones) .none da db dc dg dd de, di, W.fnOf "_law_tickets" "_law_tickets" (defArgs s_law_tickets) (defBody s_law_tickets) (defScope s_law_tickets) .none dk dl dm dr dn dp, dt, W.fnOf "_law_net" "_law_net" (defArgs s_law_net) (defBody s_law_net) (defScope s_law_net) .none dv dw dx dB dy dz, dD, W.fnOf "_law_rides" "_law_rides" (defArgs s_law_rides) (defBody s_law_rides) (defScope s_law_rides) .none dF dG dH dL dI dJ, dN, W.fnOf "_law_edged" "_law_edged" (defArgs s_law_edged) (defBody s_law_edged) (defScope s_law_edged) .none dP dQ dR dV dS dT, dX, W.fnOf "_law_crossed" "_law_crossed" (defArgs s_law_crossed) (defBody s_law_crossed) (defScope s_law_crossed) .none dZ d0 d1 d5 d2 d3, d7, W.fnOf "_law_spent" "_law_spent" (defArgs s_law_spent) (defBody s_law_spent) (defScope s_law_spent) .none d9 ea eb ef ec ed, eh, W.fnOf "_law_least" "_law_least" (defArgs s_law_least) (defBody s_law_least) (defScope s_law_least) .none ej ek el ep em en, er, W.fnOf "_law_good" "_law_good" (defArgs s_law_good) (defBody s_law_good) (defScope s_law_good) .none et eu ev eA ew ey, eC, W.fnOf "law" "law" (defArgs s_law) (defBody s_law) (defScope s_law) .none eE eF eG eK eH eI, eM, W.fnOf "__init__" "Net.__init__" (defArgs s_Net_init) (defBody s_Net_init) (defScope s_Net_init) .none eO eP eQ eU eR eS, eW, W.fnOf "copied" "Net.copied" (defArgs s_Net_copied) (defBody s_Net_copied) (defScope s_Net_copied) .none eY eZ e1 e5 e2 e3, e7, W.fnOf "add_stop" "Net.add_stop" (defArgs s_Net_add_stop) (defBody s_Net_add_stop) (defScope s_Net_add_stop) .none e9 fb fc fg fd fe, fi, W.fnOf "add_walk" "Net.add_walk" (defArgs s_Net_add_walk) (defBody s_Net_add_walk) (defScope s_Net_add_walk) .none fk fl fm fq fn fo, fs, W.fnOf "add_rule" "Net.add_rule" (defArgs s_Net_add_rule) (defBody s_Net_add_rule) (defScope s_Net_add_rule) .none fu fv fw fA fx fy, fC, W.fnOf "add_ticket" "Net.add_ticket" (defArgs s_Net_add_ticket) (defBody s_Net_add_ticket) (defScope s_Net_add_ticket) .none fE fF fG fK fH fI, fM, W.fnOf "add_trip" "Net.add_trip" (defArgs s_Net_add_trip) (defBody s_Net_add_trip) (defScope s_Net_add_trip) .none fO fP fQ fU fR fS, fW, W.fnOf "check_stop" "Net.check_stop" (defArgs s_Net_check_stop) (defBody s_Net_check_stop) (defScope s_Net_check_stop) .none fY fZ f0 f4 f1 f2, f6, W.fnOf "check_trip" "Net.check_trip" (defArgs s_Net_check_trip) (defBody s_Net_check_trip) (defScope s_Net_check_trip) .none f8 f9 ga gf gb gc, gh, W.fnOf "check_call" "Net.check_call" (defArgs s_Net_check_call) (defBody s_Net_check_call) (defScope s_Net_check_call) .none gj gk gl gp gm gn, gr, W.fnOf "has_walk" "Net.has_walk" (defArgs s_Net_has_walk) (defBody s_Net_has_walk) (defScope s_Net_has_walk) .none gu gv gw gA gx gy, gC, W.fnOf "stops" "Net.stops" (defArgs s_Net_stops) (defBody s_Net_stops) (defScope s_Net_stops) .none gE gF gG gK gH gI, gM, W.fnOf "walks" "Net.walks" (defArgs s_Net_walks) (defBody s_Net_walks) (defScope s_Net_walks) .none gO gP gQ gU gR gS, gW, W.fnOf "rules" "Net.rules" (defArgs s_Net_rules) (defBody s_Net_rules) (defScope s_Net_rules) .none gY gZ g0 g4 g1 g2, g6, W.fnOf "tickets" "Net.tickets" (defArgs s_Net_tickets) (defBody s_Net_tickets) (defScope s_Net_tickets) .none g8 g9 hb hf hc hd, hh, W.fnOf "trips" "Net.trips" (defArgs s_Net_trips) (defBody s_Net_trips) (defScope s_Net_trips) .none hj hk hm hq hn ho, hs, W.fnOf "zone" "Net.zone" (defArgs s_Net_zone) (defBody s_Net_zone) (defScope s_Net_zone) .none hu hv hx hD hy hz, hF, W.fnOf "change" "Net.change" (defArgs s_Net_change) (defBody s_Net_change) (defScope s_Net_change) .none hH hI hJ hN hK hL, hP, W.fnOf "rule" "Net.rule" (defArgs s_Net_rule) (defBody s_Net_rule) (defScope s_Net_rule) .none hR hU hV hZ hW hX, h1, W.fnOf "ticket" "Net.ticket" (defArgs s_Net_ticket) (defBody s_Net_ticket) (defScope s_Net_ticket) .none h3 h4 h5 h9 h6 h7, ib, W.fnOf "rule_name" "Net.rule_name" (defArgs s_Net_rule_name) (defBody s_Net_rule_name) (defScope s_Net_rule_name) .none ie ig ih il ii ij, io, W.fnOf "calls" "Net.calls" (defArgs s_Net_calls) (defBody s_Net_calls) (defScope s_Net_calls) .none iq ir it ix iu iv, iz, iA, iB, iC, iD, iE, iF, iG, iP, iH, iI⟩, ⟨W.mg_none_of X G m3,
    W.mg_none_of X G m4,
    W.mg_none_of X G m5,
    W.mg_none_of X G m6,
    W.mg_none_of X G m7,
    W.mg_none_of X G m8,
    W.mg_none_of X G m9,
    W.mg_none_of X G na,
    W.mg_none_of X G nc,
    W.mg_none_of X G nd,
    W.mg_none_of X G nf,
    W.mg_none_of X G ng,
    W.mg_none_of X G nh,
    ⟨_, W.mg_of X G ni⟩,
    ⟨_, W.mg_of X G nj⟩,
    W.mg_of X G nk,
    fun H => .inr ⟨_, _, _, nl, rfl, rfl, (by show 2 ≤ sizeLine; decide), .cons rfl (.cons ⟨_, rfl⟩ (.nil))⟩,
    ⟨_, W.mg_of X G nm⟩,
    ⟨_, W.mg_of X G nn⟩,
    ⟨_, W.mg_of X G no⟩,
    ⟨_, W.mg_of X G np⟩,
    nq,
    W.mg_of X G iY,
    nr,
    nt,
    W.mg_of X G i2,
    nu,
    nv,
    W.mg_of X G i6,
    nw,
    nx,
    W.mg_of X G ja,
    ny,
    nz,
    W.mg_of X G je,
    nA,
    nB,
    W.mg_of X G ji,
    nC,
    nD,
    W.mg_of X G jm,
    nE,
    nF,
    W.mg_of X G jq,
    nG,
    nH,
    W.mg_of X G ju,
    nI,
    nJ,
    W.mg_of X G jy,
    nK,
    nL,
    W.mg_of X G jC,
    nM,
    nN,
    W.mg_of X G jG,
    nO,
    nP,
    W.mg_of X G jK,
    nQ,
    nR,
    W.mg_of X G jO,
    nS,
    nT,
    W.mg_of X G jS,
    nU,
    nV,
    W.mg_of X G jW,
    nW,
    nX,
    W.mg_of X G j0,
    nY,
    nZ,
    W.mg_of X G j4,
    n0,
    n1,
    W.mg_of X G j8,
    n2,
    n3,
    W.mg_of X G kd,
    n4,
    n5,
    W.mg_of X G kh,
    n6,
    n7,
    W.mg_of X G kl,
    n8,
    n9,
    W.mg_of X G kq,
    oa,
    ob,
    W.mg_of X G ku,
    oe,
    og,
    W.mg_of X G ky,
    oh,
    oi,
    W.mg_of X G kC,
    oj,
    ok,
    W.mg_of X G kG,
    ol,
    om,
    W.mg_of X G kK,
    on,
    oo,
    op,
    oq,
    os,
    ot,
    ou,
    ov,
    ow,
    ox,
    oy,
    oz,
    oA,
    oB,
    oC,
    oD,
    oE,
    oF,
    oG,
    oH,
    oI,
    oJ,
    oK,
    oL,
    oM,
    oN,
    oO,
    oP,
    oQ,
    oR,
    oS,
    oT,
    oU,
    oV,
    oW,
    oX,
    oY,
    oZ,
    o0,
    o1,
    o2,
    o3,
    o4,
    o5,
    o6,
    ⟨mO, mP, mQ, mR⟩,
    ⟨mS, kX, kY, mT⟩,
    ⟨lj, lk, ln⟩,
    ⟨k7, k8, lb⟩,
    ⟨lp, lq, lu⟩,
    ⟨lv, lw, lz⟩,
    ⟨ld, lf, li⟩,
    ⟨mJ, mK, mN⟩,
    ⟨mp, mq, mt⟩,
    ⟨lK, lL, lO⟩,
    ⟨lA, lB, lE⟩,
    ⟨lF, lG, lJ⟩,
    ⟨k2, k3, k6⟩,
    ⟨lP, lQ, lT⟩,
    ⟨mu, mv, my⟩,
    ⟨mE, mF, mI⟩,
    ⟨l4, l5, l8⟩,
    ⟨lU, lV, lY⟩,
    ⟨mz, mA, mD⟩,
    ⟨l9, ma, md⟩,
    ⟨me, mf, mj⟩,
    ⟨lZ, l0, l3⟩,
    ⟨mk, ml, mo⟩,
    mU,
    mV,
    mW,
    mX,
    mY,
    W.mg_of X G kO,
    W.mg_of X G kP,
    W.mg_of X G kQ,
    W.mg_of X G kR,
    W.mg_of X G kS,
    W.mg_of X G kT,
    W.mg_of X G kU,
    W.mg_of X G kW,
    mZ,
    tabIn_of jy jz mZ m0 m1,
    m2⟩⟩
end K19
def PySem.W.Fast.tw9331317810345055459 : Nat := 0
def PySem.W.Fast.tw11749077742184098016 : Nat := 0
def PySem.W.Fast.tw10519696747929400447 : Nat := 0
def PySem.W.Fast.tw3272774505330025991 : Nat := 0
def PySem.W.Fast.tw8209514225078332387 : Nat := 0
def PySem.W.Fast.tw14145516554031307301 : Nat := 0
def PySem.W.Fast.tw9553361983615281394 : Nat := 0
def PySem.W.Fast.tw6330001006624923004 : Nat := 0
def PySem.W.Fast.tw2546615959877823914 : Nat := 0
def PySem.W.Fast.tw12792924513657481400 : Nat := 0
def PySem.W.Fast.tw3463281095265304654 : Nat := 0
def PySem.W.Fast.tw14467050700065954533 : Nat := 0
def PySem.W.Fast.tw9640624077995794714 : Nat := 0
def PySem.W.Fast.tw12049298222314823477 : Nat := 0
open PySem PySem.W PyProof.Rows
set_option maxRecDepth 100000 in
set_option maxHeartbeats 0 in
theorem PySem.Challenge.cw_roadbook_k19_least_by_all_ways_holds : PySem.Challenge.rw_roadbook_k19_least_by_all_ways.Holds := by
  w_on; o_law; k_head; (case hw => w_witness2)
  k_fill
  refine L2.walk_ofT (l := PySem.Challenge.rw_roadbook_k19_least_by_all_ways) (n := 63) (k := 20) (x := "_law_script") (x2 := "least_tickets") (CX := L2.CX0) (sp := K19.sp_law) rfl (by decide) rfl ⟨rfl, by decide, by decide⟩ (fun w h Y => PySem.W.km_in_of Y) ?R2 ?F (fun _ _ _ a ns hl hT hS => ⟨a, ns, rfl, hT, hS, hl, fun _ => rfl⟩) fun _ _ _ _ z => z
  case R2 => first | exact rfl | decide +kernel
  case F =>
    intro w mg fa h KX G hmg
    have T : ∃ t, K19.Tab (L2.KOf KX) mg t := by
      dsimp only [L2.KOf]
      refine' K19.all_mk KX G ?iY ?iZ ?i0 ?i1 ?i2 ?i3 ?i4 ?i5 ?i6 ?i7 ?i8 ?i9 ?ja ?jb ?jc ?jd ?je ?jf ?jg ?jh ?ji ?jj ?jk ?jl ?jm ?jn ?jo ?jp ?jq ?jr ?js ?jt ?ju ?jv ?jw ?jx ?jy ?jz ?jA ?jB ?jC ?jD ?jE ?jF ?jG ?jH ?jI ?jJ ?jK ?jL ?jM ?jN ?jO ?jP ?jQ ?jR ?jS ?jT ?jU ?jV ?jW ?jX ?jY ?jZ ?j0 ?j1 ?j2 ?j3 ?j4 ?j5 ?j6 ?j7 ?j8 ?j9 ?ka ?kc ?kd ?ke ?kf ?kg ?kh ?ki ?kj ?kk ?kl ?km ?kn ?ko ?kq ?kr ?ks ?kt ?ku ?kv ?kw ?kx ?ky ?kz ?kA ?kB ?kC ?kD ?kE ?kF ?kG ?kH ?kI ?kJ ?kK ?kL ?kM ?kN ?kO ?kP ?kQ ?kR ?kS ?kT ?kU ?kW ?kX ?kY ?kZ ?k0 ?k1 ?k2 ?k3 ?k4 ?k5 ?k6 ?k7 ?k8 ?k9 ?la ?lb ?ld ?lf ?lg ?lh ?li ?lj ?lk ?ll ?lm ?ln ?lp ?lq ?lr ?ls ?lu ?lv ?lw ?lx ?ly ?lz ?lA ?lB ?lC ?lD ?lE ?lF ?lG ?lH ?lI ?lJ ?lK ?lL ?lM ?lN ?lO ?lP ?lQ ?lR ?lS ?lT ?lU ?lV ?lW ?lX ?lY ?lZ ?l0 ?l1 ?l2 ?l3 ?l4 ?l5 ?l6 ?l7 ?l8 ?l9 ?ma ?mb ?mc ?md ?me ?mf ?mh ?mi ?mj ?mk ?ml ?mm ?mn ?mo ?mp ?mq ?mr ?ms ?mt ?mu ?mv ?mw ?mx ?my ?mz ?mA ?mB ?mC ?mD ?mE ?mF ?mG ?mH ?mI ?mJ ?mK ?mL ?mM ?mN ?mO ?mP ?mQ ?mR ?mS ?mT ?mU ?mV ?mW ?mX ?mY ?mZ ?m0 ?m1 ?m2 ?m3 ?m4 ?m5 ?m6 ?m7 ?m8 ?m9 ?na ?nc ?nd ?nf ?ng ?nh ?ni ?nj ?nk ?nl ?nm ?nn ?no ?np
      (case iY => k_is)
      (case iZ => k_is)
      (case i0 => k_is)
      (case i1 => k_is)
      (case i2 => k_is)
      (case i3 => k_is)
      (case i4 => k_is)
      (case i5 => k_is)
      (case i6 => k_is)
      (case i7 => k_is)
      (case i8 => k_is)
      (case i9 => k_is)
      (case ja => k_is)
      (case jb => k_is)
      (case jc => k_is)
      (case jd => k_is)
      (case je => k_is)
      (case jf => k_is)
      (case jg => k_is)
      (case jh => k_is)
      (case ji => k_is)
      (case jj => k_is)
      (case jk => k_is)
      (case jl => k_is)
      (case jm => k_is)
      (case jn => k_is)
      (case jo => k_is)
      (case jp => k_is)
      (case jq => k_is)
      (case jr => k_is)
      (case js => k_is)
      (case jt => k_is)
      (case ju => k_is)
      (case jv => k_is)
      (case jw => k_is)
      (case jx => k_is)
      (case jy => k_is)
      (case jz => k_is)
      (case jA => k_is)
      (case jB => k_is)
      (case jC => k_is)
      (case jD => k_is)
      (case jE => k_is)
      (case jF => k_is)
      (case jG => k_is)
      (case jH => k_is)
      (case jI => k_is)
      (case jJ => k_is)
      (case jK => k_is)
      (case jL => k_is)
      (case jM => k_is)
      (case jN => k_is)
      (case jO => k_is)
      (case jP => k_is)
      (case jQ => k_is)
      (case jR => k_is)
      (case jS => k_is)
      (case jT => k_is)
      (case jU => k_is)
      (case jV => k_is)
      (case jW => k_is)
      (case jX => k_is)
      (case jY => k_is)
      (case jZ => k_is)
      (case j0 => k_is)
      (case j1 => k_is)
      (case j2 => k_is)
      (case j3 => k_is)
      (case j4 => k_is)
      (case j5 => k_is)
      (case j6 => k_is)
      (case j7 => k_is)
      (case j8 => k_is)
      (case j9 => k_is)
      (case ka => k_is)
      (case kc => k_is)
      (case kd => k_is)
      (case ke => k_is)
      (case kf => k_is)
      (case kg => k_is)
      (case kh => k_is)
      (case ki => k_is)
      (case kj => k_is)
      (case kk => k_is)
      (case kl => k_is)
      (case km => k_is)
      (case kn => k_is)
      (case ko => k_is)
      (case kq => k_is)
      (case kr => k_is)
      (case ks => k_is)
      (case kt => k_is)
      (case ku => k_is)
      (case kv => k_is)
      (case kw => k_is)
      (case kx => k_is)
      (case ky => k_is)
      (case kz => k_is)
      (case kA => k_is)
      (case kB => k_is)
      (case kC => k_is)
      (case kD => k_is)
      (case kE => k_is)
      (case kF => k_is)
      (case kG => k_is)
      (case kH => k_is)
      (case kI => k_is)
      (case kJ => k_is)
      (case kK => k_is)
      (case kL => k_is)
      (case kM => k_is)
      (case kN => k_is)
      (case kO => k_is)
      (case kP => k_is)
      (case kQ => k_is)
      (case kR => k_is)
      (case kS => k_is)
      (case kT => k_is)
      (case kU => k_is)
      (case kW => k_is)
      (case kX => k_is)
      (case kY => k_is)
      (case kZ => k_is)
      (case k0 => k_is)
      (case k1 => k_is)
      (case k2 => k_is)
      (case k3 => k_is)
      (case k4 => k_is)
      (case k5 => k_is)
      (case k6 => k_is)
      (case k7 => k_is)
      (case k8 => k_is)
      (case k9 => k_is)
      (case la => k_is)
      (case lb => k_is)
      (case ld => k_is)
      (case lf => k_is)
      (case lg => k_is)
      (case lh => k_is)
      (case li => k_is)
      (case lj => k_is)
      (case lk => k_is)
      (case ll => k_is)
      (case lm => k_is)
      (case ln => k_is)
      (case lp => k_is)
      (case lq => k_is)
      (case lr => k_is)
      (case ls => k_is)
      (case lu => k_is)
      (case lv => k_is)
      (case lw => k_is)
      (case lx => k_is)
      (case ly => k_is)
      (case lz => k_is)
      (case lA => k_is)
      (case lB => k_is)
      (case lC => k_is)
      (case lD => k_is)
      (case lE => k_is)
      (case lF => k_is)
      (case lG => k_is)
      (case lH => k_is)
      (case lI => k_is)
      (case lJ => k_is)
      (case lK => k_is)
      (case lL => k_is)
      (case lM => k_is)
      (case lN => k_is)
      (case lO => k_is)
      (case lP => k_is)
      (case lQ => k_is)
      (case lR => k_is)
      (case lS => k_is)
      (case lT => k_is)
      (case lU => k_is)
      (case lV => k_is)
      (case lW => k_is)
      (case lX => k_is)
      (case lY => k_is)
      (case lZ => k_is)
      (case l0 => k_is)
      (case l1 => k_is)
      (case l2 => k_is)
      (case l3 => k_is)
      (case l4 => k_is)
      (case l5 => k_is)
      (case l6 => k_is)
      (case l7 => k_is)
      (case l8 => k_is)
      (case l9 => k_is)
      (case ma => k_is)
      (case mb => k_is)
      (case mc => k_is)
      (case md => k_is)
      (case me => k_is)
      (case mf => k_is)
      (case mh => k_is)
      (case mi => k_is)
      (case mj => k_is)
      (case mk => k_is)
      (case ml => k_is)
      (case mm => k_is)
      (case mn => k_is)
      (case mo => k_is)
      (case mp => k_is)
      (case mq => k_is)
      (case mr => k_is)
      (case ms => k_is)
      (case mt => k_is)
      (case mu => k_is)
      (case mv => k_is)
      (case mw => k_is)
      (case mx => k_is)
      (case my => k_is)
      (case mz => k_is)
      (case mA => k_is)
      (case mB => k_is)
      (case mC => k_is)
      (case mD => k_is)
      (case mE => k_is)
      (case mF => k_is)
      (case mG => k_is)
      (case mH => k_is)
      (case mI => k_is)
      (case mJ => k_is)
      (case mK => k_is)
      (case mL => k_is)
      (case mM => k_is)
      (case mN => k_is)
      (case mO => k_is)
      (case mP => k_is)
      (case mQ => k_is)
      (case mR => k_is)
      (case mS => k_is)
      (case mT => k_is)
      (case mU => k_is)
      (case mV => k_is)
      (case mW => k_is)
      (case mX => k_is)
      (case mY => k_is)
      (case mZ => exact rfl)
      (case m0 => k_is)
      (case m1 => exact rfl)
      (case m2 => first | k_is | exact rfl | decide +kernel)
      (case m3 => k_is)
      (case m4 => k_is)
      (case m5 => k_is)
      (case m6 => k_is)
      (case m7 => k_is)
      (case m8 => k_is)
      (case m9 => k_is)
      (case na => k_is)
      (case nc => k_is)
      (case nd => k_is)
      (case nf => k_is)
      (case ng => k_is)
      (case nh => k_is)
      (case ni => k_is)
      (case nj => k_is)
      (case nk => k_is)
      (case nl => k_is)
      (case nm => k_is)
      (case nn => k_is)
      (case no => k_is)
      (case np => k_is)
    obtain ⟨t, T⟩ := T
    have e0 := hmg.symm.trans T.m_law
    cases e0
    refine' ⟨t.lc, t.lt, T.lam_t, T.lam_n, t.d_law, ?b, fun base kb nb hC hB => K19.ok_law T hC hB⟩
    obtain ⟨oc, od, kV, doc, pm, an, cdv, ct, osl, e, _, _⟩ := T.F_law.ex
    rw [e]
    exact fun s u => .of_eq rfl
