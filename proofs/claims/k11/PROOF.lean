
import PyProof.Rows.All
import Wide.All
import OpenK.AllK
import Wide.FinOn
import Lean
import PyProof.EqAt
import PyProof.EqKinds
import PyProof.TupleCall
import KE.KIntText
import PyProof.CompFree
import PyProof.P3Eq
import PyProof.NeData
import PyProof.StrLawsTight
import PyProof.StrLawsReplace
import PyProof.StrCalls2
import KE.IntTextLaws
import KE.KMinBuiltin
import PyProof.WalkInts
import PyProof.Rows.CallKwBuiltin
import PyProof.Rows.CallKw2
import PyProof.SetScanFacts
import PyProof.SetKind
import PyProof.DictStraight
import PyProof.Rows.SetFrom
import PyProof.DictIter
import PyProof.Walks
import PyProof.FactsAll.set_1
import PyProof.Rows.TupIn
import PyProof.CollectWalk
import PyProof.FactsAll.set_2
import PyProof.Rows.SortWalk
import PyProof.MeetsStr
import PyProof.StrLaws
import PyProof.StrBlockL
import PyProof.ListRange
import PyProof.ZipIter
import PyProof.EnumMake
import PyProof.Rows.EnumRows
import PyProof.Rows.FactsT2
import PyProof.DictWalks
import PyProof.Conv_int_bool
import KE.KRevSl
import KE.KDictOf
import PyProof.AttrMissSeq
import PySem.Challenge.RW_roadbook_k11_minutes_on_foot
set_option Elab.async false
set_option linter.all false
set_option maxRecDepth 100000
namespace L2
open PySem PySem.Spec PyProof.Rows

abbrev Key := Sum Int Str
def keyIs : Key → Value → Bool
  | .inl k, v => Value.isInt k v
  | .inr x, v => Value.isStrOf x v
def keyH (w : World) : Key → Int
  | .inl k => hashInt k
  | .inr x => hashStr w x
theorem keyIs_shape : ∀ {k : Key} {v : Value}, keyIs k v = true → (∃ i t, k = Sum.inl i ∧ v = Value.int i t) ∨ (∃ x t, k = Sum.inr x ∧ v = Value.str x t)
  | .inl i, v, h => by
    obtain ⟨t, e⟩ := Value.isInt_shape (k := i) (v := v) h
    exact .inl ⟨i, t, rfl, e⟩
  | .inr x, v, h => by
    obtain ⟨t, e⟩ := Value.isStrOf_shape (x := x) (v := v) h
    exact .inr ⟨x, t, rfl, e⟩
theorem keyIs_int (i : Int) (t : Tok) : keyIs (.inl i) (.int i t) = true := by simp [keyIs, Value.isInt]
theorem keyIs_str (x : Str) (t : Tok) : keyIs (.inr x) (.str x t) = true := by simp [keyIs, Value.isStrOf]
theorem key_ll (a b : Int) : decide ((Sum.inl a : Key) = Sum.inl b) = (a == b) := by
  by_cases e : a = b
  · subst e; simp
  · have h : ¬ (Sum.inl a : Key) = Sum.inl b := fun q => e (Sum.inl.inj q)
    rw [decide_eq_false h]
    exact (beq_eq_false_iff_ne.mpr e).symm
theorem key_rr (a b : Str) : decide ((Sum.inr a : Key) = Sum.inr b) = decide (a = b) := by
  by_cases e : a = b
  · subst e; simp
  · have h : ¬ (Sum.inr a : Key) = Sum.inr b := fun q => e (Sum.inr.inj q)
    rw [decide_eq_false h, decide_eq_false e]
theorem key_lr (a : Int) (b : Str) : decide ((Sum.inl a : Key) = Sum.inr b) = false := decide_eq_false (fun q => nomatch q)
theorem key_rl (a : Str) (b : Int) : decide ((Sum.inr a : Key) = Sum.inl b) = false := decide_eq_false (fun q => nomatch q)

def mixKind (prog : Program) (w : World) : PySem.KeyKind prog w Key where
  is := keyIs
  hash := keyH w
  inj := fun v a b ha hb => by
    rcases keyIs_shape ha with ⟨i, t, rfl, rfl⟩ | ⟨x, t, rfl, rfl⟩
    · rcases keyIs_shape hb with ⟨j, u, rfl, e⟩ | ⟨y, u, rfl, e⟩
      · injection e with e1 _; rw [e1]
      · exact nomatch e
    · rcases keyIs_shape hb with ⟨j, u, rfl, e⟩ | ⟨y, u, rfl, e⟩
      · exact nomatch e
      · injection e with e1 _; rw [e1]
  byValue := fun k v h => by
    rcases keyIs_shape h with ⟨i, t, rfl, rfl⟩ | ⟨x, t, rfl, rfl⟩ <;> rfl
  pyHash := fun hv h => by
    rcases keyIs_shape hv with ⟨i, t, rfl, rfl⟩ | ⟨x, t, rfl, rfl⟩
    · exact wpAny_pyHash_int h
    · exact wpAny_pyHash_str h
  eqBool := fun hu hv h => by
    rcases keyIs_shape hu with ⟨i, t, rfl, rfl⟩ | ⟨x, t, rfl, rfl⟩
    · rcases keyIs_shape hv with ⟨j, u, rfl, rfl⟩ | ⟨y, u, rfl, rfl⟩
      · rw [key_ll] at h; exact wpAny_eqBool_int h
      · rw [key_lr] at h; exact SeqAt.EqAt.int_str i t y u _ _ _ _ h
    · rcases keyIs_shape hv with ⟨j, u, rfl, rfl⟩ | ⟨y, u, rfl, rfl⟩
      · rw [key_rl] at h; exact SeqAt.EqAt.str_int x t j u _ _ _ _ h
      · rw [key_rr] at h; exact wpAny_eqBool_str h
  «strs» := fun k x t v h => by
    rcases keyIs_shape h with ⟨i, u, rfl, e⟩ | ⟨y, u, rfl, e⟩
    · exact nomatch e
    · injection e with e1 _
      subst e1
      cases v <;> rfl

theorem mixKind_int (prog : Program) (w : World) (i : Int) (t : Tok) : (mixKind prog w).is (.inl i) (.int i t) = true := keyIs_int i t
theorem mixKind_str (prog : Program) (w : World) (x : Str) (t : Tok) : (mixKind prog w).is (.inr x) (.str x t) = true := keyIs_str x t
end L2

namespace L2
open PySem PySem.Spec PyProof.Rows

inductive V where
  | non | bl (b : Bool) | int (i : Int) | str (x : Str) | byt (b : Array UInt8) | flt (b : UInt64) | ref (a : Addr) | ty (n : String)
  deriving DecidableEq

def RelV : V → Value → Prop
  | .non, u => u = Value.none
  | .bl b, u => u = Value.bool b
  | .int i, u => ∃ t, u = Value.int i t
  | .str x, u => ∃ t, u = Value.str x t
  | .byt b, u => ∃ t, u = Value.bytes b t
  | .flt b, u => ∃ t, u = Value.float b t
  | .ref a, u => u = Value.ref a
  | .ty n, u => u = Value.type n

abbrev Vals : List V → List Value → Prop := Paired RelV
theorem Vals.length {xs : List V} {us : List Value} (r : Vals xs us) : xs.length = us.length := Paired.length r
theorem Vals.get : ∀ {xs : List V} {us : List Value} {i : Nat} {x : V}, Vals xs us → xs[i]? = some x → ∃ u, us[i]? = some u ∧ RelV x u
  | _, _, _, _, .nil, e => by simp at e
  | _, _, 0, _, .cons r _, e => by simp at e; subst e; exact ⟨_, rfl, r⟩
  | _, _, i + 1, x, .cons _ t, e => by
    obtain ⟨u, h1, h2⟩ := Vals.get (i := i) (x := x) t (by simpa using e)
    exact ⟨u, by simpa using h1, h2⟩
theorem Vals.set {x : V} {u : Value} (r : RelV x u) : ∀ {xs : List V} {us : List Value} (i : Nat), Vals xs us → Vals (xs.set i x) (us.set i u)
  | _, _, _, .nil => .nil
  | _, _, 0, .cons _ t => .cons r t
  | _, _, i + 1, .cons q t => .cons q (Vals.set r i t)
theorem Vals.append : ∀ {xs ys : List V} {us ws : List Value}, Vals xs us → Vals ys ws → Vals (xs ++ ys) (us ++ ws)
  | _, _, _, _, .nil, s => s
  | _, _, _, _, .cons r t, s => .cons r (Vals.append t s)
theorem Vals.take : ∀ {xs : List V} {us : List Value} (n : Nat), Vals xs us → Vals (xs.take n) (us.take n)
  | _, _, 0, _ => .nil
  | _, _, _ + 1, .nil => .nil
  | _, _, n + 1, .cons r t => .cons r (Vals.take n t)
theorem Vals.drop : ∀ {xs : List V} {us : List Value} (n : Nat), Vals xs us → Vals (xs.drop n) (us.drop n)
  | _, _, 0, r => r
  | _, _, _ + 1, .nil => .nil
  | _, _, n + 1, .cons _ t => Vals.drop n t
theorem Vals.none_of : ∀ {xs : List V} {us : List Value} {i : Nat}, Vals xs us → xs[i]? = none → us[i]? = none := fun {xs us i} r e => by
  have h1 := r.length
  have h2 : xs.length ≤ i := List.getElem?_eq_none_iff.mp e
  exact List.getElem?_eq_none_iff.mpr (by omega)

def RelO : Option V → Option Value → Prop
  | some v, some u => RelV v u
  | none, none => True
  | _, _ => False
def KV {κ : Type} : List (κ × V) → List (κ × Value) → Prop := Paired fun (p : κ × V) (q : κ × Value) => p.1 = q.1 ∧ RelV p.2 q.2

def kV : Key → V
  | .inl i => .int i
  | .inr x => .str x

inductive HO where
  /-- a list -/
  | lst (xs : List V)
  /-- a tuple (never changes) -/
  | tup (xs : List V)
  /-- a dict whose keys are ints and texts; one whose keys are tuples of ints and texts (the empty one is both) -/
  | dK (kvs : List (Key × V)) | dT (kvs : List (List Key × V))
  /-- a set of ints: its members, its size -/
  | set (S : Int → Bool) (n : Nat)
  /-- an instance of the class at C, its dict at dx, its attributes -/
  | ins (C dx : Addr) (fs : List (Str × V))
  /-- the dict of the instance at x -/
  | own (x : Addr)
  /-- the dict of an exception -/
  | xd (fs : List (Str × V))
  /-- a bound method, f of x -/
  | met (f x : Addr)
  /-- a range object lo, lo + 1, .. below hi -/
  | rng (lo hi : Int)
  /-- a thing that is known to the object (the script; a dict while a loop walks it): read, never written while it is so -/
  | frz (o : Obj) (u : HO)
  /-- a code object's table -/
  | tbl (ps : Array Value)
  /-- any other thing, by what is true of its one object (a def of one's own: SetO a S n := HO.ext fun h => ..) -/
  | ext (φ : Heap → Prop)

abbrev Hp := Addr → Option HO
def upd (H : Hp) (a : Addr) (o : HO) : Hp := fun b => if b = a then some o else H b
theorem upd_same {H : Hp} {a : Addr} {o : HO} : upd H a o a = some o := by unfold upd; rw [if_pos rfl]
theorem upd_ne {H : Hp} {a b : Addr} {o : HO} (h : b ≠ a) : upd H a o b = H b := by unfold upd; rw [if_neg h]
theorem ne_of {H : Hp} {a b : Addr} {o u : HO} (h : H a = some o) (h' : H b = some u) (d : o ≠ u) : a ≠ b := by
  intro e; subst e; rw [h] at h'; exact d (Option.some.inj h')
theorem ne_of_none {H : Hp} {a b : Addr} {o : HO} (h : H a = some o) (h' : H b = none) : a ≠ b := by
  intro e; subst e; rw [h] at h'; cases h'

section
variable (P : Program) (w : World)
def ObjOk (H : Hp) (h : Heap) (a : Addr) : HO → Prop
  | .lst xs => xs.length ≤ sizeLine ∧ ∃ (its : List Value) (n : Nat), Vals xs its ∧ h.get? a = some { cls := .type "list", data := .seq its.toArray n }
  | .tup xs => xs.length ≤ sizeLine ∧ ∃ its : List Value, Vals xs its ∧ IsTup h a its.toArray
  | .dK kvs => kvs.length ≤ sizeLine ∧ (a == sysModules) = false ∧ ∃ vs, KV kvs vs ∧ h.DictOf (mixKind P w) a vs
  | .dT kvs => kvs.length ≤ sizeLine ∧ (a == sysModules) = false ∧ ∃ xs : List (List Key × Addr × Value),
      Paired (fun (p : List Key × V) (q : List Key × Addr × Value) => p.1 = q.1 ∧ H q.2.1 = some (.tup (p.1.map kV)) ∧ RelV p.2 q.2.2) kvs xs ∧
      ∃ o es ep, h.get? a = some o ∧ o.ExactDict ∧ o.data = .dict es ep ∧ es.toList = xs.map (entryOfKey (tupleKind (mixKind P w))) ∧ (xs.map (·.1)).Nodup
  | .set S n => h.SetOf (intKind P w) a S n
  | .ins C dx fs => H dx = some (.own a) ∧ fs.length ≤ 1000 ∧ dx ≠ a ∧ h.get? a = some (PySem.W.instObj C dx) ∧
      ∃ mA, h.Ns1 dx mA ∧ (∀ f, RelO (fs.lookup f) (mA f)) ∧ PySem.Within mA (fs.map (·.1))
  | .own _ => ∃ o, h.get? a = some o
  | .xd fs => ∃ mA, h.Ns1 a mA ∧ ∀ f, RelO (fs.lookup f) (mA f)
  | .rng lo hi => ∃ t u v, h.get? a = some { cls := .type "range", data := .fields #[.int lo t, .int hi u, .int 1 v] }
  | .frz o u => h.get? a = some o ∧ ObjOk H h a u
  | .tbl ps => h.get? a = some { cls := .none, data := .fields ps }
  | .met f x => h.get? a = some (PySem.W.methodObj (.ref f) (.ref x))
  | .ext φ => φ h ∧ (∃ o, h.get? a = some o) ∧ ∀ h1 h2 : Heap, φ h1 → (∀ o, h1.get? a = some o → h2.get? a = some o) → φ h2
def HOk (H : Hp) (h : Heap) : Prop := ∀ a o, H a = some o → ObjOk P w H h a o
end

section
variable {P : Program} {w : World} {H H' : Hp} {h h' : Heap} {a : Addr} {o : HO}
theorem ObjOk.lt (x : ObjOk P w H h a o) : a < h.objs.size := by
  cases o with
  | lst xs => obtain ⟨_, _, _, _, e⟩ := x; exact Heap.lt_size e
  | tup xs => obtain ⟨_, _, _, p⟩ := x; exact p.lt
  | dK kvs => obtain ⟨_, _, _, _, o, _, _, e, _⟩ := x; exact Heap.lt_size e
  | dT kvs => obtain ⟨_, _, _, _, o, _, _, e, _⟩ := x; exact Heap.lt_size e
  | set S n => obtain ⟨o, _, _, _, e, _⟩ := x; exact Heap.lt_size e
  | ins C dx fs => obtain ⟨_, _, _, e, _⟩ := x; exact Heap.lt_size e
  | own y => obtain ⟨_, e⟩ := x; exact Heap.lt_size e
  | xd fs => obtain ⟨_, ⟨_, _, _, e, _⟩, _⟩ := x; exact Heap.lt_size e
  | rng lo hi => obtain ⟨_, _, _, e⟩ := x; exact Heap.lt_size e
  | frz ob u => obtain ⟨e, _⟩ := x; exact Heap.lt_size e
  | tbl ps => exact Heap.lt_size (show h.get? a = some _ from x)
  | met f y => exact Heap.lt_size (show h.get? a = some _ from x)
  | ext φ => obtain ⟨_, ⟨_, e⟩, _⟩ := x; exact Heap.lt_size e
theorem Paired.mapP {α β : Type} {F G : α → β → Prop} : ∀ {l₁ : List α} {l₂ : List β}, Paired F l₁ l₂ → (∀ a b, F a b → G a b) → Paired G l₁ l₂
  | _, _, .nil, _ => .nil
  | _, _, .cons r t, f => .cons (f _ _ r) (Paired.mapP t f)
theorem ObjOk.stay (x : ObjOk P w H h a o) (k : ∀ b u, (b = a ∨ H b = some (.own a)) → h.get? b = some u → h'.get? b = some u)
    (ho : ∀ b, H b = some (.own a) → H' b = some (.own a)) (ht : ∀ b xs, H b = some (.tup xs) → H' b = some (.tup xs)) : ObjOk P w H' h' a o := by
  induction o with
  | lst xs => obtain ⟨z, its, n, r, e⟩ := x; exact ⟨z, its, n, r, k _ _ (.inl rfl) e⟩
  | tup xs => obtain ⟨z, its, r, ob, e, c⟩ := x; exact ⟨z, its, r, ob, k _ _ (.inl rfl) e, c⟩
  | dK kvs => obtain ⟨z, y, vs, r, ob, es, ep, e, c⟩ := x; exact ⟨z, y, vs, r, ob, es, ep, k _ _ (.inl rfl) e, c⟩
  | dT kvs =>
    obtain ⟨z, y, xs, r, ob, es, ep, e, c⟩ := x
    exact ⟨z, y, xs, Paired.mapP r fun p q z => ⟨z.1, ht _ _ z.2.1, z.2.2⟩, ob, es, ep, k _ _ (.inl rfl) e, c⟩
  | set S n => obtain ⟨ob, es, ep, t, e, c⟩ := x; exact ⟨ob, es, ep, t, k _ _ (.inl rfl) e, c⟩
  | ins C dx fs =>
    obtain ⟨d, z, ne, e, mA, ⟨od, es, ep, e2, c⟩, r⟩ := x
    exact ⟨ho _ d, z, ne, k _ _ (.inl rfl) e, mA, ⟨od, es, ep, k _ _ (.inr d) e2, c⟩, r⟩
  | own y => obtain ⟨ob, e⟩ := x; exact ⟨ob, k _ _ (.inl rfl) e⟩
  | xd fs => obtain ⟨mA, ⟨od, es, ep, e, c⟩, r⟩ := x; exact ⟨mA, ⟨od, es, ep, k _ _ (.inl rfl) e, c⟩, r⟩
  | rng lo hi => obtain ⟨t, u, v, e⟩ := x; exact ⟨t, u, v, k _ _ (.inl rfl) e⟩
  | frz ob u ih => obtain ⟨e, q⟩ := x; exact ⟨k _ _ (.inl rfl) e, ih q⟩
  | tbl ps =>
    have e : h.get? a = some { cls := .none, data := .fields ps } := x
    show h'.get? a = some { cls := .none, data := .fields ps }
    exact k a _ (.inl rfl) e
  | met f y =>
    have e : h.get? a = some (PySem.W.methodObj (.ref f) (.ref y)) := x
    show h'.get? a = some (PySem.W.methodObj (.ref f) (.ref y))
    exact k a _ (.inl rfl) e
  | ext φ => obtain ⟨p, ⟨o, e⟩, st⟩ := x; exact ⟨st _ _ p fun o q => k _ _ (.inl rfl) q, ⟨o, k _ _ (.inl rfl) e⟩, st⟩
theorem HOk.lt (x : HOk P w H h) (e : H a = some o) : a < h.objs.size := (x a o e).lt
theorem HOk.fresh (x : HOk P w H h) (e : h.objs.size ≤ a) : H a = none := by
  cases q : H a with
  | none => rfl
  | some u => exact absurd (Nat.lt_of_lt_of_le (x.lt q) e) (Nat.lt_irrefl _)
theorem HOk.kept (x : HOk P w H h) (k : ∀ b u, h.get? b = some u → h'.get? b = some u) : HOk P w H h' := fun a o e =>
  (x a o e).stay (fun b u _ q => k b u q) (fun _ q => q) fun _ _ q => q
theorem HOk.laid (x : HOk P w H h) (k : ∀ b u, h.get? b = some u → h'.get? b = some u) (hp : h.objs.size ≤ a) (new : ObjOk P w (upd H a o) h' a o) : HOk P w (upd H a o) h' := fun b u e => by
  have hn := x.fresh hp
  by_cases hb : b = a
  · subst hb; rw [upd_same] at e; cases e; exact new
  · rw [upd_ne hb] at e
    exact (x b u e).stay (fun c v _ q => k c v q) (fun c q => by rw [upd_ne (ne_of_none q hn)]; exact q) fun c xs q => by rw [upd_ne (ne_of_none q hn)]; exact q
end

def Rd (H : Hp) (a : Addr) (u : HO) : Prop := H a = some u ∨ ∃ o, H a = some (.frz o u)
theorem Rd.of {H : Hp} {a : Addr} {u : HO} (h : H a = some u) : Rd H a u := .inl h
theorem Rd.ok {P : Program} {w : World} {H : Hp} {h : Heap} {a : Addr} {u : HO} (r : Rd H a u) (x : HOk P w H h) : ObjOk P w H h a u := by
  rcases r with r | ⟨o, r⟩
  · exact x a u r
  · obtain ⟨_, q⟩ := x a _ r
    exact q
def Mut : Option HO → Prop
  | some (.lst _) => True
  | some (.dK _) => True
  | some (.dT _) => True
  | some (.set _ _) => True
  | some (.ins _ _ _) => True
  | some (.ext _) => True
  | _ => False
section
variable {P : Program} {w : World} {H : Hp} {h h' : Heap} {x e : Addr} {o' : HO}
theorem HOk.write (ok : HOk P w H h) (mu : Mut (H x)) (he : e = x ∨ H e = some (.own x)) (k : ∀ b u, b ≠ e → h.get? b = some u → h'.get? b = some u) (heo : ∃ u, h'.get? e = some u)
    (new : ObjOk P w (upd H x o') h' x o') : HOk P w (upd H x o') h' := fun b u q => by
  have nown : ∀ c y, H c = some (.own y) → c ≠ x := fun c y r z => by subst z; rw [r] at mu; exact mu
  have ntup : ∀ c xs, H c = some (.tup xs) → c ≠ x := fun c xs r z => by subst z; rw [r] at mu; exact mu
  by_cases hb : b = x
  · subst hb; rw [upd_same] at q; cases q; exact new
  · rw [upd_ne hb] at q
    by_cases hbe : b = e
    · have q' : H b = some (.own x) := by
        rcases he with z | z
        · exact absurd (hbe.trans z) hb
        · rw [hbe]; exact z
      rw [q] at q'; cases q'
      obtain ⟨v, hv⟩ := heo
      exact ⟨v, by rw [hbe]; exact hv⟩
    · refine (ok b u q).stay (fun c v hc r => k c v ?_ r) (fun c r => by rw [upd_ne (nown c b r)]; exact r) fun c xs r => by rw [upd_ne (ntup c xs r)]; exact r
      rcases hc with rfl | hc
      · exact hbe
      · rintro rfl
        rcases he with z | z
        · exact nown c b hc z
        · rw [hc] at z; cases z; exact hb rfl
end

structure Un (fs ex : List Addr) (H H' : Hp) (h h' : Heap) : Prop where
  keep : ∀ b o, h.get? b = some o → H b = none → b ∉ fs → b ∉ ex → h'.get? b = some o
  slot : ∀ b o, h.get? b = some o → H b = none → b ∈ fs → b ∉ ex → ∃ sl, h'.get? b = some { o with slots := sl }
  free : ∀ b o, h.get? b = some o → H b = none → b ∉ ex → H' b = none
  there : ∀ b o, h.get? b = some o → b ∉ ex → ∃ o', h'.get? b = some o'
  tups : ∀ b xs, H b = some (.tup xs) → H' b = some (.tup xs)
  frzs : ∀ b o u, H b = some (.frz o u) → H' b = some (.frz o u)
  tbls : ∀ b ps, H b = some (.tbl ps) → ∃ more, H' b = some (.tbl (ps ++ more))
section
variable {fs fs' ex ex' : List Addr} {H H1 H2 : Hp} {h h1 h2 h' : Heap} {a x e : Addr} {o : HO}
theorem Un.any (u : Un fs ex H H1 h h1) {b : Addr} {ob : Obj} (q : h.get? b = some ob) (n : H b = none) (hx : b ∉ ex) : ∃ sl, h1.get? b = some { ob with slots := sl } := by
  by_cases hb : b ∈ fs
  · exact u.slot b ob q n hb hx
  · exact ⟨ob.slots, u.keep b ob q n hb hx⟩
theorem Un.trans (a : Un fs ex H H1 h h1) (b : Un fs ex H1 H2 h1 h2) : Un fs ex H H2 h h2 where
  keep := fun c ob q n hc hx => b.keep c ob (a.keep c ob q n hc hx) (a.free c ob q n hx) hc hx
  slot := fun c ob q n hc hx => by
    obtain ⟨sl, e1⟩ := a.slot c ob q n hc hx
    obtain ⟨sl', e2⟩ := b.slot c _ e1 (a.free c ob q n hx) hc hx
    exact ⟨sl', e2⟩
  free := fun c ob q n hx => by
    obtain ⟨o', e1⟩ := a.there c ob q hx
    exact b.free c o' e1 (a.free c ob q n hx) hx
  there := fun c ob q hx => by
    obtain ⟨o', e1⟩ := a.there c ob q hx
    exact b.there c o' e1 hx
  tups := fun c xs q => b.tups c xs (a.tups c xs q)
  frzs := fun c ob xs q => b.frzs c ob xs (a.frzs c ob xs q)
  tbls := fun c ps q => by
    obtain ⟨m1, e1⟩ := a.tbls c ps q
    obtain ⟨m2, e2⟩ := b.tbls c _ e1
    exact ⟨m1 ++ m2, by rw [e2, Array.append_assoc]⟩
theorem Un.kept (k : ∀ b u, h.get? b = some u → h'.get? b = some u) : Un fs ex H H h h' :=
  ⟨fun b ob q _ _ _ => k b ob q, fun b ob q _ _ _ => ⟨ob.slots, k b ob q⟩, fun _ _ _ n _ => n, fun b ob q _ => ⟨ob, k b ob q⟩, fun _ _ q => q, fun _ _ _ q => q, fun _ ps q => ⟨#[], by rw [q]; simp⟩⟩
theorem Un.refl : Un fs ex H H h h := Un.kept fun _ _ q => q
theorem Un.laid (k : ∀ b u, h.get? b = some u → h'.get? b = some u) (hp : h.objs.size ≤ a) (hn : H a = none) : Un fs ex H (upd H a o) h h' where
  keep := fun b u q _ _ _ => k b u q
  slot := fun b u q _ _ _ => ⟨u.slots, k b u q⟩
  free := fun b u q n _ => by rw [upd_ne (Nat.ne_of_lt (Nat.lt_of_lt_of_le (Heap.lt_size q) hp))]; exact n
  there := fun b u q _ => ⟨u, k b u q⟩
  tups := fun b xs q => by rw [upd_ne (ne_of_none q hn)]; exact q
  frzs := fun b u xs q => by rw [upd_ne (ne_of_none q hn)]; exact q
  tbls := fun b ps q => ⟨#[], by rw [upd_ne (ne_of_none q hn), q]; simp⟩
theorem Un.write (mu : Mut (H x)) (he : e = x ∨ H e = some (.own x)) (k : ∀ b u, b ≠ e → h.get? b = some u → h'.get? b = some u) (heo : ∃ u, h'.get? e = some u) : Un fs ex H (upd H x o) h h' := by
  have hx : ∀ b, H b = none → b ≠ x := fun b n z => by subst z; rw [n] at mu; exact mu
  have hb : ∀ b, H b = none → b ≠ e := fun b n z => by
    subst z
    rcases he with r | r
    · exact hx b n r
    · rw [n] at r; cases r
  have hm : ∀ b u, H b = some u → ¬ Mut (some u) → b ≠ x := fun b u q nm z => by subst z; rw [q] at mu; exact nm mu
  refine ⟨fun b u q n _ _ => k b u (hb b n) q, fun b u q n _ _ => ⟨u.slots, k b u (hb b n) q⟩, fun b u q n _ => by rw [upd_ne (hx b n)]; exact n, fun b u q _ => ?_,
    fun b xs q => by rw [upd_ne (hm b _ q fun z => z)]; exact q, fun b u xs q => by rw [upd_ne (hm b _ q fun z => z)]; exact q, fun b ps q => ⟨#[], by rw [upd_ne (hm b _ q fun z => z), q]; simp⟩⟩
  by_cases hbe : b = e
  · subst hbe; exact heo
  · exact ⟨u, k b u hbe q⟩
theorem Un.mono (u : Un fs ex H H1 h h1) (hs : ∀ b ∈ fs, b ∈ fs') (hx : ∀ b ∈ ex, b ∈ ex') : Un fs' ex' H H1 h h1 :=
  ⟨fun b ob q n hb he => u.keep b ob q n (fun z => hb (hs b z)) fun z => he (hx b z), fun _ _ q n _ he => u.any q n fun z => he (hx _ z), fun b ob q n he => u.free b ob q n fun z => he (hx b z), fun b ob q he => u.there b ob q fun z => he (hx b z), u.tups, u.frzs, u.tbls⟩
end

def trk (h : Heap) (H : Hp) : List Addr := (List.range h.objs.size).filter fun a => (H a).isSome
def hidT (h : Heap) (H : Hp) : Heap := PySem.W.hideAll h (trk h H)
theorem hidT_size (h : Heap) (H : Hp) : (hidT h H).objs.size = h.objs.size := PySem.W.hideAll_size _ _
theorem hidT_get {h : Heap} {H : Hp} {b : Addr} {o : Obj} (e : h.get? b = some o) (n : H b = none) : (hidT h H).get? b = some o :=
  PySem.W.hideAll_get _ e fun hm => by
    have q : (H b).isSome = true := (List.mem_filter.mp hm).2
    rw [n] at q; simp at q
theorem of_hidT {h : Heap} {H : Hp} {b : Addr} {o : Obj} (e : (hidT h H).get? b = some o) : h.get? b = some o ∧ H b = none := by
  have e' : h.get? b = some o := PySem.W.of_hideAll (trk h H) e
  refine ⟨e', ?_⟩
  cases q : H b with
  | none => rfl
  | some x =>
    have hm : b ∈ trk h H := List.mem_filter.mpr ⟨List.mem_range.mpr (Heap.lt_size e'), by simp [q]⟩
    have z : (hidT h H).get? b = none := PySem.W.hideAll_none (trk h H) hm
    rw [z] at e; cases e

def allNews (g h : Heap) (L : Addr) : List (Addr × Obj) := (List.range h.objs.size).filterMap fun a => if a = L ∨ (g.get? a).isSome = true then none else (h.get? a).map fun o => (a, o)
def rest (g h : Heap) (L d : Addr) : List (Addr × Obj) := (allNews g h L).filter fun p => decide (p.1 ≠ d)
end L2

namespace L2
open PySem PySem.Spec PyProof.Rows

structure Mod (K : PySem.W.Frag) (mg : Str → Option Value) (base : Heap) : Prop where
  kin : K.In base
  glob : base.Ns mainGlobals mg
  blt : ∃ mb, base.Ns builtinsNs mb ∧ ∀ x : Str, x ≠ "__name__" → mb x = bootBuiltins x
  nolimit : base.NoLimit

/- the context: a def's body (or a comprehension's block) running. base: fixed through the whole law; s₀, H₀: the entry; outer: the frames whose slots others may change (a def's callers); stack: all frames that run;
   ex: iterators that were made ahead of the entry and are walked here (a comprehension's); fn: the names whose cells were made at the entry (a def: all; a comprehension's block: its own); calm: not within an except suite; pn: pins that every state bears; xe: what is wanted of an exception that leaves the code -/
structure Cx where
  prog : Program
  w : World
  K : PySem.W.Frag
  mg : Str → Option Value
  base : Heap
  A : Around
  N : List Str
  s₀ : Shared
  H₀ : Hp
  env : Env
  outer : List Env
  stack : List Env
  ex : List Addr
  fn : Str → Bool
  calm : Bool
  pn : List (Addr × Obj)
  xe : Value → Shared → Prop
def frs (l : List Env) : List Addr := l.filterMap (·.frame)
abbrev Cx.fs (X : Cx) : List Addr := frs X.outer

def Vis (sc : Scope) (x : Str) : Prop := sc.names.lookup x = some .local ∨ sc.names.lookup x = some .cell ∨ sc.names.lookup x = some .free
def Loc (sc : Scope) (x : Str) : Prop := sc.names.lookup x = some .local ∨ sc.names.lookup x = some .cell
def Look (env : Env) (h : Heap) (m : Str → Option Value) (x : Str) (u : Value) : Prop :=
  (env.kindOf x = some .local ∧ m x = some u) ∨ ((env.kindOf x = some .cell ∨ env.kindOf x = some .free) ∧ ∃ c, env.cells.lookup x = some c ∧ h.IsCell c (some u))

structure Cx.Ok (X : Cx) : Prop where
  mod : Mod X.K X.mg X.base
  kind : X.env.scope.kind = .function
  glob : X.env.globals = mainGlobals
  blt : X.env.builtins = builtinsNs
  above : X.s₀.heap.objs.size ≤ X.env.locals
  inj : ∀ x y c, X.env.cells.lookup x = some c → X.env.cells.lookup y = some c → x = y
  has : ∀ x, (X.env.kindOf x = some .cell ∨ X.env.kindOf x = some .free) → ∃ c, X.env.cells.lookup x = some c
  cab : ∀ x c, X.fn x = true → X.env.cells.lookup x = some c → X.s₀.heap.objs.size ≤ c
  hd : X.calm = true → X.A.handled = none
  frames : X.A.frames = some X.stack
  stk : X.stack = X.outer ∨ (X.stack = X.env :: X.outer ∧ X.env.frame = some X.env.locals)
  exf : ∀ b ∈ X.ex, b ≠ X.env.locals ∧ ∀ x c, X.env.cells.lookup x = some c → c ≠ b
  bs : ∀ b o, X.base.get? b = some o → X.s₀.heap.get? b = some o ∧ X.H₀ b = none
  bsz : X.base.objs.size ≤ X.s₀.heap.objs.size
  noex : ∀ b o, X.base.get? b = some o → b ∉ X.ex
  exfs : ∀ b ∈ X.ex, b ∉ X.fs
  funs : X.s₀.heap.FunFrames X.base X.outer
  frf : ∀ b ∈ X.fs, X.H₀ b = none

structure Inv (X : Cx) (pins : List (Addr × Obj)) (σ : List (Option V)) (H : Hp) (s : Shared) : Prop where
  ok : X.Ok
  os : s.os = X.s₀.os
  bare : AllBare s.gens
  base : Un X.fs X.ex X.H₀ H X.s₀.heap s.heap
  loc : ∃ m, s.heap.Ns X.env.locals m ∧ ∀ (i : Nat) (x : Str) (v : V), X.N[i]? = some x → σ[i]? = some (some v) → Vis X.env.scope x → ∃ u, RelV v u ∧ Look X.env s.heap m x u
  cell : ∀ x c, X.env.cells.lookup x = some c → ∃ v, s.heap.IsCell c v
  free : H X.env.locals = none
  freeC : ∀ x c, X.env.cells.lookup x = some c → H c = none
  pin : ∀ p ∈ X.pn ++ pins, s.heap.get? p.1 = some p.2 ∧ H p.1 = none ∧ p.1 ≠ X.env.locals ∧ p.1 ∉ X.fs ∧ ∀ v, p.2.data ≠ .cell v
  hok : HOk X.prog X.w H s.heap
  len : σ.length = X.N.length

section
variable {X : Cx} {pins : List (Addr × Obj)} {σ : List (Option V)} {H H' : Hp} {s : Shared} {h' : Heap}

theorem Cx.Ok.nofr (ok : X.Ok) {b : Addr} {o : Obj} (e : X.base.get? b = some o) : b ∉ X.fs := fun hb => by
  have := (ok.funs.mem hb).1
  rw [e] at this; cases this
theorem Inv.bs (I : Inv X pins σ H s) : ∀ b o, X.base.get? b = some o → s.heap.get? b = some o ∧ H b = none := fun b o e =>
  ⟨I.base.keep b o (I.ok.bs b o e).1 (I.ok.bs b o e).2 (I.ok.nofr e) (I.ok.noex b o e), I.base.free b o (I.ok.bs b o e).1 (I.ok.bs b o e).2 (I.ok.noex b o e)⟩
theorem Inv.bk (I : Inv X pins σ H s) : ∀ b o, X.base.get? b = some o → s.heap.get? b = some o := fun b o e => (I.bs b o e).1
theorem Inv.mod (I : Inv X pins σ H s) : Mod X.K X.mg X.base := I.ok.mod
theorem Inv.kIn (I : Inv X pins σ H s) : X.K.In s.heap := I.ok.mod.kin.keeps I.bk
theorem Inv.nolimit (I : Inv X pins σ H s) : s.heap.NoLimit := I.ok.mod.nolimit.keeps I.bk
theorem Inv.fr (I : Inv X pins σ H s) : ∃ m, Fr X.base X.env.locals s.heap m :=
  let ⟨m, hn, _⟩ := I.loc
  ⟨m, hn, I.bk, Nat.le_trans I.ok.bsz I.ok.above⟩
theorem Inv.lt (I : Inv X pins σ H s) : X.env.locals < s.heap.objs.size := let ⟨_, hn, _⟩ := I.loc; hn.lt
theorem Inv.sz (I : Inv X pins σ H s) : X.s₀.heap.objs.size ≤ s.heap.objs.size := Nat.le_trans I.ok.above (Nat.le_of_lt I.lt)
theorem Inv.nofs (I : Inv X pins σ H s) {a : Addr} (h : s.heap.objs.size ≤ a) : a ∉ X.fs := fun hb => by
  obtain ⟨_, o, ho, _⟩ := I.ok.funs.mem hb
  exact absurd (Nat.lt_of_lt_of_le (Heap.lt_size ho) (Nat.le_trans I.sz h)) (Nat.lt_irrefl _)
theorem Inv.cne (I : Inv X pins σ H s) : ∀ x c, X.env.cells.lookup x = some c → c ≠ X.env.locals := fun x c e z => by
  obtain ⟨v, o, ho, hd⟩ := I.cell x c e
  obtain ⟨m, ⟨o', es, ep, ho', hd', _⟩, _⟩ := I.loc
  rw [z, ho'] at ho; cases ho; rw [hd'] at hd; cases hd
theorem Inv.funs (I : Inv X pins σ H s) : s.heap.FunFrames X.base X.outer := by
  have all : ∀ (l : List Env), (∀ b ∈ frs l, b ∈ X.fs) → X.s₀.heap.FunFrames X.base l → s.heap.FunFrames X.base l := by
    intro l
    induction l with
    | nil => intro _ _; trivial
    | cons env r ih =>
      intro hs hl
      obtain ⟨hk, ⟨L, o, hf, hn, ho, hd⟩, hr⟩ := hl
      have hL : L ∈ X.fs := hs L (by unfold frs; rw [List.filterMap_cons, hf]; exact List.mem_cons_self)
      obtain ⟨sl, e⟩ := I.base.slot L o ho (I.ok.frf L hL) hL fun z => I.ok.exfs L z hL
      exact ⟨hk, ⟨L, _, hf, hn, e, hd⟩, ih (fun b hb => hs b (by unfold frs; rw [List.filterMap_cons, hf]; exact List.mem_cons_of_mem _ hb)) hr⟩
  exact all X.outer (fun _ hb => hb) I.ok.funs

theorem Inv.stack (I : Inv X pins σ H s) : s.heap.FunFrames X.base X.stack := by
  rcases I.ok.stk with e | ⟨e, hf⟩
  · rw [e]; exact I.funs
  · rw [e]
    obtain ⟨m, hn, _⟩ := I.loc
    refine .cons (by rw [I.ok.kind]; decide) hf hn ?_ I.funs
    exact Heap.get?_none_of_le (Nat.le_trans I.ok.bsz I.ok.above)
theorem Inv.stkSub (I : Inv X pins σ H s) : ∀ b ∈ frs X.stack, b ∈ X.env.locals :: X.fs := fun b hb => by
  rcases I.ok.stk with e | ⟨e, hf⟩
  · rw [e] at hb; exact List.mem_cons_of_mem _ hb
  · rw [e] at hb
    unfold frs at hb
    rw [List.filterMap_cons, hf] at hb
    exact hb
theorem Inv.stkFree (I : Inv X pins σ H s) : ∀ b ∈ frs X.stack, H b = none := fun b hb => by
  rcases List.mem_cons.mp (I.stkSub b hb) with e | hb
  · rw [e]; exact I.free
  · obtain ⟨_, o, ho, _⟩ := I.ok.funs.mem hb
    exact I.base.free b o ho (I.ok.frf b hb) fun z => I.ok.exfs b z hb

theorem Inv.step {g' : Array GenState} {t' : Nat} {d' : Drawn} {ch : List Addr} (I : Inv X pins σ H s)
    (hch : ∀ b ∈ ch, (b ∈ X.ex ∨ X.s₀.heap.objs.size ≤ b) ∧ b ≠ X.env.locals ∧ (∀ x c, X.env.cells.lookup x = some c → c ≠ b) ∧ ∀ p ∈ X.pn ++ pins, p.1 ≠ b)
    (keep : ∀ b o, b ≠ X.env.locals → b ∉ X.fs → b ∉ ch → s.heap.get? b = some o → H b = none → h'.get? b = some o)
    (slot : ∀ b o, b ≠ X.env.locals → b ∈ X.fs → b ∉ ch → s.heap.get? b = some o → H b = none → ∃ sl, h'.get? b = some { o with slots := sl }) (free : ∀ b o, b ∉ ch → s.heap.get? b = some o → H b = none → H' b = none)
    (there : ∀ b o, b ∉ ch → s.heap.get? b = some o → ∃ o', h'.get? b = some o')
    (tups : ∀ b xs, H b = some (.tup xs) → H' b = some (.tup xs)) (frzs : ∀ b o u, H b = some (.frz o u) → H' b = some (.frz o u)) (tbls : ∀ b ps, H b = some (.tbl ps) → ∃ more, H' b = some (.tbl (ps ++ more)))
    (ns : ∀ m, s.heap.Ns X.env.locals m → h'.Ns X.env.locals m) (hok : HOk X.prog X.w H' h') (hg : AllBare g') :
    Inv X pins σ H' { s with heap := h', gens := g', drawn := d', toks := t' } := by
  have neL : ∀ b o, X.s₀.heap.get? b = some o → b ≠ X.env.locals := fun b o e => Nat.ne_of_lt (Nat.lt_of_lt_of_le (Heap.lt_size e) I.ok.above)
  have neC : ∀ b o, X.s₀.heap.get? b = some o → b ∉ X.ex → b ∉ ch := fun b o e hx hb => by
    rcases (hch b hb).1 with z | z
    · exact hx z
    · exact absurd (Nat.lt_of_lt_of_le (Heap.lt_size e) z) (Nat.lt_irrefl _)
  have cellK : ∀ x c, X.env.cells.lookup x = some c → ∀ v, s.heap.IsCell c v → h'.IsCell c v := fun x c e v ⟨o, ho, hd⟩ => by
    have nch : c ∉ ch := fun z => (hch c z).2.2.1 x c e rfl
    by_cases hc : c ∈ X.fs
    · obtain ⟨sl, q⟩ := slot c o (I.cne x c e) hc nch ho (I.freeC x c e)
      exact ⟨_, q, hd⟩
    · exact ⟨o, keep c o (I.cne x c e) hc nch ho (I.freeC x c e), hd⟩
  refine ⟨I.ok, I.os, hg, ⟨fun b o e n hb hx => ?_, fun b o e n hb hx => ?_, fun b o e n hx => ?_, fun b o e hx => ?_, fun b xs e => tups b xs (I.base.tups b xs e), fun b o xs e => frzs b o xs (I.base.frzs b o xs e), fun b ps e => ?_⟩, ?_, fun x c e => ?_, ?_, fun x c e => ?_, fun p hp => ?_, hok, I.len⟩
  · exact keep b o (neL b o e) hb (neC b o e hx) (I.base.keep b o e n hb hx) (I.base.free b o e n hx)
  · obtain ⟨sl, e1⟩ := I.base.slot b o e n hb hx
    obtain ⟨sl', e2⟩ := slot b _ (neL b o e) hb (neC b o e hx) e1 (I.base.free b o e n hx)
    exact ⟨sl', e2⟩
  · obtain ⟨o', e1⟩ := I.base.there b o e hx
    exact free b o' (neC b o e hx) e1 (I.base.free b o e n hx)
  · obtain ⟨o', e1⟩ := I.base.there b o e hx
    exact there b o' (neC b o e hx) e1
  · obtain ⟨m1, e1⟩ := I.base.tbls b ps e
    obtain ⟨m2, e2⟩ := tbls b _ e1
    exact ⟨m1 ++ m2, by rw [e2, Array.append_assoc]⟩
  · obtain ⟨m, hn, hl⟩ := I.loc
    refine ⟨m, ns m hn, fun i x v e1 e2 e3 => ?_⟩
    obtain ⟨u, r, l⟩ := hl i x v e1 e2 e3
    refine ⟨u, r, ?_⟩
    rcases l with l | ⟨k, c, e, z⟩
    · exact .inl l
    · exact .inr ⟨k, c, e, cellK x c e _ z⟩
  · obtain ⟨v, z⟩ := I.cell x c e
    exact ⟨v, cellK x c e v z⟩
  · obtain ⟨m, ⟨o, _, _, ho, _⟩, _⟩ := I.loc
    exact free _ o (fun z => (hch _ z).2.1 rfl) ho I.free
  · obtain ⟨v, o, ho, hd⟩ := I.cell x c e
    exact free c o (fun z => (hch c z).2.2.1 x c e rfl) ho (I.freeC x c e)
  · obtain ⟨e, n, ne, nf, d⟩ := I.pin p hp
    have nch : p.1 ∉ ch := fun z => (hch p.1 z).2.2.2 p hp rfl
    exact ⟨keep p.1 p.2 ne nf nch e n, free p.1 p.2 nch e n, ne, nf, d⟩
theorem Inv.un {t' : Nat} (I : Inv X pins σ H s) (u : Un X.fs [] H H' s.heap h') (hok : HOk X.prog X.w H' h') : Inv X pins σ H' { s with heap := h', toks := t' } := by
  obtain ⟨m, ⟨o, es, ep, ho, r⟩, _⟩ := id I.loc
  obtain ⟨sl, hL⟩ := u.any ho I.free (by simp)
  exact I.step (g' := s.gens) (d' := s.drawn) (ch := []) (fun _ z => nomatch z) (fun b o _ hb _ e n => u.keep b o e n hb (by simp)) (fun b o _ hb _ e n => u.slot b o e n hb (by simp)) (fun b o _ e n => u.free b o e n (by simp)) (fun b o _ e => u.there b o e (by simp)) u.tups u.frzs u.tbls (fun m' hm => by
    obtain ⟨o', es', ep', ho', r'⟩ := hm
    rw [ho] at ho'; cases ho'
    exact ⟨_, es', ep', hL, r'⟩) hok I.bare
theorem Inv.call {g' : Array GenState} {t' : Nat} {d' : Drawn} {ch : List Addr} (I : Inv X pins σ H s) (u : Un (frs X.stack) ch H H' s.heap h') (hok : HOk X.prog X.w H' h') (hg : AllBare g')
    (hch : ∀ b ∈ ch, (b ∈ X.ex ∨ X.s₀.heap.objs.size ≤ b) ∧ b ≠ X.env.locals ∧ (∀ x c, X.env.cells.lookup x = some c → c ≠ b) ∧ ∀ p ∈ X.pn ++ pins, p.1 ≠ b) :
    Inv X pins σ H' { s with heap := h', gens := g', drawn := d', toks := t' } := by
  obtain ⟨m, ⟨o, es, ep, ho, r⟩, _⟩ := id I.loc
  obtain ⟨sl, hL⟩ := u.any ho I.free fun z => (hch _ z).2.1 rfl
  exact I.step (ch := ch) hch (fun b o hL hb hc e n => u.keep b o e n (fun z => (List.mem_cons.mp (I.stkSub b z)).elim hL hb) hc) (fun b o _ _ hc e n => u.any e n hc) (fun b o hc e n => u.free b o e n hc) (fun b o hc e => u.there b o e hc) u.tups u.frzs u.tbls (fun m' hm => by
    obtain ⟨o', es', ep', ho', r'⟩ := hm
    rw [ho] at ho'; cases ho'
    exact ⟨_, es', ep', hL, r'⟩) hok hg
theorem Inv.turned {t' : Nat} {it : Addr} (I : Inv X pins σ H s) (k : ∀ b o, b ≠ it → s.heap.get? b = some o → h'.get? b = some o) (hn : H it = none) (hL : it ≠ X.env.locals)
    (h1 : it ∈ X.ex ∨ X.s₀.heap.objs.size ≤ it) (h2 : ∀ x c, X.env.cells.lookup x = some c → c ≠ it) (h3 : ∀ p ∈ X.pn ++ pins, p.1 ≠ it) : Inv X pins σ H { s with heap := h', toks := t' } := by
  have nit : ∀ b u, H b = some u → b ≠ it := fun b u e z => by rw [z, hn] at e; cases e
  refine I.step (g' := s.gens) (d' := s.drawn) (ch := [it]) (fun b hb => ?_) (fun b o _ _ hc e _ => k b o (fun z => hc (by simp [z])) e) (fun b o _ _ hc e _ => ⟨o.slots, k b o (fun z => hc (by simp [z])) e⟩) (fun _ _ _ _ n => n)
    (fun b o hc e => ⟨o, k b o (fun z => hc (by simp [z])) e⟩) (fun _ _ e => e) (fun _ _ _ e => e) (fun b ps e => ⟨#[], by rw [e]; simp⟩) (fun m hm => ?_) (fun b u e => ?_) I.bare
  · have e : b = it := by simpa using hb
    subst e
    exact ⟨h1, hL, h2, h3⟩
  · obtain ⟨o, es, ep, ho, r⟩ := hm
    exact ⟨o, es, ep, k _ o (Ne.symm hL) ho, r⟩
  · refine (I.hok b u e).stay (fun c v hc q => k c v ?_ q) (fun _ q => q) fun _ _ q => q
    rcases hc with z | z
    · rw [z]; exact nit b u e
    · exact nit c _ z
theorem Inv.tok (I : Inv X pins σ H s) (t : Nat) : Inv X pins σ H { s with toks := t } := I.un (h' := s.heap) (t' := t) Un.refl I.hok
theorem Inv.kept {t' : Nat} (I : Inv X pins σ H s) (k : ∀ b u, s.heap.get? b = some u → h'.get? b = some u) : Inv X pins σ H { s with heap := h', toks := t' } := I.un (Un.kept k) (I.hok.kept k)
theorem Inv.laid {a : Addr} {o : HO} {t' : Nat} (I : Inv X pins σ H s) (k : ∀ b u, s.heap.get? b = some u → h'.get? b = some u) (hp : s.heap.objs.size ≤ a) (new : ObjOk X.prog X.w (upd H a o) h' a o) :
    Inv X pins σ (upd H a o) { s with heap := h', toks := t' } := I.un (Un.laid k hp (I.hok.fresh hp)) (I.hok.laid k hp new)
theorem Inv.write {x e : Addr} {o : HO} {t' : Nat} (I : Inv X pins σ H s) (mu : Mut (H x)) (he : e = x ∨ H e = some (.own x)) (k : ∀ b u, b ≠ e → s.heap.get? b = some u → h'.get? b = some u) (heo : ∃ u, h'.get? e = some u)
    (new : ObjOk X.prog X.w (upd H x o) h' x o) : Inv X pins σ (upd H x o) { s with heap := h', toks := t' } := I.un (Un.write mu he k heo) (I.hok.write mu he k heo new)
theorem Inv.weak {σ' : List (Option V)} (I : Inv X pins σ H s) (hl : σ'.length = σ.length) (w : ∀ (i : Nat) v, σ'[i]? = some (some v) → σ[i]? = some (some v)) : Inv X pins σ' H s :=
  ⟨I.ok, I.os, I.bare, I.base, let ⟨m, hn, hl'⟩ := I.loc; ⟨m, hn, fun i x v e1 e2 e3 => hl' i x v e1 (w i v e2) e3⟩, I.cell, I.free, I.freeC, I.pin, I.hok, hl.trans I.len⟩
theorem Inv.pins_of {pins' : List (Addr × Obj)} (I : Inv X pins σ H s) (h : ∀ p ∈ pins', s.heap.get? p.1 = some p.2 ∧ H p.1 = none ∧ p.1 ≠ X.env.locals ∧ p.1 ∉ X.fs ∧ ∀ v, p.2.data ≠ .cell v) : Inv X pins' σ H s :=
  ⟨I.ok, I.os, I.bare, I.base, I.loc, I.cell, I.free, I.freeC, fun p hp => (List.mem_append.mp hp).elim (fun z => I.pin p (List.mem_append_left _ z)) (h p), I.hok, I.len⟩

theorem nodup_ix {N : List Str} (hN : N.Nodup) {i j : Nat} {x : Str} (a : N[i]? = some x) (b : N[j]? = some x) : i = j := by
  obtain ⟨h1, e1⟩ := List.getElem?_eq_some_iff.mp a
  obtain ⟨h2, e2⟩ := List.getElem?_eq_some_iff.mp b
  exact (List.getElem_inj hN).mp (e1.trans e2.symm)

theorem store_ok2 {M : Model} {A : Around} {E : Value → Shared → Prop} {i : Nat} {x : Str} {v : V} {u : Value} {Q : Unit → Shared → Prop} (I : Inv X pins σ H s) (hN : X.N.Nodup) (hi : X.N[i]? = some x) (hx : Loc X.env.scope x) (r : RelV v u)
    (h : ∀ s', Inv X pins (σ.set i (some v)) H s' → (∃ a, Heap.SameBut a s.heap s'.heap ∧ (a = X.env.locals ∨ X.env.cells.lookup x = some a)) → Q () s') (hf : X.fn x = true ∨ X.env.scope.names.lookup x = some .local := by first | exact .inl rfl | exact .inr rfl | assumption) : wpAny M A (storeName X.env x u) Q E s := by
  obtain ⟨m, hn, hl⟩ := id I.loc
  have hcls : (X.env.scope.kind == .class || (X.env.scope.kind == .module && X.env.locals != X.env.globals)) = false := by rw [I.ok.kind]; rfl
  have hiσ : i < σ.length := by rw [I.len]; exact (List.getElem?_eq_some_iff.mp hi).1
  have cne := I.cne
  have tracked : ∀ {a : Addr} {h' : Heap}, (∃ o, s.heap.get? a = some o ∧ H a = none) → Heap.SameBut a s.heap h' → HOk X.prog X.w H h' := fun {a h'} ha hs b ob e => by
    obtain ⟨_, _, hfree⟩ := ha
    refine (I.hok b ob e).stay (fun c w' hc q => (hs.2 c ?_).trans q) (fun _ q => q) fun _ _ q => q
    rintro rfl
    rcases hc with rfl | hc
    · rw [hfree] at e; cases e
    · rw [hfree] at hc; cases hc
  rcases hx with hk | hk
  · refine wpAny_storeName_local hk hn (fun h' hn' hs => ?_) hcls
    obtain ⟨oL, _, _, hoL, _⟩ := id hn
    refine h _ ⟨I.ok, I.os, I.bare, ⟨fun b o e n hb hx => ?_, fun b o e n hb hx => ?_, I.base.free, fun b o e hx => ?_, I.base.tups, I.base.frzs, I.base.tbls⟩, ⟨_, hn', fun j y v' e1 e2 e3 => ?_⟩, fun y c e => ?_, I.free, I.freeC, fun p hp => ?_, tracked ⟨oL, hoL, I.free⟩ hs, by simpa using I.len⟩ ⟨_, hs, .inl rfl⟩
    · exact (hs.2 b (Nat.ne_of_lt (Nat.lt_of_lt_of_le (Heap.lt_size e) I.ok.above))).trans (I.base.keep b o e n hb hx)
    · obtain ⟨sl, e1⟩ := I.base.slot b o e n hb hx
      exact ⟨sl, (hs.2 b (Nat.ne_of_lt (Nat.lt_of_lt_of_le (Heap.lt_size e) I.ok.above))).trans e1⟩
    · obtain ⟨o', e1⟩ := I.base.there b o e hx
      exact ⟨o', (hs.2 b (Nat.ne_of_lt (Nat.lt_of_lt_of_le (Heap.lt_size e) I.ok.above))).trans e1⟩
    · by_cases hj : j = i
      · subst hj
        rw [hi] at e1; cases e1
        rw [List.getElem?_set_self hiσ] at e2
        cases e2
        exact ⟨u, r, .inl ⟨hk, by simp⟩⟩
      · rw [List.getElem?_set_ne (Ne.symm hj)] at e2
        obtain ⟨u', r', q⟩ := hl j y v' e1 e2 e3
        refine ⟨u', r', ?_⟩
        rcases q with ⟨k, e⟩ | ⟨k, c, e, z⟩
        · refine .inl ⟨k, ?_⟩
          have : y ≠ x := fun e => hj (nodup_ix hN e1 (e ▸ hi))
          simp [this, e]
        · exact .inr ⟨k, c, e, z.sameBut hs (cne y c e)⟩
    · obtain ⟨w', z⟩ := I.cell y c e
      exact ⟨w', z.sameBut hs (cne y c e)⟩
    · obtain ⟨e, n, ne, nf, d⟩ := I.pin p hp
      exact ⟨(hs.2 p.1 ne).trans e, n, ne, nf, d⟩
  · have hfn : X.fn x = true := by
      rcases hf with z | z
      · exact z
      · rw [z] at hk; cases hk
    obtain ⟨c, hc⟩ := I.ok.has x (.inl hk)
    obtain ⟨w', z⟩ := I.cell x c hc
    refine wpAny_storeName_cell I.ok.kind hk hc z (fun h' hc' hs => ?_)
    obtain ⟨oc, hoc, hocd⟩ := id z
    refine h { s with heap := h' } ⟨I.ok, I.os, I.bare, ⟨fun b o e n hb hx => ?_, fun b o e n hb hx => ?_, I.base.free, fun b o e hx => ?_, I.base.tups, I.base.frzs, I.base.tbls⟩, ⟨m, hn.sameBut hs (Ne.symm (cne x c hc)), fun j y v' e1 e2 e3 => ?_⟩, fun y c' e => ?_, I.free, I.freeC, fun p hp => ?_, tracked ⟨oc, hoc, I.freeC x c hc⟩ hs, by simpa using I.len⟩ ⟨c, hs, .inr hc⟩
    · exact (hs.2 b (Nat.ne_of_lt (Nat.lt_of_lt_of_le (Heap.lt_size e) (I.ok.cab x c hfn hc)))).trans (I.base.keep b o e n hb hx)
    · obtain ⟨sl, e1⟩ := I.base.slot b o e n hb hx
      exact ⟨sl, (hs.2 b (Nat.ne_of_lt (Nat.lt_of_lt_of_le (Heap.lt_size e) (I.ok.cab x c hfn hc)))).trans e1⟩
    · obtain ⟨o', e1⟩ := I.base.there b o e hx
      exact ⟨o', (hs.2 b (Nat.ne_of_lt (Nat.lt_of_lt_of_le (Heap.lt_size e) (I.ok.cab x c hfn hc)))).trans e1⟩
    · by_cases hj : j = i
      · subst hj
        rw [hi] at e1; cases e1
        rw [List.getElem?_set_self hiσ] at e2
        cases e2
        exact ⟨u, r, .inr ⟨.inl hk, c, hc, hc'⟩⟩
      · rw [List.getElem?_set_ne (Ne.symm hj)] at e2
        obtain ⟨u', r', q⟩ := hl j y v' e1 e2 e3
        refine ⟨u', r', ?_⟩
        rcases q with q | ⟨k, c', e, z'⟩
        · exact .inl q
        · refine .inr ⟨k, c', e, z'.sameBut hs ?_⟩
          rintro rfl
          exact hj (nodup_ix hN e1 (I.ok.inj _ _ _ e hc ▸ hi))
    · by_cases hcc : c' = c
      · subst hcc; exact ⟨_, hc'⟩
      · obtain ⟨w2, z2⟩ := I.cell y c' e
        exact ⟨w2, z2.sameBut hs hcc⟩
    · obtain ⟨e, n, ne, nf, d⟩ := I.pin p hp
      refine ⟨(hs.2 p.1 ?_).trans e, n, ne, nf, d⟩
      intro q
      rw [q, hoc] at e
      have q' : oc = p.2 := Option.some.inj e
      exact d w' (by rw [← q']; exact hocd)
theorem store_ok {M : Model} {A : Around} {E : Value → Shared → Prop} {i : Nat} {x : Str} {v : V} {u : Value} {Q : Unit → Shared → Prop} (I : Inv X pins σ H s) (hN : X.N.Nodup) (hi : X.N[i]? = some x) (hx : Loc X.env.scope x) (r : RelV v u)
    (h : ∀ s', Inv X pins (σ.set i (some v)) H s' → Q () s') (hf : X.fn x = true ∨ X.env.scope.names.lookup x = some .local := by first | exact .inl rfl | exact .inr rfl | assumption) : wpAny M A (storeName X.env x u) Q E s :=
  store_ok2 I hN hi hx r (fun s' I' _ => h s' I') hf
theorem Inv.call' {s' : Shared} {ch : List Addr} (I : Inv X pins σ H s) (ho : s'.os = s.os) (u : Un (frs X.stack) ch H H' s.heap s'.heap) (hok : HOk X.prog X.w H' s'.heap) (hg : AllBare s'.gens)
    (hch : ∀ b ∈ ch, (b ∈ X.ex ∨ X.s₀.heap.objs.size ≤ b) ∧ b ≠ X.env.locals ∧ (∀ x c, X.env.cells.lookup x = some c → c ≠ b) ∧ ∀ p ∈ X.pn ++ pins, p.1 ≠ b) : Inv X pins σ H' s' := by
  obtain ⟨h', g', d', t', o'⟩ := s'
  have e : o' = s.os := ho
  subst e
  exact I.call (g' := g') (t' := t') (d' := d') u hok hg hch
end

abbrev XK := Value → Option Addr → Hp → Prop
abbrev St := List (Option V)
abbrev VK := V → Hp → Prop
abbrev TE := St → Hp → VK → Prop
abbrev TT := St → Hp → (Bool → Hp → Prop) → Prop
abbrev TA := St → Hp → (List V → Hp → Prop) → Prop
structure Ends where
  nx : St → Hp → Prop
  rt : VK
  bk : St → Hp → Prop := fun _ _ => False
  ct : St → Hp → Prop := fun _ _ => False
abbrev TS := Ends → St → Hp → Prop

def EP (X : Cx) (pins : List (Addr × Obj)) (σ : St) (Q : VK) (u : Value) (s' : Shared) : Prop := ∃ v H', Inv X pins σ H' s' ∧ RelV v u ∧ Q v H'
def TP (X : Cx) (pins : List (Addr × Obj)) (σ : St) (Q : Bool → Hp → Prop) (b : Bool) (s' : Shared) : Prop := ∃ H', Inv X pins σ H' s' ∧ Q b H'
def AP (X : Cx) (pins : List (Addr × Obj)) (σ : St) (Q : List V → Hp → Prop) (us : List Value) (s' : Shared) : Prop := ∃ vs H', Inv X pins σ H' s' ∧ Vals vs us ∧ Q vs H'
def SP (X : Cx) (pins : List (Addr × Obj)) (D : Ends) (f : Flow) (s' : Shared) : Prop :=
  match f with
  | .next => ∃ σ' H', Inv X pins σ' H' s' ∧ D.nx σ' H'
  | .brk => ∃ σ' H', Inv X pins σ' H' s' ∧ D.bk σ' H'
  | .cont => ∃ σ' H', Inv X pins σ' H' s' ∧ D.ct σ' H'
  | .ret u => ∃ v σ' H', Inv X pins σ' H' s' ∧ RelV v u ∧ D.rt v H'

def PE (X : Cx) (e : Expr) (t : TE) : Prop :=
  ∀ (pins : List (Addr × Obj)) (s : Shared) (σ : St) (H : Hp) (Q : VK), Inv X pins σ H s → t σ H Q → wpAny (model X.prog X.w) X.A (eval e X.env) (EP X pins σ Q) X.xe s
def PT (X : Cx) (e : Expr) (t : TT) : Prop :=
  ∀ (pins : List (Addr × Obj)) (s : Shared) (σ : St) (H : Hp) (Q : Bool → Hp → Prop), Inv X pins σ H s → t σ H Q → wpAny (model X.prog X.w) X.A (isTrue e X.env (eval e X.env)) (TP X pins σ Q) X.xe s
def PW (X : Cx) (e : Expr) (t : TT) : Prop :=
  ∀ (whole : Sem Value) (pins : List (Addr × Obj)) (s : Shared) (σ : St) (H : Hp) (Q : Bool → Hp → Prop), Inv X pins σ H s → t σ H Q → wpAny (model X.prog X.w) X.A (isTrue e X.env whole) (TP X pins σ Q) X.xe s
theorem PW.pt {X : Cx} {e : Expr} {t : TT} (h : PW X e t) : PT X e t := h _
def PA (X : Cx) (es : List Expr) (t : TA) : Prop :=
  ∀ (pos : Pos) (pins : List (Addr × Obj)) (s : Shared) (σ : St) (H : Hp) (Q : List V → Hp → Prop), Inv X pins σ H s → t σ H Q → wpAny (model X.prog X.w) X.A (spliced (backTo pos (starEach es X.env))) (AP X pins σ Q) X.xe s
def PS (X : Cx) (st : Stmt) (t : TS) : Prop :=
  ∀ (pins : List (Addr × Obj)) (s : Shared) (σ : St) (H : Hp) (D : Ends), Inv X pins σ H s → t D σ H → wpAny (model X.prog X.w) X.A (exec st X.env) (SP X pins D) X.xe s
def PSs (X : Cx) (st : List Stmt) (t : TS) : Prop :=
  ∀ (pins : List (Addr × Obj)) (s : Shared) (σ : St) (H : Hp) (D : Ends), Inv X pins σ H s → t D σ H → wpAny (model X.prog X.w) X.A (execs st X.env) (SP X pins D) X.xe s
theorem thn {α : Type} {t : Sem α} {Q Q' : α → Shared → Prop} {M : Model} {A : Around} {E : Value → Shared → Prop} {s : Shared} (h : wpAny M A t Q E s) (hQ : ∀ a s, Q a s → Q' a s) : wpAny M A t Q' E s := wpAny_mono h hQ fun _ _ x => x
end L2

namespace L2
open PySem PySem.Spec PyProof.Rows
section
variable {X : Cx}

def tVar (i : Nat) : TE := fun σ H Q => ∃ v, σ[i]? = some (some v) ∧ Q v H
def tC (v : V) : TE := fun _ H Q => Q v H
theorem pe_var {i : Nat} {x : Str} {pos : Pos} (hN : X.N[i]? = some x) (hv : Vis X.env.scope x) (hd : (x == ("__debug__" : Str)) = false := by decide) (hcd : (x == ("__classdict__" : Str)) = false := by decide) : PE X (.Name x pos) (tVar i) := by
  intro pins s σ H Q I h
  obtain ⟨v, e, h⟩ := h
  obtain ⟨m, hn, hl⟩ := I.loc
  obtain ⟨u, r, l⟩ := hl i x v hN e hv
  have fin : EP X pins σ Q u s := ⟨v, H, I, r, h⟩
  rcases l with ⟨hk, hm⟩ | ⟨hk, c, hc, hcell⟩
  · exact wpAny_Name (wpAny_loadName_local I.ok.kind hk hn hm fin) hd
  · rcases hk with hk | hk
    · exact wpAny_Name (wpAny_loadName_cell I.ok.kind hk hc hcell fin) hd
    · exact wpAny_Name (wpAny_loadName_free I.ok.kind hk hc hcell fin hcd) hd
theorem pe_int {i j pos} : PE X (.Constant (.int i) j pos) (tC (.int i)) := fun _ _ _ H _ I h => wpAny_Constant_int ⟨.int i, H, I.tok _, ⟨_, rfl⟩, h⟩
theorem pe_bl {b j pos} : PE X (.Constant (.bool b) j pos) (tC (.bl b)) := fun _ _ _ H _ I h => Constant_bool ⟨.bl b, H, I, rfl, h⟩
theorem pe_non {j pos} : PE X (.Constant .none j pos) (tC .non) := fun _ _ _ H _ I h => Constant_none ⟨.non, H, I, rfl, h⟩
theorem pe_str {x j pos} : PE X (.Constant (.str x) j pos) (tC (.str x)) := fun _ _ _ H _ I h => Calls.Constant_str ⟨.str x, H, I.tok _, ⟨_, rfl⟩, h⟩

def Gl (X : Cx) (x : Str) : Prop := X.env.kindOf x = some .globalImplicit
theorem ld_glob {E : Value → Shared → Prop} {pins : List (Addr × Obj)} {s : Shared} {σ : St} {H : Hp} {x : Str} {u : Value} {pos : Pos} {Q : Value → Shared → Prop} (I : Inv X pins σ H s) (hg : Gl X x) (hm : X.mg x = some u) (h : Q u s)
    (hd : (x == ("__debug__" : Str)) = false := by decide) : wpAny (model X.prog X.w) X.A (eval (.Name x pos) X.env) Q E s :=
  Calls.Name_function_global I.ok.kind hg (Calls.loadGlobal_global (by rw [I.ok.glob]; exact I.mod.glob.keeps I.bk) hm h) hd
theorem ld_blt {E : Value → Shared → Prop} {pins : List (Addr × Obj)} {s : Shared} {σ : St} {H : Hp} {x : Str} {u : Value} {pos : Pos} {Q : Value → Shared → Prop} (I : Inv X pins σ H s) (hg : Gl X x) (hm : X.mg x = none) (hv : bootBuiltins x = some u) (h : Q u s)
    (hn : x ≠ "__name__" := by decide) (hd : (x == ("__debug__" : Str)) = false := by decide) : wpAny (model X.prog X.w) X.A (eval (.Name x pos) X.env) Q E s := by
  obtain ⟨mb, h1, h2⟩ := I.mod.blt
  exact Calls.Name_function_global I.ok.kind hg (Calls.loadGlobal_builtin (by rw [I.ok.glob]; exact I.mod.glob.keeps I.bk) hm (by rw [I.ok.blt]; exact h1.keeps I.bk) ((h2 x hn).trans hv) h) hd
theorem pe_glob {x : Str} {v : V} {u : Value} {pos : Pos} (hg : Gl X x) (hm : X.mg x = some u) (r : RelV v u) (hd : (x == ("__debug__" : Str)) = false := by decide) : PE X (.Name x pos) (tC v) :=
  fun _ _ _ H _ I h => ld_glob I hg hm ⟨v, H, I, r, h⟩ hd
theorem pe_bltn {x : Str} {v : V} {u : Value} {pos : Pos} (hg : Gl X x) (hm : X.mg x = none) (hv : bootBuiltins x = some u) (r : RelV v u) (hn : x ≠ "__name__" := by decide) (hd : (x == ("__debug__" : Str)) = false := by decide) : PE X (.Name x pos) (tC v) :=
  fun _ _ _ H _ I h => ld_blt I hg hm hv ⟨v, H, I, r, h⟩ hn hd

def t2I (ta tb : TE) (k : Int → Int → Hp → Prop) : St → Hp → Prop := fun σ H => ta σ H fun x H1 => tb σ H1 fun y H2 => ∃ i j, x = .int i ∧ y = .int j ∧ k i j H2
variable {a b : Expr} {ta tb : TE} {pos : Pos}
def PC (X : Cx) (op : CmpOp) (a b : Expr) (t : TE) : Prop :=
  ∀ (pins : List (Addr × Obj)) (s : Shared) (σ : St) (H : Hp) (Q : VK), Inv X pins σ H s → t σ H Q →
    wpAny (model X.prog X.w) X.A (eval a X.env) (fun v s₁ => wpAny (model X.prog X.w) X.A (eval b X.env) (fun u s₂ => wpAny (model X.prog X.w) X.A (compareOp op v u) (EP X pins σ Q) X.xe s₂) X.xe s₁) X.xe s
theorem nobehind (b : Expr) {op : CmpOp} (h : op ≠ .In) (h2 : op ≠ .NotIn) : behindInMarks op b = false := by
  have e1 : (op == CmpOp.In) = false := by cases op <;> first | rfl | exact absurd rfl h
  have e2 : (op == CmpOp.NotIn) = false := by cases op <;> first | rfl | exact absurd rfl h2
  cases b <;> simp [behindInMarks, e1, e2]
def tCmp (p : Int → Int → Bool) (ta tb : TE) : TE := fun σ H Q => t2I ta tb (fun i j H2 => Q (.bl (p i j)) H2) σ H
abbrev tLt : TE → TE → TE := tCmp fun i j => decide (i < j)
abbrev tLe : TE → TE → TE := tCmp fun i j => decide (i ≤ j)
abbrev tGt : TE → TE → TE := tCmp fun i j => decide (j < i)
abbrev tGe : TE → TE → TE := tCmp fun i j => decide (j ≤ i)
abbrev tEqI : TE → TE → TE := tCmp fun i j => decide (i = j)
abbrev tNeI : TE → TE → TE := tCmp fun i j => !decide (i = j)
def tIsN (ta : TE) : TE := fun σ H Q => ta σ H fun x H1 => Q (.bl (decide (x = .non))) H1
def tNotN (ta : TE) : TE := fun σ H Q => ta σ H fun x H1 => Q (.bl (!decide (x = .non))) H1
theorem RelV.none_iff {x : V} {v : Value} (r : RelV x v) : (v == Value.none) = decide (x = .non) := by
  cases x with
  | non => cases r; rfl
  | bl _ => cases r; rfl
  | int _ => obtain ⟨t, rfl⟩ := r; rfl
  | str _ => obtain ⟨t, rfl⟩ := r; rfl
  | byt _ => obtain ⟨t, rfl⟩ := r; rfl
  | flt _ => obtain ⟨t, rfl⟩ := r; rfl
  | ref _ => cases r; rfl
  | ty _ => cases r; rfl
theorem pc_isN {j pos'} (ha : PE X a ta) : PC X .Is a (.Constant .none j pos') (tIsN ta) := by
  intro pins s σ H Q I h
  refine thn (ha pins s σ H _ I h) fun v s1 ⟨x, H1, I1, r1, q1⟩ => ?_
  exact Constant_none (is_none_gen ⟨.bl _, H1, I1, by rw [r1.none_iff]; rfl, q1⟩)
theorem pc_notN {j pos'} (ha : PE X a ta) : PC X .IsNot a (.Constant .none j pos') (tNotN ta) := by
  intro pins s σ H Q I h
  refine thn (ha pins s σ H _ I h) fun v s1 ⟨x, H1, I1, r1, q1⟩ => ?_
  exact Constant_none (isnot_none_gen ⟨.bl _, H1, I1, by rw [r1.none_iff]; rfl, q1⟩)
def tB (t : TE) : TT := fun σ H Q => t σ H fun x H1 => ∃ c, x = .bl c ∧ Q c H1
theorem pe_cmp {op : CmpOp} {t : TE} (h : PC X op a b t) (h1 : behindInMarks op b = false := by first | exact nobehind _ (by decide) (by decide) | rfl) : PE X (.Compare a [op] [b] pos) t := fun pins s σ H Q I hw => wpAny_Compare1 (h pins s σ H Q I hw) h1
theorem pt_cmp {op : CmpOp} {t : TE} (h : PC X op a b t) (h1 : behindInMarks op b = false := by first | exact nobehind _ (by decide) (by decide) | rfl) : PT X (.Compare a [op] [b] pos) (tB t) := by
  intro pins s σ H Q I hw
  refine wpAny_isTrue_Compare1 (thn (h pins s σ H _ I hw) fun v s1 h1 => thn h1 fun u s2 h2 => thn h2 fun c s3 ⟨x, H1, I1, r1, q1⟩ => ?_) h1
  obtain ⟨d, rfl, q⟩ := q1
  cases r1
  exact wpAny_truthy_bool ⟨H1, I1, q⟩
theorem pt_val {e : Expr} {t : TE} (h : PE X e t) (he : ∀ whole, isTrue e X.env whole = (do let v ← whole; standAt e.pos; holding [v] (truthy v)) := by intro _; rfl) : PT X e (tB t) := by
  intro pins s σ H Q I hw
  refine isTrue_plain (thn (h pins s σ H _ I hw) fun v s1 ⟨x, H1, I1, r1, q1⟩ => ?_) (he _)
  obtain ⟨d, rfl, q⟩ := q1
  cases r1
  exact wpAny_truthy_bool ⟨H1, I1, q⟩

variable {tA tB' : TT} {rest : List Expr}
def tAnd (t u : TT) : TT := fun σ H Q => t σ H fun c H1 => if c = true then u σ H1 Q else Q false H1
def tOr (t u : TT) : TT := fun σ H Q => t σ H fun c H1 => if c = true then Q true H1 else u σ H1 Q
def tNot (t : TT) : TT := fun σ H Q => t σ H fun c H1 => Q (!c) H1
theorem pw_and1 (ha : PT X a tA) : PW X (.BoolOp .And [a] pos) tA := by
  intro wh pins s σ H Q I h
  refine isTrue_and (thn (ha pins s σ H Q I h) fun c s1 e => ?_)
  cases c with
  | true => exact isTrue_and_nil e
  | false => exact e
theorem pw_or1 (ha : PT X a tA) : PW X (.BoolOp .Or [a] pos) tA := by
  intro wh pins s σ H Q I h
  refine isTrue_or (thn (ha pins s σ H Q I h) fun c s1 e => ?_)
  cases c with
  | false => exact isTrue_or_nil e
  | true => exact e
theorem pw_and (ha : PT X a tA) (hb : PW X (.BoolOp .And (b :: rest) pos) tB') : PW X (.BoolOp .And (a :: b :: rest) pos) (tAnd tA tB') := by
  intro wh pins s σ H Q I h
  refine isTrue_and (thn (ha pins s σ H _ I h) fun c s1 ⟨H1, I1, q1⟩ => ?_)
  cases c with
  | true => exact hb wh pins s1 σ H1 Q I1 q1
  | false => exact ⟨H1, I1, q1⟩
theorem pw_or (ha : PT X a tA) (hb : PW X (.BoolOp .Or (b :: rest) pos) tB') : PW X (.BoolOp .Or (a :: b :: rest) pos) (tOr tA tB') := by
  intro wh pins s σ H Q I h
  refine isTrue_or (thn (ha pins s σ H _ I h) fun c s1 ⟨H1, I1, q1⟩ => ?_)
  cases c with
  | true => exact ⟨H1, I1, q1⟩
  | false => exact hb wh pins s1 σ H1 Q I1 q1
theorem pt_not (ha : PT X a tA) : PT X (.UnaryOp .Not a pos) (tNot tA) := by
  intro pins s σ H Q I h
  exact isTrue_not (ha pins s σ H (fun c H1 => Q (!c) H1) I h)
def tAndV (ta tb : TE) : TE := fun σ H Q => ta σ H fun x H1 => ∃ c, x = .bl c ∧ if c = true then tb σ H1 Q else Q (.bl false) H1
def tOrV (ta tb : TE) : TE := fun σ H Q => ta σ H fun x H1 => ∃ c, x = .bl c ∧ if c = true then Q (.bl true) H1 else tb σ H1 Q
def tNotV (ta : TE) : TE := fun σ H Q => ta σ H fun x H1 => ∃ c, x = .bl c ∧ Q (.bl (!c)) H1
theorem pe_one {op} {t : TE} (h : PE X a t) : PE X (.BoolOp op [a] pos) t := fun pins s σ H Q I hw => BoolOp_one (h pins s σ H Q I hw)
theorem pe_and (ha : PE X a ta) (hb : PE X (.BoolOp .And (b :: rest) pos) tb) : PE X (.BoolOp .And (a :: b :: rest) pos) (tAndV ta tb) := by
  intro pins s σ H Q I h
  refine BoolOp_and (thn (ha pins s σ H _ I h) fun v s1 ⟨x, H1, I1, r1, q1⟩ => ?_)
  obtain ⟨c, rfl, q1⟩ := q1
  cases r1
  refine wpAny_truthy_bool ?_
  cases c with
  | true => exact hb pins s1 σ H1 Q I1 q1
  | false => exact ⟨.bl false, H1, I1, rfl, q1⟩
theorem pe_or (ha : PE X a ta) (hb : PE X (.BoolOp .Or (b :: rest) pos) tb) : PE X (.BoolOp .Or (a :: b :: rest) pos) (tOrV ta tb) := by
  intro pins s σ H Q I h
  refine BoolOp_or (thn (ha pins s σ H _ I h) fun v s1 ⟨x, H1, I1, r1, q1⟩ => ?_)
  obtain ⟨c, rfl, q1⟩ := q1
  cases r1
  refine wpAny_truthy_bool ?_
  cases c with
  | false => exact hb pins s1 σ H1 Q I1 q1
  | true => exact ⟨.bl true, H1, I1, rfl, q1⟩
theorem pe_not (ha : PE X a ta) : PE X (.UnaryOp .Not a pos) (tNotV ta) := by
  intro pins s σ H Q I h
  refine UnaryOp_ (thn (ha pins s σ H _ I h) fun v s1 ⟨x, H1, I1, r1, q1⟩ => ?_)
  obtain ⟨c, rfl, q1⟩ := q1
  cases r1
  exact not_of (wpAny_truthy_bool ⟨.bl (!c), H1, I1, rfl, q1⟩)
def tIf (t : TT) (ta tb : TE) : TE := fun σ H Q => t σ H fun c H1 => if c = true then ta σ H1 Q else tb σ H1 Q
theorem pe_ifExp {c : Expr} (hc : PT X c tA) (ha : PE X a ta) (hb : PE X b tb) : PE X (.IfExp c a b pos) (tIf tA ta tb) := by
  intro pins s σ H Q I h
  refine wpAny_IfExp (thn (hc pins s σ H _ I h) fun d s1 ⟨H1, I1, q1⟩ => ?_)
  cases d with
  | true => exact ha pins s1 σ H1 Q I1 q1
  | false => exact hb pins s1 σ H1 Q I1 q1
end
end L2

namespace L2
open PySem PySem.Spec PyProof.Rows

def SqL (K : PySem.W.Frag) (H : Hp) (a : Addr) (xs : List V) : Prop :=
  Rd H a (.lst xs) ∨
    ∃ (o : Obj) (its : Array Value) (n : Nat), K.lookup a = some o ∧ o.cls = .type "list" ∧ o.dict = none ∧ o.data = .seq its n ∧ its.size ≤ sizeLine ∧ Vals xs its.toList
def SqT (K : PySem.W.Frag) (H : Hp) (a : Addr) (xs : List V) : Prop :=
  Rd H a (.tup xs) ∨
    ∃ (o : Obj) (its : Array Value) (n : Nat), K.lookup a = some o ∧ o.cls = .type "tuple" ∧ o.data = .seq its n ∧ its.size ≤ sizeLine ∧ Vals xs its.toList
def absV : Value → Option V
  | .none => some .non
  | .bool b => some (.bl b)
  | .int i _ => some (.int i)
  | .str x _ => some (.str x)
  | .bytes b _ => some (.byt b)
  | .float b _ => some (.flt b)
  | .ref a => some (.ref a)
  | .type n => some (.ty n)
  | _ => none
theorem RelV.abs {x : V} {u : Value} (r : RelV x u) : absV u = some x := by
  cases x with
  | non => cases r; rfl
  | bl _ => cases r; rfl
  | int _ => obtain ⟨t, rfl⟩ := r; rfl
  | str _ => obtain ⟨t, rfl⟩ := r; rfl
  | byt _ => obtain ⟨t, rfl⟩ := r; rfl
  | flt _ => obtain ⟨t, rfl⟩ := r; rfl
  | ref _ => cases r; rfl
  | ty _ => cases r; rfl
theorem RelV.inj {x y : V} {u : Value} (r : RelV x u) (q : RelV y u) : x = y := Option.some.inj (r.abs.symm.trans q.abs)
theorem Vals.inj : ∀ {xs ys : List V} {us : List Value}, Vals xs us → Vals ys us → xs = ys
  | _, _, _, .nil, .nil => rfl
  | _, _, _, .cons r t, .cons r' t' => by rw [r.inj r', Vals.inj t t']
section
variable {X : Cx} {pins : List (Addr × Obj)} {σ : St} {H : Hp} {s : Shared} {a : Addr} {xs ys : List V}
theorem SqL.of {K : PySem.W.Frag} (h : H a = some (.lst xs)) : SqL K H a xs := .inl (.inl h)
theorem SqT.of {K : PySem.W.Frag} (h : H a = some (.tup xs)) : SqT K H a xs := .inl (.inl h)
theorem Inv.list (I : Inv X pins σ H s) (h : SqL X.K H a xs) : ∃ its : List Value, Vals xs its ∧ PlainL s.heap a its.toArray ∧ xs.length ≤ sizeLine := by
  rcases h with h | ⟨o, its, n, hk, hc, hd, hs, hz, r⟩
  · obtain ⟨z, its, n, r, e⟩ := h.ok I.hok
    exact ⟨its, r, ⟨_, n, e, rfl, rfl, rfl⟩, z⟩
  · refine ⟨its.toList, r, ⟨o, n, I.kIn a o hk, hc, hd, by simpa using hs⟩, ?_⟩
    have e := r.length
    simp only [Array.length_toList] at e
    omega
theorem Inv.tuple (I : Inv X pins σ H s) (h : SqT X.K H a xs) : ∃ its : List Value, Vals xs its ∧ IsTup s.heap a its.toArray ∧ xs.length ≤ sizeLine := by
  rcases h with h | ⟨o, its, n, hk, hc, hs, hz, r⟩
  · obtain ⟨z, its, r, p⟩ := h.ok I.hok
    exact ⟨its, r, p, z⟩
  · refine ⟨its.toList, r, ⟨o, I.kIn a o hk, hc, n, by simpa using hs⟩, ?_⟩
    have e := r.length
    simp only [Array.length_toList] at e
    omega
theorem Inv.list_inj (I : Inv X pins σ H s) (h : SqL X.K H a xs) (h' : SqL X.K H a ys) : xs = ys := by
  obtain ⟨its, r, ⟨o, n, e, _, _, d⟩, _⟩ := I.list h
  obtain ⟨its', r', ⟨o', n', e', _, _, d'⟩, _⟩ := I.list h'
  rw [e] at e'; cases e'
  rw [d] at d'
  injection d' with d1 _
  have : its = its' := by simpa using congrArg Array.toList d1
  subst this
  exact r.inj r'
theorem Inv.tuple_inj (I : Inv X pins σ H s) (h : SqT X.K H a xs) (h' : SqT X.K H a ys) : xs = ys := by
  obtain ⟨its, r, ⟨o, e, _, n, d⟩, _⟩ := I.tuple h
  obtain ⟨its', r', ⟨o', e', _, n', d'⟩, _⟩ := I.tuple h'
  rw [e] at e'; cases e'
  rw [d] at d'
  injection d' with d1 _
  have : its = its' := by simpa using congrArg Array.toList d1
  subst this
  exact r.inj r'
end

abbrev Cx.wish (X : Cx) (E : Value → Shared → Prop) : Cx := { X with xe := E }
abbrev Cx.nox (X : Cx) : Cx := X.wish fun _ _ => False
theorem Cx.Ok.wish {X : Cx} (ok : X.Ok) (E : Value → Shared → Prop) : (X.wish E).Ok :=
  ⟨ok.mod, ok.kind, ok.glob, ok.blt, ok.above, ok.inj, ok.has, ok.cab, ok.hd, ok.frames, ok.stk, ok.exf, ok.bs, ok.bsz, ok.noex, ok.exfs, ok.funs, ok.frf⟩
theorem Cx.Ok.unwish {X : Cx} {E : Value → Shared → Prop} (ok : (X.wish E).Ok) : X.Ok :=
  ⟨ok.mod, ok.kind, ok.glob, ok.blt, ok.above, ok.inj, ok.has, ok.cab, ok.hd, ok.frames, ok.stk, ok.exf, ok.bs, ok.bsz, ok.noex, ok.exfs, ok.funs, ok.frf⟩
section
variable {X : Cx} {pins : List (Addr × Obj)} {σ : St} {H : Hp} {s : Shared} {E : Value → Shared → Prop}
theorem Inv.wish (I : Inv X pins σ H s) (E : Value → Shared → Prop) : Inv (X.wish E) pins σ H s := ⟨I.ok.wish E, I.os, I.bare, I.base, I.loc, I.cell, I.free, I.freeC, I.pin, I.hok, I.len⟩
theorem Inv.unwish (I : Inv (X.wish E) pins σ H s) : Inv X pins σ H s := ⟨I.ok.unwish, I.os, I.bare, I.base, I.loc, I.cell, I.free, I.freeC, I.pin, I.hok, I.len⟩
theorem SP.unwish {D : Ends} {f : Flow} {s' : Shared} (h : SP (X.wish E) pins D f s') : SP X pins D f s' := by
  cases f with
  | next => obtain ⟨σ', H', I, q⟩ := h; exact ⟨σ', H', I.unwish, q⟩
  | brk => obtain ⟨σ', H', I, q⟩ := h; exact ⟨σ', H', I.unwish, q⟩
  | cont => obtain ⟨σ', H', I, q⟩ := h; exact ⟨σ', H', I.unwish, q⟩
  | ret u => obtain ⟨v, σ', H', I, r, q⟩ := h; exact ⟨v, σ', H', I.unwish, r, q⟩
theorem PE.nox {e : Expr} {t : TE} (h : PE X.nox e t) : PE X e t := fun pins s σ H Q I hw =>
  wpAny_mono (h pins s σ H Q (I.wish _) hw) (fun _ _ ⟨v, H', I', r, q⟩ => ⟨v, H', I'.unwish, r, q⟩) fun _ _ z => False.elim z
theorem PT.nox {e : Expr} {t : TT} (h : PT X.nox e t) : PT X e t := fun pins s σ H Q I hw =>
  wpAny_mono (h pins s σ H Q (I.wish _) hw) (fun _ _ ⟨H', I', q⟩ => ⟨H', I'.unwish, q⟩) fun _ _ z => False.elim z
theorem PSs.nox {st : List Stmt} {t : TS} (h : PSs X.nox st t) : PSs X st t := fun pins s σ H D I hw =>
  wpAny_mono (h pins s σ H D (I.wish _) hw) (fun _ _ q => q.unwish) fun _ _ z => False.elim z
end

section
variable {X : Cx} {st : Stmt} {rest : List Stmt} {t u : TS} {e : Expr} {te : TE} {pos : Pos}
def tNext : TS := fun D σ H => D.nx σ H
def tSeq (t u : TS) : TS := fun D σ H => t { D with nx := u D } σ H
theorem pss_nil : PSs X [] tNext := fun _ _ σ H _ I h => wpAny_execs_nil ⟨σ, H, I, h⟩
theorem pss_cons (h1 : PS X st t) (h2 : PSs X rest u) : PSs X (st :: rest) (tSeq t u) := by
  intro pins s σ H D I h
  refine wpAny_execs_cons (thn (h1 pins s σ H { D with nx := u D } I h) fun f s1 q => ?_)
  cases f with
  | next =>
    obtain ⟨σ', H', I', q⟩ := q
    exact h2 pins s1 σ' H' D I' q
  | ret v => exact q
  | brk => exact q
  | cont => exact q
theorem pss_one (h1 : PS X st t) : PSs X [st] t := by
  intro pins s σ H D I h
  refine wpAny_execs_cons (thn (h1 pins s σ H D I h) fun f s1 q => ?_)
  cases f with
  | next => exact wpAny_execs_nil q
  | ret v => exact q
  | brk => exact q
  | cont => exact q
theorem Inv.quiet {pins : List (Addr × Obj)} {σ : St} {H : Hp} {s : Shared} (I : Inv X pins σ H s) : interactive X.env = false := by simp [interactive, I.ok.kind]
def tDrop (te : TE) : TS := fun D σ H => te σ H fun _ H1 => D.nx σ H1
theorem ps_expr (he : PE X e te) (hs : swapsWith e none pos.line X.env = pure false := by rfl) : PS X (.Expr e pos) (tDrop te) := by
  intro pins s σ H D I h
  exact wpAny_Expr_any (thn (he pins s σ H _ I h) fun v s1 ⟨x, H1, I1, r1, q1⟩ => ⟨σ, H1, I1, q1⟩) I.quiet hs
def tRet (te : TE) : TS := fun D σ H => te σ H D.rt
theorem ps_ret (he : PE X e te) : PS X (.Return (some e) pos) (tRet te) := by
  intro pins s σ H D I h
  exact wpAny_Return_some (thn (he pins s σ H _ I h) fun v s1 ⟨x, H1, I1, r1, q1⟩ => ⟨x, σ, H1, I1, r1, q1⟩)
def tIfS (c : TT) (t u : TS) : TS := fun D σ H => c σ H fun b H1 => if b = true then t D σ H1 else u D σ H1
theorem ps_if {c : Expr} {a b : List Stmt} {tc : TT} (hc : PT X c tc) (ha : PSs X a t) (hb : PSs X b u) : PS X (.If c a b pos) (tIfS tc t u) := by
  intro pins s σ H D I h
  refine wpAny_If (thn (hc pins s σ H _ I h) fun d s1 ⟨H1, I1, q1⟩ => ?_)
  cases d with
  | true => exact ha pins s1 σ H1 D I1 q1
  | false => exact hb pins s1 σ H1 D I1 q1
def tNever : TS := fun _ _ _ => False
theorem ps_never : PS X st tNever := fun _ _ _ _ _ _ h => h.elim
end

abbrev TG := V → St → Hp → (St → Hp → Prop) → Prop
abbrev TGs := List V → St → Hp → (St → Hp → Prop) → Prop
def PG (X : Cx) (target : Expr) (t : TG) : Prop :=
  ∀ (pins : List (Addr × Obj)) (s : Shared) (σ : St) (H : Hp) (v : V) (u : Value) (Q : St → Hp → Prop), Inv X pins σ H s → RelV v u → t v σ H Q →
    wpAny (model X.prog X.w) X.A (assign target X.env u) (fun _ s' => ∃ σ' H', Inv X pins σ' H' s' ∧ Q σ' H') X.xe s
def PGs (X : Cx) (ts : List Expr) (t : TGs) : Prop :=
  ∀ (pins : List (Addr × Obj)) (s : Shared) (σ : St) (H : Hp) (vs : List V) (us : List Value) (Q : St → Hp → Prop), Inv X pins σ H s → Vals vs us → t vs σ H Q →
    wpAny (model X.prog X.w) X.A (assignInOrder ((assignEach ts X.env).map (·.2)) us) (fun _ s' => ∃ σ' H', Inv X pins σ' H' s' ∧ Q σ' H') X.xe s
abbrev TSet := V → V → V → Hp → (Hp → Prop) → Prop
def PSet (X : Cx) (t : TSet) : Prop :=
  ∀ (pins : List (Addr × Obj)) (s : Shared) (σ : St) (H : Hp) (o i v : V) (ov iv u : Value) (Q : Hp → Prop), Inv X pins σ H s → RelV o ov → RelV i iv → RelV v u → t o i v H Q →
    wpAny (model X.prog X.w) X.A (setItem ov iv u) (fun _ s' => ∃ H', Inv X pins σ H' s' ∧ Q H') X.xe s
abbrev TIp := V → V → Hp → VK → Prop
section
variable {X : Cx} {pos : Pos}
def gName (i : Nat) : TG := fun v σ H Q => Q (σ.set i (some v)) H
theorem pg_name {i : Nat} {x : Str} (hN : X.N.Nodup) (hi : X.N[i]? = some x) (hx : Loc X.env.scope x) (hf : X.fn x = true ∨ X.env.scope.names.lookup x = some .local := by first | exact .inl rfl | exact .inr rfl | assumption) : PG X (.Name x pos) (gName i) := by
  intro pins s σ H v u Q I r h
  exact wpAny_assign_Name (store_ok I hN hi hx r (fun s' I' => ⟨_, H, I', h⟩) hf)
def gNil : TGs := fun vs σ H Q => vs = [] ∧ Q σ H
def gCons (t : TG) (u : TGs) : TGs := fun vs σ H Q => ∃ v r, vs = v :: r ∧ t v σ H fun σ' H' => u r σ' H' Q
theorem pgs_nil : PGs X [] gNil := by
  intro pins s σ H vs us Q I r h
  obtain ⟨e, h⟩ := h
  subst e
  cases r
  exact assignInOrder_nil ⟨σ, H, I, h⟩
theorem pgs_cons {e : Expr} {es : List Expr} {t : TG} {u : TGs} (h1 : PG X e t) (h2 : PGs X es u)
    (hs : (assignEach (e :: es) X.env).map (·.2) = assign e X.env :: (assignEach es X.env).map (·.2) := by rfl) : PGs X (e :: es) (gCons t u) := by
  intro pins s σ H vs us Q I r h
  obtain ⟨v, vr, e1, h⟩ := h
  subst e1
  cases r with
  | cons r rr =>
    rw [hs]
    refine assignInOrder_cons (thn (h1 pins s σ H _ _ _ I r h) fun _ s1 ⟨σ1, H1, I1, q1⟩ => ?_)
    exact h2 pins s1 σ1 H1 _ _ Q I1 rr q1
def gTup (K : PySem.W.Frag) (n : Nat) (t : TGs) : TG := fun v σ H Q => ∃ a xs, v = .ref a ∧ SqT K H a xs ∧ xs.length = n ∧ t xs σ H Q
theorem pg_tup {es : List Expr} {k : Nat} {t : TGs} {n : Nat} (hc : X.calm = true) (h : PGs X es t)
    (hn : (assignEach es X.env).length = n := by rfl) (hst : (assignEach es X.env).findIdx? (·.1) = none := by rfl) : PG X (.Tuple es k pos) (gTup X.K n t) := by
  intro pins s σ H v u Q I r hw
  obtain ⟨a, xs, e1, hq, hl, hw⟩ := hw
  subst e1
  cases r
  obtain ⟨its, rv, ht, hz⟩ := I.tuple hq
  refine assign_Tuple_tuple (I.ok.hd hc) ht (by simp [hn, ← hl, rv.length]) hst fun h' hx => ?_
  have I1 : Inv X pins σ H { s with heap := h' } := I.kept (t' := s.toks) fun b o e => hx b o (Nat.ne_of_lt (Heap.lt_size e)) e
  exact h pins _ σ H xs _ Q I1 (by simpa using rv) hw
def gSub (to ti : TE) (t : TSet) : TG := fun v σ H Q => to σ H fun o H1 => ti σ H1 fun i H2 => t o i v H2 fun H3 => Q σ H3
theorem pg_sub {o i : Expr} {to ti : TE} {t : TSet} (ho : PE X o to) (hi : PE X i ti) (hs : PSet X t)
    (ha : ∀ v, assign (.Subscript o i pos) X.env v = (do
      let ov ← holding [v] (eval o X.env)
      let iv ← holding [v, ov] (eval i X.env)
      standAt pos
      holding [v, ov, iv] (setItem ov iv v)
      release [v, ov, iv] []) := by intro _; rfl) : PG X (.Subscript o i pos) (gSub to ti t) := by
  intro pins s σ H v u Q I r h
  rw [ha]
  refine wpAny_bind (wpAny_holding (thn (ho pins s σ H _ I h) fun ov s1 ⟨x, H1, I1, r1, q1⟩ => ?_))
  refine wpAny_bind (wpAny_holding (thn (hi pins s1 σ H1 _ I1 q1) fun iv s2 ⟨y, H2, I2, r2, q2⟩ => ?_))
  refine wpAny_bind (wpAny_standAt (wpAny_bind (wpAny_holding (thn (hs pins s2 σ H2 x y v ov iv u _ I2 r1 r2 r q2) fun _ s3 ⟨H3, I3, q3⟩ => ?_))))
  exact wpAny_release ⟨σ, H3, I3, q3⟩
def tAsg (te : TE) (g : TG) : TS := fun D σ H => te σ H fun x H1 => g x σ H1 D.nx
theorem ps_asg {tg e : Expr} {te : TE} {g : TG} (he : PE X e te) (hg : PG X tg g) (hs : swapsWithSole [tg] e pos.line X.env = pure false := by rfl) (hw : swappedStores [tg] e X.env = pure none := by rfl)
    (h1 : (assignEach [tg] X.env).map (·.2) = [assign tg X.env] := by rfl) : PS X (.Assign [tg] e pos) (tAsg te g) := by
  intro pins s σ H D I h
  refine wpAny_Assign_stores (thn (he pins s σ H _ I h) fun v s1 ⟨x, H1, I1, r1, q1⟩ => ?_) hs hw
  rw [h1]
  exact thn (hg pins s1 σ H1 x v _ I1 r1 q1) fun _ s2 q => q
theorem ps_set {i : Nat} {x : Str} {e : Expr} {te : TE} {pos' : Pos} (hN : X.N.Nodup) (hi : X.N[i]? = some x) (hx : Loc X.env.scope x) (he : PE X e te) (hs : swapsWith e (some (.Name x pos')) pos.line X.env = pure false := by rfl) (hf : X.fn x = true ∨ X.env.scope.names.lookup x = some .local := by first | exact .inl rfl | exact .inr rfl | assumption) :
    PS X (.Assign [.Name x pos'] e pos) (tAsg te (gName i)) := by
  intro pins s σ H D I h
  refine wpAny_Assign_Name (thn (he pins s σ H _ I h) fun v s1 ⟨y, H1, I1, r1, q1⟩ => ?_) hs
  exact store_ok I1 hN hi hx r1 (fun s2 I2 => ⟨_, H1, I2, q1⟩) hf
end

section
variable {X : Cx} {pos : Pos}
end

structure It where
  go : Nat → Hp → Prop
  yld : Nat → Hp → V → Hp → Prop
  stop : Nat → Hp → Prop
def FpOk (X : Cx) (pins : List (Addr × Obj)) (H : Hp) (b : Addr) : Prop :=
  H b = none ∧ b ≠ X.env.locals ∧ b ∉ X.fs ∧ (b ∈ X.ex ∨ X.s₀.heap.objs.size ≤ b) ∧ (∀ x c, X.env.cells.lookup x = some c → c ≠ b) ∧ ∀ p ∈ X.pn ++ pins, p.1 ≠ b
theorem Inv.fpOk {X : Cx} {pins : List (Addr × Obj)} {σ : St} {H H' : Hp} {s : Shared} {b : Addr} (I : Inv X pins σ H s) (hb : s.heap.objs.size ≤ b) (hn : H' b = none) : FpOk X pins H' b := by
  refine ⟨hn, Nat.ne_of_gt (Nat.lt_of_lt_of_le I.lt hb), I.nofs hb, .inr (Nat.le_trans I.sz hb), fun x c e z => ?_, fun p hp z => ?_⟩
  · obtain ⟨v, q⟩ := I.cell x c e
    exact absurd (Nat.lt_of_lt_of_le q.lt (by rw [z]; exact hb)) (Nat.lt_irrefl _)
  · exact absurd (Nat.lt_of_lt_of_le (Heap.lt_size (I.pin p hp).1) (by rw [z]; exact hb)) (Nat.lt_irrefl _)
structure Turn (P : Program) (w : World) (K : PySem.W.Frag) (tg : Expr) (J : It) (fp : List Addr) (it : Addr) (tn : Nat → Heap → Prop) : Prop where
  mem : it ∈ fp
  obj : ∀ i h, tn i h → ∀ b ∈ fp, ∃ o, h.get? b = some o ∧ ∀ v, o.data ≠ .cell v
  keep : ∀ i h h', tn i h → (∀ b ∈ fp, ∀ o, h.get? b = some o → h'.get? b = some o) → tn i h'
  item : ∀ (X : Cx), X.prog = P → X.w = w → X.K = K → X.calm = true → ∀ (i : Nat) (pins : List (Addr × Obj)) (s : Shared) (σ : St) (H : Hp) (E : Value → Shared → Prop), Inv X pins σ H s → (∀ b ∈ fp, FpOk X pins H b) → tn i s.heap → J.go i H →
    wpAny (model P w) X.A (pyNext (.ref it)) (fun r s1 => ∃ u, r = some u ∧
      wpAny (model P w) X.A (letOwnedTupleGo tg (.ref it) u) (fun _ s2 => ∃ x H', Inv X pins σ H' s2 ∧ RelV x u ∧ J.yld i H x H' ∧ tn (i + 1) s2.heap ∧ ∀ b ∈ fp, H' b = none) E s1) E s
  done : ∀ (X : Cx), X.prog = P → X.w = w → X.K = K → X.calm = true → ∀ (i : Nat) (pins : List (Addr × Obj)) (s : Shared) (σ : St) (H : Hp) (E : Value → Shared → Prop), Inv X pins σ H s → (∀ b ∈ fp, FpOk X pins H b) → tn i s.heap → J.stop i H →
    wpAny (model P w) X.A (pyNext (.ref it)) (fun r s1 => r = none ∧ Inv X pins σ H s1) E s
  self : ∀ (A : Around) (i : Nat) (s : Shared) (Q : Value → Shared → Prop) (E : Value → Shared → Prop), tn i s.heap → Q (.ref it) s → wpAny (model P w) A (pyIter (.ref it)) Q E s
abbrev TI := St → Hp → (It → Hp → Prop) → Prop
def PIE (X : Cx) (pins : List (Addr × Obj)) (σ : St) (tg : Expr) (R : It → Hp → Prop) (itv : Value) (s2 : Shared) : Prop :=
  ∃ (it : Addr) (fp : List Addr) (tn : Nat → Heap → Prop) (J : It) (H' : Hp), itv = .ref it ∧ Inv X pins σ H' s2 ∧ Turn X.prog X.w X.K tg J fp it tn ∧ tn 0 s2.heap ∧ (∀ b ∈ fp, FpOk X pins H' b) ∧ R J H'
def PI (X : Cx) (tg iter : Expr) (wi : TI) : Prop :=
  ∀ (pins : List (Addr × Obj)) (s : Shared) (σ : St) (H : Hp) (R : It → Hp → Prop), Inv X pins σ H s → wi σ H R →
    wpAny (model X.prog X.w) X.A (eval iter X.env) (fun v s1 => wpAny (model X.prog X.w) X.A (pyIter v) (PIE X pins σ tg R) X.xe s1) X.xe s

theorem go_of {M : Model} {A : Around} {E : Value → Shared → Prop} {s : Shared} {tg : Expr} {it : Addr} {u : Value} {o : Obj} {n : String} {vs : Array Value} {Q : Unit → Shared → Prop} (ho : s.heap.get? it = some o) (hc : o.cls = .type n) (hd : o.data = .fields vs)
    (hn : ["enumerate", "zip", "dict_itemiterator", "dict_reverseitemiterator", "odict_iterator", "itertools.zip_longest", "itertools.pairwise"].contains n = false) (hQ : Q () s) : wpAny M A (letOwnedTupleGo tg (.ref it) u) Q E s := by
  unfold letOwnedTupleGo
  cases tg <;> first
    | exact wpAny_pure hQ
    | (cases u <;> first
        | exact wpAny_pure hQ
        | (refine wpAny_bind (wpAny_load ho ?_)
           rw [hc, hd]
           show wpAny M A (if (["enumerate", "zip", "dict_itemiterator", "dict_reverseitemiterator", "odict_iterator", "itertools.zip_longest", "itertools.pairwise"].contains n && vs[0]? == some (rawInt _)) = true then _ else _) Q E s
           rw [if_neg (by intro h; rw [hn, Bool.false_and] at h; cases h)]
           exact wpAny_pure hQ))

def Itl (K : PySem.W.Frag) (a : Addr) : It :=
  ⟨fun i H => ∃ xs x, SqL K H a xs ∧ xs[i]? = some x, fun i H x H' => H' = H ∧ ∀ xs, SqL K H a xs → xs[i]? = some x, fun i H => ∃ xs, SqL K H a xs ∧ xs.length ≤ i⟩
def Itt (K : PySem.W.Frag) (a : Addr) : It :=
  ⟨fun i H => ∃ xs x, SqT K H a xs ∧ xs[i]? = some x, fun i H x H' => H' = H ∧ ∀ xs, SqT K H a xs → xs[i]? = some x, fun i H => ∃ xs, SqT K H a xs ∧ xs.length ≤ i⟩
def Itr (lo : Int) (n : Nat) : It := ⟨fun i _ => i < n, fun i H x H' => H' = H ∧ x = .int (lo + i), fun i _ => n ≤ i⟩
theorem turn_list {P : Program} {w : World} {K : PySem.W.Frag} {tg : Expr} (a it : Addr) : Turn P w K tg (Itl K a) [it] it (fun i h => h.IsListIter it a i) where
  mem := by simp
  obj := fun i h st b hb => by
    have e : b = it := by simpa using hb
    subst e
    obtain ⟨o, e, c, d⟩ := st
    exact ⟨o, e, fun v z => by rw [d] at z; cases z⟩
  keep := fun i h h' st k => st.at fun o e => k it (by simp) o e
  item := by
    intro X hP hw hK hc i pins s σ H E I hf st hg
    subst hP hw hK
    obtain ⟨xs, x, hq, hx⟩ := hg
    obtain ⟨its, rv, p, hz⟩ := I.list hq
    obtain ⟨u, hu, ru⟩ := rv.get hx
    obtain ⟨f0, f1, f2, f3, f4, f5⟩ := hf it (by simp)
    refine wpAny_pyNext_list_item st p.isList (x := u) (by simpa using hu) fun h' st' sb => ?_
    have I1 : Inv X pins σ H { s with heap := h' } := I.turned (t' := s.toks) (fun b o hb e => (sb.2 b hb).trans e) f0 f1 f3 f4 f5
    obtain ⟨o, e, c, d⟩ := id st'
    exact ⟨u, rfl, go_of (s := { s with heap := h' }) e c d (by decide) ⟨x, H, I1, ru, ⟨rfl, fun ys hy => by rw [I.list_inj hy hq]; exact hx⟩, st', fun b hb => (hf b hb).1⟩⟩
  done := by
    intro X hP hw hK hc i pins s σ H E I hf st hg
    subst hP hw hK
    obtain ⟨xs, hq, hx⟩ := hg
    obtain ⟨its, rv, p, hz⟩ := I.list hq
    obtain ⟨f0, f1, f2, f3, f4, f5⟩ := hf it (by simp)
    have hl := rv.length
    exact wpAny_pyNext_list_end (I.ok.hd hc) st p.isList (by simp; omega) fun h' eb => ⟨rfl, I.turned (t' := s.toks) (fun b o hb e => eb b o hb e) f0 f1 f3 f4 f5⟩
  self := fun _ _ _ _ _ st h => wpAny_pyIter_listiter st h
theorem turn_tuple {P : Program} {w : World} {K : PySem.W.Frag} {tg : Expr} (a it : Addr) : Turn P w K tg (Itt K a) [it] it (fun i h => h.IsTupleIter it a i) where
  mem := by simp
  obj := fun i h st b hb => by
    have e : b = it := by simpa using hb
    subst e
    obtain ⟨o, e, c, d⟩ := st
    exact ⟨o, e, fun v z => by rw [d] at z; cases z⟩
  keep := fun i h h' st k => st.at fun o e => k it (by simp) o e
  item := by
    intro X hP hw hK hc i pins s σ H E I hf st hg
    subst hP hw hK
    obtain ⟨xs, x, hq, hx⟩ := hg
    obtain ⟨its, rv, p, hz⟩ := I.tuple hq
    obtain ⟨u, hu, ru⟩ := rv.get hx
    obtain ⟨f0, f1, f2, f3, f4, f5⟩ := hf it (by simp)
    refine wpAny_pyNext_tuple_item st (show s.heap.IsTuple a its.toArray from p) (x := u) (by simpa using hu) fun h' st' sb => ?_
    have I1 : Inv X pins σ H { s with heap := h' } := I.turned (t' := s.toks) (fun b o hb e => (sb.2 b hb).trans e) f0 f1 f3 f4 f5
    obtain ⟨o, e, c, d⟩ := id st'
    exact ⟨u, rfl, go_of (s := { s with heap := h' }) e c d (by decide) ⟨x, H, I1, ru, ⟨rfl, fun ys hy => by rw [I.tuple_inj hy hq]; exact hx⟩, st', fun b hb => (hf b hb).1⟩⟩
  done := by
    intro X hP hw hK hc i pins s σ H E I hf st hg
    subst hP hw hK
    obtain ⟨xs, hq, hx⟩ := hg
    obtain ⟨its, rv, p, hz⟩ := I.tuple hq
    obtain ⟨f0, f1, f2, f3, f4, f5⟩ := hf it (by simp)
    have hl := rv.length
    exact wpAny_pyNext_tuple_end (I.ok.hd hc) st (show s.heap.IsTuple a its.toArray from p) (by simp; omega) fun h' eb => ⟨rfl, I.turned (t' := s.toks) (fun b o hb e => eb b o hb e) f0 f1 f3 f4 f5⟩
  self := fun _ _ _ _ _ st h => wpAny_pyIter_tupleiter st h
theorem turn_range {P : Program} {w : World} {K : PySem.W.Frag} {tg : Expr} (it : Addr) (lo : Int) (n : Nat) : Turn P w K tg (Itr lo n) [it] it (fun i h => IsRangeIter h it (lo + (i : Nat) * 1) ((n : Int) - (i : Nat)) 1) where
  mem := by simp
  obj := fun i h st b hb => by
    have e : b = it := by simpa using hb
    subst e
    exact ⟨_, st, fun v z => by
      have z' : Data.fields _ = Data.cell v := z
      cases z'⟩
  keep := fun i h h' st k => k it (by simp) _ st
  item := by
    intro X hP hw hK hc i pins s σ H E I hf st hg
    subst hP hw hK
    obtain ⟨f0, f1, f2, f3, f4, f5⟩ := hf it (by simp)
    have W := Walks.range (prog := X.prog) (w := X.w) (I.ok.hd hc) it lo 1 n
    refine W.item i s _ _ hg st fun v h' tk hv st' kk => ?_
    obtain ⟨t, rfl⟩ := hv
    have I1 : Inv X pins σ H { s with heap := h', toks := tk } := I.turned (fun b o hb e => kk b o (by simpa using hb) e) f0 f1 f3 f4 f5
    refine ⟨_, rfl, go_of (s := { s with heap := h', toks := tk }) (n := "range_iterator") st' rfl rfl (by decide) ⟨.int (lo + i), H, I1, ⟨t, ?_⟩, ⟨rfl, rfl⟩, st', fun b hb => (hf b hb).1⟩⟩
    rw [Int.mul_one]
  done := by
    intro X hP hw hK hc i pins s σ H E I hf st hg
    subst hP hw hK
    obtain ⟨f0, f1, f2, f3, f4, f5⟩ := hf it (by simp)
    exact wpAny_pyNext_range_end (I.ok.hd hc) st (by have : n ≤ i := hg; omega) fun h' eb => ⟨rfl, I.turned (t' := s.toks) (fun b o hb e => eb b o hb e) f0 f1 f3 f4 f5⟩
  self := fun _ _ _ _ _ st h => wpAny_pyIter_rangeiter st h
end L2

namespace L2
open PySem PySem.Spec PyProof.Rows
section
variable {X : Cx} {tg : Expr}
def iList (K : PySem.W.Frag) (tl : TE) : TI := fun σ H R => tl σ H fun x H1 => ∃ a, x = .ref a ∧ (∃ xs, SqL K H1 a xs) ∧ R (Itl K a) H1
def iTup (K : PySem.W.Frag) (tl : TE) : TI := fun σ H R => tl σ H fun x H1 => ∃ a, x = .ref a ∧ (∃ xs, SqT K H1 a xs) ∧ R (Itt K a) H1
theorem pi_list {l : Expr} {tl : TE} (hl : PE X l tl) : PI X tg l (iList X.K tl) := by
  intro pins s σ H R I h
  refine thn (hl pins s σ H _ I h) fun v s1 ⟨x, H1, I1, r1, q1⟩ => ?_
  obtain ⟨a, e, ⟨xs, hq⟩, q⟩ := q1
  subst e
  cases r1
  obtain ⟨its, rv, p, hz⟩ := I1.list hq
  refine wpAny_pyIter_list p.isList ?_
  refine ⟨s1.heap.objs.size, [s1.heap.objs.size], _, _, H1, rfl, I1.kept (t' := s1.toks) fun b o e => Heap.get?_push_of_some _ e, turn_list a _, ⟨_, Heap.get?_push_size _ rfl, rfl, rfl⟩, fun b hb => ?_, q⟩
  have e : b = s1.heap.objs.size := by simpa using hb
  subst e
  exact I1.fpOk (Nat.le_refl _) (I1.hok.fresh (Nat.le_refl _))
theorem pi_tup {l : Expr} {tl : TE} (hl : PE X l tl) : PI X tg l (iTup X.K tl) := by
  intro pins s σ H R I h
  refine thn (hl pins s σ H _ I h) fun v s1 ⟨x, H1, I1, r1, q1⟩ => ?_
  obtain ⟨a, e, ⟨xs, hq⟩, q⟩ := q1
  subst e
  cases r1
  obtain ⟨its, rv, p, hz⟩ := I1.tuple hq
  refine wpAny_pyIter_tuple (show s1.heap.IsTuple a its.toArray from p) ?_
  refine ⟨s1.heap.objs.size, [s1.heap.objs.size], _, _, H1, rfl, I1.kept (t' := s1.toks) fun b o e => Heap.get?_push_of_some _ e, turn_tuple a _, ⟨_, Heap.get?_push_size _ rfl, rfl, rfl⟩, fun b hb => ?_, q⟩
  have e : b = s1.heap.objs.size := by simpa using hb
  subst e
  exact I1.fpOk (Nat.le_refl _) (I1.hok.fresh (Nat.le_refl _))
theorem range_it {pins : List (Addr × Obj)} {σ : St} {H : Hp} {s : Shared} {R : It → Hp → Prop} {E : Value → Shared → Prop} {lo hi : Int} {t u v : Tok} {tk : Nat} (I : Inv X pins σ H s) (h1 : -(2 ^ 62) ≤ lo) (h2 : lo < 2 ^ 62) (h3 : -(2 ^ 62) ≤ hi) (h4 : hi < 2 ^ 62)
    (q : R (Itr lo (hi - lo).toNat) H) : wpAny (model X.prog X.w) X.A (pyIter (.ref s.heap.objs.size)) (PIE X pins σ tg R) E { s with heap := s.heap.push { cls := .type "range", data := .fields #[.int lo t, .int hi u, .int 1 v] }, toks := tk } := by
  refine wpAny_pyIter_range (IsRange.new ..) (small_one h1 h2 h3 h4) ?_
  have I1 : Inv X pins σ H { s with heap := s.heap.push { cls := .type "range", data := .fields #[.int lo t, .int hi u, .int 1 v] }, toks := tk } := I.kept fun b o e => Heap.get?_push_of_some _ e
  refine ⟨(s.heap.push { cls := .type "range", data := .fields #[.int lo t, .int hi u, .int 1 v] }).objs.size, [(s.heap.push { cls := .type "range", data := .fields #[.int lo t, .int hi u, .int 1 v] }).objs.size], _, _, H, rfl,
    I1.kept (t' := tk) fun b o e => Heap.get?_push_of_some _ e, turn_range _ lo (hi - lo).toNat, ?_, fun b hb => ?_, q⟩
  · have e1 : lo + ((0 : Nat) : Int) * 1 = lo := by simp
    have e2 : (((hi - lo).toNat : Nat) : Int) - ((0 : Nat) : Int) = Builtin.Range.rangeSize lo hi 1 := by rw [rangeSize_one]; split <;> omega
    show IsRangeIter _ _ (lo + ((0 : Nat) : Int) * 1) ((((hi - lo).toNat : Nat) : Int) - ((0 : Nat) : Int)) 1
    rw [e1, e2]
    exact Heap.get?_push_size _ rfl
  · have e : b = (s.heap.push { cls := .type "range", data := .fields #[.int lo t, .int hi u, .int 1 v] }).objs.size := by simpa using hb
    subst e
    exact I1.fpOk (Nat.le_refl _) (I1.hok.fresh (Nat.le_refl _))
def iRng1 (ta : TA) : TI := fun σ H R => ta σ H fun vs H1 => ∃ j : Int, vs = [.int j] ∧ -(2 ^ 62) ≤ j ∧ j < 2 ^ 62 ∧ R (Itr 0 j.toNat) H1
theorem pi_range1 {a : Expr} {ta : TA} {p pos : Pos} (hg : Gl X "range") (hm : X.mg "range" = none) (ha : PA X [a] ta) (hs : starEach [a] X.env = [(false, eval a X.env)] := by rfl) : PI X tg (.Call (.Name "range" p) [a] [] pos) (iRng1 ta) := by
  intro pins s σ H R I h
  refine Call_ (ld_blt I hg hm boot_range (PyProof.Rows.callWith_type1 (thn (ha pos pins s σ H _ I h) fun us s1 ⟨vs, H1, I1, r1, q1⟩ => ?_) hs rfl))
  obtain ⟨j, e, q1, q2, q⟩ := q1
  subst e
  cases r1 with
  | cons r rr =>
    cases rr
    obtain ⟨t, rfl⟩ := r
    exact call_range_1 (range_it I1 (by omega) (by omega) q1 q2 (by simpa using q))
def tFor (wi : TI) (g : TG) (tb : TS) : TS := fun D σ H => wi σ H fun J H1 => ∃ W : Nat → Nat → St → Hp → Prop, (∃ m, W 0 m σ H1) ∧ ∀ i m σ H, W i m σ H →
  (J.stop i H ∧ D.nx σ H) ∨ (J.go i H ∧ ∃ N : St → Hp → Prop, (∀ σ' H', N σ' H' → ∃ m', m' < m ∧ W (i + 1) m' σ' H') ∧ ∀ x H', J.yld i H x H' → g x σ H' fun σ2 H2 => tb { D with nx := N, ct := N, bk := D.nx } σ2 H2)
def pinsAt (fp : List Addr) (h : Heap) : List (Addr × Obj) := fp.filterMap fun b => (h.get? b).map fun o => (b, o)
theorem mem_pinsAt {fp : List Addr} {h : Heap} {b : Addr} {o : Obj} (hb : b ∈ fp) (e : h.get? b = some o) : (b, o) ∈ pinsAt fp h := List.mem_filterMap.mpr ⟨b, hb, by rw [e]; rfl⟩
theorem of_pinsAt {fp : List Addr} {h : Heap} {p : Addr × Obj} (hp : p ∈ pinsAt fp h) : p.1 ∈ fp ∧ h.get? p.1 = some p.2 := by
  obtain ⟨b, hb, e⟩ := List.mem_filterMap.mp hp
  cases q : h.get? b with
  | none => rw [q] at e; cases e
  | some o =>
    rw [q] at e
    have e' : (b, o) = p := Option.some.inj e
    subst e'
    exact ⟨hb, q⟩
theorem Inv.pinned {pins : List (Addr × Obj)} {σ : St} {H : Hp} {s : Shared} {fp : List Addr} (I : Inv X pins σ H s) (hf : ∀ b ∈ fp, FpOk X pins H b) (ho : ∀ b ∈ fp, ∃ o, s.heap.get? b = some o ∧ ∀ v, o.data ≠ .cell v) : Inv X (pins ++ pinsAt fp s.heap) σ H s :=
  I.pins_of fun p hp => (List.mem_append.mp hp).elim (fun z => I.pin p (List.mem_append_right _ z)) fun z => by
    obtain ⟨hb, e⟩ := of_pinsAt z
    obtain ⟨f0, f1, f2, _⟩ := hf p.1 hb
    obtain ⟨o, e', d⟩ := ho p.1 hb
    rw [e] at e'; cases e'
    exact ⟨e, f0, f1, f2, d⟩
theorem Inv.unpinned {pins pl : List (Addr × Obj)} {σ : St} {H : Hp} {s : Shared} (I : Inv X (pins ++ pl) σ H s) : Inv X pins σ H s := I.pins_of fun p hp => I.pin p (List.mem_append_right _ (List.mem_append_left _ hp))
theorem ps_for {iter : Expr} {body : List Stmt} {wi : TI} {g : TG} {tb : TS} {pos : Pos} (hp : PassesOwn (model X.prog X.w) X.A X.env X.xe) (hc : X.calm = true) (hi : PI X tg iter wi) (hg : PG X tg g) (hb : PSs X body tb)
    (hs : ∀ x, foldedSetIterable iter X.env x = pure x := by intro _; rfl) : PS X (.For tg iter body [] pos) (tFor wi g tb) := by
  intro pins s σ H D I h
  refine wpAny_For (thn (hi pins s σ H _ I h) fun v s1 h1 => thn h1 fun itv s2 h2 => ?_) hs
  obtain ⟨it, fp, tn, J, H2, e, I2, T, st2, f2, W, ⟨m0, w0⟩, turn⟩ := h2
  subst e
  -- what stays true of the iterator's objects through the loop
  have stat : ∀ {H' : Hp}, (∀ b ∈ fp, H' b = none) → ∀ b ∈ fp, FpOk X pins H' b := fun hn b hb => ⟨hn b hb, (f2 b hb).2⟩
  refine codeAny_forLoop_any (fun n s' => ∃ i σ' H', Inv X pins σ' H' s' ∧ tn i s'.heap ∧ (∀ b ∈ fp, H' b = none) ∧ W i n σ' H') ?_ m0 ⟨0, σ, H2, I2, st2, fun b hb => (f2 b hb).1, w0⟩
  rintro n s3 ⟨i, σ3, H3, I3, st3, fr3, w3⟩
  rcases turn i n σ3 H3 w3 with ⟨stop, qn⟩ | ⟨go, N, hN, step⟩
  · refine wpAny_passesOwn hp (thn (T.done X rfl rfl rfl hc i pins s3 σ3 H3 X.xe I3 (stat fr3) st3 stop) fun r s4 ⟨hr, I4⟩ => ?_)
    subst hr
    exact wpAny_execs_nil ⟨σ3, H3, I4, qn⟩
  · refine wpAny_passesOwn hp (thn (T.item X rfl rfl rfl hc i pins s3 σ3 H3 X.xe I3 (stat fr3) st3 go) fun r s4 ⟨u, hr, h4⟩ => ?_)
    subst hr
    refine wpAny_passesOwn hp (thn h4 fun _ s5 ⟨x, H5, I5, r5, y5, st5, fr5⟩ => ?_)
    have I5' := I5.pinned (stat fr5) (T.obj _ _ st5)
    refine wpAny_passesOwn hp (thn (hg _ s5 σ3 H5 x u _ I5' r5 (step x H5 y5)) fun _ s6 ⟨σ6, H6, I6, q6⟩ => ?_)
    refine wpAny_passesOwn hp (thn (hb _ s6 σ6 H6 _ I6 q6) fun f s7 q7 => ?_)
    have again : ∀ {σ7 : St} {H7 : Hp}, Inv X (pins ++ pinsAt fp s5.heap) σ7 H7 s7 → N σ7 H7 → ∃ m, m < n ∧ ∃ i σ' H', Inv X pins σ' H' s7 ∧ tn i s7.heap ∧ (∀ b ∈ fp, H' b = none) ∧ W i m σ' H' := fun {σ7 H7} I7 n7 => by
      obtain ⟨m', hm, w7⟩ := hN σ7 H7 n7
      refine ⟨m', hm, i + 1, σ7, H7, I7.unpinned, T.keep _ _ _ st5 fun b hb o e => (I7.pin (b, o) (List.mem_append_right _ (List.mem_append_right _ (mem_pinsAt hb e)))).1, fun b hb => ?_, w7⟩
      obtain ⟨o, e, d⟩ := T.obj _ _ st5 b hb
      exact (I7.pin (b, o) (List.mem_append_right _ (List.mem_append_right _ (mem_pinsAt hb e)))).2.1
    cases f with
    | next => obtain ⟨σ7, H7, I7, n7⟩ := q7; exact again I7 n7
    | cont => obtain ⟨σ7, H7, I7, n7⟩ := q7; exact again I7 n7
    | brk => obtain ⟨σ7, H7, I7, q7⟩ := q7; exact ⟨σ7, H7, I7.unpinned, q7⟩
    | ret v => obtain ⟨x7, σ7, H7, I7, r7, q7⟩ := q7; exact ⟨x7, σ7, H7, I7.unpinned, r7, q7⟩
end

theorem for_list {K : PySem.W.Frag} {a : Addr} {xs : List V} {g : TG} {tb : TS} {D : Ends} {σ : St} {H : Hp} (Pv : Nat → St → Hp → Prop) (h0 : Pv 0 σ H) (hl : ∀ i σ H, i ≤ xs.length → Pv i σ H → SqL K H a xs)
    (hs : ∀ i x σ H, xs[i]? = some x → Pv i σ H → g x σ H fun σ2 H2 => tb { D with nx := Pv (i + 1), ct := Pv (i + 1), bk := D.nx } σ2 H2) (hd : ∀ σ H, Pv xs.length σ H → D.nx σ H) :
    ∃ W : Nat → Nat → St → Hp → Prop, (∃ m, W 0 m σ H) ∧ ∀ i m σ H, W i m σ H →
      ((Itl K a).stop i H ∧ D.nx σ H) ∨ ((Itl K a).go i H ∧ ∃ N : St → Hp → Prop, (∀ σ' H', N σ' H' → ∃ m', m' < m ∧ W (i + 1) m' σ' H') ∧ ∀ x H', (Itl K a).yld i H x H' → g x σ H' fun σ2 H2 => tb { D with nx := N, ct := N, bk := D.nx } σ2 H2) := by
  refine ⟨fun i m σ H => m = xs.length - i ∧ i ≤ xs.length ∧ Pv i σ H, ⟨xs.length, by simp, Nat.zero_le _, h0⟩, ?_⟩
  rintro i m σ H ⟨rfl, hi, p⟩
  have q := hl i σ H hi p
  by_cases hlt : i < xs.length
  · refine .inr ⟨⟨xs, xs[i], q, by simp [hlt]⟩, Pv (i + 1), fun σ' H' p' => ⟨xs.length - (i + 1), by omega, rfl, hlt, p'⟩, fun x H' y => ?_⟩
    obtain ⟨e, y⟩ := y
    subst e
    exact hs i x σ _ (y xs q) p
  · have e : i = xs.length := by omega
    subst e
    exact .inl ⟨⟨xs, q, Nat.le_refl _⟩, hd σ H p⟩
theorem for_tup {K : PySem.W.Frag} {a : Addr} {xs : List V} {g : TG} {tb : TS} {D : Ends} {σ : St} {H : Hp} (Pv : Nat → St → Hp → Prop) (h0 : Pv 0 σ H) (hl : ∀ i σ H, i ≤ xs.length → Pv i σ H → SqT K H a xs)
    (hs : ∀ i x σ H, xs[i]? = some x → Pv i σ H → g x σ H fun σ2 H2 => tb { D with nx := Pv (i + 1), ct := Pv (i + 1), bk := D.nx } σ2 H2) (hd : ∀ σ H, Pv xs.length σ H → D.nx σ H) :
    ∃ W : Nat → Nat → St → Hp → Prop, (∃ m, W 0 m σ H) ∧ ∀ i m σ H, W i m σ H →
      ((Itt K a).stop i H ∧ D.nx σ H) ∨ ((Itt K a).go i H ∧ ∃ N : St → Hp → Prop, (∀ σ' H', N σ' H' → ∃ m', m' < m ∧ W (i + 1) m' σ' H') ∧ ∀ x H', (Itt K a).yld i H x H' → g x σ H' fun σ2 H2 => tb { D with nx := N, ct := N, bk := D.nx } σ2 H2) := by
  refine ⟨fun i m σ H => m = xs.length - i ∧ i ≤ xs.length ∧ Pv i σ H, ⟨xs.length, by simp, Nat.zero_le _, h0⟩, ?_⟩
  rintro i m σ H ⟨rfl, hi, p⟩
  have q := hl i σ H hi p
  by_cases hlt : i < xs.length
  · refine .inr ⟨⟨xs, xs[i], q, by simp [hlt]⟩, Pv (i + 1), fun σ' H' p' => ⟨xs.length - (i + 1), by omega, rfl, hlt, p'⟩, fun x H' y => ?_⟩
    obtain ⟨e, y⟩ := y
    subst e
    exact hs i x σ _ (y xs q) p
  · have e : i = xs.length := by omega
    subst e
    exact .inl ⟨⟨xs, q, Nat.le_refl _⟩, hd σ H p⟩
theorem for_range {lo : Int} {n : Nat} {g : TG} {tb : TS} {D : Ends} {σ : St} {H : Hp} (Pv : Nat → St → Hp → Prop) (h0 : Pv 0 σ H)
    (hs : ∀ i σ H, i < n → Pv i σ H → g (.int (lo + i)) σ H fun σ2 H2 => tb { D with nx := Pv (i + 1), ct := Pv (i + 1), bk := D.nx } σ2 H2) (hd : ∀ σ H, Pv n σ H → D.nx σ H) :
    ∃ W : Nat → Nat → St → Hp → Prop, (∃ m, W 0 m σ H) ∧ ∀ i m σ H, W i m σ H →
      ((Itr lo n).stop i H ∧ D.nx σ H) ∨ ((Itr lo n).go i H ∧ ∃ N : St → Hp → Prop, (∀ σ' H', N σ' H' → ∃ m', m' < m ∧ W (i + 1) m' σ' H') ∧ ∀ x H', (Itr lo n).yld i H x H' → g x σ H' fun σ2 H2 => tb { D with nx := N, ct := N, bk := D.nx } σ2 H2) := by
  refine ⟨fun i m σ H => m = n - i ∧ i ≤ n ∧ Pv i σ H, ⟨n, by simp, Nat.zero_le _, h0⟩, ?_⟩
  rintro i m σ H ⟨rfl, hi, p⟩
  by_cases hlt : i < n
  · refine .inr ⟨hlt, Pv (i + 1), fun σ' H' p' => ⟨n - (i + 1), by omega, rfl, hlt, p'⟩, fun x H' y => ?_⟩
    obtain ⟨e, y⟩ := y
    subst e y
    exact hs i σ _ hlt p
  · have e : i = n := by omega
    subst e
    exact .inl ⟨Nat.le_refl _, hd σ H p⟩
end L2

namespace L2
open PySem PySem.Spec PyProof.Rows

abbrev R2 := V → V → Hp → VK → Prop
def OpR (X : Cx) (f : Value → Value → Sem Value) (r : R2) : Prop :=
  ∀ (pins : List (Addr × Obj)) (s : Shared) (σ : St) (H : Hp) (x y : V) (v u : Value) (Q : VK), Inv X pins σ H s → RelV x v → RelV y u → r x y H Q →
    wpAny (model X.prog X.w) X.A (f v u) (EP X pins σ Q) X.xe s
def UnR (X : Cx) (f : Value → Sem Value) (r : V → Hp → VK → Prop) : Prop :=
  ∀ (pins : List (Addr × Obj)) (s : Shared) (σ : St) (H : Hp) (x : V) (v : Value) (Q : VK), Inv X pins σ H s → RelV x v → r x H Q →
    wpAny (model X.prog X.w) X.A (f v) (EP X pins σ Q) X.xe s
def CallR (X : Cx) (f : Value) (r : List V → Hp → VK → Prop) : Prop :=
  ∀ (pins : List (Addr × Obj)) (s : Shared) (σ : St) (H : Hp) (xs : List V) (us : List Value) (Q : VK), Inv X pins σ H s → Vals xs us → r xs H Q →
    wpAny (model X.prog X.w) X.A (call f us) (EP X pins σ Q) X.xe s
def tOp (r : R2) (ta tb : TE) : TE := fun σ H Q => ta σ H fun x H1 => tb σ H1 fun y H2 => r x y H2 Q
def tUn (r : V → Hp → VK → Prop) (ta : TE) : TE := fun σ H Q => ta σ H fun x H1 => r x H1 Q
def rI (C : Int → Int → Prop) (g : Int → Int → V) : R2 := fun x y H Q => ∃ i j, x = .int i ∧ y = .int j ∧ C i j ∧ Q (g i j) H
def rI0 (g : Int → Int → V) : R2 := fun x y H Q => ∃ i j, x = .int i ∧ y = .int j ∧ Q (g i j) H
def rU (g : Int → V) : V → Hp → VK → Prop := fun x H Q => ∃ i, x = .int i ∧ Q (g i) H

section
variable {X : Cx} {a b c : Expr} {ta tb tc : TE} {pos : Pos}

theorem binT (ha : PE X a ta) (hb : PE X b tb) {pins : List (Addr × Obj)} {s : Shared} {σ : St} {H : Hp} {R : V → V → Hp → Prop} (I : Inv X pins σ H s)
    (h : ta σ H fun x H1 => tb σ H1 fun y H2 => R x y H2) {Q : Value → Shared → Prop} {f : Value → Value → Sem Value}
    (hf : ∀ v u s2 x y H2, Inv X pins σ H2 s2 → RelV x v → RelV y u → R x y H2 → wpAny (model X.prog X.w) X.A (f v u) Q X.xe s2) :
    wpAny (model X.prog X.w) X.A (eval a X.env) (fun v s₁ => wpAny (model X.prog X.w) X.A (eval b X.env) (fun u s₂ => wpAny (model X.prog X.w) X.A (f v u) Q X.xe s₂) X.xe s₁) X.xe s := by
  refine thn (ha pins s σ H _ I h) fun v s1 ⟨x, H1, I1, r1, q1⟩ => ?_
  refine thn (hb pins s1 σ H1 _ I1 q1) fun u s2 ⟨y, H2, I2, r2, q2⟩ => ?_
  exact hf v u s2 x y H2 I2 r1 r2 q2

theorem pe_op {op : Operator} {r : R2} (ho : OpR X (binaryOp op) r) (ha : PE X a ta) (hb : PE X b tb) : PE X (.BinOp a op b pos) (tOp r ta tb) := by
  intro pins s σ H Q I h
  exact wpAny_BinOp (binT ha hb I h fun v u s2 x y H2 I2 rx ry q => ho pins s2 σ H2 x y v u Q I2 rx ry q)
theorem pe_un {op : UnaryOp} {r : V → Hp → VK → Prop} (ho : UnR X (unaryOp op) r) (ha : PE X a ta) : PE X (.UnaryOp op a pos) (tUn r ta) := by
  intro pins s σ H Q I h
  exact UnaryOp_ (thn (ha pins s σ H _ I h) fun v s1 ⟨x, H1, I1, r1, q1⟩ => ho pins s1 σ H1 x v Q I1 r1 q1)
theorem opI {f : Value → Value → Sem Value} {C : Int → Int → Prop} {g : Int → Int → Int}
    (rule : ∀ (i j : Int) (t u : Tok) (s : Shared) (Q : Value → Shared → Prop) (E : Value → Shared → Prop), C i j → Q (.int (g i j) s.toks) { s with toks := s.toks + 1 } → wpAny (model X.prog X.w) X.A (f (.int i t) (.int j u)) Q E s) :
    OpR X f (rI C fun i j => .int (g i j)) := by
  intro pins s σ H x y v u Q I rx ry h
  obtain ⟨i, j, rfl, rfl, hc, q⟩ := h
  obtain ⟨t, rfl⟩ := rx
  obtain ⟨t', rfl⟩ := ry
  exact rule i j t t' s _ _ hc ⟨.int (g i j), H, I.tok _, ⟨_, rfl⟩, q⟩
theorem opI0 {f : Value → Value → Sem Value} {g : Int → Int → Int}
    (rule : ∀ (i j : Int) (t u : Tok) (s : Shared) (Q : Value → Shared → Prop) (E : Value → Shared → Prop), Q (.int (g i j) s.toks) { s with toks := s.toks + 1 } → wpAny (model X.prog X.w) X.A (f (.int i t) (.int j u)) Q E s) :
    OpR X f (rI0 fun i j => .int (g i j)) := by
  intro pins s σ H x y v u Q I rx ry h
  obtain ⟨i, j, rfl, rfl, q⟩ := h
  obtain ⟨t, rfl⟩ := rx
  obtain ⟨t', rfl⟩ := ry
  exact rule i j t t' s _ _ ⟨.int (g i j), H, I.tok _, ⟨_, rfl⟩, q⟩
theorem opB0 {f : Value → Value → Sem Value} {g : Int → Int → Bool}
    (rule : ∀ (i j : Int) (t u : Tok) (s : Shared) (Q : Value → Shared → Prop) (E : Value → Shared → Prop), Q (.bool (g i j)) s → wpAny (model X.prog X.w) X.A (f (.int i t) (.int j u)) Q E s) :
    OpR X f (rI0 fun i j => .bl (g i j)) := by
  intro pins s σ H x y v u Q I rx ry h
  obtain ⟨i, j, rfl, rfl, q⟩ := h
  obtain ⟨t, rfl⟩ := rx
  obtain ⟨t', rfl⟩ := ry
  exact rule i j t t' s _ _ ⟨.bl (g i j), H, I, rfl, q⟩

def CDiv (i j : Int) : Prop := 0 < j ∧ j < 1073741824
def CMul (i j : Int) : Prop := (-(2 ^ 64) < i ∧ i < 2 ^ 64) ∨ (-(2 ^ 64) < j ∧ j < 2 ^ 64)
theorem CMul.ok {i j : Int} (h : CMul i j) : IntMulOk i j := by
  rcases h with ⟨h1, h2⟩ | ⟨h1, h2⟩
  · exact .of_left (intBits_le_64 h1 h2)
  · exact .of_right (intBits_le_64 h1 h2)
theorem op_add : OpR X (binaryOp .Add) (rI0 fun i j => .int (i + j)) := opI0 fun _ _ _ _ _ _ _ q => add_int q
theorem op_sub : OpR X (binaryOp .Sub) (rI0 fun i j => .int (i - j)) := opI0 fun _ _ _ _ _ _ _ q => sub_int q
theorem op_mul : OpR X (binaryOp .Mult) (rI CMul fun i j => .int (i * j)) := opI fun _ _ _ _ _ _ _ hc q => mul_int q hc.ok
theorem op_fdiv : OpR X (binaryOp .FloorDiv) (rI CDiv fun i j => .int (i / j)) := opI fun i j _ _ _ _ _ hc q => by
  have h1 : (0 : Int) < j := hc.1
  have h2 : j < 1073741824 := hc.2
  exact floordiv_int (by omega) (by rw [Int.fdiv_eq_ediv_of_nonneg i (by omega)]; exact q) (.inl (PyProof.noPylong_small (by omega)))
theorem op_mod : OpR X (binaryOp .Mod) (rI (fun _ j => 0 < j) fun i j => .int (i % j)) := opI fun i j _ _ _ _ _ hc q => by
  have h1 : (0 : Int) < j := hc
  exact mod_int' (by omega) (by rw [Int.fmod_eq_emod_of_nonneg i (by omega)]; exact q)
theorem unI {f : Value → Sem Value} {g : Int → Int}
    (rule : ∀ (i : Int) (t : Tok) (s : Shared) (Q : Value → Shared → Prop) (E : Value → Shared → Prop), Q (.int (g i) s.toks) { s with toks := s.toks + 1 } → wpAny (model X.prog X.w) X.A (f (.int i t)) Q E s) :
    UnR X f (rU fun i => .int (g i)) := by
  intro pins s σ H x v Q I rx h
  obtain ⟨i, rfl, q⟩ := h
  obtain ⟨t, rfl⟩ := rx
  exact rule i t s _ _ ⟨.int (g i), H, I.tok _, ⟨_, rfl⟩, q⟩
theorem un_neg : UnR X (unaryOp .USub) (rU fun i => .int (-i)) := unI fun _ _ _ _ _ q => neg_int q
end

def scal : V → V → Bool
  | .non, .non => true | .non, .int _ => true | .int _, .non => true | .non, .bl _ => true | .bl _, .non => true | .non, .str _ => true | .str _, .non => true
  | .int _, .int _ => true | .bl _, .bl _ => true | .str _, .str _ => true | .byt _, .byt _ => true
  | .int _, .str _ => true | .str _, .int _ => true | .bl _, .str _ => true | .str _, .bl _ => true
  | _, _ => false
def rEq : R2 := fun x y H Q => scal x y = true ∧ Q (.bl (decide (x = y))) H
def rNe : R2 := fun x y H Q => scal x y = true ∧ Q (.bl (!decide (x = y))) H

theorem dec_int {i j : Int} : decide (V.int i = V.int j) = (i == j) := by
  rw [Bool.eq_iff_iff]
  simp
theorem dec_bl {i j : Bool} : decide (V.bl i = V.bl j) = (i == j) := by
  rw [Bool.eq_iff_iff]
  simp
theorem dec_str {i j : Str} : decide (V.str i = V.str j) = (i == j) := by
  rw [Bool.eq_iff_iff]
  simp
theorem dec_byt {i j : Array UInt8} : decide (V.byt i = V.byt j) = (i.toList == j.toList) := by
  rw [Bool.eq_iff_iff]
  cases i
  cases j
  simp

section
variable {X : Cx} {a b c : Expr} {ta tb tc : TE} {pos : Pos}
theorem fin_bl {pins : List (Addr × Obj)} {σ : St} {H : Hp} {s : Shared} {Q : VK} {k k' : Bool} (I : Inv X pins σ H s) (q : Q (.bl k) H) (e : k = k') : EP X pins σ Q (.bool k') s := by
  subst e
  exact ⟨.bl k, H, I, rfl, q⟩
theorem op_eq : OpR X (compareOp .Eq) rEq := by
  intro pins s σ H x y v u Q I rx ry h
  obtain ⟨hs, q⟩ := h
  cases x with
  | non =>
    cases rx
    cases y with
    | non => cases ry; exact PySem.EqNone.eq_none_none (fin_bl I q (by simp))
    | bl j => cases ry; exact PySem.EqNone.eq_none_bool (fin_bl I q (by simp))
    | int j => obtain ⟨t', rfl⟩ := ry; exact PySem.EqNone.eq_none_int (fin_bl I q (by simp))
    | str j => obtain ⟨t', rfl⟩ := ry; exact PySem.EqNone.eq_none_str (fin_bl I q (by simp))
    | _ => exact absurd (show false = true from hs) Bool.false_ne_true
  | bl i =>
    cases rx
    cases y with
    | non => cases ry; exact PySem.EqNone.eq_bool_none (fin_bl I q (by simp))
    | bl j => cases ry; exact eq_bool (fin_bl I q dec_bl)
    | str j => obtain ⟨t', rfl⟩ := ry; exact PySem.EqMixed.eq_bool_str (fin_bl I q (by simp))
    | _ => exact absurd (show false = true from hs) Bool.false_ne_true
  | int i =>
    obtain ⟨t, rfl⟩ := rx
    cases y with
    | non => cases ry; exact PySem.EqNone.eq_int_none (fin_bl I q (by simp))
    | int j => obtain ⟨t', rfl⟩ := ry; exact eq_int (fin_bl I q dec_int)
    | str j => obtain ⟨t', rfl⟩ := ry; exact PySem.EqMixed.eq_int_str (fin_bl I q (by simp))
    | _ => exact absurd (show false = true from hs) Bool.false_ne_true
  | str i =>
    obtain ⟨t, rfl⟩ := rx
    cases y with
    | non => cases ry; exact PySem.EqNone.eq_str_none (fin_bl I q (by simp))
    | bl j => cases ry; exact PySem.EqMixed.eq_str_bool (fin_bl I q (by simp))
    | int j => obtain ⟨t', rfl⟩ := ry; exact PySem.EqMixed.eq_str_int (fin_bl I q (by simp))
    | str j => obtain ⟨t', rfl⟩ := ry; exact eq_str (fin_bl I q dec_str)
    | _ => exact absurd (show false = true from hs) Bool.false_ne_true
  | byt i =>
    obtain ⟨t, rfl⟩ := rx
    cases y with
    | byt j => obtain ⟨t', rfl⟩ := ry; exact PySem.W.eq_bytes (fin_bl I q dec_byt)
    | _ => exact absurd (show false = true from hs) Bool.false_ne_true
  | _ => cases y <;> exact absurd (show false = true from hs) Bool.false_ne_true
theorem op_ne : OpR X (compareOp .NotEq) rNe := by
  intro pins s σ H x y v u Q I rx ry h
  obtain ⟨hs, q⟩ := h
  cases x with
  | non =>
    cases rx
    cases y with
    | non => cases ry; exact PySem.EqNone.ne_none_none (fin_bl I q (by simp))
    | bl j => cases ry; exact PySem.EqNone.ne_none_bool (fin_bl I q (by simp))
    | int j => obtain ⟨t', rfl⟩ := ry; exact PySem.EqNone.ne_none_int (fin_bl I q (by simp))
    | str j => obtain ⟨t', rfl⟩ := ry; exact PySem.EqNone.ne_none_str (fin_bl I q (by simp))
    | _ => exact absurd (show false = true from hs) Bool.false_ne_true
  | bl i =>
    cases rx
    cases y with
    | non => cases ry; exact PySem.EqNone.ne_bool_none (fin_bl I q (by simp))
    | bl j => cases ry; exact ne_bool (fin_bl I q (congrArg not dec_bl))
    | str j => obtain ⟨t', rfl⟩ := ry; exact PySem.EqMixed.ne_bool_str (fin_bl I q (by simp))
    | _ => exact absurd (show false = true from hs) Bool.false_ne_true
  | int i =>
    obtain ⟨t, rfl⟩ := rx
    cases y with
    | non => cases ry; exact PySem.EqNone.ne_int_none (fin_bl I q (by simp))
    | int j => obtain ⟨t', rfl⟩ := ry; exact ne_int (fin_bl I q (congrArg not dec_int))
    | str j => obtain ⟨t', rfl⟩ := ry; exact PySem.EqMixed.ne_int_str (fin_bl I q (by simp))
    | _ => exact absurd (show false = true from hs) Bool.false_ne_true
  | str i =>
    obtain ⟨t, rfl⟩ := rx
    cases y with
    | non => cases ry; exact PySem.EqNone.ne_str_none (fin_bl I q (by simp))
    | bl j => cases ry; exact PySem.EqMixed.ne_str_bool (fin_bl I q (by simp))
    | int j => obtain ⟨t', rfl⟩ := ry; exact PySem.EqMixed.ne_str_int (fin_bl I q (by simp))
    | str j => obtain ⟨t', rfl⟩ := ry; exact ne_str (fin_bl I q (congrArg not dec_str))
    | _ => exact absurd (show false = true from hs) Bool.false_ne_true
  | byt i =>
    obtain ⟨t, rfl⟩ := rx
    cases y with
    | byt j => obtain ⟨t', rfl⟩ := ry; exact PySem.W.ne_bytes (fin_bl I q (congrArg not dec_byt))
    | _ => exact absurd (show false = true from hs) Bool.false_ne_true
  | _ => cases y <;> exact absurd (show false = true from hs) Bool.false_ne_true

theorem op_lt : OpR X (compareOp .Lt) (rI0 fun i j => .bl (decide (i < j))) := opB0 fun _ _ _ _ _ _ _ q => lt_int q
theorem op_le : OpR X (compareOp .LtE) (rI0 fun i j => .bl (decide (i ≤ j))) := opB0 fun _ _ _ _ _ _ _ q => le_int q
theorem op_gt : OpR X (compareOp .Gt) (rI0 fun i j => .bl (decide (j < i))) := opB0 fun _ _ _ _ _ _ _ q => gt_int q
theorem op_ge : OpR X (compareOp .GtE) (rI0 fun i j => .bl (decide (j ≤ i))) := opB0 fun _ _ _ _ _ _ _ q => ge_int q
theorem OpR.or {f : Value → Value → Sem Value} {r r' : R2} (h : OpR X f r) (h' : OpR X f r') : OpR X f (fun x y H Q => r x y H Q ∨ r' x y H Q) := by
  intro pins s σ H x y v u Q I rx ry q
  rcases q with q | q
  · exact h pins s σ H x y v u Q I rx ry q
  · exact h' pins s σ H x y v u Q I rx ry q

theorem nomark (b : Expr) {op : CmpOp} (h : op ≠ .In := by decide) (h2 : op ≠ .NotIn := by decide) : behindInMarks op b = false := by
  have e1 : (op == CmpOp.In) = false := by cases op <;> first | rfl | exact absurd rfl h
  have e2 : (op == CmpOp.NotIn) = false := by cases op <;> first | rfl | exact absurd rfl h2
  cases b <;> simp [behindInMarks, e1, e2]
theorem pe_cmpR {op : CmpOp} {r : R2} (ho : OpR X (compareOp op) r) (ha : PE X a ta) (hb : PE X b tb) (hm : behindInMarks op b = false) : PE X (.Compare a [op] [b] pos) (tOp r ta tb) := by
  intro pins s σ H Q I h
  exact wpAny_Compare1 (binT ha hb I h fun v u s2 x y H2 I2 rx ry q => ho pins s2 σ H2 x y v u Q I2 rx ry q) hm
def tTest (t : TE) : TT := fun σ H Q => t σ H fun x H' => ∃ k, x = .bl k ∧ Q k H'
theorem pt_cmpR {op : CmpOp} {r : R2} (ho : OpR X (compareOp op) r) (ha : PE X a ta) (hb : PE X b tb) (hm : behindInMarks op b = false) : PT X (.Compare a [op] [b] pos) (tTest (tOp r ta tb)) := by
  intro pins s σ H Q I h
  refine wpAny_isTrue_Compare1 (thn (ha pins s σ H _ I h) fun v s1 ⟨x, H1, I1, r1, q1⟩ => thn (hb pins s1 σ H1 _ I1 q1) fun u s2 ⟨y, H2, I2, r2, q2⟩ =>
    thn (ho pins s2 σ H2 x y v u _ I2 r1 r2 q2) fun c s3 ⟨z, H3, I3, r3, k, e, q3⟩ => ?_) hm
  subst e
  cases r3
  exact wpAny_truthy_bool ⟨H3, I3, q3⟩
def tChain (r r' : R2) (ta tb tc : TE) : TE := fun σ H Q => ta σ H fun x H1 => tb σ H1 fun y H2 => r x y H2 fun z H3 => ∃ k, z = .bl k ∧
  (if k = true then tc σ H3 fun w' H4 => r' y w' H4 Q else Q (.bl false) H3)
theorem pe_chain {op op' : CmpOp} {r r' : R2} (ho : OpR X (compareOp op) r) (ho' : OpR X (compareOp op') r') (ha : PE X a ta) (hb : PE X b tb) (hc : PE X c tc)
    (hm : lastMarks [op, op'] [b, c] = false := by with_unfolding_all rfl) : PE X (.Compare a [op, op'] [b, c] pos) (tChain r r' ta tb tc) := by
  intro pins s σ H Q I h
  refine Compare_chain (thn (ha pins s σ H _ I h) fun v s1 ⟨x, H1, I1, r1, q1⟩ => chain_link (thn (hb pins s1 σ H1 _ I1 q1) fun u s2 ⟨y, H2, I2, r2, q2⟩ =>
    thn (ho pins s2 σ H2 x y v u _ I2 r1 r2 q2) fun d s3 ⟨z, H3, I3, r3, k, e, q3⟩ => ?_)) hm
  subst e
  cases r3
  refine wpAny_truthy_bool ?_
  cases k with
  | false => exact ite_ff ⟨.bl false, H3, I3, rfl, q3⟩
  | true => exact ite_tt (chain_last (thn (hc pins s3 σ H3 _ I3 q3) fun w' s4 ⟨z', H4, I4, r4, q4⟩ => ho' pins s4 σ H4 y z' u w' Q I4 r2 r4 q4))
theorem pt_chain {op op' : CmpOp} {r r' : R2} (ho : OpR X (compareOp op) r) (ho' : OpR X (compareOp op') r') (ha : PE X a ta) (hb : PE X b tb) (hc : PE X c tc)
    (hm : lastMarks [op, op'] [b, c] = false := by with_unfolding_all rfl) : PT X (.Compare a [op, op'] [b, c] pos) (tTest (tChain r r' ta tb tc)) := by
  intro pins s σ H Q I h
  refine isTrue_chain (thn (ha pins s σ H _ I h) fun v s1 ⟨x, H1, I1, r1, q1⟩ => test_link (thn (hb pins s1 σ H1 _ I1 q1) fun u s2 ⟨y, H2, I2, r2, q2⟩ =>
    thn (ho pins s2 σ H2 x y v u _ I2 r1 r2 q2) fun d s3 ⟨z, H3, I3, r3, k, e, q3⟩ => ?_)) hm
  subst e
  cases r3
  refine wpAny_truthy_bool ?_
  cases k with
  | false =>
    obtain ⟨k', e', q'⟩ := q3
    cases e'
    exact ite_ff ⟨H3, I3, q'⟩
  | true =>
    refine ite_tt (test_last (thn (hc pins s3 σ H3 _ I3 q3) fun w' s4 ⟨z', H4, I4, r4, q4⟩ => thn (ho' pins s4 σ H4 y z' u w' _ I4 r2 r4 q4) fun d' s5 ⟨z2, H5, I5, r5, k2, e2, q5⟩ => ?_))
    subst e2
    cases r5
    exact wpAny_truthy_bool ⟨H5, I5, q5⟩

theorem line63 : (sizeLine : Nat) < 2 ^ 63 := by rw [sizeLine_eq]; decide
theorem op_add_str : OpR X (binaryOp .Add) (fun x y H Q => ∃ i j, x = .str i ∧ y = .str j ∧ i.length + j.length ≤ sizeLine ∧ Q (.str (i ++ j)) H) := by
  intro pins s σ H x y v u Q I rx ry h
  obtain ⟨i, j, rfl, rfl, hz, q⟩ := h
  obtain ⟨t, rfl⟩ := rx
  obtain ⟨t', rfl⟩ := ry
  exact add_str (fun t' tk => ⟨.str (i ++ j), H, I.tok _, ⟨_, rfl⟩, q⟩) hz
theorem vals1 {x : V} {us : List Value} (r : Vals [x] us) : ∃ u, us = [u] ∧ RelV x u := by
  cases r with
  | cons r1 r2 => cases r2; exact ⟨_, rfl, r1⟩
theorem vals2 {x y : V} {us : List Value} (r : Vals [x, y] us) : ∃ u w', us = [u, w'] ∧ RelV x u ∧ RelV y w' := by
  cases r with
  | cons r1 r2 =>
    cases r2 with
    | cons r3 r4 => cases r4; exact ⟨_, _, rfl, r1, r3⟩
theorem call_min2 (hc : X.calm = true) : CallR X (.builtin "min") (fun xs H Q => ∃ i j, xs = [.int i, .int j] ∧ Q (.int (if j < i then j else i)) H) := by
  intro pins s σ H xs us Q I r h
  obtain ⟨i, j, rfl, q⟩ := h
  obtain ⟨u, w', rfl, ⟨t, rfl⟩, ⟨t', rfl⟩⟩ := vals2 r
  refine min_two_ints (I.ok.hd hc) fun h' tk k => ⟨_, H, I.kept k, ?_, q⟩
  by_cases hj : j < i
  · rw [if_pos hj, if_pos hj]; exact ⟨_, rfl⟩
  · rw [if_neg hj, if_neg hj]; exact ⟨_, rfl⟩
end
end L2

namespace L2
open PySem PySem.Spec PyProof.Rows

structure ObjM (h : Heap) (x dx C : Addr) (mA : Str → Option Value) : Prop where
  obj : h.get? x = some (PySem.W.instObj C dx)
  ns : h.Ns1 dx mA
  ne : dx ≠ x

theorem lookIn_ns {h : Heap} {dx : Addr} {mA : Str → Option Value} (n : h.Ns1 dx mA) : ∃ od, h.get? dx = some od ∧ ∀ name, PySem.W.lookIn name od = some (mA name) := by
  obtain ⟨o, es, ep, ho, hd, hk, _, hm⟩ := n
  refine ⟨o, ho, fun name => ?_⟩
  have e := hm name
  unfold nsFind findBy at e
  rw [← Array.find?_toList] at e
  unfold PySem.W.lookIn
  rw [hd]
  dsimp only
  split
  · rename_i y q
    rw [q] at e
    exact congrArg some e
  · rename_i q
    rw [q] at e
    have a : es.toList.any (·.refKey) = false := by
      rw [List.any_eq_false]
      intro y hy
      obtain ⟨z, t, hkey⟩ := hk y (Array.mem_toList_iff.mp hy)
      simp [DictEntry.refKey, hkey]
    have a' : ¬ es.toList.any (·.refKey) = true := by rw [a]; exact Bool.false_ne_true
    rw [if_neg a']
    exact congrArg some e

theorem ObjM.look {h : Heap} {x dx C : Addr} {mA : Str → Option Value} (I : ObjM h x dx C mA) : ∃ od, PySem.W.InstAt h x (PySem.W.instObj C dx) C (some od) ∧ ∀ name, PySem.W.lookIn name od = some (mA name) :=
  let ⟨od, ho, hl⟩ := lookIn_ns I.ns
  ⟨od, ⟨I.obj, rfl, rfl, ho⟩, hl⟩

section
variable {prog : Program} {w : World} {A : Around} {E : Value → Shared → Prop} {s : Shared} {K : PySem.W.Frag} {x dx C f : Addr} {mA : Str → Option Value} {name : Str} {v : Value}

theorem get_map {expr : Bool} {Q : Value → Shared → Prop} (X : K.In s.heap) (I : ObjM s.heap x dx C mA) (hg : PySem.W.plainGet K C name = true) (hh : PySem.W.hasDictIn K C = true)
    (ha : PySem.W.findIn K (.ref C) name = some none) (hv : mA name = some v) (hv' : PySem.W.handedIn v = true) (h : Q v { s with toks := s.toks + 1 }) :
    wpAny (model prog w) A (getAttr (.ref x) name expr) Q E s := by
  obtain ⟨od, J, hl⟩ := I.look
  exact PySem.W.get_value X J (PySem.W.plainGet_of hg).1 (PySem.W.findObj_own hh ha rfl (by rw [hl, hv])) hv' h

theorem get_meth {pl : Sem Bool} {Q : Value × List Value → Shared → Prop} (X : K.In s.heap) (I : ObjM s.heap x dx C mA) (hg : PySem.W.plainGet K C name = true)
    (hf : PySem.W.findIn K (.ref C) name = some (some (.ref f))) (ht : PySem.W.isFn K (.ref f) = true) (hv : mA name = none) (h : Q (.ref f, [.ref x]) s) :
    wpAny (model prog w) A (getMethod (.ref x) name pl) Q E s := by
  obtain ⟨od, J, hl⟩ := I.look
  exact PySem.W.method_fn X J (PySem.W.plainGet_of hg).1 (PySem.W.plainGet_of hg).2 hf (beq_iff_eq.mp ht) (by show (PySem.W.lookIn name od).map (·.isSome) = some false; rw [hl, hv]; rfl) h

theorem set_map {ns : List Str} {Q : Unit → Shared → Prop} (X : K.In s.heap) (I : ObjM s.heap x dx C mA)
    (hs : PySem.W.findIn K (.ref C) "__setattr__" = some (some (.builtin "object.__setattr__"))) (hp : PySem.W.plainOver K C = true) (ht : PySem.W.takerIn K C name = some none) (hh : PySem.W.hasDictIn K C = true)
    (hw : PySem.Within mA ns) (hsz : ns.length ≤ sizeLine)
    (h : ∀ h', ObjM h' x dx C (fun y => if y = name then some v else mA y) → Heap.SameBut dx s.heap h' → Q () { s with heap := h', toks := s.toks + 2 }) :
    wpAny (model prog w) A (setAttr (.ref x) name v) Q E s := by
  obtain ⟨od, J, hl⟩ := I.look
  refine PySem.W.set_plain X J hs (PySem.W.osa_open (s := { s with toks := s.toks + 1 }) (r := none) X J hp ht fun b => ?_)
  obtain ⟨cd, hc, hd'⟩ := PySem.W.any_some hh
  have hx : s.heap.get? x = some ⟨.ref C, some dx, .plain, #[]⟩ := I.obj
  refine wpAny_bind (wpAny_pure (wpAny_bind (wpAny_bind (wpAny_loadPart hx (wpAny_bind (PySem.W.Looks.here (s := { s with toks := s.toks + 1 }) (PySem.W.looks_clsIn X hc) ?_))))))
  rw [hd']
  refine wpAny_pure (a := some dx) (wpAny_bind (wpAny_pure (wpAny_bind ?_)))
  refine wpAny_nsSet1 (s := { s with toks := s.toks + 1 }) I.ns fun h' hn2 hs2 => ?_
  obtain ⟨oD, esD, epD, hoD, hdD, hcD⟩ := hn2.count (PySem.Within.cons name v hw)
  refine wpAny_bind (wpAny_lookBehind hoD (by rw [hdD]; exact pastItsLine_dict (Nat.le_trans hcD (by rw [List.length_cons]; omega))) ?_)
  exact wpAny_pure (h _ ⟨(hs2.2 _ (Ne.symm I.ne)).trans I.obj, hn2, I.ne⟩ hs2)

theorem make_map {R : Result → Shared → Prop} {vs : List Value} {kw : List (Str × Value)} (X : K.In s.heap) (hm : PySem.W.makesIn K C = true)
    (hi : PySem.W.findIn K (.ref C) "__init__" = some (some (.ref f))) (hf : PySem.W.typeIn K (.ref f) = some (.type "function"))
    (h : codeAny (model prog w) (A.under (.builtin "type.__call__" ⟨.ref C :: vs, kw⟩)) (.call (.ref f) ⟨.ref (s.heap.objs.size + 1) :: vs, kw⟩) (PySem.W.InitBack (s.heap.objs.size + 1) R)
      { s with heap := (s.heap.push PySem.W.emptyDict).push (PySem.W.instObj C s.heap.objs.size) }) :
    codeAny (model prog w) A (.call (.ref C) ⟨vs, kw⟩) R s := by
  obtain ⟨hh, g, d, t, os⟩ := s
  exact PySem.W.make_core (PySem.W.makes_of X hm) (PySem.W.looks_findIn X hi) (fun self => PySem.W.bind_fn X self hf) (.inl rfl) h
end

def putF (f : Str) (v : V) : List (Str × V) → List (Str × V)
  | [] => [(f, v)]
  | (g, x) :: r => if g = f then (g, v) :: r else (g, x) :: putF f v r
theorem lookup_putF (f g : Str) (v : V) : ∀ fs : List (Str × V), (putF f v fs).lookup g = if g = f then some v else fs.lookup g
  | [] => by
    show List.lookup g [(f, v)] = _
    by_cases h : g = f
    · have hb : (g == f) = true := beq_iff_eq.mpr h
      simp only [List.lookup, hb, if_pos h]
    · have hb : (g == f) = false := beq_eq_false_iff_ne.mpr h
      simp only [List.lookup, hb, if_neg h]
  | (k, x) :: r => by
    have ih := lookup_putF f g v r
    rw [show putF f v ((k, x) :: r) = (if k = f then (k, v) :: r else (k, x) :: putF f v r) from rfl]
    by_cases hk : k = f
    · rw [if_pos hk]
      by_cases h : g = k
      · have hb : (g == k) = true := beq_iff_eq.mpr h
        simp only [List.lookup, hb, if_pos (h.trans hk)]
      · have hb : (g == k) = false := beq_eq_false_iff_ne.mpr h
        simp only [List.lookup, hb, if_neg (fun e : g = f => h (e.trans hk.symm))]
    · rw [if_neg hk]
      by_cases h : g = k
      · have hb : (g == k) = true := beq_iff_eq.mpr h
        simp only [List.lookup, hb, if_neg (fun e : g = f => hk (h.symm.trans e))]
      · have hb : (g == k) = false := beq_eq_false_iff_ne.mpr h
        simp only [List.lookup, hb]
        exact ih
theorem keys_putF (f : Str) (v : V) : ∀ fs : List (Str × V), f ∈ (putF f v fs).map (·.1) ∧ ∀ g, g ∈ fs.map (·.1) → g ∈ (putF f v fs).map (·.1)
  | [] => ⟨by simp [putF], fun g h => by simp at h⟩
  | (k, x) :: r => by
    obtain ⟨i1, i2⟩ := keys_putF f v r
    rw [show putF f v ((k, x) :: r) = (if k = f then (k, v) :: r else (k, x) :: putF f v r) from rfl]
    by_cases hk : k = f
    · rw [if_pos hk]
      subst hk
      exact ⟨by simp, fun g h => by simpa using h⟩
    · rw [if_neg hk]
      refine ⟨?_, fun g h => ?_⟩
      · rw [List.map_cons]
        exact List.mem_cons_of_mem _ i1
      · rw [List.map_cons] at h ⊢
        rcases List.mem_cons.mp h with e | e
        · exact List.mem_cons.mpr (.inl e)
        · exact List.mem_cons_of_mem _ (i2 g e)
theorem length_putF (f : Str) (v : V) : ∀ fs : List (Str × V), (putF f v fs).length ≤ fs.length + 1
  | [] => by simp [putF]
  | (k, x) :: r => by
    have ih := length_putF f v r
    rw [show putF f v ((k, x) :: r) = (if k = f then (k, v) :: r else (k, x) :: putF f v r) from rfl]
    by_cases hk : k = f
    · rw [if_pos hk, List.length_cons, List.length_cons]; omega
    · rw [if_neg hk, List.length_cons, List.length_cons]; omega

theorem RelO.some_of {v : V} {o : Option Value} (r : RelO (some v) o) : ∃ u, o = some u ∧ RelV v u := by
  cases o with
  | none => exact (show False from r).elim
  | some u => exact ⟨u, rfl, r⟩
theorem RelO.none_of {o : Option Value} (r : RelO none o) : o = none := by
  cases o with
  | none => rfl
  | some u => exact (show False from r).elim
theorem handed_of {v : V} {u : Value} (r : RelV v u) : PySem.W.handedIn u = true := by
  cases v with
  | non => cases (show u = Value.none from r); rfl
  | bl b => cases (show u = Value.bool b from r); rfl
  | int i => obtain ⟨t, e⟩ := (show ∃ t, u = Value.int i t from r); cases e; rfl
  | str x => obtain ⟨t, e⟩ := (show ∃ t, u = Value.str x t from r); cases e; rfl
  | byt b => obtain ⟨t, e⟩ := (show ∃ t, u = Value.bytes b t from r); cases e; rfl
  | flt b => obtain ⟨t, e⟩ := (show ∃ t, u = Value.float b t from r); cases e; rfl
  | ref a => cases (show u = Value.ref a from r); rfl
  | ty n => cases (show u = Value.type n from r); rfl

section
variable {P : Program} {w : World} {H H' : Hp} {h h' : Heap} {a C dx : Addr} {fs fs' : List (Str × V)}
theorem ins_get (hok : HOk P w H h) (e : H a = some (.ins C dx fs)) : ∃ mA, ObjM h a dx C mA ∧ (∀ f, RelO (fs.lookup f) (mA f)) ∧ PySem.Within mA (fs.map (·.1)) ∧ fs.length ≤ 1000 ∧ H dx = some (.own a) := by
  obtain ⟨d, z, ne, ob, mA, n, r, q⟩ := (show ObjOk P w H h a (.ins C dx fs) from hok a _ e)
  exact ⟨mA, ⟨ob, n, ne⟩, r, q, z, d⟩
end

structure Cls (K : PySem.W.Frag) (C : Addr) : Prop where
  pg : PySem.W.plainGet K C Str.empty = true
  hd : PySem.W.hasDictIn K C = true
  po : PySem.W.plainOver K C = true
  sa : PySem.W.findIn K (.ref C) "__setattr__" = some (some (.builtin "object.__setattr__"))
theorem Cls.get {K : PySem.W.Frag} {C : Addr} (c : Cls K C) (f : Str) : PySem.W.plainGet K C f = true := c.pg
def NoAttr (K : PySem.W.Frag) (C : Addr) (f : Str) : Prop := PySem.W.findIn K (.ref C) f = some none
theorem NoAttr.taker {K : PySem.W.Frag} {C : Addr} {f : Str} (n : NoAttr K C f) : PySem.W.takerIn K C f = some none := by
  unfold PySem.W.takerIn
  rw [show PySem.W.findIn K (.ref C) f = some none from n]
  rfl
structure Con (K : PySem.W.Frag) (C : Addr) (f : Str) (v : V) (u : Value) : Prop where
  at_ : PySem.W.findIn K (.ref C) f = some (some u)
  rel : RelV v u
  get : PySem.W.specialIn K u "__get__" = some none
  cp : PySem.W.copiedNames.contains f = false
structure Meth (K : PySem.W.Frag) (C : Addr) (m : Str) (f : Addr) : Prop where
  at_ : PySem.W.findIn K (.ref C) m = some (some (.ref f))
  fn : PySem.W.isFn K (.ref f) = true
  kp : PySem.W.keepIn K (.ref f) = true

section
variable {X : Cx} {pins : List (Addr × Obj)} {σ : St} {H : Hp} {s : Shared} {a C dx : Addr} {fs : List (Str × V)} {f : Str} {v : V} {A : Around} {E : Value → Shared → Prop}

theorem getattr_ok {b : Bool} {Q : Value → Shared → Prop} (I : Inv X pins σ H s) (e : H a = some (.ins C dx fs)) (c : Cls X.K C) (n : NoAttr X.K C f) (l : fs.lookup f = some v)
    (h : ∀ u s', Inv X pins σ H s' → RelV v u → Q u s') : wpAny (model X.prog X.w) A (getAttr (.ref a) f b) Q E s := by
  obtain ⟨mA, O, r, _, _, _⟩ := ins_get I.hok e
  obtain ⟨u, hu, ru⟩ := RelO.some_of (v := v) (o := mA f) (by rw [← l]; exact r f)
  exact get_map I.kIn O (c.get f) c.hd n hu (handed_of ru) (h u _ (I.tok _) ru)

theorem getmeth_ok {m : Str} {g : Addr} {pl : Sem Bool} {Q : Value × List Value → Shared → Prop} (I : Inv X pins σ H s) (e : H a = some (.ins C dx fs)) (c : Cls X.K C) (k : Meth X.K C m g) (l : fs.lookup m = none)
    (h : Q (.ref g, [.ref a]) s) : wpAny (model X.prog X.w) A (getMethod (.ref a) m pl) Q E s := by
  obtain ⟨mA, O, r, _, _, _⟩ := ins_get I.hok e
  have hn : mA m = none := RelO.none_of (by rw [← l]; exact r m)
  exact get_meth I.kIn O (c.get m) k.at_ k.fn hn h

theorem setattr_ok {y : V} {u : Value} {Q : Unit → Shared → Prop} (I : Inv X pins σ H s) (e : H a = some (.ins C dx fs)) (c : Cls X.K C) (n : NoAttr X.K C f) (hl : fs.length < 1000) (ry : RelV y u)
    (h : ∀ s', Inv X pins σ (upd H a (.ins C dx (putF f y fs))) s' → Q () s') : wpAny (model X.prog X.w) A (setAttr (.ref a) f u) Q E s := by
  obtain ⟨mA, O, r, wi, _, ho⟩ := ins_get I.hok e
  have hz : (fs.map (·.1)).length ≤ sizeLine := by rw [List.length_map, sizeLine_eq]; omega
  refine set_map I.kIn O c.sa c.po n.taker c.hd wi hz fun h' O' sb => h _ ?_
  have hd : ∃ o, h'.get? dx = some o := let ⟨o, _, _, e', _⟩ := O'.ns; ⟨o, e'⟩
  refine I.write (x := a) (e := dx) (by rw [e]; exact True.intro) (.inr ho) (fun b q hb z => (sb.2 b hb).trans z) hd ?_
  refine ⟨by rw [upd_ne O.ne]; exact ho, ?_, O.ne, O'.obj, _, O'.ns, fun g => ?_, fun g hg => ?_⟩
  · have := length_putF f y fs; omega
  · show RelO ((putF f y fs).lookup g) (if g = f then some u else mA g)
    rw [lookup_putF]
    by_cases q : g = f
    · rw [if_pos q, if_pos q]; exact ry
    · rw [if_neg q, if_neg q]; exact r g
  · by_cases q : g = f
    · rw [q]; exact (keys_putF f y fs).1
    · refine (keys_putF f y fs).2 g (wi g fun z => hg ?_)
      show (if g = f then some u else mA g) = none
      rw [if_neg q]; exact z

theorem Inv.made (I : Inv X pins σ H s) : Inv X pins σ (upd (upd H s.heap.objs.size (.own (s.heap.objs.size + 1))) (s.heap.objs.size + 1) (.ins C s.heap.objs.size []))
    { s with heap := (s.heap.push PySem.W.emptyDict).push (PySem.W.instObj C s.heap.objs.size) } := by
  have e1 : (s.heap.push PySem.W.emptyDict).get? s.heap.objs.size = some PySem.W.emptyDict := Heap.get?_push_size s.heap rfl
  have e2 : ((s.heap.push PySem.W.emptyDict).push (PySem.W.instObj C s.heap.objs.size)).get? (s.heap.objs.size + 1) = some (PySem.W.instObj C s.heap.objs.size) := by
    have := Heap.get?_push_size (s.heap.push PySem.W.emptyDict) (o := PySem.W.instObj C s.heap.objs.size) rfl
    rwa [Heap.size_push] at this
  have e3 : (s.heap.push PySem.W.emptyDict).Ns s.heap.objs.size (fun _ => none) := ⟨PySem.W.emptyDict, #[], _, e1, rfl, (fun e he => absurd he (by simp)), fun _ => rfl⟩
  have I1 := I.laid (a := s.heap.objs.size) (o := .own (s.heap.objs.size + 1)) (h' := s.heap.push PySem.W.emptyDict) (t' := s.toks) (fun b u q => Heap.get?_push_of_some _ q) (Nat.le_refl _) ⟨_, e1⟩
  refine I1.laid (a := s.heap.objs.size + 1) (o := .ins C s.heap.objs.size []) (t' := s.toks) (fun b u q => Heap.get?_push_of_some _ q) (Nat.le_of_eq (Heap.size_push _ _)) ?_
  have ne : s.heap.objs.size ≠ s.heap.objs.size + 1 := Nat.ne_of_lt (Nat.lt_succ_self _)
  refine ⟨by rw [upd_ne ne, upd_same], Nat.zero_le _, ne, e2, fun _ => none, (Heap.Ns1.of_empty e3).at fun o q => Heap.get?_push_of_some _ q, fun _ => True.intro, fun y hy => absurd rfl hy⟩

theorem attr_of {prog : Program} {w : World} {env : Env} {e : Expr} {f : Str} {pos : Pos} {s : Shared} {Q : Value → Shared → Prop} (hb : attributeBase e f env (eval e env) = eval e env)
    (h : wpAny (model prog w) A (eval e env) (fun o s₁ => wpAny (model prog w) A (getAttr o f true) Q E s₁) E s) : wpAny (model prog w) A (eval (.Attribute e f pos) env) Q E s :=
  Attribute_any_ h (by rw [arm_eval_Attribute, hb])
end

def tFld (K : PySem.W.Frag) (ta : TE) (f : Str) : TE := fun σ H Q => ta σ H fun x H1 => ∃ a C dx fs v, x = .ref a ∧ H1 a = some (.ins C dx fs) ∧ Cls K C ∧ NoAttr K C f ∧ fs.lookup f = some v ∧ Q v H1
def sFld (K : PySem.W.Frag) (ta tv : TE) (f : Str) : TS := fun D σ H => tv σ H fun y H1 => ta σ H1 fun x H2 => ∃ a C dx fs, x = .ref a ∧ H2 a = some (.ins C dx fs) ∧ Cls K C ∧ NoAttr K C f ∧ fs.length < 1000 ∧
  D.nx σ (upd H2 a (.ins C dx (putF f y fs)))
section
variable {X : Cx} {o e value : Expr} {f : Str} {pos pos' tpos : Pos} {ta tv : TE}
theorem pe_fld (he : PE X e ta) (hb : attributeBase e f X.env (eval e X.env) = eval e X.env) : PE X (.Attribute e f pos) (tFld X.K ta f) := by
  intro pins s σ H Q I h
  refine attr_of hb (thn (he pins s σ H _ I h) fun u s1 ⟨x, H1, I1, rx, a, C, dx, fs, v, ex, ea, c, n, l, q⟩ => ?_)
  subst ex
  obtain rfl : u = Value.ref a := rx
  exact getattr_ok I1 ea c n l fun u' s2 I2 ru => ⟨v, H1, I2, ru, q⟩
theorem ps_fld (ha : PE X o ta) (hv : PE X value tv) (hs : swapsWith value (some (.Attribute o f pos')) pos.line X.env = pure false) : PS X (.Assign [.Attribute o f pos'] value pos) (sFld X.K ta tv f) := by
  intro pins s σ H D I h
  refine plainObj_wpAny_Assign_Attribute (thn (hv pins s σ H _ I h) fun u s1 ⟨y, H1, I1, ry, q⟩ => thn (ha pins s1 σ H1 _ I1 q) fun ov s2 ⟨x, H2, I2, rx, a, C, dx, fs, ex, ea, c, n, l, q2⟩ => ?_) hs
  subst ex
  obtain rfl : ov = Value.ref a := rx
  exact setattr_ok I2 ea c n l ry fun s3 I3 => ⟨σ, _, I3, q2⟩
end

section
variable {X : Cx} {pins : List (Addr × Obj)} {σ : St} {H : Hp} {s : Shared} {A : Around} {E : Value → Shared → Prop} {Q : Value → Shared → Prop} {c : Value} {b : Bool}
inductive TyOf (K : PySem.W.Frag) (H : Hp) : V → Value → Prop where
  | non : TyOf K H .non (.type "NoneType")
  | bl (x : Bool) : TyOf K H (.bl x) (.type "bool")
  | int (i : Int) : TyOf K H (.int i) (.type "int")
  | str (x : Str) : TyOf K H (.str x) (.type "str")
  | flt (x : UInt64) : TyOf K H (.flt x) (.type "float")
  | lst {a : Addr} {xs : List V} (e : H a = some (.lst xs)) : TyOf K H (.ref a) (.type "list")
  | frz {a : Addr} {o : Obj} {xs : List V} (e : H a = some (.frz o (.lst xs))) : TyOf K H (.ref a) (.type "list")
  | tup {a : Addr} {xs : List V} (e : H a = some (.tup xs)) : TyOf K H (.ref a) (.type "tuple")
  | dK {a : Addr} {kvs : List (Key × V)} (e : H a = some (.dK kvs)) : TyOf K H (.ref a) (.type "dict")
  | dT {a : Addr} {kvs : List (List Key × V)} (e : H a = some (.dT kvs)) : TyOf K H (.ref a) (.type "dict")
  | ins {a C dx : Addr} {fs : List (Str × V)} (e : H a = some (.ins C dx fs)) (cl : Cls K C) (ha : PySem.W.findIn K (.ref C) "__class__" = some (some (.builtin "object.__class__")))
      (hn : PySem.W.specialIn K (.builtin "object.__class__") "__get__" = some (some (.builtin "getset_descriptor.__get__"))) (htk : PySem.W.takesIn K (.builtin "object.__class__") = some true)
      (hm : PySem.W.mroIn K C (.type "object") = some true) : TyOf K H (.ref a) (.ref C)
theorem isinst_ok {x : V} {u t : Value} (I : Inv X pins σ H s) (rx : RelV x u) (ty : TyOf X.K H x t) (e : PySem.W.kitOne X.K t c = some b) (h : ∀ tk, Q (.bool b) { s with toks := tk }) :
    wpAny (model X.prog X.w) A (call (.builtin "isinstance") [u, c]) Q E s := by
  cases ty with
  | non => cases (show u = Value.none from rx); exact PySem.W.kia_one PySem.W.kitx_none I.kIn True.intro e (fun z => nomatch z) h
  | bl y => cases (show u = Value.bool y from rx); exact PySem.W.kia_one PySem.W.kitx_bool I.kIn True.intro e (fun z => nomatch z) h
  | int i => obtain ⟨t, q⟩ := (show ∃ t, u = Value.int i t from rx); cases q; exact PySem.W.kia_one PySem.W.kitx_int I.kIn True.intro e (fun z => nomatch z) h
  | str y => obtain ⟨t, q⟩ := (show ∃ t, u = Value.str y t from rx); cases q; exact PySem.W.kia_one PySem.W.kitx_str I.kIn True.intro e (fun z => nomatch z) h
  | flt y => obtain ⟨t, q⟩ := (show ∃ t, u = Value.float y t from rx); cases q; exact PySem.W.kia_one PySem.W.kitx_float I.kIn True.intro e (fun z => nomatch z) h
  | @lst a xs ea =>
    cases (show u = Value.ref a from rx)
    obtain ⟨_, _, n, _, h1⟩ := (show ObjOk X.prog X.w H s.heap a (.lst xs) from I.hok a _ ea)
    exact PySem.W.kia_one PySem.W.kitx_list I.kIn ⟨_, h1, rfl⟩ e (fun z => nomatch z) h
  | @frz a ob xs ea =>
    cases (show u = Value.ref a from rx)
    obtain ⟨_, _, _, n, _, h1⟩ := (show ObjOk X.prog X.w H s.heap a (.frz ob (.lst xs)) from I.hok a _ ea)
    exact PySem.W.kia_one PySem.W.kitx_list I.kIn ⟨_, h1, rfl⟩ e (fun z => nomatch z) h
  | @tup a xs ea =>
    cases (show u = Value.ref a from rx)
    obtain ⟨_, _, _, p⟩ := (show ObjOk X.prog X.w H s.heap a (.tup xs) from I.hok a _ ea)
    obtain ⟨o, h1, h2, _⟩ := p
    exact PySem.W.kia_one PySem.W.kitx_tuple I.kIn ⟨o, h1, h2⟩ e (fun z => nomatch z) h
  | @dK a kvs ea =>
    cases (show u = Value.ref a from rx)
    obtain ⟨_, _, vs, _, p⟩ := (show ObjOk X.prog X.w H s.heap a (.dK kvs) from I.hok a _ ea)
    obtain ⟨o, es, ep, h1, h2, _⟩ := p
    exact PySem.W.kia_one PySem.W.kitx_dict I.kIn ⟨o, h1, h2.1⟩ e (fun z => nomatch z) h
  | @dT a kvs ea =>
    cases (show u = Value.ref a from rx)
    obtain ⟨_, _, xs, _, o, es, ep, h1, h2, _⟩ := (show ObjOk X.prog X.w H s.heap a (.dT kvs) from I.hok a _ ea)
    exact PySem.W.kia_one PySem.W.kitx_dict I.kIn ⟨o, h1, h2.1⟩ e (fun z => nomatch z) h
  | @ins a C dx fs ea cl ha hn htk hm =>
    cases (show u = Value.ref a from rx)
    obtain ⟨mA, O, _⟩ := ins_get I.hok ea
    obtain ⟨od, J, _⟩ := O.look
    exact PySem.W.kia_one (PySem.W.kitx_own (cl.get _) cl.hd ha hn htk hm) I.kIn J e (fun z => nomatch z) h
end
end L2

namespace L2
open PySem PySem.Spec PyProof.Rows

structure Room (k : Nat) (A : Around) : Prop where
  hd : A.handled = none
  dp : A.depth + 3 * k + 5 < recursionLimit
  un : A.units + 16 * k + 200 < cLine
theorem Room.mono {j k : Nat} {A : Around} (r : Room k A) (h : j ≤ k) : Room j A := ⟨r.hd, by have := r.dp; omega, by have := r.un; omega⟩
theorem Room.deeper {k : Nat} {A : Around} (r : Room (k + 1) A) (env : Env) : Room k (A.deeper env) :=
  ⟨r.hd, by have := r.dp; show A.depth + 1 + 3 * k + 5 < _; omega, by have := r.un; show A.units + 3 + 16 * k + 200 < _; omega⟩
theorem Room.in1 {k : Nat} {A : Around} (r : Room (k + 1) A) : Room k A.in1 :=
  ⟨r.hd, by have := r.dp; show A.depth + 3 * k + 5 < _; omega, by have := r.un; show A.units + 1 + 16 * k + 200 < _; omega⟩
theorem make_depth {A : Around} {C : Addr} {us : List Value} {kw : List (Str × Value)} : (A.under (.builtin "type.__call__" ⟨.ref C :: us, kw⟩)).depth = A.depth + 1 := by
  first | rfl | simp [Around.under, Code.weight, Code.isCreation, Code.isGuard, Code.isCaller, Code.frames, Code.isFrame, guardIds]
theorem make_units {A : Around} {C : Addr} {us : List Value} {kw : List (Str × Value)} : (A.under (.builtin "type.__call__" ⟨.ref C :: us, kw⟩)).units = A.units + 1 := by
  first | rfl | simp [Around.under, Code.cUnits, Code.frames, Code.isFrame]
theorem Room.make {k : Nat} {A : Around} (r : Room (k + 1) A) (C : Addr) (us : List Value) (kw : List (Str × Value)) : Room k (A.under (.builtin "type.__call__" ⟨.ref C :: us, kw⟩)) :=
  ⟨r.hd, by have := r.dp; rw [make_depth]; omega, by have := r.un; rw [make_units]; omega⟩
theorem Room.depth {k : Nat} {A : Around} (r : Room k A) : A.depth < recursionLimit := by have := r.dp; omega
theorem Room.units {k : Nat} {A : Around} (r : Room k A) : A.units + 64 < cLine := by have := r.un; omega
theorem Room.units0 {k : Nat} {A : Around} (r : Room k A) : A.units < cLine := by have := r.un; omega

def tNil : TA := fun _ H Q => Q [] H
def tCons (ta : TE) (tr : TA) : TA := fun σ H Q => ta σ H fun x H1 => tr σ H1 fun xs H2 => Q (x :: xs) H2
section
variable {X : Cx} {e : Expr} {es : List Expr} {te : TE} {t : TA} {pos : Pos}
theorem pa_nil : PA X [] tNil := fun _ _ _ _ H Q I h => Calls.spliced_nil ⟨[], H, I, .nil, h⟩
theorem pa_cons (ha : PE X e te) (hr : PA X es t) (hs : starEach (e :: es) X.env = (false, eval e X.env) :: starEach es X.env := by rfl) : PA X (e :: es) (tCons te t) := by
  intro pos pins s σ H Q I h
  rw [hs]
  show wpAny _ _ (spliced ((false, eval e X.env) :: backTo pos (starEach es X.env))) _ _ s
  refine Calls.spliced_cons (thn (ha pins s σ H _ I h) fun u s1 ⟨x, H1, I1, r1, q1⟩ => ?_)
  exact thn (hr pos pins s1 σ H1 _ I1 q1) fun us s2 ⟨xs, H2, I2, r2, q2⟩ => ⟨x :: xs, H2, I2, .cons r1 r2, q2⟩

def tTup (t : TA) : TE := fun σ H Q => t σ H fun xs H1 => xs.length ≤ sizeLine ∧ ∀ p, H1 p = none → Q (.ref p) (upd H1 p (.tup xs))
def tLst (t : TA) : TE := fun σ H Q => t σ H fun xs H1 => xs.length ≤ sizeLine ∧ ∀ p, H1 p = none → Q (.ref p) (upd H1 p (.lst xs))
theorem pe_tup {x1} (h : PA X es t) : PE X (.Tuple es x1 pos) (tTup t) := by
  intro pins s σ H Q I hq
  refine wpAny_Tuple_spliced (thn (h pos pins s σ H _ I hq) fun us s1 ⟨xs, H1, I1, r, z, q⟩ => ⟨by rw [← r.length]; exact z, ?_⟩)
  have hf : H1 s1.heap.objs.size = none := I1.hok.fresh (Nat.le_refl _)
  refine ⟨.ref s1.heap.objs.size, upd H1 s1.heap.objs.size (.tup xs), I1.laid (t' := s1.toks) (fun b u e => Heap.get?_push_of_some _ e) (Nat.le_refl _) ?_, rfl, q _ hf⟩
  exact ⟨z, us, r, ⟨_, Heap.get?_push_size _ rfl, rfl, _, rfl⟩⟩
theorem pe_lst (h : PA X es t) : PE X (.List es pos) (tLst t) := by
  intro pins s σ H Q I hq
  refine wpAny_List_spliced (thn (h pos pins s σ H _ I hq) fun us s1 ⟨xs, H1, I1, r, z, q⟩ => ⟨by rw [← r.length]; exact z, ?_⟩)
  have hf : H1 s1.heap.objs.size = none := I1.hok.fresh (Nat.le_refl _)
  refine ⟨.ref s1.heap.objs.size, upd H1 s1.heap.objs.size (.lst xs), I1.laid (t' := s1.toks) (fun b u e => Heap.get?_push_of_some _ e) (Nat.le_refl _) ?_, rfl, q _ hf⟩
  exact ⟨z, us, 0, r, Heap.get?_push_size _ rfl⟩
end

abbrev Sp := List V → Hp → VK → XK → Prop
abbrev CXT := List Env → Hp → Shared → XK → Value → Shared → Prop

structure Env0 (P : Program) (w : World) (K : PySem.W.Frag) (mg : Str → Option Value) (base : Heap) (A : Around) (outer : List Env) (s : Shared) (H : Hp) : Prop where
  frames : A.frames = some outer
  mod : Mod K mg base
  bs : ∀ b o, base.get? b = some o → s.heap.get? b = some o ∧ H b = none
  bsz : base.objs.size ≤ s.heap.objs.size
  funs : s.heap.FunFrames base outer
  frf : ∀ b ∈ frs outer, H b = none
  hok : HOk P w H s.heap
  bare : AllBare s.gens
def CE (outer : List Env) (P : Program) (w : World) (H : Hp) (s : Shared) (Q : VK) (u : Value) (s' : Shared) : Prop :=
  ∃ v H', s'.os = s.os ∧ AllBare s'.gens ∧ Un (frs outer) [] H H' s.heap s'.heap ∧ HOk P w H' s'.heap ∧ RelV v u ∧ Q v H'
def CR (CX : CXT) (outer : List Env) (P : Program) (w : World) (H : Hp) (s : Shared) (Q : VK) (E : XK) (r : Result) (s' : Shared) : Prop :=
  match r with
  | .ok (.ret u) => CE outer P w H s Q u s'
  | .ok _ => False
  | .error e => CX outer H s E e s'
structure FnOk (P : Program) (w : World) (K : PySem.W.Frag) (mg : Str → Option Value) (base : Heap) (CX : CXT) (k : Nat) (f : Addr) (fd : FuncData) (ps : List Str) (sp : Sp) : Prop where
  len : ∀ vs H Q E, sp vs H Q E → vs.length = ps.length
  run : ∀ (A : Around) (outer : List Env) (s : Shared) (H : Hp) (args : Args) (us : List Value) (vs : List V) (Q : VK) (E : XK), Room k A → Env0 P w K mg base A outer s H → BindsTo s fd args (ps.zip us) → Vals vs us → sp vs H Q E →
    codeAny (model P w) A (.call (.ref f) args) (CR CX outer P w H s Q E) s
theorem FnOk.mono {P : Program} {w : World} {K : PySem.W.Frag} {mg : Str → Option Value} {base : Heap} {CX : CXT} {j k : Nat} {f : Addr} {fd : FuncData} {ps : List Str} {sp : Sp} (F : FnOk P w K mg base CX j f fd ps sp) (h : j ≤ k) :
    FnOk P w K mg base CX k f fd ps sp := ⟨F.len, fun A outer s H args us vs Q E hr => F.run A outer s H args us vs Q E (hr.mono h)⟩
theorem FnOk.imp {P : Program} {w : World} {K : PySem.W.Frag} {mg : Str → Option Value} {base : Heap} {CX : CXT} {k : Nat} {f : Addr} {fd : FuncData} {ps : List Str} {sp sp' : Sp} (F : FnOk P w K mg base CX k f fd ps sp)
    (h : ∀ vs H Q E, sp' vs H Q E → sp vs H Q E) : FnOk P w K mg base CX k f fd ps sp' :=
  ⟨fun vs H Q E q => F.len vs H Q E (h _ _ _ _ q), fun A outer s H args us vs Q E hr he hb hv hs => F.run A outer s H args us vs Q E hr he hb hv (h _ _ _ _ hs)⟩

theorem Env0.make {P : Program} {w : World} {K : PySem.W.Frag} {mg : Str → Option Value} {base : Heap} {A : Around} {outer : List Env} {s : Shared} {H : Hp} (e : Env0 P w K mg base A outer s H) (C : Addr) (us : List Value) (kw : List (Str × Value)) :
    Env0 P w K mg base (A.under (.builtin "type.__call__" ⟨.ref C :: us, kw⟩)) outer s H := ⟨by first | exact e.frames | (simpa [Around.under, Code.envs, Code.isFrame, pushEnvs] using e.frames), e.mod, e.bs, e.bsz, e.funs, e.frf, e.hok, e.bare⟩
theorem Env0.in1 {P : Program} {w : World} {K : PySem.W.Frag} {mg : Str → Option Value} {base : Heap} {A : Around} {outer : List Env} {s : Shared} {H : Hp} (e : Env0 P w K mg base A outer s H) :
    Env0 P w K mg base A.in1 outer s H := ⟨e.frames, e.mod, e.bs, e.bsz, e.funs, e.frf, e.hok, e.bare⟩

section
variable {X : Cx} {pins : List (Addr × Obj)} {σ : St} {H : Hp} {s s' : Shared}
theorem Inv.env0 (I : Inv X pins σ H s) : Env0 X.prog X.w X.K X.mg X.base X.A X.stack s H :=
  ⟨I.ok.frames, I.ok.mod, I.bs, Nat.le_trans I.ok.bsz I.sz, I.stack, I.stkFree, I.hok, I.bare⟩
theorem Inv.after {Q : VK} {u : Value} (I : Inv X pins σ H s) (h : CE X.stack X.prog X.w H s Q u s') : EP X pins σ Q u s' := by
  obtain ⟨v, H', os, bare, un, hok, r, q⟩ := h
  obtain ⟨hh, g, d, t, os'⟩ := s'
  obtain rfl : os' = s.os := os
  exact ⟨v, H', I.call (h' := hh) (g' := g) (d' := d) (t' := t) (ch := []) un hok bare (fun b z => absurd z (by simp)), r, q⟩
end

def tCall (sp : Sp) (dvs : List V) (E : XK) (t : TA) : TE := fun σ H Q => t σ H fun vs H1 => sp (vs ++ dvs) H1 Q E
def tMeth (C : Addr) (m : Str) (sp : Sp) (dvs : List V) (E : XK) (ta : TE) (t : TA) : TE := fun σ H Q => ta σ H fun x H1 => ∃ a dx fs, x = .ref a ∧ H1 a = some (.ins C dx fs) ∧ fs.lookup m = none ∧
  t σ H1 fun vs H2 => sp (x :: (vs ++ dvs)) H2 Q E
def tMake (C : Addr) (sp : Sp) (dvs : List V) (E : XK) (t : TA) : TE := fun σ H Q => t σ H fun vs H1 => ∀ x dx, H1 x = none → H1 dx = none → dx ≠ x →
  sp (.ref x :: (vs ++ dvs)) (upd (upd H1 dx (.own x)) x (.ins C dx [])) (fun v H2 => v = .non ∧ Q (.ref x) H2) E

def Binds (K : PySem.W.Frag) (fd : FuncData) (ps : List Str) (ds : List Value) : Prop :=
  ∀ (s : Shared) (us : List Value), K.In s.heap → (us ++ ds).length = ps.length → BindsTo s fd ⟨us, []⟩ (ps.zip (us ++ ds))
theorem Binds.all {K : PySem.W.Frag} {fd : FuncData} {ps : List Str} (h : ∀ us : List Value, us.length = ps.length → bindArgs fd ⟨us, []⟩ = pure (ps.zip us)) : Binds K fd ps [] := fun s us _ hl => by
  rw [List.append_nil] at hl ⊢
  exact .of_eq (h us hl)

def Passes (CX : CXT) (X : Cx) (E : XK) : Prop := ∀ (pins : List (Addr × Obj)) (σ : St) (H : Hp) (s : Shared) (e : Value) (s' : Shared), Inv X pins σ H s → CX X.stack H s E e s' → X.xe e s'

section
variable {X : Cx} {CX : CXT} {k : Nat} {f C : Addr} {fd : FuncData} {ps : List Str} {sp : Sp} {dvs : List V} {ds : List Value} {E : XK} {x m : Str} {p pos apos : Pos} {e o : Expr} {es : List Expr} {ta : TE} {t : TA}

theorem run_fn {pins : List (Addr × Obj)} {σ : St} {H : Hp} {s : Shared} {Q : VK} {us : List Value} {vs : List V} (F : FnOk X.prog X.w X.K X.mg X.base CX k f fd ps sp) (hr : Room k X.A) (hb : Binds X.K fd ps ds) (hd : Vals dvs ds) (hx : Passes CX X E)
    (I : Inv X pins σ H s) (r : Vals vs us) (h : sp (vs ++ dvs) H Q E) : wpAny (model X.prog X.w) X.A (call (.ref f) us) (EP X pins σ Q) X.xe s := by
  have r2 : Vals (vs ++ dvs) (us ++ ds) := r.append hd
  have hl : (us ++ ds).length = ps.length := by rw [← r2.length]; exact F.len _ _ _ _ h
  refine wpAny_call (codeAny_mono (F.run X.A X.stack s H ⟨us, []⟩ (us ++ ds) (vs ++ dvs) Q E hr I.env0 (hb s us I.kIn hl) r2 h) fun r s' hq => ?_)
  cases r with
  | error e => exact hx pins σ H s e s' I hq
  | ok fl =>
    cases fl with
    | ret u => exact I.after hq
    | next => exact False.elim hq
    | brk => exact False.elim hq
    | cont => exact False.elim hq

theorem pe_call (F : FnOk X.prog X.w X.K X.mg X.base CX k f fd ps sp) (hr : Room k X.A) (hg : Gl X x) (hm : X.mg x = some (.ref f)) (hk : PySem.W.keepIn X.K (.ref f) = true) (hb : Binds X.K fd ps ds) (hd : Vals dvs ds) (hx : Passes CX X E)
    (ha : PA X (e :: es) t) (hdb : (x == ("__debug__" : Str)) = false := by decide) (he : starEach (e :: es) X.env = (false, eval e X.env) :: starEach es X.env := by rfl) (hpl : (backTo pos (starEach es X.env)).any (·.1) = false := by rfl) :
    PE X (.Call (.Name x p) (e :: es) [] pos) (tCall sp dvs E t) := by
  intro pins s σ H Q I h
  refine wpAny_Call_Name_kw (ld_glob I hg hm ?_ hdb)
  refine PySem.W.callWith_K (h₀ := X.base) I.ok.mod.kin hk (thn (ha pos pins s σ H _ I h) fun us s1 ⟨vs, H1, I1, r, q⟩ => ⟨I1.kIn, ?_⟩) he hpl
  exact run_fn F hr hb hd hx I1 r q
theorem pe_meth {pl : Sem Bool} (he : PE X o ta) (c : Cls X.K C) (hm : Meth X.K C m f) (F : FnOk X.prog X.w X.K X.mg X.base CX k f fd ps sp) (hr : Room k X.A) (hb : Binds X.K fd ps ds) (hd : Vals dvs ds) (hx : Passes CX X E) (ha : PA X (e :: es) t)
    (hst : starEach (e :: es) X.env = (false, eval e X.env) :: starEach es X.env := by rfl) (hpl : (backTo pos (starEach es X.env)).any (·.1) = false := by rfl)
    (ht : eval (.Call (.Attribute o m apos) (e :: es) [] pos) X.env = (do
      let ov ← eval o X.env
      standAt apos.atName
      let (f, first) ← holding [ov] (getMethod ov m pl)
      callWith pos f first (backTo pos (starEach (e :: es) X.env)) (backToKw pos (keywordEach [] X.env))) := by rfl) :
    PE X (.Call (.Attribute o m apos) (e :: es) [] pos) (tMeth C m sp dvs E ta t) := by
  intro pins s σ H Q I h
  refine PySem.W.methodCall_KW (pl := pl) (thn (he pins s σ H _ I h) fun u s1 ⟨x, H1, I1, rx, a, dx, fs, ex, ea, l, q⟩ => ?_) ht
  subst ex
  obtain rfl : u = Value.ref a := rx
  refine getmeth_ok I1 ea c hm l ?_
  refine PySem.W.callWith_K (first := [.ref a]) (h₀ := X.base) I.ok.mod.kin hm.kp (thn (ha pos pins s1 σ H1 _ I1 q) fun us s2 ⟨vs, H2, I2, r, q2⟩ => ⟨I2.kIn, ?_⟩) hst hpl
  exact run_fn (us := .ref a :: us) (vs := .ref a :: vs) F hr hb hd hx I2 (.cons rfl r) q2
theorem pe_meth0 {pl : Sem Bool} (he : PE X o ta) (c : Cls X.K C) (hm : Meth X.K C m f) (F : FnOk X.prog X.w X.K X.mg X.base CX k f fd ps sp) (hr : Room k X.A) (hb : Binds X.K fd ps ds) (hd : Vals dvs ds) (hx : Passes CX X E)
    (ht : eval (.Call (.Attribute o m apos) [] [] pos) X.env = (do
      let ov ← eval o X.env
      standAt apos.atName
      let (f, first) ← holding [ov] (getMethod ov m pl)
      callWith pos f first (backTo pos (starEach [] X.env)) (backToKw pos (keywordEach [] X.env))) := by rfl) :
    PE X (.Call (.Attribute o m apos) [] [] pos) (tMeth C m sp dvs E ta tNil) := by
  intro pins s σ H Q I h
  refine PySem.W.methodCall_KW (pl := pl) (thn (he pins s σ H _ I h) fun u s1 ⟨x, H1, I1, rx, a, dx, fs, ex, ea, l, q⟩ => ?_) ht
  subst ex
  obtain rfl : u = Value.ref a := rx
  refine getmeth_ok I1 ea c hm l ?_
  exact PySem.W.callWith_K0 (first := [.ref a]) I1.kIn hm.kp (run_fn (us := [.ref a]) (vs := [.ref a]) F hr hb hd hx I1 (.cons rfl .nil) q)

structure Mk (K : PySem.W.Frag) (C f : Addr) : Prop where
  makes : PySem.W.makesIn K C = true
  init : PySem.W.findIn K (.ref C) "__init__" = some (some (.ref f))
  fn : PySem.W.isFn K (.ref f) = true
  kp : PySem.W.keepIn K (.ref C) = true

theorem run_make {pins : List (Addr × Obj)} {σ : St} {H : Hp} {s : Shared} {Q : VK} {us : List Value} {vs : List V} (M : Mk X.K C f) (F : FnOk X.prog X.w X.K X.mg X.base CX k f fd ps sp) (hr : Room (k + 1) X.A) (hb : Binds X.K fd ps ds) (hd : Vals dvs ds)
    (hx : Passes CX X E) (I : Inv X pins σ H s) (r : Vals vs us)
    (h : ∀ x dx, H x = none → H dx = none → dx ≠ x → sp (.ref x :: (vs ++ dvs)) (upd (upd H dx (.own x)) x (.ins C dx [])) (fun v H2 => v = .non ∧ Q (.ref x) H2) E) :
    wpAny (model X.prog X.w) X.A (call (.ref C) us) (EP X pins σ Q) X.xe s := by
  have hq := h (s.heap.objs.size + 1) s.heap.objs.size (I.hok.fresh (Nat.le_succ _)) (I.hok.fresh (Nat.le_refl _)) (Nat.ne_of_lt (Nat.lt_succ_self _))
  have I2 := Inv.made (C := C) I
  have r2 : Vals (V.ref (s.heap.objs.size + 1) :: (vs ++ dvs)) (Value.ref (s.heap.objs.size + 1) :: (us ++ ds)) := .cons rfl (r.append hd)
  have hl : (Value.ref (s.heap.objs.size + 1) :: us ++ ds).length = ps.length := by
    have e := r2.length
    rw [F.len _ _ _ _ hq] at e
    exact e.symm
  refine wpAny_call (make_map (f := f) I.kIn M.makes M.init (beq_iff_eq.mp M.fn) (codeAny_mono (F.run _ X.stack _ _ ⟨Value.ref (s.heap.objs.size + 1) :: us, []⟩ (Value.ref (s.heap.objs.size + 1) :: (us ++ ds)) _ _ E (hr.make C us [])
    (I2.env0.make C us []) (hb _ (Value.ref (s.heap.objs.size + 1) :: us) I2.kIn hl) r2 hq) fun r s' hq' => ?_))
  cases r with
  | error e => exact hx pins σ _ _ e s' I2 hq'
  | ok fl =>
    cases fl with
    | ret u =>
      obtain ⟨v, H', I3, rv, ev, q3⟩ := I2.after hq'
      subst ev
      exact ⟨rv, ⟨V.ref (s.heap.objs.size + 1), H', I3, rfl, q3⟩⟩
    | next => exact False.elim hq'
    | brk => exact False.elim hq'
    | cont => exact False.elim hq'
theorem pe_make (M : Mk X.K C f) (F : FnOk X.prog X.w X.K X.mg X.base CX k f fd ps sp) (hr : Room (k + 1) X.A) (hg : Gl X x) (hm : X.mg x = some (.ref C)) (hb : Binds X.K fd ps ds) (hd : Vals dvs ds) (hx : Passes CX X E)
    (ha : PA X (e :: es) t) (hdb : (x == ("__debug__" : Str)) = false := by decide) (he : starEach (e :: es) X.env = (false, eval e X.env) :: starEach es X.env := by rfl) (hpl : (backTo pos (starEach es X.env)).any (·.1) = false := by rfl) :
    PE X (.Call (.Name x p) (e :: es) [] pos) (tMake C sp dvs E t) := by
  intro pins s σ H Q I h
  refine wpAny_Call_Name_kw (ld_glob I hg hm ?_ hdb)
  refine PySem.W.callWith_K (h₀ := X.base) I.ok.mod.kin M.kp (thn (ha pos pins s σ H _ I h) fun us s1 ⟨vs, H1, I1, r, q⟩ => ⟨I1.kIn, ?_⟩) he hpl
  exact run_make M F hr hb hd hx I1 r q
theorem pe_make0 (M : Mk X.K C f) (F : FnOk X.prog X.w X.K X.mg X.base CX k f fd ps sp) (hr : Room (k + 1) X.A) (hg : Gl X x) (hm : X.mg x = some (.ref C)) (hb : Binds X.K fd ps ds) (hd : Vals dvs ds) (hx : Passes CX X E)
    (hdb : (x == ("__debug__" : Str)) = false := by decide) : PE X (.Call (.Name x p) [] [] pos) (tMake C sp dvs E tNil) := by
  intro pins s σ H Q I h
  refine wpAny_Call_Name_kw (ld_glob I hg hm ?_ hdb)
  exact PySem.W.callWith_K0 I.kIn M.kp (run_make (us := []) M F hr hb hd hx I .nil h)
end

section
variable {X : Cx} {CX : CXT} {k : Nat} {f C : Addr} {fd : FuncData} {ps ks : List Str} {sp : Sp} {E : XK} {x m : Str} {p pos apos kpos : Pos} {e o : Expr} {es : List Expr} {kws : List Keyword} {te ta : TE} {t tk : TA} {nm : Option Str}
structure KBinds (K : PySem.W.Frag) (fd : FuncData) (ps ks : List Str) (g : List Value → List Value → List Value) (gV : List V → List V → List V) : Prop where
  to : ∀ (s : Shared) (us ws : List Value), K.In s.heap → (g us ws).length = ps.length → BindsTo s fd ⟨us, ks.zip ws⟩ (ps.zip (g us ws))
  rel : ∀ {vs : List V} {us : List Value} {zs : List V} {ws : List Value}, Vals vs us → Vals zs ws → Vals (gV vs zs) (g us ws)
variable {g : List Value → List Value → List Value} {gV : List V → List V → List V}
end

structure FnScope (N P : List Str) (sc : Scope) : Prop where
  kind : sc.kind = .function
  co : sc.isCoroutine = false
  gen : sc.isGenerator = false
  nd : N.Nodup
  pre : N.take P.length = P
  par : ∀ x ∈ P, sc.names.lookup x = some .local ∨ sc.names.lookup x = some .cell
  nofree : ∀ y ∈ sc.names, y.2 ≠ .free

theorem bindL_out {kindOf : Str → Option NameKind} {x : Str} : ∀ {binds : List (Str × Value)} {m : Str → Option Value}, (∀ v, (x, v) ∉ binds) → bindL kindOf binds m x = m x
  | [], _, _ => rfl
  | (n, v) :: r, m, h => by
    unfold bindL
    rw [bindL_out fun w hw => h w (List.mem_cons_of_mem _ hw)]
    split
    · have : x ≠ n := by rintro rfl; exact h v List.mem_cons_self
      simp [this]
    · rfl
theorem bindC_out {kindOf : Str → Option NameKind} {x : Str} : ∀ {binds : List (Str × Value)} {m : Str → Option Value}, (∀ v, (x, v) ∉ binds) → bindC kindOf binds m x = m x
  | [], _, _ => rfl
  | (n, v) :: r, m, h => by
    unfold bindC
    rw [bindC_out fun w hw => h w (List.mem_cons_of_mem _ hw)]
    split
    · rfl
    · have : x ≠ n := by rintro rfl; exact h v List.mem_cons_self
      simp [this]
theorem bindL_get {kindOf : Str → Option NameKind} {x : Str} {v : Value} : ∀ {P : List Str} {vs : List Value} {i : Nat} {m : Str → Option Value}, P.Nodup → P[i]? = some x → vs[i]? = some v → kindOf x = some .local →
    bindL kindOf (P.zip vs) m x = some v
  | [], _, _, _, _, h, _, _ => by simp at h
  | _ :: _, [], _, _, _, _, h, _ => by simp at h
  | p :: P, w :: vs, 0, m, nd, h1, h2, hk => by
    simp at h1 h2; subst h1; subst h2
    show bindL kindOf ((p, w) :: P.zip vs) m p = _
    unfold bindL
    rw [bindL_out fun v hv => (List.nodup_cons.mp nd).1 (List.of_mem_zip hv).1, if_pos hk]
    simp
  | p :: P, w :: vs, i + 1, m, nd, h1, h2, hk => by
    show bindL kindOf ((p, w) :: P.zip vs) m x = _
    unfold bindL
    exact bindL_get (i := i) (List.nodup_cons.mp nd).2 (by simpa using h1) (by simpa using h2) hk
theorem bindC_get {kindOf : Str → Option NameKind} {x : Str} {v : Value} : ∀ {P : List Str} {vs : List Value} {i : Nat} {m : Str → Option Value}, P.Nodup → P[i]? = some x → vs[i]? = some v → kindOf x ≠ some .local →
    bindC kindOf (P.zip vs) m x = some v
  | [], _, _, _, _, h, _, _ => by simp at h
  | _ :: _, [], _, _, _, _, h, _ => by simp at h
  | p :: P, w :: vs, 0, m, nd, h1, h2, hk => by
    simp at h1 h2; subst h1; subst h2
    show bindC kindOf ((p, w) :: P.zip vs) m p = _
    unfold bindC
    rw [bindC_out fun v hv => (List.nodup_cons.mp nd).1 (List.of_mem_zip hv).1, if_neg hk]
    simp
  | p :: P, w :: vs, i + 1, m, nd, h1, h2, hk => by
    show bindC kindOf ((p, w) :: P.zip vs) m x = _
    unfold bindC
    exact bindC_get (i := i) (List.nodup_cons.mp nd).2 (by simpa using h1) (by simpa using h2) hk

def start (N : List Str) (vs : List V) : St := vs.map some ++ List.replicate (N.length - vs.length) none

def cxOf (CX : CXT) (P : Program) (w : World) (K : PySem.W.Frag) (mg : Str → Option Value) (base : Heap) (N : List Str) (qual : Str) (scope : Scope) (f : Addr) (cd : Value) (A : Around) (outer : List Env) (s : Shared) (H : Hp) (E : XK) : Cx where
  prog := P
  w := w
  K := K
  mg := mg
  base := base
  A := A.deeper (envOfC qual scope s.heap.objs.size f cd)
  N := N
  s₀ := s
  H₀ := H
  env := envOfC qual scope s.heap.objs.size f cd
  outer := outer
  stack := envOfC qual scope s.heap.objs.size f cd :: outer
  ex := []
  calm := true
  fn := fun _ => true
  pn := []
  xe := fun e s' => wpAny (model P w) (A.deeper (envOfC qual scope s.heap.objs.size f cd)) (leaving (envOfC qual scope s.heap.objs.size f cd) e) (fun _ s'' => CX outer H s E e s'') (fun e' s'' => CX outer H s E e' s'') s'

theorem cell_has {sc : Scope} {n : Nat} {x : Str} (h : sc.names.lookup x = some .cell) : ∃ c, (cellsFrom n sc.names []).lookup x = some c := by
  have q := PySem.W.cellsFrom_some sc.names n [] (.inl h)
  exact Option.isSome_iff_exists.mp q

theorem inv_start {CX : CXT} {P : Program} {w : World} {K : PySem.W.Frag} {mg : Str → Option Value} {base : Heap} {N ps : List Str} {qual : Str} {scope : Scope} {f : Addr} {cd : Value} {A : Around} {outer : List Env} {s s1 : Shared} {H : Hp} {E : XK} {us : List Value} {vs : List V}
    (S : FnScope N ps scope) (hd : A.handled = none) (e0 : Env0 P w K mg base A outer s H) (hl : vs.length = ps.length) (r : Vals vs us)
    (x : InCallC s s.heap.objs.size (bindL (envOfC qual scope s.heap.objs.size f cd).kindOf (ps.zip us) fun _ => none) (cellsFrom (s.heap.objs.size + 1) scope.names []) (bindC (envOfC qual scope s.heap.objs.size f cd).kindOf (ps.zip us) fun _ => none) s1) :
    Inv (cxOf CX P w K mg base N qual scope f cd A outer s H E) [] (start N vs) H s1 := by
  have hpl : ps.length ≤ N.length := by have := congrArg List.length S.pre; rw [List.length_take] at this; omega
  obtain ⟨h1, tk, rfl, hk⟩ := x.done
  have noA : ∀ b : Addr, b ∉ (cxOf CX P w K mg base N qual scope f cd A outer s H E).ex := fun b z => absurd (show b ∈ ([] : List Addr) from z) (by simp)
  refine ⟨⟨e0.mod, S.kind, rfl, rfl, Nat.le_refl _, fun y z c h1 h2 => ?_, fun y hy => ?_, fun y c _ h => ?_, fun _ => hd, Around.frames_deeper e0.frames, .inr ⟨rfl, rfl⟩, fun b z => absurd z (noA b), e0.bs, e0.bsz, fun b _ _ => noA b, fun b z => absurd z (noA b), e0.funs, e0.frf⟩,
    rfl, e0.bare, Un.kept hk, ⟨_, x.toInCall.ns, fun i y v h1 h2 h3 => ?_⟩, fun y c h => ⟨_, x.cell y c h⟩, e0.hok.fresh (Nat.le_refl _), fun y c h => ?_, fun p hp => absurd (show p ∈ ([] : List (Addr × Obj)) from hp) (by simp), e0.hok.kept hk, ?_⟩
  · exact name_of_addr x.apart (PySem.mem_of_lookup h1) (PySem.mem_of_lookup h2)
  · have hy : scope.names.lookup y = some .cell ∨ scope.names.lookup y = some .free := hy
    rcases hy with hy | hy
    · exact cell_has hy
    · exact absurd rfl (S.nofree _ (PySem.mem_of_lookup hy))
  · exact Nat.le_of_lt (x.above y c (PySem.mem_of_lookup h))
  · have hi : i < vs.length := by
      unfold start at h2
      by_cases hi : i < vs.length
      · exact hi
      · rw [List.getElem?_append_right (by simpa using hi)] at h2
        rw [List.getElem?_replicate] at h2
        split at h2 <;> cases h2
    have ha : vs[i]? = some v := by
      unfold start at h2
      rw [List.getElem?_append_left (by simpa using hi), List.getElem?_map] at h2
      cases e : vs[i]? with
      | none => rw [e] at h2; cases h2
      | some a => rw [e] at h2; cases h2; rfl
    obtain ⟨u, hu, rv⟩ := r.get ha
    have hp : ps[i]? = some y := by
      rw [← S.pre, List.getElem?_take_of_lt (by omega)]; exact h1
    have ndP : ps.Nodup := by rw [← S.pre]; exact S.nd.sublist (List.take_sublist _ _)
    refine ⟨u, rv, ?_⟩
    rcases S.par y (List.mem_of_getElem? hp) with k | k
    · exact .inl ⟨k, bindL_get ndP hp hu k⟩
    · obtain ⟨c, e⟩ := cell_has (n := s.heap.objs.size + 1) k
      refine .inr ⟨.inl k, c, e, ?_⟩
      have q := x.cell y c e
      rw [bindC_get ndP hp hu (by show scope.names.lookup y ≠ _; rw [k]; decide)] at q
      exact q
  · exact e0.hok.fresh (Nat.le_of_lt (x.above y c (PySem.mem_of_lookup h)))
  · unfold start
    show _ = N.length
    rw [List.length_append, List.length_map, List.length_replicate]
    omega

theorem fn_of {CX : CXT} {P : Program} {w : World} {K : PySem.W.Frag} {mg : Str → Option Value} {base : Heap} {k : Nat} {f : Addr} {name qual : Str} {params : Arguments} {body : List Stmt} {scope : Scope} {dV kV doc pm cdv ct oc : Value} {an od : Option Addr}
    {osl : Array (Option Value)} {N ps : List Str} {sp : Sp} (lk : K.lookup f = some ⟨oc, od, .func (PySem.W.fnOf name qual params body scope dV kV doc pm an cdv ct), osl⟩) (hcd : PySem.W.codeIn K cdv qual = true) (S : FnScope N ps scope)
    (len : ∀ vs H Q E, sp vs H Q E → vs.length = ps.length)
    (hbody : ∀ (A : Around) (outer : List Env) (s : Shared) (H : Hp) (vs : List V) (Q : VK) (E : XK), Room k (A.deeper (envOfC qual scope s.heap.objs.size f cdv)) → sp vs H Q E →
      ∃ t, PSs (cxOf CX P w K mg base N qual scope f cdv A outer s H E) body t ∧ t { nx := fun _ H' => Q .non H', rt := Q } (start N vs) H) :
    FnOk P w K mg base CX (k + 1) f (PySem.W.fnOf name qual params body scope dV kV doc pm an cdv ct) ps sp := by
  refine ⟨len, fun A outer s H args us vs Q E hr e0 hb r hsp => ?_⟩
  have hl := len _ _ _ _ hsp
  have KX : K.In s.heap := e0.mod.kin.keeps fun b o e => (e0.bs b o e).1
  have lim : s.heap.NoLimit := e0.mod.nolimit.keeps fun b o e => (e0.bs b o e).1
  have hkind : ∀ y ∈ ps.zip us, scope.names.lookup y.1 = some .local ∨ (scope.names.lookup y.1 = some .cell ∧ ((cellsFrom (s.heap.objs.size + 1) scope.names []).lookup y.1).isSome = true) := fun ⟨n, v⟩ hy => by
    rcases S.par n (List.of_mem_zip hy).1 with q | q
    · exact .inl q
    · exact .inr ⟨q, PySem.W.cellsFrom_some _ _ _ (.inl q)⟩
  refine codeAny_call_function hr.depth (KX _ _ lk) rfl S.co S.gen rfl (PySem.W.codeRec_of KX hcd) (hb _ _ _ _ ?_)
  refine wpAny_newFunctionEnv_cells S.kind hkind fun env he s1 x => ?_
  subst he
  refine ⟨lim.keeps x.toInCall.keep, codeAny_func ?_⟩
  obtain ⟨t, ht, hq⟩ := hbody A outer s H vs Q E (hr.deeper _) hsp
  have I : Inv (cxOf CX P w K mg base N qual scope f cdv A outer s H E) [] (start N vs) H s1 := inv_start S hr.hd e0 hl r x
  refine wpAny_mono (ht [] s1 (start N vs) H _ I hq) (fun fl s' hs => ?_) fun e s' hs => hs
  have fin : ∀ {σ' : St} {H' : Hp} {v : V} {u : Value}, Inv (cxOf CX P w K mg base N qual scope f cdv A outer s H E) [] σ' H' s' → RelV v u → Q v H' → CE outer P w H s Q u s' :=
    fun {σ' H' v u} J rv q => ⟨v, H', J.os, J.bare, J.base, J.hok, rv, q⟩
  cases fl with
  | ret u =>
    obtain ⟨v, σ', H', J, rv, q⟩ := hs
    exact fin J rv q
  | next =>
    obtain ⟨σ', H', J, q⟩ := hs
    exact fin (v := V.non) (u := Value.none) J rfl q
  | brk =>
    obtain ⟨_, _, _, q⟩ := hs
    exact False.elim q
  | cont =>
    obtain ⟨_, _, _, q⟩ := hs
    exact False.elim q
end L2

namespace L2
open PySem PySem.Spec PyProof.Rows
section
variable {X : Cx} {x : Str} {p pos : Pos} {e : Expr} {es : List Expr} {t : TA} {id T : String} {r : List V → Hp → VK → Prop}

def tCB (r : List V → Hp → VK → Prop) (t : TA) : TE := fun σ H Q => t σ H fun vs H1 => r vs H1 Q
theorem pe_callB (hc : CallR X (.builtin id) r) (hg : Gl X x) (hm : X.mg x = none) (hv : bootBuiltins x = some (.builtin id)) (ha : PA X (e :: es) t) (hn : x ≠ "__name__" := by decide) (hdb : (x == ("__debug__" : Str)) = false := by decide)
    (he : starEach (e :: es) X.env = (false, eval e X.env) :: starEach es X.env := by rfl) (hpl : (backTo pos (starEach es X.env)).any (·.1) = false := by rfl) : PE X (.Call (.Name x p) (e :: es) [] pos) (tCB r t) := by
  intro pins s σ H Q I h
  refine wpAny_Call_Name_kw (ld_blt I hg hm hv ?_ hn hdb)
  exact PyProof.Rows.callWith_builtin1 (thn (ha pos pins s σ H _ I h) fun us s1 ⟨vs, H1, I1, r1, q1⟩ => hc pins s1 σ H1 vs us Q I1 r1 q1) he hpl
theorem pe_callTy (hc : CallR X (.type T) r) (hg : Gl X x) (hm : X.mg x = none) (hv : bootBuiltins x = some (.type T)) (ha : PA X (e :: es) t) (hn : x ≠ "__name__" := by decide) (hdb : (x == ("__debug__" : Str)) = false := by decide)
    (he : starEach (e :: es) X.env = (false, eval e X.env) :: starEach es X.env := by rfl) (hpl : (backTo pos (starEach es X.env)).any (·.1) = false := by rfl) : PE X (.Call (.Name x p) (e :: es) [] pos) (tCB r t) := by
  intro pins s σ H Q I h
  refine wpAny_Call_Name_kw (ld_blt I hg hm hv ?_ hn hdb)
  exact PyProof.Rows.callWith_type1 (thn (ha pos pins s σ H _ I h) fun us s1 ⟨vs, H1, I1, r1, q1⟩ => hc pins s1 σ H1 vs us Q I1 r1 q1) he hpl
end
end L2

namespace HT
open PySem PyProof.Rows

section
open PySem.SeqAt
open PySem.AutoSeq1 (wpAny_loadPart')
open PySem.MeetsSeq PySem.MeetsSeq2 PySem.MeetsSeq3

end

section
variable {prog : Program} {w : World} {A : Around} {E : Value → Shared → Prop} {s : Shared}

def sIx (n d : Nat) : Option Int → Nat
  | none => d
  | some v => if v < 0 then (v + (n : Int)).toNat else min v.toNat n
theorem sIx_none (n d : Nat) : sIx n d none = d := rfl
theorem sIx_nat (n d k : Nat) : sIx n d (some (k : Int)) = min k n := by
  show (if (k : Int) < 0 then ((k : Int) + (n : Int)).toNat else min (k : Int).toNat n) = min k n
  rw [if_neg (by omega), Int.toNat_natCast]
theorem sIx_le (n d : Nat) (hd : d ≤ n) (o : Option Int) : sIx n d o ≤ n := by
  cases o with
  | none => exact hd
  | some v =>
    show (if v < 0 then (v + (n : Int)).toNat else min v.toNat n) ≤ n
    by_cases hv : v < 0
    · rw [if_pos hv]; omega
    · rw [if_neg hv]; exact Nat.min_le_right _ _
theorem clip_eq (v : Int) (n d : Nat) : (if v < 0 then max (v + (n : Int)) 0 else min v (n : Int)) = ((sIx n d (some v) : Nat) : Int) := by
  show (if v < 0 then max (v + (n : Int)) 0 else min v (n : Int)) = (((if v < 0 then (v + (n : Int)).toNat else min v.toNat n) : Nat) : Int)
  by_cases hv : v < 0
  · simp only [if_pos hv]; omega
  · simp only [if_neg hv]; omega
theorem adjust_gen (lo hi : Option Int) (n : Nat) : Builtin.Slice.sliceAdjust lo hi 1 (n : Int) = (((sIx n 0 lo : Nat) : Int), ((sIx n n hi : Nat) : Int)) := by
  have h1 : ¬ ((1 : Int) < 0) := by omega
  unfold Builtin.Slice.sliceAdjust
  simp only [h1, if_false]
  refine Prod.ext ?_ ?_
  · cases lo with
    | none => rfl
    | some v => exact clip_eq v n 0
  · cases hi with
    | none => rfl
    | some v => exact clip_eq v n n
theorem places_gen (i j : Nat) : Builtin.Slice.slicePlaces (i : Int) (j : Int) 1 = j - i := by
  unfold Builtin.Slice.slicePlaces
  have h1 : (1 : Int) > 0 := by omega
  simp only [h1, if_true, Int.ediv_one]
  split <;> omega
theorem slicePart_ {v : Value} {o : Option Int} {Q : Option Int → Shared → Prop} (p : IsPart v o) (h : Q o s) : wpAny (model prog w) A (Builtin.Slice.slicePartIndex v) Q E s := by
  cases p with
  | none => exact slicePart_none h
  | int i t => exact slicePart_int h
theorem sliceApplied_gen {sl : Addr} {vl vu : Value} {lo hi : Option Int} {n : Nat} {Q : Int × Int × Nat → Shared → Prop} (hs : s.heap.IsSliceOf sl vl vu .none) (pl : IsPart vl lo) (pu : IsPart vu hi)
    (h : Q (((sIx n 0 lo : Nat) : Int), 1, sIx n n hi - sIx n 0 lo) s) : wpAny (model prog w) A (Builtin.Slice.sliceApplied (.ref sl) (pure (n : Int))) Q E s := by
  obtain ⟨os, hos, hcs, hds⟩ := id hs
  unfold Builtin.Slice.sliceApplied Builtin.Slice.sliceFields
  refine wpAny_bind (wpAny_bind (wpAny_field hos hds (x := vl) rfl (wpAny_bind (wpAny_field hos hds (x := vu) rfl (wpAny_bind (wpAny_field hos hds (x := .none) rfl (wpAny_pure ?_)))))))
  refine wpAny_bind (slicePart_none ?_)
  show wpAny _ _ (if ((1 : Int) == 0) = true then _ else _) _ _ s
  rw [if_neg (by decide)]
  refine wpAny_bind (slicePart_ pl (wpAny_bind (slicePart_ pu (wpAny_bind (wpAny_pure ?_)))))
  show wpAny _ _ (match Builtin.Slice.sliceAdjust lo hi 1 (n : Int) with | (lo, hi) => pure (lo, (1 : Int), Builtin.Slice.slicePlaces lo hi 1)) _ _ s
  rw [adjust_gen lo hi n]
  show wpAny _ _ (pure (((sIx n 0 lo : Nat) : Int), (1 : Int), Builtin.Slice.slicePlaces ((sIx n 0 lo : Nat) : Int) ((sIx n n hi : Nat) : Int) 1)) _ _ s
  rw [places_gen]
  exact wpAny_pure h
theorem pick_gen (xs : Array Value) (i k : Nat) : ((List.range k).filterMap fun (m : Nat) => xs[((i : Int) + (m : Int) * 1).toNat]?).toArray = ((xs.toList.drop i).take k).toArray := by
  have e : (fun (m : Nat) => xs[((i : Int) + (m : Int) * 1).toNat]?) = fun m => xs[i + m]? := by
    funext m
    have : ((i : Int) + (m : Int) * 1).toNat = i + m := by omega
    rw [this]
  rw [e]
  have := pick_run xs i k
  rw [List.filterMap_map] at this
  have e2 : ((fun x => xs[x]?) ∘ fun x => i + x) = fun m => xs[i + m]? := rfl
  rw [e2] at this
  rw [this]

theorem getItem_tuple_cut {t sl : Addr} {items : Array Value} {vl vu : Value} {lo hi : Option Int} {Q : Value → Shared → Prop} (ht : IsTup s.heap t items) (hs : s.heap.IsSliceOf sl vl vu .none) (pl : IsPart vl lo) (pu : IsPart vu hi)
    (hw : ¬ (sIx items.size 0 lo = 0 ∧ sIx items.size items.size hi = items.size))
    (h : Q (.ref s.heap.objs.size) { s with heap := s.heap.push { cls := .type "tuple", data := .seq ((items.toList.drop (sIx items.size 0 lo)).take (sIx items.size items.size hi - sIx items.size 0 lo)).toArray } })
    (hsz : items.size ≤ sizeLine) : wpAny (model prog w) A (getItem (.ref t) (.ref sl)) Q E s := by
  have htake : sizeOk (.seq ((items.toList.drop (sIx items.size 0 lo)).take (sIx items.size items.size hi - sIx items.size 0 lo)).toArray) := by
    show ((items.toList.drop (sIx items.size 0 lo)).take (sIx items.size items.size hi - sIx items.size 0 lo)).toArray.size ≤ sizeLine
    rw [List.size_toArray, List.length_take, List.length_drop, Array.length_toList]
    omega
  have hj : sIx items.size items.size hi ≤ items.size := sIx_le _ _ (Nat.le_refl _) hi
  obtain ⟨os, hos, hcs, hds⟩ := id hs
  have hTs : s.TypeIs (.ref sl) "slice" := ⟨os, hos, hcs⟩
  unfold getItem
  try with_reducible refine wpAny_holding ?_
  first | refine wpAny_bind (wpAny_pure ?_) | skip
  refine wpAny_bind (wpAny_sequenceKey ht.typeIs (by decide) ?_)
  refine wpAny_bind (wpAny_callSpecial?_slot (name := Str.ofString "__getitem__") ht.typeIs PyProof.Rows.slot_tuple_getitem
    (wpAny_call_entry PyProof.Rows.slot_tuple_getitem ht.typeIs entry_tuple_getitem ?_ (args_tuple_getitem _ _)))
  show wpAny _ _ (Builtin.Tuple.tupleItemsOf (.ref t) >>= _) _ _ s
  refine wpAny_bind (tupleItemsOf_ ht ?_)
  refine wpAny_bind (wpAny_typeOf hTs ?_)
  rw [if_pos (by decide)]
  refine wpAny_bind (sliceApplied_gen hs pl pu ?_)
  have hno : ¬ ((((sIx items.size 0 lo : Nat) : Int) == 0 && (1 : Int) == 1 && (sIx items.size items.size hi - sIx items.size 0 lo) == items.size) = true) := by
    intro q
    rw [Bool.and_eq_true, Bool.and_eq_true] at q
    have q1 : ((sIx items.size 0 lo : Nat) : Int) = 0 := eq_of_beq q.1.1
    have q2 : sIx items.size items.size hi - sIx items.size 0 lo = items.size := eq_of_beq q.2
    exact hw ⟨by omega, by omega⟩
  show wpAny _ _ (if (((sIx items.size 0 lo : Nat) : Int) == 0 && (1 : Int) == 1 && (sIx items.size items.size hi - sIx items.size 0 lo) == items.size) = true then _ else _) _ _ s
  rw [if_neg hno, pick_gen]
  first
    | exact wpAny_bind (m := Builtin.Tuple.tupleExact _) (wpAny_newObj_type (wpAny_pure ⟨_, rfl, wpAny_pure h⟩) htake)
    | exact wpAny_bind (m := Builtin.Tuple.tupleExact _) (wpAny_newObj_type (wpAny_bind (wpAny_pure (wpAny_pure ⟨_, rfl, wpAny_pure h⟩))) htake)
    | exact wpAny_bind (wpAny_bind (m := Builtin.Tuple.tupleExact _) (wpAny_newObj_type (wpAny_pure (wpAny_pure ⟨_, rfl, wpAny_pure h⟩)) htake))
    | exact wpAny_bind (wpAny_bind (m := Builtin.Tuple.tupleExact _) (wpAny_newObj_type (wpAny_pure ⟨_, rfl, wpAny_pure h⟩) htake))
end
end HT

namespace L2
open PySem PySem.Spec PyProof.Rows

abbrev TO := St → Hp → (Option Int → Hp → Prop) → Prop
def PO (X : Cx) (e : Option Expr) (t : TO) : Prop :=
  ∀ (pins : List (Addr × Obj)) (s : Shared) (σ : St) (H : Hp) (Q : Option Int → Hp → Prop), Inv X pins σ H s → t σ H Q →
    wpAny (model X.prog X.w) X.A (evalPart e X.env) (fun u s' => ∃ o H', Inv X pins σ H' s' ∧ IsPart u o ∧ Q o H') X.xe s
def tNoPart : TO := fun _ H Q => Q none H
def tPart (t : TE) : TO := fun σ H Q => t σ H fun x H1 => ∃ i, x = .int i ∧ Q (some i) H1

section
variable {X : Cx} {e : Expr} {te : TE} {lo hi : Option Expr} {tl th : TO} {pos p2 : Pos}

theorem po_none : PO X none tNoPart := by
  intro pins s σ H Q I h
  rw [evalPart_none]
  exact wpAny_pure ⟨none, H, I, .none, h⟩
theorem po_some (h : PE X e te) : PO X (some e) (tPart te) := by
  intro pins s σ H Q I hw
  rw [evalPart_some]
  refine thn (h pins s σ H _ I hw) fun u s1 ⟨x, H1, I1, r1, q1⟩ => ?_
  obtain ⟨i, rfl, q⟩ := q1
  obtain ⟨t, rfl⟩ := r1
  exact ⟨some i, H1, I1, .int i t, q⟩

def SlR (X : Cx) (r : V → Option Int → Option Int → Hp → VK → Prop) : Prop :=
  ∀ (pins : List (Addr × Obj)) (s : Shared) (σ : St) (H : Hp) (x : V) (v vl vu : Value) (lo hi : Option Int) (sl : Addr) (Q : VK), Inv X pins σ H s → RelV x v → s.heap.IsSliceOf sl vl vu .none → IsPart vl lo → IsPart vu hi → r x lo hi H Q →
    ∃ T id, typeLookup (.type T) "__getitem__" = pure (some (.builtin id)) ∧ s.TypeIs v T ∧ wpAny (model X.prog X.w) X.A (getItem v (.ref sl)) (EP X pins σ Q) X.xe s
theorem SlR.or {r r' : V → Option Int → Option Int → Hp → VK → Prop} (h : SlR X r) (h' : SlR X r') : SlR X (fun x lo hi H Q => r x lo hi H Q ∨ r' x lo hi H Q) := by
  intro pins s σ H x v vl vu lo hi sl Q I rx hs pl pu q
  rcases q with q | q
  · exact h pins s σ H x v vl vu lo hi sl Q I rx hs pl pu q
  · exact h' pins s σ H x v vl vu lo hi sl Q I rx hs pl pu q
def tSl (r : V → Option Int → Option Int → Hp → VK → Prop) (te : TE) (tl th : TO) : TE := fun σ H Q => te σ H fun x H1 => tl σ H1 fun l H2 => th σ H2 fun u H3 => r x l u H3 Q
theorem pe_slice {r : V → Option Int → Option Int → Hp → VK → Prop} (hr : SlR X r) (he : PE X e te) (hl : PO X lo tl) (hu : PO X hi th) : PE X (.Subscript e (.Slice lo hi none p2) pos) (tSl r te tl th) := by
  intro pins s σ H Q I h
  refine Subscript_ (thn (he pins s σ H _ I h) fun v s1 ⟨x, H1, I1, r1, q1⟩ => ?_)
  refine wpAny_Slice (thn (hl pins s1 σ H1 _ I1 q1) fun vl s2 ⟨l, H2, I2, pl, q2⟩ => thn (hu pins s2 σ H2 _ I2 q2) fun vu s3 ⟨u, H3, I3, pu, q3⟩ => ?_)
  rw [evalPart_none]
  refine wpAny_pure ?_
  have I4 : Inv X pins σ H3 { s3 with heap := s3.heap.push { cls := .type "slice", data := .fields #[vl, vu, .none] } } := I3.kept (t' := s3.toks) fun b ob q => Heap.get?_push_of_some _ q
  obtain ⟨T, id, hT, ht, hg⟩ := hr pins { s3 with heap := s3.heap.push { cls := .type "slice", data := .fields #[vl, vu, .none] } } σ H3 x v vl vu l u s3.heap.objs.size Q I4 r1 (Heap.IsSliceOf.new ..) pl pu q3
  show wpAny (model X.prog X.w) X.A (subscriptTail e (.Slice lo hi none p2) v (.ref s3.heap.objs.size)) (EP X pins σ Q) X.xe { s3 with heap := s3.heap.push { cls := .type "slice", data := .fields #[vl, vu, .none] } }
  exact tail_any (ops := [.ref s3.heap.objs.size, v]) ht hT hg (by with_unfolding_all rfl)

def cutV (xs : List V) (lo hi : Option Int) : List V := (xs.drop (HT.sIx xs.length 0 lo)).take (HT.sIx xs.length xs.length hi - HT.sIx xs.length 0 lo)
theorem cutV_length (xs : List V) (lo hi : Option Int) : (cutV xs lo hi).length ≤ xs.length := by
  unfold cutV
  rw [List.length_take, List.length_drop]
  omega
def rSlT (K : PySem.W.Frag) : V → Option Int → Option Int → Hp → VK → Prop := fun x lo hi H Q => ∃ a xs, x = .ref a ∧ SqT K H a xs ∧
  ¬ (HT.sIx xs.length 0 lo = 0 ∧ HT.sIx xs.length xs.length hi = xs.length) ∧ ∀ p, H p = none → Q (.ref p) (upd H p (.tup (cutV xs lo hi)))
theorem sl_tup : SlR X (rSlT X.K) := by
  intro pins s σ H x v vl vu lo hi sl Q I rx hs pl pu h
  obtain ⟨a, xs, rfl, hx, hw, q⟩ := h
  cases rx
  obtain ⟨its, r, ht, hz⟩ := I.tuple hx
  have hlen : its.toArray.size = xs.length := by rw [List.size_toArray]; exact r.length.symm
  refine ⟨"tuple", _, PyProof.Rows.slot_tuple_getitem.lookup, ht.typeIs, ?_⟩
  refine HT.getItem_tuple_cut ht hs pl pu (by rw [hlen]; exact hw) ?_ (by rw [hlen]; exact hz)
  rw [hlen]
  refine ⟨.ref s.heap.objs.size, _, I.laid (t' := s.toks) (o := .tup (cutV xs lo hi)) (fun b ob q => Heap.get?_push_of_some _ q) (Nat.le_refl _) ?_, rfl, q _ (I.hok.fresh (Nat.le_refl _))⟩
  exact ⟨Nat.le_trans (cutV_length xs lo hi) hz, _, (r.drop (HT.sIx xs.length 0 lo)).take (HT.sIx xs.length xs.length hi - HT.sIx xs.length 0 lo), IsTup.new _ _⟩

theorem Vals.nil_iff {xs : List V} {us : List Value} (r : Vals xs us) : us = [] ↔ xs = [] := by
  cases r with
  | nil => simp
  | cons _ _ => simp
end
end L2

namespace L2
open PySem PySem.Spec PyProof.Rows

def ixN (n : Nat) (i : Int) : Option Nat := if 0 ≤ i then (if i < n then some i.toNat else none) else if -(n : Int) ≤ i then some (i + n).toNat else none
def atI {α : Type} (xs : List α) (i : Int) : Option α := (ixN xs.length i).bind fun j => xs[j]?
theorem ixN_seq {n : Nat} {i : Int} {j : Nat} (h : ixN n i = some j) : seqIndex? i n = some j ∧ j < n ∧ -(n : Int) ≤ i ∧ i < n := by
  unfold ixN at h
  by_cases h0 : 0 ≤ i
  · rw [if_pos h0] at h
    by_cases h1 : i < n
    · rw [if_pos h1] at h
      have e : i.toNat = j := Option.some.inj h
      exact ⟨by rw [seqIndex_of h0 h1, e], by omega, by omega, h1⟩
    · rw [if_neg h1] at h; cases h
  · rw [if_neg h0] at h
    by_cases h1 : -(n : Int) ≤ i
    · rw [if_pos h1] at h
      have e : (i + n).toNat = j := Option.some.inj h
      exact ⟨by rw [seqIndex_neg (by omega) h1, e], by omega, h1, by omega⟩
    · rw [if_neg h1] at h; cases h
theorem atI_get {α : Type} {xs : List α} {i : Int} {v : α} (h : atI xs i = some v) : ∃ j, seqIndex? i xs.length = some j ∧ xs[j]? = some v ∧ j < xs.length ∧ -(xs.length : Int) ≤ i ∧ i < xs.length := by
  unfold atI at h
  cases e : ixN xs.length i with
  | none => rw [e] at h; cases h
  | some j =>
    rw [e] at h
    obtain ⟨h1, h2, h3, h4⟩ := ixN_seq e
    exact ⟨j, h1, h, h2, h3, h4⟩
theorem atI_nat {α : Type} {xs : List α} {j : Nat} {v : α} (h : xs[j]? = some v) : atI xs (j : Int) = some v := by
  have hj : j < xs.length := (List.getElem?_eq_some_iff.mp h).1
  have e : ixN xs.length (j : Int) = some j := by
    unfold ixN
    rw [if_pos (by omega), if_pos (by omega)]; simp
  unfold atI; rw [e]; exact h
theorem atI_last {α : Type} (xs : List α) (v : α) : atI (xs ++ [v]) (-1) = some v := by
  have hl : (xs ++ [v]).length = xs.length + 1 := by simp
  have e : ixN (xs ++ [v]).length (-1) = some xs.length := by
    unfold ixN
    rw [hl, if_neg (by decide), if_pos (by omega)]
    congr 1
    omega
  unfold atI
  rw [e]
  show (xs ++ [v])[xs.length]? = some v
  simp

def PlainIx (b : Expr) : Prop := ∀ o i, subscripted b false o i = operate [o, i] (getItem o i)
def IxR (X : Cx) (r : R2) : Prop :=
  ∀ (value slice : Expr) (pins : List (Addr × Obj)) (s : Shared) (σ : St) (H : Hp) (x y : V) (v u : Value) (Q : VK), Inv X pins σ H s → RelV x v → RelV y u → r x y H Q →
    subscripted slice false v u = operate [v, u] (getItem v u) → wpAny (model X.prog X.w) X.A (subscriptTail value slice v u) (EP X pins σ Q) X.xe s
def MtR (X : Cx) (id : String) (r : V → List V → Hp → VK → Prop) : Prop :=
  ∀ (pins : List (Addr × Obj)) (s : Shared) (σ : St) (H : Hp) (x : V) (xs : List V) (v : Value) (us : List Value) (Q : VK), Inv X pins σ H s → RelV x v → Vals xs us → r x xs H Q →
    wpAny (model X.prog X.w) X.A (call (.builtin id) (v :: us)) (EP X pins σ Q) X.xe s
section
variable {X : Cx} {a b : Expr} {ta tb : TE} {pos : Pos}
theorem IxR.or {r r' : R2} (h : IxR X r) (h' : IxR X r') : IxR X (fun x y H Q => r x y H Q ∨ r' x y H Q) := by
  intro value slice pins s σ H x y v u Q I rx ry q hs
  rcases q with q | q
  · exact h value slice pins s σ H x y v u Q I rx ry q hs
  · exact h' value slice pins s σ H x y v u Q I rx ry q hs
theorem MtR.or {id : String} {r r' : V → List V → Hp → VK → Prop} (h : MtR X id r) (h' : MtR X id r') : MtR X id (fun x xs H Q => r x xs H Q ∨ r' x xs H Q) := by
  intro pins s σ H x xs v us Q I rx rs q
  rcases q with q | q
  · exact h pins s σ H x xs v us Q I rx rs q
  · exact h' pins s σ H x xs v us Q I rx rs q
theorem pe_ix {r : R2} (hr : IxR X r) (ha : PE X a ta) (hb : PE X b tb) (hs : PlainIx b) : PE X (.Subscript a b pos) (tOp r ta tb) := by
  intro pins s σ H Q I h
  exact Subscript_ (binT ha hb I h fun v u s2 x y H2 I2 rx ry q => hr a b pins s2 σ H2 x y v u Q I2 rx ry q (hs _ _))

def rIxL (K : PySem.W.Frag) : R2 := fun x y H Q => ∃ p xs i v, x = .ref p ∧ y = .int i ∧ SqL K H p xs ∧ atI xs i = some v ∧ Q v H
def rIxT (K : PySem.W.Frag) : R2 := fun x y H Q => ∃ p xs i v, x = .ref p ∧ y = .int i ∧ SqT K H p xs ∧ atI xs i = some v ∧ Q v H
def rIxS : R2 := fun x y H Q => ∃ z i c, x = .str z ∧ y = .int i ∧ z.length ≤ sizeLine ∧ atI z.cps.toList i = some c ∧ Q (.str ⟨#[c]⟩) H
theorem ix_list : IxR X (rIxL X.K) := by
  intro value slice pins s σ H x y v u Q I rx ry h hs
  obtain ⟨p, xs, i, z, rfl, rfl, hq, he, q⟩ := h
  cases rx
  obtain ⟨t, rfl⟩ := ry
  obtain ⟨its, r, pl, hz⟩ := I.list hq
  obtain ⟨j, h1, h2, h3, h4, h5⟩ := atI_get he
  obtain ⟨w, ew, rw'⟩ := r.get h2
  have hl := r.length
  have hn := line63
  have fin : EP X pins σ Q w s := ⟨z, H, I, rw', q⟩
  by_cases h0 : 0 ≤ i
  · have hj : i.toNat = j := by
      rw [seqIndex_of h0 h5] at h1
      exact Option.some.inj h1
    exact item_listR pl.isList h0 (by omega) (by rw [hj]; simpa using ew) fin hs
  · have hj : (i + (its.toArray.size : Int)).toNat = j := by
      rw [seqIndex_neg (by omega) h4] at h1
      rw [List.size_toArray, ← hl]
      exact Option.some.inj h1
    exact subscriptTail_builtinR (x := w) pl.isList.typeIs slot_list_getitem.lookup
      (wpAny_getItem_list_neg (Q := fun r s' => r = w ∧ EP X pins σ Q r s') pl.isList (by omega) (by rw [List.size_toArray] <;> omega) (by omega) (by rw [hj]; simpa using ew) ⟨rfl, fin⟩) hs
theorem ix_tup : IxR X (rIxT X.K) := by
  intro value slice pins s σ H x y v u Q I rx ry h hs
  obtain ⟨p, xs, i, z, rfl, rfl, hq, he, q⟩ := h
  cases rx
  obtain ⟨t, rfl⟩ := ry
  obtain ⟨its, r, pl, hz⟩ := I.tuple hq
  obtain ⟨j, h1, h2, h3, h4, h5⟩ := atI_get he
  obtain ⟨w, ew, rw'⟩ := r.get h2
  have hl := r.length
  have hn := line63
  have fin : EP X pins σ Q w s := ⟨z, H, I, rw', q⟩
  exact subscriptTail_builtinR (x := w) pl.typeIs slot_tuple_getitem.lookup
    (getItem_tuple (j := j) (Q := fun r s' => r = w ∧ EP X pins σ Q r s') pl (by omega) (by omega) (by rw [List.size_toArray, ← hl]; exact h1) (by simpa using ew) ⟨rfl, fin⟩) hs
theorem ix_str : IxR X rIxS := by
  intro value slice pins s σ H x y v u Q I rx ry h hs
  obtain ⟨z, i, c, rfl, rfl, hz, he, q⟩ := h
  obtain ⟨t, rfl⟩ := rx
  obtain ⟨t', rfl⟩ := ry
  obtain ⟨j, h1, h2, h3, h4, h5⟩ := atI_get he
  have hl : z.cps.toList.length = z.length := by simp [Str.length]
  rw [hl] at h1 h4 h5
  have hn := line63
  exact tail_any (typeIs_str s z t) slot_str_getitem.lookup (getItem_str (c := c) (by
    have e1 : decide (i < -(2 ^ 63 : Int)) = false := decide_eq_false (by omega)
    have e2 : decide (i ≥ 2 ^ 63) = false := decide_eq_false (by omega)
    rw [e1, e2, Bool.or_false]) (by rw [h1]; simpa using h2) ⟨.str ⟨#[c]⟩, H, I.tok _, ⟨_, rfl⟩, q⟩) hs
theorem mapSeq_set (its : List Value) (n j : Nat) (u : Value) : Obj.mapSeq (·.setIfInBounds j u) { cls := .type "list", data := .seq its.toArray n } = { cls := .type "list", data := .seq (its.set j u).toArray n } := by
  simp [Obj.mapSeq]
theorem Inv.lst {pins : List (Addr × Obj)} {σ : St} {H : Hp} {s : Shared} {p : Addr} {xs : List V} (I : Inv X pins σ H s) (h : H p = some (.lst xs)) :
    ∃ (its : List Value) (n : Nat), Vals xs its ∧ s.heap.get? p = some { cls := .type "list", data := .seq its.toArray n } ∧ xs.length ≤ sizeLine := by
  obtain ⟨z, its, n, r, e⟩ := I.hok p _ h
  exact ⟨its, n, r, e, z⟩
theorem Inv.lstUpd {pins : List (Addr × Obj)} {σ : St} {H : Hp} {s : Shared} {p : Addr} {xs ys : List V} {its its' : List Value} {n n' : Nat} {f : Obj → Obj} (I : Inv X pins σ H s) (h : H p = some (.lst xs))
    (ho : s.heap.get? p = some { cls := .type "list", data := .seq its.toArray n }) (hf : f { cls := .type "list", data := .seq its.toArray n } = { cls := .type "list", data := .seq its'.toArray n' }) (r : Vals ys its') (hz : ys.length ≤ sizeLine) (t : Nat) :
    Inv X pins σ (upd H p (.lst ys)) { s with heap := s.heap.update p f, toks := t } := by
  have e : (s.heap.update p f).get? p = some { cls := .type "list", data := .seq its'.toArray n' } := by
    rw [Heap.get?_update_self f ho (by rw [hf] <;> rfl), hf]
  refine I.write (x := p) (e := p) (by rw [h]; trivial) (.inl rfl) (fun b u hb q => (Heap.get?_update_other _ _ (Ne.symm hb)).trans q) ⟨_, e⟩ ?_
  exact ⟨hz, its', n', r, e⟩
def rSetL : V → V → V → Hp → (Hp → Prop) → Prop := fun o i v H Q => ∃ p xs k j, o = .ref p ∧ i = .int k ∧ H p = some (.lst xs) ∧ ixN xs.length k = some j ∧ Q (upd H p (.lst (xs.set j v)))
theorem set_list : PSet X rSetL := by
  intro pins s σ H o i v ov iv u Q I ro ri rv h
  obtain ⟨p, xs, k, j, rfl, rfl, hp, hj, q⟩ := h
  cases ro
  obtain ⟨t, rfl⟩ := ri
  obtain ⟨its, n, r, ho, hz⟩ := I.lst hp
  obtain ⟨h1, h2, h3, h4⟩ := ixN_seq hj
  have hl := r.length
  have hn := line63
  have I' : Inv X pins σ (upd H p (.lst (xs.set j v))) { s with heap := s.heap.update p (Obj.mapSeq (·.setIfInBounds j u)) } :=
    I.lstUpd hp ho (mapSeq_set its n j u) (r.set rv j) (by rw [List.length_set]; exact hz) s.toks
  by_cases h0 : 0 ≤ k
  · have hk : k.toNat = j := by
      rw [seqIndex_of h0 h4] at h1
      exact Option.some.inj h1
    exact PySem.W.ki_setAt ho h0 (by omega) (by rw [List.size_toArray, ← hl]; exact h4) (by rw [hk]; exact ⟨_, I', q⟩)
  · have hk : (k + (its.toArray.size : Int)).toNat = j := by
      rw [seqIndex_neg (by omega) h3] at h1
      rw [List.size_toArray, ← hl]
      exact Option.some.inj h1
    exact PySem.W.ki_setBack ho (by omega) (by rw [List.size_toArray, ← hl]; exact h3) (by omega) (by rw [hk]; exact ⟨_, I', q⟩)

theorem slice_bounds (lo hi : Option Int) (n : Nat) : (sliceBounds lo hi none n).1 = ((HT.sIx n 0 lo : Nat) : Int) ∧ (sliceBounds lo hi none n).2.1 = ((HT.sIx n n hi : Nat) : Int) ∧ (sliceBounds lo hi none n).2.2 = 1 := by
  refine ⟨?_, ?_, rfl⟩
  · cases lo with
    | none => simp [sliceBounds, HT.sIx]
    | some i =>
      simp only [sliceBounds, HT.sIx, Option.getD_none, show (1 : Int) > 0 by decide, if_true]
      by_cases h : i < 0
      · simp only [h, if_true] <;> omega
      · simp only [h, if_false] <;> omega
  · cases hi with
    | none => simp [sliceBounds, HT.sIx]
    | some i =>
      simp only [sliceBounds, HT.sIx, Option.getD_none, show (1 : Int) > 0 by decide, if_true]
      by_cases h : i < 0
      · simp only [h, if_true] <;> omega
      · simp only [h, if_false] <;> omega
theorem slicePick_cut (its : List Value) (lo hi : Option Int) : slicePick its.toArray lo hi none = ((its.drop (HT.sIx its.length 0 lo)).take (HT.sIx its.length its.length hi - HT.sIx its.length 0 lo)).toArray := by
  obtain ⟨h1, h2, h3⟩ := slice_bounds lo hi its.toArray.size
  unfold slicePick
  rw [h1, h2, h3]
  simp only [sliceRange_one, pick_run, List.size_toArray] <;> rfl
def rSlL (K : PySem.W.Frag) : V → Option Int → Option Int → Hp → VK → Prop := fun x lo hi H Q => ∃ a xs, x = .ref a ∧ SqL K H a xs ∧ ∀ p, H p = none → Q (.ref p) (upd H p (.lst (cutV xs lo hi)))
theorem sl_list : SlR X (rSlL X.K) := by
  intro pins s σ H x v vl vu lo hi sl Q I rx hs pl pu h
  obtain ⟨a, xs, rfl, hx, q⟩ := h
  cases rx
  obtain ⟨its, r, ht, hz⟩ := I.list hx
  have hlen := r.length
  refine ⟨"list", _, slot_list_getitem.lookup, ht.isList.typeIs, ?_⟩
  refine wpAny_getItem_list_slice ht.isList hs pl pu .none (by simp) ?_ (by rw [List.size_toArray] <;> omega)
  rw [slicePick_cut, ← hlen]
  refine ⟨.ref s.heap.objs.size, _, I.laid (t' := s.toks) (o := .lst (cutV xs lo hi)) (fun b ob q => Heap.get?_push_of_some _ q) (Nat.le_refl _) ?_, rfl, q _ (I.hok.fresh (Nat.le_refl _))⟩
  exact ⟨Nat.le_trans (cutV_length xs lo hi) hz, _, 0, (r.drop (HT.sIx xs.length 0 lo)).take (HT.sIx xs.length xs.length hi - HT.sIx xs.length 0 lo), Heap.get?_push_size _ rfl⟩

def flatV : V → Bool
  | .non => true
  | .bl _ => true
  | .int _ => true
  | .str _ => true
  | _ => false
def eqV : V → V → Bool
  | .non, .non => true
  | .bl a, .bl b => a == b
  | .bl a, .int b => (if a then 1 else 0) == b
  | .int a, .bl b => a == (if b then 1 else 0)
  | .int a, .int b => a == b
  | .str a, .str b => a == b
  | _, _ => false
theorem eqAt_V {A : Around} {s : Shared} {y x : V} {u v : Value} (ry : RelV y u) (rx : RelV x v) (fy : flatV y = true) (fx : flatV x = true) : SeqAt.EqAt A s u v (eqV y x) := by
  cases y with
  | non =>
    cases ry
    cases x with
    | non => cases rx; exact SeqAt.EqAt.same _
    | bl b => cases rx; exact SeqAt.EqAt.none_bool b
    | int b => obtain ⟨t, rfl⟩ := rx; exact SeqAt.EqAt.none_int b t
    | str b => obtain ⟨t, rfl⟩ := rx; exact SeqAt.EqAt.none_str b t
    | _ => exact absurd (show false = true from fx) Bool.false_ne_true
  | bl a =>
    cases ry
    cases x with
    | non => cases rx; exact SeqAt.EqAt.bool_none a
    | bl b => cases rx; exact SeqAt.EqAt.bool_bool a b
    | int b => obtain ⟨t, rfl⟩ := rx; exact SeqAt.EqAt.bool_int a b t
    | str b => obtain ⟨t, rfl⟩ := rx; exact SeqAt.EqAt.bool_str a b t
    | _ => exact absurd (show false = true from fx) Bool.false_ne_true
  | int a =>
    obtain ⟨t', rfl⟩ := ry
    cases x with
    | non => cases rx; exact SeqAt.EqAt.int_none a t'
    | bl b => cases rx; exact SeqAt.EqAt.int_bool a t' b
    | int b => obtain ⟨t, rfl⟩ := rx; exact SeqAt.EqAt.int_int a t' b t
    | str b => obtain ⟨t, rfl⟩ := rx; exact SeqAt.EqAt.int_str a t' b t
    | _ => exact absurd (show false = true from fx) Bool.false_ne_true
  | str a =>
    obtain ⟨t', rfl⟩ := ry
    cases x with
    | non => cases rx; exact SeqAt.EqAt.str_none a t'
    | bl b => cases rx; exact SeqAt.EqAt.str_bool a t' b
    | int b => obtain ⟨t, rfl⟩ := rx; exact SeqAt.EqAt.str_int a t' b t
    | str b => obtain ⟨t, rfl⟩ := rx; exact SeqAt.EqAt.str_str a t' b t
    | _ => exact absurd (show false = true from fx) Bool.false_ne_true
  | _ => exact absurd (show false = true from fy) Bool.false_ne_true
theorem call_len_seq : CallR X (.builtin "len") (fun xs H Q => ∃ p ys, xs = [.ref p] ∧ (SqL X.K H p ys ∨ SqT X.K H p ys) ∧ Q (.int ys.length) H) := by
  intro pins s σ H xs us Q I r h
  obtain ⟨p, ys, rfl, hq, q⟩ := h
  obtain ⟨u, rfl, rx⟩ := vals1 r
  cases rx
  have hn := line63
  rcases hq with hq | hq
  · obtain ⟨its, r', pl, hz⟩ := I.list hq
    have hlen := r'.length
    exact Calls.call_len_list pl.isList (by simp only [List.size_toArray] <;> omega) ⟨.int ys.length, H, I.tok _, ⟨s.toks + 1, by rw [List.size_toArray, hlen]⟩, q⟩
  · obtain ⟨its, r', pl, hz⟩ := I.tuple hq
    have hlen := r'.length
    exact len_tuple pl (by simp only [List.size_toArray] <;> omega) ⟨.int ys.length, H, I.tok _, ⟨s.toks + 1, by rw [List.size_toArray, hlen]⟩, q⟩
theorem call_len_str : CallR X (.builtin "len") (fun xs H Q => ∃ z, xs = [.str z] ∧ z.length ≤ sizeLine ∧ Q (.int z.length) H) := by
  intro pins s σ H xs us Q I r h
  obtain ⟨z, rfl, hz, q⟩ := h
  obtain ⟨u, rfl, t, rfl⟩ := vals1 r
  have hn := line63
  exact len_str (by omega) ⟨.int z.length, H, I.tok _, ⟨_, rfl⟩, q⟩
theorem CallR.or {f : Value} {r r' : List V → Hp → VK → Prop} (h : CallR X f r) (h' : CallR X f r') : CallR X f (fun xs H Q => r xs H Q ∨ r' xs H Q) := by
  intro pins s σ H xs us Q I rs q
  rcases q with q | q
  · exact h pins s σ H xs us Q I rs q
  · exact h' pins s σ H xs us Q I rs q
theorem call_list_of : CallR X (.type "list") (fun xs H Q => ∃ p ys, xs = [.ref p] ∧ (SqL X.K H p ys ∨ SqT X.K H p ys) ∧ ∀ l, H l = none → Q (.ref l) (upd H l (.lst ys))) := by
  intro pins s σ H xs us Q I r h
  obtain ⟨p, ys, rfl, hq, q⟩ := h
  obtain ⟨u, rfl, rx⟩ := vals1 r
  cases rx
  have fin : ∀ (its : List Value), Vals ys its → ys.length ≤ sizeLine → ∀ (h' : Heap) (c' : Nat), (∀ b o', s.heap.get? b = some o' → h'.get? b = some o') →
      h'.get? s.heap.objs.size = some { cls := .type "list", dict := none, data := .seq its.toArray c', slots := #[] } → EP X pins σ Q (.ref s.heap.objs.size) { s with heap := h' } := fun its r' hz h' c' kp e =>
    ⟨.ref s.heap.objs.size, _, I.laid (t' := s.toks) kp (Nat.le_refl _) (show ObjOk X.prog X.w _ h' _ (.lst ys) from ⟨hz, its, c', r', e⟩), rfl, q _ (I.hok.fresh (Nat.le_refl _))⟩
  rcases hq with hq | hq
  · obtain ⟨its, r', pl, hz⟩ := I.list hq
    have hlen := r'.length
    obtain ⟨o, ho, hc, n, hd⟩ := pl.isList
    exact call_list_seq p (.inl rfl) ho hc hd (fun h' c' kp e => fin its r' hz h' c' kp e) (by simp only [List.size_toArray] <;> omega)
  · obtain ⟨its, r', pl, hz⟩ := I.tuple hq
    have hlen := r'.length
    obtain ⟨o, ho, hc, n, hd⟩ := pl
    exact call_list_seq p (.inr rfl) ho hc hd (fun h' c' kp e => fin its r' hz h' c' kp e) (by simp only [List.size_toArray] <;> omega)
def tyV (K : PySem.W.Frag) (T : String) (x : V) (H : Hp) : Prop := match x with
  | .str _ => T = "str"
  | .int _ => T = "int"
  | .ref p => (T = "list" ∧ ∃ xs, SqL K H p xs) ∨ (T = "tuple" ∧ ∃ o, K.lookup p = some o ∧ o.cls = .type "tuple" ∧ o.dict = none) ∨
      (T = "dict" ∧ ((∃ kvs, H p = some (.dK kvs)) ∨ ∃ kvs, H p = some (.dT kvs))) ∨ (T = "set" ∧ ∃ S n, H p = some (.set S n))
  | _ => False
theorem tyV_is {pins : List (Addr × Obj)} {σ : St} {H : Hp} {s : Shared} {T : String} {x : V} {v : Value} (I : Inv X pins σ H s) (r : RelV x v) (ty : tyV X.K T x H) :
    s.TypeIs v T ∧ ∀ a, v = .ref a → ∃ ob, s.heap.get? a = some ob ∧ ob.dict = none := by
  cases x with
  | str z =>
    obtain ⟨t, rfl⟩ := r
    cases (show T = "str" from ty)
    exact ⟨typeIs_str s z t, fun _ e => nomatch e⟩
  | int i =>
    obtain ⟨t, rfl⟩ := r
    cases (show T = "int" from ty)
    exact ⟨typeIs_int s i t, fun _ e => nomatch e⟩
  | ref p =>
    cases r
    rcases ty with ⟨rfl, xs, hq⟩ | ⟨rfl, o, hk, hc, hd⟩ | ⟨rfl, hk⟩ | ⟨rfl, S, n, hk⟩
    · obtain ⟨its, _, pl, _⟩ := I.list hq
      refine ⟨pl.isList.typeIs, fun a e => ?_⟩
      cases e
      obtain ⟨o, n, e, c, hd, _⟩ := pl
      exact ⟨o, e, hd⟩
    · refine ⟨⟨o, I.kIn p o hk, hc⟩, fun a e => ?_⟩
      cases e
      exact ⟨o, I.kIn _ o hk, hd⟩
    · have z : ∃ o, s.heap.get? p = some o ∧ o.ExactDict := by
        rcases hk with ⟨kvs, hk⟩ | ⟨kvs, hk⟩
        · obtain ⟨_, _, _, _, o, _, _, e, ex, _⟩ := I.hok p _ hk
          exact ⟨o, e, ex⟩
        · obtain ⟨_, _, _, _, o, _, _, e, ex, _⟩ := I.hok p _ hk
          exact ⟨o, e, ex⟩
      obtain ⟨o, e, ex⟩ := z
      refine ⟨⟨o, e, ex.1⟩, fun a e2 => ?_⟩
      cases e2
      exact ⟨o, e, ex.2.1⟩
    · obtain ⟨o, _, _, _, e, ex, _⟩ := I.hok p _ hk
      refine ⟨⟨o, e, ex.1⟩, fun a e2 => ?_⟩
      cases e2
      exact ⟨o, e, ex.2.1⟩
  | _ => exact False.elim ty
def tBM0 (K : PySem.W.Frag) (T : String) (r : V → List V → Hp → VK → Prop) (to : TE) : TE := fun σ H Q => to σ H fun x H1 => tyV K T x H1 ∧ r x [] H1 Q
def tBM (K : PySem.W.Frag) (T : String) (r : V → List V → Hp → VK → Prop) (to : TE) (t : TA) : TE := fun σ H Q => to σ H fun x H1 => tyV K T x H1 ∧ t σ H1 fun xs H2 => r x xs H2 Q
variable {o e : Expr} {es : List Expr} {to : TE} {t : TA} {name : Str} {apos cpos : Pos} {T id : String} {r : V → List V → Hp → VK → Prop}
theorem pe_bm0 (pa : PlainAttrs T) (slot : Slot T name id) (hty : typeOf (.builtin id) = pure (.type "method_descriptor")) (hm : MtR X id r) (ho : PE X o to)
    (hbase : attributeBase o name X.env (eval o X.env) = eval o X.env := by rfl) (hline : (apos.endLine == cpos.line) = true := by rfl) : PE X (.Call (.Attribute o name apos) [] [] cpos) (tBM0 X.K T r to) := by
  intro pins s σ H Q I h
  refine wpAny_Call_method0_late hbase hline (thn (ho pins s σ H _ I h) fun v s1 ⟨x, H1, I1, r1, ty, q1⟩ => ?_)
  obtain ⟨h1, h2⟩ := tyV_is I1 r1 ty
  exact ⟨T, id, pa, slot, hty, h1, h2, Calls.callWith_builtin rfl (PySem.evalArgs_none (hm pins s1 σ H1 x [] v [] Q I1 r1 .nil q1))⟩
theorem pe_bm (pa : PlainAttrs T) (slot : Slot T name id) (hty : typeOf (.builtin id) = pure (.type "method_descriptor")) (hm : MtR X id r) (ho : PE X o to) (ha : PA X (e :: es) t)
    (hbase : attributeBase o name X.env (eval o X.env) = eval o X.env := by rfl)
    (hfew : ((backTo cpos (starEach (e :: es) X.env)).all (fun x => !x.1) && (backToKw cpos (keywordEach [] X.env)).all (fun x => x.1.isSome)
      && decide ((e :: es).length + ([] : List Keyword).length + (if ([] : List Keyword).isEmpty then 0 else 1) < 30)) = true := by rfl)
    (hline : (apos.endLine == cpos.line) = true := by rfl) (hs : starEach (e :: es) X.env = (false, eval e X.env) :: starEach es X.env := by rfl) (hplain : (backTo cpos (starEach es X.env)).any (·.1) = false := by rfl) :
    PE X (.Call (.Attribute o name apos) (e :: es) [] cpos) (tBM X.K T r to t) := by
  intro pins s σ H Q I h
  refine wpAny_Call_method_late hbase hfew hline rfl (thn (ho pins s σ H _ I h) fun v s1 ⟨x, H1, I1, r1, ty, q1⟩ => ?_)
  obtain ⟨h1, h2⟩ := tyV_is I1 r1 ty
  refine ⟨T, id, pa, slot, hty, h1, h2, ?_⟩
  have hA := ha cpos pins s1 σ H1 _ I1 q1
  rw [hs] at hA ⊢
  refine Calls.callWith_builtin (by show (false || (backTo cpos (starEach es X.env)).any (·.1)) = false; rw [hplain] <;> rfl) (Calls.evalArgs_plain ?_)
  exact thn hA fun us s2 ⟨vs, H2, I2, r2, q2⟩ => hm pins s2 σ H2 x vs v us Q I2 r1 r2 q2
end
end L2

namespace L2
open PySem PySem.Spec PyProof.Rows

def MtM (X : Cx) (id : String) (r : V → List V → Hp → VK → Prop) : Prop :=
  ∀ (pins : List (Addr × Obj)) (s : Shared) (σ : St) (H : Hp) (x : V) (xs : List V) (v : Value) (us : List Value) (Q : VK), Inv X pins σ H s → RelV x v → Vals xs us → r x xs H Q →
    wpAny (model X.prog X.w) X.A (call (.builtin id) (v :: us)) (EP X pins σ Q) X.xe s

theorem Vals.one : ∀ {x : V} {us : List Value}, Vals [x] us → ∃ u, us = [u] ∧ RelV x u
  | _, _, .cons r .nil => ⟨_, rfl, r⟩
theorem Vals.two : ∀ {x y : V} {us : List Value}, Vals [x, y] us → ∃ u v, us = [u, v] ∧ RelV x u ∧ RelV y v
  | _, _, _, .cons r (.cons q .nil) => ⟨_, _, rfl, r, q⟩
theorem Vals.zero : ∀ {us : List Value}, Vals [] us → us = []
  | _, .nil => rfl
theorem Vals.dropLast {xs : List V} {us : List Value} (h : Vals xs us) : Vals xs.dropLast us.dropLast := by
  induction h with
  | nil => exact .nil
  | cons r t ih =>
    cases t with
    | nil => exact .nil
    | cons q t' => exact .cons r ih
theorem Vals.reverse {xs : List V} {us : List Value} (h : Vals xs us) : Vals xs.reverse us.reverse := by
  induction h with
  | nil => exact .nil
  | cons r t ih => rw [List.reverse_cons, List.reverse_cons]; exact Vals.append ih (.cons r .nil)
theorem Vals.rep {xs : List V} {us : List Value} (h : Vals xs us) : ∀ k : Nat, Vals (List.replicate k xs).flatten (List.replicate k us).flatten
  | 0 => .nil
  | k + 1 => by
    rw [List.replicate_succ, List.replicate_succ, List.flatten_cons, List.flatten_cons]
    exact Vals.append h (Vals.rep h k)
theorem foldl_rep (its : List Value) : ∀ (k : Nat) (acc : List Value),
    List.foldl (fun x1 x2 => x1 ++ x2) acc.toArray (List.replicate k its.toArray) = (acc ++ (List.replicate k its).flatten).toArray
  | 0, acc => by simp
  | k + 1, acc => by
    have e : acc.toArray ++ its.toArray = (acc ++ its).toArray := by simp
    have e2 : (acc ++ its) ++ (List.replicate k its).flatten = acc ++ (List.replicate (k + 1) its).flatten := by
      rw [List.replicate_succ, List.flatten_cons, List.append_assoc]
    rw [← e2, ← foldl_rep its k (acc ++ its), ← e, List.replicate_succ, List.foldl_cons]

section
variable {X : Cx} {pins : List (Addr × Obj)} {σ : St} {H : Hp} {s : Shared} {l b : Addr} {xs ys zs : List V}

theorem Inv.lset {its its' : List Value} {n : Nat} {f : Array Value → Array Value} {t' : Nat} (I : Inv X pins σ H s) (hH : H l = some (.lst xs))
    (e : s.heap.get? l = some { cls := .type "list", data := .seq its.toArray n }) (hf : f its.toArray = its'.toArray) (hv : Vals ys its') (hz : ys.length ≤ sizeLine) :
    Inv X pins σ (upd H l (.lst ys)) { s with heap := s.heap.update l (Obj.mapSeq f), toks := t' } := by
  have q := PySem.IsL.update e f
  rw [hf] at q
  refine I.write (x := l) (e := l) (by rw [hH]; exact trivial) (.inl rfl) (fun b' u hb hu => (Heap.get?_update_other s.heap (Obj.mapSeq f) (Ne.symm hb)).trans hu) ⟨_, q⟩ ?_
  exact ⟨hz, its', _, hv, q⟩
theorem Inv.lnew {its : List Value} {t' : Nat} (I : Inv X pins σ H s) (hv : Vals ys its) (hz : ys.length ≤ sizeLine) :
    Inv X pins σ (upd H s.heap.objs.size (.lst ys)) { s with heap := s.heap.push { cls := .type "list", data := .seq its.toArray }, toks := t' } :=
  I.laid (fun _ _ q => Heap.get?_push_of_some _ q) (Nat.le_refl _) ⟨hz, its, 0, hv, Heap.get?_push_size _ rfl⟩
theorem Inv.fresh (I : Inv X pins σ H s) : H s.heap.objs.size = none := I.hok.fresh (Nat.le_refl _)
theorem Inv.lstM (I : Inv X pins σ H s) (hH : H l = some (.lst xs)) : xs.length ≤ sizeLine ∧ ∃ (its : List Value) (n : Nat), Vals xs its ∧ xs.length = its.length ∧ s.heap.get? l = some { cls := .type "list", data := .seq its.toArray n } := by
  obtain ⟨z, its, n, r, e⟩ := I.hok l _ hH
  exact ⟨z, its, n, r, r.length, e⟩

theorem notLongL {n : Nat} (h : n ≤ sizeLine) : Builtin.List.listTooLong n = false := by
  unfold Builtin.List.listTooLong
  exact decide_eq_false (by omega)
end

section
variable {X : Cx}

def rAppend : V → List V → Hp → VK → Prop := fun x vs H Q => ∃ l xs y, x = .ref l ∧ vs = [y] ∧ H l = some (.lst xs) ∧ xs.length < sizeLine ∧ Q .non (upd H l (.lst (xs ++ [y])))
theorem mt_append : MtM X "list.append" rAppend := by
  intro pins s σ H x vs v us Q I rx rv h
  obtain ⟨l, xs, y, rfl, rfl, hH, hz, q⟩ := h
  cases rx
  obtain ⟨u, rfl, ru⟩ := rv.one
  obtain ⟨z, its, n, r, hl, e⟩ := I.lstM hH
  refine call_meets F.slot_list_append ⟨_, e, rfl⟩ F.entry_list_append (F.args_list_append_2 _ _) (PySem.list_append l its.toArray n u (by rw [List.size_toArray]; omega)) ⟨e, ?_⟩
  refine ⟨.non, _, I.lset (its' := its ++ [u]) hH e (by simp) (r.append (.cons ru .nil)) ?_, rfl, q⟩
  rw [List.length_append, List.length_singleton]
  omega

def rReverse : V → List V → Hp → VK → Prop := fun x vs H Q => ∃ l xs, x = .ref l ∧ vs = [] ∧ H l = some (.lst xs) ∧ Q .non (upd H l (.lst xs.reverse))
theorem mt_reverse : MtM X "list.reverse" rReverse := by
  intro pins s σ H x vs v us Q I rx rv h
  obtain ⟨l, xs, rfl, rfl, hH, q⟩ := h
  cases rx
  have hus := rv.zero
  subst hus
  obtain ⟨z, its, n, r, hl, e⟩ := I.lstM hH
  refine call_meets F.slot_list_reverse ⟨_, e, rfl⟩ F.entry_list_reverse (F.args_list_reverse_1 _) (AutoSeq1.list_reverse_list_0 l its.toArray n (by rw [List.size_toArray]; omega)) ⟨e, ?_⟩
  refine ⟨.non, _, I.lset (its' := its.reverse) hH e (by simp) r.reverse ?_, rfl, q⟩
  rw [List.length_reverse]
  omega

def rCat : R2 := fun x y H Q => ∃ l b xs zs, x = .ref l ∧ y = .ref b ∧ H l = some (.lst xs) ∧ H b = some (.lst zs) ∧ xs.length + zs.length ≤ sizeLine ∧ ∀ p, H p = none → Q (.ref p) (upd H p (.lst (xs ++ zs)))
theorem op_cat : OpR X (binaryOp .Add) rCat := by
  intro pins s σ H x y v u Q I rx ry h
  obtain ⟨l, b, xs, zs, rfl, rfl, hH, hB, hz, q⟩ := h
  cases rx
  cases ry
  obtain ⟨z, its, n, r, hl, e⟩ := I.lstM hH
  obtain ⟨z2, its2, n2, r2, hl2, e2⟩ := I.lstM hB
  refine PySem.P.add_list e e2 ?_ (by rw [List.size_toArray, List.size_toArray]; omega)
  have ea : its.toArray ++ its2.toArray = (its ++ its2).toArray := by simp
  rw [ea]
  exact ⟨.ref _, _, I.lnew (t' := s.toks) (r.append r2) (by rw [List.length_append]; omega), rfl, q _ I.fresh⟩
def rRep : R2 := fun x y H Q => ∃ l k xs, x = .ref l ∧ y = .int k ∧ H l = some (.lst xs) ∧ -(2 ^ 63) ≤ k ∧ k < 2 ^ 63 ∧ xs.length * k.toNat ≤ sizeLine ∧
  ∀ p, H p = none → Q (.ref p) (upd H p (.lst (List.replicate k.toNat xs).flatten))
theorem len_rep {α : Type} (xs : List α) (k : Nat) : (List.replicate k xs).flatten.length = k * xs.length := by
  induction k with
  | zero => simp
  | succ k ih => rw [List.replicate_succ, List.flatten_cons, List.length_append, ih, Nat.succ_mul, Nat.add_comm]
theorem op_rep : OpR X (binaryOp .Mult) rRep := by
  intro pins s σ H x y v u Q I rx ry h
  obtain ⟨l, k, xs, rfl, rfl, hH, h1, h2, hz, q⟩ := h
  cases rx
  obtain ⟨t, rfl⟩ := ry
  obtain ⟨z, its, n, r, hl, e⟩ := I.lstM hH
  have hlen : its.toArray.size * k.toNat ≤ sizeLine := by rw [List.size_toArray, ← hl]; exact hz
  have hcap : ¬ its.toArray.size * k.toNat > (2 ^ 63 - 1) / 8 := by
    have : (sizeLine : Nat) ≤ (2 ^ 63 - 1) / 8 := by decide
    omega
  have hfit : ¬ (!Builtin.List.listFitsIndex k) = true := by
    rw [fitsIndex_both h1 h2]
    exact Bool.false_ne_true
  have hlong : ¬ Builtin.List.listTooLong (its.toArray.size * k.toNat) = true := by
    rw [notLongL hlen]
    exact Bool.false_ne_true
  have hnew : List.foldl (fun x1 x2 => x1 ++ x2) #[] (List.replicate (if its.toArray.isEmpty = true then 0 else k.toNat) its.toArray) = (List.replicate k.toNat its).flatten.toArray := by
    have f0 : ∀ m : Nat, List.foldl (fun x1 x2 => x1 ++ x2) #[] (List.replicate m its.toArray) = (List.replicate m its).flatten.toArray := fun m => by
      have := foldl_rep its m []
      rw [List.nil_append] at this
      exact this
    rw [f0]
    cases its with
    | nil => simp
    | cons a r' => rw [if_neg (by simp)]
  refine wpAny_binaryOp_repeat_ref (T := "list") (U := "int") (by decide) ⟨_, e, rfl⟩ (fun s' => typeIs_int s' k t) noFill_list_mul F.fills_int_mul F.slot_int_rmul repeat_list F.slot_int_index.lookup
    (call_meets F.slot_int_rmul (typeIs_int s k t) F.entry_int_rmul (F.args_int_rmul_2 _ _) (int___rmul___int_list k t l its.toArray n)
      ⟨e, rfl, ⟨_, e, rfl⟩, call_meets F.slot_list_mul ⟨_, e, rfl⟩ F.entry_list_mul (F.args_list_mul_2 _ _) (AutoListH.list___mul___list_int_3 l its.toArray n k t hfit hcap hlong) ⟨e, ?_⟩⟩)
  rw [hnew]
  exact ⟨.ref _, _, I.lnew (t' := s.toks) (r.rep k.toNat) (by rw [len_rep, Nat.mul_comm]; exact hz), rfl, q _ I.fresh⟩

end

section
variable {prog : Program} {w : World} {A : Around} {E : Value → Shared → Prop} {s : Shared}
set_option maxRecDepth 100000 in
end

section
variable {X : Cx}
end
end L2

namespace Att
open PySem PySem.W PySem.Calls PyProof.Rows

theorem ints_of_wellAll {P : Params} {h : Heap} : ∀ (ns : List Int) (vs : List Value), WellAll P h vs (ns.map WData.int) → IntsAre vs ns := by
  intro ns
  induction ns with
  | nil =>
    intro vs w
    rw [List.map_nil] at w
    cases w
    exact .nil
  | cons n ns ih =>
    intro vs w
    rw [List.map_cons] at w
    cases w with
    | cons a b =>
      cases a
      exact .cons _ _ (ih _ b)

theorem script_of {l : OpenLaw} {n : Nat} (hn : l.most = some n) {P : Params} {h : Heap} {args : List WData} {vals : List Value}
    (hpre : l.row.toRowW.claim.pre args = true) (hwl : WellAll P h vals args) :
    ∃ a vs ns, vals = [Value.ref a] ∧ args = [WData.list (ns.map WData.int)] ∧ h.get? a = some { cls := .type "list", data := .seq vs.toArray } ∧ IntsAre vs ns ∧ ns.length ≤ n := by
  have hsh : WShape.hasAll [] args [.list .int] = true := (pre_splitW hpre).1
  have hc : l.pre.holds [] { args := args } = true := (pre_splitW hpre).2
  obtain ⟨d, r, rfl, h1, h2⟩ := hasAllW_cons hsh
  obtain rfl := hasAllW_nil h2
  obtain ⟨xs, rfl, h3⟩ := hasW_list h1
  obtain ⟨ns, rfl⟩ := items_int h3
  have hlen : ns.length ≤ n := by
    unfold OpenLaw.pre at hc
    have h4 : (WTm.not (.lt (.lit (.int (n : Int))) (.len (.arg 0)))).holds [] { args := [.list (ns.map .int)] } = true := by
      have h4 := (holds_andW hc).1
      rw [hn] at h4
      exact h4
    have h5 := condW_of h4 (w_not (w_lt w_lit (w_len_list (w_arg rfl))))
    rw [List.length_map] at h5
    refine Nat.le_of_not_lt fun q => ?_
    have q' : (n : Int) < ((ns.length : Nat) : Int) := by omega
    first
      | (rw [decide_eq_true q'] at h5; exact absurd h5 (by decide))
      | (simp at h5; omega)
  cases hwl with
  | cons w1 w2 =>
    cases w2
    cases w1 with
    | list ho hall => exact ⟨_, _, ns, rfl, rfl, ho, ints_of_wellAll ns _ hall, hlen⟩

theorem post_true (l : OpenLaw) (args : List WData) : l.row.toRowW.claim.post args (.bool true) args = true :=
  postW_of (r := l.row.toRowW) (X := (true == true))
    (show WShape.has [] (.bool true) .bool = true by first | rfl | decide | simp [WShape.has, WShape.arms, WShape.armsAll])
    (show (WTm.eq .res (.lit (.bool true))).value [] { args := args, res := some (.bool true), after := args } = some (.bool (true == true)) from w_eq_bool (w_res rfl) w_lit) rfl

theorem attach_call {l : OpenLaw} {n : Nat} {q : Program} {loose : List Str} {XP : (Str → Option Value) → Heap → Prop} {YP : World → Heap → Prop} {d : DefRec}
    (hn : l.most = some n) (hdf : d.params.defaults = [])
    (call : ∀ (w : World) (s₀ s₁ : Shared) (mg mb : Str → Option Value) (fa : Addr) (o : Obj) (pm cd doc : Value) (a : Addr) (vs : List Value) (ns : List Int),
      Ground q loose [] XP w s₀ mg mb s₁.heap → YP w s₁.heap →
      s₁.heap.get? fa = some o → o.data = .func (docDef d.name d.params d.body d.scope pm cd doc) → s₁.heap.CodeRec cd d.name → mg d.name = some (.ref fa) →
      s₁.heap.get? a = some { cls := .type "list", data := .seq vs.toArray } → IntsAre vs ns → ns.length ≤ n → s₁.gens = #[] →
      codeAny (model l.prog w) callerA (.call (.ref fa) ⟨[.ref a], []⟩) (fun r s' => r = .ok (.ret (.bool true)) ∧ OldK s₁.heap s'.heap ∧ s'.os = s₁.os ∧ AllBare s'.gens) s₁) :
    WalkO q loose XP YP l.row.toRowW d [] (fun f vs => PySem.call f vs) := by
  intro w s₀ s₁ mg mb G Y fa o pm cd doc dV kV ho hd hcd hD hmg hg args vals as hpre hlay hrd hwl hlo
  obtain rfl : dV = .none := Dflts.none hD hdf
  obtain rfl : kV = .none := Dflts.noKw hD
  obtain ⟨a, vs, ns, rfl, rfl, hobj, hints, hlen⟩ := script_of hn hpre hwl
  refine enter_call (codeAny_mono (call w s₀ s₁ mg mb fa o pm cd doc a vs ns G Y ho (fd_plain hd) hcd hmg hobj hints hlen hg) fun r s' hq => ?_)
  obtain ⟨rfl, h2, h3, h4⟩ := hq
  exact ⟨.inl ⟨.bool true, .bool true, [], rfl, fun _ => rfl, .bool true, post_true l _, fun _ => ⟨List.Pairwise.nil, fun _ hm => (nomatch hm)⟩⟩, h2, h3, h4⟩

section
variable {prog : Program} {w : World} {A : Around} {E : Value → Shared → Prop} {s : Shared} {K : Frag}

end
end Att

namespace L2
open PySem PySem.Spec PyProof.Rows

theorem vals_ints : ∀ {vs : List Value} {ns : List Int}, IntsAre vs ns → Vals (ns.map V.int) vs
  | _, _, .nil => .nil
  | _, _, .cons n t h => .cons ⟨t, rfl⟩ (vals_ints h)

def Only (H : Hp) : Prop := ∀ b, H b = none ∨ ∃ o xs, H b = some (.frz o (.lst xs))

theorem law_call {P : Program} {w : World} {K : PySem.W.Frag} {mg mb : Str → Option Value} {CX : CXT} {k : Nat} {fa a : Addr} {fd : FuncData} {x : Str} {sp : Sp} {s₁ : Shared} {vs : List Value} {ns : List Int}
    (KX : K.In s₁.heap) (hns : s₁.heap.Ns mainGlobals mg) (hb : s₁.heap.Ns builtinsNs mb) (hbb : ∀ x : Str, x ≠ "__name__" → mb x = bootBuiltins x) (hlim : s₁.heap.NoLimit) (hg : s₁.gens = #[])
    (ha : s₁.heap.get? a = some { cls := .type "list", data := .seq vs.toArray }) (hi : IntsAre vs ns) (hl : ns.length ≤ sizeLine) (hr : Room k callerA)
    (F : ∀ base : Heap, K.In base → base.Ns mainGlobals mg → FnOk P w K mg base CX k fa fd [x] sp) (hbind : ∀ (s : Shared) (u : Value), BindsTo s fd ⟨[u], []⟩ [(x, u)])
    (hsp : ∀ H : Hp, Only H → SqL K H a (ns.map V.int) → sp [.ref a] H (fun v _ => v = .bl true) fun _ _ _ => False)
    (hCX : ∀ H e s', CX [] H s₁ (fun _ _ _ => False) e s' → False) :
    codeAny (model P w) callerA (.call (.ref fa) ⟨[.ref a], []⟩) (fun r s' => r = .ok (.ret (.bool true)) ∧ OldK s₁.heap s'.heap ∧ s'.os = s₁.os ∧ AllBare s'.gens) s₁ := by
  have rv := vals_ints hi
  have lenV := hi.length
  -- from an abstract heap in which nothing but the script may be tracked
  have core : ∀ H : Hp, Only H → SqL K H a (ns.map V.int) → HOk P w H s₁.heap → (∀ b, H b ≠ none → b = a) → (H a ≠ none → K.lookup a = none) →
      codeAny (model P w) callerA (.call (.ref fa) ⟨[.ref a], []⟩) (fun r s' => r = .ok (.ret (.bool true)) ∧ OldK s₁.heap s'.heap ∧ s'.os = s₁.os ∧ AllBare s'.gens) s₁ := by
    intro H hO hS hok hA hK
    have base_of : ∀ {b : Addr} {o : Obj}, s₁.heap.get? b = some o → H b = none → (hidT s₁.heap H).get? b = some o := fun e n => hidT_get e n
    have noA : ∀ {b : Addr} {o : Obj} {es : Array DictEntry} {ep : Nat}, s₁.heap.get? b = some o → o.data = .dict es ep → H b = none := fun {b o es ep} e d => by
      cases q : H b with
      | none => rfl
      | some u =>
        have e' : b = a := hA b (by rw [q]; simp)
        subst e'
        rw [ha] at e; cases e
        have d' : Data.seq vs.toArray _ = Data.dict es ep := d
        cases d'
    have nsK : ∀ {b : Addr} {m : Str → Option Value}, s₁.heap.Ns b m → (hidT s₁.heap H).Ns b m := fun {b m} ⟨o, es, ep, e, d, r⟩ => ⟨o, es, ep, base_of e (noA e d), d, r⟩
    have hKb : K.In (hidT s₁.heap H) := fun b o e => base_of (KX b o e) (by
      cases q : H b with
      | none => rfl
      | some u =>
        have e' : b = a := hA b (by rw [q]; simp)
        subst e'
        rw [hK (by rw [q]; simp)] at e; cases e)
    have hM : Mod K mg (hidT s₁.heap H) := ⟨hKb, nsK hns, ⟨mb, nsK hb, hbb⟩, let ⟨mc, h1, h2⟩ := hlim; ⟨mc, nsK h1, h2⟩⟩
    have e0 : Env0 P w K mg (hidT s₁.heap H) callerA [] s₁ H := ⟨rfl, hM, fun b o e => of_hidT e, Nat.le_of_eq (hidT_size _ _), trivial, fun b hb => absurd (show b ∈ ([] : List Addr) from hb) (by simp), hok, .of_eq hg⟩
    refine codeAny_mono ((F _ hKb (nsK hns)).run callerA [] s₁ H ⟨[.ref a], []⟩ [.ref a] [.ref a] _ _ hr e0 (hbind s₁ (.ref a)) (.cons rfl .nil) (hsp H hO hS)) fun r s' h => ?_
    cases r with
    | error e => exact (hCX H e s' h).elim
    | ok fl =>
      cases fl with
      | next => exact False.elim h
      | brk => exact False.elim h
      | cont => exact False.elim h
      | ret u =>
        obtain ⟨v, H', os, bare, un, hok', r', q⟩ := h
        have q' : v = .bl true := q
        subst q'
        obtain rfl : u = Value.bool true := r'
        refine ⟨rfl, OldK.of_keep fun b o e => ?_, os, bare⟩
        cases q : H b with
        | none => exact un.keep b o e q (by intro z; exact absurd (show b ∈ ([] : List Addr) from z) (by simp)) (by simp)
        | some u =>
          rcases hO b with z | ⟨ob, xs, z⟩
          · rw [q] at z; cases z
          · have z2 := un.frzs b ob _ z
            obtain ⟨e1, _⟩ := hok b _ z
            obtain ⟨e2, _⟩ := hok' b _ z2
            rw [e] at e1; cases e1
            exact e2
  cases hk : K.lookup a with
  | some o =>
    -- the script is one of the module's own objects
    have e := KX a o hk
    rw [ha] at e
    cases e
    refine core (fun _ => none) (fun _ => .inl rfl) (.inr ⟨_, vs.toArray, _, hk, rfl, rfl, rfl, by rw [List.size_toArray, lenV]; exact hl, by simpa using rv⟩) (fun b u z => by have z' : (none : Option HO) = some u := z; cases z') (fun b z => absurd rfl z) fun z => absurd rfl z
  | none =>
    refine core (fun b => if b = a then some (.frz { cls := .type "list", data := .seq vs.toArray } (.lst (ns.map V.int))) else none) (fun b => ?_) (.inl (.inr ⟨{ cls := .type "list", data := .seq vs.toArray }, if_pos rfl⟩)) (fun b u z => ?_) (fun b z => ?_) fun _ => hk
    · by_cases hb : b = a
      · exact .inr ⟨_, _, if_pos hb⟩
      · exact .inl (if_neg hb)
    · by_cases hb : b = a
      · have z' := (if_pos hb).symm.trans z
        cases z'
        subst hb
        exact ⟨ha, by rw [List.length_map]; exact hl, vs, _, rv, ha⟩
      · have z' := (if_neg hb).symm.trans z
        cases z'
    · by_cases hb : b = a
      · exact hb
      · exact absurd (if_neg hb) z
end L2

namespace L2
open PySem PySem.Spec PyProof.Rows

abbrev KOf {K : PySem.W.Frag} {h : Heap} (_ : K.In h) : PySem.W.Frag := K

theorem walk_of {l : PySem.W.OpenLaw} {n k : Nat} {q : Program} {loose : List Str} {XP : (Str → Option Value) → Heap → Prop} {YP : World → Heap → Prop} {d : DefRec} {K : Params → PySem.W.Frag} {CX : World → CXT} {sp : World → Sp} {x : Str}
    (hn : l.most = some n) (hn2 : n ≤ sizeLine) (hdf : d.params.defaults = []) (hr : Room k callerA)
    (hY : ∀ (w : World) (h : Heap), YP w h → (K w.params).In h)
    (F : ∀ (w : World) (mg : Str → Option Value) (fa : Addr) (h : Heap), (K w.params).In h → h.Ns mainGlobals mg → mg d.name = some (.ref fa) →
      ∃ fd : FuncData, (∀ (s : Shared) (u : Value), BindsTo s fd ⟨[u], []⟩ [(x, u)]) ∧
        ∀ base : Heap, (K w.params).In base → base.Ns mainGlobals mg → FnOk l.prog w (K w.params) mg base (CX w) k fa fd [x] (sp w))
    (hsp : ∀ (w : World) (H : Hp) (a : Addr) (ns : List Int), ns.length ≤ n → Only H → SqL (K w.params) H a (ns.map V.int) → sp w [.ref a] H (fun v _ => v = .bl true) fun _ _ _ => False)
    (hCX : ∀ (w : World) (H : Hp) (s : Shared) (e : Value) (s' : Shared), CX w [] H s (fun _ _ _ => False) e s' → False) :
    PySem.W.WalkO q loose XP YP l.row.toRowW d [] (fun f vs => PySem.call f vs) := by
  refine Att.attach_call hn hdf fun w s₀ s₁ mg mb fa o pm cd doc a vs ns G Y ho hd hcd hmg hobj hints hlen hg => ?_
  have KX := hY w _ Y
  obtain ⟨fd, hb, hF⟩ := F w mg fa _ KX G.T.g hmg
  exact law_call KX G.T.g G.T.b G.T.builtins G.T.nolimit hg hobj hints (Nat.le_trans hlen hn2) hr hF hb (fun H hO hS => hsp w H a ns hlen hO hS) fun H e s' => hCX w H s₁ e s'
theorem walk_ofK {l : PySem.W.OpenLaw} {n k : Nat} {q : Program} {loose : List Str} {XP : (Str → Option Value) → Heap → Prop} {YP : World → Heap → Prop} {d : DefRec} {K : Params → PySem.W.Frag} {CX : CXT} {sp : PySem.W.Frag → Sp} {x : Str}
    (hn : l.most = some n) (hn2 : n ≤ sizeLine) (hdf : d.params.defaults = []) (hr : Room k callerA)
    (hY : ∀ (w : World) (h : Heap), YP w h → (K w.params).In h)
    (F : ∀ (w : World) (mg : Str → Option Value) (fa : Addr) (h : Heap), (K w.params).In h → h.Ns mainGlobals mg → mg d.name = some (.ref fa) →
      ∃ fd : FuncData, (∀ (s : Shared) (u : Value), BindsTo s fd ⟨[u], []⟩ [(x, u)]) ∧
        ∀ base : Heap, (K w.params).In base → base.Ns mainGlobals mg → FnOk l.prog w (K w.params) mg base CX k fa fd [x] (sp (K w.params)))
    (hsp : ∀ (K : PySem.W.Frag) (H : Hp) (a : Addr) (ns : List Int), ns.length ≤ n → Only H → SqL K H a (ns.map V.int) → sp K [.ref a] H (fun v _ => v = .bl true) fun _ _ _ => False)
    (hCX : ∀ (H : Hp) (s : Shared) (e : Value) (s' : Shared), CX [] H s (fun _ _ _ => False) e s' → False) :
    PySem.W.WalkO q loose XP YP l.row.toRowW d [] (fun f vs => PySem.call f vs) :=
  walk_of (K := K) (CX := fun _ => CX) (sp := fun w => sp (K w.params)) hn hn2 hdf hr hY F (fun w H a ns h1 h2 h3 => hsp (K w.params) H a ns h1 h2 h3) fun _ H s e s' => hCX H s e s'
end L2

/- THE LAST THEOREM (shape; LID, My.* are yours):
   My.Adr: a structure of the addresses that your layer names (classes, functions); My.Txt K t: a structure (Prop) of the equations over K;
   My.txt_mk : {K} {implicit addresses ..} (e1 : nsIn K mainGlobals "law" = some (some (.ref f))) (e2 : K.lookup f = some ⟨oc, od, .func (fnOf "law" "law" params body scope dV kV doc pm an cdv ct), sl⟩) (e3 : codeIn K cdv "law" = true) .. : ∃ t, My.Txt K t

set_option maxRecDepth 100000 in
set_option maxHeartbeats 0 in
theorem PySem.Challenge.cw_LID_holds : PySem.Challenge.rw_LID.Holds := by
  w_on; o_law; k_head; (case hw => w_witness2)
  k_fill
  refine L2.walk_of (l := PySem.Challenge.rw_LID) (n := 63) (k := 40) (x := "script") (CX := fun w => ..) (sp := fun _ => My.sp_law) rfl (by decide) rfl ⟨rfl, by decide, by decide⟩ (fun w h Y => PySem.W.kIn_of Y) ?F ?S ?C
  case F =>
    intro w mg fa h KX G hmg
    have T : ∃ t, My.Txt (L2.KOf KX) t := by
      dsimp only [L2.KOf]                          -- K must stand as «<heap const> w.params» for k_is
      refine' My.txt_mk ?e1 ?e2 ?e3 ..
      (case e1 => PySem.W.k_is)                    -- in the order: a name -> its address -> its object -> its parts
      (case e2 => PySem.W.k_is)
      ..
    obtain ⟨t, T⟩ := T
    have e0 := hmg.symm.trans (PySem.W.mg_of KX G T.law)
    cases e0                                       -- fa is the law's own address
    exact ⟨_, fun s u => .of_eq rfl, fun base kb nb => My.law_fn T kb nb⟩     -- if «.of_eq rfl» comes too early: refine' ⟨_, ?b, fun base kb nb => My.law_fn T kb nb⟩; exact fun s u => .of_eq rfl
  case S => exact fun w H a ns hl hO hS => ..
  case C => exact ..
(the tactic k_is has no namespace: write k_is) -/

namespace L2
open PySem PySem.Spec PyProof.Rows

def inClass (s : Stmt) (j : Nat) : Stmt := match s with
  | .ClassDef _ _ _ body _ _ _ _ _ _ _ => body.getD j (.Pass ⟨0, 0, 0, 0⟩)
  | _ => .Pass ⟨0, 0, 0, 0⟩
def defArgs (s : Stmt) : Arguments := match s with
  | .FunctionDef _ a _ _ _ _ _ _ _ _ => a
  | _ => { posonlyargs := [], args := [], vararg := none, kwonlyargs := [], kw_defaults := [], kwarg := none, defaults := [] }
def defBody (s : Stmt) : List Stmt := match s with
  | .FunctionDef _ _ b _ _ _ _ _ _ _ => b
  | _ => []
def defScope (s : Stmt) : Scope := match s with
  | .FunctionDef _ _ _ _ _ _ sc _ _ _ => sc
  | _ => { kind := .function, names := [], isGenerator := false, isCoroutine := false }

abbrev CX0 : CXT := fun _ _ _ _ _ _ => False
abbrev E0 : XK := fun _ _ _ => False
theorem pass0 {X : Cx} : Passes CX0 X E0 := fun _ _ _ _ _ _ _ h => h.elim

structure Fun (K : PySem.W.Frag) (x qual : Str) (st : Stmt) (f : Addr) (fd : FuncData) : Prop where
  ex : ∃ (oc : Value) (od : Option Addr) (kV doc pm : Value) (an : Option Addr) (cdv ct : Value) (osl : Array (Option Value)),
    fd = PySem.W.fnOf x qual (defArgs st) (defBody st) (defScope st) .none kV doc pm an cdv ct ∧ K.lookup f = some ⟨oc, od, .func fd, osl⟩ ∧ PySem.W.codeIn K cdv qual = true
  kp : PySem.W.keepIn K (.ref f) = true
section
variable {P : Program} {w : World} {K : PySem.W.Frag} {mg : Str → Option Value} {base : Heap}
theorem Fun.ok {x qual : Str} {st : Stmt} {f : Addr} {fd : FuncData} {N ps : List Str} {k : Nat} {sp : Sp} (F : Fun K x qual st f fd) (S : FnScope N ps (defScope st)) (len : ∀ vs H Q E, sp vs H Q E → vs.length = ps.length)
    (hbody : ∀ (cdv : Value) (A : Around) (outer : List Env) (s : Shared) (H : Hp) (vs : List V) (Q : VK) (E : XK), Room k (A.deeper (envOfC qual (defScope st) s.heap.objs.size f cdv)) → sp vs H Q E →
      ∃ t, PSs (cxOf CX0 P w K mg base N qual (defScope st) f cdv A outer s H E).nox (defBody st) t ∧ t { nx := fun _ H' => Q .non H', rt := Q } (start N vs) H) : FnOk P w K mg base CX0 (k + 1) f fd ps sp := by
  obtain ⟨oc, od, kV, doc, pm, an, cdv, ct, osl, rfl, lk, hcd⟩ := F.ex
  refine fn_of lk hcd S len fun A outer s H vs Q E hr hsp => ?_
  obtain ⟨t, h, q⟩ := hbody cdv A outer s H vs Q E hr hsp
  exact ⟨t, h.nox, q⟩
theorem Fun.binds {x qual : Str} {st : Stmt} {f : Addr} {fd : FuncData} {ps : List Str} (F : Fun K x qual st f fd)
    (h : ∀ (kV doc pm : Value) (an : Option Addr) (cdv ct : Value) (us : List Value), us.length = ps.length → bindArgs (PySem.W.fnOf x qual (defArgs st) (defBody st) (defScope st) .none kV doc pm an cdv ct) ⟨us, []⟩ = pure (ps.zip us)) : Binds K fd ps [] := by
  obtain ⟨oc, od, kV, doc, pm, an, cdv, ct, osl, rfl, lk, hcd⟩ := F.ex
  exact .all (h kV doc pm an cdv ct)
theorem fun_mk {x qual : Str} {st : Stmt} {f : Addr} {oc : Value} {od an : Option Addr} {osl : Array (Option Value)} {kV doc pm cdv ct : Value} (l : K.lookup f = some ⟨oc, od, .func (PySem.W.fnOf x qual (defArgs st) (defBody st) (defScope st) .none kV doc pm an cdv ct), osl⟩)
    (c : PySem.W.codeIn K cdv qual = true) (k : PySem.W.keepIn K (.ref f) = true) : Fun K x qual st f (PySem.W.fnOf x qual (defArgs st) (defBody st) (defScope st) .none kV doc pm an cdv ct) := ⟨⟨oc, od, kV, doc, pm, an, cdv, ct, osl, rfl, l, c⟩, k⟩
end
theorem hu_of {A : Around} {k : Nat} (hr : Room k A) : A.units + 1 < cLine := Nat.lt_of_le_of_lt (Nat.add_le_add_left (by decide : 1 ≤ 64) _) hr.units
section
variable {X : Cx}
theorem pv (i : Nat) {x : Str} {pos : Pos} (hN : X.N[i]? = some x := by rfl) (hv : Vis X.env.scope x := by first | exact Or.inl rfl | exact Or.inr (Or.inl rfl) | exact Or.inr (Or.inr rfl)) (hd : (x == ("__debug__" : Str)) = false := by decide)
    (hcd : (x == ("__classdict__" : Str)) = false := by decide) : PE X (.Name x pos) (tVar i) := pe_var hN hv hd hcd
end

theorem ite2 {c A B : Prop} [Decidable c] (h1 : c → A) (h2 : ¬ c → B) : if c then A else B := by
  by_cases h : c
  · rw [if_pos h]
    exact h1 h
  · rw [if_neg h]
    exact h2 h
def Same (H H' : Hp) : Prop := ∀ b o, H b = some o → H' b = some o
theorem Same.refl (H : Hp) : Same H H := fun _ _ h => h
theorem Same.trans {H H1 H2 : Hp} (a : Same H H1) (b : Same H1 H2) : Same H H2 := fun c o h => b c o (a c o h)
theorem Same.free {H H' : Hp} (e : Same H H') {l : Addr} (h : H' l = Option.none) : H l = Option.none := by
  cases q : H l with
  | none => rfl
  | some o =>
    rw [e l o q] at h
    cases h
theorem Same.seq {K : PySem.W.Frag} {H H' : Hp} {a : Addr} {xs : List V} (e : Same H H') (h : SqL K H a xs) : SqL K H' a xs := by
  rcases h with (h | ⟨o, h⟩) | h
  · exact .inl (.inl (e _ _ h))
  · exact .inl (.inr ⟨o, e _ _ h⟩)
  · exact .inr h

end L2


set_option Elab.async false
set_option linter.all false
set_option maxRecDepth 100000
set_option maxHeartbeats 4000000
namespace L2
open PySem PySem.Spec PyProof.Rows


theorem ObjOk.has {P : Program} {w : World} {H : Hp} {h : Heap} {a : Addr} {o : HO} (x : ObjOk P w H h a o) : ∃ u, h.get? a = some u := by
  cases o with
  | lst xs => obtain ⟨_, _, _, _, q⟩ := x; exact ⟨_, q⟩
  | tup xs => obtain ⟨_, _, _, ob, q, _⟩ := x; exact ⟨ob, q⟩
  | dK kvs => obtain ⟨_, _, _, _, ob, _, _, q, _⟩ := x; exact ⟨ob, q⟩
  | dT kvs => obtain ⟨_, _, _, _, ob, _, _, q, _⟩ := x; exact ⟨ob, q⟩
  | set S n => obtain ⟨ob, _, _, _, q, _⟩ := x; exact ⟨ob, q⟩
  | ins C dx fs => obtain ⟨_, _, _, q, _⟩ := x; exact ⟨_, q⟩
  | own y => obtain ⟨ob, q⟩ := x; exact ⟨ob, q⟩
  | xd fs => obtain ⟨_, ⟨ob, _, _, q, _⟩, _⟩ := x; exact ⟨ob, q⟩
  | rng lo hi => obtain ⟨_, _, _, q⟩ := x; exact ⟨_, q⟩
  | frz ob u => obtain ⟨q, _⟩ := x; exact ⟨_, q⟩
  | tbl ps => exact ⟨_, (show h.get? a = some _ from x)⟩
  | met f y => exact ⟨_, (show h.get? a = some _ from x)⟩
  | ext φ => obtain ⟨_, ⟨ob, q⟩, _⟩ := x; exact ⟨ob, q⟩

def Fly (l : List Env) (g : Heap) (H : Hp) (a : Addr) (C : Value) (h : Heap) : Prop :=
  ∃ (B : Heap) (t : Addr), Heap.FlyingW B l a C (.ref t) h ∧ H a = none ∧
    ∀ b o, h.get? b = some o → ((∃ u, g.get? b = some u) ∨ ∃ u, H b = some u) → b ∉ frs l → B.get? b = some o
def CXO (P : Program) (w : World) : CXT := fun outer H s E e s' =>
  ∃ (a : Addr) (C : Value) (H' : Hp), e = .ref a ∧ s'.os = s.os ∧ AllBare s'.gens ∧ Un (frs outer) [] H H' s.heap s'.heap ∧ HOk P w H' s'.heap ∧ Fly outer s.heap H' a C s'.heap ∧ E C none H'

theorem mem_frs_cons {env : Env} {outer : List Env} {L b : Addr} (hf : env.frame = some L) (hb : b ∈ frs (env :: outer)) : b = L ∨ b ∈ frs outer := by
  obtain ⟨e, he, q⟩ := List.mem_filterMap.mp hb
  rcases List.mem_cons.mp he with rfl | he
  · rw [hf] at q; exact .inl (Option.some.inj q).symm
  · exact .inr (List.mem_filterMap.mpr ⟨e, he, q⟩)
theorem frs_cons_of {env : Env} {outer : List Env} {b : Addr} (hb : b ∈ frs outer) : b ∈ frs (env :: outer) := by
  obtain ⟨e, he, q⟩ := List.mem_filterMap.mp hb
  exact List.mem_filterMap.mpr ⟨e, List.mem_cons_of_mem _ he, q⟩

theorem fly_out {P : Program} {w : World} {env : Env} {outer : List Env} {L : Addr} {H H' : Hp} {g h1 h2 B : Heap} {a t : Addr} {C : Value}
    (hf : env.frame = some L) (hL : g.get? L = none) (U : Un (frs outer) [] H H' g h1) (ok : HOk P w H' h1) (frf : ∀ b ∈ frs (env :: outer), H' b = none)
    (frd : ∀ b ∈ frs outer, ∀ o, h1.get? b = some o → ∀ vs, o.data ≠ .fields vs)
    (inB : ∀ b o, h1.get? b = some o → ((∃ u, g.get? b = some u) ∨ ∃ u, H' b = some u) → b ∉ frs (env :: outer) → B.get? b = some o)
    (fl : Heap.FlyingW B outer a C (.ref t) h2) (ha : H' a = none) (up : h1.UpToSlots h2) : Un (frs outer) [] H H' g h2 ∧ HOk P w H' h2 ∧ Fly outer g H' a C h2 := by
  have stay : ∀ b o, h1.get? b = some o → ((∃ u, g.get? b = some u) ∨ ∃ u, H' b = some u) → b ∉ frs outer → h2.get? b = some o ∧ B.get? b = some o := fun b o e hb hn => by
    have nf : b ∉ frs (env :: outer) := fun z => by
      rcases mem_frs_cons hf z with rfl | z2
      · rcases hb with ⟨u, q⟩ | ⟨u, q⟩
        · rw [hL] at q; cases q
        · rw [frf _ z] at q; cases q
      · exact hn z2
    have q := inB b o e hb nf
    exact ⟨fl.1 b o q, q⟩
  have nx : ([] : List Addr) = [] := rfl
  have hx : ∀ b : Addr, b ∉ ([] : List Addr) := fun b z => nomatch z
  have track : ∀ b u, H' b = some u → b ∉ frs outer := fun b u q z => by
    rw [frf b (frs_cons_of z)] at q; cases q
  refine ⟨⟨fun b o e n hb hx => ?_, fun b o e n hb hx => ?_, U.free, fun b o e hx => ?_, U.tups, U.frzs, U.tbls⟩, fun b u q => ?_, B, t, fl, ha, fun b o e hb hn => ?_⟩
  · exact (stay b o (U.keep b o e n hb hx) (.inl ⟨o, e⟩) hb).1
  · obtain ⟨sl, e1⟩ := U.slot b o e n hb hx
    obtain ⟨sl2, e2⟩ := up b _ e1 (frd b hb _ e1)
    exact ⟨sl2, e2⟩
  · obtain ⟨o', e1⟩ := U.there b o e hx
    by_cases hb : b ∈ frs outer
    · obtain ⟨sl2, e2⟩ := up b _ e1 (frd b hb _ e1)
      exact ⟨_, e2⟩
    · exact ⟨o', (stay b o' e1 (.inl ⟨o, e⟩) hb).1⟩
  · refine (ok b u q).stay (fun c v hc e => ?_) (fun _ z => z) fun _ _ z => z
    have tc : ∃ u', H' c = some u' := by
      rcases hc with rfl | hc
      · exact ⟨u, q⟩
      · exact ⟨_, hc⟩
    obtain ⟨u', q'⟩ := tc
    exact (stay c v e (.inr ⟨u', q'⟩) (track c u' q')).1
  · have h1b : ∃ o', h1.get? b = some o' := by
      rcases hb with ⟨u, q⟩ | ⟨u, q⟩
      · exact U.there b u q (hx b)
      · exact (ok b u q).has
    obtain ⟨o', e1⟩ := h1b
    obtain ⟨e2, e3⟩ := stay b o' e1 hb hn
    rw [e] at e2; cases e2
    exact e3

def Raises (X : Cx) (E : XK) : Prop := ∀ (pins : List (Addr × Obj)) (σ : St) (H : Hp) (s : Shared) (a : Addr) (C : Value) (vs : List Value) (h' : Heap), Inv X pins σ H s → Heap.MadeExcOf s.heap h' a C vs → E C none H → X.xe (.ref a) { s with heap := h' }

section
variable {P : Program} {w : World} {K : PySem.W.Frag} {mg : Str → Option Value} {base : Heap} {N : List Str} {qual : Str} {scope : Scope} {f : Addr} {cd : Value} {A : Around} {outer : List Env} {s : Shared} {H : Hp} {E : XK}

theorem Inv.frd {X : Cx} {pins : List (Addr × Obj)} {σ : St} {H : Hp} {s : Shared} (I : Inv X pins σ H s) : ∀ b ∈ frs X.stack, ∀ o, s.heap.get? b = some o → ∀ vs, o.data ≠ .fields vs := fun b hb o e => by
  obtain ⟨_, o', e', d⟩ := I.stack.mem hb
  rw [e] at e'; cases e'
  exact d
theorem Inv.hasNo {X : Cx} {pins : List (Addr × Obj)} {σ : St} {H : Hp} {s : Shared} {a : Addr} (I : Inv X pins σ H s) (e : s.heap.get? a = none) : H a = none := by
  cases q : H a with
  | none => rfl
  | some u =>
    obtain ⟨o, z⟩ := (I.hok a u q).has
    rw [e] at z; cases z

theorem raises_fn : Raises (cxOf (CXO P w) P w K mg base N qual scope f cd A outer s H E) E := by
  intro pins σ H1 s1 a C vs h' I hx hE
  have hin : ∀ env ∈ (envOfC qual scope s.heap.objs.size f cd :: outer), ∀ b, env.frame = some b → b ∈ frs (envOfC qual scope s.heap.objs.size f cd :: outer) := fun env he b hb => List.mem_filterMap.mpr ⟨env, he, hb⟩
  have fr0 : (A.deeper (envOfC qual scope s.heap.objs.size f cd)).frames = some (envOfC qual scope s.heap.objs.size f cd :: outer) := I.ok.frames
  have sn : s.heap.get? s.heap.objs.size = none := Heap.get?_none_of_le (Nat.le_refl _)
  refine wpAny_leaves_madeW (L := s.heap.objs.size) (base := PySem.W.hideAll s1.heap (frs (envOfC qual scope s.heap.objs.size f cd :: outer))) (h := s1.heap) fr0 rfl (fun b o q => PySem.W.of_hideAll _ q) (PySem.W.funFrames_hide I.stack hin) hx fun h2 t fl _ _ up => ?_
  have frd := I.frd
  obtain ⟨u1, u2, u3⟩ := fly_out (P := P) (w := w) (L := s.heap.objs.size) (h1 := s1.heap) rfl sn I.base I.hok I.stkFree (fun b hb o e => frd b (frs_cons_of hb) o e) (fun b o e _ hn => PySem.W.hideAll_get _ e hn) fl (I.hasNo hx.new) ((Heap.UpToSlots.of_keeps hx.keeps).trans up)
  exact ⟨a, C, H1, rfl, I.os, I.bare, u1, u2, u3, hE⟩

theorem passes_fn : Passes (CXO P w) (cxOf (CXO P w) P w K mg base N qual scope f cd A outer s H E) E := by
  intro pins σ H1 s1 e s' I hc
  obtain ⟨a, C, H', rfl, os, bare, un, hok, ⟨B, t, fl, ha, inB⟩, hE⟩ := hc
  have I' : Inv (cxOf (CXO P w) P w K mg base N qual scope f cd A outer s H E) pins σ H' s' := I.call' os un hok bare fun b z => nomatch z
  have fr0 : (A.deeper (envOfC qual scope s.heap.objs.size f cd)).frames = some (envOfC qual scope s.heap.objs.size f cd :: outer) := I.ok.frames
  have sn : s.heap.get? s.heap.objs.size = none := Heap.get?_none_of_le (Nat.le_refl _)
  refine wpAny_leaves_onW (L := s.heap.objs.size) fr0 rfl fl fun h2 fl2 up => ?_
  have frd := I'.frd
  obtain ⟨u1, u2, u3⟩ := fly_out (P := P) (w := w) (L := s.heap.objs.size) (h1 := s'.heap) rfl sn I'.base I'.hok I'.stkFree (fun b hb o e => frd b (frs_cons_of hb) o e) (fun b o e hb hn => inB b o e (hb.imp (fun ⟨u, q⟩ => I.base.there b u q fun z => nomatch z) id) hn) fl2 ha up
  exact ⟨a, C, H', rfl, I'.os, I'.bare, u1, u2, u3, hE⟩
end

theorem Fun.okX {P : Program} {w : World} {K : PySem.W.Frag} {mg : Str → Option Value} {base : Heap} {x qual : Str} {st : Stmt} {f : Addr} {fd : FuncData} {N ps : List Str} {k : Nat} {sp : Sp} (F : Fun K x qual st f fd) (S : FnScope N ps (defScope st)) (len : ∀ vs H Q E, sp vs H Q E → vs.length = ps.length)
    (hbody : ∀ (cdv : Value) (A : Around) (outer : List Env) (s : Shared) (H : Hp) (vs : List V) (Q : VK) (E : XK), Room k (A.deeper (envOfC qual (defScope st) s.heap.objs.size f cdv)) → sp vs H Q E →
      ∃ t, PSs (cxOf (CXO P w) P w K mg base N qual (defScope st) f cdv A outer s H E) (defBody st) t ∧ t { nx := fun _ H' => Q .non H', rt := Q } (start N vs) H) : FnOk P w K mg base (CXO P w) (k + 1) f fd ps sp := by
  obtain ⟨oc, od, kV, doc, pm, an, cdv, ct, osl, rfl, lk, hcd⟩ := F.ex
  exact fn_of lk hcd S len fun A outer s H vs Q E hr hsp => hbody cdv A outer s H vs Q E hr hsp

structure ExC (K : PySem.W.Frag) (C : Addr) : Prop where
  ex : PySem.W.excIn K C [.type "ValueError", .type "Exception", .type "BaseException", .type "object"] "ValueError.__new__" = true

theorem exc_obj {K : PySem.W.Frag} {h : Heap} {C : Addr} {bmB : List Value} {nid : String} (Y : K.In h) (z : PySem.W.excIn K C bmB nid = true) :
    ∃ bm Nn nm qn bs hd sn sub ab col dd k0 k1 k2 k3 k5 mN, h.get? C = some (excClassObj nm qn C Nn bs bm hd sn sub ab col dd k0 k1 k2 k3 k5 nid) ∧ h.Ns Nn mN ∧ mN "__init__" = none ∧ OwnTail h bmB bm := by
  unfold PySem.W.excIn at z
  split at z
  · next d1 c1 s1 hlk =>
    split at z
    · next C1 b1 j0 j1 j2 j3 n1 j5 em es =>
      simp only [Bool.and_eq_true, beq_iff_eq, Bool.not_eq_true'] at z
      obtain ⟨⟨⟨⟨⟨z1, z2⟩, z3⟩, z4⟩, z5⟩, z6⟩ := z
      subst z1 z2
      obtain ⟨a1, a2, a3, a4, a5, a6, a7, a8, a9, a10, a11⟩ := c1
      dsimp only at em z3 z5 z6
      subst em z3
      obtain ⟨l1⟩ := s1
      have es' : l1 = [j0, j1, j2, j3, some (.builtin n1), j5] := es
      subst es'
      exact ⟨b1, a4, a1, a5, a2, a6, a7, a8, a9, a10, d1, j0, j1, j2, j3, j5, _, Y _ _ hlk, .of_isNs (PySem.W.isNs_of_in Y z5), PySem.W.nsMap_none_of_in Y z5 z6, PySem.W.tail_of_in Y z4⟩
    · exact absurd z (by decide)
  · exact absurd z (by decide)

section
variable {X : Cx} {E : XK} {x : Str} {C : Addr} {e : Expr} {es : List Expr} {t : TA} {np cpos pos : Pos}
def tRaise (E : XK) (C : Addr) (t : TA) : TS := fun _ σ H => t σ H fun vs H1 => vs.length ≤ sizeLine ∧ E (.ref C) none H1
theorem ps_raise (R : Raises X E) (c : ExC X.K C) (hc : X.calm = true) (hg : Gl X x) (hm : X.mg x = some (.ref C)) (ha : PA X (e :: es) t) (hdb : (x == ("__debug__" : Str)) = false := by decide)
    (he : starEach (e :: es) X.env = (false, eval e X.env) :: starEach es X.env := by rfl) (hpl : (backTo cpos (starEach es X.env)).any (·.1) = false := by rfl) :
    PS X (.Raise (some (.Call (.Name x np) (e :: es) [] cpos)) none pos) (tRaise E C t) := by
  intro pins s σ H D I h
  obtain ⟨bm, Nn, nm, qn, bs, hd, sn, sub, ab, col, dd, k0, k1, k2, k3, k5, mN, hC, hN, hni, TL⟩ := exc_obj I.ok.mod.kin c.ex
  refine wpAny_Raise_call_subT (C := C) (nm := nm) (q := qn) (N := Nn) (bs := bs) (bm := bm) (hdct := hd) (sn := sn) (sub := sub) (ab := ab) (col := col) (dd := dd) (k0 := k0) (k1 := k1) (k2 := k2) (k3 := k3) (k5 := k5)
    PySem.F.excBase_ValueError (mN := mN) (TL.hasType PySem.F.excBase_ValueError.hasBase) (I.ok.hd hc) ?_ hni (ld_glob I hg hm ⟨rfl, ?_⟩ hdb)
  · rw [he]
    show (false || (backTo cpos (starEach es X.env)).any (·.1)) = false
    rw [hpl]; rfl
  · have q := ha cpos pins s σ H _ I h
    rw [he] at q ⊢
    refine Calls.evalArgs_plain (thn q fun us s2 hs => ?_)
    obtain ⟨vs, H2, I2, r, hl, hE⟩ := hs
    exact ⟨rfl, by rw [← r.length]; exact hl, I2.bk _ _ hC, hN.keeps I2.bk, TL.keeps I2.bk, fun h' a hx => R pins σ H2 s2 a _ us h' I2 hx hE⟩
end

theorem Inv.moved {X : Cx} {pins : List (Addr × Obj)} {σ : St} {H : Hp} {s : Shared} {h' : Heap} (I : Inv X pins σ H s)
    (keep : ∀ b o, s.heap.get? b = some o → ((∃ u, X.s₀.heap.get? b = some u ∧ b ∉ X.ex) ∨ (∃ u, H b = some u) ∨ ∃ p ∈ X.pn ++ pins, p.1 = b) → b ∉ frs X.stack → h'.get? b = some o) (up : s.heap.UpToSlots h') : Inv X pins σ H { s with heap := h' } := by
  have neL : ∀ b o, X.s₀.heap.get? b = some o → b ≠ X.env.locals := fun b o e => Nat.ne_of_lt (Nat.lt_of_lt_of_le (Heap.lt_size e) I.ok.above)
  have nst : ∀ b, b ≠ X.env.locals → b ∉ X.fs → b ∉ frs X.stack := fun b h1 h2 z => (List.mem_cons.mp (I.stkSub b z)).elim h1 h2
  have fsd : ∀ b ∈ X.fs, ∀ o, X.s₀.heap.get? b = some o → ∀ vs, o.data ≠ .fields vs := fun b hb o e => by
    obtain ⟨_, o', e', d⟩ := I.ok.funs.mem hb
    rw [e] at e'; cases e'
    exact d
  have cellK : ∀ c v, s.heap.IsCell c v → h'.IsCell c v := fun c v ⟨o, ho, hd⟩ => by
    obtain ⟨sl, q⟩ := up c o ho fun vs z => by rw [hd] at z; cases z
    exact ⟨_, q, hd⟩
  refine ⟨I.ok, I.os, I.bare, ⟨fun b o e n hb hx => ?_, fun b o e n hb hx => ?_, I.base.free, fun b o e hx => ?_, I.base.tups, I.base.frzs, I.base.tbls⟩, ?_, fun y c e => ?_, I.free, I.freeC, fun p hp => ?_, fun b u q => ?_, I.len⟩
  · exact keep b o (I.base.keep b o e n hb hx) (.inl ⟨o, e, hx⟩) (nst b (neL b o e) hb)
  · obtain ⟨sl, e1⟩ := I.base.slot b o e n hb hx
    obtain ⟨sl2, e2⟩ := up b _ e1 (fsd b hb o e)
    exact ⟨sl2, e2⟩
  · obtain ⟨o', e1⟩ := I.base.there b o e hx
    by_cases hb : b ∈ X.fs
    · obtain ⟨sl, e2⟩ := I.base.slot b o e (I.ok.frf b hb) hb hx
      obtain ⟨sl2, e3⟩ := up b _ e2 (fsd b hb o e)
      exact ⟨_, e3⟩
    · exact ⟨o', keep b o' e1 (.inl ⟨o, e, hx⟩) (nst b (neL b o e) hb)⟩
  · obtain ⟨m, hn, hl⟩ := I.loc
    refine ⟨m, up.ns hn, fun i y v e1 e2 e3 => ?_⟩
    obtain ⟨u, r, l⟩ := hl i y v e1 e2 e3
    refine ⟨u, r, ?_⟩
    rcases l with l | ⟨k, c, e, z⟩
    · exact .inl l
    · exact .inr ⟨k, c, e, cellK c _ z⟩
  · obtain ⟨v, z⟩ := I.cell y c e
    exact ⟨v, cellK c v z⟩
  · obtain ⟨e, n, ne, nf, d⟩ := I.pin p hp
    exact ⟨keep p.1 p.2 e (.inr (.inr ⟨p, hp, rfl⟩)) (nst p.1 ne nf), n, ne, nf, d⟩
  · refine (I.hok b u q).stay (fun c v hc e => ?_) (fun _ z => z) fun _ _ z => z
    have tc : ∃ u', H c = some u' := by
      rcases hc with rfl | hc
      · exact ⟨u, q⟩
      · exact ⟨_, hc⟩
    obtain ⟨u', q'⟩ := tc
    refine keep c v e (.inr (.inl ⟨u', q'⟩)) fun z => ?_
    rw [I.stkFree c z] at q'; cases q'

theorem Inv.track {X : Cx} {pins : List (Addr × Obj)} {σ : St} {H : Hp} {s : Shared} {a : Addr} {ob : Obj} {vs : Array Value} {o : HO} (I : Inv X pins σ H s) (ha : H a = none) (hob : s.heap.get? a = some ob) (hd : ob.data = .fields vs)
    (h0 : X.s₀.heap.get? a = none) (hp : ∀ p ∈ X.pn ++ pins, p.1 ≠ a) (new : ObjOk X.prog X.w (upd H a o) s.heap a o) : Inv X pins σ (upd H a o) s := by
  have nt : ∀ b u, H b = some u → b ≠ a := fun b u q => ne_of_none q ha
  refine ⟨I.ok, I.os, I.bare, ⟨I.base.keep, I.base.slot, fun b u e n hx => ?_, I.base.there, fun b xs q => ?_, fun b u xs q => ?_, fun b ps q => ?_⟩, I.loc, I.cell, ?_, fun y c e => ?_, fun p q => ?_, fun b u q => ?_, I.len⟩
  · have ne : b ≠ a := fun z => by rw [z, h0] at e; cases e
    rw [upd_ne ne]; exact I.base.free b u e n hx
  · have z := I.base.tups b xs q
    rw [upd_ne (nt _ _ z)]; exact z
  · have z := I.base.frzs b u xs q
    rw [upd_ne (nt _ _ z)]; exact z
  · obtain ⟨m, z⟩ := I.base.tbls b ps q
    exact ⟨m, by rw [upd_ne (nt _ _ z)]; exact z⟩
  · have ne : X.env.locals ≠ a := fun z => by
      obtain ⟨m, ⟨oL, es, ep, e1, e2, _⟩, _⟩ := I.loc
      rw [z, hob] at e1; cases e1
      rw [hd] at e2; cases e2
    rw [upd_ne ne]; exact I.free
  · have ne : c ≠ a := fun z => by
      obtain ⟨v, oc, e1, e2⟩ := I.cell y c e
      rw [z, hob] at e1; cases e1
      rw [hd] at e2; cases e2
    rw [upd_ne ne]; exact I.freeC y c e
  · obtain ⟨e, n, r⟩ := I.pin p q
    exact ⟨e, by rw [upd_ne (hp p q)]; exact n, r⟩
  · by_cases hb : b = a
    · subst hb; rw [upd_same] at q; cases q; exact new
    · rw [upd_ne hb] at q
      exact (I.hok b u q).stay (fun c v _ z => z) (fun c z => by rw [upd_ne (nt _ _ z)]; exact z) fun c xs z => by rw [upd_ne (nt _ _ z)]; exact z

def exO (a : Addr) (C : Value) : HO := .ext fun h => ∃ ob vs, h.get? a = some ob ∧ ob.cls = C ∧ ob.data = .fields vs

def Landed (X : Cx) (pins : List (Addr × Obj)) (Kx : Value → Hp → Prop) (e : Value) (s' : Shared) : Prop :=
  ∃ (a : Addr) (C : Value) (σ : St) (H : Hp) (g : Heap), e = .ref a ∧ Inv X pins σ H s' ∧ Fly X.stack g H a C s'.heap ∧ (∀ p ∈ X.pn ++ pins, ∃ u, g.get? p.1 = some u) ∧
    (∀ b u, X.s₀.heap.get? b = some u → b ∉ X.ex → ∃ u', g.get? b = some u') ∧ Kx C H
abbrev tryCx (X : Cx) (pins : List (Addr × Obj)) (Kx : Value → Hp → Prop) : Cx := { X with pn := X.pn ++ pins, xe := Landed X pins Kx }
abbrev suiteCx (X : Cx) (a : Addr) : Cx := { X with A := X.A.mark (some (.ref a)), calm := false, xe := fun _ _ => False }
section
variable {X : Cx} {pins pins' : List (Addr × Obj)} {σ : St} {H : Hp} {s : Shared} {Kx : Value → Hp → Prop} {a : Addr}
theorem Inv.toTry (I : Inv X pins σ H s) : Inv (tryCx X pins Kx) [] σ H s :=
  ⟨⟨I.ok.mod, I.ok.kind, I.ok.glob, I.ok.blt, I.ok.above, I.ok.inj, I.ok.has, I.ok.cab, I.ok.hd, I.ok.frames, I.ok.stk, I.ok.exf, I.ok.bs, I.ok.bsz, I.ok.noex, I.ok.exfs, I.ok.funs, I.ok.frf⟩,
    I.os, I.bare, I.base, I.loc, I.cell, I.free, I.freeC, fun p hp => I.pin p (by simpa using hp), I.hok, I.len⟩
theorem Inv.ofTry (I : Inv (tryCx X pins Kx) pins' σ H s) : Inv X pins σ H s :=
  ⟨⟨I.ok.mod, I.ok.kind, I.ok.glob, I.ok.blt, I.ok.above, I.ok.inj, I.ok.has, I.ok.cab, I.ok.hd, I.ok.frames, I.ok.stk, I.ok.exf, I.ok.bs, I.ok.bsz, I.ok.noex, I.ok.exfs, I.ok.funs, I.ok.frf⟩,
    I.os, I.bare, I.base, I.loc, I.cell, I.free, I.freeC, fun p hp => I.pin p (List.mem_append_left _ hp), I.hok, I.len⟩
theorem Inv.toSuite (I : Inv X pins σ H s) : Inv (suiteCx X a) pins σ H s :=
  ⟨⟨I.ok.mod, I.ok.kind, I.ok.glob, I.ok.blt, I.ok.above, I.ok.inj, I.ok.has, I.ok.cab, (fun z => nomatch z), I.ok.frames, I.ok.stk, I.ok.exf, I.ok.bs, I.ok.bsz, I.ok.noex, I.ok.exfs, I.ok.funs, I.ok.frf⟩,
    I.os, I.bare, I.base, I.loc, I.cell, I.free, I.freeC, I.pin, I.hok, I.len⟩
theorem Inv.ofSuite (hd : X.calm = true → X.A.handled = none) (I : Inv (suiteCx X a) pins σ H s) : Inv X pins σ H s :=
  ⟨⟨I.ok.mod, I.ok.kind, I.ok.glob, I.ok.blt, I.ok.above, I.ok.inj, I.ok.has, I.ok.cab, hd, I.ok.frames, I.ok.stk, I.ok.exf, I.ok.bs, I.ok.bsz, I.ok.noex, I.ok.exfs, I.ok.funs, I.ok.frf⟩,
    I.os, I.bare, I.base, I.loc, I.cell, I.free, I.freeC, I.pin, I.hok, I.len⟩
theorem passes_try : Passes (CXO X.prog X.w) (tryCx X pins Kx) (fun C _ H => Kx C H) := by
  intro p2 σ1 H1 s1 e s' I hc
  obtain ⟨a, C, H', rfl, os, bare, un, hok, fly, hE⟩ := hc
  have I0 : Inv X pins σ1 H1 s1 := I.ofTry
  have I' : Inv X pins σ1 H' s' := I0.call' os un hok bare fun b z => nomatch z
  exact ⟨a, C, σ1, H', s1.heap, rfl, I', fly, fun p hp => ⟨p.2, (I0.pin p hp).1⟩, fun b u q hx => I0.base.there b u q hx, hE⟩

theorem Inv.frame {σ' : St} {h' : Heap} {m' : Str → Option Value} {t' : Nat} (I : Inv X pins σ H s) (hn : h'.Ns X.env.locals m') (hs : Heap.SameBut X.env.locals s.heap h')
    (hl : ∀ (i : Nat) (x : Str) (v : V), X.N[i]? = some x → σ'[i]? = some (some v) → Vis X.env.scope x → ∃ u, RelV v u ∧ Look X.env h' m' x u) (hlen : σ'.length = σ.length) : Inv X pins σ' H { s with heap := h', toks := t' } := by
  have neL : ∀ b o, X.s₀.heap.get? b = some o → b ≠ X.env.locals := fun b o e => Nat.ne_of_lt (Nat.lt_of_lt_of_le (Heap.lt_size e) I.ok.above)
  refine ⟨I.ok, I.os, I.bare, ⟨fun b o e n hb hx => (hs.2 b (neL b o e)).trans (I.base.keep b o e n hb hx), fun b o e n hb hx => ?_, I.base.free, fun b o e hx => ?_, I.base.tups, I.base.frzs, I.base.tbls⟩, ⟨m', hn, hl⟩, fun y c e => ?_, I.free, I.freeC, fun p hp => ?_, fun b u q => ?_, hlen.trans I.len⟩
  · obtain ⟨sl, e1⟩ := I.base.slot b o e n hb hx
    exact ⟨sl, (hs.2 b (neL b o e)).trans e1⟩
  · obtain ⟨o', e1⟩ := I.base.there b o e hx
    exact ⟨o', (hs.2 b (neL b o e)).trans e1⟩
  · obtain ⟨v, z⟩ := I.cell y c e
    exact ⟨v, z.sameBut hs (I.cne y c e)⟩
  · obtain ⟨e, n, ne, nf, d⟩ := I.pin p hp
    exact ⟨(hs.2 p.1 ne).trans e, n, ne, nf, d⟩
  · refine (I.hok b u q).stay (fun c v hc e => (hs.2 c ?_).trans e) (fun _ z => z) fun _ _ z => z
    intro z
    have fr := I.free
    rcases hc with rfl | hc
    · rw [z, fr] at q; cases q
    · rw [z, fr] at hc; cases hc
theorem unset_ok {M : Model} {A : Around} {E : Value → Shared → Prop} {i : Nat} {n : Str} {pos : Pos} {Q : Unit → Shared → Prop} (I : Inv X pins σ H s) (hi : X.N[i]? = some n) (hN : X.N.Nodup) (hk : X.env.scope.names.lookup n = some .local)
    (h : ∀ s', Inv X pins (σ.set i none) H s' → Q () s') : wpAny M A (do bindName X.env n .none; unbindBehindTheSuite X.env n pos) Q E s := by
  obtain ⟨m, hn, hl⟩ := id I.loc
  refine wpAny_nameGoes_keeps (m := m) hk hn (by rw [I.ok.kind]; rfl) fun h' v hn' hs => h _ (I.frame hn' hs (fun j y v' e1 e2 e3 => ?_) (by simp))
  have hij : j ≠ i := fun z => by
    rw [z] at e2
    have hiσ : i < σ.length := by rw [I.len]; exact (List.getElem?_eq_some_iff.mp hi).1
    rw [List.getElem?_set_self hiσ] at e2
    cases e2
  rw [List.getElem?_set_ne (Ne.symm hij)] at e2
  obtain ⟨u, r, q⟩ := hl j y v' e1 e2 e3
  refine ⟨u, r, ?_⟩
  rcases q with ⟨k, e⟩ | ⟨k, c, e, z⟩
  · have ne : y ≠ n := fun z => hij (nodup_ix hN e1 (z ▸ hi))
    exact .inl ⟨k, by simp [ne, e]⟩
  · exact .inr ⟨k, c, e, z.sameBut hs (I.cne y c e)⟩
end

section
variable {X : Cx} {body suite : List Stmt} {b₀ : Stmt} {n x : Str} {i : Nat} {R : Addr} {np hpos pos : Pos} {tb : (Value → Hp → Prop) → TS} {th : TS}
def tTry (K : PySem.W.Frag) (R : Addr) (i N : Nat) (tb : (Value → Hp → Prop) → TS) (th : TS) : TS := fun D σ H =>
  tb (fun C H' => PySem.W.exmOne K C (.ref R) = some true ∧ ∀ a, H' a = none →
    th { nx := fun σ' H2 => D.nx (σ'.set i none) H2, rt := D.rt, bk := fun σ' H2 => D.bk (σ'.set i none) H2, ct := fun σ' H2 => D.ct (σ'.set i none) H2 } ((List.replicate N none).set i (some (.ref a))) (upd H' a (exO a C))) D σ H
theorem ps_try (hst : X.stack = X.env :: X.outer ∧ X.env.frame = some X.env.locals) (hex : X.ex = []) (hN : X.N.Nodup) (hi : X.N[i]? = some n) (hk : X.env.scope.names.lookup n = some .local) (hg : Gl X x) (hm : X.mg x = some (.ref R))
    (hb : ∀ pins Kx, PSs (tryCx X pins Kx) body (tb Kx)) (hs : ∀ a, PSs (suiteCx X a) (b₀ :: suite) th) (hdb : (x == ("__debug__" : Str)) = false := by decide) :
    PS X (.Try body [.ExceptHandler (some (.Name x np)) (some n) (b₀ :: suite) hpos] [] [] pos) (tTry X.K R i X.N.length tb th) := by
  intro pins s σ H D I h
  refine wpAny_Try_except (wpAny_mono (hb pins _ [] s σ H D I.toTry h) (fun f s1 q => ?_) fun e s1 q => ?_)
  · cases f with
    | next => obtain ⟨σ', H', I', q⟩ := q; exact wpAny_execs_nil ⟨σ', H', I'.ofTry, q⟩
    | brk => obtain ⟨σ', H', I', q⟩ := q; exact ⟨σ', H', I'.ofTry, q⟩
    | cont => obtain ⟨σ', H', I', q⟩ := q; exact ⟨σ', H', I'.ofTry, q⟩
    | ret u => obtain ⟨v, σ', H', I', r, q⟩ := q; exact ⟨v, σ', H', I'.ofTry, r, q⟩
  · obtain ⟨a, C, σ1, H1, g, rfl, I1, ⟨B, t, fl, ha, inB⟩, hpn, hg0, hm1, hk1⟩ := q
    obtain ⟨es1, es2⟩ := hst
    have mv : ∀ h', Heap.FlyingW B X.stack a C (.ref t) h' → s1.heap.UpToSlots h' → Inv X pins σ1 H1 { s1 with heap := h' } := fun h' fl' up => I1.moved (fun b o e hb hn => fl'.1 b o (inB b o e (by
      rcases hb with ⟨u, q, hx⟩ | ⟨u, q⟩ | ⟨p, hp, rfl⟩
      · exact .inl (hg0 b u q hx)
      · exact .inr ⟨u, q⟩
      · exact .inl (hpn p hp)) hn)) up
    have frA : X.A.frames = some (X.env :: X.outer) := by rw [← es1]; exact I.ok.frames
    rw [es1] at fl
    refine wpAny_looks_onW frA es2 fl fun h4 hl4 up4 => ?_
    refine wpAny_landsW hl4 fun h5 fl5 up5 => ?_
    have I5 := mv h5 (by rw [es1]; exact fl5) (up4.trans up5)
    obtain ⟨ob5, hob5, hc5⟩ := fl5.there
    have LT : PySem.W.Looks (model X.prog X.w) h5 (typeOf (.ref a)) C := hc5 ▸ (PySem.W.Looks.ld hob5).andThen .now
    refine wpAny_handleBy_cons (codeAny_handlers_test (ld_glob (X := suiteCx X a) I5.toSuite hg hm ?_ hdb)) (by intro z; cases z)
    refine (PySem.W.exm_one (K := X.K) (I5.kIn : X.K.In h5) LT hm1) _ _ _ _ (fun _ _ z => z) ?_
    refine codeAny_handlers_suite_as ?_
    refine lands_againW fl5 fun h6 fl6 up6 => ?_
    have I6 := mv h6 (by rw [es1]; exact fl6) ((up4.trans up5).trans up6)
    obtain ⟨ob6, vs6, hob6, hc6, hd6, _⟩ := fl6.first
    have nfr : ∀ o, s1.heap.get? a = some o → a ∉ frs X.stack := fun o e z => by
      obtain ⟨ob, vs, q1, _, q2, _⟩ := fl.first
      exact I1.frd a z ob q1 vs q2
    have notin : ∀ u, g.get? a = some u → False := fun u q => by
      obtain ⟨ob, vs, q1, _, q2, _⟩ := fl.first
      have z := inB a ob q1 (.inl ⟨u, q⟩) (nfr ob q1)
      rw [fl.2.1] at z; cases z
    have h0 : X.s₀.heap.get? a = none := by
      cases q : X.s₀.heap.get? a with
      | none => rfl
      | some u =>
        obtain ⟨u', z⟩ := hg0 a u q (by rw [hex]; exact fun z => nomatch z)
        exact (notin u' z).elim
    have hp : ∀ p ∈ X.pn ++ pins, p.1 ≠ a := fun p hp z => by
      obtain ⟨u, q⟩ := hpn p hp
      rw [z] at q
      exact notin u q
    have I7 : Inv X pins σ1 (upd H1 a (exO a C)) { s1 with heap := h6 } := I6.track ha hob6 hd6 h0 hp
      ⟨⟨ob6, vs6, hob6, hc6, hd6⟩, ⟨ob6, hob6⟩, fun ha hb ⟨o, v, z1, z2⟩ k => ⟨o, v, k o z1, z2⟩⟩
    have I8 : Inv X pins (List.replicate X.N.length none) (upd H1 a (exO a C)) { s1 with heap := h6 } := I7.weak (by rw [List.length_replicate, I7.len]) fun j v q => by
      rw [List.getElem?_replicate] at q
      split at q <;> cases q
    refine store_ok (X := suiteCx X a) I8.toSuite hN hi (.inl hk) (v := .ref a) rfl (fun s9 I9 => ?_) (.inr hk)
    refine wpAny_mono (hs a pins s9 _ _ _ I9 (hk1 a ha)) (fun f s10 q => ?_) fun _ _ z => z.elim
    have out : ∀ {σ' : St} {H' : Hp}, Inv (suiteCx X a) pins σ' H' s10 → Inv X pins σ' H' s10 := fun J => J.ofSuite I.ok.hd
    cases f with
    | next => obtain ⟨σ', H', J, q⟩ := q; exact unset_ok (out J) hi hN hk fun s11 J2 => ⟨_, H', J2, q⟩
    | brk => obtain ⟨σ', H', J, q⟩ := q; exact unset_ok (out J) hi hN hk fun s11 J2 => ⟨_, H', J2, q⟩
    | cont => obtain ⟨σ', H', J, q⟩ := q; exact unset_ok (out J) hi hN hk fun s11 J2 => ⟨_, H', J2, q⟩
    | ret u => obtain ⟨v, σ', H', J, r, q⟩ := q; exact unset_ok (out J) hi hN hk fun s11 J2 => ⟨v, _, H', J2, r, q⟩
end
end L2

set_option Elab.async false
set_option linter.all false
set_option maxRecDepth 100000
set_option maxHeartbeats 4000000
namespace L2
open PySem PySem.Spec PyProof.Rows

section
variable {X : Cx}
def rSlS : V → Option Int → Option Int → Hp → VK → Prop := fun x lo hi H Q => ∃ z, x = .str z ∧ z.length ≤ sizeLine ∧ Q (.str (Txt.slice z lo hi)) H
theorem part_of {v : Value} {o : Option Int} (p : IsPart v o) : ∃ l : Option (Int × Tok), v = partValue l ∧ l.map (·.1) = o := by
  cases p with
  | none => exact ⟨none, rfl, rfl⟩
  | int i t => exact ⟨some (i, t), rfl, rfl⟩
theorem sl_str : SlR X rSlS := by
  intro pins s σ H x v vl vu lo hi sl Q I rx hs pl pu h
  obtain ⟨z, rfl, hz, q⟩ := h
  obtain ⟨t, rfl⟩ := rx
  obtain ⟨l, rfl, rfl⟩ := part_of pl
  obtain ⟨u, rfl, rfl⟩ := part_of pu
  refine ⟨"str", _, PySem.F.slot_str_getitem.lookup, typeIs_str s z t, wpAny_getItem_str_slice (l := l) (u := u) (st := none) hs rfl ?_⟩
  exact post_val_or_str ⟨Nat.le_trans (Txt.slice_le z _ _) hz, fun t' k => ⟨.str _, H, I.tok _, ⟨_, rfl⟩, q⟩⟩

def eqL : List V → List V → Bool
  | [], [] => true
  | x :: xs, y :: ys => eqV x y && eqL xs ys
  | _, _ => false
theorem eqL_len : ∀ {xs ys : List V}, xs.length ≠ ys.length → eqL xs ys = false
  | [], [], h => absurd rfl h
  | [], _ :: _, _ => rfl
  | _ :: _, [], _ => rfl
  | x :: xs, y :: ys, h => by
    have : eqL xs ys = false := eqL_len fun z => h (by rw [List.length_cons, List.length_cons, z])
    show (eqV x y && eqL xs ys) = false
    rw [this, Bool.and_false]
theorem eqL_all : ∀ (xs ys : List V), xs.length = ys.length → (List.range xs.length).all (fun j => eqV (xs.getD j .non) (ys.getD j .non)) = eqL xs ys
  | [], [], _ => rfl
  | [], _ :: _, h => nomatch h
  | _ :: _, [], h => nomatch h
  | x :: xs, y :: ys, h => by
    have ih := eqL_all xs ys (by simpa using h)
    rw [List.length_cons, List.range_succ_eq_map, List.all_cons, List.all_map]
    show (eqV x y && _) = (eqV x y && eqL xs ys)
    rw [← ih]
    rfl
def rEqL (K : PySem.W.Frag) (neg : Bool) : R2 := fun x y H Q => ∃ l b xs ys, x = .ref l ∧ y = .ref b ∧ SqL K H l xs ∧ SqL K H b ys ∧ xs.all flatV = true ∧ ys.all flatV = true ∧ Q (.bl (if neg then !eqL xs ys else eqL xs ys)) H
theorem flat_at {xs ys : List V} {its its2 : List Value} {A : Around} {s : Shared} (r : Vals xs its) (r2 : Vals ys its2) (fx : xs.all flatV = true) (fy : ys.all flatV = true) :
    ∀ (j : Nat) (h1 : j < its.toArray.size) (h2 : j < its2.toArray.size), SeqAt.EqAt A s its.toArray[j] its2.toArray[j] (eqV (xs.getD j .non) (ys.getD j .non)) := by
  intro j h1 h2
  have l1 := r.length
  have l2 := r2.length
  have hx : j < xs.length := by rw [l1]; simpa using h1
  have hy : j < ys.length := by rw [l2]; simpa using h2
  obtain ⟨u, e1, q1⟩ := r.get (List.getElem?_eq_getElem hx)
  obtain ⟨w, e2, q2⟩ := r2.get (List.getElem?_eq_getElem hy)
  have e3 : its.toArray[j] = u := by
    rw [List.getElem_toArray]; rw [List.getElem?_eq_getElem (by simpa using h1)] at e1; exact Option.some.inj e1
  have e4 : its2.toArray[j] = w := by
    rw [List.getElem_toArray]; rw [List.getElem?_eq_getElem (by simpa using h2)] at e2; exact Option.some.inj e2
  have g1 : xs.getD j .non = xs[j] := by rw [List.getD_eq_getElem?_getD, List.getElem?_eq_getElem hx]; rfl
  have g2 : ys.getD j .non = ys[j] := by rw [List.getD_eq_getElem?_getD, List.getElem?_eq_getElem hy]; rfl
  rw [e3, e4, g1, g2]
  exact eqAt_V q1 q2 (List.all_eq_true.mp fx _ (List.getElem_mem hx)) (List.all_eq_true.mp fy _ (List.getElem_mem hy))
theorem op_eq_lst (hu : X.A.units < cLine) : OpR X (compareOp .Eq) (rEqL X.K false) := by
  intro pins s σ H x y v u Q I rx ry h
  obtain ⟨l, b, xs, ys, rfl, rfl, hx, hy, fx, fy, q⟩ := h
  cases rx; cases ry
  obtain ⟨its, r, pl, _⟩ := I.list hx
  obtain ⟨its2, r2, pl2, _⟩ := I.list hy
  have l1 := r.length
  have l2 := r2.length
  by_cases hl : xs.length = ys.length
  · refine SeqAt.eq_listAt pl.isList pl2.isList (by simp; omega) hu (flat_at r r2 fx fy) ?_
    rw [List.size_toArray, ← l1, eqL_all xs ys hl]
    exact ⟨.bl _, H, I, rfl, q⟩
  · refine SeqAt.eq_list_lengthsAt pl.isList pl2.isList (by simp; omega) hu ?_
    rw [show (if false = true then !eqL xs ys else eqL xs ys) = false from eqL_len hl] at q
    exact ⟨.bl _, H, I, rfl, q⟩
theorem op_ne_lst (hu : X.A.units < cLine) : OpR X (compareOp .NotEq) (rEqL X.K true) := by
  intro pins s σ H x y v u Q I rx ry h
  obtain ⟨l, b, xs, ys, rfl, rfl, hx, hy, fx, fy, q⟩ := h
  cases rx; cases ry
  obtain ⟨its, r, pl, _⟩ := I.list hx
  obtain ⟨its2, r2, pl2, _⟩ := I.list hy
  have l1 := r.length
  have l2 := r2.length
  by_cases hl : xs.length = ys.length
  · refine SeqAt.RcNeAt.lists pl.isList pl2.isList (by simp; omega) hu (flat_at r r2 fx fy) _ _ _ _ ?_
    rw [List.size_toArray, ← l1, eqL_all xs ys hl]
    exact ⟨.bl _, H, I, rfl, q⟩
  · refine SeqAt.RcNeAt.lists_lengths pl.isList pl2.isList (by simp; omega) hu _ _ _ _ ?_
    rw [show (if true = true then !eqL xs ys else eqL xs ys) = true by rw [eqL_len hl]; rfl] at q
    exact ⟨.bl _, H, I, rfl, q⟩

theorem all_range : ∀ bs : List Bool, (List.range bs.length).all (fun i => bs.getD i false) = bs.all id
  | [] => rfl
  | b :: bs => by
    rw [List.length_cons, List.range_succ_eq_map, List.all_cons, List.all_map, List.all_cons]
    show (b && _) = (b && _)
    rw [← all_range bs]
    rfl
theorem call_all_list (hc : X.calm = true) : CallR X (.builtin "all") (fun xs H Q => ∃ (p : Addr) (bs : List Bool), xs = [.ref p] ∧ SqL X.K H p (bs.map V.bl) ∧ Q (.bl (bs.all id)) H) := by
  intro pins s σ H xs us Q I r h
  obtain ⟨p, bs, rfl, hq, q⟩ := h
  obtain ⟨u, rfl, rx⟩ := vals1 r
  cases rx
  obtain ⟨its, r', pl, hz⟩ := I.list hq
  have hlen := r'.length
  obtain ⟨o, n, ho, _⟩ := id pl
  have hne : p ≠ s.heap.objs.size := Nat.ne_of_lt (Heap.lt_size ho)
  have tr : TruthOf X.prog X.w X.A.in1 (fun i v => its.toArray[i]? = some v) (fun i => bs.getD i false) := by
    intro i v s2 Q2 E2 hv hq2
    have hv' : its[i]? = some v := by simpa using hv
    have hi : i < bs.length := by
      have := (List.getElem?_eq_some_iff.mp hv').1
      rw [← hlen, List.length_map] at this; exact this
    obtain ⟨w, e1, e2⟩ := r'.get (i := i) (x := .bl bs[i]) (by rw [List.getElem?_map, List.getElem?_eq_getElem hi]; rfl)
    rw [hv'] at e1
    cases e1
    cases e2
    refine wpAny_truthy_bool ?_
    have e3 : bs.getD i false = bs[i] := by rw [List.getD_eq_getElem?_getD, List.getElem?_eq_getElem hi]; rfl
    have q3 : Q2 (bs.getD i false) s2 := hq2
    rw [e3] at q3
    exact q3
  refine call_all_walk (wpAny_pyIter_list pl.isList ?_)
  refine ⟨s.heap.objs.size, [s.heap.objs.size, p], [s.heap.objs.size], its.toArray.size, _, _, _, rfl, Walks.list (A := X.A.in1) (I.ok.hd hc) _ _ hne its.toArray, ⟨⟨_, Heap.get?_push_size _ rfl, rfl, rfl⟩, ?_⟩, tr, fun h' tk hk => ?_⟩
  · obtain ⟨o2, e2, r2⟩ := pl.isList
    exact ⟨o2, Heap.get?_push_of_some _ e2, r2⟩
  · have hk2 : ∀ b o, s.heap.get? b = some o → h'.get? b = some o := fun b o e => hk b o (fun z => by
      have e1 := Heap.lt_size e
      rw [List.mem_singleton.mp z] at e1
      exact absurd e1 (Nat.lt_irrefl _)) (Heap.get?_push_of_some _ e)
    have e : (List.range its.toArray.size).all (fun i => bs.getD i false) = bs.all id := by
      rw [List.size_toArray, ← hlen, List.length_map]; exact all_range bs
    rw [e]
    exact ⟨.bl _, H, I.kept (t' := tk) hk2, rfl, q⟩
end

theorem Inv.laidN {X : Cx} {pins : List (Addr × Obj)} {σ : St} {H : Hp} {s : Shared} {h' : Heap} {a : Addr} {o : HO} {t' : Nat} (I : Inv X pins σ H s) (k : ∀ b u, s.heap.get? b = some u → h'.get? b = some u) (hn : s.heap.get? a = none)
    (new : ObjOk X.prog X.w (upd H a o) h' a o) : Inv X pins σ (upd H a o) { s with heap := h', toks := t' } := by
  have ha : H a = none := I.hasNo hn
  have nt : ∀ b u, H b = some u → b ≠ a := fun b u q => ne_of_none q ha
  refine I.un ⟨fun b u q _ _ _ => k b u q, fun b u q _ _ _ => ⟨u.slots, k b u q⟩, fun b u q n _ => ?_, fun b u q _ => ⟨u, k b u q⟩, fun b xs q => ?_, fun b u xs q => ?_, fun b ps q => ⟨#[], ?_⟩⟩ fun b u q => ?_
  · have ne : b ≠ a := fun z => by rw [z, hn] at q; cases q
    rw [upd_ne ne]; exact n
  · rw [upd_ne (nt _ _ q)]; exact q
  · rw [upd_ne (nt _ _ q)]; exact q
  · rw [upd_ne (nt _ _ q), q]; simp
  · by_cases hb : b = a
    · subst hb; rw [upd_same] at q; cases q; exact new
    · rw [upd_ne hb] at q
      exact (I.hok b u q).stay (fun c v _ z => k c v z) (fun c z => by rw [upd_ne (nt _ _ z)]; exact z) fun c xs z => by rw [upd_ne (nt _ _ z)]; exact z

def inS (z : Str) (c : Nat) : Bool := !(Builtin.Str.occurrences z ⟨#[c]⟩ 0 z.length 1).isEmpty
theorem vals_signs {g : Nat → Bool} : ∀ (cs : List Nat) (vs rs : List Value), vs.length = cs.length → (∀ (j : Nat) (v : Value), vs[j]? = some v → ∃ c u, cs[j]? = some c ∧ v = .str ⟨#[c]⟩ u) →
    Paired (fun v r => ∀ c u, v = .str ⟨#[c]⟩ u → r = .bool (g c)) vs rs → Vals (cs.map fun c => V.bl (g c)) rs
  | [], [], _, _, _, .nil => .nil
  | [], _ :: _, _, h, _, _ => nomatch h
  | _ :: _, [], _, h, _, _ => nomatch h
  | c :: cs, v :: vs, _, h, hg, .cons r t => by
    obtain ⟨c', u, e1, e2⟩ := hg 0 v rfl
    have e3 : c = c' := by simpa using e1
    subst e3
    exact .cons (r c u e2) (vals_signs cs vs _ (by simpa using h) (fun j w hw => by simpa using hg (j + 1) w (by simpa using hw)) t)
section
variable {X : Cx} {x z : Str} {p1 p2 p3 px pos : Pos} {iter : Expr} {ti : TE} {scope : Scope} {cl : List (Str × Addr)} {zs : Str}
def ZRead (X : Cx) (scope : Scope) (cl : List (Str × Addr)) (z : Str) (p2 : Pos) (zs : Str) (σ : St) : Prop :=
  ∀ (pins : List (Addr × Obj)) (H : Hp) (s1 s3 : Shared) (C : Addr) (Q : Value → Shared → Prop) (E : Value → Shared → Prop), Inv X pins σ H s1 → (∀ b o, s1.heap.get? b = some o → s3.heap.get? b = some o) → (∀ t, Q (.str zs t) s3) →
    wpAny (model X.prog X.w) X.A (eval (.Name z p2) (compEnvC scope cl C X.env)) Q E s3
def tCompIn (X : Cx) (scope : Scope) (cl : List (Str × Addr)) (z : Str) (p2 : Pos) (ti : TE) : TE := fun σ H Q => ∃ zs, ZRead X scope cl z p2 zs σ ∧ ti σ H fun v H1 => ∃ y, v = .str y ∧ y.length ≤ sizeLine ∧
  ∀ p, H1 p = none → Q (.ref p) (upd H1 p (.lst (y.cps.toList.map fun c => V.bl (inS zs c))))
theorem pe_compIn (hc : X.calm = true) (hi : PE X iter ti) (hclos : closureFor scope X.env = pure cl) (hcell : ∀ y ∈ scope.names, y.2 ≠ .cell) (hkind : scope.kind = .function)
    (hnames : ∀ y ∈ scope.names, y.2 = .local → scope.names.lookup y.1 = some .local) (hx : scope.names.lookup x = some .local) (hs : ∀ v, foldedSetIterable iter X.env v = pure v := by intro _; rfl) (hd : (x == ("__debug__" : Str)) = false := by decide) :
    PE X (.ListComp (.Compare (.Name x p1) [.In] [.Name z p2] p3) [⟨.Name x px, iter, [], 0⟩] scope pos) (tCompIn X scope cl z p2 ti) := by
  intro pins s σ H Q I h
  obtain ⟨zs, zr, h⟩ := h
  refine wpAny_ListComp_free (cl := cl) (fun _ => true) (fun v r => ∀ c u, v = .str ⟨#[c]⟩ u → r = .bool (inS zs c)) hclos hcell hkind hnames hx (thn (hi pins s σ H _ I h) fun xv s1 ⟨v, H1, I1, r1, y, ev, hy, q⟩ => ?_) hs
  subst ev
  obtain ⟨t, rfl⟩ := r1
  refine wpAny_pyIter_str fun o St W hst => ?_
  have old : ∀ (h' : Heap), (∀ b o', b ∉ [s1.heap.objs.size] → (s1.heap.push o).get? b = some o' → h'.get? b = some o') → ∀ b o', s1.heap.get? b = some o' → h'.get? b = some o' := fun h' hk b o' e =>
    hk b o' (fun z => by
      have e1 := Heap.lt_size e
      rw [List.mem_singleton.mp z] at e1
      exact absurd e1 (Nat.lt_irrefl _)) (Heap.get?_push_of_some _ e)
  refine ⟨s1.heap.objs.size, [s1.heap.objs.size], [s1.heap.objs.size], y.cps.size, SignAt y, St, rfl, W X.A (I1.ok.hd hc), hy, hst, fun b hb => ?_, ⟨?_, ?_⟩, ?_⟩
  · rw [List.mem_singleton.mp hb]
    show s1.heap.objs.size < (s1.heap.push o).objs.size
    rw [Heap.size_push]; exact Nat.lt_succ_self _
  · intro C i v s3 m3 E' _ hP hn hm hk _
    exact wpAny_pure ⟨rfl, s3.heap, s3.toks, rfl, fun _ _ e => e⟩
  · intro C i v s3 m3 E' _ hP _ hn hm hk _
    obtain ⟨c, u, _, rfl⟩ := hP
    refine wpAny_Compare1 (wpAny_Name (wpAny_loadName_local (env := compEnvC scope cl C X.env) (m := m3) hkind (lookup_relabel_local hx) hn hm ?_) hd)
    refine zr pins H1 s1 s3 C _ _ I1 (old _ hk) fun t3 => ?_
    refine in_str ⟨fun c' u' e => ?_, s3.heap, s3.toks, rfl, fun _ _ e => e⟩
    injection e with e1 _
    injection e1 with e2
    have e3 : c = c' := by simpa using e2
    subst e3
    rfl
  · intro D h' tk ys vs hnew hl hpl hlen hP hF hk
    have hn1 : s1.heap.get? D = none := by
      cases e : s1.heap.get? D with
      | none => rfl
      | some u =>
        have := Heap.get?_push_of_some o e
        rw [show (s1.heap.push o).get? D = none from hnew] at this
        cases this
    obtain ⟨n, hD⟩ := hpl
    have hfil : vs.filter (fun _ => true) = vs := List.filter_eq_self.mpr fun _ _ => rfl
    rw [hfil] at hF
    have V1 : Vals (y.cps.toList.map fun c => V.bl (inS zs c)) ys.toList := vals_signs y.cps.toList vs ys.toList (by rw [hlen]; simp) (fun j v hv => by
      obtain ⟨c, u, e1, e2⟩ := hP j v hv
      exact ⟨c, u, by simpa using e1, e2⟩) hF
    have new : ObjOk X.prog X.w (upd H1 D (.lst (y.cps.toList.map fun c => V.bl (inS zs c)))) h' D (.lst (y.cps.toList.map fun c => V.bl (inS zs c))) := by
      refine ⟨?_, ys.toList, n, V1, ?_⟩
      · rw [List.length_map]
        have : y.cps.toList.length = y.length := by simp [Str.length]
        omega
      · rw [Array.toArray_toList]; exact hD
    exact ⟨.ref D, _, I1.laidN (t' := tk) (old h' hk) hn1 new, rfl, q D (I1.hasNo hn1)⟩
theorem zread_glob {σ : St} {t : Tok} (hg : (relabel scope X.env).names.lookup z = some .globalImplicit) (hkind : scope.kind = .function) (hm : X.mg z = some (.str zs t)) (hd : (z == ("__debug__" : Str)) = false := by decide) : ZRead X scope cl z p2 zs σ := by
  intro pins H s1 s3 C Q E I k q
  exact Calls.Name_function_global (env := compEnvC scope cl C X.env) hkind hg (Calls.loadGlobal_global (env := compEnvC scope cl C X.env) (by
    show s3.heap.Ns X.env.globals X.mg
    rw [I.ok.glob]; exact (I.mod.glob.keeps I.bk).keeps k) hm (q t)) hd
end

section
variable {X : Cx}
theorem call_isi_ty : CallR X (.builtin "isinstance") (fun xs H Q => ∃ x T t b, xs = [x, .ty T] ∧ TyOf X.K H x t ∧ PySem.W.kitOne X.K t (.type T) = some b ∧ Q (.bl b) H) := by
  intro pins s σ H xs us Q I r h
  obtain ⟨x, T, t, b, rfl, ty, e, q⟩ := h
  obtain ⟨u, w', rfl, rx, ry⟩ := vals2 r
  cases (show w' = Value.type T from ry)
  exact isinst_ok I rx ty e fun tk => ⟨.bl b, H, I.tok _, rfl, q⟩
end

section
variable {X : Cx} {x : Str} {pos : Pos}
theorem pe_gref {a : Addr} (hg : Gl X x) (hm : X.mg x = some (.ref a)) (hd : (x == ("__debug__" : Str)) = false := by decide) : PE X (.Name x pos) (tC (.ref a)) := pe_glob hg hm rfl hd
theorem pe_gty {T : String} (hg : Gl X x) (hm : X.mg x = none) (hv : bootBuiltins x = some (.type T)) (hn : x ≠ "__name__" := by decide) (hd : (x == ("__debug__" : Str)) = false := by decide) : PE X (.Name x pos) (tC (.ty T)) := pe_bltn hg hm hv rfl hn hd
end
end L2

set_option Elab.async false
set_option linter.all false
set_option maxRecDepth 100000
set_option maxHeartbeats 4000000
namespace L2
open PySem PySem.Spec PyProof.Rows PySem.W PySem.Calls Builtin Builtin.ObjectAttr Builtin.Getset_descriptor

section
variable {prog : Program} {w : World} {A : Around} {E : Value → Shared → Prop} {s : Shared} {K : PySem.W.Frag} {a C : Addr} {o : Obj} {R : Result → Shared → Prop}
structure ExI (K : PySem.W.Frag) (C : Addr) : Prop where
  cl : (PySem.W.clsIn K C).isSome = true
  g1 : PySem.W.findIn K (.ref C) "__getattribute__" = some (some (.builtin "BaseException.__getattribute__"))
  g2 : PySem.W.findIn K (.ref C) "__getattr__" = some none
  g3 : PySem.W.findIn K (.ref C) "__class__" = some (some (.builtin "object.__class__"))
  g4 : PySem.W.mroIn K C (.type "object") = some true
  g5 : PySem.W.mroIn K C (.type "BaseException") = some true
  g6 : PySem.W.specialIn K (.builtin "object.__class__") "__get__" = some (some (.builtin "getset_descriptor.__get__"))
  g7 : PySem.W.takesIn K (.builtin "object.__class__") = some true
theorem exc_get {tp : Value} (Y : K.In s.heap) (c : ExI K C) (hx : s.heap.get? a = some o) (hc : o.cls = .ref C) (h : R (.ok (.ret (.ref C))) s) :
    codeAny (model prog w) A (.call (.builtin "getset_descriptor.__get__") ⟨[.builtin "object.__class__", .ref a, tp], []⟩) R s := by
  obtain ⟨hh, g, dr, t, os⟩ := s
  have L0 : Looks (model prog w) hh (typeOf (.ref a)) (.ref C) := hc ▸ (Looks.ld hx).andThen .now
  have L1 := looks_mroIn (M := model prog w) Y c.g4
  refine codeAny_call_builtin KF.slot_gs.plain KF.entry_gs (KF.slot_gs.check _ _ _ _ _ _ _ _ KF.type_class (KF.args_gs _ _ _) ?_)
  unfold Builtin.«getset_descriptor.__get__» descrGet
  rw [dga_obj]
  refine wpAny_bind (wpAny_pure ?_)
  unfold descrGetter descrCheckInstance descrNameAndClass isInstance
  simp only [KF.owner_class]
  repeat lk
  refine ⟨Code.quiet_builtin _ (by decide +kernel), codeAny_builtin KF.entry_class ?_⟩
  unfold Builtin.«object.__class__» shownTypeOf
  repeat lk
  exact h
theorem exc_entry {tk : Tok} {Q : Fin → Shared → Prop} (Y : K.In s.heap) (c : ExI K C) (hx : s.heap.get? a = some o) (hc : o.cls = .ref C) (h : Q (.done (.ret (.ref C))) s) :
    wpAny (model prog w) A (Builtin.«object.__getattribute__» ⟨[.ref a, .str "__class__" tk], []⟩) Q E s := by
  obtain ⟨hh, g, dr, t, os⟩ := s
  have L0 : Looks (model prog w) hh (typeOf (.ref a)) (.ref C) := hc ▸ (Looks.ld hx).andThen .now
  have L1 := looks_findIn (M := model prog w) Y c.g3
  have L2 := looks_specialIn (M := model prog w) Y c.g6
  have L3 := looks_takesIn (M := model prog w) Y c.g7
  unfold Builtin.«object.__getattribute__»
  repeat lk
  refine wpAny_run (c := .call (.builtin "getset_descriptor.__get__") ⟨[.builtin "object.__class__", .ref a, .ref C], []⟩) (h := none) (exc_get (R := _) Y c hx hc ?_)
  exact wpAny_pure (wpAny_pure h)
theorem exc_check {M : Model} {nameV : Value} {Q : Unit → Shared → Prop} (Y : K.In s.heap) (c : ExI K C) (hx : s.heap.get? a = some o) (hc : o.cls = .ref C) (h : Q () s) :
    wpAny M A (checkBuiltinCall "BaseException.__getattribute__" ⟨[.ref a, nameV], []⟩) Q E s := by
  obtain ⟨hh, g, dr, t, os⟩ := s
  have L0 : Looks M hh (typeOf (.ref a)) (.ref C) := hc ▸ (Looks.ld hx).andThen .now
  have L1 := looks_mroIn (M := M) Y c.g5
  have hk : builtinKind "BaseException.__getattribute__" = some .slot := by decide +kernel
  have hsplit : splitId "BaseException.__getattribute__" = some ("BaseException", "__getattribute__") := by decide +kernel
  have ha := PySem.F.args_bexc_ga (.ref a) nameV
  simp only [checkBuiltinCall, hk, hsplit]
  refine wpAny_bind ?_
  unfold isInstance
  refine wpAny_bind (L0.at ?_)
  refine L1.at ?_
  rw [if_neg (by decide)]
  exact wpAny_of_eq ha h
theorem exc_attr {Q : Option Value → Shared → Prop} (Y : K.In s.heap) (c : ExI K C) (hx : s.heap.get? a = some o) (hc : o.cls = .ref C) (h : Q (some (.ref C)) { s with toks := s.toks + 1 }) :
    wpAny (model prog w) A (getAttr? (.ref a) "__class__") Q E s := by
  obtain ⟨hh, g, dr, t, os⟩ := s
  have L0 : Looks (model prog w) hh (typeOf (.ref a)) (.ref C) := hc ▸ (Looks.ld hx).andThen .now
  have L1 := looks_findIn (M := model prog w) Y c.g1
  have L2 := looks_findIn (M := model prog w) Y c.g2
  have f3 := PySem.F.excAttr_ValueError.ga.bind (.ref a)
  unfold getAttr? getAttrBy? getAttrBy
  refine wpAny_bind (wpAny_mkText (wpAny_bind (wpAny_attempt (wpAny_holding (wpAny_bind (L0.at (wpAny_bind (L1.at ?_))))))))
  dsimp only
  rw [if_neg (show ¬ ((onTheHeap (Value.ref C) && Value.builtin "BaseException.__getattribute__" == Value.builtin "object.__getattribute__") = true) by
    rw [show (Value.builtin "BaseException.__getattribute__" == Value.builtin "object.__getattribute__") = false by decide +kernel, Bool.and_false]; decide)]
  unfold getAttrByItsOwn hookBefore
  rw [if_pos (show onTheHeap (Value.ref C) = true from rfl)]
  refine wpAny_bind (L2.at ?_)
  unfold callGetattribute
  rw [if_neg (by decide)]
  unfold boundAndCalled
  refine wpAny_bind (wpAny_attempt (wpAny_holding (wpAny_bind (wpAny_of_eq f3 ?_))))
  refine wpAny_call (codeAny_call_builtin PySem.F.excAttr_ValueError.ga.plain PySem.F.entry_bexc_ga (exc_check Y c hx hc (exc_entry Y c hx hc ?_)))
  exact wpAny_pure (wpAny_pure h)

theorem kitx_exc (c : ExI K C) : KitX K (.ref a) (.ref C) (fun h => ∃ ob vs, h.get? a = some ob ∧ ob.cls = .ref C ∧ ob.data = .fields vs) where
  ty := fun M h Y ⟨ob, vs, hx, hc, _⟩ => hc ▸ (Looks.ld hx).andThen .now
  it := fun M h Y _ => by
    obtain ⟨cd, hcd⟩ := Option.isSome_iff_exists.mp c.cl
    unfold clsIn at hcd
    split at hcd
    · next ho =>
      intro A' Q' E' s' k q
      unfold isType loadHead
      exact wpAny_bind (wpAny_loadPart (k _ _ (Y _ _ ho)) (wpAny_pure q))
    · cases hcd
  ne := fun h tp dd its n sl Y htp => by
    obtain ⟨cd, hcd⟩ := Option.isSome_iff_exists.mp c.cl
    refine Bool.eq_false_iff.mpr fun q => ?_
    have e : C = tp := Value.ref.inj (beq_iff_eq.mp q)
    subst e
    unfold clsIn at hcd
    split at hcd
    · next ho =>
      have z := (Y _ _ ho).symm.trans htp
      cases z
    · cases hcd
  ca := fun Y ⟨ob, vs, hx, hc, _⟩ k => exc_attr Y c hx hc k
end
theorem call_isi_exc {X : Cx} : CallR X (.builtin "isinstance") (fun xs H Q => ∃ (a C D : Addr) (b : Bool), xs = [.ref a, .ref D] ∧ H a = some (exO a (.ref C)) ∧ ExI X.K C ∧ PySem.W.kitOne X.K (.ref C) (.ref D) = some b ∧ Q (.bl b) H) := by
  intro pins s σ H xs us Q I r h
  obtain ⟨a, C, D, b, rfl, ha, c, e, q⟩ := h
  obtain ⟨u, w', rfl, rx, ry⟩ := vals2 r
  cases (show u = Value.ref a from rx)
  cases (show w' = Value.ref D from ry)
  obtain ⟨p, _⟩ := I.hok a _ ha
  exact kia_one (kitx_exc c) I.kIn p e (fun z => nomatch z) fun tk => ⟨.bl b, H, I.tok _, rfl, q⟩
theorem call_isi_excT {X : Cx} : CallR X (.builtin "isinstance") (fun xs H Q => ∃ (a C : Addr) (T : String) (b : Bool), xs = [.ref a, .ty T] ∧ H a = some (exO a (.ref C)) ∧ ExI X.K C ∧ PySem.W.kitOne X.K (.ref C) (.type T) = some b ∧ Q (.bl b) H) := by
  intro pins s σ H xs us Q I r h
  obtain ⟨a, C, T, b, rfl, ha, c, e, q⟩ := h
  obtain ⟨u, w', rfl, rx, ry⟩ := vals2 r
  cases (show u = Value.ref a from rx)
  cases (show w' = Value.type T from ry)
  obtain ⟨p, _⟩ := I.hok a _ ha
  exact kia_one (kitx_exc c) I.kIn p e (fun z => nomatch z) fun tk => ⟨.bl b, H, I.tok _, rfl, q⟩
end L2

set_option Elab.async false
set_option linter.all false
set_option maxRecDepth 100000
set_option maxHeartbeats 4000000
namespace L2
open PySem PySem.Spec PyProof.Rows

theorem thnF {α : Type} {t : Sem α} {Q Q' : α → Shared → Prop} {M : Model} {A : Around} {E : Value → Shared → Prop} {s : Shared} (h : wpAny M A t Q (fun _ _ => False) s) (hQ : ∀ a s, Q a s → Q' a s) : wpAny M A t Q' E s := wpAny_mono h hQ fun _ _ z => z.elim

abbrev testsOf (ifs : List Expr) (env : Env) : Sem Bool := forIn ifs true fun c r => if r = true then do let ok ← isTrue c env (eval c env); pure (ForInStep.yield ok) else pure (ForInStep.yield r)

theorem comp_turns {prog : Program} {w : World} {A : Around} {R : Result → Shared → Prop} {s : Shared} {elt tg iter : Expr} {ifs : List Expr} {scope : Scope} {pos : Pos} {it acc : Value} {env : Env} (J : Nat → Shared → Prop)
    (turn : ∀ k s1, J k s1 → wpAny (model prog w) A (pyNext it) (fun r s2 => match r with
      | none => R (.ok .next) s2
      | some v => wpAny (model prog w) A (letOwnedTupleGo tg it v) (fun _ s3 => wpAny (model prog w) A (assign tg env v) (fun _ s4 => wpAny (model prog w) A (testsOf ifs env) (fun ok s5 =>
          if ok = true then wpAny (model prog w) A (eval elt env) (fun x s6 => wpAny (model prog w) A (call (.builtin "list.append") [acc, x]) (fun _ s7 => ∃ m, m < k ∧ J m s7) (fun _ _ => False) s6) (fun _ _ => False) s5
          else ∃ m, m < k ∧ J m s5) (fun _ _ => False) s4) (fun _ _ => False) s3) (fun _ _ => False) s2) (fun _ _ => False) s1)
    (k : Nat) (h : J k s) : codeAny (model prog w) A (.compLoop (.ListComp elt [⟨tg, iter, ifs, 0⟩] scope pos) 0 it acc env) R s := by
  refine codeAny_loop rfl J (fun k s1 hJ => ?_) k h
  refine wpAny_noted ?_
  rw [compTurn_list]
  refine wpAny_bind (wpAny_standAt (wpAny_bind (thnF (turn k s1 hJ) fun r s2 h2 => ?_)))
  cases r with
  | none => exact wpAny_pure h2
  | some v =>
    refine wpAny_bind (thnF h2 fun _ s3 h3 => wpAny_bind (thnF h3 fun _ s4 h4 => wpAny_bind (thnF h4 fun ok s5 h5 => ?_)))
    cases ok with
    | false => exact wpAny_pure ⟨rfl, h5⟩
    | true => exact wpAny_bind (wpAny_bind (thnF h5 fun x s6 h6 => wpAny_bind (thnF h6 fun _ s7 h7 => wpAny_pure (wpAny_pure ⟨rfl, h7⟩))))

abbrev compCx (X : Cx) (N : List Str) (scope : Scope) (cl : List (Str × Addr)) (C : Addr) (s0 : Shared) (H0 : Hp) (ex : List Addr) (pins : List (Addr × Obj)) : Cx :=
  { X with N := N, s₀ := s0, H₀ := H0, env := compEnvC scope cl C X.env, outer := X.stack, stack := X.stack, ex := ex, fn := fun _ => false, pn := X.pn ++ pins, xe := fun _ _ => False }
def FreeOk (X : Cx) (scope : Scope) (cl : List (Str × Addr)) : List Str → List (Option Nat) → Prop
  | [], [] => True
  | _ :: N, none :: fr => FreeOk X scope cl N fr
  | y :: N, some i :: fr => (X.N[i]? = some y ∧ (X.env.kindOf y = some .cell ∨ X.env.kindOf y = some .free) ∧ ((relabel scope X.env).names.lookup y = some .cell ∨ (relabel scope X.env).names.lookup y = some .free) ∧
      ∃ c, X.env.cells.lookup y = some c ∧ cl.lookup y = some c) ∧ FreeOk X scope cl N fr
  | _, _ => False
def compSt (fr : List (Option Nat)) (σ : St) : St := fr.map fun o => match o with | none => none | some i => (σ[i]?).getD none
theorem FreeOk.len {X : Cx} {scope : Scope} {cl : List (Str × Addr)} : ∀ {N : List Str} {fr : List (Option Nat)}, FreeOk X scope cl N fr → fr.length = N.length
  | [], [], _ => rfl
  | _ :: N, none :: fr, h => by rw [List.length_cons, List.length_cons, FreeOk.len (N := N) h]
  | _ :: N, some i :: fr, h => by rw [List.length_cons, List.length_cons, FreeOk.len (N := N) h.2]
  | [], _ :: _, h => h.elim
  | _ :: _, [], h => h.elim
theorem FreeOk.at {X : Cx} {scope : Scope} {cl : List (Str × Addr)} {σ : St} {v : V} {y : Str} : ∀ {N : List Str} {fr : List (Option Nat)} {j : Nat}, FreeOk X scope cl N fr → N[j]? = some y → (compSt fr σ)[j]? = some (some v) →
    ∃ i : Nat, σ[i]? = some (some v) ∧ X.N[i]? = some y ∧ (X.env.kindOf y = some .cell ∨ X.env.kindOf y = some .free) ∧ ((relabel scope X.env).names.lookup y = some .cell ∨ (relabel scope X.env).names.lookup y = some .free) ∧
      ∃ c, X.env.cells.lookup y = some c ∧ cl.lookup y = some c
  | [], [], j, _, e, _ => by simp at e
  | [], _ :: _, _, h, _, _ => h.elim
  | _ :: _, [], _, h, _, _ => h.elim
  | _ :: N, none :: fr, 0, _, _, q => by cases q
  | _ :: N, none :: fr, j + 1, h, e, q => FreeOk.at (N := N) (fr := fr) (j := j) h e q
  | x :: N, some i :: fr, 0, h, e, q => by
    have e' : x = y := Option.some.inj e
    subst e'
    have q' : some ((σ[i]?).getD none) = some (some v) := q
    refine ⟨i, ?_, h.1⟩
    cases z : σ[i]? with
    | none => rw [z] at q'; cases q'
    | some o => rw [z] at q'; exact congrArg some (Option.some.inj q')
  | _ :: N, some i :: fr, j + 1, h, e, q => FreeOk.at (N := N) (fr := fr) (j := j) h.2 e q
def ClOk (X : Cx) : List (Str × Addr) → Prop
  | [] => True
  | (y, c) :: r => X.env.cells.lookup y = some c ∧ ClOk X r
theorem ClOk.at {X : Cx} {y : Str} {c : Addr} : ∀ {cl : List (Str × Addr)}, ClOk X cl → cl.lookup y = some c → X.env.cells.lookup y = some c
  | [], _, e => by cases e
  | (z, d) :: r, h, e => by
    rw [List.lookup_cons] at e
    cases q : y == z with
    | true =>
      rw [q] at e
      have e1 : y = z := by simpa using q
      have e2 : d = c := Option.some.inj e
      subst e1 e2
      exact h.1
    | false =>
      rw [q] at e
      exact ClOk.at h.2 e
theorem lookup_all {α : Type} {p : Str × α → Bool} {y : Str} {k : α} : ∀ {l : List (Str × α)}, l.all p = true → l.lookup y = some k → p (y, k) = true
  | [], _, e => by cases e
  | (z, d) :: r, h, e => by
    rw [List.all_cons, Bool.and_eq_true] at h
    rw [List.lookup_cons] at e
    cases q : y == z with
    | true =>
      rw [q] at e
      have e1 : y = z := by simpa using q
      have e2 : d = k := Option.some.inj e
      subst e1 e2
      exact h.1
    | false =>
      rw [q] at e
      exact lookup_all h.2 e

section
variable {X : Cx} {pins : List (Addr × Obj)} {σ : St} {H : Hp} {s : Shared} {N : List Str} {fr : List (Option Nat)} {scope : Scope} {cl : List (Str × Addr)}
theorem Inv.block {ex : List Addr} {h' : Heap} {C : Addr} {m : Str → Option Value} {tk : Nat} (I : Inv X pins σ H s) (hkind : scope.kind = .function) (hfr : FreeOk X scope cl N fr) (hcl : ClOk X cl)
    (hhas : ((relabel scope X.env).names.all fun p => !(p.2 == .cell || p.2 == .free) || (cl.lookup p.1).isSome) = true) (hex : ∀ b ∈ ex, FpOk X pins H b) (hlt : ∀ b ∈ ex, b < s.heap.objs.size)
    (old : ∀ b o, s.heap.get? b = some o → h'.get? b = some o) (hC : s.heap.objs.size ≤ C) (hns : h'.Ns C m) : Inv (compCx X N scope cl C s H ex pins) [] (compSt fr σ) H { s with heap := h', toks := tk } := by
  have nst : ∀ b, b ≠ X.env.locals → b ∉ X.fs → b ∉ frs X.stack := fun b h1 h2 z => (List.mem_cons.mp (I.stkSub b z)).elim h1 h2
  have ltC : ∀ b o, s.heap.get? b = some o → b ≠ C := fun b o e => Nat.ne_of_lt (Nat.lt_of_lt_of_le (Heap.lt_size e) hC)
  refine ⟨⟨I.ok.mod, hkind, I.ok.glob, I.ok.blt, hC, fun x y c e1 e2 => I.ok.inj x y c (hcl.at e1) (hcl.at e2), fun x hx => ?_, (fun _ _ z => nomatch z), I.ok.hd, I.ok.frames, .inl rfl, fun b hb => ⟨Nat.ne_of_lt (Nat.lt_of_lt_of_le (hlt b hb) hC), fun x c e => (hex b hb).2.2.2.2.1 x c (hcl.at e)⟩,
      I.bs, Nat.le_trans I.ok.bsz I.sz, fun b o e hb => ?_, fun b hb => nst b (hex b hb).2.1 (hex b hb).2.2.1, I.stack, I.stkFree⟩, rfl, I.bare, Un.kept old, ⟨m, hns, fun i x v e1 e2 e3 => ?_⟩, fun x c e => ?_, ?_, fun x c e => I.freeC x c (hcl.at e), fun p hp => ?_, I.hok.kept old, ?_⟩
  · have q : ∃ k, (relabel scope X.env).names.lookup x = some k ∧ (k = .cell ∨ k = .free) := hx.elim (fun z => ⟨_, z, .inl rfl⟩) fun z => ⟨_, z, .inr rfl⟩
    obtain ⟨k, q1, q2⟩ := q
    have z := lookup_all hhas q1
    have z2 : (cl.lookup x).isSome = true := by
      rcases q2 with rfl | rfl
      · simpa using z
      · simpa using z
    exact Option.isSome_iff_exists.mp z2
  · rcases (hex b hb).2.2.2.1 with z | z
    · exact I.ok.noex b o e z
    · exact absurd (Nat.lt_of_lt_of_le (Nat.lt_of_lt_of_le (Heap.lt_size e) I.ok.bsz) z) (Nat.lt_irrefl _)
  · obtain ⟨j, q1, q2, q3, q4, c, q5, q6⟩ := hfr.at e1 e2
    obtain ⟨m0, hn0, hl0⟩ := I.loc
    obtain ⟨u, r, l⟩ := hl0 j x v q2 q1 (q3.elim (fun z => .inr (.inl z)) fun z => .inr (.inr z))
    refine ⟨u, r, .inr ⟨q4, c, q6, ?_⟩⟩
    rcases l with ⟨k, _⟩ | ⟨_, c', e', o, ho, hd⟩
    · rcases q3 with z | z
      · rw [z] at k; cases k
      · rw [z] at k; cases k
    · rw [q5] at e'; cases e'
      exact ⟨o, old _ _ ho, hd⟩
  · obtain ⟨v, o, ho, hd⟩ := I.cell x c (hcl.at e)
    exact ⟨v, o, old _ _ ho, hd⟩
  · exact I.hok.fresh hC
  · have hp' : p ∈ X.pn ++ pins := by simpa using hp
    obtain ⟨e, n, ne, nf, d⟩ := I.pin p hp'
    exact ⟨old _ _ e, n, ltC _ _ e, nst _ ne nf, d⟩
  · show (compSt fr σ).length = N.length
    unfold compSt
    rw [List.length_map, hfr.len]

theorem Inv.trackS {a : Addr} {ob : Obj} {vs : Array Value} {n : Nat} {o : HO} (I : Inv X pins σ H s) (ha : H a = none) (hob : s.heap.get? a = some ob) (hd : ob.data = .seq vs n)
    (h0 : X.s₀.heap.get? a = none) (hp : ∀ p ∈ X.pn ++ pins, p.1 ≠ a) (new : ObjOk X.prog X.w (upd H a o) s.heap a o) : Inv X pins σ (upd H a o) s := by
  have nt : ∀ b u, H b = some u → b ≠ a := fun b u q => ne_of_none q ha
  refine ⟨I.ok, I.os, I.bare, ⟨I.base.keep, I.base.slot, fun b u e n hx => ?_, I.base.there, fun b xs q => ?_, fun b u xs q => ?_, fun b ps q => ?_⟩, I.loc, I.cell, ?_, fun y c e => ?_, fun p q => ?_, fun b u q => ?_, I.len⟩
  · have ne : b ≠ a := fun z => by rw [z, h0] at e; cases e
    rw [upd_ne ne]; exact I.base.free b u e n hx
  · have z := I.base.tups b xs q
    rw [upd_ne (nt _ _ z)]; exact z
  · have z := I.base.frzs b u xs q
    rw [upd_ne (nt _ _ z)]; exact z
  · obtain ⟨m, z⟩ := I.base.tbls b ps q
    exact ⟨m, by rw [upd_ne (nt _ _ z)]; exact z⟩
  · have ne : X.env.locals ≠ a := fun z => by
      obtain ⟨m, ⟨oL, es, ep, e1, e2, _⟩, _⟩ := I.loc
      rw [z, hob] at e1; cases e1
      rw [hd] at e2; cases e2
    rw [upd_ne ne]; exact I.free
  · have ne : c ≠ a := fun z => by
      obtain ⟨v, oc, e1, e2⟩ := I.cell y c e
      rw [z, hob] at e1; cases e1
      rw [hd] at e2; cases e2
    rw [upd_ne ne]; exact I.freeC y c e
  · obtain ⟨e, n, r⟩ := I.pin p q
    exact ⟨e, by rw [upd_ne (hp p q)]; exact n, r⟩
  · by_cases hb : b = a
    · subst hb; rw [upd_same] at q; cases q; exact new
    · rw [upd_ne hb] at q
      exact (I.hok b u q).stay (fun c v _ z => z) (fun c z => by rw [upd_ne (nt _ _ z)]; exact z) fun c xs z => by rw [upd_ne (nt _ _ z)]; exact z
end

def PTs (X : Cx) (ifs : List Expr) (t : TT) : Prop :=
  ∀ (pins : List (Addr × Obj)) (s : Shared) (σ : St) (H : Hp) (Q : Bool → Hp → Prop), Inv X pins σ H s → t σ H Q → wpAny (model X.prog X.w) X.A (testsOf ifs X.env) (TP X pins σ Q) X.xe s
def tTrue : TT := fun _ H Q => Q true H
theorem pts_nil {X : Cx} : PTs X [] tTrue := fun _ _ _ H _ I h => wpAny_tests_nil ⟨H, I, h⟩
theorem pts_one {X : Cx} {c : Expr} {t : TT} (h : PT X c t) : PTs X [c] t := fun pins s σ H Q I q => wpAny_tests_one (h pins s σ H Q I q)

def endC (Q : VK) (acc : List V) (H : Hp) : Prop := ∀ p, H p = none → Q (.ref p) (upd H p (.lst acc))
def tComp (fr : List (Option Nat)) (wi : TI) (g : TG) (tt : TT) (te : TE) : TE := fun σ H Q => wi σ H fun J H1 => ∃ W : Nat → Nat → List V → St → Hp → Prop, (∃ m, W 0 m [] (compSt fr σ) H1) ∧ ∀ i m acc σ1 H, W i m acc σ1 H →
  (J.stop i H ∧ endC Q acc H) ∨
  (J.go i H ∧ acc.length < sizeLine ∧ ∃ N : List V → St → Hp → Prop, (∀ acc' σ' H', N acc' σ' H' → ∃ m', m' < m ∧ W (i + 1) m' acc' σ' H') ∧ ∀ x H', J.yld i H x H' → g x σ1 H' fun σ2 H2 => tt σ2 H2 fun b H3 => if b = true then te σ2 H3 fun y H4 => N (acc ++ [y]) σ2 H4 else N acc σ2 H3)
theorem pe_comp {X : Cx} {elt tg iter : Expr} {ifs : List Expr} {scope : Scope} {cl : List (Str × Addr)} {pos : Pos} {N : List Str} {fr : List (Option Nat)} {wi : TI} {g : TG} {tt : TT} {te : TE}
    (hc : X.calm = true) (hi : PI X tg iter wi) (hclos : closureFor scope X.env = pure cl) (hcell : ∀ y ∈ scope.names, y.2 ≠ .cell) (hkind : scope.kind = .function)
    (hnames : ∀ y ∈ scope.names, y.2 = .local → scope.names.lookup y.1 = some .local) (hfr : FreeOk X scope cl N fr) (hcl : ClOk X cl)
    (hhas : ((relabel scope X.env).names.all fun p => !(p.2 == .cell || p.2 == .free) || (cl.lookup p.1).isSome) = true)
    (hg : ∀ C s0 H0 ex pins, PG (compCx X N scope cl C s0 H0 ex pins) tg g) (ht : ∀ C s0 H0 ex pins, PTs (compCx X N scope cl C s0 H0 ex pins) ifs tt) (he : ∀ C s0 H0 ex pins, PE (compCx X N scope cl C s0 H0 ex pins) elt te)
    (hs : ∀ v, foldedSetIterable iter X.env v = pure v := by intro _; rfl) : PE X (.ListComp elt [⟨tg, iter, ifs, 0⟩] scope pos) (tComp fr wi g tt te) := by
  intro pins s σ H Q I h
  rw [eval_ListComp]
  refine wpAny_comprehension_free (use := none) rfl hs hclos hkind hnames (thn (hi pins s σ H _ I h) fun xv s1 h1 => thn h1 fun itv s2 h2 => ?_)
  obtain ⟨it, fp, tn, J, H2, e, I2, T, st2, f2, W, ⟨m0, w0⟩, turn⟩ := h2
  subst e
  refine wpAny_newObj_type (wpAny_newFunctionEnv hcell (fun y hy => nomatch hy) (fun h4 hns hsb => ?_) hkind)
  dsimp only at hns hsb ⊢
  generalize hD : s2.heap.objs.size = D at *
  generalize hG : s2.heap.push { cls := .type "list", dict := none, data := .seq ([] : List Value).toArray } = G at hns hsb ⊢
  have hC : G.objs.size = D + 1 := by rw [← hG, Heap.size_push, hD]
  generalize hCC : G.objs.size = C at hns hsb hC ⊢
  subst hC
  have old : ∀ b o, s2.heap.get? b = some o → h4.get? b = some o := fun b o e => by
    have lt := Heap.lt_size e
    rw [hD] at lt
    exact hsb.extBut b o (Nat.ne_of_lt (Nat.lt_succ_of_lt lt)) (Heap.get?_push_of_some _ (hG ▸ Heap.get?_push_of_some _ e))
  have hDl : h4.get? D = some { cls := .type "list", dict := none, data := .seq ([] : List Value).toArray 0 } :=
    hsb.extBut _ _ (Nat.ne_of_lt (Nat.lt_succ_self _)) (Heap.get?_push_of_some _ (hG ▸ hD ▸ Heap.get?_push_size _ rfl))
  have flt : ∀ b ∈ fp, b < D := fun b hb => by
    obtain ⟨o, e, _⟩ := T.obj 0 _ st2 b hb
    have lt := Heap.lt_size e
    rw [hD] at lt
    exact lt
  have nst : ∀ b, b ≠ X.env.locals → b ∉ X.fs → b ∉ frs X.stack := fun b h1 h2 z => (List.mem_cons.mp (I2.stkSub b z)).elim h1 h2
  have pl : ∀ p ∈ X.pn ++ pins, p.1 < D := fun p hp => by
    have lt := Heap.lt_size (I2.pin p hp).1
    rw [hD] at lt
    exact lt
  have I4 : ∀ tk, Inv (compCx X N scope cl (D + 1) s2 H2 fp pins) [] (compSt fr σ) H2 { s2 with heap := h4, toks := tk } := fun tk =>
    I2.block hkind hfr hcl hhas f2 (fun b hb => by rw [hD]; exact flt b hb) old (by rw [hD]; exact Nat.le_succ _) hns
  have stat : ∀ {H' : Hp} {o : Obj}, (∀ b ∈ fp, H' b = none) → ∀ b ∈ fp, FpOk (compCx X N scope cl (D + 1) s2 H2 fp pins) [(D, o)] H' b := fun {H' o} hn b hb => by
    obtain ⟨_, k1, k2, _, k4, k5⟩ := f2 b hb
    refine ⟨hn b hb, Nat.ne_of_lt (Nat.lt_succ_of_lt (flt b hb)), nst b k1 k2, .inl hb, fun x c e => k4 x c (hcl.at e), fun p hp => ?_⟩
    rcases List.mem_append.mp hp with hp | hp
    · exact k5 p hp
    · rw [List.mem_singleton.mp hp]
      exact (Nat.ne_of_lt (flt b hb)).symm
  have dnf : D ∉ frs X.stack := fun z => by
    obtain ⟨_, o, e, _⟩ := I2.stack.mem z
    have lt := Heap.lt_size e
    rw [hD] at lt
    exact absurd lt (Nat.lt_irrefl _)
  have loop : ∀ tk, codeAny (model X.prog X.w) X.A (.compLoop (.ListComp elt [⟨tg, iter, ifs, 0⟩] scope pos) 0 (.ref it) (.ref D) (compEnvC scope cl (D + 1) X.env)) (compPost (model X.prog X.w) X.A X.xe none (EP X pins σ Q) (.ref D) (D + 1)) { s2 with heap := h4, toks := tk } := fun tk => by
    refine comp_turns (fun k s' => ∃ i σ' H' its nD acc, Inv (compCx X N scope cl (D + 1) s2 H2 fp pins) [] σ' H' s' ∧
        s'.heap.get? D = some { cls := .type "list", dict := none, data := .seq (List.toArray its) nD } ∧ H' D = none ∧ Vals acc its ∧ acc.length ≤ sizeLine ∧ tn i s'.heap ∧ (∀ b ∈ fp, H' b = none) ∧ W i k acc σ' H') ?_ m0
      ⟨0, _, H2, [], 0, [], I4 tk, hDl, I2.hok.fresh (by rw [hD]; exact Nat.le_refl _), .nil, Nat.zero_le _, T.keep 0 _ _ st2 fun b _ o e => old b o e, fun b hb => (f2 b hb).1, w0⟩
    rintro k s5 ⟨i, σ5, H5, its, nD, acc, I5, hL, hn5, va, hacc, st5, fr5, w5⟩
    have dcell : ∀ x c, cl.lookup x = some c → c ≠ D := fun x c e z => by
      obtain ⟨v, q⟩ := I2.cell x c (hcl.at e)
      have lt := q.lt
      rw [hD, z] at lt
      exact absurd lt (Nat.lt_irrefl _)
    have I5' : Inv (compCx X N scope cl (D + 1) s2 H2 fp pins) [(D, { cls := .type "list", dict := none, data := .seq (List.toArray its) nD })] σ5 H5 s5 := I5.pins_of fun p hp => by
      rw [List.mem_singleton.mp hp]
      exact ⟨hL, hn5, Nat.ne_of_lt (Nat.lt_succ_self _), dnf, fun v z => by cases z⟩
    rcases turn i k acc σ5 H5 w5 with ⟨stop, qn⟩ | ⟨go, hlt, N1, hN1, step⟩
    · refine thnF (T.done (compCx X N scope cl (D + 1) s2 H2 fp pins) rfl rfl rfl hc i _ s5 _ H5 _ I5' (stat fr5) st5 stop) fun r s6 ⟨hr, I6⟩ => ?_
      subst hr
      obtain ⟨m6, hn6, _⟩ := I6.loc
      refine ⟨m6, hn6, fun h7 hs7 => ?_⟩
      have hL7 : h7.get? D = some { cls := .type "list", dict := none, data := .seq (List.toArray its) nD } := hs7.extBut _ _ (Nat.ne_of_lt (Nat.lt_succ_self _)) (I6.pin (D, _) (List.mem_append_right _ (List.mem_singleton.mpr rfl))).1
      have neC : ∀ b o, s2.heap.get? b = some o → b ≠ D + 1 := fun b o e => by
        have lt := Heap.lt_size e
        rw [hD] at lt
        exact Nat.ne_of_lt (Nat.lt_succ_of_lt lt)
      have nt : ∀ b u, H5 b = some u → b ≠ D + 1 := fun b u q z => by
        have f := I6.free
        rw [z] at q
        rw [show H5 (D + 1) = none from f] at q
        cases q
      have un : Un (frs X.stack) fp H2 H5 s2.heap h7 := ⟨fun b o e n hb hx => hs7.extBut b o (neC b o e) (I6.base.keep b o e n hb hx),
        fun b o e n hb hx => let ⟨sl, q⟩ := I6.base.slot b o e n hb hx; ⟨sl, hs7.extBut b _ (neC b o e) q⟩, I6.base.free, fun b o e hx => let ⟨o', q⟩ := I6.base.there b o e hx; ⟨o', hs7.extBut b _ (neC b o e) q⟩, I6.base.tups, I6.base.frzs, I6.base.tbls⟩
      have hok : HOk X.prog X.w H5 h7 := fun b u q => (I6.hok b u q).stay (fun c v hc e => hs7.extBut c v (by
        rcases hc with rfl | hc
        · exact nt _ _ q
        · exact nt _ _ hc) e) (fun _ z => z) fun _ _ z => z
      have I8 : Inv X pins σ H5 { s6 with heap := h7 } := I2.call' (s' := { s6 with heap := h7 }) I6.os un hok I6.bare fun b hb => let ⟨_, k1, _, k3, k4, k5⟩ := f2 b hb; ⟨k3, k1, k4, k5⟩
      have I9 : Inv X pins σ (upd H5 D (.lst acc)) { s6 with heap := h7 } := I8.trackS hn5 hL7 rfl (by
          cases z : X.s₀.heap.get? D with
          | none => rfl
          | some o =>
            have lt := Nat.lt_of_lt_of_le (Heap.lt_size z) I2.sz
            rw [hD] at lt
            exact absurd lt (Nat.lt_irrefl _)) (fun p hp => Nat.ne_of_lt (pl p hp)) ⟨hacc, its, nD, va, hL7⟩
      exact ⟨.ref D, _, I9, rfl, qn D hn5⟩
    · refine thnF (T.item (compCx X N scope cl (D + 1) s2 H2 fp pins) rfl rfl rfl hc i _ s5 _ H5 _ I5' (stat fr5) st5 go) fun r s6 ⟨u, hr, h6⟩ => ?_
      subst hr
      refine thnF h6 fun _ s7 ⟨x, H7, I7, r7, y7, st7, fr7⟩ => ?_
      have I7' : Inv (compCx X N scope cl (D + 1) s2 H2 fp pins) ([(D, { cls := .type "list", dict := none, data := .seq (List.toArray its) nD })] ++ pinsAt fp s7.heap) σ5 H7 s7 := I7.pinned (stat fr7) (T.obj _ _ st7)
      refine thnF (hg _ _ _ _ _ _ s7 _ H7 x u _ I7' r7 (step x H7 y7)) fun _ s8 ⟨σ8, H8, I8, q8⟩ => ?_
      refine thnF (ht _ _ _ _ _ _ s8 σ8 H8 _ I8 q8) fun ok s9 ⟨H9, I9, q9⟩ => ?_
      have wk : ∀ {σ' : St} {H' : Hp} {s' : Shared}, Inv (compCx X N scope cl (D + 1) s2 H2 fp pins) ([(D, { cls := .type "list", dict := none, data := .seq (List.toArray its) nD })] ++ pinsAt fp s7.heap) σ' H' s' →
          tn (i + 1) s'.heap ∧ (∀ b ∈ fp, H' b = none) ∧ s'.heap.get? D = some { cls := .type "list", dict := none, data := .seq (List.toArray its) nD } ∧ H' D = none := fun {σ' H' s'} J' => by
        have pin : ∀ p ∈ ([(D, { cls := .type "list", dict := none, data := .seq (List.toArray its) nD })] : List (Addr × Obj)) ++ pinsAt fp s7.heap, s'.heap.get? p.1 = some p.2 ∧ H' p.1 = none := fun p hp => let ⟨e, n, _⟩ := J'.pin p (List.mem_append_right _ hp); ⟨e, n⟩
        refine ⟨T.keep _ _ _ st7 fun b hb o e => (pin (b, o) (List.mem_append_right _ (mem_pinsAt hb e))).1, fun b hb => ?_, (pin (D, _) (List.mem_append_left _ (List.mem_singleton.mpr rfl))).1, (pin (D, _) (List.mem_append_left _ (List.mem_singleton.mpr rfl))).2⟩
        obtain ⟨o, e, _⟩ := T.obj _ _ st7 b hb
        exact (pin (b, o) (List.mem_append_right _ (mem_pinsAt hb e))).2
      cases ok with
      | false =>
        obtain ⟨m', hm, w9⟩ := hN1 _ _ _ q9
        obtain ⟨k1, k2, k3, k4⟩ := wk I9
        exact ⟨m', hm, i + 1, σ8, H9, its, nD, acc, I9.pins_of (fun _ z => nomatch z), k3, k4, va, hacc, k1, k2, w9⟩
      | true =>
        refine thnF (he _ _ _ _ _ _ s9 σ8 H9 _ I9 q9) fun y s10 ⟨v, H10, I10, r10, q10⟩ => ?_
        obtain ⟨m', hm, w10⟩ := hN1 _ _ _ q10
        obtain ⟨k1, k2, k3, k4⟩ := wk I10
        refine call_meets F.slot_list_append ⟨_, k3, rfl⟩ F.entry_list_append (F.args_list_append_2 _ _) (PySem.list_append D its.toArray nD y (by rw [List.size_toArray, ← va.length]; omega)) ⟨k3, ?_⟩
        have up : ∀ b o, b ≠ D → s10.heap.get? b = some o → (s10.heap.update D (Obj.mapSeq fun z => z.push y)).get? b = some o := fun b o hb e => (Heap.get?_update_other s10.heap _ (Ne.symm hb)).trans e
        have I11 : Inv (compCx X N scope cl (D + 1) s2 H2 fp pins) [] σ8 H10 { s10 with heap := s10.heap.update D (Obj.mapSeq fun z => z.push y), toks := s10.toks } :=
          (I10.pins_of (pins' := []) fun _ z => nomatch z).turned up k4 (Nat.ne_of_lt (Nat.lt_succ_self _)) (.inr (by rw [hD]; exact Nat.le_refl _)) dcell fun p hp => by
            have hp' : p ∈ X.pn ++ pins := by simpa using hp
            exact Nat.ne_of_lt (pl p hp')
        have q := PySem.IsL.update k3 (fun z => z.push y)
        rw [show (List.toArray its).push y = (its ++ [y]).toArray by simp] at q
        refine ⟨m', hm, i + 1, σ8, H10, its ++ [y], _, acc ++ [v], I11, q, k4, va.append (.cons r10 .nil), ?_, T.keep _ _ _ k1 fun b hb o e => up b o (Nat.ne_of_lt (flt b hb)) e, k2, w10⟩
        rw [List.length_append, List.length_singleton]
        omega
  exact codeAny_compStart_list (loop _) (T.self _ 0 _ _ _ (T.keep 0 _ _ st2 fun b _ o e => old b o e) (loop _))
theorem comp_list {K : PySem.W.Frag} {a : Addr} {xs : List V} {g : TG} {tt : TT} {te : TE} {σ0 : St} {H : Hp} {Q : VK} (Pv : Nat → List V → St → Hp → Prop) (h0 : Pv 0 [] σ0 H) (hz : xs.length ≤ sizeLine) (hl : ∀ i acc σ H, i ≤ xs.length → Pv i acc σ H → SqL K H a xs)
    (hs : ∀ i x acc σ H, acc.length ≤ i → xs[i]? = some x → Pv i acc σ H → g x σ H fun σ2 H2 => tt σ2 H2 fun b H3 => if b = true then te σ2 H3 fun y H4 => (acc ++ [y]).length ≤ i + 1 ∧ Pv (i + 1) (acc ++ [y]) σ2 H4 else acc.length ≤ i + 1 ∧ Pv (i + 1) acc σ2 H3)
    (hd : ∀ acc σ H, acc.length ≤ xs.length → Pv xs.length acc σ H → endC Q acc H) :
    ∃ W : Nat → Nat → List V → St → Hp → Prop, (∃ m, W 0 m [] σ0 H) ∧ ∀ i m acc σ1 H, W i m acc σ1 H →
      ((Itl K a).stop i H ∧ endC Q acc H) ∨
      ((Itl K a).go i H ∧ acc.length < sizeLine ∧ ∃ N : List V → St → Hp → Prop, (∀ acc' σ' H', N acc' σ' H' → ∃ m', m' < m ∧ W (i + 1) m' acc' σ' H') ∧ ∀ x H', (Itl K a).yld i H x H' → g x σ1 H' fun σ2 H2 => tt σ2 H2 fun b H3 => if b = true then te σ2 H3 fun y H4 => N (acc ++ [y]) σ2 H4 else N acc σ2 H3) := by
  refine ⟨fun i m acc σ H => m = xs.length - i ∧ i ≤ xs.length ∧ acc.length ≤ i ∧ Pv i acc σ H, ⟨xs.length, by simp, Nat.zero_le _, Nat.zero_le _, h0⟩, ?_⟩
  rintro i m acc σ1 H ⟨rfl, hi, ha, p⟩
  have q := hl i acc σ1 H hi p
  by_cases hlt : i < xs.length
  · refine .inr ⟨⟨xs, xs[i], q, by simp [hlt]⟩, by omega, fun acc' σ' H' => acc'.length ≤ i + 1 ∧ Pv (i + 1) acc' σ' H', fun acc' σ' H' z => ⟨xs.length - (i + 1), by omega, rfl, hlt, z.1, z.2⟩, fun x H' y => ?_⟩
    obtain ⟨e, y⟩ := y
    subst e
    exact hs i x acc σ1 _ ha (y xs q) p
  · have e : i = xs.length := by omega
    subst e
    exact .inl ⟨⟨xs, q, Nat.le_refl _⟩, hd acc σ1 H ha p⟩
theorem comp_range {lo : Int} {n : Nat} {g : TG} {tt : TT} {te : TE} {σ0 : St} {H : Hp} {Q : VK} (Pv : Nat → List V → St → Hp → Prop) (h0 : Pv 0 [] σ0 H) (hz : n ≤ sizeLine)
    (hs : ∀ i acc σ H, i < n → acc.length ≤ i → Pv i acc σ H → g (.int (lo + i)) σ H fun σ2 H2 => tt σ2 H2 fun b H3 => if b = true then te σ2 H3 fun y H4 => (acc ++ [y]).length ≤ i + 1 ∧ Pv (i + 1) (acc ++ [y]) σ2 H4 else acc.length ≤ i + 1 ∧ Pv (i + 1) acc σ2 H3)
    (hd : ∀ acc σ H, acc.length ≤ n → Pv n acc σ H → endC Q acc H) :
    ∃ W : Nat → Nat → List V → St → Hp → Prop, (∃ m, W 0 m [] σ0 H) ∧ ∀ i m acc σ1 H, W i m acc σ1 H →
      ((Itr lo n).stop i H ∧ endC Q acc H) ∨
      ((Itr lo n).go i H ∧ acc.length < sizeLine ∧ ∃ N : List V → St → Hp → Prop, (∀ acc' σ' H', N acc' σ' H' → ∃ m', m' < m ∧ W (i + 1) m' acc' σ' H') ∧ ∀ x H', (Itr lo n).yld i H x H' → g x σ1 H' fun σ2 H2 => tt σ2 H2 fun b H3 => if b = true then te σ2 H3 fun y H4 => N (acc ++ [y]) σ2 H4 else N acc σ2 H3) := by
  refine ⟨fun i m acc σ H => m = n - i ∧ i ≤ n ∧ acc.length ≤ i ∧ Pv i acc σ H, ⟨n, by simp, Nat.zero_le _, Nat.zero_le _, h0⟩, ?_⟩
  rintro i m acc σ1 H ⟨rfl, hi, ha, p⟩
  by_cases hlt : i < n
  · refine .inr ⟨hlt, by omega, fun acc' σ' H' => acc'.length ≤ i + 1 ∧ Pv (i + 1) acc' σ' H', fun acc' σ' H' z => ⟨n - (i + 1), by omega, rfl, hlt, z.1, z.2⟩, fun x H' y => ?_⟩
    obtain ⟨e, y⟩ := y
    subst e y
    exact hs i acc σ1 _ hlt ha p
  · have e : i = n := by omega
    subst e
    exact .inl ⟨Nat.le_refl _, hd acc σ1 H ha p⟩
end L2

set_option Elab.async false
set_option linter.all false
set_option maxRecDepth 100000
set_option maxHeartbeats 4000000
namespace L2
open PySem PySem.Spec PyProof.Rows

mutual
inductive DV (K : PySem.W.Frag) (H : Hp) : V → PyData → Prop
  | non : DV K H .non .none
  | bl (b : Bool) : DV K H (.bl b) (.bool b)
  | int (i : Int) : DV K H (.int i) (.int i)
  | str (x : Str) (h : (PyData.str x).canLay0 = true) : DV K H (.str x) (.str x)
  | lst {a : Addr} {xs : List V} {ds : List PyData} (h : SqL K H a xs) (r : DVs K H xs ds) : DV K H (.ref a) (.list ds)
  | tup {a : Addr} {xs : List V} {ds : List PyData} (h : SqT K H a xs) (r : DVs K H xs ds) : DV K H (.ref a) (.tuple ds)
inductive DVs (K : PySem.W.Frag) (H : Hp) : List V → List PyData → Prop
  | nil : DVs K H [] []
  | cons {x : V} {xs : List V} {d : PyData} {ds : List PyData} (h : DV K H x d) (r : DVs K H xs ds) : DVs K H (x :: xs) (d :: ds)
end
mutual
theorem DV.can {K : PySem.W.Frag} {H : Hp} : ∀ {x : V} {d : PyData}, DV K H x d → d.canLay0 = true
  | _, _, .non => by simp only [PyData.canLay0]
  | _, _, .bl _ => by simp only [PyData.canLay0]
  | _, _, .int _ => by simp only [PyData.canLay0]
  | _, _, .str _ h => h
  | _, _, .lst _ r => by simp only [PyData.canLay0]; exact DVs.can r
  | _, _, .tup _ r => by simp only [PyData.canLay0]; exact DVs.can r
theorem DVs.can {K : PySem.W.Frag} {H : Hp} : ∀ {xs : List V} {ds : List PyData}, DVs K H xs ds → PyData.canLayAll0 ds = true
  | _, _, .nil => by simp only [PyData.canLayAll0]
  | _, _, .cons h r => by simp only [PyData.canLayAll0, Bool.and_eq_true]; exact ⟨DV.can h, DVs.can r⟩
end
theorem SqT.sameT {K : PySem.W.Frag} {H H' : Hp} {a : Addr} {xs : List V} (e : Same H H') (h : SqT K H a xs) : SqT K H' a xs := by
  rcases h with (h | ⟨o, h⟩) | h
  · exact .inl (.inl (e _ _ h))
  · exact .inl (.inr ⟨o, e _ _ h⟩)
  · exact .inr h
mutual
theorem DV.same {K : PySem.W.Frag} {H H' : Hp} (s : Same H H') : ∀ {x : V} {d : PyData}, DV K H x d → DV K H' x d
  | _, _, .non => .non
  | _, _, .bl b => .bl b
  | _, _, .int i => .int i
  | _, _, .str x h => .str x h
  | _, _, .lst h r => .lst (s.seq h) (DVs.same s r)
  | _, _, .tup h r => .tup (SqT.sameT s h) (DVs.same s r)
theorem DVs.same {K : PySem.W.Frag} {H H' : Hp} (s : Same H H') : ∀ {xs : List V} {ds : List PyData}, DVs K H xs ds → DVs K H' xs ds
  | _, _, .nil => .nil
  | _, _, .cons h r => .cons (DV.same s h) (DVs.same s r)
end
section
variable {X : Cx} {pins : List (Addr × Obj)} {σ : St} {H : Hp} {s : Shared}
mutual
theorem DV.reads (I : Inv X pins σ H s) : ∀ {x : V} {d : PyData} {u : Value}, DV X.K H x d → RelV x u → ∃ as, Reads s.heap u d as
  | _, _, _, .non, r => by cases r; exact ⟨_, .none⟩
  | _, _, _, .bl b, r => by cases r; exact ⟨_, .bool b⟩
  | _, _, _, .int i, r => by obtain ⟨t, rfl⟩ := r; exact ⟨_, .int i t⟩
  | _, _, _, .str x _, r => by obtain ⟨t, rfl⟩ := r; exact ⟨_, .str x t⟩
  | _, _, _, .lst h rs, r => by
    cases r
    obtain ⟨its, v, pl, _⟩ := I.list h
    obtain ⟨o, n, ho, hc, _, hd⟩ := pl
    obtain ⟨as, q⟩ := DVs.reads I rs v
    exact ⟨_, .list ho hc hd (by simpa using q)⟩
  | _, _, _, .tup h rs, r => by
    cases r
    obtain ⟨its, v, pl, _⟩ := I.tuple h
    obtain ⟨o, ho, hc, n, hd⟩ := pl
    obtain ⟨as, q⟩ := DVs.reads I rs v
    exact ⟨_, .tuple ho hc hd (by simpa using q)⟩
theorem DVs.reads (I : Inv X pins σ H s) : ∀ {xs : List V} {ds : List PyData} {us : List Value}, DVs X.K H xs ds → Vals xs us → ∃ as, ReadsAll s.heap us ds as
  | _, _, _, .nil, .nil => ⟨_, .nil⟩
  | _, _, _, .cons h r, .cons v vs => by
    obtain ⟨as, q1⟩ := DV.reads I h v
    obtain ⟨bs, q2⟩ := DVs.reads I r vs
    exact ⟨_, .cons q1 q2⟩
end
end
def rEqD (K : PySem.W.Frag) (neg : Bool) : R2 := fun x y H Q => ∃ dx dy, DV K H x dx ∧ DV K H y dy ∧ dx.depth ≤ 60 ∧ Q (.bl (if neg then !PyData.eqv dx dy else PyData.eqv dx dy)) H
theorem op_eqD {X : Cx} (hu : X.A.units + 64 < cLine) : OpR X (compareOp .Eq) (rEqD X.K false) := by
  intro pins s σ H x y v u Q I rx ry h
  obtain ⟨dx, dy, hx, hy, hd, q⟩ := h
  obtain ⟨as, r1⟩ := hx.reads I rx
  obtain ⟨bs, r2⟩ := hy.reads I ry
  exact SeqAt.compareEq_reads r1 r2 hx.can hy.can (by omega) ⟨.bl _, H, I, rfl, q⟩
end L2

set_option Elab.async false
set_option linter.all false
set_option maxRecDepth 100000
set_option maxHeartbeats 4000000
namespace L2
open PySem PySem.Spec PyProof.Rows

section
variable {X : Cx}
end
end L2

set_option Elab.async false
set_option linter.all false
set_option maxRecDepth 100000
set_option maxHeartbeats 4000000
namespace L2
open PySem PySem.Spec PyProof.Rows
section
variable {X : Cx} {x : Str} {pos : Pos}
theorem pe_gintE {k : Int} (hg : Gl X x) (hm : ∃ t, X.mg x = some (.int k t)) (hd : (x == ("__debug__" : Str)) = false := by decide) : PE X (.Name x pos) (tC (.int k)) := by
  obtain ⟨t, hm⟩ := hm
  exact pe_glob hg hm ⟨t, rfl⟩ hd
def tDNew : TE := fun _ H Q => ∀ p, H p = none → Q (.ref p) (upd H p (.dK []))
theorem pe_dnew {X : Cx} {pos : Pos} : PE X (.Dict [] [] pos) tDNew := by
  intro pins s σ H Q I h
  have lt : sysModules < s.heap.objs.size := Nat.lt_trans (show sysModules < mainGlobals by decide) (I.mod.glob.keeps I.bk).lt
  have new : ObjOk X.prog X.w (upd H s.heap.objs.size (.dK [])) (s.heap.push { cls := .type "dict", data := .dict #[] }) s.heap.objs.size (.dK []) :=
    ⟨Nat.zero_le _, beq_eq_false_iff_ne.mpr (Ne.symm (Nat.ne_of_lt lt)), [], .nil, Heap.DictOf.new s.heap⟩
  exact wpAny_Dict_empty ⟨.ref s.heap.objs.size, _, I.laid (t' := s.toks) (fun _ _ q => Heap.get?_push_of_some _ q) (Nat.le_refl _) new, rfl, h _ (I.hok.fresh (Nat.le_refl _))⟩
def notStar : Expr → Bool
  | .Starred _ _ => false
  | _ => true
theorem star_cons {e : Expr} {es : List Expr} {env : Env} (h : notStar e = true) : starEach (e :: es) env = (false, eval e env) :: starEach es env := by
  cases e <;> first | rfl | cases h
theorem pac {e : Expr} {es : List Expr} {te : TE} {t : TA} (ha : PE X e te) (hr : PA X es t) (h : notStar e = true := by rfl) : PA X (e :: es) (tCons te t) := pa_cons ha hr (star_cons h)
end
end L2
namespace K1
open PySem L2
def two (n : Nat) : Str := ⟨#[48 + n / 10, 48 + n % 10]⟩
theorem sl2 (a b c d e : Nat) : Txt.slice ⟨#[a, b, c, d, e]⟩ none (some 2) = ⟨#[a, b]⟩ := by rfl
def numV : V → Int → Int → Bool
  | .int i, lo, hi => decide (lo ≤ i ∧ i ≤ hi)
  | _, _, _ => false
inductive Kd (H : Hp) : V → String → Prop where
  | non : Kd H .non "NoneType"
  | bl (b : Bool) : Kd H (.bl b) "bool"
  | int (i : Int) : Kd H (.int i) "int"
  | str (x : Str) : Kd H (.str x) "str"
  | lst {a : Addr} {xs : List V} (e : H a = some (.lst xs)) : Kd H (.ref a) "list"
  | tup {a : Addr} {xs : List V} (e : H a = some (.tup xs)) : Kd H (.ref a) "tuple"
  | dK {a : Addr} {kvs : List (Key × V)} (e : H a = some (.dK kvs)) : Kd H (.ref a) "dict"
theorem Kd.ty {K : PySem.W.Frag} {H : Hp} {v : V} {T : String} (k : Kd H v T) : TyOf K H v (.type T) := by
  cases k with
  | non => exact .non
  | bl b => exact .bl b
  | int i => exact .int i
  | str x => exact .str x
  | lst e => exact .lst e
  | tup e => exact .tup e
  | dK e => exact .dK e
theorem Kd.same {H H' : Hp} {v : V} {T : String} (s : Same H H') (k : Kd H v T) : Kd H' v T := by
  cases k with
  | non => exact .non
  | bl b => exact .bl b
  | int i => exact .int i
  | str x => exact .str x
  | lst e => exact .lst (s _ _ e)
  | tup e => exact .tup (s _ _ e)
  | dK e => exact .dK (s _ _ e)
theorem kit_int {K : PySem.W.Frag} {H : Hp} {v : V} {T : String} (k : Kd H v T) : PySem.W.kitOne K (.type T) (.type "int") = some (decide (T = "int" ∨ T = "bool")) := by
  cases k <;> rfl
theorem kit_bool {K : PySem.W.Frag} {H : Hp} {v : V} {T : String} (k : Kd H v T) : PySem.W.kitOne K (.type T) (.type "bool") = some (decide (T = "bool")) := by
  cases k <;> rfl
theorem kit_str {K : PySem.W.Frag} {H : Hp} {v : V} {T : String} (k : Kd H v T) : PySem.W.kitOne K (.type T) (.type "str") = some (decide (T = "str")) := by
  cases k <;> rfl

theorem itT {c A B : Prop} [Decidable c] (h : c) (a : A) : if c then A else B := by rw [if_pos h]; exact a
theorem itF {c A B : Prop} [Decidable c] (h : ¬ c) (b : B) : if c then A else B := by rw [if_neg h]; exact b


def dg (c : Nat) : Bool := decide (48 ≤ c ∧ c ≤ 57)

theorem same_new {H : Hp} {p : Addr} (h : H p = none) (o : HO) : Same H (upd H p o) := fun b u q => by rw [upd_ne (ne_of_none q h)]; exact q

theorem map_bl {α : Type} (g : α → Bool) (l : List α) : (l.map fun c => V.bl (g c)) = (l.map g).map V.bl := by rw [List.map_map]; rfl

def wr (m : Nat) : Str := two (m / 60) ++ Str.ofString ":" ++ two (m % 60)

def wholeV : V → Bool
  | .int _ => true
  | _ => false

theorem flat_ints (ns : List Int) : (ns.map V.int).all flatV = true := by
  rw [List.all_map]; exact List.all_eq_true.mpr fun _ _ => rfl

structure Bump (tp : Addr) (k : Int) (H H' : Hp) : Prop where
  keep : ∀ b o, b ≠ tp → H b = some o → H' b = some o
  tape : H' tp = some (.lst [.int k])

theorem Bump.trans {tp : Addr} {k k' : Int} {H H1 H2 : Hp} (a : Bump tp k H H1) (b : Bump tp k' H1 H2) : Bump tp k' H H2 := ⟨fun c o n h => b.keep c o n (a.keep c o n h), b.tape⟩

theorem Bump.same {tp : Addr} {k : Int} {H H1 H2 : Hp} (a : Bump tp k H H1) (s : Same H1 H2) : Bump tp k H H2 := ⟨fun c o n h => s _ _ (a.keep c o n h), s _ _ a.tape⟩

def Own (K : PySem.W.Frag) (a : Addr) (xs : List V) : Prop := ∃ (o : Obj) (its : Array Value) (n : Nat), K.lookup a = some o ∧ o.cls = .type "list" ∧ o.dict = none ∧ o.data = .seq its n ∧ its.size ≤ sizeLine ∧ Vals xs its.toList
def Scr (K : PySem.W.Frag) (H : Hp) (a tp : Addr) (ns : List Int) : Prop := (a ≠ tp ∧ Rd H a (.lst (ns.map V.int))) ∨ Own K a (ns.map V.int)
theorem Scr.same {K : PySem.W.Frag} {H H' : Hp} {a tp : Addr} {ns : List Int} (h : Scr K H a tp ns) (s : Same H H') : Scr K H' a tp ns :=
  h.imp (fun ⟨n, r⟩ => ⟨n, r.imp (s _ _) fun ⟨o, q⟩ => ⟨o, s _ _ q⟩⟩) id
theorem Scr.new {K : PySem.W.Frag} {H : Hp} {a tp : Addr} {ns : List Int} (h : SqL K H a (ns.map V.int)) (n : H tp = none) (o : HO) : Scr K (upd H tp o) a tp ns := by
  rcases h with (h | ⟨u, h⟩) | h
  · exact .inl ⟨ne_of_none h n, .inl (by rw [upd_ne (ne_of_none h n)]; exact h)⟩
  · exact .inl ⟨ne_of_none h n, .inr ⟨u, by rw [upd_ne (ne_of_none h n)]; exact h⟩⟩
  · exact .inr h
theorem mulM {x y : Int} (h0 : 0 ≤ y) (h1 : y < 18446744073709551616) : CMul x y := .inr ⟨by omega, by omega⟩

theorem at_all {p : V → Prop} {xs : List V} {d : Int} (h : ∀ v ∈ xs, p v) (h0 : 0 ≤ d) (h1 : d < xs.length) : ∃ v, atI xs d = some v ∧ p v := by
  have hl : d.toNat < xs.length := by omega
  refine ⟨xs[d.toNat], ?_, h _ (List.getElem_mem hl)⟩
  have q : atI xs ((d.toNat : Nat) : Int) = some xs[d.toNat] := atI_nat (List.getElem?_eq_getElem hl)
  rw [show ((d.toNat : Nat) : Int) = d by omega] at q
  exact q
end K1

set_option Elab.async false
set_option linter.all false
set_option maxRecDepth 100000
set_option maxHeartbeats 4000000
namespace K1
open PySem L2
abbrev valL (l : List Nat) : Nat := PySem.NumText.digitsVal l
theorem str_len (z : Str) : z.cps.toList.length = z.length := by simp [Str.length]
theorem sl_to (z : Str) (j : Nat) (h : j ≤ z.length) : Txt.slice z none (some (j : Int)) = ⟨(z.cps.toList.take j).toArray⟩ := by
  have e := StrLaws.sliceText_to (x := z) (j := (j : Int)) ⟨by omega, by rw [str_len]; omega⟩
  rw [List.drop_zero, show ((j : Int) - 0).toNat = j by omega] at e
  exact e
theorem sl_from (z : Str) (j : Nat) (h : j ≤ z.length) : Txt.slice z (some (j : Int)) none = ⟨(z.cps.toList.drop j).toArray⟩ := by
  have e := StrLaws.sliceText_from (x := z) (i := (j : Int)) ⟨by omega, by rw [str_len]; omega⟩
  rw [show ((j : Int)).toNat = j by omega, List.take_of_length_le (by rw [List.length_drop]; omega)] at e
  exact e
end K1

set_option Elab.async false
set_option linter.all false
set_option maxRecDepth 100000
set_option maxHeartbeats 4000000
namespace L2
open PySem PySem.Spec PyProof.Rows

section
variable {X : Cx} {m : Str} {o e : Expr} {es : List Expr} {ta : TE} {t : TA} {pos apos : Pos}
structure MkN (K : PySem.W.Frag) (C : Addr) : Prop where
  makes : PySem.W.makesIn K C = true
  init : PySem.W.findIn K (.ref C) "__init__" = some (some (.builtin "object.__init__"))
  kp : PySem.W.keepIn K (.ref C) = true
end

structure FunD (K : PySem.W.Frag) (x qual : Str) (st : Stmt) (f : Addr) (fd : FuncData) (D : Addr) (ds : List Value) : Prop where
  ex : ∃ (oc : Value) (od : Option Addr) (kV doc pm : Value) (an : Option Addr) (cdv ct : Value) (osl : Array (Option Value)),
    fd = PySem.W.fnOf x qual (defArgs st) (defBody st) (defScope st) (.ref D) kV doc pm an cdv ct ∧ K.lookup f = some ⟨oc, od, .func fd, osl⟩ ∧ PySem.W.codeIn K cdv qual = true
  dt : ∃ (o : Obj) (n : Nat), K.lookup D = some o ∧ o.data = .seq ds.toArray n
  kp : PySem.W.keepIn K (.ref f) = true
section
variable {P : Program} {w : World} {K : PySem.W.Frag} {mg : Str → Option Value} {base : Heap} {x qual : Str} {st : Stmt} {f D : Addr} {fd : FuncData} {ds : List Value}
theorem FunD.ok {N ps : List Str} {k : Nat} {sp : Sp} (F : FunD K x qual st f fd D ds) (S : FnScope N ps (defScope st)) (len : ∀ vs H Q E, sp vs H Q E → vs.length = ps.length)
    (hbody : ∀ (cdv : Value) (A : Around) (outer : List Env) (s : Shared) (H : Hp) (vs : List V) (Q : VK) (E : XK), Room k (A.deeper (envOfC qual (defScope st) s.heap.objs.size f cdv)) → sp vs H Q E →
      ∃ t, PSs (cxOf CX0 P w K mg base N qual (defScope st) f cdv A outer s H E).nox (defBody st) t ∧ t { nx := fun _ H' => Q .non H', rt := Q } (start N vs) H) : FnOk P w K mg base CX0 (k + 1) f fd ps sp := by
  obtain ⟨oc, od, kV, doc, pm, an, cdv, ct, osl, rfl, lk, hcd⟩ := F.ex
  refine fn_of lk hcd S len fun A outer s H vs Q E hr hsp => ?_
  obtain ⟨t, h, q⟩ := hbody cdv A outer s H vs Q E hr hsp
  exact ⟨t, h.nox, q⟩
theorem FunD.okX {N ps : List Str} {k : Nat} {sp : Sp} (F : FunD K x qual st f fd D ds) (S : FnScope N ps (defScope st)) (len : ∀ vs H Q E, sp vs H Q E → vs.length = ps.length)
    (hbody : ∀ (cdv : Value) (A : Around) (outer : List Env) (s : Shared) (H : Hp) (vs : List V) (Q : VK) (E : XK), Room k (A.deeper (envOfC qual (defScope st) s.heap.objs.size f cdv)) → sp vs H Q E →
      ∃ t, PSs (cxOf (CXO P w) P w K mg base N qual (defScope st) f cdv A outer s H E) (defBody st) t ∧ t { nx := fun _ H' => Q .non H', rt := Q } (start N vs) H) : FnOk P w K mg base (CXO P w) (k + 1) f fd ps sp := by
  obtain ⟨oc, od, kV, doc, pm, an, cdv, ct, osl, rfl, lk, hcd⟩ := F.ex
  exact fn_of lk hcd S len fun A outer s H vs Q E hr hsp => hbody cdv A outer s H vs Q E hr hsp
end
end L2

set_option Elab.async false
set_option linter.all false
set_option maxRecDepth 100000
set_option maxHeartbeats 4000000
namespace K1
open PySem L2
inductive RT where
  | always
  | week (b : Nat)
  | span (a b : Nat) (r : RT)
  | each (n : Nat) (ss : List Nat)
  | either (r s : RT)
  | both (r s : RT)
  | but (ds : List Nat) (r : RT)
def RT.weight : RT → Nat
  | .always | .week _ | .each _ _ => 1
  | .span _ _ r | .but _ r => 1 + r.weight
  | .either r s | .both r s => 1 + (r.weight + s.weight)
def RT.depth : RT → Nat
  | .always | .week _ | .each _ _ => 1
  | .span _ _ r | .but _ r => 1 + r.depth
  | .either r s | .both r s => 1 + max r.depth s.depth
def RT.runs : RT → Nat → Bool
  | .always, _ => true
  | .week b, d => b / 2 ^ (d % 7) % 2 == 1
  | .span a b r, d => decide (a ≤ d) && decide (d ≤ b) && r.runs d
  | .each n ss, d => ss.contains (d % n)
  | .either r s, d => r.runs d || s.runs d
  | .both r s, d => r.runs d && s.runs d
  | .but ds r, d => r.runs d != ds.contains d
structure RC where
  rule : Addr
  week : Addr
  span : Addr
  each : Addr
  either : Addr
  both : Addr
  but : Addr
abbrev natV (l : List Nat) : List V := l.map fun n => V.int (n : Nat)
inductive RAt (c : RC) (K : PySem.W.Frag) (H : Hp) : Addr → RT → Prop
  | always {a dx : Addr} (h : H a = some (.ins c.rule dx [])) : RAt c K H a .always
  | week {a dx : Addr} {b : Nat} (h : H a = some (.ins c.week dx [("bits", .int (b : Nat))])) (hb : b ≤ 127) : RAt c K H a (.week b)
  | span {a dx i : Addr} {x y : Nat} {r : RT} (h : H a = some (.ins c.span dx [("first", .int (x : Nat)), ("last", .int (y : Nat)), ("inner", .ref i)])) (hx : x ≤ y) (hy : y ≤ 9999) (hi : RAt c K H i r) : RAt c K H a (.span x y r)
  | each {a dx p : Addr} {n : Nat} {ss : List Nat} (h : H a = some (.ins c.each dx [("length", .int (n : Nat)), ("starts", .ref p)])) (hn : 1 ≤ n) (hn2 : n ≤ 28) (hp : SqT K H p (natV ss)) : RAt c K H a (.each n ss)
  | either {a dx i j : Addr} {r s : RT} (h : H a = some (.ins c.either dx [("one", .ref i), ("other", .ref j)])) (hi : RAt c K H i r) (hj : RAt c K H j s) : RAt c K H a (.either r s)
  | both {a dx i j : Addr} {r s : RT} (h : H a = some (.ins c.both dx [("one", .ref i), ("other", .ref j)])) (hi : RAt c K H i r) (hj : RAt c K H j s) : RAt c K H a (.both r s)
  | but {a dx p i : Addr} {ds : List Nat} {r : RT} (h : H a = some (.ins c.but dx [("days", .ref p), ("inner", .ref i)])) (hp : SqT K H p (natV ds)) (hi : RAt c K H i r) : RAt c K H a (.but ds r)
theorem RAt.same {c : RC} {K : PySem.W.Frag} {H H' : Hp} (s : Same H H') {a : Addr} {r : RT} (h : RAt c K H a r) : RAt c K H' a r := by
  induction h with
  | always h => exact .always (s _ _ h)
  | week h hb => exact .week (s _ _ h) hb
  | span h hx hy _ ih => exact .span (s _ _ h) hx hy ih
  | each h hn hn2 hp => exact .each (s _ _ h) hn hn2 (SqT.sameT s hp)
  | either h _ _ i1 i2 => exact .either (s _ _ h) i1 i2
  | both h _ _ i1 i2 => exact .both (s _ _ h) i1 i2
  | but h hp _ ih => exact .but (s _ _ h) (SqT.sameT s hp) ih
end K1

set_option Elab.async false
set_option linter.all false
set_option maxRecDepth 100000
set_option maxHeartbeats 600000
namespace L2
open PySem PySem.Spec PyProof.Rows
def MxAt (S : Addr) (h : Heap) (b : Option Int) : Prop := ∃ (vs : Array Value) (c : Nat), h.get? S = some { cls := .type "list", dict := none, data := .seq vs c, slots := #[] } ∧ match b with
  | none => vs = #[]
  | some x => ∃ t, vs = #[.int x t, .int x t]
theorem MxAt.keep {S : Addr} {h h' : Heap} {b : Option Int} (m : MxAt S h b) (k : ∀ o, h.get? S = some o → h'.get? S = some o) : MxAt S h' b :=
  let ⟨vs, c, e, z⟩ := m
  ⟨vs, c, k _ e, z⟩
end L2

set_option Elab.async false
set_option linter.all false
namespace L2
open PySem
abbrev Ris (xs : Array Nat) : Prop := xs.toList.Pairwise (· < ·)
structure TabOk (t : SetTable) : Prop where
  du : t.dummies = #[]
  ri : t.plain = true → Ris t.place
end L2

set_option Elab.async false
set_option linter.all false
set_option maxRecDepth 100000
set_option maxHeartbeats 4000000
namespace L2
open PySem
def keyOf (e : Int × Value) : Int := match e.2 with
  | .int k _ => k
  | _ => 0
section
variable {prog : Program} {w : World}
def ISet (prog : Program) (w : World) (h : Heap) (a : Addr) (ks : List Int) : Prop := ∃ (o : Obj) (es : Array (Int × Value)) (ep : Nat) (t : SetTable),
  h.get? a = some o ∧ o.ExactSet ∧ o.data = .set es ep t ∧ ElemsOf (intKind prog w) es.toList ∧ t.fits es.size = true ∧ TabOk t ∧ (w.params.followText "set-order" = false → t.led = true) ∧
  (es.toList.map keyOf).Nodup ∧ (∀ k, k ∈ es.toList.map keyOf ↔ k ∈ ks) ∧ es.size ≤ ks.length
theorem ISet.keep {h h' : Heap} {a : Addr} {ks : List Int} (x : ISet prog w h a ks) (k : ∀ o, h.get? a = some o → h'.get? a = some o) : ISet prog w h' a ks :=
  let ⟨o, es, ep, t, ho, r⟩ := x
  ⟨o, es, ep, t, k _ ho, r⟩
end
end L2

set_option Elab.async false
set_option linter.all false
set_option maxRecDepth 100000
set_option maxHeartbeats 4000000
namespace L2
open PySem PySem.Spec PyProof.Rows
section
variable {prog : Program} {w : World} {A : Around} {R : Result → Shared → Prop} {I : Addr} {fp wr : List Addr} {G : Array GenState → Array GenState → Prop} {n : Nat} {P : Nat → Value → Prop} {St : Nat → Shared → Prop}
end
end L2

set_option Elab.async false
set_option linter.all false
set_option maxRecDepth 100000
set_option maxHeartbeats 4000000
namespace L2
open PySem
section
variable {prog : Program} {w : World} {A : Around} {E : Value → Shared → Prop} {s : Shared}
def SIt (h : Heap) (I : Addr) (f : Value) (i : Nat) (p n ep : Nat) : Prop := ∃ o, h.get? I = some o ∧ o.cls = .type "set_iterator" ∧ o.data = .fields #[f, .int i 0, .ref p, .int n 0, .int ep 0]
theorem SIt.ty {I p n ep i : Nat} {f : Value} (x : SIt s.heap I f i p n ep) : s.TypeIs (.ref I) "set_iterator" := let ⟨o, ho, hc, _⟩ := x; ⟨o, ho, hc⟩
def SAt (h : Heap) (p ep : Nat) (es : Array (Int × Value)) (t : SetTable) : Prop := ∃ o, h.get? p = some o ∧ o.ExactSet ∧ o.data = .set es ep t ∧ t.fits es.size = true
end
end L2

set_option Elab.async false
set_option linter.all false
set_option maxRecDepth 100000
set_option maxHeartbeats 4000000
namespace L2
open PySem
section
variable {prog : Program} {w : World} {A : Around} {E : Value → Shared → Prop} {s : Shared}
def TAt (h : Heap) (T : Nat) (ys : List Nat) : Prop := ∃ o, h.get? T = some o ∧ o.cls = .type "tuple" ∧ ∃ n, o.data = .seq (ys.map fun i => rawInt (i : Nat)).toArray n
end
end L2

set_option Elab.async false
set_option linter.all false
set_option maxRecDepth 100000
set_option maxHeartbeats 4000000
namespace L2
open PySem PyProof.Rows
section
variable {prog : Program} {w : World} {A : Around} {E : Value → Shared → Prop} {s : Shared}
theorem SIt.keep {h h' : Heap} {I p n ep i : Nat} {f : Value} (x : SIt h I f i p n ep) (k : ∀ o, h.get? I = some o → h'.get? I = some o) : SIt h' I f i p n ep := let ⟨o, ho, r⟩ := x; ⟨o, k _ ho, r⟩
theorem SAt.keep {h h' : Heap} {p ep : Nat} {es : Array (Int × Value)} {t : SetTable} (x : SAt h p ep es t) (k : ∀ o, h.get? p = some o → h'.get? p = some o) : SAt h' p ep es t := let ⟨o, ho, r⟩ := x; ⟨o, k _ ho, r⟩
theorem TAt.keep {h h' : Heap} {T : Nat} {ys : List Nat} (x : TAt h T ys) (k : ∀ o, h.get? T = some o → h'.get? T = some o) : TAt h' T ys := let ⟨o, ho, r⟩ := x; ⟨o, k _ ho, r⟩
end
end L2

set_option Elab.async false
set_option linter.all false
set_option maxRecDepth 100000
set_option maxHeartbeats 4000000
namespace L2
open PySem PyProof.Rows
section
variable {prog : Program} {w : World} {A : Around} {E : Value → Shared → Prop} {s : Shared}
theorem ISet.ty {p : Addr} {ks : List Int} (x : ISet prog w s.heap p ks) : s.TypeIs (.ref p) "set" := let ⟨o, _, _, _, ho, hex, _⟩ := x; ⟨o, ho, hex.1⟩
theorem ISet.lt {h : Heap} {p : Addr} {ks : List Int} (x : ISet prog w h p ks) : p < h.objs.size := let ⟨_, _, _, _, ho, _⟩ := x; Heap.lt_size ho
end
end L2

set_option Elab.async false
set_option linter.all false
set_option maxRecDepth 100000
set_option maxHeartbeats 4000000
namespace L2
open PySem PySem.Spec PyProof.Rows
section
variable {prog : Program} {w : World} {A : Around} {E : Value → Shared → Prop} {s : Shared}
theorem IntsAre.len {vs : List Value} {ns : List Int} (h : IntsAre vs ns) : vs.length = ns.length := by
  induction h with
  | nil => rfl
  | cons n t _ ih => rw [List.length_cons, List.length_cons, ih]
end
end L2

set_option Elab.async false
set_option linter.all false
set_option maxRecDepth 100000
set_option maxHeartbeats 4000000
namespace L2
open PySem PySem.Spec PyProof.Rows
end L2

set_option Elab.async false
set_option linter.all false
set_option maxRecDepth 100000
set_option maxHeartbeats 4000000
namespace L2
open PySem PySem.Spec PyProof.Rows
theorem ps_setc {X : Cx} {i0 : Nat} {x0 : Str} {pos' spos : Pos} {elt tg iter : Expr} {ifs : List Expr} {scope : Scope} {cl : List (Str × Addr)} {pos : Pos} {N : List Str} {fr : List (Option Nat)} {wi : TI} {g : TG} {tt : TT} {te : TE}
    (hN0 : X.N.Nodup) (hi0 : X.N[i0]? = some x0) (hx0 : Loc X.env.scope x0) (hc : X.calm = true) (hi : PI X tg iter wi) (hclos : closureFor scope X.env = pure cl) (hcell : ∀ y ∈ scope.names, y.2 ≠ .cell) (hkind : scope.kind = .function)
    (hnames : ∀ y ∈ scope.names, y.2 = .local → scope.names.lookup y.1 = some .local) (hfr : FreeOk X scope cl N fr) (hcl : ClOk X cl)
    (hhas : ((relabel scope X.env).names.all fun p => !(p.2 == .cell || p.2 == .free) || (cl.lookup p.1).isSome) = true)
    (hg : ∀ C s0 H0 ex pins, PG (compCx X N scope cl C s0 H0 ex pins) tg g) (ht : ∀ C s0 H0 ex pins, PTs (compCx X N scope cl C s0 H0 ex pins) ifs tt) (he : ∀ C s0 H0 ex pins, PE (compCx X N scope cl C s0 H0 ex pins) elt te)
    (hsw : swapsWith (.ListComp elt [⟨tg, iter, ifs, 0⟩] scope pos) (some (.Name x0 pos')) spos.line X.env = pure true := by rfl) (hf0 : X.fn x0 = true ∨ X.env.scope.names.lookup x0 = some .local := by first | exact .inl rfl | exact .inr rfl)
    (hs : ∀ v, foldedSetIterable iter X.env v = pure v := by intro _; rfl) : PS X (.Assign [.Name x0 pos'] (.ListComp elt [⟨tg, iter, ifs, 0⟩] scope pos) spos) (tAsg (tComp fr wi g tt te) (gName i0)) := by
  intro pins s σ H D0 I h
  rw [exec_Assign_Name_used _ _ _ _ hsw]
  refine wpAny_bind (wpAny_standAt (wpAny_bind ?_))
  show wpAny _ _ (do let _ ← comprehension (.ListComp elt [⟨tg, iter, ifs, 0⟩] scope pos) scope X.env _ (newList []) false (eval iter X.env) (some (assign (.Name x0 pos') X.env))) _ _ s
  refine wpAny_bind (thn (wpAny_comprehension_free (use := some (assign (.Name x0 pos') X.env)) (Q := fun _ s' => SP X pins D0 .next s') rfl hs hclos hkind hnames (thn (hi pins s σ H _ I h) fun xv s1 h1 => thn h1 fun itv s2 h2 => ?_)) fun _ s' hq => wpAny_pure (wpAny_pure hq))
  obtain ⟨it, fp, tn, J, H2, e, I2, T, st2, f2, W, ⟨m0, w0⟩, turn⟩ := h2
  subst e
  refine wpAny_newObj_type (wpAny_newFunctionEnv hcell (fun y hy => nomatch hy) (fun h4 hns hsb => ?_) hkind)
  dsimp only at hns hsb ⊢
  generalize hD : s2.heap.objs.size = D at *
  generalize hG : s2.heap.push { cls := .type "list", dict := none, data := .seq ([] : List Value).toArray } = G at hns hsb ⊢
  have hC : G.objs.size = D + 1 := by rw [← hG, Heap.size_push, hD]
  generalize hCC : G.objs.size = C at hns hsb hC ⊢
  subst hC
  have old : ∀ b o, s2.heap.get? b = some o → h4.get? b = some o := fun b o e => by
    have lt := Heap.lt_size e
    rw [hD] at lt
    exact hsb.extBut b o (Nat.ne_of_lt (Nat.lt_succ_of_lt lt)) (Heap.get?_push_of_some _ (hG ▸ Heap.get?_push_of_some _ e))
  have hDl : h4.get? D = some { cls := .type "list", dict := none, data := .seq ([] : List Value).toArray 0 } :=
    hsb.extBut _ _ (Nat.ne_of_lt (Nat.lt_succ_self _)) (Heap.get?_push_of_some _ (hG ▸ hD ▸ Heap.get?_push_size _ rfl))
  have flt : ∀ b ∈ fp, b < D := fun b hb => by
    obtain ⟨o, e, _⟩ := T.obj 0 _ st2 b hb
    have lt := Heap.lt_size e
    rw [hD] at lt
    exact lt
  have nst : ∀ b, b ≠ X.env.locals → b ∉ X.fs → b ∉ frs X.stack := fun b h1 h2 z => (List.mem_cons.mp (I2.stkSub b z)).elim h1 h2
  have pl : ∀ p ∈ X.pn ++ pins, p.1 < D := fun p hp => by
    have lt := Heap.lt_size (I2.pin p hp).1
    rw [hD] at lt
    exact lt
  have I4 : ∀ tk, Inv (compCx X N scope cl (D + 1) s2 H2 fp pins) [] (compSt fr σ) H2 { s2 with heap := h4, toks := tk } := fun tk =>
    I2.block hkind hfr hcl hhas f2 (fun b hb => by rw [hD]; exact flt b hb) old (by rw [hD]; exact Nat.le_succ _) hns
  have stat : ∀ {H' : Hp} {o : Obj}, (∀ b ∈ fp, H' b = none) → ∀ b ∈ fp, FpOk (compCx X N scope cl (D + 1) s2 H2 fp pins) [(D, o)] H' b := fun {H' o} hn b hb => by
    obtain ⟨_, k1, k2, _, k4, k5⟩ := f2 b hb
    refine ⟨hn b hb, Nat.ne_of_lt (Nat.lt_succ_of_lt (flt b hb)), nst b k1 k2, .inl hb, fun x c e => k4 x c (hcl.at e), fun p hp => ?_⟩
    rcases List.mem_append.mp hp with hp | hp
    · exact k5 p hp
    · rw [List.mem_singleton.mp hp]
      exact (Nat.ne_of_lt (flt b hb)).symm
  have dnf : D ∉ frs X.stack := fun z => by
    obtain ⟨_, o, e, _⟩ := I2.stack.mem z
    have lt := Heap.lt_size e
    rw [hD] at lt
    exact absurd lt (Nat.lt_irrefl _)
  have loop : ∀ tk, codeAny (model X.prog X.w) X.A (.compLoop (.ListComp elt [⟨tg, iter, ifs, 0⟩] scope pos) 0 (.ref it) (.ref D) (compEnvC scope cl (D + 1) X.env)) (compPost (model X.prog X.w) X.A X.xe (some (assign (.Name x0 pos') X.env)) (fun _ s' => SP X pins D0 .next s') (.ref D) (D + 1)) { s2 with heap := h4, toks := tk } := fun tk => by
    refine comp_turns (fun k s' => ∃ i σ' H' its nD acc, Inv (compCx X N scope cl (D + 1) s2 H2 fp pins) [] σ' H' s' ∧
        s'.heap.get? D = some { cls := .type "list", dict := none, data := .seq (List.toArray its) nD } ∧ H' D = none ∧ Vals acc its ∧ acc.length ≤ sizeLine ∧ tn i s'.heap ∧ (∀ b ∈ fp, H' b = none) ∧ W i k acc σ' H') ?_ m0
      ⟨0, _, H2, [], 0, [], I4 tk, hDl, I2.hok.fresh (by rw [hD]; exact Nat.le_refl _), .nil, Nat.zero_le _, T.keep 0 _ _ st2 fun b _ o e => old b o e, fun b hb => (f2 b hb).1, w0⟩
    rintro k s5 ⟨i, σ5, H5, its, nD, acc, I5, hL, hn5, va, hacc, st5, fr5, w5⟩
    have dcell : ∀ x c, cl.lookup x = some c → c ≠ D := fun x c e z => by
      obtain ⟨v, q⟩ := I2.cell x c (hcl.at e)
      have lt := q.lt
      rw [hD, z] at lt
      exact absurd lt (Nat.lt_irrefl _)
    have I5' : Inv (compCx X N scope cl (D + 1) s2 H2 fp pins) [(D, { cls := .type "list", dict := none, data := .seq (List.toArray its) nD })] σ5 H5 s5 := I5.pins_of fun p hp => by
      rw [List.mem_singleton.mp hp]
      exact ⟨hL, hn5, Nat.ne_of_lt (Nat.lt_succ_self _), dnf, fun v z => by cases z⟩
    rcases turn i k acc σ5 H5 w5 with ⟨stop, qn⟩ | ⟨go, hlt, N1, hN1, step⟩
    · refine thnF (T.done (compCx X N scope cl (D + 1) s2 H2 fp pins) rfl rfl rfl hc i _ s5 _ H5 _ I5' (stat fr5) st5 stop) fun r s6 ⟨hr, I6⟩ => ?_
      subst hr
      obtain ⟨m6, hn6, _⟩ := I6.loc
      have hL6 := (I6.pin (D, { cls := .type "list", dict := none, data := .seq (List.toArray its) nD }) (List.mem_append_right _ (List.mem_singleton.mpr rfl))).1
      have I8 : Inv X pins σ H5 s6 := I2.call' (s' := s6) I6.os I6.base I6.hok I6.bare fun b hb => let ⟨_, k1, _, k3, k4, k5⟩ := f2 b hb; ⟨k3, k1, k4, k5⟩
      have I9 : Inv X pins σ (upd H5 D (.lst acc)) s6 := I8.trackS hn5 hL6 rfl (by
          cases z : X.s₀.heap.get? D with
          | none => rfl
          | some o =>
            have lt := Nat.lt_of_lt_of_le (Heap.lt_size z) I2.sz
            rw [hD] at lt
            exact absurd lt (Nat.lt_irrefl _)) (fun p hp => Nat.ne_of_lt (pl p hp)) ⟨hacc, its, nD, va, hL6⟩
      have ltL : X.env.locals < D + 1 := by
        have := I2.lt
        rw [hD] at this
        exact Nat.lt_succ_of_lt this
      have ltC : ∀ x c, X.env.cells.lookup x = some c → c < D + 1 := fun x c e => by
        obtain ⟨v, q⟩ := I2.cell x c e
        have lt := q.lt
        rw [hD] at lt
        exact Nat.lt_succ_of_lt lt
      refine wpAny_assign_Name (store_ok2 (v := .ref D) I9 hN0 hi0 hx0 rfl (fun s7 I10 hz => ?_) hf0)
      obtain ⟨aa, sb, ha⟩ := hz
      have nC : D + 1 ≠ aa := by
        rcases ha with rfl | ha
        · exact Nat.ne_of_gt ltL
        · exact Nat.ne_of_gt (ltC _ _ ha)
      refine ⟨m6, hn6.sameBut sb nC, fun h8 hs8 => ⟨_, _, I10.turned (h' := h8) (t' := s7.toks) (fun b o hb e => hs8.extBut b o hb e) ?_ (Nat.ne_of_gt ltL) (.inr ?_) (fun x c e => Nat.ne_of_lt (ltC x c e)) (fun p hp => Nat.ne_of_lt (Nat.lt_succ_of_lt (pl p hp))), qn D hn5⟩⟩
      · rw [upd_ne (Nat.ne_of_gt (Nat.lt_succ_self D))]
        exact I6.free
      · have := I2.sz
        rw [hD] at this
        exact Nat.le_succ_of_le this
    · refine thnF (T.item (compCx X N scope cl (D + 1) s2 H2 fp pins) rfl rfl rfl hc i _ s5 _ H5 _ I5' (stat fr5) st5 go) fun r s6 ⟨u, hr, h6⟩ => ?_
      subst hr
      refine thnF h6 fun _ s7 ⟨x, H7, I7, r7, y7, st7, fr7⟩ => ?_
      have I7' : Inv (compCx X N scope cl (D + 1) s2 H2 fp pins) ([(D, { cls := .type "list", dict := none, data := .seq (List.toArray its) nD })] ++ pinsAt fp s7.heap) σ5 H7 s7 := I7.pinned (stat fr7) (T.obj _ _ st7)
      refine thnF (hg _ _ _ _ _ _ s7 _ H7 x u _ I7' r7 (step x H7 y7)) fun _ s8 ⟨σ8, H8, I8, q8⟩ => ?_
      refine thnF (ht _ _ _ _ _ _ s8 σ8 H8 _ I8 q8) fun ok s9 ⟨H9, I9, q9⟩ => ?_
      have wk : ∀ {σ' : St} {H' : Hp} {s' : Shared}, Inv (compCx X N scope cl (D + 1) s2 H2 fp pins) ([(D, { cls := .type "list", dict := none, data := .seq (List.toArray its) nD })] ++ pinsAt fp s7.heap) σ' H' s' →
          tn (i + 1) s'.heap ∧ (∀ b ∈ fp, H' b = none) ∧ s'.heap.get? D = some { cls := .type "list", dict := none, data := .seq (List.toArray its) nD } ∧ H' D = none := fun {σ' H' s'} J' => by
        have pin : ∀ p ∈ ([(D, { cls := .type "list", dict := none, data := .seq (List.toArray its) nD })] : List (Addr × Obj)) ++ pinsAt fp s7.heap, s'.heap.get? p.1 = some p.2 ∧ H' p.1 = none := fun p hp => let ⟨e, n, _⟩ := J'.pin p (List.mem_append_right _ hp); ⟨e, n⟩
        refine ⟨T.keep _ _ _ st7 fun b hb o e => (pin (b, o) (List.mem_append_right _ (mem_pinsAt hb e))).1, fun b hb => ?_, (pin (D, _) (List.mem_append_left _ (List.mem_singleton.mpr rfl))).1, (pin (D, _) (List.mem_append_left _ (List.mem_singleton.mpr rfl))).2⟩
        obtain ⟨o, e, _⟩ := T.obj _ _ st7 b hb
        exact (pin (b, o) (List.mem_append_right _ (mem_pinsAt hb e))).2
      cases ok with
      | false =>
        obtain ⟨m', hm, w9⟩ := hN1 _ _ _ q9
        obtain ⟨k1, k2, k3, k4⟩ := wk I9
        exact ⟨m', hm, i + 1, σ8, H9, its, nD, acc, I9.pins_of (fun _ z => nomatch z), k3, k4, va, hacc, k1, k2, w9⟩
      | true =>
        refine thnF (he _ _ _ _ _ _ s9 σ8 H9 _ I9 q9) fun y s10 ⟨v, H10, I10, r10, q10⟩ => ?_
        obtain ⟨m', hm, w10⟩ := hN1 _ _ _ q10
        obtain ⟨k1, k2, k3, k4⟩ := wk I10
        refine call_meets F.slot_list_append ⟨_, k3, rfl⟩ F.entry_list_append (F.args_list_append_2 _ _) (PySem.list_append D its.toArray nD y (by rw [List.size_toArray, ← va.length]; omega)) ⟨k3, ?_⟩
        have up : ∀ b o, b ≠ D → s10.heap.get? b = some o → (s10.heap.update D (Obj.mapSeq fun z => z.push y)).get? b = some o := fun b o hb e => (Heap.get?_update_other s10.heap _ (Ne.symm hb)).trans e
        have I11 : Inv (compCx X N scope cl (D + 1) s2 H2 fp pins) [] σ8 H10 { s10 with heap := s10.heap.update D (Obj.mapSeq fun z => z.push y), toks := s10.toks } :=
          (I10.pins_of (pins' := []) fun _ z => nomatch z).turned up k4 (Nat.ne_of_lt (Nat.lt_succ_self _)) (.inr (by rw [hD]; exact Nat.le_refl _)) dcell fun p hp => by
            have hp' : p ∈ X.pn ++ pins := by simpa using hp
            exact Nat.ne_of_lt (pl p hp')
        have q := PySem.IsL.update k3 (fun z => z.push y)
        rw [show (List.toArray its).push y = (its ++ [y]).toArray by simp] at q
        refine ⟨m', hm, i + 1, σ8, H10, its ++ [y], _, acc ++ [v], I11, q, k4, va.append (.cons r10 .nil), ?_, T.keep _ _ _ k1 fun b hb o e => up b o (Nat.ne_of_lt (flt b hb)) e, k2, w10⟩
        rw [List.length_append, List.length_singleton]
        omega
  exact codeAny_compStart_list (loop _) (T.self _ 0 _ _ _ (T.keep 0 _ _ st2 fun b _ o e => old b o e) (loop _))
end L2

set_option Elab.async false
set_option linter.all false
set_option maxRecDepth 100000
set_option maxHeartbeats 4000000
namespace K1
open PySem L2
structure Rsg (l : List Nat) (lo hi : Nat) : Prop where
  one : 1 ≤ l.length
  few : l.length ≤ 12
  up : l.Pairwise (· < ·)
  all : ∀ x ∈ l, lo ≤ x ∧ x ≤ hi
structure OwnC (K : PySem.W.Frag) (C : Addr) : Prop where
  ha : PySem.W.findIn K (.ref C) "__class__" = some (some (.builtin "object.__class__"))
  hn : PySem.W.specialIn K (.builtin "object.__class__") "__get__" = some (some (.builtin "getset_descriptor.__get__"))
  tk : PySem.W.takesIn K (.builtin "object.__class__") = some true
  hm : PySem.W.mroIn K C (.type "object") = some true
theorem OwnC.ty {K : PySem.W.Frag} {C : Addr} (o : OwnC K C) (c : Cls K C) {H : Hp} {a dx : Addr} {fs : List (Str × V)} (e : H a = some (.ins C dx fs)) : TyOf K H (.ref a) (.ref C) := .ins e c o.ha o.hn o.tk o.hm
theorem num_ok {b : Nat} {lo hi : Int} (h1 : lo ≤ b) (h2 : (b : Int) ≤ hi) : numV (.int (b : Nat)) lo hi = true := decide_eq_true ⟨h1, h2⟩
inductive TAtr (tp : Addr) (H : Hp) : V → RT → Prop
  | always {a : Addr} (h : H a = some (.tup [.str (Str.ofString "always")])) : TAtr tp H (.ref a) .always
  | week {a : Addr} {b : Nat} (h : H a = some (.tup [.str (Str.ofString "week"), .int (b : Nat)])) : TAtr tp H (.ref a) (.week b)
  | span {a : Addr} {x y : Nat} {v : V} {r : RT} (h : H a = some (.tup [.str (Str.ofString "span"), .int (x : Nat), .int (y : Nat), v])) (hv : TAtr tp H v r) : TAtr tp H (.ref a) (.span x y r)
  | each {a l : Addr} {n : Nat} {ss : List Nat} (h : H a = some (.tup [.str (Str.ofString "each"), .int (n : Nat), .ref l])) (hl : H l = some (.lst (natV ss))) (ne : l ≠ tp) : TAtr tp H (.ref a) (.each n ss)
  | either {a : Addr} {v u : V} {r s : RT} (h : H a = some (.tup [.str (Str.ofString "either"), v, u])) (hv : TAtr tp H v r) (hu : TAtr tp H u s) : TAtr tp H (.ref a) (.either r s)
  | both {a : Addr} {v u : V} {r s : RT} (h : H a = some (.tup [.str (Str.ofString "both"), v, u])) (hv : TAtr tp H v r) (hu : TAtr tp H u s) : TAtr tp H (.ref a) (.both r s)
  | but {a l : Addr} {ds : List Nat} {v : V} {r : RT} (h : H a = some (.tup [.str (Str.ofString "but"), .ref l, v])) (hl : H l = some (.lst (natV ds))) (ne : l ≠ tp) (hv : TAtr tp H v r) : TAtr tp H (.ref a) (.but ds r)
theorem TAtr.keep {tp : Addr} {H H' : Hp} (k : ∀ b o, b ≠ tp → H b = some o → H' b = some o) (nt : ∀ xs, H tp ≠ some (.tup xs)) {v : V} {r : RT} (h : TAtr tp H v r) : TAtr tp H' v r := by
  have q : ∀ {a xs}, H a = some (.tup xs) → H' a = some (.tup xs) := fun {a xs} e => k _ _ (fun z => by rw [z] at e; exact nt _ e) e
  induction h with
  | always h => exact .always (q h)
  | week h => exact .week (q h)
  | span h _ ih => exact .span (q h) ih
  | each h hl ne => exact .each (q h) (k _ _ ne hl) ne
  | either h _ _ i1 i2 => exact .either (q h) i1 i2
  | both h _ _ i1 i2 => exact .both (q h) i1 i2
  | but h hl ne _ ih => exact .but (q h) (k _ _ ne hl) ne ih
theorem TAtr.same {tp : Addr} {H H' : Hp} (s : Same H H') {v : V} {r : RT} (h : TAtr tp H v r) : TAtr tp H' v r := by
  induction h with
  | always h => exact .always (s _ _ h)
  | week h => exact .week (s _ _ h)
  | span h _ ih => exact .span (s _ _ h) ih
  | each h hl ne => exact .each (s _ _ h) (s _ _ hl) ne
  | either h _ _ i1 i2 => exact .either (s _ _ h) i1 i2
  | both h _ _ i1 i2 => exact .both (s _ _ h) i1 i2
  | but h hl ne _ ih => exact .but (s _ _ h) (s _ _ hl) ne ih
theorem tape_tup {H : Hp} {tp : Addr} {ys : List V} (h : H tp = some (.lst ys)) (xs : List V) : H tp ≠ some (.tup xs) := fun e => by rw [h] at e; cases e
theorem TAtr.bump {tp : Addr} {k : Int} {ys : List V} {H H' : Hp} (ht : H tp = some (.lst ys)) (b : Bump tp k H H') {v : V} {r : RT} (h : TAtr tp H v r) : TAtr tp H' v r := h.keep b.keep (tape_tup ht)
theorem RAt.bump {c : RC} {K : PySem.W.Frag} {tp : Addr} {k : Int} {ys : List V} {H H' : Hp} (ht : H tp = some (.lst ys)) (b : Bump tp k H H') {a : Addr} {r : RT} (h : RAt c K H a r) : RAt c K H' a r := by
  have q : ∀ {x C dx fs}, H x = some (.ins C dx fs) → H' x = some (.ins C dx fs) := fun {x C dx fs} e => b.keep _ _ (fun z => by rw [z, ht] at e; cases e) e
  have qt : ∀ {p xs}, SqT K H p xs → SqT K H' p xs := fun {p xs} e => e.imp (fun r => r.imp (fun e => b.keep _ _ (fun z => by rw [z, ht] at e; cases e) e) (fun ⟨o, e⟩ => ⟨o, b.keep _ _ (fun z => by rw [z, ht] at e; cases e) e⟩)) id
  induction h with
  | always h => exact .always (q h)
  | week h hb => exact .week (q h) hb
  | span h hx hy _ ih => exact .span (q h) hx hy ih
  | each h hn hn2 hp => exact .each (q h) hn hn2 (qt hp)
  | either h _ _ i1 i2 => exact .either (q h) i1 i2
  | both h _ _ i1 i2 => exact .both (q h) i1 i2
  | but h hp _ ih => exact .but (q h) (qt hp) ih
end K1
namespace L2
open PySem PySem.Spec PyProof.Rows
end L2
namespace K1
open PySem L2
def Fst (f : Nat → Bool) (lo n : Nat) : Option Nat → Prop
  | none => ∀ j, j < n → f (lo + j) = false
  | some x => ∃ i, i < n ∧ x = lo + i ∧ f (lo + i) = true ∧ ∀ j, j < i → f (lo + j) = false
theorem Fst.one {f g : Nat → Bool} {lo n m : Nat} {x y : Option Nat} (h : Fst f lo n x) (h' : Fst g lo m y) (fg : ∀ j, j < n → j < m → f (lo + j) = g (lo + j)) (fn : ∀ j, m ≤ j → j < n → f (lo + j) = false) (gm : ∀ j, n ≤ j → j < m → g (lo + j) = false) : x = y := by
  cases x with
  | none =>
    cases y with
    | none => rfl
    | some y =>
      obtain ⟨i, hi, rfl, hy, _⟩ := h'
      by_cases c : i < n
      · have := h i c
        rw [fg i c hi, hy] at this
        cases this
      · rw [gm i (by omega) hi] at hy
        cases hy
  | some x =>
    obtain ⟨i, hi, rfl, hx, hb⟩ := h
    have im : i < m := by
      by_cases c : i < m
      · exact c
      · rw [fn i (by omega) hi] at hx
        cases hx
    rw [fg i hi im] at hx
    cases y with
    | none =>
      rw [h' i im] at hx
      cases hx
    | some y =>
      obtain ⟨j, hj, rfl, hy, hc⟩ := h'
      have e : i = j := by
        rcases Nat.lt_trichotomy i j with c | c | c
        · rw [hc i c] at hx; cases hx
        · exact c
        · have jn : j < n := by omega
          rw [← fg j jn hj, hb j c] at hy
          cases hy
      rw [e]
end K1

set_option Elab.async false
set_option linter.all false
set_option maxRecDepth 100000
set_option maxHeartbeats 4000000
namespace L2
open PySem PySem.Spec PyProof.Rows
theorem strs_of : ∀ {ts : List Str} {us : List Value}, Vals (ts.map V.str) us → ∃ l : List (Str × Tok), us = strValues l ∧ l.map (·.1) = ts
  | [], _, .nil => ⟨[], rfl, rfl⟩
  | t :: r, _, .cons (b := u) h q => by
    obtain ⟨tk, rfl⟩ := h
    obtain ⟨l, rfl, e⟩ := strs_of q
    exact ⟨(t, tk) :: l, rfl, by rw [List.map_cons, e]⟩
theorem fold_le (n : Nat) : ∀ (ts : List Str) (k : Nat), ts.foldl (fun a x => a + x.length + n) k = k + (ts.map fun x => x.length + n).sum
  | [], k => by simp
  | t :: r, k => by
    rw [List.foldl_cons, fold_le n r, List.map_cons, List.sum_cons]
    omega
theorem sum_len (n : Nat) : ∀ ts : List Str, (ts.map fun x => x.length + n).sum = (ts.map (·.length)).sum + ts.length * n
  | [] => by simp
  | y :: r => by
    have ih := sum_len n r
    simp only [List.map_cons, List.sum_cons, List.length_cons, Nat.succ_mul]
    omega
def rJoin (K : PySem.W.Frag) : V → List V → Hp → VK → Prop := fun x xs H Q => ∃ (z : Str) (p : Addr) (ts : List Str), x = .str z ∧ xs = [.ref p] ∧ SqL K H p (ts.map V.str) ∧ (ts.map fun x => x.length + z.length).sum ≤ sizeLine ∧ Q (.str (Str.join z ts)) H
theorem mt_join {X : Cx} : MtR X "str.join" (rJoin X.K) := by
  intro pins s σ H x xs v us Q I rx r h
  obtain ⟨z, p, ts, rfl, rfl, hq, hz, q⟩ := h
  obtain ⟨t, rfl⟩ := rx
  obtain ⟨u, rfl, e⟩ := vals1 r
  cases e
  obtain ⟨its, r', pl, _⟩ := I.list hq
  obtain ⟨l, rfl, el⟩ := strs_of r'
  have hl : Builtin.Str.tooLong ((l.map (·.1)).toArray.foldl (· + ·.length + z.length) 0) = false := by
    rw [el, List.foldl_toArray, fold_le]
    unfold Builtin.Str.tooLong
    exact decide_eq_false (by omega)
  refine call_meets F.slot_str_join (typeIs_str _ _ _) F.entry_str_join (F.args_str_join_2 _ _) (meets_str_join_list z t p l hl) ⟨pl.isList, ?_⟩
  have ej : Builtin.Str.glued z (l.map (·.1)) = Str.join z ts := by rw [el]; exact StrLaws.glued_eq_join z ts
  have le : (Str.join z ts).length ≤ sizeLine := by
    have h1 := StrLaws.join_length_le z ts
    have h2 := sum_len z.length ts
    omega
  have many : ∀ (m : Made), m = .str (Builtin.Str.glued z (l.map (·.1))) → m.post (fun v s' => wants (EP X pins σ Q) X.xe (.ok (.ret v)) s') s := fun m e => by
    subst e
    refine ⟨by rw [ej]; exact le, ?_⟩
    rw [ej]
    exact ⟨.str _, H, I.tok _, ⟨_, rfl⟩, q⟩
  match l, el, many with
  | [], el, many => exact many _ rfl
  | [y], el, many =>
    obtain ⟨yz, yt⟩ := y
    have e2 : Str.join z ts = yz := by rw [← el]; rfl
    rw [e2] at q
    exact ⟨.str yz, H, I, ⟨yt, rfl⟩, q⟩
  | y :: y2 :: r2, el, many => exact many _ rfl
end L2

set_option Elab.async false
set_option linter.all false
set_option maxRecDepth 100000
set_option maxHeartbeats 4000000
namespace K1
open PySem L2
def numT (n : Nat) : Str := Str.ofString (toString ((n : Nat) : Int))
def lstT (ss : List Nat) : Str := Str.join (Str.ofString ",") (ss.map numT)
def bitT (b d : Nat) : Str := if (RT.week b).runs d then Str.ofString "1" else Str.ofString "0"
def signT (b : Nat) : Str := Str.join (Str.ofString "") ((List.range 7).map (bitT b))
def RT.words : RT → List Str
  | .always => [Str.ofString "always"]
  | .week b => [Str.ofString "week", signT b]
  | .span a b r => [Str.ofString "span", numT a, numT b] ++ r.words
  | .each n ss => [Str.ofString "each", numT n, lstT ss]
  | .either r s => [Str.ofString "either"] ++ r.words ++ s.words
  | .both r s => [Str.ofString "both"] ++ r.words ++ s.words
  | .but ds r => [Str.ofString "but", lstT ds] ++ r.words
theorem join_room {z : Str} {ts : List Str} {m : Nat} (hz : z.length ≤ 1) (hm : ts.length ≤ 20) (h : ∀ x ∈ ts, x.length ≤ 10) : (ts.map fun x => x.length + z.length).sum ≤ sizeLine := by
  have key : ∀ l : List Str, (∀ x ∈ l, x.length ≤ 10) → (l.map fun x => x.length + z.length).sum ≤ 11 * l.length := by
    intro l
    induction l with
    | nil => intro _; simp
    | cons y r ih =>
      intro h
      have h1 := h y List.mem_cons_self
      have h2 := ih fun x hx => h x (List.mem_cons_of_mem _ hx)
      simp only [List.map_cons, List.sum_cons, List.length_cons]
      omega
  have := key ts h
  exact Nat.le_trans (show _ ≤ 1000 by omega) (by decide)
end K1

set_option Elab.async false
set_option linter.all false
set_option maxRecDepth 100000
set_option maxHeartbeats 600000
namespace L2
open PySem PySem.Spec PyProof.Rows
end L2

set_option Elab.async false
set_option linter.all false
set_option maxRecDepth 100000
set_option maxHeartbeats 4000000
namespace L2
open PySem PySem.Spec PyProof.Rows
def Odd1 (H : Hp) (v : V) : Prop := flatV v = true ∨ (∃ (a : Addr) (xs : List V), v = .ref a ∧ H a = some (.lst xs)) ∨ (∃ (a : Addr) (xs : List V), v = .ref a ∧ H a = some (.tup xs)) ∨ (∃ (a : Addr) (kvs : List (Key × V)), v = .ref a ∧ H a = some (.dK kvs))
theorem Odd1.same {H H' : Hp} {v : V} (s : Same H H') (h : Odd1 H v) : Odd1 H' v := by
  rcases h with h | ⟨a, xs, e, h⟩ | ⟨a, xs, e, h⟩ | ⟨a, xs, e, h⟩
  · exact .inl h
  · exact .inr (.inl ⟨a, xs, e, s _ _ h⟩)
  · exact .inr (.inr (.inl ⟨a, xs, e, s _ _ h⟩))
  · exact .inr (.inr (.inr ⟨a, xs, e, s _ _ h⟩))
end L2

set_option Elab.async false
set_option linter.all false
namespace L2
open PySem PySem.Spec PyProof.Rows
def tJoin (t u : TS) : TS := fun D σ H => ∃ J : St → Hp → Prop, t { D with nx := J } σ H ∧ ∀ σ' H', J σ' H' → u D σ' H'
theorem pss_join {X : Cx} {st : Stmt} {rest : List Stmt} {t u : TS} (h1 : PS X st t) (h2 : PSs X rest u) : PSs X (st :: rest) (tJoin t u) := by
  intro pins s σ H D I h
  obtain ⟨J, h, hJ⟩ := h
  refine wpAny_execs_cons (thn (h1 pins s σ H { D with nx := J } I h) fun f s1 q => ?_)
  cases f with
  | next =>
    obtain ⟨σ', H', I', q⟩ := q
    exact h2 pins s1 σ' H' D I' (hJ _ _ q)
  | ret v => exact q
  | brk => exact q
  | cont => exact q
end L2

set_option Elab.async false
set_option linter.all false
set_option maxRecDepth 100000
set_option maxHeartbeats 4000000
namespace L2
open PySem PySem.Spec PyProof.Rows

section
variable {X : Cx} {pins : List (Addr × Obj)} {σ : St} {H : Hp} {s : Shared} {h' : Heap}
theorem Inv.turnedL {t' : Nat} {fp : List Addr} (I : Inv X pins σ H s) (k : ∀ b o, b ∉ fp → s.heap.get? b = some o → h'.get? b = some o) (hf : ∀ b ∈ fp, FpOk X pins H b) : Inv X pins σ H { s with heap := h', toks := t' } := by
  have nit : ∀ b u, H b = some u → b ∉ fp := fun b u e z => by rw [(hf b z).1] at e; cases e
  refine I.step (g' := s.gens) (d' := s.drawn) (ch := fp) (fun b hb => ⟨(hf b hb).2.2.2.1, (hf b hb).2.1, (hf b hb).2.2.2.2.1, (hf b hb).2.2.2.2.2⟩) (fun b o _ _ hc e _ => k b o hc e) (fun b o _ _ hc e _ => ⟨o.slots, k b o hc e⟩) (fun _ _ _ _ n => n)
    (fun b o hc e => ⟨o, k b o hc e⟩) (fun _ _ e => e) (fun _ _ _ e => e) (fun b ps e => ⟨#[], by rw [e]; simp⟩) (fun m hm => ?_) (fun b u e => ?_) I.bare
  · obtain ⟨o, es, ep, ho, r⟩ := hm
    exact ⟨o, es, ep, k _ o (fun z => (hf _ z).2.1 rfl) ho, r⟩
  · refine (I.hok b u e).stay (fun c v hc q => k c v ?_ q) (fun _ q => q) fun _ _ q => q
    rcases hc with z | z
    · rw [z]; exact nit b u e
    · exact nit c _ z
theorem Inv.paired {t' : Nat} {fp : List Addr} {x y : V} {u v : Value} (I : Inv X pins σ H s) (hf : ∀ b ∈ fp, FpOk X pins H b) (ht : ∀ b ∈ fp, ∃ o, s.heap.get? b = some o)
    (k : ∀ b o, b ∉ fp → s.heap.get? b = some o → h'.get? b = some o) (hT : h'.get? s.heap.objs.size = some { cls := .type "tuple", data := .seq #[u, v] }) (rx : RelV x u) (ry : RelV y v) :
    Inv X pins σ (upd H s.heap.objs.size (.tup [x, y])) { s with heap := h', toks := t' } ∧ ∀ b ∈ fp, upd H s.heap.objs.size (.tup [x, y]) b = none := by
  have I1 : Inv X pins σ (upd H s.heap.objs.size (.tup [x, y])) { s with heap := s.heap.push { cls := .type "tuple", data := .seq #[u, v] }, toks := t' } :=
    I.laid (fun b ob q => Heap.get?_push_of_some _ q) (Nat.le_refl _) ⟨show 2 ≤ sizeLine by decide, [u, v], .cons rx (.cons ry .nil), IsTup.new _ _⟩
  have ne : ∀ b ∈ fp, b ≠ s.heap.objs.size := fun b hb e => by
    obtain ⟨o, q⟩ := ht b hb
    exact absurd (Heap.lt_size q) (by rw [e]; exact Nat.lt_irrefl _)
  have nn : ∀ b ∈ fp, upd H s.heap.objs.size (.tup [x, y]) b = none := fun b hb => by rw [upd_ne (ne b hb)]; exact (hf b hb).1
  refine ⟨Inv.turnedL (s := { s with heap := s.heap.push { cls := .type "tuple", data := .seq #[u, v] }, toks := t' }) (t' := t') (fp := fp) I1 (fun b o hb e => ?_) (fun b hb => ⟨nn b hb, (hf b hb).2⟩), nn⟩
  have e' : (s.heap.push { cls := .type "tuple", data := .seq #[u, v] }).get? b = some o := e
  by_cases hb2 : b = s.heap.objs.size
  · subst hb2
    rw [Heap.get?_push_size _ rfl] at e'
    cases e'
    exact hT
  · rw [Heap.get?_push_ne _ _ _ hb2] at e'
    exact k b o hb e'
end
def Ite (K : PySem.W.Frag) (l : Addr) : It :=
  ⟨fun i H => ∃ xs x, SqL K H l xs ∧ xs[i]? = some x, fun i H v H' => ∃ p x, H p = none ∧ (∀ xs, SqL K H l xs → xs[i]? = some x) ∧ v = .ref p ∧ H' = upd H p (.tup [.int i, x]), fun i H => ∃ xs, SqL K H l xs ∧ xs.length ≤ i⟩
def Itz (K : PySem.W.Frag) (l m : Addr) : It :=
  ⟨fun i H => ∃ xs ys x y, SqL K H l xs ∧ SqL K H m ys ∧ xs[i]? = some x ∧ ys[i]? = some y, fun i H v H' => ∃ p x y, H p = none ∧ (∀ xs, SqL K H l xs → xs[i]? = some x) ∧ (∀ ys, SqL K H m ys → ys[i]? = some y) ∧ v = .ref p ∧ H' = upd H p (.tup [x, y]),
    fun i H => ∃ xs ys, SqL K H l xs ∧ SqL K H m ys ∧ (xs.length ≤ i ∨ ys.length ≤ i)⟩
theorem turn_enum {P : Program} {w : World} {K : PySem.W.Frag} {es : List Expr} {k : Nat} {pos : Pos} (l e it : Addr) (hei : e ≠ it) : Turn P w K (.Tuple es k pos) (Ite K l) [e, it] e (fun i h => (∃ old, IsEnum h e it i old) ∧ h.IsListIter it l i) where
  mem := by simp
  obj := fun i h st b hb => by
    obtain ⟨⟨old, he⟩, o, ho, hc, hd⟩ := st
    have e' : b = e ∨ b = it := by simpa using hb
    rcases e' with rfl | rfl
    · exact ⟨_, he, fun v z => by cases z⟩
    · exact ⟨o, ho, fun v z => by rw [hd] at z; cases z⟩
  keep := fun i h h' st kk => ⟨let ⟨old, he⟩ := st.1; ⟨old, kk e (by simp) _ he⟩, st.2.at fun o q => kk it (by simp) o q⟩
  item := by
    intro X hP hw hK hc i pins s σ H E I hf st hg
    subst hP hw hK
    obtain ⟨xs, x, hq, hx⟩ := hg
    obtain ⟨its, rv, p, hz⟩ := I.list hq
    obtain ⟨u, hu, ru⟩ := rv.get hx
    obtain ⟨⟨old, he⟩, hit⟩ := st
    have hit0 := hit
    refine wpAny_pyNext_enum_item he hit p.isList (x := u) (by simpa using hu) hei fun h1 ho hit' hT hsz hk => ⟨_, rfl, ?_⟩
    refine wpAny_letOwnedTupleGo_enum (s := { s with heap := h1, toks := s.toks + 1 }) ho fun h2 he2 hs2 => ?_
    have hlt : e < s.heap.objs.size := Heap.lt_size he
    have hilt : it < s.heap.objs.size := by obtain ⟨_, q, _⟩ := hit; exact Heap.lt_size q
    have hT2 : h2.get? s.heap.objs.size = some { cls := .type "tuple", data := .seq #[.int i s.toks, u] } := (hs2.2 _ (Nat.ne_of_gt hlt)).trans hT
    obtain ⟨I2, n2⟩ := I.paired (t' := s.toks + 1) (fp := [e, it]) (x := .int i) (y := x) (h' := h2) hf (fun b hb => by
      have e' : b = e ∨ b = it := by simpa using hb
      rcases e' with rfl | rfl
      · exact ⟨_, he⟩
      · obtain ⟨o, q, _⟩ := hit0; exact ⟨o, q⟩) (fun b o hb q => by
      have hb1 : b ≠ e := fun z => hb (by simp [z])
      have hb2 : b ≠ it := fun z => hb (by simp [z])
      exact (hs2.2 b hb1).trans (hk b o hb1 hb2 q)) hT2 ⟨s.toks, rfl⟩ ru
    refine ⟨.ref s.heap.objs.size, _, I2, rfl, ⟨_, x, I.hok.fresh (Nat.le_refl _), fun ys hy => by rw [I.list_inj hy hq]; exact hx, rfl, rfl⟩, ⟨⟨_, by simpa using he2⟩, hit'.at fun o q => (hs2.2 it hei.symm).trans q⟩, n2⟩
  done := by
    intro X hP hw hK hc i pins s σ H E I hf st hg
    subst hP hw hK
    obtain ⟨xs, hq, hx⟩ := hg
    obtain ⟨its, rv, p, hz⟩ := I.list hq
    obtain ⟨⟨old, he⟩, hit⟩ := st
    have hl := rv.length
    exact wpAny_pyNext_enum_end (I.ok.hd hc) he hit p.isList (by simp; omega) fun h' eb => ⟨rfl, I.turnedL (t' := s.toks) (fp := [e, it]) (fun b o hb q => eb b o (fun z => hb (by simp [z])) q) hf⟩
  self := fun _ _ _ _ _ st h => by
    obtain ⟨⟨old, he⟩, _⟩ := st
    exact wpAny_pyIter_enum he h
theorem turn_zip {P : Program} {w : World} {K : PySem.W.Frag} {es : List Expr} {k : Nat} {pos : Pos} (l m z TI TO i1 i2 : Addr) (D : ZipApart z TI TO i1 i2 l m) : Turn P w K (.Tuple es k pos) (Itz K l m) [z, TI, TO, i1, i2] z (fun i h => IsZip h z TI TO .none ∧ IsPair h TI (.ref i1) (.ref i2) ∧ (∃ a b, IsPair h TO a b) ∧ h.IsListIter i1 l i ∧ h.IsListIter i2 m i) where
  mem := by simp
  obj := fun i h st b hb => by
    obtain ⟨hz, hTI, ⟨a, c, hTO⟩, ⟨o1, g1, _, d1⟩, ⟨o2, g2, _, d2⟩⟩ := st
    have e' : b = z ∨ b = TI ∨ b = TO ∨ b = i1 ∨ b = i2 := by simpa using hb
    rcases e' with rfl | rfl | rfl | rfl | rfl
    · exact ⟨_, hz, fun v z => by cases z⟩
    · exact ⟨_, hTI, fun v z => by cases z⟩
    · exact ⟨_, hTO, fun v z => by cases z⟩
    · exact ⟨o1, g1, fun v z => by rw [d1] at z; cases z⟩
    · exact ⟨o2, g2, fun v z => by rw [d2] at z; cases z⟩
  keep := fun i h h' st kk => ⟨kk z (by simp) _ st.1, kk TI (by simp) _ st.2.1, let ⟨a, b, q⟩ := st.2.2.1; ⟨a, b, kk TO (by simp) _ q⟩, st.2.2.2.1.at fun o q => kk i1 (by simp) o q, st.2.2.2.2.at fun o q => kk i2 (by simp) o q⟩
  item := by
    intro X hP hw hK hc i pins s σ H E I hf st hg
    subst hP hw hK
    obtain ⟨xs, ys, x, y, hq1, hq2, hx, hy⟩ := hg
    obtain ⟨its1, rv1, p1, hz1⟩ := I.list hq1
    obtain ⟨its2, rv2, p2, hz2⟩ := I.list hq2
    obtain ⟨u, hu, ru⟩ := rv1.get hx
    obtain ⟨v, hv, rv⟩ := rv2.get hy
    obtain ⟨hz, hTI, ⟨a, b, hTO⟩, h1, h2⟩ := st
    have h10 := h1
    have h20 := h2
    refine wpAny_pyNext_zip_item D hz hTI hTO h1 h2 p1.isList p2.isList (x := u) (y := v) (by simpa using hu) (by simpa using hv) fun g1 a1 a2 a3 a4 a5 a6 hk => ⟨_, rfl, ?_⟩
    refine wpAny_letOwnedTupleGo_zip (s := { s with heap := g1 }) a1 fun g2 b1 bs => ?_
    have hlt : z < s.heap.objs.size := Heap.lt_size hz
    have hT2 : g2.get? s.heap.objs.size = some { cls := .type "tuple", data := .seq #[u, v] } := (bs.2 _ (Nat.ne_of_gt hlt)).trans a5
    obtain ⟨I2, n2⟩ := I.paired (t' := s.toks) (fp := [z, TI, TO, i1, i2]) (x := x) (y := y) (h' := g2) hf (fun b hb => by
      have e' : b = z ∨ b = TI ∨ b = TO ∨ b = i1 ∨ b = i2 := by simpa using hb
      rcases e' with rfl | rfl | rfl | rfl | rfl
      · exact ⟨_, hz⟩
      · exact ⟨_, hTI⟩
      · exact ⟨_, hTO⟩
      · obtain ⟨o, q, _⟩ := h10; exact ⟨o, q⟩
      · obtain ⟨o, q, _⟩ := h20; exact ⟨o, q⟩) (fun b o hb q => by
      have c1 : b ≠ z := fun w => hb (by simp [w])
      have c2 : b ≠ TO := fun w => hb (by simp [w])
      have c3 : b ≠ i1 := fun w => hb (by simp [w])
      have c4 : b ≠ i2 := fun w => hb (by simp [w])
      exact (bs.2 b c1).trans (hk b o c1 c2 c3 c4 q)) hT2 ru rv
    exact ⟨.ref s.heap.objs.size, _, I2, rfl, ⟨_, x, y, I.hok.fresh (Nat.le_refl _), fun zs hy => by rw [I.list_inj hy hq1]; exact hx, fun zs hy' => by rw [I.list_inj hy' hq2]; exact hy, rfl, rfl⟩,
      ⟨b1, (bs.2 _ D.TIz).trans (hk _ _ D.TIz D.TITO D.TIi1 D.TIi2 hTI), ⟨_, _, (bs.2 _ D.TOz).trans a2⟩, a3.at fun o q => (bs.2 _ D.i1z).trans q, a4.at fun o q => (bs.2 _ D.i2z).trans q⟩, n2⟩
  done := by
    intro X hP hw hK hc i pins s σ H E I hf st hg
    subst hP hw hK
    obtain ⟨xs, ys, hq1, hq2, hx⟩ := hg
    obtain ⟨its1, rv1, p1, hz1⟩ := I.list hq1
    obtain ⟨its2, rv2, p2, hz2⟩ := I.list hq2
    have l1 := rv1.length
    have l2 := rv2.length
    obtain ⟨hz, hTI, ⟨a, b, hTO⟩, h1, h2⟩ := st
    exact wpAny_pyNext_zip_end (I.ok.hd hc) D hz hTI hTO h1 h2 p1.isList p2.isList (by rcases hx with hx | hx; exact .inl (by simp; omega); exact .inr (by simp; omega)) fun h' eb =>
      ⟨rfl, I.turnedL (t' := s.toks) (fp := [z, TI, TO, i1, i2]) (fun b o hb q => eb b o (fun w => hb (by simp [w])) (fun w => hb (by simp [w])) (fun w => hb (by simp [w])) (fun w => hb (by simp [w])) q) hf⟩
  self := fun _ _ _ _ _ st h => wpAny_pyIter_zip st.1 h

section
variable {X : Cx}
def iEnum (K : PySem.W.Frag) (ta : TA) : TI := fun σ H R => ta σ H fun vs H1 => ∃ a, vs = [.ref a] ∧ (∃ xs, SqL K H1 a xs) ∧ R (Ite K a) H1
def iZip (K : PySem.W.Frag) (ta : TA) : TI := fun σ H R => ta σ H fun vs H1 => ∃ a b, vs = [.ref a, .ref b] ∧ (∃ xs, SqL K H1 a xs) ∧ (∃ ys, SqL K H1 b ys) ∧ R (Itz K a b) H1
theorem pi_enum {es : List Expr} {k : Nat} {tp : Pos} {a : Expr} {ta : TA} {p pos : Pos} (hg : Gl X "enumerate") (hm : X.mg "enumerate" = none) (ha : PA X [a] ta) (hs : starEach [a] X.env = [(false, eval a X.env)] := by rfl) : PI X (.Tuple es k tp) (.Call (.Name "enumerate" p) [a] [] pos) (iEnum X.K ta) := by
  intro pins s σ H R I h
  refine Call_ (ld_blt I hg hm boot_enumerate (PyProof.Rows.callWith_type1 (thn (ha pos pins s σ H _ I h) fun us s1 ⟨vs, H1, I1, r1, q1⟩ => ?_) hs rfl))
  obtain ⟨l, e, ⟨xs, hq⟩, q⟩ := q1
  subst e
  cases r1 with
  | cons r rr =>
    cases rr
    cases r
    obtain ⟨its, rv, pl, hz⟩ := I1.list hq
    refine call_enumerate_list pl.isList fun h' he hit hsz hk => ?_
    refine wpAny_pyIter_enum (s := { s1 with heap := h' }) he ?_
    refine ⟨s1.heap.objs.size + 1, [s1.heap.objs.size + 1, s1.heap.objs.size], _, _, H1, rfl, I1.kept (t' := s1.toks) hk, turn_enum l _ _ (Nat.succ_ne_self _), ⟨⟨_, he⟩, hit⟩, fun b hb => ?_, q⟩
    have e' : b = s1.heap.objs.size + 1 ∨ b = s1.heap.objs.size := by simpa using hb
    have hb' : s1.heap.objs.size ≤ b := by rcases e' with rfl | rfl; exact Nat.le_succ _; exact Nat.le_refl _
    exact I1.fpOk hb' (I1.hok.fresh hb')
theorem pi_zip {es : List Expr} {k : Nat} {tp : Pos} {a b : Expr} {ta : TA} {p pos : Pos} (hg : Gl X "zip") (hm : X.mg "zip" = none) (ha : PA X [a, b] ta) (hs : starEach [a, b] X.env = [(false, eval a X.env), (false, eval b X.env)] := by rfl) (hs2 : starEach [b] X.env = [(false, eval b X.env)] := by rfl) :
    PI X (.Tuple es k tp) (.Call (.Name "zip" p) [a, b] [] pos) (iZip X.K ta) := by
  intro pins s σ H R I h
  refine Call_ (ld_blt I hg hm boot_zip (PyProof.Rows.callWith_type1 (thn (ha pos pins s σ H _ I h) fun us s1 ⟨vs, H1, I1, r1, q1⟩ => ?_) (by rw [hs, hs2]) (by rw [hs2]; rfl)))
  obtain ⟨l, m, e, ⟨xs, hq1⟩, ⟨ys, hq2⟩, q⟩ := q1
  subst e
  cases r1 with
  | cons r rr =>
    cases rr with
    | cons r' rr =>
      cases rr
      cases r
      cases r'
      obtain ⟨its1, rv1, p1, hz1⟩ := I1.list hq1
      obtain ⟨its2, rv2, p2, hz2⟩ := I1.list hq2
      have lt1 : l < s1.heap.objs.size := by obtain ⟨o, e, _⟩ := p1.isList; exact Heap.lt_size e
      have lt2 : m < s1.heap.objs.size := by obtain ⟨o, e, _⟩ := p2.isList; exact Heap.lt_size e
      refine call_zip_2 p1.isList p2.isList fun h' hz hTI hTO hi1 hi2 hsz hk => ?_
      refine wpAny_pyIter_zip (s := { s1 with heap := h' }) hz ?_
      refine ⟨s1.heap.objs.size + 4, [s1.heap.objs.size + 4, s1.heap.objs.size + 2, s1.heap.objs.size + 3, s1.heap.objs.size, s1.heap.objs.size + 1], _, _, H1, rfl, I1.kept (t' := s1.toks) hk, turn_zip l m _ _ _ _ _ (zipApart_new lt1 lt2), ⟨hz, hTI, ⟨_, _, hTO⟩, hi1, hi2⟩, fun b hb => ?_, q⟩
      have hb' : s1.heap.objs.size ≤ b := by
        simp only [List.mem_cons, List.not_mem_nil, or_false] at hb
        rcases hb with rfl | rfl | rfl | rfl | rfl
        · exact Nat.le_add_right _ _
        · exact Nat.le_add_right _ _
        · exact Nat.le_add_right _ _
        · exact Nat.le_refl _
        · exact Nat.le_add_right _ _
      exact I1.fpOk hb' (I1.hok.fresh hb')
end
theorem for_enum {K : PySem.W.Frag} {a : Addr} {xs : List V} {g : TG} {tb : TS} {D : Ends} {σ : St} {H : Hp} (Pv : Nat → St → Hp → Prop) (h0 : Pv 0 σ H) (hl : ∀ i σ H, i ≤ xs.length → Pv i σ H → SqL K H a xs)
    (hs : ∀ i x p σ H, xs[i]? = some x → H p = none → Pv i σ H → g (.ref p) σ (upd H p (.tup [.int i, x])) fun σ2 H2 => tb { D with nx := Pv (i + 1), ct := Pv (i + 1), bk := D.nx } σ2 H2) (hd : ∀ σ H, Pv xs.length σ H → D.nx σ H) :
    ∃ W : Nat → Nat → St → Hp → Prop, (∃ m, W 0 m σ H) ∧ ∀ i m σ H, W i m σ H →
      ((Ite K a).stop i H ∧ D.nx σ H) ∨ ((Ite K a).go i H ∧ ∃ N : St → Hp → Prop, (∀ σ' H', N σ' H' → ∃ m', m' < m ∧ W (i + 1) m' σ' H') ∧ ∀ x H', (Ite K a).yld i H x H' → g x σ H' fun σ2 H2 => tb { D with nx := N, ct := N, bk := D.nx } σ2 H2) := by
  refine ⟨fun i m σ H => m = xs.length - i ∧ i ≤ xs.length ∧ Pv i σ H, ⟨xs.length, by simp, Nat.zero_le _, h0⟩, ?_⟩
  rintro i m σ H ⟨rfl, hi, p⟩
  have q := hl i σ H hi p
  by_cases hlt : i < xs.length
  · refine .inr ⟨⟨xs, xs[i], q, by simp [hlt]⟩, Pv (i + 1), fun σ' H' p' => ⟨xs.length - (i + 1), by omega, rfl, hlt, p'⟩, fun v H' y => ?_⟩
    obtain ⟨r, x, hr, y, rfl, rfl⟩ := y
    exact hs i x r σ _ (y xs q) hr p
  · have e : i = xs.length := by omega
    subst e
    exact .inl ⟨⟨xs, q, Nat.le_refl _⟩, hd σ H p⟩
theorem for_zip {K : PySem.W.Frag} {a b : Addr} {xs ys : List V} {g : TG} {tb : TS} {D : Ends} {σ : St} {H : Hp} (Pv : Nat → St → Hp → Prop) (h0 : Pv 0 σ H) (hl : ∀ i σ H, i ≤ xs.length → i ≤ ys.length → Pv i σ H → SqL K H a xs ∧ SqL K H b ys)
    (hs : ∀ i x y p σ H, xs[i]? = some x → ys[i]? = some y → H p = none → Pv i σ H → g (.ref p) σ (upd H p (.tup [x, y])) fun σ2 H2 => tb { D with nx := Pv (i + 1), ct := Pv (i + 1), bk := D.nx } σ2 H2) (hd : ∀ i σ H, i = min xs.length ys.length → Pv i σ H → D.nx σ H) :
    ∃ W : Nat → Nat → St → Hp → Prop, (∃ m, W 0 m σ H) ∧ ∀ i m σ H, W i m σ H →
      ((Itz K a b).stop i H ∧ D.nx σ H) ∨ ((Itz K a b).go i H ∧ ∃ N : St → Hp → Prop, (∀ σ' H', N σ' H' → ∃ m', m' < m ∧ W (i + 1) m' σ' H') ∧ ∀ x H', (Itz K a b).yld i H x H' → g x σ H' fun σ2 H2 => tb { D with nx := N, ct := N, bk := D.nx } σ2 H2) := by
  refine ⟨fun i m σ H => m = xs.length - i ∧ (i ≤ xs.length ∧ i ≤ ys.length) ∧ Pv i σ H, ⟨xs.length, by simp, ⟨Nat.zero_le _, Nat.zero_le _⟩, h0⟩, ?_⟩
  rintro i m σ H ⟨rfl, ⟨hi, hj⟩, p⟩
  obtain ⟨q1, q2⟩ := hl i σ H hi hj p
  by_cases hlt : i < xs.length ∧ i < ys.length
  · obtain ⟨h1, h2⟩ := hlt
    refine .inr ⟨⟨xs, ys, xs[i], ys[i], q1, q2, by simp [h1], by simp [h2]⟩, Pv (i + 1), fun σ' H' p' => ⟨xs.length - (i + 1), by omega, rfl, ⟨h1, h2⟩, p'⟩, fun v H' y => ?_⟩
    obtain ⟨r, x, y, hr, y1, y2, rfl, rfl⟩ := y
    exact hs i x y r σ _ (y1 xs q1) (y2 ys q2) hr p
  · exact .inl ⟨⟨xs, ys, q1, q2, by omega⟩, hd i σ H (by omega) p⟩
end L2

set_option Elab.async false
set_option linter.all false
set_option maxRecDepth 100000
namespace L2
open PySem PySem.Spec PyProof.Rows

section
variable {κ : Type} [DecidableEq κ]
def valV (kvs : List (κ × V)) (k : κ) : Option V := (kvs.find? fun kv => decide (kv.1 = k)).map (·.2)
def putK (kvs : List (κ × V)) (k : κ) (v : V) : List (κ × V) :=
  if (kvs.any fun kv => decide (kv.1 = k)) = true then kvs.map (fun kv => if kv.1 = k then (kv.1, v) else kv) else kvs ++ [(k, v)]
def dropK (kvs : List (κ × V)) (k : κ) : List (κ × V) := kvs.filter fun kv => decide (kv.1 ≠ k)

theorem valV_pos {p : κ × V} {r : List (κ × V)} {k : κ} (e : p.1 = k) : valV (p :: r) k = some p.2 := by simp [valV, List.find?_cons, e]
theorem valV_neg {p : κ × V} {r : List (κ × V)} {k : κ} (e : ¬ p.1 = k) : valV (p :: r) k = valV r k := by simp [valV, List.find?_cons, e]
theorem valV_any (k : κ) : ∀ kvs : List (κ × V), (kvs.any fun kv => decide (kv.1 = k)) = (valV kvs k).isSome
  | [] => rfl
  | p :: r => by
    rw [List.any_cons]
    by_cases e : p.1 = k
    · simp only [valV_pos e, decide_eq_true e, Bool.true_or, Option.isSome_some]
    · rw [valV_neg e, decide_eq_false e, Bool.false_or]; exact valV_any k r
theorem valV_map (k j : κ) (y : V) : ∀ kvs : List (κ × V), valV (kvs.map fun kv => if kv.1 = k then (kv.1, y) else kv) j = (valV kvs j).map fun x => if j = k then y else x
  | [] => rfl
  | p :: r => by
    have ih := valV_map k j y r
    rw [List.map_cons]
    by_cases h : p.1 = k
    · rw [if_pos h]
      by_cases e : p.1 = j
      · rw [valV_pos (p := (p.1, y)) e, valV_pos e, Option.map_some, if_pos (e.symm.trans h)]
      · rw [valV_neg (p := (p.1, y)) e, valV_neg e, ih]
    · rw [if_neg h]
      by_cases e : p.1 = j
      · rw [valV_pos (p := p) e, valV_pos e, Option.map_some, if_neg (fun z => h (e.trans z))]
      · rw [valV_neg (p := p) e, valV_neg e, ih]
theorem valV_snoc (k j : κ) (y : V) : ∀ kvs : List (κ × V), valV kvs k = none → valV (kvs ++ [(k, y)]) j = if j = k then some y else valV kvs j
  | [], _ => by
    by_cases e : k = j
    · rw [if_pos e.symm]; exact valV_pos (p := (k, y)) e
    · rw [if_neg (fun z => e z.symm)]; exact valV_neg (p := (k, y)) e
  | p :: r, hn => by
    rw [List.cons_append]
    have hk : ¬ p.1 = k := fun z => by rw [valV_pos z] at hn; cases hn
    rw [valV_neg hk] at hn
    have ih := valV_snoc k j y r hn
    by_cases e : p.1 = j
    · rw [valV_pos e, valV_pos e, if_neg (fun z => hk (e.trans z))]
    · rw [valV_neg e, valV_neg e, ih]
theorem valV_put (kvs : List (κ × V)) (k j : κ) (y : V) : valV (putK kvs k y) j = if j = k then some y else valV kvs j := by
  unfold putK
  by_cases a : (kvs.any fun kv => decide (kv.1 = k)) = true
  · rw [if_pos a, valV_map]
    rw [valV_any] at a
    by_cases e : j = k
    · obtain ⟨x, hx⟩ := Option.isSome_iff_exists.mp a
      rw [if_pos e, e, hx, Option.map_some, if_pos rfl]
    · rw [if_neg e]
      cases valV kvs j with
      | none => rfl
      | some x => rw [Option.map_some, if_neg e]
  · rw [if_neg a]
    refine valV_snoc k j y kvs ?_
    rw [valV_any] at a
    cases q : valV kvs k with
    | none => rfl
    | some x => rw [q] at a; exact (a rfl).elim
theorem length_putK (kvs : List (κ × V)) (k : κ) (v : V) : (putK kvs k v).length ≤ kvs.length + 1 := by
  unfold putK
  split
  · rw [List.length_map]; omega
  · rw [List.length_append, List.length_cons, List.length_nil]; omega
theorem putK_new {kvs : List (κ × V)} {k : κ} (v : V) (h : valV kvs k = none) : putK kvs k v = kvs ++ [(k, v)] := by
  unfold putK
  rw [valV_any, h]
  exact if_neg (by decide)

theorem RelO.isSome_eq {o : Option V} {u : Option Value} (r : RelO o u) : o.isSome = u.isSome := by
  cases o with
  | none => cases u with
    | none => rfl
    | some _ => exact (show False from r).elim
  | some _ => cases u with
    | none => exact (show False from r).elim
    | some _ => rfl
theorem RelO.getD {o : Option V} {u : Option Value} {d : V} {d' : Value} (r : RelO o u) (rd : RelV d d') : RelV (o.getD d) (u.getD d') := by
  cases o with
  | none => cases u with
    | none => exact rd
    | some _ => exact (show False from r).elim
  | some _ => cases u with
    | none => exact (show False from r).elim
    | some _ => exact r

theorem KV.val {kvs : List (κ × V)} {vs : List (κ × Value)} (r : KV kvs vs) (k : κ) : RelO (valV kvs k) (valueAt vs k) := by
  unfold KV at r
  induction r with
  | nil => exact True.intro
  | @cons p q ps qs h t ih =>
    obtain ⟨h1, h2⟩ := h
    by_cases e : p.1 = k
    · have e' : q.1 = k := h1.symm.trans e
      have b : valueAt (q :: qs) k = some q.2 := by simp [valueAt, List.find?_cons, e']
      rw [valV_pos e, b]; exact h2
    · have e' : ¬ q.1 = k := fun z => e (h1.trans z)
      have b : valueAt (q :: qs) k = valueAt qs k := by simp [valueAt, List.find?_cons, e']
      rw [valV_neg e, b]; exact ih
theorem KV.any {kvs : List (κ × V)} {vs : List (κ × Value)} (r : KV kvs vs) (k : κ) : (kvs.any fun kv => decide (kv.1 = k)) = vs.any fun kv => decide (kv.1 = k) := by
  unfold KV at r
  induction r with
  | nil => rfl
  | cons h t ih => rw [List.any_cons, List.any_cons, ih, h.1]
theorem KV.repl {kvs : List (κ × V)} {vs : List (κ × Value)} (r : KV kvs vs) (k : κ) {y : V} {u : Value} (ry : RelV y u) :
    KV (kvs.map fun kv => if kv.1 = k then (kv.1, y) else kv) (vs.map fun kv => if kv.1 = k then (kv.1, u) else kv) := by
  unfold KV at r ⊢
  induction r with
  | nil => exact .nil
  | @cons p q ps qs h t ih =>
    rw [List.map_cons, List.map_cons]
    refine .cons ?_ ih
    obtain ⟨h1, h2⟩ := h
    by_cases e : p.1 = k
    · rw [if_pos e, if_pos (h1.symm.trans e)]; exact ⟨h1, ry⟩
    · rw [if_neg e, if_neg (fun z => e (h1.trans z))]; exact ⟨h1, h2⟩
theorem KV.put {kvs : List (κ × V)} {vs : List (κ × Value)} (r : KV kvs vs) (k : κ) {y : V} {u : Value} (ry : RelV y u) : KV (putK kvs k y) (stored vs k u) := by
  unfold putK stored
  rw [r.any k]
  by_cases e : (vs.any fun kv => decide (kv.1 = k)) = true
  · rw [if_pos e, if_pos e]; exact r.repl k ry
  · rw [if_neg e, if_neg e]; exact Paired.snoc r ⟨rfl, ry⟩
theorem KV.drop {kvs : List (κ × V)} {vs : List (κ × Value)} (r : KV kvs vs) (k : κ) : KV (dropK kvs k) (without vs k) := by
  unfold KV at r ⊢
  unfold dropK without
  induction r with
  | nil => exact .nil
  | @cons p q ps qs h t ih =>
    obtain ⟨h1, h2⟩ := h
    rw [List.filter_cons, List.filter_cons]
    by_cases e : p.1 = k
    · have a : ¬ decide (p.1 ≠ k) = true := by simp [e]
      have b : ¬ decide (q.1 ≠ k) = true := by simp [h1.symm.trans e]
      rw [if_neg a, if_neg b]; exact ih
    · have e' : ¬ q.1 = k := fun z => e (h1.trans z)
      have a : decide (p.1 ≠ k) = true := by simp [e]
      have b : decide (q.1 ≠ k) = true := by simp [e']
      rw [if_pos a, if_pos b]; exact .cons ⟨h1, h2⟩ ih
theorem KV.keys {kvs : List (κ × V)} {vs : List (κ × Value)} (r : KV kvs vs) : kvs.map (·.1) = vs.map (·.1) := by
  unfold KV at r
  induction r with
  | nil => rfl
  | cons h t ih => rw [List.map_cons, List.map_cons, ih, h.1]
theorem KV.length {kvs : List (κ × V)} {vs : List (κ × Value)} (r : KV kvs vs) : kvs.length = vs.length := Paired.length r
end


theorem kV_is {P : Program} {w : World} {k : Key} {u : Value} (r : RelV (kV k) u) : (mixKind P w).is k u = true := by
  cases k with
  | inl i => obtain ⟨t, e⟩ := (show ∃ t, u = Value.int i t from r); subst e; exact mixKind_int P w i t
  | inr x => obtain ⟨t, e⟩ := (show ∃ t, u = Value.str x t from r); subst e; exact mixKind_str P w x t
theorem items_are {P : Program} {w : World} : ∀ {ks : List Key} {us : List Value}, Vals (ks.map kV) us → ItemsAre (mixKind P w) ks us
  | [], _, r => by rw [List.map_nil] at r; cases r; exact .nil
  | k :: ks, _, r => by
    rw [List.map_cons] at r
    cases r with
    | cons h t => exact .cons (kV_is h) (items_are t)

abbrev KT (H : Hp) : List (List Key × V) → List (List Key × Addr × Value) → Prop := Paired fun p q => p.1 = q.1 ∧ H q.2.1 = some (.tup (p.1.map kV)) ∧ RelV p.2 q.2.2
theorem KT.val {H : Hp} {kvs : List (List Key × V)} {xs : List (List Key × Addr × Value)} (r : KT H kvs xs) (k : List Key) : RelO (valV kvs k) ((atKey xs k).map (·.2)) := by
  induction r with
  | nil => exact True.intro
  | @cons p q ps qs h t ih =>
    obtain ⟨h1, _, h2⟩ := h
    by_cases e : p.1 = k
    · have e' : q.1 = k := h1.symm.trans e
      have b : atKey (q :: qs) k = some q.2 := by simp [atKey, List.find?_cons, e']
      rw [valV_pos e, b]; exact h2
    · have e' : ¬ q.1 = k := fun z => e (h1.trans z)
      have b : atKey (q :: qs) k = atKey qs k := by simp [atKey, List.find?_cons, e']
      rw [valV_neg e, b]; exact ih
theorem KT.repl {H : Hp} {kvs : List (List Key × V)} {xs : List (List Key × Addr × Value)} (r : KT H kvs xs) (k : List Key) {y : V} {u : Value} (ry : RelV y u) :
    KT H (kvs.map fun kv => if kv.1 = k then (kv.1, y) else kv) (xs.map (putAt k u)) := by
  induction r with
  | nil => exact .nil
  | @cons p q ps qs h t ih =>
    rw [List.map_cons, List.map_cons]
    refine .cons ?_ ih
    obtain ⟨h1, h2, h3⟩ := h
    unfold putAt
    by_cases e : p.1 = k
    · rw [if_pos e, if_pos (h1.symm.trans e)]; exact ⟨h1, h2, ry⟩
    · rw [if_neg e, if_neg (fun z => e (h1.trans z))]; exact ⟨h1, h2, h3⟩
theorem KT.put {H : Hp} {kvs : List (List Key × V)} {xs : List (List Key × Addr × Value)} (r : KT H kvs xs) (k : List Key) {b : Addr} {y : V} {u : Value} (hb : H b = some (.tup (k.map kV))) (ry : RelV y u) :
    KT H (putK kvs k y) (storedH xs k b u) := by
  have e : (kvs.any fun kv => decide (kv.1 = k)) = (atKey xs k).isSome := by
    rw [valV_any, (r.val k).isSome_eq, Option.isSome_map]
  unfold putK storedH
  rw [e]
  by_cases q : (atKey xs k).isSome = true
  · rw [if_pos q, if_pos q]; exact r.repl k ry
  · rw [if_neg q, if_neg q]; exact Paired.snoc r ⟨rfl, hb, ry⟩
theorem KT.keeps {H H' : Hp} {kvs : List (List Key × V)} {xs : List (List Key × Addr × Value)} (r : KT H kvs xs) (ht : ∀ b ys, H b = some (.tup ys) → H' b = some (.tup ys)) : KT H' kvs xs :=
  Paired.mapP r fun _ _ z => ⟨z.1, ht _ _ z.2.1, z.2.2⟩

section
variable {P : Program} {w : World} {H : Hp} {h : Heap} {a : Addr}
theorem rd_of {u : HO} (ok : HOk P w H h) (e : Rd H a u) : ObjOk P w H h a u := e.ok ok
theorem dk_rd {kvs : List (Key × V)} (ok : HOk P w H h) (e : Rd H a (.dK kvs)) : kvs.length ≤ sizeLine ∧ (a == sysModules) = false ∧ ∃ vs, KV kvs vs ∧ h.DictOf (mixKind P w) a vs :=
  show ObjOk P w H h a (.dK kvs) from rd_of ok e
theorem dk_of {kvs : List (Key × V)} (ok : HOk P w H h) (e : H a = some (.dK kvs)) : kvs.length ≤ sizeLine ∧ (a == sysModules) = false ∧ ∃ vs, KV kvs vs ∧ h.DictOf (mixKind P w) a vs := dk_rd ok (.inl e)
theorem key_of {ks : List Key} (ok : HOk P w H h) (e : H a = some (.tup (ks.map kV))) : (tupleKind (mixKind P w)).is h ks a := by
  obtain ⟨_, its, r, o, h1, h2, n, h3⟩ := (show ObjOk P w H h a (.tup (ks.map kV)) from ok a _ e)
  exact ⟨o, its.toArray, n, h1, h2, h3, by simpa using items_are r⟩
theorem dt_rd {kvs : List (List Key × V)} (ok : HOk P w H h) (e : Rd H a (.dT kvs)) : kvs.length ≤ sizeLine ∧ (a == sysModules) = false ∧
    ∃ xs, KT H kvs xs ∧ h.DictOfH (tupleKind (mixKind P w)) a xs := by
  obtain ⟨z, y, xs, r, o, es, ep, h1, h2, h3, h4, h5⟩ := (show ObjOk P w H h a (.dT kvs) from rd_of ok e)
  refine ⟨z, y, xs, r, o, es, ep, h1, h2, h3, h4, fun x hx => ?_, h5⟩
  have all : ∀ {l : List (List Key × V)} {m : List (List Key × Addr × Value)}, KT H l m → ∀ x ∈ m, (tupleKind (mixKind P w)).is h x.1 x.2.1 := by
    intro l m q
    induction q with
    | nil => intro x hx; exact nomatch hx
    | @cons p q ps qs hq t ih =>
      intro x hx
      rcases List.mem_cons.mp hx with e | hx
      · subst e
        exact key_of ok (by rw [← hq.1]; exact hq.2.1)
      · exact ih x hx
  exact all r x hx
theorem dt_of {kvs : List (List Key × V)} (ok : HOk P w H h) (e : H a = some (.dT kvs)) : kvs.length ≤ sizeLine ∧ (a == sysModules) = false ∧
    ∃ xs, KT H kvs xs ∧ h.DictOfH (tupleKind (mixKind P w)) a xs := dt_rd ok (.inl e)
end

def DGet (H : Hp) (a : Addr) (y : V) (r : Option V) : Prop :=
  (∃ kvs k, Rd H a (.dK kvs) ∧ y = kV k ∧ r = valV kvs k) ∨ ∃ kvs k b, Rd H a (.dT kvs) ∧ y = .ref b ∧ H b = some (.tup (k.map kV)) ∧ r = valV kvs k
def DPut (H : Hp) (a : Addr) (y v : V) (H' : Hp) : Prop :=
  (∃ kvs k, H a = some (.dK kvs) ∧ y = kV k ∧ kvs.length < sizeLine ∧ H' = upd H a (.dK (putK kvs k v))) ∨
  ∃ kvs k b, H a = some (.dT kvs) ∧ y = .ref b ∧ H b = some (.tup (k.map kV)) ∧ kvs.length < sizeLine ∧ H' = upd H a (.dT (putK kvs k v))
theorem DGet.k {H : Hp} {a : Addr} {kvs : List (Key × V)} {k : Key} (e : H a = some (.dK kvs)) : DGet H a (kV k) (valV kvs k) := .inl ⟨kvs, k, .inl e, rfl, rfl⟩
theorem DGet.t {H : Hp} {a b : Addr} {kvs : List (List Key × V)} {k : List Key} (e : H a = some (.dT kvs)) (eb : H b = some (.tup (k.map kV))) : DGet H a (.ref b) (valV kvs k) := .inr ⟨kvs, k, b, .inl e, rfl, eb, rfl⟩
theorem DPut.k {H : Hp} {a : Addr} {kvs : List (Key × V)} {k : Key} {v : V} (e : H a = some (.dK kvs)) (hl : kvs.length < sizeLine) : DPut H a (kV k) v (upd H a (.dK (putK kvs k v))) := .inl ⟨kvs, k, e, rfl, hl, rfl⟩
theorem DPut.t {H : Hp} {a b : Addr} {kvs : List (List Key × V)} {k : List Key} {v : V} (e : H a = some (.dT kvs)) (eb : H b = some (.tup (k.map kV))) (hl : kvs.length < sizeLine) :
    DPut H a (.ref b) v (upd H a (.dT (putK kvs k v))) := .inr ⟨kvs, k, b, e, rfl, eb, hl, rfl⟩


section
variable {X : Cx} {pins : List (Addr × Obj)} {σ : St} {H : Hp} {s : Shared} {a : Addr} {y v : V} {u r : Value} {o : Option V} {A : Around} {E : Value → Shared → Prop}

theorem Inv.big (I : Inv X pins σ H s) : sysModules < s.heap.objs.size := by
  have h : mainGlobals < s.heap.objs.size := (I.mod.glob.keeps I.bk).lt
  exact Nat.lt_trans (by decide) h

theorem d_in {Q : Value → Shared → Prop} (hu : A.units + 1 < cLine) (I : Inv X pins σ H s) (g : DGet H a y o) (ry : RelV y u) (h : ∀ s', Inv X pins σ H s' → Q (.bool o.isSome) s') :
    wpAny (model X.prog X.w) A (compareOp .In u (.ref a)) Q E s := by
  rcases g with ⟨kvs, k, e, ey, l⟩ | ⟨kvs, k, b, e, ey, eb, l⟩
  · subst ey
    obtain ⟨z, hd, vs, rel, dd⟩ := dk_rd I.hok e
    refine wpAny_in_of (kV_is ry) hd dd.mapOf ?_
    rw [← (rel.val k).isSome_eq, ← l]
    exact h _ (I.tok _)
  · subst ey
    cases (show u = Value.ref b from ry)
    obtain ⟨z, hd, xs, rel, dd⟩ := dt_rd I.hok e
    refine wpAny_in_heap (tupleKind_room_in1 hu) (key_of I.hok eb) hd dd ?_
    have q := (rel.val k).isSome_eq
    rw [Option.isSome_map] at q
    rw [← q, ← l]
    exact h _ (I.tok _)
theorem d_write {h' : Heap} {t' : Nat} {ob : HO} (I : Inv X pins σ H s) (mu : Mut (H a)) (hs : Heap.SameBut a s.heap h') (he : ∃ q, h'.get? a = some q) (new : ObjOk X.prog X.w (upd H a ob) h' a ob) :
    Inv X pins σ (upd H a ob) { s with heap := h', toks := t' } :=
  I.write (x := a) (e := a) mu (.inl rfl) (fun b q hb z => (hs.2 b hb).trans z) he new
theorem dk_new {P : Program} {w : World} {H' : Hp} {h' : Heap} {kvs : List (Key × V)} {vs : List (Key × Value)} (z : kvs.length ≤ sizeLine) (hd : (a == sysModules) = false) (rel : KV kvs vs) (dd : h'.DictOf (mixKind P w) a vs) :
    ObjOk P w H' h' a (.dK kvs) := ⟨z, hd, vs, rel, dd⟩
theorem d_setItem {H' : Hp} {Q : Unit → Shared → Prop} (hu : A.units + 1 < cLine) (I : Inv X pins σ H s) (g : DPut H a y v H') (ry : RelV y u) (rv : RelV v r) (h : ∀ s', Inv X pins σ H' s' → Q () s') :
    wpAny (model X.prog X.w) A (setItem (.ref a) u r) Q E s := by
  rcases g with ⟨kvs, k, e, ey, l, eH⟩ | ⟨kvs, k, b, e, ey, eb, l, eH⟩
  · subst ey eH
    obtain ⟨z, hd, vs, rel, dd⟩ := dk_of I.hok e
    have hz : vs.length ≤ sizeLine := by rw [← rel.length]; exact z
    have hl : (putK kvs k v).length ≤ sizeLine := by have := length_putK kvs k v; omega
    refine wpAny_setItem_pairs (hsz := hz) (kV_is ry) dd fun h' dd' hs => h _ ?_
    have he : ∃ q, h'.get? a = some q := let ⟨q, _, _, hq, _⟩ := dd'; ⟨q, hq⟩
    exact d_write I (by rw [e]; exact True.intro) hs he (dk_new hl hd (rel.put k rv) dd')
  · subst ey eH
    cases (show u = Value.ref b from ry)
    obtain ⟨z, hd, xs, rel, dd⟩ := dt_of I.hok e
    have hz : xs.length ≤ sizeLine := by rw [← Paired.length rel]; exact z
    have hl : (putK kvs k v).length ≤ sizeLine := by have := length_putK kvs k v; omega
    refine wpAny_setItem_heap (hsz := hz) (tupleKind_room_in1 hu) (key_of I.hok eb) dd fun h' dd' hs => h _ ?_
    obtain ⟨q, es, ep, hq, h2, h3, h4, _, h5⟩ := dd'
    refine d_write I (by rw [e]; exact True.intro) hs ⟨q, hq⟩ ⟨hl, hd, _, (rel.put k eb rv).keeps fun c ys ec => ?_, q, es, ep, hq, h2, h3, h4, h5⟩
    rw [upd_ne (ne_of ec e (fun z => nomatch z))]
    exact ec
end

section
variable {X : Cx} {pins : List (Addr × Obj)} {σ : St} {H : Hp} {s : Shared} {a : Addr} {kvs : List (Key × V)} {k : Key} {u : Value} {A : Around} {E : Value → Shared → Prop}
theorem d_len {Q : Value → Shared → Prop} (I : Inv X pins σ H s) (e : Rd H a (.dK kvs)) (h : ∀ t s', Inv X pins σ H s' → Q (.int kvs.length t) s') : wpAny (model X.prog X.w) A (call (.builtin "len") [.ref a]) Q E s := by
  obtain ⟨z, hd, vs, rel, dd⟩ := dk_rd I.hok e
  refine call_len_dict hd dd (by rw [← rel.length]; rw [sizeLine_eq] at z; omega) ?_
  rw [← rel.length]
  exact h _ _ (I.tok _)
end


def tDIn (ty td : TE) : TE := fun σ H Q => ty σ H fun y H1 => td σ H1 fun x H2 => ∃ a o, x = .ref a ∧ DGet H2 a y o ∧ Q (.bl o.isSome) H2
def sDPut (td ty tv : TE) : TS := fun D σ H => tv σ H fun v H1 => td σ H1 fun x H2 => ty σ H2 fun y H3 => ∃ a H4, x = .ref a ∧ DPut H3 a y v H4 ∧ D.nx σ H4
section
variable {X : Cx} {o i e value : Expr} {pos pos' tpos : Pos} {td ty tv : TE}
theorem pc_din (hu : X.A.units + 1 < cLine) (hi : PE X i ty) (ho : PE X o td) : PC X .In i o (tDIn ty td) := by
  intro pins s σ H Q I h
  refine thn (hi pins s σ H _ I h) fun iv s1 ⟨y, H1, I1, ry, q1⟩ => thn (ho pins s1 σ H1 _ I1 q1) fun u s2 ⟨x, H2, I2, rx, a, ov, ex, g, q2⟩ => ?_
  subst ex
  obtain rfl : u = Value.ref a := rx
  exact d_in hu I2 g ry fun s3 I3 => ⟨.bl ov.isSome, H2, I3, rfl, q2⟩
theorem ps_dput (hu : X.A.units + 1 < cLine) (ho : PE X o td) (hi : PE X i ty) (hv : PE X value tv) (hs : swapsWith value (some (.Subscript o i pos')) pos.line X.env = pure false) :
    PS X (.Assign [.Subscript o i pos'] value pos) (sDPut td ty tv) := by
  intro pins s σ H D I h
  refine wpAny_Assign_Subscript (thn (hv pins s σ H _ I h) fun r s1 ⟨v, H1, I1, rv, q1⟩ => thn (ho pins s1 σ H1 _ I1 q1) fun u s2 ⟨x, H2, I2, rx, q2⟩ => thn (hi pins s2 σ H2 _ I2 q2) fun iv s3 ⟨y, H3, I3, ry, a, H4, ex, g, q3⟩ => ?_) hs
  subst ex
  obtain rfl : u = Value.ref a := rx
  exact d_setItem hu I3 g ry rv fun s4 I4 => ⟨σ, H4, I4, q3⟩
end


theorem dt_empty {P : Program} {w : World} {H : Hp} (h : Heap) (hb : sysModules < h.objs.size) : ObjOk P w H (h.push { cls := .type "dict", data := .dict #[] }) h.objs.size (.dT []) :=
  ⟨Nat.zero_le _, beq_eq_false_iff_ne.mpr (Ne.symm (Nat.ne_of_lt hb)), [], .nil, _, #[], 0, Heap.get?_push_size _ rfl, ⟨rfl, rfl, rfl⟩, rfl, rfl, List.nodup_nil⟩
def tDNewT : TE := fun _ H Q => ∀ p, H p = none → Q (.ref p) (upd H p (.dT []))
section
variable {X : Cx} {pos : Pos}
theorem pe_dnewT : PE X (.Dict [] [] pos) tDNewT := fun pins s σ H Q I h =>
  wpAny_Dict_empty ⟨.ref s.heap.objs.size, _, I.laid (a := s.heap.objs.size) (o := .dT []) (t' := s.toks) (fun _ _ q => Heap.get?_push_of_some _ q) (Nat.le_refl _) (dt_empty s.heap I.big), rfl, h _ (I.hok.fresh (Nat.le_refl _))⟩
end

abbrev VV : List (V × V) → List (Value × Value) → Prop := Paired fun p q => RelV p.1 q.1 ∧ RelV p.2 q.2
def mergeK (kvs more : List (Key × V)) : List (Key × V) := more.foldl (fun acc kv => putK acc kv.1 kv.2) kvs
theorem KV.merge : ∀ {more : List (Key × V)} {rs : List (Key × Value)} {kvs : List (Key × V)} {vs : List (Key × Value)}, KV more rs → KV kvs vs → KV (mergeK kvs more) (merged vs rs) := by
  intro more rs kvs vs r
  unfold KV at r
  induction r generalizing kvs vs with
  | nil => intro q; exact q
  | @cons p q ps qs h t ih =>
    intro r0
    have e : KV (putK kvs p.1 p.2) (stored vs q.1 q.2) := by
      have := r0.put p.1 h.2
      rw [← h.1]; exact this
    exact ih e
theorem length_mergeK : ∀ (more kvs : List (Key × V)), (mergeK kvs more).length ≤ kvs.length + more.length
  | [], kvs => by show kvs.length ≤ kvs.length + 0; omega
  | p :: r, kvs => by
    have h1 := length_mergeK r (putK kvs p.1 p.2)
    have h2 := length_putK kvs p.1 p.2
    show (mergeK (putK kvs p.1 p.2) r).length ≤ _
    rw [List.length_cons]; omega
structure M1 (X : Cx) (o : Expr) (m : Str) (apos : Pos) (e : Expr) (cpos : Pos) : Prop where
  base : attributeBase o m X.env (eval o X.env) = eval o X.env
  few : ((backTo cpos (starEach [e] X.env)).all (fun x => !x.1) && (backToKw cpos (keywordEach [] X.env)).all (fun x => x.1.isSome)
    && decide (([e] : List Expr).length + ([] : List Keyword).length + (if ([] : List Keyword).isEmpty then 0 else 1) < 30)) = true
  line : (apos.endLine == cpos.line) = true
  trees : backTo cpos (starEach [e] X.env) = [(false, eval e X.env)]
structure M2 (X : Cx) (o : Expr) (m : Str) (apos : Pos) (e f : Expr) (cpos : Pos) : Prop where
  base : attributeBase o m X.env (eval o X.env) = eval o X.env
  few : ((backTo cpos (starEach [e, f] X.env)).all (fun x => !x.1) && (backToKw cpos (keywordEach [] X.env)).all (fun x => x.1.isSome)
    && decide (([e, f] : List Expr).length + ([] : List Keyword).length + (if ([] : List Keyword).isEmpty then 0 else 1) < 30)) = true
  line : (apos.endLine == cpos.line) = true
  trees : backTo cpos (starEach [e, f] X.env) = [(false, eval e X.env), (false, eval f X.env)]

def IsD (H : Hp) (a : Addr) : Prop := (∃ kvs, Rd H a (.dK kvs)) ∨ ∃ kvs, Rd H a (.dT kvs)
theorem isD_at {X : Cx} {pins : List (Addr × Obj)} {σ : St} {H : Hp} {s : Shared} {a : Addr} (I : Inv X pins σ H s) (d : IsD H a) :
    s.TypeIs (.ref a) "dict" ∧ (∀ b, Value.ref a = .ref b → ∃ ob, s.heap.get? b = some ob ∧ ob.dict = none) ∧ (a == sysModules) = false := by
  rcases d with ⟨kvs, e⟩ | ⟨kvs, e⟩
  · obtain ⟨_, hd, vs, _, dd⟩ := dk_rd I.hok e
    refine ⟨dd.typeIs, fun b q => ?_, hd⟩
    cases q
    obtain ⟨ob, _, _, h1, h2, _⟩ := dd
    exact ⟨ob, h1, h2.2.1⟩
  · obtain ⟨_, hd, xs, _, dd⟩ := dt_rd I.hok e
    refine ⟨dd.typeIs, fun b q => ?_, hd⟩
    cases q
    obtain ⟨ob, _, _, h1, h2, _⟩ := dd
    exact ⟨ob, h1, h2.2.1⟩

section
variable {X : Cx} {pins : List (Addr × Obj)} {σ : St} {H : Hp} {s : Shared} {a : Addr} {y d : V} {u r : Value} {o : Option V} {A : Around} {E : Value → Shared → Prop}
theorem d_get1 {Q : Value → Shared → Prop} (hu : A.units + 1 < cLine) (I : Inv X pins σ H s) (g : DGet H a y o) (ry : RelV y u) (h : ∀ w' s', Inv X pins σ H s' → RelV (o.getD .non) w' → Q w' s') :
    wpAny (model X.prog X.w) A (call (.builtin "dict.get") [.ref a, u]) Q E s := by
  rcases g with ⟨kvs, k, e, ey, l⟩ | ⟨kvs, k, b, e, ey, eb, l⟩
  · subst ey
    obtain ⟨z, hd, vs, rel, dd⟩ := dk_rd I.hok e
    refine call_meetsIn PySem.F.slot_dict_get dd.typeIs PySem.F.entry_dict_get (PySem.F.args_dict_get_2 _ _) (meets_dict_get (mixKind X.prog X.w) a (kV_is ry) hd) ⟨_, dd.mapOf, h _ _ (I.tok _) ?_⟩
    rw [l]
    exact (rel.val k).getD rfl
  · subst ey
    cases (show u = Value.ref b from ry)
    obtain ⟨z, hd, xs, rel, dd⟩ := dt_rd I.hok e
    refine call_meetsIn PySem.F.slot_dict_get dd.typeIs PySem.F.entry_dict_get (PySem.F.args_dict_get_2 _ _) (meetsH_dict_get (tupleKind (mixKind X.prog X.w)) a b hd) ⟨tupleKind_room_in1 hu, k, xs, key_of I.hok eb, dd, h _ _ (I.tok _) ?_⟩
    rw [l]
    exact (rel.val k).getD rfl
end

def tDGet1 (td ty : TE) : TE := fun σ H Q => td σ H fun x H1 => ∃ a, x = .ref a ∧ IsD H1 a ∧ ty σ H1 fun y H2 => ∃ o, DGet H2 a y o ∧ Q (o.getD .non) H2
section
variable {X : Cx} {o e f : Expr} {apos cpos : Pos} {td ty tx : TE}
theorem pe_dget1 (hu : X.A.units + 1 < cLine) (ho : PE X o td) (he : PE X e ty) (m : M1 X o "get" apos e cpos) : PE X (.Call (.Attribute o "get" apos) [e] [] cpos) (tDGet1 td ty) := by
  intro pins s σ H Q I h
  refine wpAny_Call_method m.base m.few m.line PySem.F.plainAttrs_dict PySem.F.slot_dict_get PySem.F.type_dict_get (thn (ho pins s σ H _ I h) fun u s1 ⟨x, H1, I1, rx, a, ex, d, q1⟩ => ?_)
  subst ex
  obtain rfl : u = Value.ref a := rx
  obtain ⟨t1, t2, _⟩ := isD_at I1 d
  refine ⟨t1, t2, ?_⟩
  rw [m.trees]
  refine Calls.callWith_builtin rfl (Calls.evalArgs_plain (Calls.spliced_cons (thn (he pins s1 σ H1 _ I1 q1) fun iv s2 ⟨y, H2, I2, ry, ov, g, q2⟩ => Calls.spliced_nil ?_)))
  exact d_get1 hu I2 g ry fun w' s3 I3 rw' => ⟨_, H2, I3, rw', q2⟩
end

section
variable {X : Cx} {pins : List (Addr × Obj)} {σ : St} {H : Hp} {s : Shared} {a : Addr} {kvs : List (Key × V)} {A : Around} {E : Value → Shared → Prop}
end


section
variable {X : Cx} {pins : List (Addr × Obj)} {σ : St} {H : Hp} {s : Shared} {a : Addr} {y : V} {u : Value} {A : Around} {E : Value → Shared → Prop}
end
end L2

namespace L2
open PySem PySem.Spec PyProof.Rows
section
variable {X : Cx}
theorem call_lenD : CallR X (.builtin "len") (fun xs H Q => ∃ a kvs, xs = [V.ref a] ∧ H a = some (.dK kvs) ∧ Q (.int kvs.length) H) := by
  intro pins s σ H xs us Q I r h
  obtain ⟨a, kvs, rfl, ha, q⟩ := h
  obtain ⟨u, rfl, ru⟩ := vals1 r
  cases ru
  exact d_len I (.inl ha) fun t s' I' => ⟨.int kvs.length, H, I', ⟨t, rfl⟩, q⟩
end
section
variable {κ : Type} [DecidableEq κ]
end
end L2

set_option Elab.async false
set_option linter.all false
set_option maxRecDepth 100000
set_option maxHeartbeats 4000000
namespace L2
open PySem PySem.Spec PyProof.Rows

section
variable {prog : Program} {w : World} {A : Around} {E : Value → Shared → Prop} {s : Shared} {κ : Type} [DecidableEq κ] {knd : KeyKind prog w κ}
theorem extend_dict {R : Result → Shared → Prop} {d : Addr} {kvs : List (κ × Value)} {ep : Nat} (hh : A.handled = none) (hd : (d == sysModules) = false) (hm : s.heap.DictAt knd d kvs ep) (hlen : kvs.length ≤ sizeLine)
    (S : Addr) (hSd : S ≠ d) (res : Value) (c₀ : Nat) (hS : s.heap.get? S = some { cls := .type "list", data := .seq #[] c₀ })
    (hR : ∀ h' tk acc' c', (∀ b o, b ≠ S → s.heap.get? b = some o → h'.get? b = some o) → h'.get? S = some { cls := .type "list", dict := none, data := .seq acc' c', slots := #[] } →
      ItemsOf (fun i v => ∃ k x, kvs[i]? = some (k, x) ∧ knd.is k v = true) acc' kvs.length → R (.ok (.ret res)) { s with heap := h', toks := tk }) :
    wpAny (model prog w) A.in1 (Builtin.List.listExtendWith (.ref S) (.ref d) res)
      (fun fin s' => match fin with | .done f => R (.ok f) s' | .again c' => c'.quiet = true ∧ codeAny (model prog w) A c' R s') (fun e s' => R (.error e) s') s := by
  have hSlt : S < s.heap.objs.size := Heap.lt_size hS
  have hdlt : d < s.heap.objs.size := hm.lt_size
  have hSI : S ≠ s.heap.objs.size := Nat.ne_of_lt hSlt
  have hSf : S ∉ [s.heap.objs.size, d] := fun hmm => by
    rcases List.mem_cons.mp hmm with e | e
    · exact hSI e
    · exact hSd (List.mem_singleton.mp e)
  have W := (Walks.dictKeys (prog := prog) (w := w) (A := A.in1) (knd := knd) hh s.heap.objs.size d (Nat.ne_of_lt hdlt) kvs ep).toS
  have hT : s.TypeIs (.ref d) "dict" := hm.dictOf.typeIs
  unfold Builtin.List.listExtendWith
  refine wpAny_bind (wpAny_typeOf (T := "dict") hT ?_)
  have h1 : Builtin.List.listSameRef (.ref S) (.ref d) = false := by simp [Builtin.List.listSameRef, hSd]
  have h2 : (Value.type "dict" == Value.type "list") = false := by decide
  have h3 : (Value.type "dict" == Value.type "tuple") = false := by decide
  simp only [h1, h2, h3, Bool.or_false, Bool.false_eq_true, if_false]
  refine wpAny_bind (wpAny_pyIter_dict hd hm ?_)
  refine wpAny_bind (wpAny_holding ?_)
  have hm1 := hm.push { cls := .type "dict_keyiterator", data := .fields #[.ref d, .int 0 0, .int kvs.length 0, .int ep 0] }
  have hT1 : Shared.TypeIs { s with heap := s.heap.push { cls := .type "dict_keyiterator", data := .fields #[.ref d, .int 0 0, .int kvs.length 0, .int ep 0] } } (.ref d) "dict" := Heap.DictOf.typeIs (s := { s with heap := s.heap.push { cls := .type "dict_keyiterator", data := .fields #[.ref d, .int 0 0, .int kvs.length 0, .int ep 0] } }) hm1.dictOf
  unfold Builtin.List.listLengthHint
  refine wpAny_bind (wpAny_specialOf (T := "dict") hT1 F.slot_dict_len.lookup ?_)
  generalize hid : ("dict.__len__" : String) = id0
  wp_delta
  rw [show splitId id0 = some ("dict", "__len__") from by subst hid; decide +kernel]
  subst hid
  refine wpAny_bind (wpAny_isInstance (T := "dict") (b := true) hT1 (by rw [isSubtype_type]; kernel_rfl) ?_)
  refine wpAny_ite_split (fun hab => absurd hab (by decide)) (fun _ => ?_)
  refine wpAny_ite_split (fun _ => ?_) (fun hab => absurd (by decide +kernel) hab)
  refine wpAny_bind (wpAny_typeOf (T := "dict") hT1 ?_)
  refine wpAny_pure ?_
  rw [if_pos (by decide +kernel)]
  have hS₁ := Heap.get?_push_of_some { cls := .type "dict_keyiterator", data := .fields #[.ref d, .int 0 0, .int kvs.length 0, .int ep 0] } hS
  have it₁ : (s.heap.push { cls := .type "dict_keyiterator", data := .fields #[.ref d, .int 0 0, .int kvs.length 0, .int ep 0] }).get? s.heap.objs.size = some _ := Heap.get?_push_size _ rfl
  refine wpAny_bind (wpAny_rule ?_)
  refine wpAny_bind ?_
  show wpAny _ _ (updateSeq S (·.push .none) >>= fun _ => updateSeq S (·.pop)) _ _ _
  refine wpAny_bind (wpAny_updateSeq hS₁ rfl ?_)
  have hS₂ := Heap.get?_update_self (Obj.mapSeq (·.push Value.none)) hS₁ rfl
  refine wpAny_updateSeq (hz := by seq_fits) hS₂ rfl ?_
  have hS₃ := Heap.get?_update_self (Obj.mapSeq (·.pop)) hS₂ rfl
  have up : ∀ b o, b ≠ S → (s.heap.push { cls := .type "dict_keyiterator", data := .fields #[.ref d, .int 0 0, .int kvs.length 0, .int ep 0] }).get? b = some o → (((s.heap.push { cls := .type "dict_keyiterator", data := .fields #[.ref d, .int 0 0, .int kvs.length 0, .int ep 0] }).update S (Obj.mapSeq (·.push Value.none))).update S (Obj.mapSeq (·.pop))).get? b = some o :=
    fun b o hb e => (Heap.get?_update_other _ _ (Ne.symm hb)).trans ((Heap.get?_update_other _ _ (Ne.symm hb)).trans e)
  refine wpAny_pure ⟨plainId_quiet F.plain_extend_loop _, codeAny_extend_loopS W hlen _ hSf _ kvs.length 0 _ _ _ rfl (Nat.zero_le _) ⟨⟨_, up _ _ (Ne.symm hSI) it₁, rfl, rfl⟩, hm1.at' fun o e => up d o (Ne.symm hSd) e⟩ hS₃ (ItemsOf.nil _) fun s' acc' c' hmv hS' hacc => ?_⟩
  rw [Moved.eq_with hmv]
  refine hR s'.heap s'.toks acc' c' (fun b ob hb e => hmv.heap b ob (fun hmem => ?_) (up b ob hb (Heap.get?_push_of_some _ e))) hS' hacc
  rcases List.mem_cons.mp hmem with e' | hmem
  · exact hb e'
  · exact absurd (Heap.lt_size e) (by rw [List.mem_singleton.mp hmem]; exact Nat.lt_irrefl _)
theorem init_dict {R : Result → Shared → Prop} {d : Addr} {kvs : List (κ × Value)} {ep : Nat} (hh : A.handled = none) (hd : (d == sysModules) = false) (hm : s.heap.DictAt knd d kvs ep) (hlen : kvs.length ≤ sizeLine)
    (S : Addr) (hSd : S ≠ d) (hS : s.heap.get? S = some { cls := .type "list", data := .seq #[] })
    (hR : ∀ h' tk acc' c', (∀ b o, b ≠ S → s.heap.get? b = some o → h'.get? b = some o) → h'.get? S = some { cls := .type "list", dict := none, data := .seq acc' c', slots := #[] } →
      ItemsOf (fun i v => ∃ k x, kvs[i]? = some (k, x) ∧ knd.is k v = true) acc' kvs.length → R (.ok (.ret .none)) { s with heap := h', toks := tk }) :
    wpAny (model prog w) A.in1 (Builtin.«list.__init__» ⟨[.ref S, .ref d], []⟩)
      (fun fin s' => match fin with | .done f => R (.ok f) s' | .again c' => c'.quiet = true ∧ codeAny (model prog w) A c' R s') (fun e s' => R (.error e) s') s := by
  show wpAny _ _ (do let old ← Builtin.List.listItems (.ref S); Builtin.List.listUpdate (.ref S) (fun _ => #[]); letGo old.toList.reverse; Builtin.List.listExtendWith (.ref S) (.ref d) .none) _ _ s
  refine wpAny_bind ?_
  unfold Builtin.List.listItems
  refine wpAny_bind (wpAny_seqItems hS rfl (wpAny_pure ?_))
  show wpAny _ _ (updateSeq S (fun _ => #[]) >>= fun _ => letGo (#[] : Array Value).toList.reverse >>= fun _ => Builtin.List.listExtendWith (.ref S) (.ref d) .none) _ _ s
  refine wpAny_bind (wpAny_updateSeq hS rfl ?_)
  have hS₂ := Heap.get?_update_self (Obj.mapSeq (fun _ => (#[] : Array Value))) hS rfl
  have oth : ∀ b o, b ≠ S → s.heap.get? b = some o → (s.heap.update S (Obj.mapSeq (fun _ => (#[] : Array Value)))).get? b = some o :=
    fun b o hb e => (Heap.get?_update_other _ _ (Ne.symm hb)).trans e
  refine wpAny_bind (wpAny_letGo ?_)
  refine extend_dict (s := { s with heap := s.heap.update S (Obj.mapSeq (fun _ => (#[] : Array Value))) }) hh hd (hm.at' fun o e => oth d o (Ne.symm hSd) e) hlen S hSd .none _ hS₂ fun h' tk acc' c' hk hS' hacc => ?_
  exact hR h' tk acc' c' (fun b o hb e => hk b o hb (oth b o hb e)) hS' hacc
theorem callLD {d : Addr} {kvs : List (κ × Value)} {ep : Nat} {Q : Value → Shared → Prop} (hh : A.handled = none) (hd : (d == sysModules) = false) (hm : s.heap.DictAt knd d kvs ep) (hlen : kvs.length ≤ sizeLine)
    (hQ : ∀ h' tk acc' c', (∀ b o, s.heap.get? b = some o → h'.get? b = some o) →
      h'.get? s.heap.objs.size = some { cls := .type "list", dict := none, data := .seq acc' c', slots := #[] } → ItemsOf (fun i v => ∃ k x, kvs[i]? = some (k, x) ∧ knd.is k v = true) acc' kvs.length → Q (.ref s.heap.objs.size) { s with heap := h', toks := tk }) :
    wpAny (model prog w) A (call (.type "list") [.ref d]) Q E s := by
  refine callType_codes (Q₁ := fun obj s₁ => obj = .ref s.heap.objs.size ∧ s₁ = { s with heap := s.heap.push { cls := .type "list", data := .seq #[] } }) F.called_list (F.typeCall_list_1 _) F.entry_list_init
    (code_list_new _ ⟨rfl, rfl⟩) fun obj s₁ h₁ => ?_
  obtain ⟨rfl, rfl⟩ := h₁
  have hS : (s.heap.push { cls := .type "list", data := .seq #[] }).get? s.heap.objs.size = some { cls := .type "list", data := .seq #[] } := Heap.get?_push_size _ rfl
  refine ⟨⟨_, hS, rfl⟩, F.args_list_init_2 _ _, init_dict (s := { s with heap := s.heap.push { cls := .type "list", data := .seq #[] } }) (A := A.in1) hh hd (hm.push _) hlen _ (Nat.ne_of_gt hm.lt_size) hS fun h' tk acc' c' hk hS' hacc => ?_⟩
  exact ⟨rfl, hQ h' tk acc' c' (fun b o e => hk b o (Nat.ne_of_lt (Heap.lt_size e)) (Heap.get?_push_of_some _ e)) hS' hacc⟩
end
section
variable {X : Cx}
theorem keys_vals : ∀ {kvs : List (Key × V)} {vs : List (Key × Value)} {acc : List Value}, KV kvs vs → acc.length = vs.length → (∀ (j : Nat) (v : Value), acc[j]? = some v → ∃ (k : Key) (x : Value), vs[j]? = some (k, x) ∧ (mixKind X.prog X.w).is k v = true) → Vals (kvs.map fun kv => kV kv.1) acc
  | _, _, [], .nil, _, _ => .nil
  | _, _, [], .cons _ _, e, _ => by cases e
  | _, _, _ :: _, .nil, e, _ => by cases e
  | (k0, _) :: _, (k1, _) :: _, u :: us, .cons r t, e, h => by
    obtain ⟨rk, _⟩ := r
    obtain ⟨k, x, e0, i0⟩ := h 0 u rfl
    cases e0
    refine .cons ?_ (keys_vals t (Nat.succ.inj e) fun j v q => h (j + 1) v q)
    have rk' : k0 = k1 := rk
    subst rk'
    cases k0 with
    | inl i => exact Value.isInt_shape i0
    | inr z => exact Value.isStrOf_shape i0
theorem call_list_dict (hc : X.calm = true) : CallR X (.type "list") (fun xs H Q => ∃ d kvs, xs = [.ref d] ∧ H d = some (.dK kvs) ∧ ∀ l, H l = none → Q (.ref l) (upd H l (.lst (kvs.map fun kv => kV kv.1)))) := by
  intro pins s σ H xs us Q I r h
  obtain ⟨d, kvs, rfl, hd, q⟩ := h
  obtain ⟨u, rfl, rx⟩ := vals1 r
  cases rx
  obtain ⟨hl, hs, vs, kv, hD⟩ := I.hok d _ hd
  obtain ⟨ep, hA⟩ := hD.dictAt
  have hlen : vs.length = kvs.length := (Paired.length kv).symm
  refine callLD (I.ok.hd hc) hs hA (by omega) fun h' tk acc' c' kp e hacc => ?_
  obtain ⟨acc⟩ := acc'
  refine ⟨.ref s.heap.objs.size, _, I.laid (t' := tk) kp (Nat.le_refl _) (show ObjOk X.prog X.w _ h' _ (.lst (kvs.map fun kv => kV kv.1)) from ⟨by rw [List.length_map]; exact hl, acc, c', keys_vals (X := X) kv (by simpa using hacc.1) (fun j v q => hacc.2 j v (by simpa using q)), e⟩), rfl, q _ (I.hok.fresh (Nat.le_refl _))⟩
theorem call_int_bl : CallR X (.type "int") (fun xs H Q => ∃ b, xs = [.bl b] ∧ Q (.int (if b = true then 1 else 0)) H) := by
  intro pins s σ H xs us Q I r h
  obtain ⟨b, rfl, q⟩ := h
  obtain ⟨u, rfl, rx⟩ := vals1 r
  cases rx
  refine PySem.call_int_bool ⟨.int (if b = true then 1 else 0), H, I.tok _, ⟨_, rfl⟩, q⟩
end
end L2

set_option Elab.async false
set_option linter.all false
set_option maxRecDepth 100000
set_option maxHeartbeats 4000000
namespace K1
open PySem L2

def wo (H : Hp) (l : Addr) : Hp := fun a => if a = l then none else H a
theorem wo_ne {H : Hp} {l a : Addr} (h : a ≠ l) : wo H l a = H a := if_neg h
theorem wo_same {H : Hp} {l : Addr} : Same (wo H l) H := fun a o e => by
  by_cases h : a = l
  · rw [wo, if_pos h] at e; cases e
  · rw [wo_ne h] at e; exact e
theorem wo_of {H : Hp} {l a : Addr} {o : HO} (e : wo H l a = some o) : a ≠ l ∧ H a = some o := by
  by_cases h : a = l
  · rw [wo, if_pos h] at e; cases e
  · rw [wo_ne h] at e; exact ⟨h, e⟩
theorem wo_mono {H H' : Hp} {l : Addr} (s : Same H H') : Same (wo H l) (wo H' l) := fun a o e => by
  obtain ⟨h, e⟩ := wo_of e
  rw [wo_ne h]; exact s _ _ e
theorem wo_upd {H : Hp} {l : Addr} {o : HO} : wo (upd H l o) l = wo H l := by
  funext a
  by_cases h : a = l
  · rw [wo, wo, if_pos h, if_pos h]
  · rw [wo_ne h, wo_ne h, upd_ne h]
theorem wo_at {H : Hp} {l a : Addr} {o : HO} (e : H a = some o) (h : a ≠ l) : wo H l a = some o := by rw [wo_ne h]; exact e
theorem same_put {H0 H : Hp} {l : Addr} (s : Same H0 H) (n : H0 l = none) (o : HO) : Same H0 (upd H l o) := fun a u e => by
  rw [upd_ne (ne_of_none e n)]; exact s _ _ e
inductive Al {β α : Type} (R : β → α → Prop) : List β → List α → Prop where
  | nil : Al R [] []
  | cons {v : β} {x : α} {vs : List β} {xs : List α} : R v x → Al R vs xs → Al R (v :: vs) (x :: xs)
section
variable {β α : Type} {R R' : β → α → Prop}
theorem Al.length {vs : List β} {xs : List α} (h : Al R vs xs) : vs.length = xs.length := by
  induction h with
  | nil => rfl
  | cons _ _ ih => rw [List.length_cons, List.length_cons, ih]
theorem Al.imp {vs : List β} {xs : List α} (h : Al R vs xs) (f : ∀ v x, R v x → R' v x) : Al R' vs xs := by
  induction h with
  | nil => exact .nil
  | cons a _ ih => exact .cons (f _ _ a) ih
theorem Al.app {vs us : List β} {xs ys : List α} (h : Al R vs xs) (g : Al R us ys) : Al R (vs ++ us) (xs ++ ys) := by
  induction h with
  | nil => exact g
  | cons a _ ih => exact .cons a ih
theorem Al.snoc {vs : List β} {xs : List α} {v : β} {x : α} (h : Al R vs xs) (g : R v x) : Al R (vs ++ [v]) (xs ++ [x]) := h.app (.cons g .nil)
theorem Al.get {vs : List β} {xs : List α} (h : Al R vs xs) : ∀ {i : Nat} {v : β}, vs[i]? = some v → ∃ x, xs[i]? = some x ∧ R v x := by
  induction h with
  | nil => intro i v e; cases e
  | cons a _ ih =>
    intro i v e
    cases i with
    | zero => cases e; exact ⟨_, rfl, a⟩
    | succ i => exact ih e
theorem Al.take {vs : List β} {xs : List α} (h : Al R vs xs) : ∀ n, Al R (vs.take n) (xs.take n) := by
  induction h with
  | nil => intro n; rw [List.take_nil, List.take_nil]; exact .nil
  | cons a _ ih =>
    intro n
    cases n with
    | zero => exact .nil
    | succ n => exact .cons a (ih n)
theorem Al.drop {vs : List β} {xs : List α} (h : Al R vs xs) : ∀ n, Al R (vs.drop n) (xs.drop n) := by
  induction h with
  | nil => intro n; rw [List.drop_nil, List.drop_nil]; exact .nil
  | cons a b ih =>
    intro n
    cases n with
    | zero => exact .cons a b
    | succ n => exact ih n
theorem Al.nil_iff {vs : List β} {xs : List α} (h : Al R vs xs) : vs = [] ↔ xs = [] := by
  have := h.length
  constructor
  · intro e; rw [e] at this; exact List.eq_nil_of_length_eq_zero this.symm
  · intro e; rw [e] at this; exact List.eq_nil_of_length_eq_zero this
end
def NameOk (z : Str) : Prop := 1 ≤ z.length ∧ z.length ≤ 8 ∧ (∀ c ∈ z.cps.toList, 97 ≤ c ∧ c ≤ 122) ∧ z ≠ Str.ofString "nowhere"
end K1

set_option Elab.async false
set_option linter.all false
namespace L2
open PySem PySem.Spec PyProof.Rows
section
variable {X : Cx} {a b : Expr} {rest : List Expr} {ta tb : TE} {pos : Pos}
end
end L2

set_option Elab.async false
set_option linter.all false
set_option maxRecDepth 100000
set_option maxHeartbeats 4000000
namespace L2
open PySem PySem.Spec PyProof.Rows K1

section
variable {prog : Program} {w : World} {A : Around} {E : Value → Shared → Prop} {s : Shared}
theorem no_keys_list : typeLookup (.type "list") "keys" = pure none := by rw [typeLookup_type, builtinLookup_eq_fast]; kernel_rfl
theorem keys_miss {a : Addr} {xs : Array Value} {k : Nat} {Q : Option Value → Shared → Prop} (hx : s.heap.get? a = some { cls := .type "list", dict := none, data := .seq xs k, slots := #[] }) (hA : A.handled = none)
    (h : ∀ h' tk, (∀ b ob, s.heap.get? b = some ob → h'.get? b = some ob) → Q none { s with heap := h', toks := tk }) : wpAny (model prog w) A (getAttr? (.ref a) "keys") Q E s := by
  obtain ⟨hp, g, d, tk, os⟩ := s
  have hT : ∀ tk', (⟨hp, g, d, tk', os⟩ : Shared).TypeIs (.ref a) "list" := fun _ => ⟨_, hx, rfl⟩
  have f1 := sub_AttributeError
  have f3 := PySem.F.slot_list_getattribute.lookup
  have f4 := PySem.F.slot_list_getattribute.bind (.ref a)
  have f5 := am_list_getattr_none
  have nm : ((["__module__", "__name__", "__qualname__", "__doc__", "__annotations__"] : List Str).contains (Str.ofString "keys")) = false := by decide +kernel
  unfold getAttr? getAttrBy? getAttrBy
  repeat (any_goals (first | assumption | exact hT _ | ((with_reducible show wpAny _ _ (call (Value.builtin "list.__getattribute__") _ _) _ _ _); refine call_meets PySem.F.slot_list_getattribute (hT _) am_entry_list_getattribute (PySem.F.args_list_getattribute_2 _ _) (meets_getattribute_miss_list a xs k #[] (Str.ofString "keys") _ no_keys_list nm (by decide)) ⟨hx, hA, fun h' tk' e hx' => ?_⟩) | wp_step))
  obtain ⟨t', u', he⟩ := hx'.there
  show wpAny _ _ (getattributeRaised _ _ _ _ _ _ _) _ _ _
  unfold getattributeRaised
  repeat (any_goals (first | assumption | wp_step))
  exact h _ _ hx'.keeps
namespace F
theorem entry_dul : entryFor table "dict.update.loop" = some Builtin.«dict.update.loop» := entryFor_of_tree (by kernel_rfl)
theorem plain_dul : plainId "dict.update.loop" = true := by decide +kernel
end F
variable {κ : Type} [DecidableEq κ] {knd : KeyKind prog w κ}
theorem pairs_loop {R : Result → Shared → Prop} {I S l : Addr} (hh : A.handled = none) (hlI : l ≠ I) (hSI : S ≠ I) (hSl : S ≠ l) (items : Array Value) (ps : List (κ × Value)) (h0 : Heap)
    (hp : ∀ (i : Nat) (v : Value), items[i]? = some v → ∃ (p : Addr) (k : κ) (u x : Value) (n : Nat) (od : Option Addr) (os : Array (Option Value)), v = .ref p ∧ p ≠ S ∧ p ≠ I ∧ ps[i]? = some (k, x) ∧ knd.is k u = true ∧ h0.get? p = some { cls := .type "tuple", dict := od, data := .seq #[u, x] n, slots := os }) :
    ∀ (k i : Nat) (acc : List (κ × Value)) (s : Shared), items.size - i = k → i ≤ items.size → acc.length + k ≤ sizeLine → s.heap.IsListIter I l i → s.heap.IsList l items → s.heap.DictOf knd S acc → (∀ b o, b ≠ S → b ≠ I → h0.get? b = some o → s.heap.get? b = some o) →
      (∀ h' tk, h'.DictOf knd S ((ps.drop i |>.take k).foldl (fun a p => stored a p.1 p.2) acc) → (∀ b o, b ≠ S → b ≠ I → h0.get? b = some o → h'.get? b = some o) → R (.ok (.ret .none)) { s with heap := h', toks := tk }) →
      codeAny (model prog w) A (.builtin "dict.update.loop" ⟨[.ref S, .ref I, rawInt i, .none], []⟩) R s := by
  have W := Walks.list (prog := prog) (w := w) (A := A.in1) hh I l hlI items
  intro k
  induction k with
  | zero =>
    intro i acc s hk hi hz hI hl hd h00 hR
    obtain rfl : i = items.size := by omega
    refine codeAny_builtin F.entry_dul ?_
    rw [Around.under_plainId F.plain_dul _]
    refine wpAny_bind (m := pyNext (.ref I)) (W.done s _ _ ⟨hI, hl⟩ fun h' tk hm => ?_)
    refine wpAny_bind (m := Builtin.Dict.addKeywords S []) (wpAny_pure (wpAny_pure ?_))
    refine hR h' tk ?_ fun b o h1 h2 e => hm b o (by simpa using h2) (h00 b o h1 h2 e)
    obtain ⟨o, es, ep, ho, r⟩ := hd
    exact ⟨o, es, ep, hm S o (by simpa using hSI) ho, r⟩
  | succ k ih =>
    intro i acc s hk hi hz hI hl hd h00 hR
    have lt : i < items.size := by omega
    refine codeAny_builtin F.entry_dul ?_
    rw [Around.under_plainId F.plain_dul _]
    refine wpAny_bind (m := pyNext (.ref I)) (W.item i s _ _ lt ⟨hI, hl⟩ fun v h' tk hP st' hm => ?_)
    obtain ⟨p, key, u, x, n, od, os, rfl, hpS, hpI, hps, hkey, hg⟩ := hp i v hP
    have hg1 := hm p _ (by simpa using hpI) (h00 p _ hpS hpI hg)
    have hd1 : h'.DictOf knd S acc := by
      obtain ⟨o, es, ep, ho, r⟩ := hd
      exact ⟨o, es, ep, hm S o (by simpa using hSI) ho, r⟩
    have hT : Shared.TypeIs { s with heap := h', toks := tk } (.ref p) "tuple" := ⟨_, hg1, rfl⟩
    refine wpAny_bind (wpAny_holding (wpAny_bind (wpAny_tryCatch ?_)))
    unfold Builtin.Dict.pairItems
    refine wpAny_bind (wpAny_typeOf hT ?_)
    rw [if_pos (by decide)]
    refine wpAny_bind ?_
    generalize hDS : @dictSet = DS
    unfold seqItems?
    wp_walk
    subst hDS
    refine wpAny_dictSet_pairs (s := { s with heap := h', toks := tk }) (hsz := by omega) hkey hd1 fun h2 hd2 hs2 => ?_
    have dr : ps.drop i = (key, x) :: ps.drop (i + 1) := by
      obtain ⟨hlt, e⟩ := List.getElem?_eq_some_iff.mp hps
      rw [List.drop_eq_getElem_cons hlt, e]
    have len : (stored acc key x).length ≤ acc.length + 1 := by
      unfold stored
      split
      · rw [List.length_map]; omega
      · rw [List.length_append, List.length_singleton]; omega
    have k2 : ∀ b o, b ≠ S → h'.get? b = some o → h2.get? b = some o := fun b o hb e => (hs2.2 b hb).trans e
    refine wpAny_pure ⟨plainId_quiet F.plain_dul _, ?_⟩
    have := ih (i + 1) (stored acc key x) { s with heap := h2, toks := tk + 1 } (by omega) lt (by omega) (st'.1.at fun o e => k2 I o (Ne.symm hSI) e) (st'.2.at fun o e => k2 l o (Ne.symm hSl) e) hd2
      (fun b o h1 h2 e => k2 b o h1 (hm b o (by simpa using h2) (h00 b o h1 h2 e))) fun h3 tk3 hd3 k3 => ?_
    · exact this
    · refine hR h3 tk3 ?_ k3
      rw [dr, List.take_succ_cons, List.foldl_cons]
      exact hd3
theorem call_dict_prs {l : Addr} {its : List Value} {c : Nat} {ps : List (κ × Value)} {Q : Value → Shared → Prop} (hh : A.handled = none) (hl : s.heap.get? l = some { cls := .type "list", dict := none, data := .seq its.toArray c, slots := #[] }) (hz : its.length ≤ sizeLine) (hpl : ps.length = its.length)
    (hp : ∀ (i : Nat) (v : Value), its[i]? = some v → ∃ (p : Addr) (k : κ) (u x : Value) (n : Nat) (od : Option Addr) (os : Array (Option Value)), v = .ref p ∧ ps[i]? = some (k, x) ∧ knd.is k u = true ∧ s.heap.get? p = some { cls := .type "tuple", dict := od, data := .seq #[u, x] n, slots := os })
    (h : ∀ h' tk, h'.DictOf knd s.heap.objs.size (ps.foldl (fun a p => stored a p.1 p.2) []) → (∀ b o, s.heap.get? b = some o → h'.get? b = some o) → Q (.ref s.heap.objs.size) { s with heap := h', toks := tk }) :
    wpAny (model prog w) A (call (.type "dict") [.ref l]) Q E s := by
  refine callType_codes (Q₁ := fun obj s₁ => obj = .ref s.heap.objs.size ∧ s₁ = { s with heap := s.heap.push { cls := .type "dict", data := .dict #[] } }) PySem.F.kt_called_dict (PySem.F.kt_typeCall_dict_1 _) F.entry_dict_init (kt_code_dict_new _ ⟨rfl, rfl⟩) ?_
  rintro obj s₁ ⟨rfl, rfl⟩
  have hnew : (s.heap.push { cls := .type "dict", data := .dict #[] }).DictOf knd s.heap.objs.size [] := Heap.DictOf.new s.heap
  have hl1 := Heap.get?_push_of_some { cls := .type "dict", data := .dict #[] } hl
  have hT1 : Shared.TypeIs { s with heap := s.heap.push { cls := .type "dict", data := .dict #[] } } (.ref l) "list" := ⟨_, hl1, rfl⟩
  refine ⟨hnew.typeIs, F.args_dict_init_2 _ _, ?_⟩
  unfold Builtin.«dict.__init__»
  refine wpAny_bind ?_
  unfold Builtin.Dict.selfAndRest
  refine wpAny_bind (wpAny_notOrdered_dict hnew.typeIs ?_)
  show wpAny _ _ (pure (s.heap.objs.size, [Value.ref l])) _ _ _
  refine wpAny_pure ?_
  show wpAny _ _ (Builtin.Dict.updateFrom "dict.__init__" s.heap.objs.size (.ref l) [] .none) _ _ _
  unfold Builtin.Dict.updateFrom
  refine wpAny_bind (wpAny_typeOf hT1 ?_)
  rw [if_pos (by decide)]
  refine wpAny_bind (m := getAttr? (.ref l) "keys") (keys_miss (A := A.in1.in1) (s := { s with heap := s.heap.push { cls := .type "dict", data := .dict #[] } }) hl1 (by simpa using hh) fun h1 tk1 k1 => ?_)
  rw [if_pos (show (none : Option Value).isNone = true from rfl)]
  refine wpAny_bind (wpAny_rule ?_)
  have hl2 := k1 l _ hl1
  have hL2 : h1.IsList l its.toArray := ⟨_, hl2, rfl, c, rfl⟩
  have lS : l < s.heap.objs.size := Heap.lt_size hl
  have szd : (s.heap.push { cls := .type "dict", data := .dict #[] }).objs.size = s.heap.objs.size + 1 := Heap.size_push ..
  have Slt : s.heap.objs.size < h1.objs.size := by
    obtain ⟨o, es, ep, ho, r⟩ := hnew
    exact Heap.lt_size (k1 _ _ ho)
  refine wpAny_bind (wpAny_pyIter_list hL2 ?_)
  have hd2 : (h1.push { cls := .type "list_iterator", data := .fields #[.ref l, .int 0 0] }).DictOf knd s.heap.objs.size [] := by
    obtain ⟨o, es, ep, ho, r⟩ := hnew
    exact ⟨o, es, ep, Heap.get?_push_of_some _ (k1 _ _ ho), r⟩
  have lt1 : ∀ b o, s.heap.get? b = some o → b < h1.objs.size := fun b o e => Nat.lt_trans (Heap.lt_size e) Slt
  have k0 : ∀ b o, s.heap.get? b = some o → (h1.push { cls := .type "list_iterator", data := .fields #[.ref l, .int 0 0] }).get? b = some o := fun b o e => Heap.get?_push_of_some _ (k1 _ _ (Heap.get?_push_of_some _ e))
  refine wpAny_pure ⟨plainId_quiet F.plain_dul _, pairs_loop (A := A.in1) (I := h1.objs.size) (S := s.heap.objs.size) (l := l) (by simpa using hh) (Nat.ne_of_lt (Nat.lt_trans lS Slt)) (Nat.ne_of_lt Slt) (Nat.ne_of_gt lS) its.toArray ps (h1.push { cls := .type "list_iterator", data := .fields #[.ref l, .int 0 0] })
    (fun i v e => ?_) its.toArray.size 0 [] _ (by simp) (Nat.zero_le _) (by simpa using hz) ⟨_, Heap.get?_push_size _ rfl, rfl, rfl⟩ (hL2.push _) hd2 (fun _ _ _ _ e => e) fun h' tk hd' k' => ⟨rfl, ?_⟩⟩
  · obtain ⟨p, key, u, x, n, od, os, ev, ep, ek, eg⟩ := hp i v (by simpa using e)
    exact ⟨p, key, u, x, n, od, os, ev, Nat.ne_of_lt (Heap.lt_size eg), Nat.ne_of_lt (lt1 _ _ eg), ep, ek, k0 _ _ eg⟩
  · refine h h' tk ?_ fun b o e => k' b o (Nat.ne_of_lt (Heap.lt_size e)) (Nat.ne_of_lt (lt1 _ _ e)) (k0 _ _ e)
    rw [List.drop_zero, List.take_of_length_le (by simp; omega)] at hd'
    exact hd'
end
section
variable {X : Cx}
theorem prs_at {H : Hp} {s : Shared} (ok : HOk X.prog X.w H s.heap) : ∀ {vs : List V} {kvs : List (Key × V)} {its : List Value}, Al (fun (v : V) (kv : Key × V) => ∃ p, v = .ref p ∧ H p = some (.tup [kV kv.1, kv.2])) vs kvs → Vals vs its →
    ∃ ps : List (Key × Value), KV kvs ps ∧ ps.length = its.length ∧ ∀ (i : Nat) (v : Value), its[i]? = some v → ∃ (p : Addr) (k : Key) (u x : Value) (n : Nat) (od : Option Addr) (os : Array (Option Value)), v = .ref p ∧ ps[i]? = some (k, x) ∧ (mixKind X.prog X.w).is k u = true ∧ s.heap.get? p = some { cls := .type "tuple", dict := od, data := .seq #[u, x] n, slots := os }
  | _, _, _, .nil, .nil => ⟨[], .nil, rfl, fun i v e => by simp at e⟩
  | _, _, _, .cons (x := kv) a t, .cons r rs => by
    obtain ⟨p, rfl, hp⟩ := a
    cases r
    obtain ⟨_, its', rv, o, ho, hc, n, hdd⟩ := ok p _ hp
    obtain ⟨ps, h1, h2, h3⟩ := prs_at ok t rs
    cases rv with
    | cons ru r2 =>
      cases r2 with
      | cons rx r3 =>
        cases r3
        refine ⟨(kv.1, _) :: ps, .cons ⟨rfl, rx⟩ h1, by rw [List.length_cons, List.length_cons, h2], fun i v e => ?_⟩
        cases i with
        | zero =>
          obtain ⟨oc, od, oda, os⟩ := o
          simp only at hc hdd
          subst hc hdd
          cases e
          exact ⟨p, kv.1, _, _, n, od, os, rfl, rfl, kV_is ru, ho⟩
        | succ i => exact h3 i v e
theorem call_dict_pairs (hc : X.calm = true) : CallR X (.type "dict") (fun xs H Q => ∃ a vs kvs, xs = [V.ref a] ∧ H a = some (.lst vs) ∧ Al (fun (v : V) (kv : Key × V) => ∃ p, v = .ref p ∧ H p = some (.tup [kV kv.1, kv.2])) vs kvs ∧ ∀ d, H d = none → Q (.ref d) (upd H d (.dK (mergeK [] kvs)))) := by
  intro pins s σ H xs us Q I r h
  obtain ⟨a, vs, kvs, rfl, ha, al, q⟩ := h
  obtain ⟨u, rfl, rx⟩ := vals1 r
  cases rx
  obtain ⟨hl, its, n, rv, e⟩ := I.hok a _ ha
  obtain ⟨ps, h1, h2, h3⟩ := prs_at I.hok al rv
  have lv := rv.length
  refine call_dict_prs (knd := mixKind X.prog X.w) (I.ok.hd hc) e (by omega) h2 h3 fun h' tk hd kp => ?_
  refine ⟨.ref s.heap.objs.size, _, I.laid (t' := tk) kp (Nat.le_refl _) (show ObjOk X.prog X.w _ h' _ (.dK (mergeK [] kvs)) from dk_new ?_ (beq_eq_false_iff_ne.mpr (Ne.symm (Nat.ne_of_lt I.big))) (KV.merge h1 .nil) hd), rfl, q _ (I.hok.fresh (Nat.le_refl _))⟩
  have := length_mergeK kvs []
  have := al.length
  simp at *
  omega
end
end L2

set_option Elab.async false
set_option linter.all false
set_option maxRecDepth 100000
set_option maxHeartbeats 4000000
namespace L2
open PySem PySem.Spec PyProof.Rows

section
variable {X : Cx} {pins : List (Addr × Obj)} {σ : St} {H : Hp} {s : Shared}
open Classical in
noncomputable def eqD (h : Heap) (dx : PyData) (u : Value) : Bool := if ∃ d as, Reads h u d as ∧ PyData.eqv d dx = true then true else false
theorem eqD_of {h : Heap} {dx d : PyData} {u : Value} {as : List Addr} (r : Reads h u d as) (c : d.canLay0 = true) : eqD h dx u = PyData.eqv d dx := by
  unfold eqD
  cases e : PyData.eqv d dx with
  | true => exact if_pos ⟨d, as, r, e⟩
  | false =>
    refine if_neg ?_
    rintro ⟨d', as', r', e'⟩
    rw [← SeqAt.Reads.unique d d' u as as' c r r', e] at e'
    exact Bool.noConfusion e'
theorem any_eqD {h : Heap} {dx : PyData} : ∀ {us : List Value} {ds : List PyData} {as : List Addr}, ReadsAll h us ds as → PyData.canLayAll0 ds = true → us.any (eqD h dx) = ds.any fun d => PyData.eqv d dx
  | _, _, _, .nil, _ => rfl
  | _, _, _, .cons r rs, c => by
    simp only [PyData.canLayAll0, Bool.and_eq_true] at c
    rw [List.any_cons, List.any_cons, eqD_of r c.1, any_eqD rs c.2]
theorem mem_eqD {A : Around} {dx : PyData} {v : Value} {bs : List Addr} (rv : Reads s.heap v dx bs) (cv : dx.canLay0 = true) (hu : A.units + dx.depth < cLine) : ∀ {us : List Value} {ds : List PyData} {as : List Addr}, ReadsAll s.heap us ds as → PyData.canLayAll0 ds = true → ∀ u ∈ us, SeqAt.EqAt A s u v (eqD s.heap dx u)
  | _, _, _, .nil, _ => fun u hu => by cases hu
  | _, _, _, .cons r rs, c => fun u' hm => by
    simp only [PyData.canLayAll0, Bool.and_eq_true] at c
    rcases List.mem_cons.mp hm with rfl | hm
    · rw [eqD_of r c.1]
      exact SeqAt.eqAt_reads _ _ A s _ _ _ _ r rv c.1 cv (by omega)
    · exact mem_eqD rv cv hu rs c.2 u' hm
def rInD (K : PySem.W.Frag) (neg : Bool) : R2 := fun x y H Q => ∃ p xs dx ds, y = .ref p ∧ (SqL K H p xs ∨ SqT K H p xs) ∧ DV K H x dx ∧ DVs K H xs ds ∧ dx.depth ≤ 60 ∧ Q (.bl (if neg then !(ds.any fun d => PyData.eqv d dx) else ds.any fun d => PyData.eqv d dx)) H
theorem op_inD (hu : X.A.units + 64 < cLine) : OpR X (compareOp .In) (rInD X.K false) := by
  intro pins s σ H x y v u Q I rx ry h
  obtain ⟨p, xs, dx, ds, rfl, hq, hx, hs, hd, q⟩ := h
  cases ry
  obtain ⟨as, r1⟩ := hx.reads I rx
  have hu2 : X.A.in1.units + dx.depth < cLine := by show X.A.units + 1 + _ < _; omega
  rcases hq with hq | hq
  · obtain ⟨its, r, pl, hz⟩ := I.list hq
    obtain ⟨bs, r2⟩ := hs.reads I r
    refine SeqAt.in_listAt (eqD s.heap dx) pl.isList (fun w hw => mem_eqD r1 hx.can hu2 r2 hs.can w (by simpa using hw)) ⟨.bl _, H, I, rfl, ?_⟩
    rw [show its.toArray.any (eqD s.heap dx) = its.any (eqD s.heap dx) by simp, any_eqD r2 hs.can]
    exact q
  · obtain ⟨its, r, pl, hz⟩ := I.tuple hq
    obtain ⟨bs, r2⟩ := hs.reads I r
    refine SeqAt.in_tupleAt (eqD s.heap dx) pl (fun w hw => mem_eqD r1 hx.can hu2 r2 hs.can w (by simpa using hw)) ⟨.bl _, H, I, rfl, ?_⟩
    rw [show its.toArray.any (eqD s.heap dx) = its.any (eqD s.heap dx) by simp, any_eqD r2 hs.can]
    exact q
theorem op_notInD (hu : X.A.units + 64 < cLine) : OpR X (compareOp .NotIn) (rInD X.K true) := by
  intro pins s σ H x y v u Q I rx ry h
  obtain ⟨p, xs, dx, ds, rfl, hq, hx, hs, hd, q⟩ := h
  cases ry
  obtain ⟨as, r1⟩ := hx.reads I rx
  have hu2 : X.A.in1.units + dx.depth < cLine := by show X.A.units + 1 + _ < _; omega
  rcases hq with hq | hq
  · obtain ⟨its, r, pl, hz⟩ := I.list hq
    obtain ⟨bs, r2⟩ := hs.reads I r
    refine SeqAt.notIn_listAt (eqD s.heap dx) pl.isList (fun w hw => mem_eqD r1 hx.can hu2 r2 hs.can w (by simpa using hw)) ⟨.bl _, H, I, rfl, ?_⟩
    rw [show its.toArray.any (eqD s.heap dx) = its.any (eqD s.heap dx) by simp, any_eqD r2 hs.can]
    exact q
  · obtain ⟨its, r, pl, hz⟩ := I.tuple hq
    obtain ⟨bs, r2⟩ := hs.reads I r
    refine SeqAt.notIn_tupleAt (eqD s.heap dx) pl (fun w hw => mem_eqD r1 hx.can hu2 r2 hs.can w (by simpa using hw)) ⟨.bl _, H, I, rfl, ?_⟩
    rw [show its.toArray.any (eqD s.heap dx) = its.any (eqD s.heap dx) by simp, any_eqD r2 hs.can]
    exact q
end
end L2

set_option Elab.async false
set_option linter.all false
set_option maxRecDepth 100000
set_option maxHeartbeats 4000000
namespace L2
open PySem PySem.Spec PyProof.Rows
section
variable {X : Cx}
theorem any_range : ∀ bs : List Bool, (List.range bs.length).any (fun i => bs.getD i false) = bs.any id
  | [] => rfl
  | b :: bs => by
    rw [List.length_cons, List.range_succ_eq_map, List.any_cons, List.any_map, List.any_cons]
    show (b || _) = (b || _)
    rw [← any_range bs]
    rfl
theorem call_any_list (hc : X.calm = true) : CallR X (.builtin "any") (fun xs H Q => ∃ (p : Addr) (bs : List Bool), xs = [.ref p] ∧ SqL X.K H p (bs.map V.bl) ∧ Q (.bl (bs.any id)) H) := by
  intro pins s σ H xs us Q I r h
  obtain ⟨p, bs, rfl, hq, q⟩ := h
  obtain ⟨u, rfl, rx⟩ := vals1 r
  cases rx
  obtain ⟨its, r', pl, hz⟩ := I.list hq
  have hlen := r'.length
  obtain ⟨o, n, ho, _⟩ := id pl
  have hne : p ≠ s.heap.objs.size := Nat.ne_of_lt (Heap.lt_size ho)
  have tr : TruthOf X.prog X.w X.A.in1 (fun i v => its.toArray[i]? = some v) (fun i => bs.getD i false) := by
    intro i v s2 Q2 E2 hv hq2
    have hv' : its[i]? = some v := by simpa using hv
    have hi : i < bs.length := by
      have := (List.getElem?_eq_some_iff.mp hv').1
      rw [← hlen, List.length_map] at this; exact this
    obtain ⟨w, e1, e2⟩ := r'.get (i := i) (x := .bl bs[i]) (by rw [List.getElem?_map, List.getElem?_eq_getElem hi]; rfl)
    rw [hv'] at e1
    cases e1
    cases e2
    refine wpAny_truthy_bool ?_
    have e3 : bs.getD i false = bs[i] := by rw [List.getD_eq_getElem?_getD, List.getElem?_eq_getElem hi]; rfl
    have q3 : Q2 (bs.getD i false) s2 := hq2
    rw [e3] at q3
    exact q3
  refine call_any_walk (wpAny_pyIter_list pl.isList ?_)
  refine ⟨s.heap.objs.size, [s.heap.objs.size, p], [s.heap.objs.size], its.toArray.size, _, _, _, rfl, Walks.list (A := X.A.in1) (I.ok.hd hc) _ _ hne its.toArray, ⟨⟨_, Heap.get?_push_size _ rfl, rfl, rfl⟩, ?_⟩, tr, fun h' tk hk => ?_⟩
  · obtain ⟨o2, e2, r2⟩ := pl.isList
    exact ⟨o2, Heap.get?_push_of_some _ e2, r2⟩
  · have hk2 : ∀ b o, s.heap.get? b = some o → h'.get? b = some o := fun b o e => hk b o (fun z => by
      have e1 := Heap.lt_size e
      rw [List.mem_singleton.mp z] at e1
      exact absurd e1 (Nat.lt_irrefl _)) (Heap.get?_push_of_some _ e)
    have e : (List.range its.toArray.size).any (fun i => bs.getD i false) = bs.any id := by
      rw [List.size_toArray, ← hlen, List.length_map]; exact any_range bs
    rw [e]
    exact ⟨.bl _, H, I.kept (t' := tk) hk2, rfl, q⟩
end
end L2

set_option Elab.async false
set_option linter.all false
set_option maxRecDepth 100000
set_option maxHeartbeats 4000000
namespace L2
open PySem PySem.Spec PyProof.Rows
end L2

set_option Elab.async false
set_option linter.all false
namespace Fw
open PySem

variable {E : Str → Str → Nat → Prop}
inductive Wk (E : Str → Str → Nat → Prop) (M : Str → Prop) : Str → Str → Nat → Prop
  | nil (i : Str) : Wk E M i i 0
  | one {i j : Str} {a : Nat} : E i j a → Wk E M i j a
  | cons {i v j : Str} {a m : Nat} : E i v a → M v → Wk E M v j m → Wk E M i j (a + m)
inductive Pth (E : Str → Str → Nat → Prop) : Str → Str → Nat → List Str → Prop
  | nil (i : Str) : Pth E i i 0 [i]
  | cons {i v j : Str} {a m : Nat} {w : List Str} : E i v a → Pth E v j m w → Pth E i j (a + m) (i :: w)
theorem Wk.mono {M M' : Str → Prop} (h : ∀ v, M v → M' v) {i j : Str} {m : Nat} (w : Wk E M i j m) : Wk E M' i j m := by
  induction w with
  | nil i => exact .nil i
  | one e => exact .one e
  | cons e hv _ ih => exact .cons e (h _ hv) ih
theorem Wk.trans {M : Str → Prop} {i k j : Str} {m n : Nat} (w : Wk E M i k m) (hk : M k) (u : Wk E M k j n) : Wk E M i j (m + n) := by
  induction w with
  | nil i => rw [Nat.zero_add]; exact u
  | one e => exact .cons e hk u
  | cons e hv _ ih => rw [Nat.add_assoc]; exact .cons e hv (ih hk u)
theorem Wk.rev {M : Str → Prop} (sy : ∀ u v a, E u v a → E v u a) {i j : Str} {m : Nat} (w : Wk E M i j m) : Wk E M j i m := by
  induction w with
  | nil i => exact .nil i
  | one e => exact .one (sy _ _ _ e)
  | cons e hv _ ih => rw [Nat.add_comm]; exact ih.trans hv (.one (sy _ _ _ e))
theorem Pth.head {i j : Str} {m : Nat} {w : List Str} (p : Pth E i j m w) : w = i :: w.tail := by cases p <;> rfl
theorem Pth.trans {i k j : Str} {m n : Nat} {w u : List Str} (p : Pth E i k m w) (q : Pth E k j n u) : Pth E i j (m + n) (w ++ u.tail) := by
  induction p with
  | nil i => rw [Nat.zero_add, show [i] ++ u.tail = u from q.head.symm]; exact q
  | cons e _ ih => rw [Nat.add_assoc]; exact .cons e (ih q)
theorem Pth.wk {M : Str → Prop} (hM : ∀ u v a, E u v a → M v) {i j : Str} {m : Nat} {w : List Str} (p : Pth E i j m w) : Wk E M i j m := by
  induction p with
  | nil i => exact .nil i
  | cons e _ ih => exact .cons e (hM _ _ _ e) ih
theorem Wk.split {M : Str → Prop} {k i j : Str} {m : Nat} (w : Wk E (fun v => M v ∨ v = k) i j m) : Wk E M i j m ∨ ∃ a b, Wk E M i k a ∧ Wk E M k j b ∧ a + b ≤ m := by
  induction w with
  | nil i => exact .inl (.nil i)
  | one e => exact .inl (.one e)
  | @cons i v j a m e hv _ ih =>
    rcases hv with hv | rfl
    · rcases ih with ih | ⟨x, y, h1, h2, h3⟩
      · exact .inl (.cons e hv ih)
      · exact .inr ⟨a + x, y, .cons e hv h1, h2, by omega⟩
    · rcases ih with ih | ⟨x, y, h1, h2, h3⟩
      · exact .inr ⟨a, m, .one e, ih, Nat.le_refl _⟩
      · exact .inr ⟨a, y, .one e, h2, by omega⟩
abbrev Fd := Str → Str → Option (Nat × List Str)
def Le (o : Option (Nat × List Str)) (m : Nat) : Prop := ∃ p, o = some p ∧ p.1 ≤ m
theorem Le.mono {o : Option (Nat × List Str)} {m n : Nat} (h : Le o m) (l : m ≤ n) : Le o n := let ⟨p, e, q⟩ := h; ⟨p, e, Nat.le_trans q l⟩
def Snd (E : Str → Str → Nat → Prop) (f : Fd) : Prop := ∀ i j p, f i j = some p → Pth E i j p.1 p.2
def Ful (E : Str → Str → Nat → Prop) (NS : List Str) (M : Str → Prop) (f : Fd) : Prop := ∀ i ∈ NS, ∀ j ∈ NS, ∀ m, Wk E M i j m → Le (f i j) m
def Dn (f f' : Fd) : Prop := ∀ i j m, Le (f i j) m → Le (f' i j) m
theorem Dn.refl (f : Fd) : Dn f f := fun _ _ _ h => h
theorem Dn.trans {f g h : Fd} (a : Dn f g) (b : Dn g h) : Dn f h := fun i j m x => b i j m (a i j m x)
def leadF (f : Fd) (i k j : Str) : Option (Nat × List Str) := match f i k, f k j with
  | some p, some q => some (p.1 + q.1, p.2 ++ q.2.tail)
  | _, _ => none
def putF (f : Fd) (i j : Str) (x : Nat × List Str) : Fd := fun a b => if a = i ∧ b = j then some x else f a b
def takeF (f : Fd) (i j : Str) (o : Option (Nat × List Str)) : Fd := match o with
  | none => f
  | some x => match f i j with
    | none => putF f i j x
    | some y => if x.1 < y.1 then putF f i j x else f
theorem leadF_snd {f : Fd} (h : Snd E f) {i k j : Str} {p : Nat × List Str} (e : leadF f i k j = some p) : Pth E i j p.1 p.2 := by
  unfold leadF at e
  cases e1 : f i k with
  | none => rw [e1] at e; cases e
  | some x =>
    cases e2 : f k j with
    | none => rw [e1, e2] at e; cases e
    | some y =>
      rw [e1, e2] at e
      cases e
      exact (h _ _ _ e1).trans (h _ _ _ e2)
theorem putF_snd {f : Fd} (h : Snd E f) {i j : Str} {p : Nat × List Str} (e : Pth E i j p.1 p.2) : Snd E (putF f i j p) := by
  intro a b q e'
  unfold putF at e'
  split at e'
  · rename_i c
    cases e'
    rw [c.1, c.2]
    exact e
  · exact h _ _ _ e'
theorem takeF_snd {f : Fd} (h : Snd E f) {i j : Str} {o : Option (Nat × List Str)} (e : ∀ p, o = some p → Pth E i j p.1 p.2) : Snd E (takeF f i j o) := by
  unfold takeF
  split
  · exact h
  · rename_i x
    split
    · exact putF_snd h (e x rfl)
    · split
      · exact putF_snd h (e x rfl)
      · exact h
theorem putF_dn {f : Fd} {i j : Str} {x : Nat × List Str} (h : ∀ y, f i j = some y → x.1 ≤ y.1) : Dn f (putF f i j x) := by
  rintro a b m ⟨y, e, l⟩
  unfold putF
  by_cases c : a = i ∧ b = j
  · rw [if_pos c]
    rw [c.1, c.2] at e
    exact ⟨x, rfl, Nat.le_trans (h y e) l⟩
  · rw [if_neg c]; exact ⟨y, e, l⟩
theorem takeF_dn (f : Fd) (i j : Str) (o : Option (Nat × List Str)) : Dn f (takeF f i j o) := by
  unfold takeF
  split
  · exact Dn.refl f
  · rename_i x
    split
    · rename_i e
      exact putF_dn fun y e' => by rw [e] at e'; cases e'
    · rename_i y e
      split
      · exact putF_dn fun z e' => by rw [e] at e'; cases e'; omega
      · exact Dn.refl f
theorem takeF_le (f : Fd) (i j : Str) {o : Option (Nat × List Str)} {m : Nat} (h : Le o m) : Le (takeF f i j o i j) m := by
  obtain ⟨x, rfl, l⟩ := h
  unfold takeF
  cases e : f i j with
  | none => exact ⟨x, by show putF f i j x i j = _; unfold putF; rw [if_pos ⟨rfl, rfl⟩], l⟩
  | some y =>
    show Le ((if x.1 < y.1 then putF f i j x else f) i j) m
    by_cases c : x.1 < y.1
    · rw [if_pos c]; exact ⟨x, by unfold putF; rw [if_pos ⟨rfl, rfl⟩], l⟩
    · rw [if_neg c]; exact ⟨y, e, by omega⟩
theorem ful_step {NS : List Str} {M : Str → Prop} {f f' : Fd} {k : Str} (hk : k ∈ NS) (h : Ful E NS M f) (dn : Dn f f') (t : ∀ i ∈ NS, ∀ j ∈ NS, ∀ m n, Le (f i k) m → Le (f k j) n → Le (f' i j) (m + n)) : Ful E NS (fun v => M v ∨ v = k) f' := by
  intro i hi j hj m w
  rcases w.split with w | ⟨a, b, h1, h2, h3⟩
  · exact dn _ _ _ (h i hi j hj m w)
  · exact (t i hi j hj a b (h i hi k hk a h1) (h k hk j hj b h2)).mono h3
structure Best (E : Str → Str → Nat → Prop) (NS : List Str) (f : Fd) : Prop where
  snd : Snd E f
  ful : Ful E NS (fun v => v ∈ NS) f
structure Gr (E : Str → Str → Nat → Prop) (NS : List Str) : Prop where
  sy : ∀ u v a, E u v a → E v u a
  mem : ∀ u v a, E u v a → v ∈ NS
section
variable {NS : List Str} {f g : Fd} (G : Gr E NS) (B : Best E NS f)
include G B
theorem Best.wk {i j : Str} {p : Nat × List Str} (e : f i j = some p) : Wk E (fun v => v ∈ NS) i j p.1 := (B.snd _ _ _ e).wk G.mem
theorem Best.self {i : Str} (hi : i ∈ NS) : ∃ w, f i i = some (0, w) := by
  obtain ⟨p, e, l⟩ := B.ful i hi i hi 0 (.nil i)
  exact ⟨p.2, by rw [e, show p = (0, p.2) from Prod.ext (by simpa using l) rfl]⟩
theorem Best.same {E' : Str → Str → Nat → Prop} (B' : Best E' NS g) (ee : ∀ u v a, E u v a ↔ E' u v a) {i j : Str} (hi : i ∈ NS) (hj : j ∈ NS) : (f i j).map (·.1) = (g j i).map (·.1) := by
  have eE : E' = E := by funext u v a; exact propext (ee u v a).symm
  subst eE
  cases e : f i j with
  | none =>
    cases e' : g j i with
    | none => rfl
    | some q =>
      obtain ⟨p, ep, _⟩ := B.ful i hi j hj _ ((Best.wk G B' e').rev G.sy)
      rw [e] at ep; cases ep
  | some p =>
    obtain ⟨q, eq, l⟩ := B'.ful j hj i hi _ ((Best.wk G B e).rev G.sy)
    obtain ⟨p', ep, l'⟩ := B.ful i hi j hj _ ((Best.wk G B' eq).rev G.sy)
    rw [e] at ep; cases ep
    rw [eq]
    show some p.1 = some q.1
    rw [Nat.le_antisymm l' l]
theorem Best.edge {u v : Str} {a : Nat} (e : E u v a) {j : Str} (hj : j ∈ NS) {p : Nat × List Str} (eu : f u j = some p) : ∃ q, f v j = some q ∧ q.1 ≤ a + p.1 := by
  have hv := G.mem _ _ _ e
  have hu := G.mem _ _ _ (G.sy _ _ _ e)
  obtain ⟨q, e1, l⟩ := B.ful v hv j hj _ (.cons (G.sy _ _ _ e) hu (Best.wk G B eu))
  exact ⟨q, e1, l⟩
theorem Best.near {i j : Str} (hj : j ∈ NS) (ne : i ≠ j) {p : Nat × List Str} (e : f i j = some p) : ∃ v a q, E i v a ∧ f v j = some q ∧ q.1 + a = p.1 := by
  have w := B.snd _ _ _ e
  generalize hm : p.1 = m at w
  generalize hw : p.2 = ww at w
  cases w with
  | nil => exact absurd rfl ne
  | @cons _ v _ a m w ed rest =>
    have hv := G.mem _ _ _ ed
    obtain ⟨q, e1, l⟩ := B.ful v hv j hj _ (rest.wk G.mem)
    obtain ⟨p', e2, l2⟩ := Best.edge G B (G.sy _ _ _ ed) hj e1
    rw [e] at e2; cases e2
    exact ⟨v, a, q, ed, e1, by omega⟩
end
theorem Pth.len (h1 : ∀ u v a, E u v a → 1 ≤ a) {i j : Str} {m : Nat} {w : List Str} (p : Pth E i j m w) : w.length ≤ m + 1 := by
  induction p with
  | nil i => exact Nat.le_refl _
  | cons e _ ih => have := h1 _ _ _ e; rw [List.length_cons]; omega
structure Mid (E : Str → Str → Nat → Prop) (NS : List Str) (k : Str) (B : Nat) (f0 f : Fd) : Prop where
  snd : Snd E f
  dn : Dn f0 f
  self : ∀ z ∈ NS, ∃ w, f z z = some (0, w)
  b2 : ∀ i j p, f i j = some p → p.1 ≤ 2 * B
  bi : ∀ i p, f i k = some p → p.1 ≤ B
  bj : ∀ j p, f k j = some p → p.1 ≤ B
theorem leadF_is {f : Fd} {i k j : Str} {p : Nat × List Str} (e : leadF f i k j = some p) : ∃ x y, f i k = some x ∧ f k j = some y ∧ p = (x.1 + y.1, x.2 ++ y.2.tail) := by
  unfold leadF at e
  cases e1 : f i k with
  | none => rw [e1] at e; cases e
  | some x =>
    cases e2 : f k j with
    | none => rw [e1, e2] at e; cases e
    | some y => rw [e1, e2] at e; cases e; exact ⟨x, y, rfl, rfl, rfl⟩
theorem takeF_or (f : Fd) (i j : Str) (o : Option (Nat × List Str)) (a b : Str) (p : Nat × List Str) (e : takeF f i j o a b = some p) : f a b = some p ∨ (a = i ∧ b = j ∧ o = some p) := by
  have put : ∀ x, putF f i j x a b = some p → f a b = some p ∨ (a = i ∧ b = j ∧ some x = some p) := fun x e => by
    unfold putF at e
    by_cases c : a = i ∧ b = j
    · rw [if_pos c] at e; exact .inr ⟨c.1, c.2, e⟩
    · rw [if_neg c] at e; exact .inl e
  unfold takeF at e
  cases o with
  | none => exact .inl e
  | some x =>
    cases e1 : f i j with
    | none => rw [e1] at e; exact put x e
    | some y =>
      rw [e1] at e
      by_cases c : x.1 < y.1
      · rw [show (match some y with | none => putF f i j x | some y => if x.1 < y.1 then putF f i j x else f) = putF f i j x from if_pos c] at e
        exact put x e
      · rw [show (match some y with | none => putF f i j x | some y => if x.1 < y.1 then putF f i j x else f) = f from if_neg c] at e
        exact .inl e
theorem takeF_self {f : Fd} {i j z : Str} {o : Option (Nat × List Str)} {w : List Str} (h : f z z = some (0, w)) : takeF f i j o z z = some (0, w) := by
  have put : ∀ x : Nat × List Str, ¬ (z = i ∧ z = j) → putF f i j x z z = some (0, w) := fun x c => by unfold putF; rw [if_neg c]; exact h
  unfold takeF
  cases o with
  | none => exact h
  | some x =>
    by_cases c : z = i ∧ z = j
    · obtain ⟨rfl, rfl⟩ := c
      rw [h]
      show (if x.1 < 0 then putF f z z x else f) z z = _
      rw [if_neg (Nat.not_lt_zero _)]
      exact h
    · cases e1 : f i j with
      | none => exact put x c
      | some y =>
        show (if x.1 < y.1 then putF f i j x else f) z z = _
        by_cases c2 : x.1 < y.1
        · rw [if_pos c2]; exact put x c
        · rw [if_neg c2]; exact h
theorem Mid.step {NS : List Str} {k : Str} {B : Nat} {f0 f : Fd} (h : Mid E NS k B f0 f) (hk : k ∈ NS) (i j : Str) : Mid E NS k B f0 (takeF f i j (leadF f i k j)) := by
  obtain ⟨w0, ew⟩ := h.self k hk
  refine ⟨takeF_snd h.snd fun p e => leadF_snd h.snd e, h.dn.trans (takeF_dn _ _ _ _), fun z hz => ?_, fun a b p e => ?_, fun a p e => ?_, fun a p e => ?_⟩
  · obtain ⟨w, e⟩ := h.self z hz
    exact ⟨w, takeF_self e⟩
  · rcases takeF_or _ _ _ _ _ _ _ e with e | ⟨rfl, rfl, e⟩
    · exact h.b2 _ _ _ e
    · obtain ⟨x, y, e1, e2, rfl⟩ := leadF_is e
      have := h.bi _ _ e1
      have := h.bj _ _ e2
      show x.1 + y.1 ≤ _
      omega
  · rcases takeF_or _ _ _ _ _ _ _ e with e | ⟨rfl, rfl, e⟩
    · exact h.bi _ _ e
    · obtain ⟨x, y, e1, e2, rfl⟩ := leadF_is e
      rw [ew] at e2; cases e2
      have := h.bi _ _ e1
      show x.1 + 0 ≤ _
      omega
  · rcases takeF_or _ _ _ _ _ _ _ e with e | ⟨rfl, rfl, e⟩
    · exact h.bj _ _ e
    · obtain ⟨x, y, e1, e2, rfl⟩ := leadF_is e
      rw [ew] at e1; cases e1
      have := h.bj _ _ e2
      show 0 + y.1 ≤ _
      omega
def Tk (k : Str) (f0 f : Fd) (i j : Str) : Prop := ∀ m n, Le (f0 i k) m → Le (f0 k j) n → Le (f i j) (m + n)
theorem Tk.dn {k : Str} {f0 f f' : Fd} {i j : Str} (h : Tk k f0 f i j) (d : Dn f f') : Tk k f0 f' i j := fun m n a b => d _ _ _ (h m n a b)
theorem Tk.new {k : Str} {f0 f : Fd} (d : Dn f0 f) (i j : Str) : Tk k f0 (takeF f i j (leadF f i k j)) i j := by
  intro m n a b
  obtain ⟨x, ex, lx⟩ := d _ _ _ a
  obtain ⟨y, ey, ly⟩ := d _ _ _ b
  refine takeF_le f i j ⟨(x.1 + y.1, x.2 ++ y.2.tail), ?_, Nat.add_le_add lx ly⟩
  unfold leadF
  rw [ex, ey]
structure Gd (E : Str → Str → Nat → Prop) (NS : List Str) (M : Str → Prop) (B : Nat) (f : Fd) : Prop where
  snd : Snd E f
  ful : Ful E NS M f
  self : ∀ z ∈ NS, ∃ w, f z z = some (0, w)
  bd : ∀ i j p, f i j = some p → p.1 ≤ B
theorem Gd.mid {NS : List Str} {M : Str → Prop} {B : Nat} {f : Fd} (h : Gd E NS M B f) (k : Str) : Mid E NS k B f f := ⟨h.snd, Dn.refl f, h.self, fun i j p e => by have := h.bd _ _ _ e; omega, fun i p e => h.bd _ _ _ e, fun j p e => h.bd _ _ _ e⟩
theorem Mid.gd {NS : List Str} {M : Str → Prop} {k : Str} {B : Nat} {f0 f : Fd} (h0 : Gd E NS M B f0) (h : Mid E NS k B f0 f) (hk : k ∈ NS) (t : ∀ i ∈ NS, ∀ j ∈ NS, Tk k f0 f i j) : Gd E NS (fun v => M v ∨ v = k) (2 * B) f :=
  ⟨h.snd, ful_step hk h0.ful h.dn fun i hi j hj m n a b => t i hi j hj m n a b, h.self, h.b2⟩
structure Wl where
  o : Str
  t : Str
  m : Nat
def hasW (WS : List Wl) (a b : Str) : Bool := WS.any fun x => (a == x.o && b == x.t) || (b == x.o && a == x.t)
structure WsOk (NS : List Str) (WS : List Wl) : Prop where
  o : ∀ x ∈ WS, x.o ∈ NS
  t : ∀ x ∈ WS, x.t ∈ NS
  ne : ∀ x ∈ WS, x.o ≠ x.t
  m1 : ∀ x ∈ WS, 1 ≤ x.m
  m60 : ∀ x ∈ WS, x.m ≤ 60
  ds : ∀ (i : Nat) (x : Wl), WS[i]? = some x → hasW (WS.take i) x.o x.t = false
  len : WS.length ≤ 12
def EW (WS : List Wl) (u v : Str) (a : Nat) : Prop := ∃ x ∈ WS, ((x.o = u ∧ x.t = v) ∨ (x.o = v ∧ x.t = u)) ∧ x.m = a
theorem WsOk.gr {NS : List Str} {WS : List Wl} (h : WsOk NS WS) : Gr (EW WS) NS := by
  refine ⟨fun u v a e => ?_, fun u v a e => ?_⟩
  · obtain ⟨x, hx, c, rfl⟩ := e
    exact ⟨x, hx, c.symm, rfl⟩
  · obtain ⟨x, hx, c | c, _⟩ := e
    · rw [← c.2]; exact h.t x hx
    · rw [← c.1]; exact h.o x hx
theorem WsOk.one {NS : List Str} {WS : List Wl} (h : WsOk NS WS) : ∀ u v a, EW WS u v a → 1 ≤ a := by
  rintro u v a ⟨x, hx, _, rfl⟩
  exact h.m1 x hx
def stF (NS : List Str) : Fd := fun a b => if a = b ∧ a ∈ NS then some (0, [a]) else none
def wkF (f : Fd) (x : Wl) : Fd := putF (putF f x.o x.t (x.m, [x.o, x.t])) x.t x.o (x.m, [x.t, x.o])
def iniF (NS : List Str) (WS : List Wl) : Fd := WS.foldl wkF (stF NS)
theorem putF_self {f : Fd} {i j : Str} {x : Nat × List Str} : putF f i j x i j = some x := by unfold putF; rw [if_pos ⟨rfl, rfl⟩]
theorem putF_other {f : Fd} {i j a b : Str} {x : Nat × List Str} (h : ¬ (a = i ∧ b = j)) : putF f i j x a b = f a b := by unfold putF; rw [if_neg h]
structure Ini (NS : List Str) (WS : List Wl) (WP : List Wl) (f : Fd) : Prop where
  snd : Snd (EW WS) f
  self : ∀ z ∈ NS, f z z = some (0, [z])
  wk : ∀ x ∈ WP, f x.o x.t = some (x.m, [x.o, x.t]) ∧ f x.t x.o = some (x.m, [x.t, x.o])
  bd : ∀ i j p, f i j = some p → p.1 ≤ 60
theorem Ini.step {NS : List Str} {WS WP : List Wl} {f : Fd} {x : Wl} (h : Ini NS WS WP f) (hx : x ∈ WS) (ne : x.o ≠ x.t) (m60 : x.m ≤ 60) (nh : hasW WP x.o x.t = false) : Ini NS WS (WP ++ [x]) (wkF f x) := by
  have e1 : EW WS x.o x.t x.m := ⟨x, hx, .inl ⟨rfl, rfl⟩, rfl⟩
  have e2 : EW WS x.t x.o x.m := ⟨x, hx, .inr ⟨rfl, rfl⟩, rfl⟩
  refine ⟨?_, fun z hz => ?_, fun y hy => ?_, fun i j p e => ?_⟩
  · refine putF_snd (putF_snd h.snd ?_) ?_
    · exact Pth.cons e1 (Pth.nil x.t)
    · exact Pth.cons e2 (Pth.nil x.o)
  · unfold wkF
    rw [putF_other fun c => ne (c.2.symm.trans c.1), putF_other fun c => ne (c.1.symm.trans c.2)]
    exact h.self z hz
  · unfold wkF
    rcases List.mem_append.mp hy with hy | hy
    · have nn := List.any_eq_false.mp nh y hy
      have c1 : ¬ (x.o = y.o ∧ x.t = y.t) := fun c => nn (by simp [c.1, c.2])
      have c2 : ¬ (x.t = y.o ∧ x.o = y.t) := fun c => nn (by simp [c.1, c.2])
      constructor
      · rw [putF_other fun c => c2 ⟨c.1.symm, c.2.symm⟩, putF_other fun c => c1 ⟨c.1.symm, c.2.symm⟩]
        exact (h.wk y hy).1
      · rw [putF_other fun c => c1 ⟨c.2.symm, c.1.symm⟩, putF_other fun c => c2 ⟨c.2.symm, c.1.symm⟩]
        exact (h.wk y hy).2
    · rw [List.mem_singleton] at hy
      subst hy
      exact ⟨by rw [putF_other fun c => ne c.1, putF_self], putF_self⟩
  · unfold wkF putF at e
    split at e
    · cases e; exact m60
    · split at e
      · cases e; exact m60
      · exact h.bd _ _ _ e
theorem Ini.nil {NS : List Str} (WS : List Wl) : Ini NS WS [] (stF NS) := by
  refine ⟨fun i j p e => ?_, fun z hz => ?_, fun x hx => (by cases hx), fun i j p e => ?_⟩
  · unfold stF at e
    split at e
    · rename_i c
      cases e
      rw [c.1]
      exact Pth.nil j
    · cases e
  · unfold stF; rw [if_pos ⟨rfl, hz⟩]
  · unfold stF at e
    split at e
    · cases e; exact Nat.zero_le _
    · cases e
theorem Ini.gd {NS : List Str} {WS : List Wl} {f : Fd} (h : Ini NS WS WS f) : Gd (EW WS) NS (fun _ => False) 60 f := by
  refine ⟨h.snd, fun i hi j hj m w => ?_, fun z hz => ⟨_, h.self z hz⟩, h.bd⟩
  cases w with
  | nil => exact ⟨_, h.self i hi, Nat.zero_le _⟩
  | one e =>
    obtain ⟨x, hx, c | c, rfl⟩ := e
    · obtain ⟨rfl, rfl⟩ := c
      exact ⟨_, (h.wk x hx).1, Nat.le_refl _⟩
    · obtain ⟨rfl, rfl⟩ := c
      exact ⟨_, (h.wk x hx).2, Nat.le_refl _⟩
  | cons _ f _ => exact f.elim
theorem Gd.best {NS : List Str} {WS : List Wl} {M : Str → Prop} {B : Nat} {f : Fd} (h : Gd (EW WS) NS M B f) (hM : ∀ z ∈ NS, M z) : Best (EW WS) NS f :=
  ⟨h.snd, fun i hi j hj m w => h.ful i hi j hj m (w.mono hM)⟩
end Fw

set_option Elab.async false
set_option linter.all false
namespace Bf
structure Hi (D : List (Option Nat)) (g : Nat) (E : Nat → Nat → Nat → Prop) : Prop where
  goal : D[g]? = some (some 0)
  tri : ∀ h t c, E h t c → ∀ a : Nat, D[h]? = some (some a) → ∃ b : Nat, D[t]? = some (some b) ∧ b ≤ a + c
  near : ∀ (p f : Nat), p ≠ g → D[p]? = some (some f) → ∃ h c e, E h p c ∧ D[h]? = some (some e) ∧ e + c = f
  one : ∀ h t c, E h t c → 1 ≤ c
def below (d : Nat) (o : Option Nat) : Bool := match o with
  | some e => decide (e < d)
  | none => false
def rank (D : List (Option Nat)) (d : Nat) : Nat := D.countP (below d)
theorem rank_le (D : List (Option Nat)) (d : Nat) : rank D d ≤ D.length := List.countP_le_length
theorem rank_lt {D : List (Option Nat)} {i e d : Nat} (h : D[i]? = some (some e)) (l : e < d) : rank D e < rank D d := by
  unfold rank
  induction D generalizing i with
  | nil => cases h
  | cons o D ih =>
    rw [List.countP_cons, List.countP_cons]
    have le1 : D.countP (below e) ≤ D.countP (below d) := List.countP_mono_left fun o _ ho => by
      cases o with
      | none => exact ho
      | some z =>
        have : z < e := of_decide_eq_true ho
        exact decide_eq_true (by omega)
    cases i with
    | zero =>
      have : o = some e := Option.some.inj h
      subst this
      have a : below e (some e) = false := decide_eq_false (by omega)
      have b : below d (some e) = true := decide_eq_true l
      rw [a, b]
      simp only [Bool.false_eq_true, if_false, if_true]
      omega
    | succ i =>
      have := ih (i := i) h
      have c : (if below e o = true then 1 else 0) ≤ (if below d o = true then 1 else 0) := by
        cases o with
        | none => exact Nat.le_refl _
        | some z =>
          unfold below
          by_cases h1 : z < e
          · simp [h1, show z < d by omega]
          · simp [h1]
      omega
structure Sn (D R : List (Option Nat)) : Prop where
  len : R.length = D.length
  le : ∀ (j m : Nat), R[j]? = some (some m) → ∃ d : Nat, D[j]? = some (some d) ∧ d ≤ m
def Got (D R : List (Option Nat)) (j : Nat) : Prop := ∀ d : Nat, D[j]? = some (some d) → R[j]? = some (some d)
def Tn (D : List (Option Nat)) (k : Nat) (R : List (Option Nat)) : Prop := ∀ j d : Nat, D[j]? = some (some d) → rank D d ≤ k → R[j]? = some (some d)
def Dn (D : List (Option Nat)) (k : Nat) (h t c : Nat) (R : List (Option Nat)) : Prop := ∀ e : Nat, D[h]? = some (some e) → rank D e ≤ k → D[t]? = some (some (e + c)) → R[t]? = some (some (e + c))
def Up (D R R' : List (Option Nat)) : Prop := ∀ j, Got D R j → Got D R' j
theorem Up.refl (D R : List (Option Nat)) : Up D R R := fun _ h => h
theorem Tn.up {D R R' : List (Option Nat)} {k : Nat} (h : Tn D k R) (u : Up D R R') : Tn D k R' := fun j d e r => u j (fun d' e' => by rw [e] at e'; cases e'; exact h j d e r) d e
theorem Dn.up {D R R' : List (Option Nat)} {k h t c : Nat} (a : Dn D k h t c R) (u : Up D R R') : Dn D k h t c R' := fun e e1 r e2 => u t (fun d' e' => by rw [e2] at e'; cases e'; exact a e e1 r e2) _ e2
theorem step_none {D R : List (Option Nat)} {k h t c : Nat} (tn : Tn D k R) (e : R[h]? = some none) : Dn D k h t c R := fun e1 a r b => by
  have := tn h e1 a r
  rw [e] at this
  cases this
theorem step_keep {D R : List (Option Nat)} {k h t c r s : Nat} (sn : Sn D R) (tn : Tn D k R) (eh : R[h]? = some (some r)) (et : R[t]? = some (some s)) (n : ¬ r + c < s) : Dn D k h t c R := fun e1 a q b => by
  have q2 := tn h e1 a q
  rw [eh] at q2
  have q2 : r = e1 := Option.some.inj (Option.some.inj q2)
  obtain ⟨d, ed, l⟩ := sn.le t s et
  rw [ed] at b
  have b : d = e1 + c := Option.some.inj (Option.some.inj b)
  rw [et]
  congr 2
  omega
theorem step_set {D R : List (Option Nat)} {g k h t c r : Nat} {E : Nat → Nat → Nat → Prop} (hi : Hi D g E) (ed : E h t c) (sn : Sn D R) (tn : Tn D k R) (eh : R[h]? = some (some r)) (ht : t < R.length) (n : ∀ s : Nat, R[t]? = some (some s) → r + c < s) :
    Sn D (R.set t (some (r + c))) ∧ Up D R (R.set t (some (r + c))) ∧ Dn D k h t c (R.set t (some (r + c))) := by
  obtain ⟨a, ea, la⟩ := sn.le h r eh
  obtain ⟨b, eb, lb⟩ := hi.tri h t c ed a ea
  have self : (R.set t (some (r + c)))[t]? = some (some (r + c)) := List.getElem?_set_self ht
  refine ⟨⟨by rw [List.length_set]; exact sn.len, fun j m e => ?_⟩, fun j gj d e => ?_, fun e1 x1 q x2 => ?_⟩
  · by_cases c1 : t = j
    · subst c1
      rw [self] at e
      cases e
      exact ⟨b, eb, by omega⟩
    · rw [List.getElem?_set_ne c1] at e
      exact sn.le j m e
  · by_cases c1 : t = j
    · subst c1
      rw [eb] at e
      have e : b = d := Option.some.inj (Option.some.inj e)
      have := n d (gj d (by rw [eb, e]))
      omega
    · rw [List.getElem?_set_ne c1]
      exact gj d e
  · have := tn h e1 x1 q
    rw [eh] at this
    have : r = e1 := Option.some.inj (Option.some.inj this)
    rw [self, this]
theorem Tn.zero {D R : List (Option Nat)} {g : Nat} {E : Nat → Nat → Nat → Prop} (hi : Hi D g E) (h : R[g]? = some (some 0)) : Tn D 0 R := fun j d e r => by
  have d0 : d = 0 := by
    by_cases c : 0 < d
    · have := rank_lt hi.goal c
      omega
    · omega
  subst d0
  by_cases c : j = g
  · rw [c]; exact h
  · obtain ⟨h', c', e', ed, _, s⟩ := hi.near j 0 c e
    have := hi.one _ _ _ ed
    omega
theorem Tn.succ {D R : List (Option Nat)} {g k : Nat} {E : Nat → Nat → Nat → Prop} (hi : Hi D g E) (tn : Tn D k R) (dn : ∀ h t c, E h t c → Dn D k h t c R) : Tn D (k + 1) R := fun j d e r => by
  by_cases c : j = g
  · subst c
    have := hi.goal
    rw [e] at this
    have : d = 0 := Option.some.inj (Option.some.inj this)
    subst this
    refine tn j 0 e ?_
    have : rank D 0 = 0 := by
      unfold rank
      rw [List.countP_eq_zero]
      intro o _ ho
      cases o with
      | none => cases ho
      | some z => exact absurd (show z < 0 from of_decide_eq_true ho) (by omega)
    omega
  · obtain ⟨h, c', e', ed, eh, s⟩ := hi.near j d c e
    have := hi.one _ _ _ ed
    have l := rank_lt eh (show e' < d by omega)
    rw [← s] at e ⊢
    exact dn h j c' ed e' eh (by omega) e
theorem Tn.end {D R : List (Option Nat)} {k : Nat} (sn : Sn D R) (tn : Tn D k R) (hk : D.length ≤ k) : R = D := by
  apply List.ext_getElem?
  intro j
  cases e : D[j]? with
  | none =>
    rw [List.getElem?_eq_none_iff] at e ⊢
    rw [sn.len]; exact e
  | some o =>
    cases o with
    | some d => exact tn j d e (Nat.le_trans (rank_le D d) hk)
    | none =>
      have hj : j < R.length := by rw [sn.len]; exact (List.getElem?_eq_some_iff.mp e).1
      cases e' : R[j] with
      | none => rw [List.getElem?_eq_getElem hj, e']
      | some m =>
        obtain ⟨d, ed, _⟩ := sn.le j m (by rw [List.getElem?_eq_getElem hj, e'])
        rw [e] at ed
        cases ed
theorem Sn.ini {D : List (Option Nat)} {g : Nat} {E : Nat → Nat → Nat → Prop} (hi : Hi D g E) : Sn D ((List.replicate D.length none).set g (some 0)) := by
  refine ⟨by rw [List.length_set, List.length_replicate], fun j m e => ?_⟩
  by_cases c : g = j
  · subst c
    have hg := (List.getElem?_eq_some_iff.mp hi.goal).1
    rw [List.getElem?_set_self (by rw [List.length_replicate]; exact hg)] at e
    cases e
    exact ⟨0, hi.goal, Nat.le_refl _⟩
  · rw [List.getElem?_set_ne c, List.getElem?_replicate] at e
    split at e <;> cases e
end Bf

set_option Elab.async false
set_option linter.all false
set_option maxRecDepth 100000
set_option maxHeartbeats 4000000
namespace K11
open PySem L2 K1
open Fw (Wl hasW WsOk EW Fd leadF takeF iniF stF wkF)
seal PySem.wpAny
def top (i : Nat) : Stmt := PySem.Challenge.pw_roadbook_k11_minutes_on_foot.main.body.getD i (.Pass ⟨0, 0, 0, 0⟩)
abbrev s_wall : Stmt := top 0
abbrev s_is_any_number : Stmt := top 23
theorem sc_is_any_number : FnScope ["value"] ["value"] (defScope s_is_any_number) := ⟨rfl, rfl, rfl, by decide +kernel, rfl, by decide +kernel, by decide +kernel⟩
abbrev s_is_number : Stmt := top 24
theorem sc_is_number : FnScope ["value", "least", "most"] ["value", "least", "most"] (defScope s_is_number) := ⟨rfl, rfl, rfl, by decide +kernel, rfl, by decide +kernel, by decide +kernel⟩
abbrev s_check_number : Stmt := top 25
theorem sc_check_number : FnScope ["value", "least", "most"] ["value", "least", "most"] (defScope s_check_number) := ⟨rfl, rfl, rfl, by decide +kernel, rfl, by decide +kernel, by decide +kernel⟩
abbrev s_is_name : Stmt := top 26
theorem sc_is_name : FnScope ["value"] ["value"] (defScope s_is_name) := ⟨rfl, rfl, rfl, by decide +kernel, rfl, by decide +kernel, by decide +kernel⟩
abbrev s_is_known : Stmt := top 27
theorem sc_is_known : FnScope ["value", "named"] ["value", "named"] (defScope s_is_known) := ⟨rfl, rfl, rfl, by decide +kernel, rfl, by decide +kernel, by decide +kernel⟩
abbrev s_walked_at_once : Stmt := top 29
theorem sc_walked_at_once : FnScope ["net", "found", "stop", "one", "other", "minutes"] ["net"] (defScope s_walked_at_once) := ⟨rfl, rfl, rfl, by decide +kernel, rfl, by decide +kernel, by decide +kernel⟩
abbrev s_led_over : Stmt := top 30
theorem sc_led_over : FnScope ["found", "one", "middle", "other", "head", "tail"] ["found", "one", "middle", "other"] (defScope s_led_over) := ⟨rfl, rfl, rfl, by decide +kernel, rfl, by decide +kernel, by decide +kernel⟩
abbrev s_copy_of : Stmt := top 33
abbrev s_check_new : Stmt := top 41
theorem sc_check_new : FnScope ["name", "named"] ["name", "named"] (defScope s_check_new) := ⟨rfl, rfl, rfl, by decide +kernel, rfl, by decide +kernel, by decide +kernel⟩
abbrev s_check_room : Stmt := top 42
theorem sc_check_room : FnScope ["kept", "most"] ["kept", "most"] (defScope s_check_room) := ⟨rfl, rfl, rfl, by decide +kernel, rfl, by decide +kernel, by decide +kernel⟩
abbrev s_law_draw : Stmt := top 45
theorem sc_law_draw : FnScope ["_law_script", "_law_k", "_law_cell", "_law_number"] ["_law_script", "_law_k"] (defScope s_law_draw) := ⟨rfl, rfl, rfl, by decide +kernel, rfl, by decide +kernel, by decide +kernel⟩
abbrev s_law_word : Stmt := top 46
theorem sc_law_word : FnScope ["_law_e", "_law_some"] ["_law_e"] (defScope s_law_word) := ⟨rfl, rfl, rfl, by decide +kernel, rfl, by decide +kernel, by decide +kernel⟩
abbrev s_law_names : Stmt := top 47
theorem sc_law_names : FnScope ["_law_script", "_law_k", "_law_many", "_law_letters", "_law_number", "_law_row", "_law_size", "_law_at", "_law_rest"] ["_law_script", "_law_k", "_law_many"] (defScope s_law_names) := ⟨rfl, rfl, rfl, by decide +kernel, rfl, by decide +kernel, by decide +kernel⟩
abbrev s_law_walks : Stmt := top 48
theorem sc_law_walks : FnScope ["_law_script", "_law_k", "_law_many", "_law_most", "_law_found", "_law_seen", "_law_j", "_law_number", "_law_one", "_law_other"] ["_law_script", "_law_k", "_law_many", "_law_most"] (defScope s_law_walks) := ⟨rfl, rfl, rfl, by decide +kernel, rfl, by decide +kernel, by decide +kernel⟩
abbrev s_law_net : Stmt := top 49
theorem sc_law_net : FnScope ["_law_names_here", "_law_walks_here", "_law_net_here", "_law_k", "_law_name", "_law_one", "_law_other", "_law_minutes"] ["_law_names_here", "_law_walks_here"] (defScope s_law_net) := ⟨rfl, rfl, rfl, by decide +kernel, rfl, by decide +kernel, by decide +kernel⟩
abbrev s_law_table : Stmt := top 50
theorem sc_law_table : FnScope ["_law_many", "_law_walks_here", "_law_table_here", "_law_one", "_law_turn", "_law_first", "_law_second", "_law_minutes", "_law_here", "_law_there", "_law_far"] ["_law_many", "_law_walks_here"] (defScope s_law_table) := ⟨rfl, rfl, rfl, by decide +kernel, rfl, by decide +kernel, by decide +kernel⟩
abbrev s_law_way_right : Stmt := top 51
theorem sc_law_way_right : FnScope ["_law_way", "_law_names_here", "_law_walks_here", "_law_one", "_law_other", "_law_due", "_law_spent", "_law_here", "_law_there", "_law_some"] ["_law_way", "_law_names_here", "_law_walks_here", "_law_one", "_law_other", "_law_due"] (defScope s_law_way_right) := ⟨rfl, rfl, rfl, by decide +kernel, rfl, by decide +kernel, by decide +kernel⟩
abbrev s_law_right : Stmt := top 52
theorem sc_law_right : FnScope ["_law_feet", "_law_names_here", "_law_walks_here", "_law_table_here", "_law_one", "_law_other", "_law_due", "_law_found", "_law_way"] ["_law_feet", "_law_names_here", "_law_walks_here", "_law_table_here", "_law_one", "_law_other"] (defScope s_law_right) := ⟨rfl, rfl, rfl, by decide +kernel, rfl, by decide +kernel, by decide +kernel⟩
abbrev s_law_refused : Stmt := top 53
theorem sc_law_refused : FnScope ["_law_feet", "_law_way", "_law_one", "_law_other", "_law_caught", "_law_e"] ["_law_feet", "_law_way", "_law_one", "_law_other"] (defScope s_law_refused) := ⟨rfl, rfl, rfl, by decide +kernel, rfl, by decide +kernel, by decide +kernel⟩
abbrev s_law_goes_on : Stmt := top 54
theorem sc_law_goes_on : FnScope ["_law_net_here", "_law_feet", "_law_names_here", "_law_walks_here", "_law_table_here", "_law_last"] ["_law_net_here", "_law_feet", "_law_names_here", "_law_walks_here", "_law_table_here"] (defScope s_law_goes_on) := ⟨rfl, rfl, rfl, by decide +kernel, rfl, by decide +kernel, by decide +kernel⟩
abbrev s_law : Stmt := top 55
theorem sc_law : FnScope ["_law_script", "_law_number", "_law_many", "_law_names_here", "_law_walks_here", "_law_net_here", "_law_feet", "_law_table_here", "_law_one", "_law_other", "_law_odd", "_law_way"] ["_law_script"] (defScope s_law) := ⟨rfl, rfl, rfl, by decide +kernel, rfl, by decide +kernel, by decide +kernel⟩
abbrev s_Feet_init : Stmt := inClass (top 31) 0
theorem sc_Feet_init : FnScope ["self", "net", "names", "middle", "one", "other"] ["self", "net"] (defScope s_Feet_init) := ⟨rfl, rfl, rfl, by decide +kernel, rfl, by decide +kernel, by decide +kernel⟩
abbrev s_Feet_take_shorter : Stmt := inClass (top 31) 1
theorem sc_Feet_take_shorter : FnScope ["self", "one", "other", "led", "kept"] ["self", "one", "other", "led"] (defScope s_Feet_take_shorter) := ⟨rfl, rfl, rfl, by decide +kernel, rfl, by decide +kernel, by decide +kernel⟩
abbrev s_Feet_between : Stmt := inClass (top 31) 2
theorem sc_Feet_between : FnScope ["self", "one", "other", "name"] ["self", "one", "other"] (defScope s_Feet_between) := ⟨rfl, rfl, rfl, by decide +kernel, rfl, by decide +kernel, by decide +kernel⟩
abbrev s_Feet_minutes : Stmt := inClass (top 31) 3
theorem sc_Feet_minutes : FnScope ["self", "one", "other", "kept"] ["self", "one", "other"] (defScope s_Feet_minutes) := ⟨rfl, rfl, rfl, by decide +kernel, rfl, by decide +kernel, by decide +kernel⟩
abbrev s_Feet_way : Stmt := inClass (top 31) 4
theorem sc_Feet_way : FnScope ["self", "one", "other", "kept"] ["self", "one", "other"] (defScope s_Feet_way) := ⟨rfl, rfl, rfl, by decide +kernel, rfl, by decide +kernel, by decide +kernel⟩
abbrev s_Rule_copied : Stmt := inClass (top 34) 0
abbrev s_Rule_parts : Stmt := inClass (top 34) 1
abbrev s_Rule_runs : Stmt := inClass (top 34) 2
abbrev s_Rule_words : Stmt := inClass (top 34) 3
abbrev s_Rule_weight : Stmt := inClass (top 34) 4
abbrev s_Rule_depth : Stmt := inClass (top 34) 5
abbrev s_Net_init : Stmt := inClass (top 43) 0
theorem sc_Net_init : FnScope ["self"] ["self"] (defScope s_Net_init) := ⟨rfl, rfl, rfl, by decide +kernel, rfl, by decide +kernel, by decide +kernel⟩
abbrev s_Net_copied : Stmt := inClass (top 43) 1
abbrev s_Net_add_stop : Stmt := inClass (top 43) 2
theorem sc_Net_add_stop : FnScope ["self", "name", "zone", "change"] ["self", "name", "zone", "change"] (defScope s_Net_add_stop) := ⟨rfl, rfl, rfl, by decide +kernel, rfl, by decide +kernel, by decide +kernel⟩
abbrev s_Net_add_walk : Stmt := inClass (top 43) 3
theorem sc_Net_add_walk : FnScope ["self", "one", "other", "minutes"] ["self", "one", "other", "minutes"] (defScope s_Net_add_walk) := ⟨rfl, rfl, rfl, by decide +kernel, rfl, by decide +kernel, by decide +kernel⟩
abbrev s_Net_add_rule : Stmt := inClass (top 43) 4
abbrev s_Net_add_ticket : Stmt := inClass (top 43) 5
abbrev s_Net_add_trip : Stmt := inClass (top 43) 6
abbrev s_Net_check_stop : Stmt := inClass (top 43) 7
theorem sc_Net_check_stop : FnScope ["self", "name"] ["self", "name"] (defScope s_Net_check_stop) := ⟨rfl, rfl, rfl, by decide +kernel, rfl, by decide +kernel, by decide +kernel⟩
abbrev s_Net_check_trip : Stmt := inClass (top 43) 8
abbrev s_Net_check_call : Stmt := inClass (top 43) 9
abbrev s_Net_has_walk : Stmt := inClass (top 43) 10
theorem sc_Net_has_walk : FnScope ["self", "one", "other"] ["self", "one", "other"] (defScope s_Net_has_walk) := ⟨rfl, rfl, rfl, by decide +kernel, rfl, by decide +kernel, by decide +kernel⟩
abbrev s_Net_stops : Stmt := inClass (top 43) 11
theorem sc_Net_stops : FnScope ["self"] ["self"] (defScope s_Net_stops) := ⟨rfl, rfl, rfl, by decide +kernel, rfl, by decide +kernel, by decide +kernel⟩
abbrev s_Net_walks : Stmt := inClass (top 43) 12
theorem sc_Net_walks : FnScope ["self"] ["self"] (defScope s_Net_walks) := ⟨rfl, rfl, rfl, by decide +kernel, rfl, by decide +kernel, by decide +kernel⟩
abbrev s_Net_rules : Stmt := inClass (top 43) 13
abbrev s_Net_tickets : Stmt := inClass (top 43) 14
abbrev s_Net_trips : Stmt := inClass (top 43) 15
abbrev s_Net_zone : Stmt := inClass (top 43) 16
abbrev s_Net_change : Stmt := inClass (top 43) 17
abbrev s_Net_rule : Stmt := inClass (top 43) 18
abbrev s_Net_ticket : Stmt := inClass (top 43) 19
abbrev s_Net_rule_name : Stmt := inClass (top 43) 20
abbrev s_Net_calls : Stmt := inClass (top 43) 21
theorem b_ValueError : bootBuiltins "ValueError" = some (.type "ValueError") := by decide +kernel
theorem b_all : bootBuiltins "all" = some (.builtin "all") := by decide +kernel
theorem b_any : bootBuiltins "any" = some (.builtin "any") := by decide +kernel
theorem b_bool : bootBuiltins "bool" = some (.type "bool") := by decide +kernel
theorem b_dict : bootBuiltins "dict" = some (.type "dict") := by decide +kernel
theorem b_int : bootBuiltins "int" = some (.type "int") := by decide +kernel
theorem b_isinstance : bootBuiltins "isinstance" = some (.builtin "isinstance") := by decide +kernel
theorem b_len : bootBuiltins "len" = some (.builtin "len") := by decide +kernel
theorem b_list : bootBuiltins "list" = some (.type "list") := by decide +kernel
theorem b_min : bootBuiltins "min" = some (.builtin "min") := by decide +kernel
theorem b_str : bootBuiltins "str" = some (.type "str") := by decide +kernel
structure Adr where
  f_wall : Addr
  d_wall : FuncData
  f_is_any_number : Addr
  d_is_any_number : FuncData
  f_is_number : Addr
  d_is_number : FuncData
  f_check_number : Addr
  d_check_number : FuncData
  f_is_name : Addr
  d_is_name : FuncData
  f_is_known : Addr
  d_is_known : FuncData
  f_walked_at_once : Addr
  d_walked_at_once : FuncData
  f_led_over : Addr
  d_led_over : FuncData
  f_copy_of : Addr
  d_copy_of : FuncData
  f_check_new : Addr
  d_check_new : FuncData
  f_check_room : Addr
  d_check_room : FuncData
  f_law_draw : Addr
  d_law_draw : FuncData
  f_law_word : Addr
  d_law_word : FuncData
  f_law_names : Addr
  d_law_names : FuncData
  f_law_walks : Addr
  d_law_walks : FuncData
  f_law_net : Addr
  d_law_net : FuncData
  f_law_table : Addr
  d_law_table : FuncData
  f_law_way_right : Addr
  d_law_way_right : FuncData
  f_law_right : Addr
  d_law_right : FuncData
  f_law_refused : Addr
  d_law_refused : FuncData
  f_law_goes_on : Addr
  d_law_goes_on : FuncData
  f_law : Addr
  d_law : FuncData
  f_Feet_init : Addr
  d_Feet_init : FuncData
  f_Feet_take_shorter : Addr
  d_Feet_take_shorter : FuncData
  f_Feet_between : Addr
  d_Feet_between : FuncData
  f_Feet_minutes : Addr
  d_Feet_minutes : FuncData
  f_Feet_way : Addr
  d_Feet_way : FuncData
  f_Rule_copied : Addr
  d_Rule_copied : FuncData
  f_Rule_parts : Addr
  d_Rule_parts : FuncData
  f_Rule_runs : Addr
  d_Rule_runs : FuncData
  f_Rule_words : Addr
  d_Rule_words : FuncData
  f_Rule_weight : Addr
  d_Rule_weight : FuncData
  f_Rule_depth : Addr
  d_Rule_depth : FuncData
  f_Net_init : Addr
  d_Net_init : FuncData
  f_Net_copied : Addr
  d_Net_copied : FuncData
  f_Net_add_stop : Addr
  d_Net_add_stop : FuncData
  f_Net_add_walk : Addr
  d_Net_add_walk : FuncData
  f_Net_add_rule : Addr
  d_Net_add_rule : FuncData
  f_Net_add_ticket : Addr
  d_Net_add_ticket : FuncData
  f_Net_add_trip : Addr
  d_Net_add_trip : FuncData
  f_Net_check_stop : Addr
  d_Net_check_stop : FuncData
  f_Net_check_trip : Addr
  d_Net_check_trip : FuncData
  f_Net_check_call : Addr
  d_Net_check_call : FuncData
  f_Net_has_walk : Addr
  d_Net_has_walk : FuncData
  f_Net_stops : Addr
  d_Net_stops : FuncData
  f_Net_walks : Addr
  d_Net_walks : FuncData
  f_Net_rules : Addr
  d_Net_rules : FuncData
  f_Net_tickets : Addr
  d_Net_tickets : FuncData
  f_Net_trips : Addr
  d_Net_trips : FuncData
  f_Net_zone : Addr
  d_Net_zone : FuncData
  f_Net_change : Addr
  d_Net_change : FuncData
  f_Net_rule : Addr
  d_Net_rule : FuncData
  f_Net_ticket : Addr
  d_Net_ticket : FuncData
  f_Net_rule_name : Addr
  d_Net_rule_name : FuncData
  f_Net_calls : Addr
  d_Net_calls : FuncData
  c_RoadError : Addr
  c_BadClock : Addr
  c_BadRule : Addr
  c_TooMany : Addr
  c_BadName : Addr
  c_Twice : Addr
  c_NoStop : Addr
  c_NoRule : Addr
  c_NoTicket : Addr
  c_NoTrip : Addr
  c_BadNumber : Addr
  c_BadCalls : Addr
  c_BadRow : Addr
  c_NoRun : Addr
  c_NoPlan : Addr
  c_TooLate : Addr
  c_NoTraveller : Addr
  c_BadLine : Addr
  c_Feet : Addr
  c_Rule : Addr
  c_Net : Addr
structure Tab (K : W.Frag) (mg : Str → Option Value) (t : Adr) : Prop where
  z_ValueError : mg "ValueError" = none
  z_all : mg "all" = none
  z_any : mg "any" = none
  z_bool : mg "bool" = none
  z_dict : mg "dict" = none
  z_enumerate : mg "enumerate" = none
  z_int : mg "int" = none
  z_isinstance : mg "isinstance" = none
  z_len : mg "len" = none
  z_list : mg "list" = none
  z_min : mg "min" = none
  z_range : mg "range" = none
  z_str : mg "str" = none
  z_zip : mg "zip" = none
  m_LETTERS : ∃ tk, mg "LETTERS" = some (.str (Str.ofString "abcdefghijklmnopqrstuvwxyz") tk)
  m_MOST_LETTERS : ∃ tk, mg "MOST_LETTERS" = some (.int 8 tk)
  m_MOST_STOPS : ∃ tk, mg "MOST_STOPS" = some (.int 8 tk)
  m_MOST_WALKS : ∃ tk, mg "MOST_WALKS" = some (.int 12 tk)
  m_LAST_ZONE : ∃ tk, mg "LAST_ZONE" = some (.int 6 tk)
  m_MOST_CHANGE : ∃ tk, mg "MOST_CHANGE" = some (.int 30 tk)
  m_MOST_WALKED : ∃ tk, mg "MOST_WALKED" = some (.int 60 tk)
  F_wall : Fun K "_wall" "_wall" s_wall t.f_wall t.d_wall
  m_wall : mg "_wall" = some (.ref t.f_wall)
  b_wall : Binds K t.d_wall ["k"] []
  F_is_any_number : Fun K "is_any_number" "is_any_number" s_is_any_number t.f_is_any_number t.d_is_any_number
  m_is_any_number : mg "is_any_number" = some (.ref t.f_is_any_number)
  b_is_any_number : Binds K t.d_is_any_number ["value"] []
  F_is_number : Fun K "is_number" "is_number" s_is_number t.f_is_number t.d_is_number
  m_is_number : mg "is_number" = some (.ref t.f_is_number)
  b_is_number : Binds K t.d_is_number ["value", "least", "most"] []
  F_check_number : Fun K "check_number" "check_number" s_check_number t.f_check_number t.d_check_number
  m_check_number : mg "check_number" = some (.ref t.f_check_number)
  b_check_number : Binds K t.d_check_number ["value", "least", "most"] []
  F_is_name : Fun K "is_name" "is_name" s_is_name t.f_is_name t.d_is_name
  m_is_name : mg "is_name" = some (.ref t.f_is_name)
  b_is_name : Binds K t.d_is_name ["value"] []
  F_is_known : Fun K "is_known" "is_known" s_is_known t.f_is_known t.d_is_known
  m_is_known : mg "is_known" = some (.ref t.f_is_known)
  b_is_known : Binds K t.d_is_known ["value", "named"] []
  F_walked_at_once : Fun K "walked_at_once" "walked_at_once" s_walked_at_once t.f_walked_at_once t.d_walked_at_once
  m_walked_at_once : mg "walked_at_once" = some (.ref t.f_walked_at_once)
  b_walked_at_once : Binds K t.d_walked_at_once ["net"] []
  F_led_over : Fun K "led_over" "led_over" s_led_over t.f_led_over t.d_led_over
  m_led_over : mg "led_over" = some (.ref t.f_led_over)
  b_led_over : Binds K t.d_led_over ["found", "one", "middle", "other"] []
  F_copy_of : Fun K "copy_of" "copy_of" s_copy_of t.f_copy_of t.d_copy_of
  m_copy_of : mg "copy_of" = some (.ref t.f_copy_of)
  b_copy_of : Binds K t.d_copy_of ["rule"] []
  F_check_new : Fun K "check_new" "check_new" s_check_new t.f_check_new t.d_check_new
  m_check_new : mg "check_new" = some (.ref t.f_check_new)
  b_check_new : Binds K t.d_check_new ["name", "named"] []
  F_check_room : Fun K "check_room" "check_room" s_check_room t.f_check_room t.d_check_room
  m_check_room : mg "check_room" = some (.ref t.f_check_room)
  b_check_room : Binds K t.d_check_room ["kept", "most"] []
  F_law_draw : Fun K "_law_draw" "_law_draw" s_law_draw t.f_law_draw t.d_law_draw
  m_law_draw : mg "_law_draw" = some (.ref t.f_law_draw)
  b_law_draw : Binds K t.d_law_draw ["_law_script", "_law_k"] []
  F_law_word : Fun K "_law_word" "_law_word" s_law_word t.f_law_word t.d_law_word
  m_law_word : mg "_law_word" = some (.ref t.f_law_word)
  b_law_word : Binds K t.d_law_word ["_law_e"] []
  F_law_names : Fun K "_law_names" "_law_names" s_law_names t.f_law_names t.d_law_names
  m_law_names : mg "_law_names" = some (.ref t.f_law_names)
  b_law_names : Binds K t.d_law_names ["_law_script", "_law_k", "_law_many"] []
  F_law_walks : Fun K "_law_walks" "_law_walks" s_law_walks t.f_law_walks t.d_law_walks
  m_law_walks : mg "_law_walks" = some (.ref t.f_law_walks)
  b_law_walks : Binds K t.d_law_walks ["_law_script", "_law_k", "_law_many", "_law_most"] []
  F_law_net : Fun K "_law_net" "_law_net" s_law_net t.f_law_net t.d_law_net
  m_law_net : mg "_law_net" = some (.ref t.f_law_net)
  b_law_net : Binds K t.d_law_net ["_law_names_here", "_law_walks_here"] []
  F_law_table : Fun K "_law_table" "_law_table" s_law_table t.f_law_table t.d_law_table
  m_law_table : mg "_law_table" = some (.ref t.f_law_table)
  b_law_table : Binds K t.d_law_table ["_law_many", "_law_walks_here"] []
  F_law_way_right : Fun K "_law_way_right" "_law_way_right" s_law_way_right t.f_law_way_right t.d_law_way_right
  m_law_way_right : mg "_law_way_right" = some (.ref t.f_law_way_right)
  b_law_way_right : Binds K t.d_law_way_right ["_law_way", "_law_names_here", "_law_walks_here", "_law_one", "_law_other", "_law_due"] []
  F_law_right : Fun K "_law_right" "_law_right" s_law_right t.f_law_right t.d_law_right
  m_law_right : mg "_law_right" = some (.ref t.f_law_right)
  b_law_right : Binds K t.d_law_right ["_law_feet", "_law_names_here", "_law_walks_here", "_law_table_here", "_law_one", "_law_other"] []
  F_law_refused : Fun K "_law_refused" "_law_refused" s_law_refused t.f_law_refused t.d_law_refused
  m_law_refused : mg "_law_refused" = some (.ref t.f_law_refused)
  b_law_refused : Binds K t.d_law_refused ["_law_feet", "_law_way", "_law_one", "_law_other"] []
  F_law_goes_on : Fun K "_law_goes_on" "_law_goes_on" s_law_goes_on t.f_law_goes_on t.d_law_goes_on
  m_law_goes_on : mg "_law_goes_on" = some (.ref t.f_law_goes_on)
  b_law_goes_on : Binds K t.d_law_goes_on ["_law_net_here", "_law_feet", "_law_names_here", "_law_walks_here", "_law_table_here"] []
  F_law : Fun K "law" "law" s_law t.f_law t.d_law
  m_law : mg "law" = some (.ref t.f_law)
  b_law : Binds K t.d_law ["_law_script"] []
  F_Feet_init : Fun K "__init__" "Feet.__init__" s_Feet_init t.f_Feet_init t.d_Feet_init
  b_Feet_init : Binds K t.d_Feet_init ["self", "net"] []
  F_Feet_take_shorter : Fun K "take_shorter" "Feet.take_shorter" s_Feet_take_shorter t.f_Feet_take_shorter t.d_Feet_take_shorter
  b_Feet_take_shorter : Binds K t.d_Feet_take_shorter ["self", "one", "other", "led"] []
  F_Feet_between : Fun K "between" "Feet.between" s_Feet_between t.f_Feet_between t.d_Feet_between
  b_Feet_between : Binds K t.d_Feet_between ["self", "one", "other"] []
  F_Feet_minutes : Fun K "minutes" "Feet.minutes" s_Feet_minutes t.f_Feet_minutes t.d_Feet_minutes
  b_Feet_minutes : Binds K t.d_Feet_minutes ["self", "one", "other"] []
  F_Feet_way : Fun K "way" "Feet.way" s_Feet_way t.f_Feet_way t.d_Feet_way
  b_Feet_way : Binds K t.d_Feet_way ["self", "one", "other"] []
  F_Rule_copied : Fun K "copied" "Rule.copied" s_Rule_copied t.f_Rule_copied t.d_Rule_copied
  b_Rule_copied : Binds K t.d_Rule_copied ["self"] []
  F_Rule_parts : Fun K "parts" "Rule.parts" s_Rule_parts t.f_Rule_parts t.d_Rule_parts
  b_Rule_parts : Binds K t.d_Rule_parts ["self"] []
  F_Rule_runs : Fun K "runs" "Rule.runs" s_Rule_runs t.f_Rule_runs t.d_Rule_runs
  b_Rule_runs : Binds K t.d_Rule_runs ["self", "day"] []
  F_Rule_words : Fun K "words" "Rule.words" s_Rule_words t.f_Rule_words t.d_Rule_words
  b_Rule_words : Binds K t.d_Rule_words ["self"] []
  F_Rule_weight : Fun K "weight" "Rule.weight" s_Rule_weight t.f_Rule_weight t.d_Rule_weight
  b_Rule_weight : Binds K t.d_Rule_weight ["self"] []
  F_Rule_depth : Fun K "depth" "Rule.depth" s_Rule_depth t.f_Rule_depth t.d_Rule_depth
  b_Rule_depth : Binds K t.d_Rule_depth ["self"] []
  F_Net_init : Fun K "__init__" "Net.__init__" s_Net_init t.f_Net_init t.d_Net_init
  b_Net_init : Binds K t.d_Net_init ["self"] []
  F_Net_copied : Fun K "copied" "Net.copied" s_Net_copied t.f_Net_copied t.d_Net_copied
  b_Net_copied : Binds K t.d_Net_copied ["self"] []
  F_Net_add_stop : Fun K "add_stop" "Net.add_stop" s_Net_add_stop t.f_Net_add_stop t.d_Net_add_stop
  b_Net_add_stop : Binds K t.d_Net_add_stop ["self", "name", "zone", "change"] []
  F_Net_add_walk : Fun K "add_walk" "Net.add_walk" s_Net_add_walk t.f_Net_add_walk t.d_Net_add_walk
  b_Net_add_walk : Binds K t.d_Net_add_walk ["self", "one", "other", "minutes"] []
  F_Net_add_rule : Fun K "add_rule" "Net.add_rule" s_Net_add_rule t.f_Net_add_rule t.d_Net_add_rule
  b_Net_add_rule : Binds K t.d_Net_add_rule ["self", "name", "rule"] []
  F_Net_add_ticket : Fun K "add_ticket" "Net.add_ticket" s_Net_add_ticket t.f_Net_add_ticket t.d_Net_add_ticket
  b_Net_add_ticket : Binds K t.d_Net_add_ticket ["self", "name", "price", "lasts", "zones"] []
  F_Net_add_trip : Fun K "add_trip" "Net.add_trip" s_Net_add_trip t.f_Net_add_trip t.d_Net_add_trip
  b_Net_add_trip : Binds K t.d_Net_add_trip ["self", "name", "rule", "calls"] []
  F_Net_check_stop : Fun K "check_stop" "Net.check_stop" s_Net_check_stop t.f_Net_check_stop t.d_Net_check_stop
  b_Net_check_stop : Binds K t.d_Net_check_stop ["self", "name"] []
  F_Net_check_trip : Fun K "check_trip" "Net.check_trip" s_Net_check_trip t.f_Net_check_trip t.d_Net_check_trip
  b_Net_check_trip : Binds K t.d_Net_check_trip ["self", "name"] []
  F_Net_check_call : Fun K "check_call" "Net.check_call" s_Net_check_call t.f_Net_check_call t.d_Net_check_call
  b_Net_check_call : Binds K t.d_Net_check_call ["self", "call"] []
  F_Net_has_walk : Fun K "has_walk" "Net.has_walk" s_Net_has_walk t.f_Net_has_walk t.d_Net_has_walk
  b_Net_has_walk : Binds K t.d_Net_has_walk ["self", "one", "other"] []
  F_Net_stops : Fun K "stops" "Net.stops" s_Net_stops t.f_Net_stops t.d_Net_stops
  b_Net_stops : Binds K t.d_Net_stops ["self"] []
  F_Net_walks : Fun K "walks" "Net.walks" s_Net_walks t.f_Net_walks t.d_Net_walks
  b_Net_walks : Binds K t.d_Net_walks ["self"] []
  F_Net_rules : Fun K "rules" "Net.rules" s_Net_rules t.f_Net_rules t.d_Net_rules
  b_Net_rules : Binds K t.d_Net_rules ["self"] []
  F_Net_tickets : Fun K "tickets" "Net.tickets" s_Net_tickets t.f_Net_tickets t.d_Net_tickets
  b_Net_tickets : Binds K t.d_Net_tickets ["self"] []
  F_Net_trips : Fun K "trips" "Net.trips" s_Net_trips t.f_Net_trips t.d_Net_trips
  b_Net_trips : Binds K t.d_Net_trips ["self"] []
  F_Net_zone : Fun K "zone" "Net.zone" s_Net_zone t.f_Net_zone t.d_Net_zone
  b_Net_zone : Binds K t.d_Net_zone ["self", "stop"] []
  F_Net_change : Fun K "change" "Net.change" s_Net_change t.f_Net_change t.d_Net_change
  b_Net_change : Binds K t.d_Net_change ["self", "stop"] []
  F_Net_rule : Fun K "rule" "Net.rule" s_Net_rule t.f_Net_rule t.d_Net_rule
  b_Net_rule : Binds K t.d_Net_rule ["self", "name"] []
  F_Net_ticket : Fun K "ticket" "Net.ticket" s_Net_ticket t.f_Net_ticket t.d_Net_ticket
  b_Net_ticket : Binds K t.d_Net_ticket ["self", "name"] []
  F_Net_rule_name : Fun K "rule_name" "Net.rule_name" s_Net_rule_name t.f_Net_rule_name t.d_Net_rule_name
  b_Net_rule_name : Binds K t.d_Net_rule_name ["self", "trip"] []
  F_Net_calls : Fun K "calls" "Net.calls" s_Net_calls t.f_Net_calls t.d_Net_calls
  b_Net_calls : Binds K t.d_Net_calls ["self", "trip"] []
  cl_Feet : Cls K t.c_Feet
  mk_Feet : Mk K t.c_Feet t.f_Feet_init
  me_Feet_between : Meth K t.c_Feet "between" t.f_Feet_between
  me_Feet_minutes : Meth K t.c_Feet "minutes" t.f_Feet_minutes
  me_Feet_take_shorter : Meth K t.c_Feet "take_shorter" t.f_Feet_take_shorter
  me_Feet_way : Meth K t.c_Feet "way" t.f_Feet_way
  na_Feet_known : NoAttr K t.c_Feet "known"
  na_Feet_found : NoAttr K t.c_Feet "found"
  cl_Rule : Cls K t.c_Rule
  mkn_Rule : MkN K t.c_Rule
  me_Rule_copied : Meth K t.c_Rule "copied" t.f_Rule_copied
  me_Rule_depth : Meth K t.c_Rule "depth" t.f_Rule_depth
  me_Rule_parts : Meth K t.c_Rule "parts" t.f_Rule_parts
  me_Rule_runs : Meth K t.c_Rule "runs" t.f_Rule_runs
  me_Rule_weight : Meth K t.c_Rule "weight" t.f_Rule_weight
  me_Rule_words : Meth K t.c_Rule "words" t.f_Rule_words
  na_Rule_known : NoAttr K t.c_Rule "known"
  na_Rule_found : NoAttr K t.c_Rule "found"
  na_Rule_stop_rows : NoAttr K t.c_Rule "stop_rows"
  na_Rule_walk_rows : NoAttr K t.c_Rule "walk_rows"
  na_Rule_rule_rows : NoAttr K t.c_Rule "rule_rows"
  na_Rule_ticket_rows : NoAttr K t.c_Rule "ticket_rows"
  na_Rule_trip_rows : NoAttr K t.c_Rule "trip_rows"
  cl_Net : Cls K t.c_Net
  mk_Net : Mk K t.c_Net t.f_Net_init
  me_Net_add_rule : Meth K t.c_Net "add_rule" t.f_Net_add_rule
  me_Net_add_stop : Meth K t.c_Net "add_stop" t.f_Net_add_stop
  me_Net_add_ticket : Meth K t.c_Net "add_ticket" t.f_Net_add_ticket
  me_Net_add_trip : Meth K t.c_Net "add_trip" t.f_Net_add_trip
  me_Net_add_walk : Meth K t.c_Net "add_walk" t.f_Net_add_walk
  me_Net_calls : Meth K t.c_Net "calls" t.f_Net_calls
  me_Net_change : Meth K t.c_Net "change" t.f_Net_change
  me_Net_check_call : Meth K t.c_Net "check_call" t.f_Net_check_call
  me_Net_check_stop : Meth K t.c_Net "check_stop" t.f_Net_check_stop
  me_Net_check_trip : Meth K t.c_Net "check_trip" t.f_Net_check_trip
  me_Net_copied : Meth K t.c_Net "copied" t.f_Net_copied
  me_Net_has_walk : Meth K t.c_Net "has_walk" t.f_Net_has_walk
  me_Net_rule : Meth K t.c_Net "rule" t.f_Net_rule
  me_Net_rule_name : Meth K t.c_Net "rule_name" t.f_Net_rule_name
  me_Net_rules : Meth K t.c_Net "rules" t.f_Net_rules
  me_Net_stops : Meth K t.c_Net "stops" t.f_Net_stops
  me_Net_ticket : Meth K t.c_Net "ticket" t.f_Net_ticket
  me_Net_tickets : Meth K t.c_Net "tickets" t.f_Net_tickets
  me_Net_trips : Meth K t.c_Net "trips" t.f_Net_trips
  me_Net_walks : Meth K t.c_Net "walks" t.f_Net_walks
  me_Net_zone : Meth K t.c_Net "zone" t.f_Net_zone
  na_Net_stop_rows : NoAttr K t.c_Net "stop_rows"
  na_Net_walk_rows : NoAttr K t.c_Net "walk_rows"
  na_Net_rule_rows : NoAttr K t.c_Net "rule_rows"
  na_Net_ticket_rows : NoAttr K t.c_Net "ticket_rows"
  na_Net_trip_rows : NoAttr K t.c_Net "trip_rows"
  m_RoadError : mg "RoadError" = some (.ref t.c_RoadError)
  m_BadClock : mg "BadClock" = some (.ref t.c_BadClock)
  m_BadRule : mg "BadRule" = some (.ref t.c_BadRule)
  m_TooMany : mg "TooMany" = some (.ref t.c_TooMany)
  m_BadName : mg "BadName" = some (.ref t.c_BadName)
  m_Twice : mg "Twice" = some (.ref t.c_Twice)
  m_NoStop : mg "NoStop" = some (.ref t.c_NoStop)
  m_NoRule : mg "NoRule" = some (.ref t.c_NoRule)
  m_NoTicket : mg "NoTicket" = some (.ref t.c_NoTicket)
  m_NoTrip : mg "NoTrip" = some (.ref t.c_NoTrip)
  m_BadNumber : mg "BadNumber" = some (.ref t.c_BadNumber)
  m_BadCalls : mg "BadCalls" = some (.ref t.c_BadCalls)
  m_BadRow : mg "BadRow" = some (.ref t.c_BadRow)
  m_NoRun : mg "NoRun" = some (.ref t.c_NoRun)
  m_NoPlan : mg "NoPlan" = some (.ref t.c_NoPlan)
  m_TooLate : mg "TooLate" = some (.ref t.c_TooLate)
  m_NoTraveller : mg "NoTraveller" = some (.ref t.c_NoTraveller)
  m_BadLine : mg "BadLine" = some (.ref t.c_BadLine)
  m_Feet : mg "Feet" = some (.ref t.c_Feet)
  m_Rule : mg "Rule" = some (.ref t.c_Rule)
  m_Net : mg "Net" = some (.ref t.c_Net)
  e_NoStop : ExC K t.c_NoStop
  i_NoStop : ExI K t.c_NoStop
  k_NoStop_BadCalls : W.kitOne K (.ref t.c_NoStop) (.ref t.c_BadCalls) = some false
  k_NoStop_BadClock : W.kitOne K (.ref t.c_NoStop) (.ref t.c_BadClock) = some false
  k_NoStop_BadLine : W.kitOne K (.ref t.c_NoStop) (.ref t.c_BadLine) = some false
  k_NoStop_BadName : W.kitOne K (.ref t.c_NoStop) (.ref t.c_BadName) = some false
  k_NoStop_BadNumber : W.kitOne K (.ref t.c_NoStop) (.ref t.c_BadNumber) = some false
  k_NoStop_BadRow : W.kitOne K (.ref t.c_NoStop) (.ref t.c_BadRow) = some false
  k_NoStop_BadRule : W.kitOne K (.ref t.c_NoStop) (.ref t.c_BadRule) = some false
  k_NoStop_NoPlan : W.kitOne K (.ref t.c_NoStop) (.ref t.c_NoPlan) = some false
  k_NoStop_NoRule : W.kitOne K (.ref t.c_NoStop) (.ref t.c_NoRule) = some false
  k_NoStop_NoRun : W.kitOne K (.ref t.c_NoStop) (.ref t.c_NoRun) = some false
  k_NoStop_NoStop : W.kitOne K (.ref t.c_NoStop) (.ref t.c_NoStop) = some true
  k_NoStop_NoTicket : W.kitOne K (.ref t.c_NoStop) (.ref t.c_NoTicket) = some false
  k_NoStop_NoTraveller : W.kitOne K (.ref t.c_NoStop) (.ref t.c_NoTraveller) = some false
  k_NoStop_NoTrip : W.kitOne K (.ref t.c_NoStop) (.ref t.c_NoTrip) = some false
  k_NoStop_TooLate : W.kitOne K (.ref t.c_NoStop) (.ref t.c_TooLate) = some false
  k_NoStop_TooMany : W.kitOne K (.ref t.c_NoStop) (.ref t.c_TooMany) = some false
  k_NoStop_Twice : W.kitOne K (.ref t.c_NoStop) (.ref t.c_Twice) = some false
  v_NoStop : W.kitOne K (.ref t.c_NoStop) (.type "ValueError") = some true
  x_NoStop : W.exmOne K (.ref t.c_NoStop) (.ref t.c_RoadError) = some true
section
variable {P : Program} {w : World} {K : W.Frag} {mg : Str → Option Value} {base : Heap} {t : Adr}
def spAnyN : Sp := fun vs H Q _ => ∃ (v : V) (T : String), vs = [v] ∧ Kd H v T ∧ Q (.bl (wholeV v)) H
theorem ok_is_any_number (Tx : Tab K mg t) : FnOk P w K mg base CX0 1 t.f_is_any_number t.d_is_any_number ["value"] spAnyN := by
  refine Tx.F_is_any_number.ok sc_is_any_number (fun vs H Q E h => ?_) (fun cdv A outer s H vs Q E hr h => ?_)
  · obtain ⟨v, T, rfl, _⟩ := h
    rfl
  obtain ⟨v, T, rfl, kd, q⟩ := h
  refine ⟨_, (pss_one (ps_ret (pe_and (pe_callB call_isi_ty rfl Tx.z_isinstance b_isinstance (pac (pv 0) (pac (pe_gty rfl Tx.z_int b_int) pa_nil))) (pe_one (pe_not (pe_callB call_isi_ty rfl Tx.z_isinstance b_isinstance (pac (pv 0) (pac (pe_gty rfl Tx.z_bool b_bool) pa_nil)))))))), ?_⟩
  refine ⟨_, rfl, v, "int", _, _, rfl, kd.ty, kit_int kd, _, rfl, ?_⟩
  cases kd with
  | non => exact itF (by decide) q
  | str x => exact itF (by decide) q
  | lst e => exact itF (by decide) q
  | tup e => exact itF (by decide) q
  | dK e => exact itF (by decide) q
  | bl b => exact itT (by decide) ⟨_, rfl, _, "bool", _, _, rfl, (Kd.bl b).ty (H := H), kit_bool (H := H) (.bl b), _, rfl, q⟩
  | int i => exact itT (by decide) ⟨_, rfl, _, "bool", _, _, rfl, (Kd.int i).ty (H := H), kit_bool (H := H) (.int i), _, rfl, q⟩

def spNum : Sp := fun vs H Q _ => ∃ (v : V) (lo hi : Int) (T : String), vs = [v, .int lo, .int hi] ∧ Kd H v T ∧ Q (.bl (numV v lo hi)) H
theorem ok_is_number (Tx : Tab K mg t) : FnOk P w K mg base CX0 2 t.f_is_number t.d_is_number ["value", "least", "most"] spNum := by
  refine Tx.F_is_number.ok sc_is_number (fun vs H Q E h => ?_) (fun cdv A outer s H vs Q E hr h => ?_)
  · obtain ⟨v, lo, hi, T, rfl, _⟩ := h
    rfl
  obtain ⟨v, lo, hi, T, rfl, kd, q⟩ := h
  refine ⟨_, (pss_one (ps_ret (pe_and (pe_call (ok_is_any_number Tx) (hr.mono (by omega)) rfl Tx.m_is_any_number Tx.F_is_any_number.kp Tx.b_is_any_number .nil pass0 (pac (pv 0) pa_nil)) (pe_one (pe_chain op_le op_le (pv 1) (pv 0) (pv 2)))))), ?_⟩
  refine ⟨_, rfl, v, T, rfl, kd, _, rfl, ?_⟩
  cases kd with
  | non => exact itF Bool.false_ne_true q
  | str x => exact itF Bool.false_ne_true q
  | lst e => exact itF Bool.false_ne_true q
  | tup e => exact itF Bool.false_ne_true q
  | dK e => exact itF Bool.false_ne_true q
  | bl b => exact itF Bool.false_ne_true q
  | int i =>
    refine itT rfl ?_
    refine ⟨_, rfl, _, rfl, _, _, rfl, rfl, _, rfl, ?_⟩
    refine ite2 (fun c => ?_) (fun c => ?_)
    · refine ⟨_, rfl, _, _, rfl, rfl, ?_⟩
      have c' : lo ≤ i := of_decide_eq_true c
      have e : decide (i ≤ hi) = numV (.int i) lo hi := by
        show decide (i ≤ hi) = decide (lo ≤ i ∧ i ≤ hi)
        exact decide_eq_decide.mpr ⟨fun z => ⟨c', z⟩, fun z => z.2⟩
      rw [← e] at q; exact q
    · have c' : ¬ lo ≤ i := of_decide_eq_false (Bool.eq_false_iff.mpr c)
      have e : false = numV (.int i) lo hi := by
        show false = decide (lo ≤ i ∧ i ≤ hi)
        exact (decide_eq_false fun z => c' z.1).symm
      rw [← e] at q; exact q


theorem num_ok {b : Nat} {lo hi : Int} (h1 : lo ≤ b) (h2 : (b : Int) ≤ hi) : numV (.int (b : Nat)) lo hi = true := decide_eq_true ⟨h1, h2⟩
def letters : Str := ⟨#[97, 98, 99, 100, 101, 102, 103, 104, 105, 106, 107, 108, 109, 110, 111, 112, 113, 114, 115, 116, 117, 118, 119, 120, 121, 122]⟩
theorem letters_eq : Str.ofString "abcdefghijklmnopqrstuvwxyz" = letters := by decide +kernel
theorem inS_letters : ∀ i : Nat, i < 26 → inS letters (97 + i) = true := by decide +kernel
theorem name_all {z : Str} (h : NameOk z) : ((z.cps.toList.map fun c => inS letters c).all id) = true := by
  rw [List.all_eq_true]
  intro b hb
  obtain ⟨c, hc, rfl⟩ := List.mem_map.mp hb
  have := h.2.2.1 c hc
  have e := inS_letters (c - 97) (by omega)
  rw [show 97 + (c - 97) = c by omega] at e
  exact e
def spChk : Sp := fun vs H Q _ => ∃ (b : Nat) (lo hi : Int), vs = [.int (b : Nat), .int lo, .int hi] ∧ lo ≤ b ∧ (b : Int) ≤ hi ∧ Q .non H
theorem ok_check_number (Tx : Tab K mg t) : FnOk P w K mg base CX0 3 t.f_check_number t.d_check_number ["value", "least", "most"] spChk := by
  refine Tx.F_check_number.ok sc_check_number (fun vs H Q E h => ?_) (fun cdv A outer s H vs Q E hr h => ?_)
  · obtain ⟨b, lo, hi, rfl, _⟩ := h
    rfl
  obtain ⟨b, lo, hi, rfl, h1, h2, q⟩ := h
  refine ⟨_, (pss_one (ps_if (pt_not (pt_val (pe_call (ok_is_number Tx) (hr.mono (by omega)) rfl Tx.m_is_number Tx.F_is_number.kp Tx.b_is_number .nil pass0 (pac (pv 0) (pac (pv 1) (pac (pv 2) pa_nil))))))
    (pss_one ps_never)
    pss_nil)), ?_⟩
  exact ⟨_, rfl, _, rfl, _, rfl, .int (b : Nat), lo, hi, "int", rfl, .int _, _, rfl, itF (by rw [num_ok h1 h2]; decide) q⟩
def spIsName : Sp := fun vs H Q _ => ∃ z : Str, vs = [.str z] ∧ NameOk z ∧ ∀ H', Same H H' → Q (.bl true) H'
theorem ok_is_name (Tx : Tab K mg t) : FnOk P w K mg base CX0 1 t.f_is_name t.d_is_name ["value"] spIsName := by
  refine Tx.F_is_name.ok sc_is_name (fun vs H Q E h => ?_) (fun cdv A outer s H vs Q E hr h => ?_)
  · obtain ⟨z, rfl, _⟩ := h
    rfl
  obtain ⟨z, rfl, hn, q⟩ := h
  obtain ⟨tk, mf⟩ := Tx.m_LETTERS
  rw [letters_eq] at mf
  have hz : z.length ≤ sizeLine := Nat.le_trans hn.2.1 (by decide)
  refine ⟨_, (pss_cons (ps_if (PW.pt (pw_or (pt_not (pt_val (pe_callB call_isi_ty rfl Tx.z_isinstance b_isinstance (pac (pv 0) (pac (pe_gty rfl Tx.z_str b_str) pa_nil))))) (pw_or1 (pt_not (pt_chain op_le op_le pe_int (pe_callB call_len_str rfl Tx.z_len b_len (pac (pv 0) pa_nil)) (pe_gintE rfl Tx.m_MOST_LETTERS))))))
    (pss_one (ps_ret pe_bl))
    pss_nil)
    (pss_one (ps_ret (pe_callB (call_all_list rfl) rfl Tx.z_all b_all (pac (pe_compIn (cl := []) rfl (pv 0) rfl (by decide +kernel) rfl (by decide +kernel) rfl) pa_nil))))), ?_⟩
  refine ⟨_, rfl, .str z, "str", _, _, rfl, (Kd.str z).ty (H := H), kit_str (H := H) (.str z), _, rfl, itF (by decide) ?_⟩
  refine ⟨_, rfl, z, rfl, hz, _, _, rfl, rfl, _, rfl, itT (decide_eq_true (by have := hn.1; omega)) ?_⟩
  refine ⟨_, _, rfl, rfl, _, rfl, itF (by rw [decide_eq_true (show ((z.length : Nat) : Int) ≤ 8 by have := hn.2.1; omega)]; decide) ?_⟩
  refine ⟨letters, zread_glob (t := tk) rfl rfl mf, _, rfl, z, rfl, hz, fun p hp => ?_⟩
  refine ⟨p, z.cps.toList.map (fun c => inS letters c), rfl, SqL.of (by rw [upd_same, map_bl]), ?_⟩
  have q2 := q _ (same_new hp (HO.lst (z.cps.toList.map fun c => V.bl (inS letters c))))
  rw [← name_all hn] at q2; exact q2
def spKnown : Sp := fun vs H Q _ => ∃ (z : Str) (d : Addr) (kvs : List (Key × V)), vs = [.str z, .ref d] ∧ H d = some (.dK kvs) ∧ Q (.bl (valV kvs (Sum.inr z)).isSome) H
theorem ok_is_known (Tx : Tab K mg t) : FnOk P w K mg base CX0 1 t.f_is_known t.d_is_known ["value", "named"] spKnown := by
  refine Tx.F_is_known.ok sc_is_known (fun vs H Q E h => ?_) (fun cdv A outer s H vs Q E hr h => ?_)
  · obtain ⟨z, d, kvs, rfl, _⟩ := h
    rfl
  obtain ⟨z, d, kvs, rfl, hd, q⟩ := h
  refine ⟨_, (pss_one (ps_ret (pe_and (pe_callB call_isi_ty rfl Tx.z_isinstance b_isinstance (pac (pv 0) (pac (pe_gty rfl Tx.z_str b_str) pa_nil))) (pe_one (pe_cmp (pc_din (hu_of hr) (pv 0) (pv 1))))))), ?_⟩
  exact ⟨_, rfl, .str z, "str", _, _, rfl, (Kd.str z).ty (H := H), kit_str (H := H) (.str z), _, rfl, itT (by decide) ⟨_, rfl, _, rfl, d, _, rfl, DGet.k (k := Sum.inr z) hd, q⟩⟩
def spNewN : Sp := fun vs H Q _ => ∃ (z : Str) (d : Addr) (kvs : List (Key × V)), vs = [.str z, .ref d] ∧ H d = some (.dK kvs) ∧ NameOk z ∧ valV kvs (Sum.inr z) = none ∧ ∀ H', Same H H' → Q .non H'
theorem ok_check_new (Tx : Tab K mg t) : FnOk P w K mg base CX0 2 t.f_check_new t.d_check_new ["name", "named"] spNewN := by
  refine Tx.F_check_new.ok sc_check_new (fun vs H Q E h => ?_) (fun cdv A outer s H vs Q E hr h => ?_)
  · obtain ⟨z, d, kvs, rfl, _⟩ := h
    rfl
  obtain ⟨z, d, kvs, rfl, hd, hn, he, q⟩ := h
  refine ⟨_, (pss_cons (ps_if (pt_not (pt_val (pe_call (ok_is_name Tx) (hr.mono (by omega)) rfl Tx.m_is_name Tx.F_is_name.kp Tx.b_is_name .nil pass0 (pac (pv 0) pa_nil))))
    (pss_one ps_never)
    pss_nil)
    (pss_one (ps_if (pt_cmp (pc_din (hu_of hr) (pv 0) (pv 1)))
    (pss_one ps_never)
    pss_nil))), ?_⟩
  refine ⟨_, rfl, z, rfl, hn, fun H1 s1 => ⟨_, rfl, itF (by decide) ?_⟩⟩
  exact ⟨_, rfl, _, rfl, d, _, rfl, DGet.k (k := Sum.inr z) (s1 _ _ hd), _, rfl, itF (by rw [he]; decide) (q H1 s1)⟩
def spRoom : Sp := fun vs H Q _ => ∃ (d : Addr) (kvs : List (Key × V)) (n : Int), vs = [.ref d, .int n] ∧ H d = some (.dK kvs) ∧ (kvs.length : Int) < n ∧ Q .non H
theorem ok_check_room (Tx : Tab K mg t) : FnOk P w K mg base CX0 1 t.f_check_room t.d_check_room ["kept", "most"] spRoom := by
  refine Tx.F_check_room.ok sc_check_room (fun vs H Q E h => ?_) (fun cdv A outer s H vs Q E hr h => ?_)
  · obtain ⟨d, kvs, n, rfl, _⟩ := h
    rfl
  obtain ⟨d, kvs, n, rfl, hd, hl, q⟩ := h
  refine ⟨_, (pss_one (ps_if (pt_cmpR op_ge (pe_callB call_lenD rfl Tx.z_len b_len (pac (pv 0) pa_nil)) (pv 1) (nomark _))
    (pss_one ps_never)
    pss_nil)), ?_⟩
  exact ⟨_, rfl, d, kvs, rfl, hd, _, rfl, _, _, rfl, rfl, _, rfl, itF (by rw [decide_eq_false (by omega)]; decide) q⟩

def spDraw (K : W.Frag) : Sp := fun vs H Q _ => ∃ (a : Addr) (ns : List Int) (k : Int), vs = [.ref a, .int k] ∧ SqL K H a (ns.map V.int) ∧ 0 ≤ k ∧ k ≤ 100000 ∧ ∀ (d : Nat) H', d < 998244353 → Same H H' → Q (.int (d : Nat)) H'
theorem ok_law_draw (Tx : Tab K mg t) : FnOk P w K mg base CX0 1 t.f_law_draw t.d_law_draw ["_law_script", "_law_k"] (spDraw K) := by
  refine Tx.F_law_draw.ok sc_law_draw (fun vs H Q E h => ?_) (fun cdv A outer s H vs Q E hr h => ?_)
  · obtain ⟨a, ns, k, rfl, _⟩ := h
    rfl
  obtain ⟨a, ns, k, rfl, hS, k0, k1, q⟩ := h
  refine ⟨_, (pss_cons (ps_set (i := 2) sc_law_draw.nd rfl (Or.inl rfl) pe_int)
    (pss_join (ps_if (pt_cmpR (op_ne_lst hr.units0) (pv 0) (pe_lst pa_nil) (nomark _))
    (pss_one (ps_set (i := 2) sc_law_draw.nd rfl (Or.inl rfl) (pe_ix ix_list (pv 0) (pe_op op_mod (pv 1) (pe_callB call_len_seq rfl Tx.z_len b_len (pac (pv 0) pa_nil))) (fun _ _ => rfl))))
    pss_nil)
    (pss_cons (ps_set (i := 3) sc_law_draw.nd rfl (Or.inl rfl) (pe_op op_add (pe_op op_add (pe_op op_mod (pv 2) pe_int) (pe_op op_mul pe_int (pv 1))) pe_int))
    (pss_one (ps_ret (pe_op op_fdiv (pe_op op_mod (pe_op op_mul (pe_op op_mod (pe_op op_mul (pv 3) (pv 3)) pe_int) (pv 3)) pe_int) pe_int)))))), ?_⟩
  refine ⟨fun σ H' => Same H H' ∧ ∃ c : Int, σ = [some (.ref a), some (.int k), some (.int c), none], ?_, ?_⟩
  · refine ⟨_, rfl, (by show 0 ≤ sizeLine; decide), fun p hp => ?_⟩
    have sm := same_new hp (.lst [])
    refine ⟨a, p, _, _, rfl, rfl, sm.seq hS, SqL.of upd_same, flat_ints ns, rfl, _, rfl, ?_⟩
    cases ns with
    | nil => exact itF (by decide) ⟨sm, 0, rfl⟩
    | cons n r =>
      refine itT rfl ?_
      have hpos : (0 : Int) < (((n :: r).map V.int).length : Nat) := by rw [List.length_map, List.length_cons]; omega
      have h1 := Int.emod_nonneg k (show ((((n :: r).map V.int).length : Nat) : Int) ≠ 0 by omega)
      have h2 := Int.emod_lt_of_pos k hpos
      have hlt : (k % (((n :: r).map V.int).length : Nat)).toNat < (n :: r).length := by
        rw [List.length_map] at h1 h2 ⊢
        omega
      refine ⟨_, rfl, _, rfl, _, rfl, a, _, rfl, .inl (sm.seq hS), _, _, rfl, rfl, hpos, a, _, _, .int ((n :: r)[(k % (((n :: r).map V.int).length : Nat)).toNat]), rfl, rfl, sm.seq hS, ?_, sm, _, rfl⟩
      have e : k % (((n :: r).map V.int).length : Nat) = (((k % (((n :: r).map V.int).length : Nat)).toNat : Nat) : Int) := by omega
      have q2 : atI ((n :: r).map V.int) (((k % (((n :: r).map V.int).length : Nat)).toNat : Nat) : Int) = some (.int ((n :: r)[(k % (((n :: r).map V.int).length : Nat)).toNat])) := atI_nat (by rw [List.getElem?_map, List.getElem?_eq_getElem hlt]; rfl)
      rw [← e] at q2
      exact q2
  · rintro σ H' ⟨sm, c, rfl⟩
    have g1 : 0 ≤ c % 1000000007 := Int.emod_nonneg _ (by decide)
    have g2 : c % 1000000007 < 1000000007 := Int.emod_lt_of_pos _ (by decide)
    refine ⟨_, rfl, _, _, rfl, rfl, (by show (0 : Int) < 1000000007; decide), _, rfl, _, _, rfl, rfl, .inl ⟨by decide, by decide⟩, _, _, rfl, rfl, _, _, rfl, rfl, ?_⟩
    refine ⟨_, rfl, _, rfl, _, _, rfl, rfl, mulM (by show 0 ≤ c % 1000000007 + 7919 * k + 13; omega) (by show c % 1000000007 + 7919 * k + 13 < _; omega), _, _, rfl, rfl, (by show (0 : Int) < 1000000007; decide), _, rfl, _, _, rfl, rfl,
      mulM (by show 0 ≤ c % 1000000007 + 7919 * k + 13; omega) (by show c % 1000000007 + 7919 * k + 13 < _; omega), _, _, rfl, rfl, (by show (0 : Int) < 998244353; decide), _, _, rfl, rfl, ⟨by decide, by decide⟩, ?_⟩
    have e : ∀ z : Int, ∃ d : Nat, d < 998244353 ∧ z % 998244353 / 11 = ((d : Nat) : Int) := fun z => ⟨(z % 998244353 / 11).toNat, by omega, by omega⟩
    obtain ⟨d, hd, ed⟩ := e ((c % 1000000007 + 7919 * k + 13) * (c % 1000000007 + 7919 * k + 13) % 1000000007 * (c % 1000000007 + 7919 * k + 13))
    have q2 := q d H' hd sm
    rw [← ed] at q2
    exact q2
def tx (l : List Nat) : Str := ⟨l.toArray⟩
theorem tx_len (l : List Nat) : (tx l).length = l.length := by show l.toArray.size = _; rw [List.size_toArray]
theorem tx_app (a b : List Nat) : tx a ++ tx b = tx (a ++ b) := by
  show Str.mk (a.toArray ++ b.toArray) = _
  rw [List.append_toArray]; rfl
theorem tx_list (l : List Nat) : (tx l).cps.toList = l := by show l.toArray.toList = l; rfl
theorem tx_inj {a b : List Nat} (h : tx a = tx b) : a = b := by
  have := congrArg (fun z : Str => z.cps.toList) h
  rwa [tx_list, tx_list] at this
theorem join_signs : ∀ l : List Nat, Str.join (Str.ofString "") (l.map fun c => tx [c]) = tx l
  | [] => rfl
  | c :: l => by
    rw [List.map_cons, show Str.ofString "" = (⟨#[]⟩ : Str) from rfl, PyProof.Rows.join_nil_cons]
    have ih := join_signs l
    rw [show Str.ofString "" = (⟨#[]⟩ : Str) from rfl] at ih
    rw [ih, tx_app]
    rfl
theorem lt_at : ∀ i : Nat, i < 26 → atI (Str.ofString "abcdefghijklmnopqrstuvwxyz").cps.toList (i : Int) = some (97 + i) := by decide +kernel
theorem nodup_range_map {f : Nat → Str} {n : Nat} (h : ∀ i j, i < j → j < n → f i ≠ f j) : ((List.range n).map f).Nodup := by
  unfold List.Nodup
  rw [List.pairwise_map]
  exact List.Pairwise.imp_of_mem (fun {a b} ha hb hab => h a b hab (List.mem_range.mp hb)) List.pairwise_lt_range
theorem signs_room (l : List Nat) (h : l.length ≤ 20) : ((l.map fun c => tx [c]).map fun x => x.length + (Str.ofString "").length).sum ≤ sizeLine :=
  join_room (m := 0) (by decide) (by rw [List.length_map]; exact h) fun x hx => by
    obtain ⟨c, _, rfl⟩ := List.mem_map.mp hx
    rw [tx_len, List.length_singleton]; decide
theorem nowh : Str.ofString "nowhere" = tx [110, 111, 119, 104, 101, 114, 101] := by decide +kernel
theorem fresh_tx : Str.ofString "fresh" = tx [102, 114, 101, 115, 104] := by decide +kernel
def rowC (d q m : Nat) (n : Nat) : List Nat := (List.range n).map fun j => 97 + (d / q + m * j) % 26
theorem row_nth {d q m n j : Nat} (h : j < n) : (rowC d q m n)[j]? = some (97 + (d / q + m * j) % 26) := by
  unfold rowC
  rw [List.getElem?_map, List.getElem?_range h]; rfl
theorem rowC_len (d q m n : Nat) : (rowC d q m n).length = n := by unfold rowC; rw [List.length_map, List.length_range]
theorem rowC_ok (d q m n : Nat) : ∀ c ∈ rowC d q m n, 97 ≤ c ∧ c ≤ 122 := fun c h => by
  obtain ⟨j, _, rfl⟩ := List.mem_map.mp h
  omega
theorem signs_comp {H : Hp} {Q : VK} {te : TE} {σ0 : St} {d q m n : Nat} {g : TG} (hn : n ≤ 8) (h0 : σ0 = [none, some (.str (Str.ofString "abcdefghijklmnopqrstuvwxyz")), some (.int (d : Nat))]) (hg : g = gName 0)
    (ht : ∀ (i : Nat) (Q' : VK), i < n → Q' (.str (tx [97 + (d / q + m * i) % 26])) H → te [some (.int ((i : Nat) : Int)), some (.str (Str.ofString "abcdefghijklmnopqrstuvwxyz")), some (.int (d : Nat))] H Q')
    (hq : endC Q (((rowC d q m n).map fun c => tx [c]).map V.str) H) :
    ∃ W : Nat → Nat → List V → St → Hp → Prop, (∃ m, W 0 m [] σ0 H) ∧ ∀ i m acc σ1 H, W i m acc σ1 H →
      ((Itr 0 n).stop i H ∧ endC Q acc H) ∨
      ((Itr 0 n).go i H ∧ acc.length < sizeLine ∧ ∃ N : List V → St → Hp → Prop, (∀ acc' σ' H', N acc' σ' H' → ∃ m', m' < m ∧ W (i + 1) m' acc' σ' H') ∧ ∀ x H', (Itr 0 n).yld i H x H' → g x σ1 H' fun σ2 H2 => tTrue σ2 H2 fun b H3 => if b = true then te σ2 H3 fun y H4 => N (acc ++ [y]) σ2 H4 else N acc σ2 H3) := by
  subst hg
  refine comp_range (fun i acc σ H' => H' = H ∧ acc = ((rowC d q m i).map fun c => tx [c]).map V.str ∧ ∃ v, σ = [v, some (.str (Str.ofString "abcdefghijklmnopqrstuvwxyz")), some (.int (d : Nat))]) ⟨rfl, rfl, none, h0⟩ (Nat.le_trans hn (by decide)) ?_ ?_
  · rintro i acc σ H' hi ha ⟨rfl, rfl, v, rfl⟩
    dsimp only [gName, tTrue]
    rw [if_pos rfl]
    have e0 : (0 : Int) + ((i : Nat) : Int) = ((i : Nat) : Int) := by omega
    rw [e0]
    refine ht i _ hi ⟨?_, rfl, ?_, _, rfl⟩
    · rw [List.length_append, List.length_singleton]; omega
    · unfold rowC
      rw [List.range_succ, List.map_append, List.map_append, List.map_append]
      rfl
  · rintro acc σ H' ha ⟨rfl, rfl, v, rfl⟩
    exact hq
def spNames (K : W.Frag) : Sp := fun vs H Q _ => ∃ (a : Addr) (ns : List Int) (k : Int) (many : Nat), vs = [.ref a, .int k, .int (many : Nat)] ∧ SqL K H a (ns.map V.int) ∧ 0 ≤ k ∧ k ≤ 100000 ∧ many ≤ 8 ∧
  ∀ (NS : List Str) l H', Same H H' → H l = none → H' l = some (.lst (NS.map V.str)) → NS.length = many → NS.Nodup → (∀ z ∈ NS, NameOk z ∧ z ≠ Str.ofString "fresh") → Q (.ref l) H'
theorem ok_law_names (Tx : Tab K mg t) : FnOk P w K mg base CX0 2 t.f_law_names t.d_law_names ["_law_script", "_law_k", "_law_many"] (spNames K) := by
  refine Tx.F_law_names.ok sc_law_names (fun vs H Q E h => ?_) (fun cdv A outer s H vs Q E hr h => ?_)
  · obtain ⟨a, ns, k, many, rfl, _⟩ := h
    rfl
  obtain ⟨a, ns, k, many, rfl, hS, k0, k1, hm, q⟩ := h
  refine ⟨_, (pss_cons (ps_set (i := 3) sc_law_names.nd rfl (Or.inr rfl) pe_str)
    (pss_cons (ps_set (i := 4) sc_law_names.nd rfl (Or.inr rfl) (pe_call (ok_law_draw Tx) (hr.mono (by omega)) rfl Tx.m_law_draw Tx.F_law_draw.kp Tx.b_law_draw .nil pass0 (pac (pv 0) (pac (pv 1) pa_nil))))
    (pss_cons (ps_if (pt_cmpR op_eq (pe_op op_mod (pv 4) pe_int) pe_int (nomark _))
    (pss_cons (ps_set (i := 5) sc_law_names.nd rfl (Or.inr rfl) (pe_bm PySem.F.plainAttrs_str PySem.F.slot_str_join PySem.F.type_str_join mt_join pe_str (pac (pe_comp (cl := [(Str.ofString "_law_number", s.heap.objs.size + 2), (Str.ofString "_law_letters", s.heap.objs.size + 1)]) (N := ["_law_j", "_law_letters", "_law_number"]) (fr := [none, some 3, some 4]) rfl (pi_range1 rfl Tx.z_range (pac pe_int pa_nil)) rfl (by decide +kernel) rfl (by decide +kernel) ⟨⟨rfl, Or.inl rfl, Or.inl rfl, _, rfl, rfl⟩, ⟨⟨rfl, Or.inl rfl, Or.inl rfl, _, rfl, rfl⟩, trivial⟩⟩ ⟨rfl, ⟨rfl, trivial⟩⟩ rfl (fun _ _ _ _ _ => (pg_name (i := 0) (show List.Nodup (["_law_j", "_law_letters", "_law_number"] : List Str) by decide +kernel) rfl (Or.inl rfl))) (fun _ _ _ _ _ => pts_nil) (fun _ _ _ _ _ => (pe_ix ix_str (pv 1) (pe_op op_mod (pe_op op_add (pe_op op_fdiv (pv 2) pe_int) (pe_op op_mul pe_int (pv 0))) pe_int) (fun _ _ => rfl)))) pa_nil)))
    (pss_one (ps_ret (pe_comp (cl := [(Str.ofString "_law_row", s.heap.objs.size + 3)]) (N := ["_law_j", "_law_row"]) (fr := [none, some 5]) rfl (pi_range1 rfl Tx.z_range (pac (pv 2) pa_nil)) rfl (by decide +kernel) rfl (by decide +kernel) ⟨⟨rfl, Or.inl rfl, Or.inl rfl, _, rfl, rfl⟩, trivial⟩ ⟨rfl, trivial⟩ rfl (fun _ _ _ _ _ => (pg_name (i := 0) (show List.Nodup (["_law_j", "_law_row"] : List Str) by decide +kernel) rfl (Or.inl rfl))) (fun _ _ _ _ _ => pts_nil) (fun _ _ _ _ _ => (pe_slice sl_str (pv 1) po_none (po_some (pe_op op_add pe_int (pv 0)))))))))
    pss_nil)
    (pss_cons (ps_set (i := 6) sc_law_names.nd rfl (Or.inl rfl) (pe_op op_mod (pe_op op_fdiv (pv 4) pe_int) pe_int))
    (pss_cons (ps_set (i := 7) sc_law_names.nd rfl (Or.inr rfl) (pe_op op_mod (pe_op op_fdiv (pv 4) pe_int) (pe_op op_add (pv 6) pe_int)))
    (pss_cons (ps_set (i := 8) sc_law_names.nd rfl (Or.inr rfl) (pe_bm PySem.F.plainAttrs_str PySem.F.slot_str_join PySem.F.type_str_join mt_join pe_str (pac (pe_comp (cl := [(Str.ofString "_law_number", s.heap.objs.size + 2), (Str.ofString "_law_letters", s.heap.objs.size + 1)]) (N := ["_law_j", "_law_letters", "_law_number"]) (fr := [none, some 3, some 4]) rfl (pi_range1 rfl Tx.z_range (pac (pv 6) pa_nil)) rfl (by decide +kernel) rfl (by decide +kernel) ⟨⟨rfl, Or.inl rfl, Or.inl rfl, _, rfl, rfl⟩, ⟨⟨rfl, Or.inl rfl, Or.inl rfl, _, rfl, rfl⟩, trivial⟩⟩ ⟨rfl, ⟨rfl, trivial⟩⟩ rfl (fun _ _ _ _ _ => (pg_name (i := 0) (show List.Nodup (["_law_j", "_law_letters", "_law_number"] : List Str) by decide +kernel) rfl (Or.inl rfl))) (fun _ _ _ _ _ => pts_nil) (fun _ _ _ _ _ => (pe_ix ix_str (pv 1) (pe_op op_mod (pe_op op_add (pe_op op_fdiv (pv 2) pe_int) (pe_op op_mul pe_int (pv 0))) pe_int) (fun _ _ => rfl)))) pa_nil)))
    (pss_one (ps_ret (pe_comp (cl := [(Str.ofString "_law_rest", s.heap.objs.size + 5), (Str.ofString "_law_number", s.heap.objs.size + 2), (Str.ofString "_law_letters", s.heap.objs.size + 1), (Str.ofString "_law_at", s.heap.objs.size + 4)]) (N := ["_law_j", "_law_rest", "_law_letters", "_law_at", "_law_number"]) (fr := [none, some 8, some 3, some 7, some 4]) rfl (pi_range1 rfl Tx.z_range (pac (pv 2) pa_nil)) rfl (by decide +kernel) rfl (by decide +kernel) ⟨⟨rfl, Or.inl rfl, Or.inl rfl, _, rfl, rfl⟩, ⟨⟨rfl, Or.inl rfl, Or.inl rfl, _, rfl, rfl⟩, ⟨⟨rfl, Or.inl rfl, Or.inl rfl, _, rfl, rfl⟩, ⟨⟨rfl, Or.inl rfl, Or.inl rfl, _, rfl, rfl⟩, trivial⟩⟩⟩⟩ ⟨rfl, ⟨rfl, ⟨rfl, ⟨rfl, trivial⟩⟩⟩⟩ rfl (fun _ _ _ _ _ => (pg_name (i := 0) (show List.Nodup (["_law_j", "_law_rest", "_law_letters", "_law_at", "_law_number"] : List Str) by decide +kernel) rfl (Or.inl rfl))) (fun _ _ _ _ _ => pts_nil) (fun _ _ _ _ _ => (pe_op op_add_str (pe_op op_add_str (pe_slice sl_str (pv 1) po_none (po_some (pv 3))) (pe_ix ix_str (pv 2) (pe_op op_mod (pe_op op_add (pe_op op_fdiv (pv 4) pe_int) (pv 0)) pe_int) (fun _ _ => rfl))) (pe_slice sl_str (pv 1) (po_some (pv 3)) po_none)))))))))))), ?_⟩
  refine ⟨_, rfl, _, rfl, a, ns, k, rfl, hS, k0, k1, fun d H1 hd s1 => ?_⟩
  refine ⟨_, rfl, _, _, rfl, rfl, (by show (0 : Int) < 3; decide), rfl, _, rfl, ?_⟩
  refine ite2 (fun c => ?_) (fun c => ?_)
  · refine ⟨rfl, 8, rfl, by decide, by decide, signs_comp (d := d) (q := 3) (m := 5) (n := 8) (by decide) rfl rfl (fun i Q' hi hq => ?_) fun p hp => ?_⟩
    · refine ⟨_, rfl, _, rfl, _, _, rfl, rfl, ⟨by decide, by decide⟩, _, rfl, _, _, rfl, rfl, .inl ⟨by decide, by decide⟩, _, _, rfl, rfl, _, _, rfl, rfl, (by show (0 : Int) < 26; decide), _, _, 97 + (d / 3 + 5 * i) % 26, rfl, rfl, by decide, ?_, hq⟩
      have := lt_at ((d / 3 + 5 * i) % 26) (by omega)
      rw [show (((d / 3 + 5 * i) % 26 : Nat) : Int) = (((d : Nat) : Int) / 3 + 5 * ((i : Nat) : Int)) % 26 by omega] at this
      exact this
    · have s2 := same_new hp (.lst (((rowC d 3 5 8).map fun c => tx [c]).map V.str))
      refine ⟨_, p, (rowC d 3 5 8).map fun c => tx [c], rfl, rfl, SqL.of upd_same, signs_room _ (by rw [rowC_len]; decide), ?_⟩
      rw [join_signs]
      refine ⟨_, rfl, _, rfl, by omega, by omega, ?_⟩
      refine comp_range (fun i acc σ H' => H' = upd H1 p (.lst (((rowC d 3 5 8).map fun c => tx [c]).map V.str)) ∧ acc = ((List.range i).map fun j => tx ((rowC d 3 5 8).take (1 + j))).map V.str ∧ ∃ v, σ = [v, some (.str (tx (rowC d 3 5 8)))]) ⟨rfl, rfl, none, rfl⟩ (Nat.le_trans (show _ ≤ 8 by omega) (by decide)) ?_ ?_
      · rintro i acc σ H' hi ha ⟨rfl, rfl, v, rfl⟩
        dsimp only [gName, tTrue]
        rw [if_pos rfl]
        refine ⟨_, rfl, _, rfl, _, _, rfl, rfl, _, rfl, _, rfl, (by rw [tx_len, rowC_len]; decide), ?_⟩
        have e0 : (1 : Int) + (0 + ((i : Nat) : Int)) = ((1 + i : Nat) : Int) := by omega
        rw [e0, sl_to _ _ (by rw [tx_len, rowC_len]; omega), tx_list]
        refine ⟨by rw [List.length_append, List.length_singleton]; omega, rfl, ?_, _, rfl⟩
        rw [List.range_succ, List.map_append, List.map_append]
        rfl
      · rintro acc σ H' ha ⟨rfl, rfl, v, rfl⟩ l hl
        have s3 := same_new hl (.lst (((List.range ((many : Nat) : Int).toNat).map fun j => tx ((rowC d 3 5 8).take (1 + j))).map V.str))
        refine q ((List.range ((many : Nat) : Int).toNat).map fun j => tx ((rowC d 3 5 8).take (1 + j))) l _ ((s1.trans s2).trans s3) ((s1.trans s2).free hl) upd_same (by rw [List.length_map, List.length_range]; omega) (nodup_range_map fun i j hij hj e => ?_) fun z hz => ?_
        · have := congrArg List.length (tx_inj e)
          rw [List.length_take, List.length_take, rowC_len] at this
          omega
        · obtain ⟨j, hj, rfl⟩ := List.mem_map.mp hz
          have hj := List.mem_range.mp hj
          refine ⟨⟨by rw [tx_len, List.length_take, rowC_len]; omega, by rw [tx_len, List.length_take, rowC_len]; omega, fun c hc => ?_, fun e => ?_⟩, fun e => ?_⟩
          · rw [tx_list] at hc
            exact rowC_ok d 3 5 8 c (List.mem_of_mem_take hc)
          · rw [nowh] at e
            have e := tx_inj e
            have l := congrArg List.length e
            rw [List.length_take, rowC_len] at l
            have l7 : min (1 + j) 8 = 7 := l
            have e0 := congrArg (fun l => l[0]?) e
            have e1 := congrArg (fun l => l[1]?) e
            rw [List.getElem?_take_of_lt (by omega), row_nth (by decide)] at e0 e1
            have e0 := Option.some.inj e0
            have e1 := Option.some.inj e1
            omega
          · rw [fresh_tx] at e
            have e := tx_inj e
            have l := congrArg List.length e
            rw [List.length_take, rowC_len] at l
            have l7 : min (1 + j) 8 = 5 := l
            have e0 := congrArg (fun l => l[0]?) e
            have e1 := congrArg (fun l => l[1]?) e
            rw [List.getElem?_take_of_lt (by omega), row_nth (by decide)] at e0 e1
            have e0 := Option.some.inj e0
            have e1 := Option.some.inj e1
            omega
  · obtain ⟨S, hS8, eS⟩ : ∃ S : Nat, S < 8 ∧ ((d : Nat) : Int) / 3 % 8 = ((S : Nat) : Int) := ⟨(((d : Nat) : Int) / 3 % 8).toNat, by omega, by omega⟩
    obtain ⟨A', hA, eA⟩ : ∃ A' : Nat, A' ≤ S ∧ ((d : Nat) : Int) / 24 % (((S : Nat) : Int) + 1) = ((A' : Nat) : Int) := by
      have h1 := Int.emod_nonneg (((d : Nat) : Int) / 24) (show (((S : Nat) : Int) + 1) ≠ 0 by omega)
      have h2 := Int.emod_lt_of_pos (((d : Nat) : Int) / 24) (show 0 < (((S : Nat) : Int) + 1) by omega)
      exact ⟨(((d : Nat) : Int) / 24 % (((S : Nat) : Int) + 1)).toNat, by omega, by omega⟩
    refine ⟨_, rfl, _, _, rfl, rfl, ⟨by decide, by decide⟩, _, _, rfl, rfl, (by show (0 : Int) < 8; decide), ?_⟩
    dsimp only
    rw [eS]
    refine ⟨_, rfl, _, _, rfl, rfl, ⟨by decide, by decide⟩, _, rfl, _, _, rfl, rfl, _, _, rfl, rfl, (by show (0 : Int) < ((S : Nat) : Int) + 1; omega), ?_⟩
    dsimp only
    rw [eA]
    refine ⟨rfl, _, rfl, _, rfl, by omega, by omega, signs_comp (d := d) (q := 216) (m := 7) (n := ((S : Nat) : Int).toNat) (by omega) rfl rfl (fun i Q' hi hq => ?_) fun p hp => ?_⟩
    · refine ⟨_, rfl, _, rfl, _, _, rfl, rfl, ⟨by decide, by decide⟩, _, rfl, _, _, rfl, rfl, .inl ⟨by decide, by decide⟩, _, _, rfl, rfl, _, _, rfl, rfl, (by show (0 : Int) < 26; decide), _, _, 97 + (d / 216 + 7 * i) % 26, rfl, rfl, by decide, ?_, hq⟩
      have := lt_at ((d / 216 + 7 * i) % 26) (by omega)
      rw [show (((d / 216 + 7 * i) % 26 : Nat) : Int) = (((d : Nat) : Int) / 216 + 7 * ((i : Nat) : Int)) % 26 by omega] at this
      exact this
    · have eS2 : ((S : Nat) : Int).toNat = S := by omega
      rw [eS2]
      have s2 := same_new hp (.lst (((rowC d 216 7 S).map fun c => tx [c]).map V.str))
      refine ⟨_, p, (rowC d 216 7 S).map fun c => tx [c], rfl, rfl, SqL.of upd_same, signs_room _ (by rw [rowC_len]; omega), ?_⟩
      rw [join_signs]
      refine ⟨_, rfl, _, rfl, by omega, by omega, ?_⟩
      refine comp_range (fun i acc σ H' => H' = upd H1 p (.lst (((rowC d 216 7 S).map fun c => tx [c]).map V.str)) ∧ acc = ((List.range i).map fun j => tx ((rowC d 216 7 S).take A' ++ [97 + (d / 5616 + j) % 26] ++ (rowC d 216 7 S).drop A')).map V.str ∧ ∃ v, σ = [v, some (.str (tx (rowC d 216 7 S))), some (.str (Str.ofString "abcdefghijklmnopqrstuvwxyz")), some (.int ((A' : Nat) : Int)), some (.int (d : Nat))]) ⟨rfl, rfl, none, rfl⟩ (Nat.le_trans (show _ ≤ 8 by omega) (by decide)) ?_ ?_
      · rintro i acc σ H' hi ha ⟨rfl, rfl, v, rfl⟩
        dsimp only [gName, tTrue]
        rw [if_pos rfl]
        have lz : (tx (rowC d 216 7 S)).length ≤ sizeLine := by rw [tx_len, rowC_len]; exact Nat.le_trans (show S ≤ 8 by omega) (by decide)
        refine ⟨_, rfl, _, rfl, _, rfl, _, rfl, lz, ?_⟩
        rw [sl_to _ _ (by rw [tx_len, rowC_len]; exact hA), tx_list]
        refine ⟨_, rfl, _, rfl, _, _, rfl, rfl, ⟨by decide, by decide⟩, _, rfl, _, _, rfl, rfl, _, _, rfl, rfl, (by show (0 : Int) < 26; decide), _, _, 97 + (d / 5616 + i) % 26, rfl, rfl, by decide, ?_, ?_⟩
        · have := lt_at ((d / 5616 + i) % 26) (by omega)
          rw [show (((d / 5616 + i) % 26 : Nat) : Int) = (((d : Nat) : Int) / 5616 + (0 + ((i : Nat) : Int))) % 26 by omega] at this
          exact this
        have l1 : ((rowC d 216 7 S).take A').length ≤ 8 := by rw [List.length_take, rowC_len]; omega
        have l2 : ((rowC d 216 7 S).drop A').length ≤ 8 := by rw [List.length_drop, rowC_len]; omega
        refine ⟨_, _, rfl, rfl, ?_, ?_⟩
        · show (tx ((rowC d 216 7 S).take A')).length + (tx [97 + (d / 5616 + i) % 26]).length ≤ sizeLine
          rw [tx_len, tx_len, List.length_singleton]
          exact Nat.le_trans (show _ ≤ 9 by omega) (by decide)
        refine ⟨_, rfl, _, rfl, _, rfl, _, rfl, lz, ?_⟩
        rw [sl_from _ _ (by rw [tx_len, rowC_len]; exact hA), tx_list]
        refine ⟨_, _, rfl, rfl, ?_, ?_⟩
        · show (tx ((rowC d 216 7 S).take A') ++ tx [97 + (d / 5616 + i) % 26]).length + (tx ((rowC d 216 7 S).drop A')).length ≤ sizeLine
          rw [tx_app, tx_len, tx_len, List.length_append, List.length_singleton]
          exact Nat.le_trans (show _ ≤ 17 by omega) (by decide)
        refine ⟨by rw [List.length_append, List.length_singleton]; omega, rfl, ?_, _, rfl⟩
        show _ ++ [V.str (tx ((rowC d 216 7 S).take A') ++ tx [97 + (d / 5616 + i) % 26] ++ tx ((rowC d 216 7 S).drop A'))] = _
        rw [tx_app, tx_app, List.range_succ, List.map_append, List.map_append]
        rfl
      · rintro acc σ H' ha ⟨rfl, rfl, v, rfl⟩ l hl
        have s3 := same_new hl (.lst (((List.range ((many : Nat) : Int).toNat).map fun j => tx ((rowC d 216 7 S).take A' ++ [97 + (d / 5616 + j) % 26] ++ (rowC d 216 7 S).drop A')).map V.str))
        refine q ((List.range ((many : Nat) : Int).toNat).map fun j => tx ((rowC d 216 7 S).take A' ++ [97 + (d / 5616 + j) % 26] ++ (rowC d 216 7 S).drop A')) l _ ((s1.trans s2).trans s3) ((s1.trans s2).free hl) upd_same (by rw [List.length_map, List.length_range]; omega) (nodup_range_map fun i j hij hj e => ?_) fun z hz => ?_
        · have e := tx_inj e
          rw [List.append_assoc, List.append_assoc] at e
          have e := List.append_cancel_left e
          injection e with e _
          omega
        · obtain ⟨j, hj, rfl⟩ := List.mem_map.mp hz
          refine ⟨⟨?_, ?_, fun c hc => ?_, fun e => ?_⟩, fun e => ?_⟩
          · rw [tx_len, List.length_append, List.length_append, List.length_singleton]; omega
          · rw [tx_len, List.length_append, List.length_append, List.length_singleton, List.length_take, List.length_drop, rowC_len]; omega
          · rw [tx_list] at hc
            rcases List.mem_append.mp hc with hc | hc
            · rcases List.mem_append.mp hc with hc | hc
              · exact rowC_ok d 216 7 S c (List.mem_of_mem_take hc)
              · rw [List.mem_singleton] at hc; omega
            · exact rowC_ok d 216 7 S c (List.mem_of_mem_drop hc)
          · rw [nowh] at e
            have e := tx_inj e
            have l := congrArg List.length e
            rw [List.length_append, List.length_append, List.length_singleton, List.length_take, List.length_drop, rowC_len] at l
            have l7 : min A' S + 1 + (S - A') = 7 := l
            have lt : ((rowC d 216 7 S).take A' ++ [97 + (d / 5616 + j) % 26]).length = A' + 1 := by rw [List.length_append, List.length_singleton, List.length_take, rowC_len]; omega
            by_cases hA2 : 2 ≤ A'
            · have e0 := congrArg (fun l => l[0]?) e
              have e1 := congrArg (fun l => l[1]?) e
              rw [List.getElem?_append_left (by rw [lt]; omega), List.getElem?_append_left (by rw [List.length_take, rowC_len]; omega), List.getElem?_take_of_lt (by omega), row_nth (by omega)] at e0 e1
              have e0 := Option.some.inj e0
              have e1 := Option.some.inj e1
              omega
            · have e0 := congrArg (fun l => l[5]?) e
              have e1 := congrArg (fun l => l[6]?) e
              rw [List.getElem?_append_right (by rw [lt]; omega), lt, List.getElem?_drop, row_nth (by omega)] at e0 e1
              have e0 := Option.some.inj e0
              have e1 := Option.some.inj e1
              rw [show A' + (5 - (A' + 1)) = 4 by omega] at e0
              rw [show A' + (6 - (A' + 1)) = 5 by omega] at e1
              omega
          · rw [fresh_tx] at e
            have e := tx_inj e
            have l := congrArg List.length e
            rw [List.length_append, List.length_append, List.length_singleton, List.length_take, List.length_drop, rowC_len] at l
            have l7 : min A' S + 1 + (S - A') = 5 := l
            have lt : ((rowC d 216 7 S).take A' ++ [97 + (d / 5616 + j) % 26]).length = A' + 1 := by rw [List.length_append, List.length_singleton, List.length_take, rowC_len]; omega
            by_cases hA2 : 2 ≤ A'
            · have e0 := congrArg (fun l => l[0]?) e
              have e1 := congrArg (fun l => l[1]?) e
              rw [List.getElem?_append_left (by rw [lt]; omega), List.getElem?_append_left (by rw [List.length_take, rowC_len]; omega), List.getElem?_take_of_lt (by omega), row_nth (by omega)] at e0 e1
              have e0 := Option.some.inj e0
              have e1 := Option.some.inj e1
              omega
            · have e0 := congrArg (fun l => l[3]?) e
              have e1 := congrArg (fun l => l[4]?) e
              rw [List.getElem?_append_right (by rw [lt]; omega), lt, List.getElem?_drop, row_nth (by omega)] at e0 e1
              have e0 := Option.some.inj e0
              have e1 := Option.some.inj e1
              rw [show A' + (3 - (A' + 1)) = 2 by omega] at e0
              rw [show A' + (4 - (A' + 1)) = 3 by omega] at e1
              omega

def WAt (H : Hp) (v : V) (x : Wl) : Prop := ∃ p, v = .ref p ∧ H p = some (.tup [.str x.o, .str x.t, .int (x.m : Nat)])
theorem WAt.same {H H' : Hp} {v : V} {x : Wl} (s : Same H H') (h : WAt H v x) : WAt H' v x := let ⟨p, e, h⟩ := h; ⟨p, e, s _ _ h⟩
def SRow (kv : Key × V) (z : Str) : Prop := kv.1 = Sum.inr z ∧ ∃ r, kv.2 = .ref r
structure NetF (fs : List (Str × V)) (ds lw : Addr) : Prop where
  fs1 : fs.lookup ("stop_rows" : Str) = some (V.ref ds)
  fw : fs.lookup ("walk_rows" : Str) = some (V.ref lw)
  n1 : fs.lookup ("stops" : Str) = none
  n2 : fs.lookup ("walks" : Str) = none
  n3 : fs.lookup ("has_walk" : Str) = none
  n4 : fs.lookup ("check_stop" : Str) = none
  n5 : fs.lookup ("add_stop" : Str) = none
  n6 : fs.lookup ("add_walk" : Str) = none
structure NetO (t : Adr) (H : Hp) (n ds lw : Addr) (NS : List Str) (WS : List Wl) : Prop where
  ob : ∃ dx fs, H n = some (.ins t.c_Net dx fs) ∧ NetF fs ds lw
  st : ∃ rows, H ds = some (.dK rows) ∧ Al SRow rows NS
  wk : ∃ vs, H lw = some (.lst vs) ∧ Al (WAt H) vs WS
theorem NetO.same {H H' : Hp} {n ds lw : Addr} {NS : List Str} {WS : List Wl} (s : Same H H') (h : NetO t H n ds lw NS WS) : NetO t H' n ds lw NS WS := by
  obtain ⟨⟨dx, fs, e1, e2⟩, ⟨r1, a1, b1⟩, ⟨r2, a2, b2⟩⟩ := h
  exact ⟨⟨dx, fs, s _ _ e1, e2⟩, ⟨r1, s _ _ a1, b1⟩, ⟨r2, s _ _ a2, b2.imp fun _ _ => WAt.same s⟩⟩
def NetAt (t : Adr) (H : Hp) (n : Addr) (NS : List Str) (WS : List Wl) : Prop := ∃ ds lw, NetO t H n ds lw NS WS
theorem NetAt.same {H H' : Hp} {n : Addr} {NS : List Str} {WS : List Wl} (s : Same H H') (h : NetAt t H n NS WS) : NetAt t H' n NS WS := let ⟨ds, lw, h⟩ := h; ⟨ds, lw, h.same s⟩
theorem rows_in {rows : List (Key × V)} {NS : List Str} (h : Al SRow rows NS) (z : Str) : (z ∈ NS → ∃ v, valV rows (Sum.inr z) = some v) ∧ (z ∉ NS → valV rows (Sum.inr z) = none) := by
  induction h with
  | nil => exact ⟨fun m => (by cases m), fun _ => rfl⟩
  | @cons kv y rows xs hr _ ih =>
    by_cases e : y = z
    · subst e
      exact ⟨fun _ => ⟨_, valV_pos hr.1⟩, fun n => absurd (List.mem_cons_self ..) n⟩
    · have ek : kv.1 ≠ Sum.inr z := fun x => e (by rw [show kv.1 = Sum.inr y from hr.1] at x; exact Sum.inr.inj x)
      refine ⟨fun m => ?_, fun n => ?_⟩
      · rw [valV_neg ek]
        rcases List.mem_cons.mp m with x | x
        · exact absurd x.symm e
        · exact ih.1 x
      · rw [valV_neg ek]
        exact ih.2 fun m => n (List.mem_cons_of_mem _ m)
theorem fewS {f : Str} {v : V} {fs : List (Str × V)} {n : Nat} (h : fs.length ≤ n) : (putF f v fs).length ≤ n + 1 := Nat.le_trans (length_putF _ _ _) (Nat.succ_le_succ h)
def spInit (t : Adr) : Sp := fun vs H Q _ => ∃ (x : Addr) (H0 : Hp), vs = [.ref x] ∧ H0 x = none ∧ Same H0 H ∧ (∃ dx, H x = some (.ins t.c_Net dx [])) ∧ ∀ H' ds lw, Same H0 H' → NetO t H' x ds lw [] [] → H0 ds = none → H0 lw = none → Q .non H'
theorem ok_Net_init (Tx : Tab K mg t) : FnOk P w K mg base CX0 1 t.f_Net_init t.d_Net_init ["self"] (spInit t) := by
  refine Tx.F_Net_init.ok sc_Net_init (fun vs H Q E h => ?_) (fun cdv A outer s H vs Q E hr h => ?_)
  · obtain ⟨x, H0, rfl, _⟩ := h
    rfl
  obtain ⟨x, H0, rfl, n0, s0, ⟨dx, hx⟩, q⟩ := h
  refine ⟨_, (pss_cons (ps_fld (pv 0) pe_dnew rfl)
    (pss_cons (ps_fld (pv 0) (pe_lst pa_nil) rfl)
    (pss_cons (ps_fld (pv 0) pe_dnew rfl)
    (pss_cons (ps_fld (pv 0) pe_dnew rfl)
    (pss_one (ps_fld (pv 0) pe_dnew rfl)))))), ?_⟩
  intro p1 g1
  have x1 : p1 ≠ x := fun z => by rw [z, hx] at g1; cases g1
  have d1 := s0.free g1
  refine ⟨_, rfl, x, _, dx, _, rfl, (by rw [upd_ne x1.symm]; exact hx), Tx.cl_Net, Tx.na_Net_stop_rows, by decide, ?_⟩
  generalize hf1 : putF "stop_rows" (.ref p1) [] = f1
  have lf1 : f1.length ≤ 1 := by rw [← hf1]; exact fewS (Nat.zero_le 0)
  have u1 := same_put (s0.trans (same_new g1 (.dK []))) n0 (.ins t.c_Net dx f1)
  have y1 : (upd (upd H p1 (.dK [])) x (.ins t.c_Net dx f1)) x = some (.ins t.c_Net dx f1) := upd_same
  have k1 : (upd (upd H p1 (.dK [])) x (.ins t.c_Net dx f1)) p1 = some (.dK []) := by rw [upd_ne x1]; exact upd_same
  generalize upd (upd H p1 (.dK [])) x (.ins t.c_Net dx f1) = H1 at u1 y1 k1 ⊢
  refine ⟨by show 0 ≤ sizeLine; decide, fun p2 g2 => ?_⟩
  have x2 : p2 ≠ x := fun z => by rw [z, y1] at g2; cases g2
  have n12 : p1 ≠ p2 := ne_of_none k1 g2
  have d2 := u1.free g2
  refine ⟨_, rfl, x, _, dx, _, rfl, (by rw [upd_ne x2.symm]; exact y1), Tx.cl_Net, Tx.na_Net_walk_rows, Nat.lt_of_le_of_lt lf1 (by decide), ?_⟩
  generalize hf2 : putF "walk_rows" (.ref p2) f1 = f2
  have lf2 : f2.length ≤ 2 := by rw [← hf2]; exact fewS lf1
  have u2 := same_put (u1.trans (same_new g2 (.lst []))) n0 (.ins t.c_Net dx f2)
  have y2 : (upd (upd H1 p2 (.lst [])) x (.ins t.c_Net dx f2)) x = some (.ins t.c_Net dx f2) := upd_same
  have k1 : (upd (upd H1 p2 (.lst [])) x (.ins t.c_Net dx f2)) p1 = some (.dK []) := by rw [upd_ne x1, upd_ne n12]; exact k1
  have k2 : (upd (upd H1 p2 (.lst [])) x (.ins t.c_Net dx f2)) p2 = some (.lst []) := by rw [upd_ne x2]; exact upd_same
  generalize upd (upd H1 p2 (.lst [])) x (.ins t.c_Net dx f2) = H2 at u2 y2 k1 k2 ⊢
  intro p3 g3
  have x3 : p3 ≠ x := fun z => by rw [z, y2] at g3; cases g3
  have n13 : p1 ≠ p3 := ne_of_none k1 g3
  have n23 : p2 ≠ p3 := ne_of_none k2 g3
  refine ⟨_, rfl, x, _, dx, _, rfl, (by rw [upd_ne x3.symm]; exact y2), Tx.cl_Net, Tx.na_Net_rule_rows, Nat.lt_of_le_of_lt lf2 (by decide), ?_⟩
  generalize hf3 : putF "rule_rows" (.ref p3) f2 = f3
  have lf3 : f3.length ≤ 3 := by rw [← hf3]; exact fewS lf2
  have u3 := same_put (u2.trans (same_new g3 (.dK []))) n0 (.ins t.c_Net dx f3)
  have y3 : (upd (upd H2 p3 (.dK [])) x (.ins t.c_Net dx f3)) x = some (.ins t.c_Net dx f3) := upd_same
  have k1 : (upd (upd H2 p3 (.dK [])) x (.ins t.c_Net dx f3)) p1 = some (.dK []) := by rw [upd_ne x1, upd_ne n13]; exact k1
  have k2 : (upd (upd H2 p3 (.dK [])) x (.ins t.c_Net dx f3)) p2 = some (.lst []) := by rw [upd_ne x2, upd_ne n23]; exact k2
  generalize upd (upd H2 p3 (.dK [])) x (.ins t.c_Net dx f3) = H3 at u3 y3 k1 k2 ⊢
  intro p4 g4
  have x4 : p4 ≠ x := fun z => by rw [z, y3] at g4; cases g4
  have n14 : p1 ≠ p4 := ne_of_none k1 g4
  have n24 : p2 ≠ p4 := ne_of_none k2 g4
  refine ⟨_, rfl, x, _, dx, _, rfl, (by rw [upd_ne x4.symm]; exact y3), Tx.cl_Net, Tx.na_Net_ticket_rows, Nat.lt_of_le_of_lt lf3 (by decide), ?_⟩
  generalize hf4 : putF "ticket_rows" (.ref p4) f3 = f4
  have lf4 : f4.length ≤ 4 := by rw [← hf4]; exact fewS lf3
  have u4 := same_put (u3.trans (same_new g4 (.dK []))) n0 (.ins t.c_Net dx f4)
  have y4 : (upd (upd H3 p4 (.dK [])) x (.ins t.c_Net dx f4)) x = some (.ins t.c_Net dx f4) := upd_same
  have k1 : (upd (upd H3 p4 (.dK [])) x (.ins t.c_Net dx f4)) p1 = some (.dK []) := by rw [upd_ne x1, upd_ne n14]; exact k1
  have k2 : (upd (upd H3 p4 (.dK [])) x (.ins t.c_Net dx f4)) p2 = some (.lst []) := by rw [upd_ne x2, upd_ne n24]; exact k2
  generalize upd (upd H3 p4 (.dK [])) x (.ins t.c_Net dx f4) = H4 at u4 y4 k1 k2 ⊢
  intro p5 g5
  have x5 : p5 ≠ x := fun z => by rw [z, y4] at g5; cases g5
  have n15 : p1 ≠ p5 := ne_of_none k1 g5
  have n25 : p2 ≠ p5 := ne_of_none k2 g5
  refine ⟨_, rfl, x, _, dx, _, rfl, (by rw [upd_ne x5.symm]; exact y4), Tx.cl_Net, Tx.na_Net_trip_rows, Nat.lt_of_le_of_lt lf4 (by decide), ?_⟩
  generalize hf5 : putF "trip_rows" (.ref p5) f4 = f5
  have u5 := same_put (u4.trans (same_new g5 (.dK []))) n0 (.ins t.c_Net dx f5)
  have y5 : (upd (upd H4 p5 (.dK [])) x (.ins t.c_Net dx f5)) x = some (.ins t.c_Net dx f5) := upd_same
  have k1 : (upd (upd H4 p5 (.dK [])) x (.ins t.c_Net dx f5)) p1 = some (.dK []) := by rw [upd_ne x1, upd_ne n15]; exact k1
  have k2 : (upd (upd H4 p5 (.dK [])) x (.ins t.c_Net dx f5)) p2 = some (.lst []) := by rw [upd_ne x2, upd_ne n25]; exact k2
  generalize upd (upd H4 p5 (.dK [])) x (.ins t.c_Net dx f5) = H5 at u5 y5 k1 k2 ⊢
  subst hf1 hf2 hf3 hf4 hf5
  exact q _ p1 p2 u5 ⟨⟨dx, _, y5, ⟨rfl, rfl, rfl, rfl, rfl, rfl, rfl, rfl⟩⟩, ⟨[], k1, .nil⟩, ⟨[], k2, .nil⟩⟩ d1 d2
def spStops (t : Adr) : Sp := fun vs H Q _ => ∃ (n : Addr) (NS : List Str) (WS : List Wl), vs = [.ref n] ∧ NetAt t H n NS WS ∧ ∀ l H', Same H H' → H l = none → H' l = some (.lst (NS.map V.str)) → Q (.ref l) H'
theorem al_keys {rows : List (Key × V)} {NS : List Str} (h : Al SRow rows NS) : (rows.map fun kv => kV kv.1) = NS.map V.str := by
  induction h with
  | nil => rfl
  | cons hr _ ih => rw [List.map_cons, List.map_cons, ih, show _ = Sum.inr _ from hr.1]; rfl
theorem ok_Net_stops (Tx : Tab K mg t) : FnOk P w K mg base CX0 1 t.f_Net_stops t.d_Net_stops ["self"] (spStops t) := by
  refine Tx.F_Net_stops.ok sc_Net_stops (fun vs H Q E h => ?_) (fun cdv A outer s H vs Q E hr h => ?_)
  · obtain ⟨n, NS, WS, rfl, _⟩ := h
    rfl
  obtain ⟨n, NS, WS, rfl, ⟨ds, lw, hN⟩, q⟩ := h
  obtain ⟨dx, fs, e1, e2⟩ := hN.ob
  obtain ⟨rows, h1, h2⟩ := hN.st
  refine ⟨_, (pss_one (ps_ret (pe_callTy (call_list_dict rfl) rfl Tx.z_list b_list (pac (pe_fld (pv 0) rfl) pa_nil)))), ?_⟩
  refine ⟨_, rfl, n, _, dx, _, _, rfl, e1, Tx.cl_Net, Tx.na_Net_stop_rows, e2.fs1, ds, rows, rfl, h1, fun l hl => ?_⟩
  exact q l _ (same_new hl _) hl (by rw [upd_same, al_keys h2])
def spWalks (t : Adr) : Sp := fun vs H Q _ => ∃ (n : Addr) (NS : List Str) (WS : List Wl), vs = [.ref n] ∧ NetAt t H n NS WS ∧ ∀ l vs H', Same H H' → H l = none → H' l = some (.lst vs) → Al (WAt H') vs WS → Q (.ref l) H'
theorem ok_Net_walks (Tx : Tab K mg t) : FnOk P w K mg base CX0 1 t.f_Net_walks t.d_Net_walks ["self"] (spWalks t) := by
  refine Tx.F_Net_walks.ok sc_Net_walks (fun vs H Q E h => ?_) (fun cdv A outer s H vs Q E hr h => ?_)
  · obtain ⟨n, NS, WS, rfl, _⟩ := h
    rfl
  obtain ⟨n, NS, WS, rfl, ⟨ds, lw, hN⟩, q⟩ := h
  obtain ⟨dx, fs, e1, e2⟩ := hN.ob
  obtain ⟨vs, h1, h2⟩ := hN.wk
  refine ⟨_, (pss_one (ps_ret (pe_callTy call_list_of rfl Tx.z_list b_list (pac (pe_fld (pv 0) rfl) pa_nil)))), ?_⟩
  refine ⟨_, rfl, n, _, dx, _, _, rfl, e1, Tx.cl_Net, Tx.na_Net_walk_rows, e2.fw, lw, vs, rfl, .inl (SqL.of h1), fun l hl => ?_⟩
  exact q l vs _ (same_new hl _) hl upd_same (h2.imp fun _ _ => WAt.same (same_new hl _))
def spCheckStop (t : Adr) : Sp := fun vs H Q _ => ∃ (n : Addr) (NS : List Str) (WS : List Wl) (z : Str), vs = [.ref n, .str z] ∧ NetAt t H n NS WS ∧ z ∈ NS ∧ Q .non H
theorem ok_Net_check_stop (Tx : Tab K mg t) : FnOk P w K mg base CX0 2 t.f_Net_check_stop t.d_Net_check_stop ["self", "name"] (spCheckStop t) := by
  refine Tx.F_Net_check_stop.ok sc_Net_check_stop (fun vs H Q E h => ?_) (fun cdv A outer s H vs Q E hr h => ?_)
  · obtain ⟨n, NS, WS, z, rfl, _⟩ := h
    rfl
  obtain ⟨n, NS, WS, z, rfl, ⟨ds, lw, hN⟩, hz, q⟩ := h
  obtain ⟨dx, fs, e1, e2⟩ := hN.ob
  obtain ⟨rows, h1, h2⟩ := hN.st
  obtain ⟨v, ev⟩ := (rows_in h2 z).1 hz
  refine ⟨_, (pss_one (ps_if (pt_not (pt_val (pe_call (ok_is_known Tx) (hr.mono (by omega)) rfl Tx.m_is_known Tx.F_is_known.kp Tx.b_is_known .nil pass0 (pac (pv 1) (pac (pe_fld (pv 0) rfl) pa_nil)))))
    (pss_one ps_never)
    pss_nil)), ?_⟩
  exact ⟨_, rfl, _, rfl, n, _, dx, _, _, rfl, e1, Tx.cl_Net, Tx.na_Net_stop_rows, e2.fs1, z, ds, rows, rfl, h1, _, rfl, itF (by rw [ev]; exact Bool.false_ne_true) q⟩

theorem name_lay {z : Str} (h : NameOk z) : (PyData.str z).canLay0 = true := by
  simp only [PyData.canLay0]
  show z.cps.all (fun c => decide (c < 0x110000)) = true
  rw [← Array.all_toList, List.all_eq_true]
  intro c hc
  have := h.2.2.1 c hc
  exact decide_eq_true (by omega)
def spRoomL (K : W.Frag) : Sp := fun vs H Q _ => ∃ (l : Addr) (xs : List V) (n : Int), vs = [.ref l, .int n] ∧ SqL K H l xs ∧ (xs.length : Int) < n ∧ Q .non H
theorem ok_check_room_l (Tx : Tab K mg t) : FnOk P w K mg base CX0 1 t.f_check_room t.d_check_room ["kept", "most"] (spRoomL K) := by
  refine Tx.F_check_room.ok sc_check_room (fun vs H Q E h => ?_) (fun cdv A outer s H vs Q E hr h => ?_)
  · obtain ⟨d, kvs, n, rfl, _⟩ := h
    rfl
  obtain ⟨d, kvs, n, rfl, hd, hl, q⟩ := h
  refine ⟨_, (pss_one (ps_if (pt_cmpR op_ge (pe_callB call_len_seq rfl Tx.z_len b_len (pac (pv 0) pa_nil)) (pv 1) (nomark _))
    (pss_one ps_never)
    pss_nil)), ?_⟩
  exact ⟨_, rfl, d, kvs, rfl, .inl hd, _, rfl, _, _, rfl, rfl, _, rfl, itF (by rw [decide_eq_false (by omega)]; decide) q⟩
theorem upd_tup {H : Hp} {d p : Addr} {o u : HO} {xs : List V} (hd : H d = some u) (nt : ∀ ys, u ≠ .tup ys) (h : H p = some (.tup xs)) : upd H d o p = some (.tup xs) := by
  rw [upd_ne (ne_of h hd (fun z => nt _ z.symm))]; exact h
theorem WAt.put {H : Hp} {d : Addr} {o u : HO} {v : V} {x : Wl} (hd : H d = some u) (nt : ∀ ys, u ≠ .tup ys) (h : WAt H v x) : WAt (upd H d o) v x := let ⟨p, e, hp⟩ := h; ⟨p, e, upd_tup hd nt hp⟩
theorem putK_new {kvs : List (Key × V)} {k : Key} {v : V} (h : valV kvs k = none) : putK kvs k v = kvs ++ [(k, v)] := by
  unfold putK
  rw [valV_any, h]
  rfl
def spAddStop (t : Adr) : Sp := fun vs H Q _ => ∃ (n ds lw : Addr) (NS : List Str) (WS : List Wl) (x : Str) (z ch : Nat) (H0 : Hp), vs = [.ref n, .str x, .int (z : Nat), .int (ch : Nat)] ∧ NetO t H n ds lw NS WS ∧ H0 ds = none ∧ Same H0 H ∧ NameOk x ∧ 1 ≤ z ∧ z ≤ 6 ∧ ch ≤ 30 ∧ x ∉ NS ∧ NS.length < 8 ∧
  ∀ H', Same H0 H' → NetO t H' n ds lw (NS ++ [x]) WS → Q .non H'
theorem ok_Net_add_stop (Tx : Tab K mg t) : FnOk P w K mg base CX0 4 t.f_Net_add_stop t.d_Net_add_stop ["self", "name", "zone", "change"] (spAddStop t) := by
  refine Tx.F_Net_add_stop.ok sc_Net_add_stop (fun vs H Q E h => ?_) (fun cdv A outer s H vs Q E hr h => ?_)
  · obtain ⟨n, ds, lw, NS, WS, x, z, ch, H0, rfl, _⟩ := h
    rfl
  obtain ⟨n, ds, lw, NS, WS, x, z, ch, H0, rfl, hN, hW, s0, okn, z1, z6, c30, hf, hlen, q⟩ := h
  obtain ⟨dx, fs, e1, e2⟩ := hN.ob
  obtain ⟨rows, h1, h2⟩ := hN.st
  have hv := (rows_in h2 x).2 hf
  have hrl : rows.length < 8 := by rw [h2.length]; exact hlen
  refine ⟨_, (pss_cons (ps_expr (pe_call (ok_check_new Tx) (hr.mono (by omega)) rfl Tx.m_check_new Tx.F_check_new.kp Tx.b_check_new .nil pass0 (pac (pv 1) (pac (pe_fld (pv 0) rfl) pa_nil))))
    (pss_cons (ps_expr (pe_call (ok_check_number Tx) (hr.mono (by omega)) rfl Tx.m_check_number Tx.F_check_number.kp Tx.b_check_number .nil pass0 (pac (pv 2) (pac pe_int (pac (pe_gintE rfl Tx.m_LAST_ZONE) pa_nil)))))
    (pss_cons (ps_expr (pe_call (ok_check_number Tx) (hr.mono (by omega)) rfl Tx.m_check_number Tx.F_check_number.kp Tx.b_check_number .nil pass0 (pac (pv 3) (pac pe_int (pac (pe_gintE rfl Tx.m_MOST_CHANGE) pa_nil)))))
    (pss_cons (ps_expr (pe_call (ok_check_room Tx) (hr.mono (by omega)) rfl Tx.m_check_room Tx.F_check_room.kp Tx.b_check_room .nil pass0 (pac (pe_fld (pv 0) rfl) (pac (pe_gintE rfl Tx.m_MOST_STOPS) pa_nil))))
    (pss_one (ps_dput (hu_of hr) (pe_fld (pv 0) rfl) (pv 1) (pe_tup (pac (pv 2) (pac (pv 3) pa_nil))) rfl)))))), ?_⟩
  refine ⟨_, rfl, _, rfl, n, _, dx, _, _, rfl, e1, Tx.cl_Net, Tx.na_Net_stop_rows, e2.fs1, x, ds, rows, rfl, h1, okn, hv, fun H1 s1 => ?_⟩
  refine ⟨_, rfl, z, 1, 6, rfl, by omega, by omega, ?_⟩
  refine ⟨_, rfl, ch, 0, 30, rfl, by omega, by omega, ?_⟩
  refine ⟨_, rfl, n, _, dx, _, _, rfl, s1 _ _ e1, Tx.cl_Net, Tx.na_Net_stop_rows, e2.fs1, ds, rows, 8, rfl, s1 _ _ h1, by omega, ?_⟩
  refine ⟨_, rfl, _, rfl, by show 2 ≤ sizeLine; decide, fun r hr' => ?_⟩
  have s3 := same_new hr' (.tup [.int (z : Nat), .int (ch : Nat)])
  have S3 := s1.trans s3
  refine ⟨_, rfl, n, _, dx, _, _, rfl, S3 _ _ e1, Tx.cl_Net, Tx.na_Net_stop_rows, e2.fs1, _, rfl, ds, _, rfl, DPut.k (k := Sum.inr x) (S3 _ _ h1) (Nat.lt_trans hrl (by decide)), ?_⟩
  obtain ⟨⟨dx', fs', a1, a2⟩, _, ⟨vw, c1, c2⟩⟩ := hN.same S3
  refine q _ (same_put (s0.trans S3) hW _) ⟨⟨dx', fs', ?_, a2⟩, ⟨_, upd_same, ?_⟩, ⟨vw, ?_, c2.imp fun _ _ => WAt.put (S3 _ _ h1) (fun ys z => by cases z)⟩⟩
  · rw [upd_ne (ne_of a1 (S3 _ _ h1) (by intro z; cases z))]; exact a1
  · rw [putK_new hv]; exact h2.snoc ⟨rfl, _, rfl⟩
  · rw [upd_ne (ne_of c1 (S3 _ _ h1) (by intro z; cases z))]; exact c1
def spHas (t : Adr) : Sp := fun vs H Q _ => ∃ (n : Addr) (NS : List Str) (WS : List Wl) (a b : Str), vs = [.ref n, .str a, .str b] ∧ NetAt t H n NS WS ∧ NameOk a ∧ NameOk b ∧ (∀ x ∈ WS, NameOk x.o ∧ NameOk x.t) ∧ WS.length ≤ 12 ∧ ∀ H', Same H H' → Q (.bl (hasW WS a b)) H'
theorem ok_Net_has_walk (Tx : Tab K mg t) : FnOk P w K mg base CX0 1 t.f_Net_has_walk t.d_Net_has_walk ["self", "one", "other"] (spHas t) := by
  refine Tx.F_Net_has_walk.ok sc_Net_has_walk (fun vs H Q E h => ?_) (fun cdv A outer s H vs Q E hr h => ?_)
  · obtain ⟨n, NS, WS, a, b, rfl, _⟩ := h
    rfl
  obtain ⟨n, NS, WS, a, b, rfl, ⟨ds, lw, hN⟩, oka, okb, okW, w12, q⟩ := h
  obtain ⟨dx, fs, e1, e2⟩ := hN.ob
  obtain ⟨vw, h1, h2⟩ := hN.wk
  refine ⟨_, (pss_one (ps_ret (pe_callB (call_any_list rfl) rfl Tx.z_any b_any (pac (pe_comp (cl := [(Str.ofString "other", s.heap.objs.size + 2), (Str.ofString "one", s.heap.objs.size + 1)]) (N := ["walk", "one", "other"]) (fr := [none, some 1, some 2]) rfl (pi_list (pe_fld (pv 0) rfl)) rfl (by decide +kernel) rfl (by decide +kernel) ⟨⟨rfl, Or.inl rfl, Or.inl rfl, _, rfl, rfl⟩, ⟨⟨rfl, Or.inl rfl, Or.inl rfl, _, rfl, rfl⟩, trivial⟩⟩ ⟨rfl, ⟨rfl, trivial⟩⟩ rfl (fun _ _ _ _ _ => (pg_name (i := 0) (show List.Nodup (["walk", "one", "other"] : List Str) by decide +kernel) rfl (Or.inl rfl))) (fun _ _ _ _ _ => pts_nil) (fun _ _ _ _ _ => (pe_cmpR (show OpR _ (compareOp .In) (rInD K false) from op_inD hr.units) (pe_tup (pac (pe_ix (show IxR _ (rIxT K) from ix_tup) (pv 0) pe_int (fun _ _ => rfl)) (pac (pe_ix (show IxR _ (rIxT K) from ix_tup) (pv 0) pe_int (fun _ _ => rfl)) pa_nil))) (pe_tup (pac (pe_tup (pac (pv 1) (pac (pv 2) pa_nil))) (pac (pe_tup (pac (pv 2) (pac (pv 1) pa_nil))) pa_nil))) rfl))) pa_nil)))), ?_⟩
  refine ⟨_, rfl, n, _, dx, _, _, rfl, e1, Tx.cl_Net, Tx.na_Net_walk_rows, e2.fw, lw, rfl, ⟨_, SqL.of h1⟩, comp_list (K := K) (a := lw) (xs := vw) (fun i acc σ H' => Same H H' ∧ (∃ v, σ = [v, some (.str a), some (.str b)]) ∧ acc = ((WS.take i).map fun x => (a == x.o && b == x.t) || (b == x.o && a == x.t)).map V.bl) ⟨Same.refl H, ⟨_, rfl⟩, rfl⟩
    (Nat.le_trans (show _ ≤ 12 by rw [h2.length]; exact w12) (by decide)) (fun i acc σ H' _ ⟨s', _⟩ => SqL.of (s' _ _ h1)) ?_ ?_⟩
  · rintro i v acc σ H1 hl hv ⟨s1, ⟨v0, rfl⟩, rfl⟩
    obtain ⟨x, ex, px, rfl, hpx⟩ := h2.get hv
    have okx := okW x (List.mem_of_getElem? ex)
    have hpx1 := s1 _ _ hpx
    dsimp only [gName, tTrue]
    rw [if_pos rfl]
    refine ⟨_, rfl, px, _, 0, _, rfl, rfl, SqT.of hpx1, rfl, _, rfl, px, _, 1, _, rfl, rfl, SqT.of hpx1, rfl, by show 2 ≤ sizeLine; decide, fun p1 g1 => ?_⟩
    have u1 := same_new g1 (.tup [.str x.o, .str x.t])
    refine ⟨_, rfl, _, rfl, by show 2 ≤ sizeLine; decide, fun p2 g2 => ?_⟩
    have u2 := same_new g2 (.tup [.str a, .str b])
    refine ⟨_, rfl, _, rfl, by show 2 ≤ sizeLine; decide, fun p3 g3 => ?_⟩
    have u3 := same_new g3 (.tup [.str b, .str a])
    refine ⟨by show 2 ≤ sizeLine; decide, fun p4 g4 => ?_⟩
    have u4 := same_new g4 (.tup [.ref p2, .ref p3])
    have k1 := ((u2.trans u3).trans u4) p1 _ upd_same
    have k2 := (u3.trans u4) p2 _ upd_same
    have k3 := u4 p3 _ upd_same
    have S4 := (((s1.trans u1).trans u2).trans u3).trans u4
    refine ⟨p4, _, .tuple [.str x.o, .str x.t], [.tuple [.str a, .str b], .tuple [.str b, .str a]], rfl, .inr (SqT.of upd_same), .tup (SqT.of k1) (.cons (.str _ (name_lay okx.1)) (.cons (.str _ (name_lay okx.2)) .nil)), .cons (.tup (SqT.of k2) (.cons (.str _ (name_lay oka)) (.cons (.str _ (name_lay okb)) .nil))) (.cons (.tup (SqT.of k3) (.cons (.str _ (name_lay okb)) (.cons (.str _ (name_lay oka)) .nil))) .nil), ?_, ?_⟩
    · simp [PyData.depth, PyData.depthAll]
    refine ⟨by rw [List.length_append, List.length_singleton]; omega, S4, ⟨_, rfl⟩, ?_⟩
    rw [List.take_add_one, ex, List.map_append, List.map_append]
    congr 1
    simp [PyData.eqv, PyData.eqvAll]
  · rintro acc σ H1 ha ⟨s1, ⟨v0, rfl⟩, rfl⟩ l hl
    rw [h2.length, List.take_length]
    refine ⟨l, _, rfl, SqL.of upd_same, ?_⟩
    rw [List.any_map]
    exact q _ (s1.trans (same_new hl _))
def spAddWalk (t : Adr) : Sp := fun vs H Q _ => ∃ (n ds lw : Addr) (NS : List Str) (WS : List Wl) (x : Wl) (H0 : Hp), vs = [.ref n, .str x.o, .str x.t, .int (x.m : Nat)] ∧ NetO t H n ds lw NS WS ∧ H0 lw = none ∧ Same H0 H ∧ (∀ z ∈ NS, NameOk z) ∧ (∀ y ∈ WS, y.o ∈ NS ∧ y.t ∈ NS) ∧ x.o ∈ NS ∧ x.t ∈ NS ∧ x.o ≠ x.t ∧ hasW WS x.o x.t = false ∧ 1 ≤ x.m ∧ x.m ≤ 60 ∧ WS.length < 12 ∧
  ∀ H', Same H0 H' → NetO t H' n ds lw NS (WS ++ [x]) → Q .non H'
theorem ok_Net_add_walk (Tx : Tab K mg t) : FnOk P w K mg base CX0 4 t.f_Net_add_walk t.d_Net_add_walk ["self", "one", "other", "minutes"] (spAddWalk t) := by
  refine Tx.F_Net_add_walk.ok sc_Net_add_walk (fun vs H Q E h => ?_) (fun cdv A outer s H vs Q E hr h => ?_)
  · obtain ⟨n, ds, lw, NS, WS, x, H0, rfl, _⟩ := h
    rfl
  obtain ⟨n, ds, lw, NS, WS, x, H0, rfl, hN, hW, s0, okN, okW, ho, ht, ne, nh, m1, m60, w12, q⟩ := h
  obtain ⟨dx, fs, e1, e2⟩ := hN.ob
  refine ⟨_, (pss_cons (ps_expr (pe_meth (pv 0) Tx.cl_Net Tx.me_Net_check_stop (ok_Net_check_stop Tx) (hr.mono (by omega)) Tx.b_Net_check_stop .nil pass0 (pac (pv 1) pa_nil)))
    (pss_cons (ps_expr (pe_meth (pv 0) Tx.cl_Net Tx.me_Net_check_stop (ok_Net_check_stop Tx) (hr.mono (by omega)) Tx.b_Net_check_stop .nil pass0 (pac (pv 2) pa_nil)))
    (pss_cons (ps_if (PW.pt (pw_or (pt_cmpR op_eq (pv 1) (pv 2) (nomark _)) (pw_or1 (pt_val (pe_meth (pv 0) Tx.cl_Net Tx.me_Net_has_walk (ok_Net_has_walk Tx) (hr.mono (by omega)) Tx.b_Net_has_walk .nil pass0 (pac (pv 1) (pac (pv 2) pa_nil)))))))
    (pss_one ps_never)
    pss_nil)
    (pss_cons (ps_expr (pe_call (ok_check_number Tx) (hr.mono (by omega)) rfl Tx.m_check_number Tx.F_check_number.kp Tx.b_check_number .nil pass0 (pac (pv 3) (pac pe_int (pac (pe_gintE rfl Tx.m_MOST_WALKED) pa_nil)))))
    (pss_cons (ps_expr (pe_call (ok_check_room_l Tx) (hr.mono (by omega)) rfl Tx.m_check_room Tx.F_check_room.kp Tx.b_check_room .nil pass0 (pac (pe_fld (pv 0) rfl) (pac (pe_gintE rfl Tx.m_MOST_WALKS) pa_nil))))
    (pss_one (ps_expr (pe_bm PySem.F.plainAttrs_list PySem.F.slot_list_append PySem.F.type_list_append mt_append (pe_fld (pv 0) rfl) (pac (pe_tup (pac (pv 1) (pac (pv 2) (pac (pv 3) pa_nil)))) pa_nil))))))))), ?_⟩
  refine ⟨_, rfl, n, dx, _, rfl, e1, e2.n4, _, rfl, n, NS, WS, x.o, rfl, ⟨ds, lw, hN⟩, ho, ?_⟩
  refine ⟨_, rfl, n, dx, _, rfl, e1, e2.n4, _, rfl, n, NS, WS, x.t, rfl, ⟨ds, lw, hN⟩, ht, ?_⟩
  refine ⟨_, rfl, _, rfl, rfl, _, rfl, itF (by show ¬ decide (V.str x.o = V.str x.t) = true; simp [ne]) ?_⟩
  refine ⟨_, rfl, n, dx, _, rfl, e1, e2.n3, _, rfl, _, rfl, n, NS, WS, x.o, x.t, rfl, ⟨ds, lw, hN⟩, okN _ ho, okN _ ht, (fun y hy => ⟨okN _ (okW y hy).1, okN _ (okW y hy).2⟩), by omega, fun H1 s1 => ?_⟩
  rw [nh]
  refine ⟨_, rfl, itF Bool.false_ne_true ?_⟩
  obtain ⟨vw, c1, c2⟩ := (hN.same s1).wk
  refine ⟨_, rfl, x.m, 1, 60, rfl, by omega, by omega, ?_⟩
  refine ⟨_, rfl, n, _, dx, _, _, rfl, s1 _ _ e1, Tx.cl_Net, Tx.na_Net_walk_rows, e2.fw, lw, vw, 12, rfl, SqL.of c1, by rw [c2.length]; omega, ?_⟩
  refine ⟨_, rfl, n, _, dx, _, _, rfl, s1 _ _ e1, Tx.cl_Net, Tx.na_Net_walk_rows, e2.fw, .inl ⟨rfl, _, SqL.of c1⟩, _, rfl, _, rfl, _, rfl, by show 3 ≤ sizeLine; decide, fun r hr' => ?_⟩
  have s2 := same_new hr' (.tup [.str x.o, .str x.t, .int (x.m : Nat)])
  have S2 := s1.trans s2
  have hlw := s2 _ _ c1
  refine ⟨lw, _, _, rfl, rfl, hlw, Nat.lt_of_le_of_lt (show _ ≤ 12 by rw [c2.length]; omega) (by decide), ?_⟩
  obtain ⟨⟨dx', fs', a1, a2⟩, ⟨rows, b1, b2⟩, _⟩ := hN.same S2
  refine q _ (same_put (s0.trans S2) hW _) ⟨⟨dx', fs', ?_, a2⟩, ⟨rows, ?_, b2⟩, ⟨_, upd_same, ?_⟩⟩
  · rw [upd_ne (ne_of a1 hlw (by intro z; cases z))]; exact a1
  · rw [upd_ne (ne_of b1 hlw (by intro z; cases z))]; exact b1
  · exact ((c2.imp fun _ _ => WAt.same s2).imp fun _ _ => WAt.put hlw (fun ys z => by cases z)).snoc ⟨r, rfl, upd_tup hlw (fun ys z => by cases z) upd_same⟩

def PAt (H : Hp) (v : V) (p : Nat × List Str) : Prop := ∃ r l, v = .ref r ∧ H r = some (.tup [.int (p.1 : Nat), .ref l]) ∧ H l = some (.lst (p.2.map V.str))
theorem PAt.same {H H' : Hp} {v : V} {p : Nat × List Str} (s : Same H H') (h : PAt H v p) : PAt H' v p := let ⟨r, l, e, h1, h2⟩ := h; ⟨r, l, e, s _ _ h1, s _ _ h2⟩
theorem PAt.put {H : Hp} {d : Addr} {o : HO} {kvs : List (List Key × V)} {v : V} {p : Nat × List Str} (hd : H d = some (.dT kvs)) (h : PAt H v p) : PAt (upd H d o) v p := by
  obtain ⟨r, l, e, h1, h2⟩ := h
  refine ⟨r, l, e, ?_, ?_⟩
  · rw [upd_ne (ne_of h1 hd (by intro z; cases z))]; exact h1
  · rw [upd_ne (ne_of h2 hd (by intro z; cases z))]; exact h2
def keyW (a b : Str) : List Key := [Sum.inr a, Sum.inr b]
theorem keyW_inj {a b c d : Str} (h : keyW a b = keyW c d) : a = c ∧ b = d := by
  unfold keyW at h
  injection h with h1 h2
  injection h2 with h2 _
  exact ⟨Sum.inr.inj h1, Sum.inr.inj h2⟩
def ValAt (H : Hp) (o : Option V) (x : Option (Nat × List Str)) : Prop := match x with
  | none => o = none
  | some p => ∃ v, o = some v ∧ PAt H v p
theorem ValAt.same {H H' : Hp} {o : Option V} {x : Option (Nat × List Str)} (s : Same H H') (h : ValAt H o x) : ValAt H' o x := by
  cases x with
  | none => exact h
  | some p => obtain ⟨v, e, h⟩ := h; exact ⟨v, e, h.same s⟩
def FdAt (H : Hp) (d : Addr) (f : Fd) (c : Nat) : Prop := ∃ kvs, H d = some (.dT kvs) ∧ kvs.length ≤ c ∧ ∀ a b, ValAt H (valV kvs (keyW a b)) (f a b)
theorem FdAt.same {H H' : Hp} {d : Addr} {f : Fd} {c : Nat} (s : Same H H') (h : FdAt H d f c) : FdAt H' d f c := let ⟨kvs, e, l, q⟩ := h; ⟨kvs, s _ _ e, l, fun a b => (q a b).same s⟩
theorem FdAt.put {H : Hp} {d : Addr} {f : Fd} {c : Nat} {kvs : List (List Key × V)} {a b : Str} {v : V} {p : Nat × List Str} (hd : H d = some (.dT kvs)) (l : kvs.length ≤ c) (q : ∀ a b, ValAt H (valV kvs (keyW a b)) (f a b)) (hp : PAt H v p) :
    FdAt (upd H d (.dT (putK kvs (keyW a b) v))) d (Fw.putF f a b p) (c + 1) := by
  refine ⟨_, upd_same, Nat.le_trans (length_putK _ _ _) (by omega), fun x y => ?_⟩
  rw [valV_put]
  unfold Fw.putF
  by_cases e : x = a ∧ y = b
  · rw [if_pos e, e.1, e.2, if_pos rfl]
    exact ⟨v, rfl, hp.put hd⟩
  · rw [if_neg e, if_neg fun z => e (keyW_inj z)]
    have := q x y
    cases ef : f x y with
    | none => rw [ef] at this; exact this
    | some p' => rw [ef] at this; obtain ⟨v', e', h'⟩ := this; exact ⟨v', e', h'.put hd⟩
def retV (H : Hp) (v : V) (x : Option (Nat × List Str)) : Prop := match x with
  | none => v = .non
  | some p => PAt H v p
theorem ret_of {H : Hp} {o : Option V} {x : Option (Nat × List Str)} (h : ValAt H o x) : retV H (o.getD .non) x := by
  cases x with
  | none => rw [show o = none from h]; rfl
  | some p => obtain ⟨v, rfl, h⟩ := h; exact h
theorem retV.same {H H' : Hp} {v : V} {x : Option (Nat × List Str)} (s : Same H H') (h : retV H v x) : retV H' v x := by
  cases x with
  | none => exact h
  | some p => exact PAt.same s h
theorem cut_from (xs : List V) (n : Nat) : cutV xs (some (n : Int)) none = xs.drop n := by
  unfold cutV
  rw [HT.sIx_none, HT.sIx_nat]
  rcases Nat.le_total n xs.length with h | h
  · rw [Nat.min_eq_left h, List.take_of_length_le (by rw [List.length_drop]; exact Nat.le_refl _)]
  · rw [Nat.min_eq_right h, Nat.sub_self, List.take_zero, List.drop_eq_nil_of_le h]
def spLed : Sp := fun vs H Q _ => ∃ (d : Addr) (f : Fd) (c : Nat) (a m b : Str), vs = [.ref d, .str a, .str m, .str b] ∧ FdAt H d f c ∧ (∀ p, f a m = some p → p.2.length ≤ 1000000) ∧ (∀ p, f m b = some p → p.2.length ≤ 1000000) ∧ ∀ v H', Same H H' → retV H' v (leadF f a m b) → Q v H'
theorem ok_led_over (Tx : Tab K mg t) : FnOk P w K mg base CX0 1 t.f_led_over t.d_led_over ["found", "one", "middle", "other"] spLed := by
  refine Tx.F_led_over.ok sc_led_over (fun vs H Q E h => ?_) (fun cdv A outer s H vs Q E hr h => ?_)
  · obtain ⟨d, f, c, a, m, b, rfl, _⟩ := h
    rfl
  obtain ⟨d, f, c, a, m, b, rfl, ⟨kvs, hd, lk, hv⟩, l1, l2, q⟩ := h
  refine ⟨_, (pss_cons (ps_set (i := 4) sc_led_over.nd rfl (Or.inl rfl) (pe_dget1 (hu_of hr) (pv 0) (pe_tup (pac (pv 1) (pac (pv 2) pa_nil))) ⟨rfl, rfl, rfl, rfl⟩))
    (pss_cons (ps_set (i := 5) sc_led_over.nd rfl (Or.inl rfl) (pe_dget1 (hu_of hr) (pv 0) (pe_tup (pac (pv 2) (pac (pv 3) pa_nil))) ⟨rfl, rfl, rfl, rfl⟩))
    (pss_cons (ps_if (PW.pt (pw_or (pt_cmp (pc_isN (pv 4))) (pw_or1 (pt_cmp (pc_isN (pv 5))))))
    (pss_one (ps_ret pe_non))
    pss_nil)
    (pss_one (ps_ret (pe_tup (pac (pe_op op_add (pe_ix ix_tup (pv 4) pe_int (fun _ _ => rfl)) (pe_ix ix_tup (pv 5) pe_int (fun _ _ => rfl))) (pac (pe_op op_cat (pe_ix ix_tup (pv 4) pe_int (fun _ _ => rfl)) (pe_slice sl_list (pe_ix ix_tup (pv 5) pe_int (fun _ _ => rfl)) (po_some pe_int) po_none)) pa_nil)))))))), ?_⟩
  refine ⟨_, rfl, d, rfl, .inr ⟨kvs, .inl hd⟩, _, rfl, _, rfl, by show 2 ≤ sizeLine; decide, fun k1 g1 => ?_⟩
  have u1 := same_new g1 (.tup [.str a, .str m])
  refine ⟨_, DGet.t (k := keyW a m) (u1 _ _ hd) upd_same, ?_⟩
  have r1 := (ret_of (hv a m)).same u1
  refine ⟨_, rfl, d, rfl, .inr ⟨kvs, .inl (u1 _ _ hd)⟩, _, rfl, _, rfl, by show 2 ≤ sizeLine; decide, fun k2 g2 => ?_⟩
  have u2 := same_new g2 (.tup [.str m, .str b])
  refine ⟨_, DGet.t (k := keyW m b) (u2 _ _ (u1 _ _ hd)) upd_same, ?_⟩
  have U2 := u1.trans u2
  have r1 := r1.same u2
  have r2 := (ret_of (hv m b)).same U2
  generalize (valV kvs (keyW a m)).getD .non = v1 at r1
  generalize (valV kvs (keyW m b)).getD .non = v2 at r2
  generalize upd (upd H k1 (.tup [.str a, .str m])) k2 (.tup [.str m, .str b]) = H2 at U2 r1 r2 ⊢
  cases e1 : f a m with
  | none =>
    rw [e1] at r1
    obtain rfl : v1 = .non := r1
    exact ⟨_, rfl, _, rfl, itT (by decide) (q .non H2 U2 (by unfold leadF; rw [e1]; rfl))⟩
  | some x =>
    rw [e1] at r1
    obtain ⟨p1, w1, rfl, h1, h1'⟩ := r1
    refine ⟨_, rfl, _, rfl, itF (by show ¬ decide (V.ref p1 = V.non) = true; simp) ?_⟩
    cases e2 : f m b with
    | none =>
      rw [e2] at r2
      obtain rfl : v2 = .non := r2
      exact ⟨_, rfl, _, rfl, itT (by decide) (q .non H2 U2 (by unfold leadF; rw [e1, e2]; rfl))⟩
    | some y =>
      rw [e2] at r2
      obtain ⟨p2, w2, rfl, h2, h2'⟩ := r2
      refine ⟨_, rfl, _, rfl, itF (by show ¬ decide (V.ref p2 = V.non) = true; simp) ?_⟩
      refine ⟨_, rfl, p1, _, 0, _, rfl, rfl, SqT.of h1, rfl, _, rfl, p2, _, 0, _, rfl, rfl, SqT.of h2, rfl, _, _, rfl, rfl, ?_⟩
      refine ⟨_, rfl, p1, _, 1, _, rfl, rfl, SqT.of h1, rfl, _, rfl, p2, _, 1, _, rfl, rfl, SqT.of h2, rfl, _, rfl, w2, _, rfl, SqL.of h2', fun l3 g3 => ?_⟩
      rw [show cutV (y.2.map V.str) (some 1) none = y.2.tail.map V.str by rw [show (1 : Int) = ((1 : Nat) : Int) from rfl, cut_from, List.drop_one, List.map_tail]]
      have u3 := same_new g3 (.lst (y.2.tail.map V.str))
      have b1 := l1 x e1
      have b2 := l2 y e2
      refine ⟨w1, l3, _, _, rfl, rfl, u3 _ _ h1', upd_same, ?_, fun l4 g4 => ?_⟩
      · rw [List.length_map, List.length_map, List.length_tail]
        exact Nat.le_trans (show _ ≤ 2000000 by omega) (by decide)
      have u4 := same_new g4 (.lst (x.2.map V.str ++ y.2.tail.map V.str))
      refine ⟨by show 2 ≤ sizeLine; decide, fun l5 g5 => ?_⟩
      have u5 := same_new g5 (.tup [.int (((x.1 : Nat) : Int) + ((y.1 : Nat) : Int)), .ref l4])
      refine q _ _ (((U2.trans u3).trans u4).trans u5) ?_
      unfold leadF
      rw [e1, e2]
      refine ⟨l5, l4, rfl, ?_, ?_⟩
      · rw [upd_same]; rfl
      · rw [u5 l4 _ upd_same, List.map_append]
def spShort (t : Adr) : Sp := fun vs H Q _ => ∃ (x dx df : Addr) (fs : List (Str × V)) (f : Fd) (c : Nat) (a b : Str) (v : V) (o : Option (Nat × List Str)) (H0 : Hp), vs = [.ref x, .str a, .str b, v] ∧ H x = some (.ins t.c_Feet dx fs) ∧ fs.lookup ("found" : Str) = some (V.ref df) ∧ FdAt H df f c ∧ c ≤ 10000 ∧ retV H v o ∧ H0 df = none ∧ Same H0 H ∧
  ∀ H', Same H0 H' → Same (wo H df) H' → FdAt H' df (takeF f a b o) (c + 1) → Q .non H'
theorem ok_Feet_take_shorter (Tx : Tab K mg t) : FnOk P w K mg base CX0 1 t.f_Feet_take_shorter t.d_Feet_take_shorter ["self", "one", "other", "led"] (spShort t) := by
  refine Tx.F_Feet_take_shorter.ok sc_Feet_take_shorter (fun vs H Q E h => ?_) (fun cdv A outer s H vs Q E hr h => ?_)
  · obtain ⟨x, dx, df, fs, f, c, a, b, v, o, H0, rfl, _⟩ := h
    rfl
  obtain ⟨x, dx, df, fs, f, c, a, b, v, o, H0, rfl, hx, hf, ⟨kvs, hd, lk, hv⟩, c1, rv, n0, s0, q⟩ := h
  refine ⟨_, (pss_cons (ps_set (i := 4) sc_Feet_take_shorter.nd rfl (Or.inl rfl) (pe_dget1 (hu_of hr) (pe_fld (pv 0) rfl) (pe_tup (pac (pv 1) (pac (pv 2) pa_nil))) ⟨rfl, rfl, rfl, rfl⟩))
    (pss_one (ps_if (PW.pt (pw_and (pt_cmp (pc_notN (pv 3))) (pw_and1 (PW.pt (pw_or (pt_cmp (pc_isN (pv 4))) (pw_or1 (pt_cmpR op_lt (pe_ix ix_tup (pv 3) pe_int (fun _ _ => rfl)) (pe_ix ix_tup (pv 4) pe_int (fun _ _ => rfl)) (nomark _))))))))
    (pss_one (ps_dput (hu_of hr) (pe_fld (pv 0) rfl) (pe_tup (pac (pv 1) (pac (pv 2) pa_nil))) (pv 3) rfl))
    pss_nil))), ?_⟩
  refine ⟨_, rfl, x, _, dx, _, _, rfl, hx, Tx.cl_Feet, Tx.na_Feet_found, hf, df, rfl, .inr ⟨kvs, .inl hd⟩, _, rfl, _, rfl, by show 2 ≤ sizeLine; decide, fun k1 g1 => ?_⟩
  have u1 := same_new g1 (.tup [.str a, .str b])
  refine ⟨_, DGet.t (k := keyW a b) (u1 _ _ hd) upd_same, ?_⟩
  have r1 := (ret_of (hv a b)).same u1
  generalize (valV kvs (keyW a b)).getD .non = v1 at r1
  have r0 := rv.same u1
  have hd1 := u1 _ _ hd
  have hx1 := u1 _ _ hx
  have hv1 := fun a b => (hv a b).same u1
  have w1 : Same (wo H df) (upd H k1 (.tup [.str a, .str b])) := wo_same.trans u1
  generalize upd H k1 (.tup [.str a, .str b]) = H1 at u1 r1 r0 hd1 hx1 hv1 w1 ⊢
  have S1 := s0.trans u1
  have keep : takeF f a b o = f → Q .non H1 := fun e => q _ S1 w1 (by rw [e]; exact ⟨kvs, hd1, by omega, hv1⟩)
  cases o with
  | none =>
    obtain rfl : v = .non := r0
    exact ⟨_, rfl, _, rfl, itF (by decide) (keep rfl)⟩
  | some p =>
    obtain ⟨r, l, rfl, hr1, hl1⟩ := r0
    refine ⟨_, rfl, _, rfl, itT (by show (!decide (V.ref r = V.non)) = true; simp) ?_⟩
    have fin : ∀ k2, H1 k2 = none → takeF f a b (some p) = Fw.putF f a b p → Q .non (upd (upd H1 k2 (.tup [.str a, .str b])) df (.dT (putK kvs (keyW a b) (.ref r)))) := fun k2 g2 e => by
      have u2 := same_new g2 (.tup [.str a, .str b])
      refine q _ (same_put (S1.trans u2) n0 _) ?_ ?_
      · refine (wo_mono (u1.trans u2)).trans ?_
        rw [← wo_upd (o := .dT (putK kvs (keyW a b) (.ref r)))]
        exact wo_same
      · rw [e]
        exact FdAt.put (u2 _ _ hd1) lk (fun a b => (hv1 a b).same u2) (PAt.same u2 ⟨r, l, rfl, hr1, hl1⟩)
    cases e1 : f a b with
    | none =>
      rw [e1] at r1
      obtain rfl : v1 = .non := r1
      refine ⟨_, rfl, _, rfl, itT (by decide) ?_⟩
      refine ⟨_, rfl, _, rfl, x, _, dx, _, _, rfl, hx1, Tx.cl_Feet, Tx.na_Feet_found, hf, _, rfl, _, rfl, by show 2 ≤ sizeLine; decide, fun k2 g2 => ?_⟩
      refine ⟨df, _, rfl, DPut.t (k := keyW a b) (same_new g2 _ _ _ hd1) upd_same (Nat.lt_of_le_of_lt (show _ ≤ 10000 by omega) (by decide)), fin k2 g2 ?_⟩
      unfold takeF; rw [e1]
    | some y =>
      rw [e1] at r1
      obtain ⟨r', l', rfl, hr2, hl2⟩ := r1
      refine ⟨_, rfl, _, rfl, itF (by show ¬ decide (V.ref r' = V.non) = true; simp) ?_⟩
      refine ⟨_, rfl, r, _, 0, _, rfl, rfl, SqT.of hr1, rfl, _, rfl, r', _, 0, _, rfl, rfl, SqT.of hr2, rfl, _, _, rfl, rfl, _, rfl, ?_⟩
      by_cases c2 : p.1 < y.1
      · refine itT (decide_eq_true (by omega)) ?_
        refine ⟨_, rfl, _, rfl, x, _, dx, _, _, rfl, hx1, Tx.cl_Feet, Tx.na_Feet_found, hf, _, rfl, _, rfl, by show 2 ≤ sizeLine; decide, fun k2 g2 => ?_⟩
        refine ⟨df, _, rfl, DPut.t (k := keyW a b) (same_new g2 _ _ _ hd1) upd_same (Nat.lt_of_le_of_lt (show _ ≤ 10000 by omega) (by decide)), fin k2 g2 ?_⟩
        unfold takeF; rw [e1]; exact if_pos c2
      · refine itF (by rw [decide_eq_false (by omega)]; decide) (keep ?_)
        unfold takeF; rw [e1]; exact if_neg c2
theorem stF_snoc (NS : List Str) (z : Str) : Fw.putF (stF NS) z z (0, [z]) = stF (NS ++ [z]) := by
  funext a b
  unfold Fw.putF stF
  by_cases c : a = z ∧ b = z
  · rw [if_pos c, if_pos ⟨c.1.trans c.2.symm, List.mem_append.mpr (.inr (by rw [c.1]; exact List.mem_singleton.mpr rfl))⟩, c.1]
  · rw [if_neg c]
    by_cases c2 : a = b ∧ a ∈ NS
    · rw [if_pos c2, if_pos ⟨c2.1, List.mem_append.mpr (.inl c2.2)⟩]
    · rw [if_neg c2, if_neg]
      rintro ⟨rfl, m⟩
      rcases List.mem_append.mp m with m | m
      · exact c2 ⟨rfl, m⟩
      · exact c ⟨List.mem_singleton.mp m, List.mem_singleton.mp m⟩
theorem put_ok {H0 H : Hp} {d k : Addr} {f : Fd} {c : Nat} {a b : Str} {v : V} {p : Nat × List Str} (n0 : H0 d = none) (s0 : Same H0 H) (hf : FdAt H d f c) (hc : c ≤ 10000) (hk : H k = some (.tup [.str a, .str b])) (hp : PAt H v p) :
    ∃ H', DPut H d (.ref k) v H' ∧ Same H0 H' ∧ Same (wo H d) H' ∧ FdAt H' d (Fw.putF f a b p) (c + 1) ∧ ∃ o, H' = upd H d o := by
  obtain ⟨kvs, hd, lk, hv⟩ := hf
  refine ⟨_, DPut.t (k := keyW a b) hd hk (Nat.lt_of_le_of_lt (show _ ≤ 10000 by omega) (by decide)), same_put s0 n0 _, ?_, FdAt.put hd lk hv hp, _, rfl⟩
  rw [← wo_upd (o := .dT (putK kvs (keyW a b) v))]
  exact wo_same
def spWalked (t : Adr) : Sp := fun vs H Q _ => ∃ (n : Addr) (NS : List Str) (WS : List Wl), vs = [.ref n] ∧ NetAt t H n NS WS ∧ NS.length ≤ 8 ∧ WS.length ≤ 12 ∧ ∀ d H', Same H H' → H d = none → FdAt H' d (iniF NS WS) 40 → Q (.ref d) H'
theorem ok_walked_at_once (Tx : Tab K mg t) : FnOk P w K mg base CX0 2 t.f_walked_at_once t.d_walked_at_once ["net"] (spWalked t) := by
  refine Tx.F_walked_at_once.ok sc_walked_at_once (fun vs H Q E h => ?_) (fun cdv A outer s H vs Q E hr h => ?_)
  · obtain ⟨n, NS, WS, rfl, _⟩ := h
    rfl
  obtain ⟨n, NS, WS, rfl, hN, n8, w12, q⟩ := h
  obtain ⟨ds, lw, hO⟩ := id hN
  obtain ⟨dx, fs, e1, e2⟩ := hO.ob
  refine ⟨_, (pss_cons (ps_set (i := 1) sc_walked_at_once.nd rfl (Or.inl rfl) pe_dnewT)
    (pss_cons (ps_for PassesOwn.never rfl (pi_list (pe_meth0 (pv 0) Tx.cl_Net Tx.me_Net_stops (ok_Net_stops Tx) (hr.mono (by omega)) Tx.b_Net_stops .nil pass0)) (pg_name (i := 2) sc_walked_at_once.nd rfl (Or.inl rfl))
    (pss_one (ps_dput (hu_of hr) (pv 1) (pe_tup (pac (pv 2) (pac (pv 2) pa_nil))) (pe_tup (pac pe_int (pac (pe_lst (pac (pv 2) pa_nil)) pa_nil))) rfl)))
    (pss_cons (ps_for PassesOwn.never rfl (pi_list (pe_meth0 (pv 0) Tx.cl_Net Tx.me_Net_walks (ok_Net_walks Tx) (hr.mono (by omega)) Tx.b_Net_walks .nil pass0)) (pg_tup rfl (pgs_cons (pg_name (i := 3) sc_walked_at_once.nd rfl (Or.inl rfl)) (pgs_cons (pg_name (i := 4) sc_walked_at_once.nd rfl (Or.inl rfl)) (pgs_cons (pg_name (i := 5) sc_walked_at_once.nd rfl (Or.inl rfl)) pgs_nil))))
    (pss_cons (ps_dput (hu_of hr) (pv 1) (pe_tup (pac (pv 3) (pac (pv 4) pa_nil))) (pe_tup (pac (pv 5) (pac (pe_lst (pac (pv 3) (pac (pv 4) pa_nil))) pa_nil))) rfl)
    (pss_one (ps_dput (hu_of hr) (pv 1) (pe_tup (pac (pv 4) (pac (pv 3) pa_nil))) (pe_tup (pac (pv 5) (pac (pe_lst (pac (pv 4) (pac (pv 3) pa_nil))) pa_nil))) rfl))))
    (pss_one (ps_ret (pv 1)))))), ?_⟩
  intro d nd
  have u0 := same_new nd (.dT [])
  have f0 : FdAt (upd H d (.dT [])) d (stF []) 0 := ⟨[], upd_same, Nat.le_refl _, fun a b => by
    rw [show stF [] a b = none from if_neg (fun z => by cases z.2)]; rfl⟩
  generalize upd H d (.dT []) = HD at u0 f0 ⊢
  refine ⟨_, rfl, n, dx, _, rfl, u0 _ _ e1, e2.n1, n, NS, WS, rfl, hN.same u0, fun l H1 s1 hl0 hl => ?_⟩
  have nld : l ≠ d := fun e => by obtain ⟨kvs, hd, _⟩ := f0; rw [e, hd] at hl0; cases hl0
  refine ⟨l, rfl, ⟨_, SqL.of hl⟩, for_list (xs := NS.map V.str) (fun i σ H' => Same H H' ∧ H' l = some (.lst (NS.map V.str)) ∧ FdAt H' d (stF (NS.take i)) i ∧ ∃ v2 : Option V, σ = [some (.ref n), some (.ref d), v2, none, none, none]) ⟨u0.trans s1, hl, f0.same s1, _, rfl⟩ (fun i σ H' _ ⟨_, h, _⟩ => SqL.of h) ?_ ?_⟩
  · rintro i v σ H2 hv ⟨s2, hl2, f2, v2, rfl⟩
    rw [List.getElem?_map] at hv
    cases ez : NS[i]? with
    | none => rw [ez] at hv; cases hv
    | some z =>
      rw [ez] at hv
      obtain rfl : V.str z = v := Option.some.inj hv
      have hi := (List.getElem?_eq_some_iff.mp ez).1
      refine ⟨_, rfl, by show 1 ≤ sizeLine; decide, fun l1 g1 => ?_⟩
      have t1 := same_new g1 (.lst [.str z])
      refine ⟨by show 2 ≤ sizeLine; decide, fun p1 g2 => ?_⟩
      have t2 := same_new g2 (.tup [.int 0, .ref l1])
      refine ⟨_, rfl, _, rfl, _, rfl, by show 2 ≤ sizeLine; decide, fun k1 g3 => ?_⟩
      have t3 := same_new g3 (.tup [.str z, .str z])
      have T3 := (t1.trans t2).trans t3
      obtain ⟨H', dp, sh, sw, fh, o, rfl⟩ := put_ok (a := z) (b := z) (v := .ref p1) (p := (0, [z])) nd (s2.trans T3) (f2.same T3) (by omega) upd_same ⟨p1, l1, rfl, t3 _ _ upd_same, (t2.trans t3) _ _ upd_same⟩
      refine ⟨d, _, rfl, dp, sh, ?_, ?_, _, rfl⟩
      · rw [upd_ne nld]; exact T3 _ _ hl2
      · rw [stF_snoc] at fh
        rw [List.take_add_one, ez]
        exact fh
  · rintro σ H2 ⟨s2, hl2, f2, v2, rfl⟩
    rw [List.length_map, List.take_length] at f2
    refine ⟨_, rfl, n, dx, _, rfl, s2 _ _ e1, e2.n2, n, NS, WS, rfl, hN.same s2, fun lv vw H3 s3 hv0 hv al => ?_⟩
    have nvd : lv ≠ d := fun e => by obtain ⟨kvs, hd, _⟩ := f2; rw [e, hd] at hv0; cases hv0
    have lw := al.length
    refine ⟨lv, rfl, ⟨_, SqL.of hv⟩, for_list (xs := vw) (fun i σ H' => Same H H' ∧ H' lv = some (.lst vw) ∧ Al (WAt H') vw WS ∧ FdAt H' d ((WS.take i).foldl wkF (stF NS)) (8 + 2 * i) ∧ ∃ v2 v3 v4 v5 : Option V, σ = [some (.ref n), some (.ref d), v2, v3, v4, v5]) ⟨s2.trans s3, hv, al, ?_, _, _, _, _, rfl⟩ (fun i σ H' _ ⟨_, h, _⟩ => SqL.of h) ?_ ?_⟩
    · obtain ⟨kvs, a1, a2, a3⟩ := f2.same s3
      exact ⟨kvs, a1, by omega, a3⟩
    · rintro i v σ H4 hx ⟨s4, hv4, al4, f4, v2, v3, v4, v5, rfl⟩
      obtain ⟨x, ex, px, rfl, hpx⟩ := al4.get hx
      have hi := (List.getElem?_eq_some_iff.mp hx).1
      refine ⟨px, _, rfl, SqT.of hpx, rfl, _, _, rfl, _, _, rfl, _, _, rfl, rfl, ?_⟩
      refine ⟨_, rfl, _, rfl, _, rfl, by show 2 ≤ sizeLine; decide, fun l1 g1 => ?_⟩
      have t1 := same_new g1 (.lst [.str x.o, .str x.t])
      refine ⟨by show 2 ≤ sizeLine; decide, fun p1 g2 => ?_⟩
      have t2 := same_new g2 (.tup [.int (x.m : Nat), .ref l1])
      refine ⟨_, rfl, _, rfl, _, rfl, by show 2 ≤ sizeLine; decide, fun k1 g3 => ?_⟩
      have t3 := same_new g3 (.tup [.str x.o, .str x.t])
      have T3 := (t1.trans t2).trans t3
      have f5 := f4.same T3
      obtain ⟨kv5, hd5, _⟩ := id f5
      obtain ⟨H', dp, sh, sw, fh, o, eH⟩ := put_ok (a := x.o) (b := x.t) (v := .ref p1) (p := (x.m, [x.o, x.t])) nd (s4.trans T3) f5 (by omega) upd_same ⟨p1, l1, rfl, t3 _ _ upd_same, (t2.trans t3) _ _ upd_same⟩
      have hv5 : H' lv = some (.lst vw) := by rw [eH, upd_ne nvd]; exact T3 _ _ hv4
      have al5 : Al (WAt H') vw WS := by rw [eH]; exact (al4.imp fun _ _ => WAt.same T3).imp fun _ _ => WAt.put hd5 (fun ys z => by cases z)
      refine ⟨d, _, rfl, dp, ?_⟩
      clear eH dp
      refine ⟨_, rfl, _, rfl, _, rfl, by show 2 ≤ sizeLine; decide, fun l1 g1 => ?_⟩
      have t1 := same_new g1 (.lst [.str x.t, .str x.o])
      refine ⟨by show 2 ≤ sizeLine; decide, fun p1 g2 => ?_⟩
      have t2 := same_new g2 (.tup [.int (x.m : Nat), .ref l1])
      refine ⟨_, rfl, _, rfl, _, rfl, by show 2 ≤ sizeLine; decide, fun k1 g3 => ?_⟩
      have t3 := same_new g3 (.tup [.str x.t, .str x.o])
      have T3 := (t1.trans t2).trans t3
      have f6 := fh.same T3
      obtain ⟨kv6, hd6, _⟩ := id f6
      obtain ⟨H'', dp, sh2, sw2, fh2, o2, eH⟩ := put_ok (a := x.t) (b := x.o) (v := .ref p1) (p := (x.m, [x.t, x.o])) nd (sh.trans T3) f6 (by omega) upd_same ⟨p1, l1, rfl, t3 _ _ upd_same, (t2.trans t3) _ _ upd_same⟩
      refine ⟨d, _, rfl, dp, sh2, ?_, ?_, ?_, _, _, _, _, rfl⟩
      · rw [eH, upd_ne nvd]; exact T3 _ _ hv5
      · rw [eH]; exact (al5.imp fun _ _ => WAt.same T3).imp fun _ _ => WAt.put hd6 (fun ys z => by cases z)
      · rw [List.take_add_one, ex, List.foldl_append]
        exact fh2
    · rintro σ H4 ⟨s4, hv4, al4, f4, v2, v3, v4, v5, rfl⟩
      rw [lw, List.take_length] at f4
      refine ⟨_, rfl, q d H4 s4 nd ?_⟩
      obtain ⟨kvs, a1, a2, a3⟩ := f4
      exact ⟨kvs, a1, by omega, a3⟩

structure FeetF (fs : List (Str × V)) (dk df : Addr) : Prop where
  fk : fs.lookup ("known" : Str) = some (V.ref dk)
  ff : fs.lookup ("found" : Str) = some (V.ref df)
  n1 : fs.lookup ("take_shorter" : Str) = none
  n2 : fs.lookup ("between" : Str) = none
  n3 : fs.lookup ("minutes" : Str) = none
  n4 : fs.lookup ("way" : Str) = none
def KnR (rows : List (Key × V)) (NS : List Str) : Prop := (∀ z ∈ NS, valV rows (Sum.inr z) = some (.bl true)) ∧ ∀ z, z ∉ NS → valV rows (Sum.inr z) = none
def FeetAt (t : Adr) (H : Hp) (x : Addr) (NS : List Str) (f : Fd) : Prop := ∃ dx fs dk df c rows, H x = some (.ins t.c_Feet dx fs) ∧ FeetF fs dk df ∧ H dk = some (.dK rows) ∧ KnR rows NS ∧ FdAt H df f c
theorem FeetAt.same {H H' : Hp} {x : Addr} {NS : List Str} {f : Fd} (s : Same H H') (h : FeetAt t H x NS f) : FeetAt t H' x NS f :=
  let ⟨dx, fs, dk, df, c, rows, h1, h2, h3, h4, h5⟩ := h; ⟨dx, fs, dk, df, c, rows, s _ _ h1, h2, s _ _ h3, h4, h5.same s⟩
theorem merge_kn : ∀ (NS : List Str) (acc : List (Key × V)), (∀ z ∈ NS, valV (mergeK acc (NS.map fun z => ((Sum.inr z : Key), V.bl true))) (Sum.inr z) = some (.bl true)) ∧ ∀ z, z ∉ NS → valV (mergeK acc (NS.map fun z => ((Sum.inr z : Key), V.bl true))) (Sum.inr z) = valV acc (Sum.inr z)
  | [], acc => ⟨fun z h => (by cases h), fun z _ => rfl⟩
  | y :: NS, acc => by
    have ih := merge_kn NS (putK acc (Sum.inr y) (V.bl true))
    refine ⟨fun z hz => ?_, fun z hz => ?_⟩
    · show valV (mergeK (putK acc (Sum.inr y) (V.bl true)) (NS.map fun z => ((Sum.inr z : Key), V.bl true))) (Sum.inr z) = some (.bl true)
      by_cases m : z ∈ NS
      · exact ih.1 z m
      · rcases List.mem_cons.mp hz with rfl | h
        · rw [ih.2 z m, valV_put, if_pos rfl]
        · exact absurd h m
    · show valV (mergeK (putK acc (Sum.inr y) (V.bl true)) (NS.map fun z => ((Sum.inr z : Key), V.bl true))) (Sum.inr z) = _
      rw [ih.2 z fun h => hz (List.mem_cons_of_mem _ h), valV_put, if_neg fun e => hz (by rw [Sum.inr.inj e]; exact List.mem_cons_self ..)]
theorem ful_mono {E : Str → Str → Nat → Prop} {NS : List Str} {M M' : Str → Prop} {B : Nat} {f : Fd} (h : Fw.Gd E NS M B f) (m : ∀ v, M' v → M v) : Fw.Gd E NS M' B f := ⟨h.snd, fun i hi j hj k w => h.ful i hi j hj k (w.mono m), h.self, h.bd⟩
theorem FdAt.over {H : Hp} {d x C dx : Addr} {fs : List (Str × V)} {o : HO} {f : Fd} {c : Nat} (hx : H x = some (.ins C dx fs)) (h : FdAt H d f c) : FdAt (upd H x o) d f c := by
  obtain ⟨kvs, hd, lk, hv⟩ := h
  refine ⟨kvs, by rw [upd_ne (ne_of hd hx (by intro z; cases z))]; exact hd, lk, fun a b => ?_⟩
  have := hv a b
  cases e : f a b with
  | none => rw [e] at this; exact this
  | some p =>
    rw [e] at this
    obtain ⟨v, ev, r, l, er, h1, h2⟩ := this
    exact ⟨v, ev, r, l, er, by rw [upd_ne (ne_of h1 hx (by intro z; cases z))]; exact h1, by rw [upd_ne (ne_of h2 hx (by intro z; cases z))]; exact h2⟩
theorem take_snoc {NS : List Str} {i : Nat} {z : Str} (e : NS[i]? = some z) {v : Str} (h : v ∈ NS.take (i + 1)) : v ∈ NS.take i ∨ v = z := by
  rw [List.take_add_one, e] at h
  rcases List.mem_append.mp h with h | h
  · exact .inl h
  · exact .inr (List.mem_singleton.mp h)
def spFeet (t : Adr) : Sp := fun vs H Q _ => ∃ (x n : Addr) (NS : List Str) (WS : List Wl) (H0 : Hp), vs = [.ref x, .ref n] ∧ H0 x = none ∧ Same H0 H ∧ (∃ dx, H x = some (.ins t.c_Feet dx [])) ∧ NetAt t H0 n NS WS ∧ NS.length ≤ 8 ∧ WsOk NS WS ∧ ∀ H' f, Same H0 H' → FeetAt t H' x NS f → Fw.Best (EW WS) NS f → (∀ i j p, f i j = some p → p.1 ≤ 15360) → Q .non H'
theorem ok_Feet_init (Tx : Tab K mg t) : FnOk P w K mg base CX0 4 t.f_Feet_init t.d_Feet_init ["self", "net"] (spFeet t) := by
  refine Tx.F_Feet_init.ok sc_Feet_init (fun vs H Q E h => ?_) (fun cdv A outer s H vs Q E hr h => ?_)
  · obtain ⟨x, n, NS, WS, H0, rfl, _⟩ := h
    rfl
  obtain ⟨x, n, NS, WS, H0, rfl, nx, s0, ⟨dx, hx⟩, hN, n8, okW, q⟩ := h
  obtain ⟨ds, lw, hO⟩ := id hN
  obtain ⟨dn, fn, e1, e2⟩ := hO.ob
  refine ⟨_, (pss_cons (ps_set (i := 2) sc_Feet_init.nd rfl (Or.inl rfl) (pe_meth0 (pv 1) Tx.cl_Net Tx.me_Net_stops (ok_Net_stops Tx) (hr.mono (by omega)) Tx.b_Net_stops .nil pass0))
    (pss_cons (ps_fld (pv 0) (pe_callTy (call_dict_pairs rfl) rfl Tx.z_dict b_dict (pac (pe_comp (cl := []) (N := ["name"]) (fr := [none]) rfl (pi_list (pv 2)) rfl (by decide +kernel) rfl (by decide +kernel) trivial trivial rfl (fun _ _ _ _ _ => (pg_name (i := 0) (show List.Nodup (["name"] : List Str) by decide +kernel) rfl (Or.inl rfl))) (fun _ _ _ _ _ => pts_nil) (fun _ _ _ _ _ => (pe_tup (pac (pv 0) (pac pe_bl pa_nil))))) pa_nil)) rfl)
    (pss_cons (ps_fld (pv 0) (pe_call (ok_walked_at_once Tx) (hr.mono (by omega)) rfl Tx.m_walked_at_once Tx.F_walked_at_once.kp Tx.b_walked_at_once .nil pass0 (pac (pv 1) pa_nil)) rfl)
    (pss_one (ps_for PassesOwn.never rfl (pi_list (pv 2)) (pg_name (i := 3) sc_Feet_init.nd rfl (Or.inl rfl))
    (pss_one (ps_for PassesOwn.never rfl (pi_list (pv 2)) (pg_name (i := 4) sc_Feet_init.nd rfl (Or.inl rfl))
    (pss_one (ps_for PassesOwn.never rfl (pi_list (pv 2)) (pg_name (i := 5) sc_Feet_init.nd rfl (Or.inl rfl))
    (pss_one (ps_expr (pe_meth (pv 0) Tx.cl_Feet Tx.me_Feet_take_shorter (ok_Feet_take_shorter Tx) (hr.mono (by omega)) Tx.b_Feet_take_shorter .nil pass0 (pac (pv 4) (pac (pv 5) (pac (pe_call (ok_led_over Tx) (hr.mono (by omega)) rfl Tx.m_led_over Tx.F_led_over.kp Tx.b_led_over .nil pass0 (pac (pe_fld (pv 0) rfl) (pac (pv 4) (pac (pv 3) (pac (pv 5) pa_nil))))) pa_nil))))))))))))))), ?_⟩
  refine ⟨_, rfl, n, dn, _, rfl, s0 _ _ e1, e2.n1, n, NS, WS, rfl, hN.same s0, fun l H1 s1 hl0 hl => ?_⟩
  have hx1 := s1 _ _ hx
  have S1 := s0.trans s1
  refine ⟨_, rfl, l, rfl, ⟨_, SqL.of hl⟩, comp_list (K := K) (a := l) (xs := NS.map V.str) (fun i acc σ H' => Same H1 H' ∧ (∃ v, σ = [v]) ∧ Al (fun (v : V) (kv : Key × V) => ∃ p, v = .ref p ∧ H' p = some (.tup [kV kv.1, kv.2])) acc ((NS.take i).map fun z => (Sum.inr z, .bl true))) ⟨Same.refl H1, ⟨_, rfl⟩, .nil⟩
    (Nat.le_trans (show _ ≤ 8 by rw [List.length_map]; exact n8) (by decide)) (fun i acc σ H' _ ⟨s', _⟩ => SqL.of (s' _ _ hl)) ?_ ?_⟩
  · rintro i v acc σ H2 hi hv ⟨s2, ⟨v0, rfl⟩, al⟩
    rw [List.getElem?_map] at hv
    cases ez : NS[i]? with
    | none => rw [ez] at hv; cases hv
    | some z =>
      rw [ez] at hv
      obtain rfl : V.str z = v := Option.some.inj hv
      dsimp only [gName, tTrue]
      rw [if_pos rfl]
      refine ⟨_, rfl, by show 2 ≤ sizeLine; decide, fun p g => ?_⟩
      have u := same_new g (.tup [.str z, .bl true])
      refine ⟨by rw [List.length_append, List.length_singleton]; omega, s2.trans u, ⟨_, rfl⟩, ?_⟩
      rw [List.take_add_one, ez, List.map_append]
      exact (al.imp fun _ _ ⟨p, e, h⟩ => ⟨p, e, u _ _ h⟩).snoc ⟨p, rfl, upd_same⟩
  rintro acc σ H2 ha ⟨s2, ⟨v0, rfl⟩, al⟩ pl gl
  rw [List.length_map, List.take_length] at al
  have u1 := same_new gl (.lst acc)
  refine ⟨pl, acc, _, rfl, upd_same, al.imp fun _ _ ⟨p, e, h⟩ => ⟨p, e, u1 _ _ h⟩, fun dk gk => ?_⟩
  have u2 := same_new gk (.dK (mergeK [] (NS.map fun z => (Sum.inr z, .bl true))))
  have hdk := @upd_same (upd H2 pl (.lst acc)) dk (.dK (mergeK [] (NS.map fun z => (Sum.inr z, .bl true))))
  have hrow : KnR (mergeK [] (NS.map fun z => ((Sum.inr z : Key), V.bl true))) NS := ⟨(merge_kn NS []).1, fun z n => ((merge_kn NS []).2 z n).trans rfl⟩
  generalize mergeK [] (NS.map fun z => ((Sum.inr z : Key), V.bl true)) = rows at u2 hdk hrow ⊢
  have T2 := (s2.trans u1).trans u2
  have hx2 := T2 _ _ hx1
  have hl2 := T2 _ _ hl
  have S2 := S1.trans T2
  generalize upd (upd H2 pl (.lst acc)) dk (.dK rows) = H3 at hdk T2 hx2 hl2 S2 ⊢
  refine ⟨_, rfl, x, _, dx, _, rfl, hx2, Tx.cl_Feet, Tx.na_Feet_known, by decide, ?_⟩
  have S3 := same_put S2 nx (.ins t.c_Feet dx (putF "known" (.ref dk) []))
  have nlx : l ≠ x := ne_of hl2 hx2 (by intro z; cases z)
  have nkx : dk ≠ x := ne_of hdk hx2 (by intro z; cases z)
  have y3 : upd H3 x (.ins t.c_Feet dx (putF "known" (.ref dk) [])) x = some (.ins t.c_Feet dx (putF "known" (.ref dk) [])) := upd_same
  have hl3 : upd H3 x (.ins t.c_Feet dx (putF "known" (.ref dk) [])) l = some (.lst (NS.map V.str)) := by rw [upd_ne nlx]; exact hl2
  have hk3 : upd H3 x (.ins t.c_Feet dx (putF "known" (.ref dk) [])) dk = some (.dK rows) := by rw [upd_ne nkx]; exact hdk
  generalize upd H3 x (.ins t.c_Feet dx (putF "known" (.ref dk) [])) = H4 at S3 y3 hl3 hk3 ⊢
  refine ⟨_, rfl, n, NS, WS, rfl, hN.same S3, n8, okW.len, fun df H5 s5 nd5 f5 => ?_⟩
  have y5 := s5 _ _ y3
  have hl5 := s5 _ _ hl3
  have hk5 := s5 _ _ hk3
  refine ⟨_, rfl, x, _, dx, _, rfl, y5, Tx.cl_Feet, Tx.na_Feet_found, Nat.lt_of_le_of_lt (fewS (Nat.zero_le 0)) (by decide), ?_⟩
  have n0 : H0 df = none := S3.free nd5
  have S5 := S3.trans s5
  have ndl : l ≠ df := ne_of_none hl3 nd5
  have ndx : x ≠ df := ne_of_none y3 nd5
  have ndk : dk ≠ df := ne_of_none hk3 nd5
  have S6 := same_put S5 nx (.ins t.c_Feet dx (putF "found" (.ref df) (putF "known" (.ref dk) [])))
  have f6 := FdAt.over (o := .ins t.c_Feet dx (putF "found" (.ref df) (putF "known" (.ref dk) []))) y5 f5
  have hl6 : upd H5 x (.ins t.c_Feet dx (putF "found" (.ref df) (putF "known" (.ref dk) []))) l = some (.lst (NS.map V.str)) := by rw [upd_ne nlx]; exact hl5
  have hk6 : upd H5 x (.ins t.c_Feet dx (putF "found" (.ref df) (putF "known" (.ref dk) []))) dk = some (.dK rows) := by rw [upd_ne nkx]; exact hk5
  have y6 : upd H5 x (.ins t.c_Feet dx (putF "found" (.ref df) (putF "known" (.ref dk) []))) x = some (.ins t.c_Feet dx (putF "found" (.ref df) (putF "known" (.ref dk) []))) := upd_same
  have hF : FeetF (putF "found" (.ref df) (putF "known" (.ref dk) [])) dk df := ⟨rfl, rfl, rfl, rfl, rfl, rfl⟩
  generalize putF "found" (.ref df) (putF "known" (.ref dk) []) = fs at hF S6 f6 hl6 hk6 y6 ⊢
  generalize upd H5 x (.ins t.c_Feet dx fs) = H6 at S6 f6 hl6 hk6 y6 ⊢
  have hxA : ∀ {H' : Hp}, Same (wo H6 df) H' → H' x = some (.ins t.c_Feet dx fs) := fun s => s _ _ (wo_at y6 ndx)
  have hlA : ∀ {H' : Hp}, Same (wo H6 df) H' → H' l = some (.lst (NS.map V.str)) := fun s => s _ _ (wo_at hl6 ndl)
  have ini : Fw.Gd (EW WS) NS (fun _ => False) 60 (iniF NS WS) := by
    have : ∀ i, i ≤ WS.length → Fw.Ini NS WS (WS.take i) ((WS.take i).foldl wkF (stF NS)) := fun i => by
      induction i with
      | zero => intro _; exact Fw.Ini.nil WS
      | succ i ih =>
        intro hi
        have hx : WS[i]? = some WS[i] := List.getElem?_eq_getElem (by omega)
        have hm : WS[i] ∈ WS := List.getElem_mem _
        rw [List.take_add_one, hx, List.foldl_append]
        exact (ih (by omega)).step hm (okW.ne _ hm) (okW.m60 _ hm) (okW.ds i _ hx)
    have := this WS.length (Nat.le_refl _)
    rw [List.take_length] at this
    exact this.gd
  have pw : ∀ i, i ≤ 8 → 60 * 2 ^ i ≤ 15360 := fun i hi => Nat.mul_le_mul_left 60 (Nat.pow_le_pow_right (by decide) hi : 2 ^ i ≤ 2 ^ 8)
  refine ⟨_, rfl, l, rfl, ⟨_, SqL.of hl6⟩, for_list (xs := NS.map V.str) (fun i σ H' => Same H0 H' ∧ Same (wo H6 df) H' ∧ (∃ f c, FdAt H' df f c ∧ c ≤ 40 + 64 * i ∧ Fw.Gd (EW WS) NS (fun v => v ∈ NS.take i) (60 * 2 ^ i) f) ∧ ∃ v3 v4 v5 : Option V, σ = [some (.ref x), some (.ref n), some (.ref l), v3, v4, v5])
    ⟨S6, wo_same, ⟨_, 40, f6, Nat.le_refl _, ful_mono ini fun v h => by cases h⟩, _, _, _, rfl⟩ (fun i σ H' _ ⟨_, s', _⟩ => SqL.of (hlA s')) ?_ ?_⟩
  · rintro i v σ H7 hv ⟨s7, w7, ⟨f, c, hf, hc, gd⟩, v3, v4, v5, rfl⟩
    rw [List.getElem?_map] at hv
    cases ek : NS[i]? with
    | none => rw [ek] at hv; cases hv
    | some k =>
      rw [ek] at hv
      obtain rfl : V.str k = v := Option.some.inj hv
      have hi := (List.getElem?_eq_some_iff.mp ek).1
      have hk := List.mem_of_getElem? ek
      have B8 := pw i (by omega)
      generalize hB : 60 * 2 ^ i = B at gd B8
      refine ⟨_, rfl, l, rfl, ⟨_, SqL.of (hlA w7)⟩, for_list (xs := NS.map V.str) (fun j σ H' => Same H0 H' ∧ Same (wo H6 df) H' ∧ (∃ g c, FdAt H' df g c ∧ c ≤ 40 + 64 * i + 8 * j ∧ Fw.Mid (EW WS) NS k B f g ∧ ∀ a ∈ NS.take j, ∀ b ∈ NS, Fw.Tk k f g a b) ∧ ∃ v4 v5 : Option V, σ = [some (.ref x), some (.ref n), some (.ref l), some (.str k), v4, v5])
        ⟨s7, w7, ⟨f, c, hf, by omega, gd.mid k, fun a h => by cases h⟩, _, _, rfl⟩ (fun i σ H' _ ⟨_, s', _⟩ => SqL.of (hlA s')) ?_ ?_⟩
      · rintro j v σ H8 hv ⟨s8, w8, ⟨g, c, hg, hc, md, tk⟩, v4, v5, rfl⟩
        rw [List.getElem?_map] at hv
        cases ea : NS[j]? with
        | none => rw [ea] at hv; cases hv
        | some a =>
          rw [ea] at hv
          obtain rfl : V.str a = v := Option.some.inj hv
          have hj := (List.getElem?_eq_some_iff.mp ea).1
          refine ⟨_, rfl, l, rfl, ⟨_, SqL.of (hlA w8)⟩, for_list (xs := NS.map V.str) (fun m σ H' => Same H0 H' ∧ Same (wo H6 df) H' ∧ (∃ g c, FdAt H' df g c ∧ c ≤ 40 + 64 * i + 8 * j + m ∧ Fw.Mid (EW WS) NS k B f g ∧ (∀ a ∈ NS.take j, ∀ b ∈ NS, Fw.Tk k f g a b) ∧ ∀ b ∈ NS.take m, Fw.Tk k f g a b) ∧ ∃ v5 : Option V, σ = [some (.ref x), some (.ref n), some (.ref l), some (.str k), some (.str a), v5])
            ⟨s8, w8, ⟨g, c, hg, by omega, md, tk, fun b h => by cases h⟩, _, rfl⟩ (fun i σ H' _ ⟨_, s', _⟩ => SqL.of (hlA s')) ?_ ?_⟩
          · rintro m v σ H9 hv ⟨s9, w9, ⟨g, c, hg, hc, md, tk, tb⟩, v5, rfl⟩
            rw [List.getElem?_map] at hv
            cases eb : NS[m]? with
            | none => rw [eb] at hv; cases hv
            | some b =>
              rw [eb] at hv
              obtain rfl : V.str b = v := Option.some.inj hv
              have hm := (List.getElem?_eq_some_iff.mp eb).1
              have lenB : ∀ u v p, g u v = some p → p.2.length ≤ 1000000 := fun u v p e => by
                have h1 := (md.snd u v p e).len okW.one
                have h2 := md.b2 u v p e
                omega
              refine ⟨_, rfl, x, dx, _, rfl, hxA w9, hF.n1, _, rfl, _, rfl, _, rfl, x, _, dx, _, _, rfl, hxA w9, Tx.cl_Feet, Tx.na_Feet_found, hF.ff, _, rfl, _, rfl, _, rfl, df, g, c, a, k, b, rfl, hg, lenB a k, lenB k b, fun v H10 s10 rv => ?_⟩
              refine ⟨x, dx, df, fs, g, c, a, b, v, leadF g a k b, H0, rfl, s10 _ _ (hxA w9), hF.ff, hg.same s10, by omega, rv, n0, s9.trans s10, fun H11 s11 w11 fh => ?_⟩
              have dn := Fw.takeF_dn g a b (leadF g a k b)
              refine ⟨s11, ?_, ⟨_, _, fh, by omega, md.step hk a b, fun a' ha' b' hb' => (tk a' ha' b' hb').dn dn, fun b' hb' => ?_⟩, _, rfl⟩
              · refine Same.trans ?_ w11
                exact fun y o e => by
                  obtain ⟨ne, _⟩ := wo_of e
                  exact wo_at ((w9.trans s10) y o e) ne
              · rcases take_snoc eb hb' with h | rfl
                · exact (tb b' h).dn dn
                · exact Fw.Tk.new md.dn a b'
          · rintro σ H9 ⟨s9, w9, ⟨g, c, hg, hc, md, tk, tb⟩, v5, rfl⟩
            rw [List.length_map] at hc tb
            rw [List.take_length] at tb
            refine ⟨s9, w9, ⟨g, c, hg, by omega, md, fun a' ha' b hb => ?_⟩, _, _, rfl⟩
            rcases take_snoc ea ha' with h | rfl
            · exact tk a' h b hb
            · exact tb b hb
      · rintro σ H8 ⟨s8, w8, ⟨g, c, hg, hc, md, tk⟩, v4, v5, rfl⟩
        rw [List.length_map] at hc tk
        rw [List.take_length] at tk
        refine ⟨s8, w8, ⟨g, c, hg, by omega, ?_⟩, _, _, _, rfl⟩
        rw [show 60 * 2 ^ (i + 1) = 2 * B by rw [← hB, Nat.pow_succ]; omega]
        exact ful_mono (md.gd gd hk tk) fun v h => take_snoc ek h
  · rintro σ H7 ⟨s7, w7, ⟨f, c, hf, hc, gd⟩, v3, v4, v5, rfl⟩
    rw [List.length_map, List.take_length] at gd
    exact q H7 f s7 ⟨dx, fs, dk, df, c, rows, hxA w7, hF, w7 _ _ (wo_at hk6 ndk), hrow, hf⟩ (gd.best fun z hz => hz) fun i j p e => Nat.le_trans (gd.bd i j p e) (pw NS.length n8)

def spBetween (t : Adr) : Sp := fun vs H Q _ => ∃ (x : Addr) (NS : List Str) (f : Fd) (a b : Str), vs = [.ref x, .str a, .str b] ∧ FeetAt t H x NS f ∧ a ∈ NS ∧ b ∈ NS ∧ ∀ v H', Same H H' → retV H' v (f a b) → Q v H'
theorem ok_Feet_between (Tx : Tab K mg t) : FnOk P w K mg base CX0 2 t.f_Feet_between t.d_Feet_between ["self", "one", "other"] (spBetween t) := by
  refine Tx.F_Feet_between.ok sc_Feet_between (fun vs H Q E h => ?_) (fun cdv A outer s H vs Q E hr h => ?_)
  · obtain ⟨x, NS, f, a, b, rfl, _⟩ := h
    rfl
  obtain ⟨x, NS, f, a, b, rfl, ⟨dx, fs, dk, df, c, rows, hx, hF, hk, hrow, kvs, hd, lk, hv⟩, ha, hb, q⟩ := h
  refine ⟨_, (pss_cons (ps_for PassesOwn.never rfl (pi_tup (pe_tup (pac (pv 1) (pac (pv 2) pa_nil)))) (pg_name (i := 3) sc_Feet_between.nd rfl (Or.inl rfl))
    (pss_one (ps_if (pt_not (pt_val (pe_call (ok_is_known Tx) (hr.mono (by omega)) rfl Tx.m_is_known Tx.F_is_known.kp Tx.b_is_known .nil pass0 (pac (pv 3) (pac (pe_fld (pv 0) rfl) pa_nil)))))
    (pss_one ps_never)
    pss_nil)))
    (pss_one (ps_ret (pe_dget1 (hu_of hr) (pe_fld (pv 0) rfl) (pe_tup (pac (pv 1) (pac (pv 2) pa_nil))) ⟨rfl, rfl, rfl, rfl⟩)))), ?_⟩
  refine ⟨_, rfl, _, rfl, by show 2 ≤ sizeLine; decide, fun p g => ?_⟩
  have u := same_new g (.tup [.str a, .str b])
  have hp := @upd_same H p (.tup [.str a, .str b])
  generalize upd H p (.tup [.str a, .str b]) = H1 at u hp ⊢
  refine ⟨p, rfl, ⟨_, SqT.of hp⟩, for_tup (xs := [.str a, .str b]) (fun i σ H' => H' = H1 ∧ ∃ v3 : Option V, σ = [some (.ref x), some (.str a), some (.str b), v3]) ⟨rfl, _, rfl⟩ (fun i σ H' _ ⟨e, _⟩ => by rw [e]; exact SqT.of hp) ?_ ?_⟩
  · rintro i v σ H2 hi ⟨rfl, v3, rfl⟩
    have : ∃ z, v = .str z ∧ z ∈ NS := by
      match i, hi with
      | 0, hi => cases hi; exact ⟨a, rfl, ha⟩
      | 1, hi => cases hi; exact ⟨b, rfl, hb⟩
      | m + 2, hi => cases hi
    obtain ⟨z, rfl, hz⟩ := this
    refine ⟨_, rfl, _, rfl, x, _, dx, _, _, rfl, u _ _ hx, Tx.cl_Feet, Tx.na_Feet_known, hF.fk, z, dk, rows, rfl, u _ _ hk, _, rfl, itF ?_ ⟨rfl, _, rfl⟩⟩
    rw [hrow.1 z hz]; decide
  · rintro σ H2 ⟨rfl, v3, rfl⟩
    refine ⟨_, rfl, x, _, dx, _, _, rfl, u _ _ hx, Tx.cl_Feet, Tx.na_Feet_found, hF.ff, df, rfl, .inr ⟨kvs, .inl (u _ _ hd)⟩, _, rfl, _, rfl, by show 2 ≤ sizeLine; decide, fun k1 g1 => ?_⟩
    have u1 := same_new g1 (.tup [.str a, .str b])
    exact ⟨_, DGet.t (k := keyW a b) ((u.trans u1) _ _ hd) upd_same, q _ _ (u.trans u1) ((ret_of (hv a b)).same (u.trans u1))⟩
def minV (o : Option (Nat × List Str)) : V := match o with
  | none => .non
  | some p => .int (p.1 : Nat)
def spMinutes (t : Adr) : Sp := fun vs H Q _ => ∃ (x : Addr) (NS : List Str) (f : Fd) (a b : Str), vs = [.ref x, .str a, .str b] ∧ FeetAt t H x NS f ∧ a ∈ NS ∧ b ∈ NS ∧ ∀ H', Same H H' → Q (minV (f a b)) H'
theorem ok_Feet_minutes (Tx : Tab K mg t) : FnOk P w K mg base CX0 3 t.f_Feet_minutes t.d_Feet_minutes ["self", "one", "other"] (spMinutes t) := by
  refine Tx.F_Feet_minutes.ok sc_Feet_minutes (fun vs H Q E h => ?_) (fun cdv A outer s H vs Q E hr h => ?_)
  · obtain ⟨x, NS, f, a, b, rfl, _⟩ := h
    rfl
  obtain ⟨x, NS, f, a, b, rfl, hA, ha, hb, q⟩ := h
  obtain ⟨dx, fs, dk, df, c, rows, hx, hF, _⟩ := id hA
  refine ⟨_, (pss_cons (ps_set (i := 3) sc_Feet_minutes.nd rfl (Or.inl rfl) (pe_meth (pv 0) Tx.cl_Feet Tx.me_Feet_between (ok_Feet_between Tx) (hr.mono (by omega)) Tx.b_Feet_between .nil pass0 (pac (pv 1) (pac (pv 2) pa_nil))))
    (pss_one (ps_ret (pe_ifExp (pt_cmp (pc_isN (pv 3))) pe_non (pe_ix ix_tup (pv 3) pe_int (fun _ _ => rfl)))))), ?_⟩
  refine ⟨_, rfl, x, dx, _, rfl, hx, hF.n2, _, rfl, _, rfl, x, NS, f, a, b, rfl, hA, ha, hb, fun v H1 s1 rv => ?_⟩
  have q1 := q H1 s1
  cases e : f a b with
  | none =>
    rw [e] at rv q1
    obtain rfl : v = .non := rv
    exact ⟨_, rfl, _, rfl, itT (by decide) q1⟩
  | some p =>
    rw [e] at rv q1
    obtain ⟨r, l, rfl, h1, h2⟩ := rv
    exact ⟨_, rfl, _, rfl, itF (by show ¬ decide (V.ref r = V.non) = true; simp) ⟨_, rfl, r, _, 0, _, rfl, rfl, SqT.of h1, rfl, q1⟩⟩
def spWay (t : Adr) : Sp := fun vs H Q _ => ∃ (x : Addr) (NS : List Str) (f : Fd) (a b : Str), vs = [.ref x, .str a, .str b] ∧ FeetAt t H x NS f ∧ a ∈ NS ∧ b ∈ NS ∧ (f a b = none → ∀ H', Same H H' → Q .non H') ∧ ∀ p, f a b = some p → ∀ l H', Same H H' → H l = none → H' l = some (.lst (p.2.map V.str)) → Q (.ref l) H'
theorem ok_Feet_way (Tx : Tab K mg t) : FnOk P w K mg base CX0 3 t.f_Feet_way t.d_Feet_way ["self", "one", "other"] (spWay t) := by
  refine Tx.F_Feet_way.ok sc_Feet_way (fun vs H Q E h => ?_) (fun cdv A outer s H vs Q E hr h => ?_)
  · obtain ⟨x, NS, f, a, b, rfl, _⟩ := h
    rfl
  obtain ⟨x, NS, f, a, b, rfl, hA, ha, hb, q0, q⟩ := h
  obtain ⟨dx, fs, dk, df, c, rows, hx, hF, _⟩ := id hA
  refine ⟨_, (pss_cons (ps_set (i := 3) sc_Feet_way.nd rfl (Or.inl rfl) (pe_meth (pv 0) Tx.cl_Feet Tx.me_Feet_between (ok_Feet_between Tx) (hr.mono (by omega)) Tx.b_Feet_between .nil pass0 (pac (pv 1) (pac (pv 2) pa_nil))))
    (pss_one (ps_ret (pe_ifExp (pt_cmp (pc_isN (pv 3))) pe_non (pe_callTy call_list_of rfl Tx.z_list b_list (pac (pe_ix ix_tup (pv 3) pe_int (fun _ _ => rfl)) pa_nil)))))), ?_⟩
  refine ⟨_, rfl, x, dx, _, rfl, hx, hF.n2, _, rfl, _, rfl, x, NS, f, a, b, rfl, hA, ha, hb, fun v H1 s1 rv => ?_⟩
  cases e : f a b with
  | none =>
    rw [e] at rv
    obtain rfl : v = .non := rv
    exact ⟨_, rfl, _, rfl, itT (by decide) (q0 e H1 s1)⟩
  | some p =>
    rw [e] at rv
    obtain ⟨r, l, rfl, h1, h2⟩ := rv
    exact ⟨_, rfl, _, rfl, itF (by show ¬ decide (V.ref r = V.non) = true; simp) ⟨_, rfl, r, _, 1, _, rfl, rfl, SqT.of h1, rfl, l, _, rfl, .inl (SqL.of h2), fun l' g' => q p e l' _ (s1.trans (same_new g' _)) (s1.free g') upd_same⟩⟩

structure Iw where
  o : Nat
  t : Nat
  m : Nat
def IAt (H : Hp) (v : V) (x : Iw) : Prop := ∃ p, v = .ref p ∧ H p = some (.tup [.int (x.o : Nat), .int (x.t : Nat), .int (x.m : Nat)])
theorem IAt.same {H H' : Hp} {v : V} {x : Iw} (s : Same H H') (h : IAt H v x) : IAt H' v x := let ⟨p, e, h⟩ := h; ⟨p, e, s _ _ h⟩
theorem IAt.put {H : Hp} {d : Addr} {o u : HO} {v : V} {x : Iw} (hd : H d = some u) (nt : ∀ ys, u ≠ .tup ys) (h : IAt H v x) : IAt (upd H d o) v x := let ⟨p, e, hp⟩ := h; ⟨p, e, upd_tup hd nt hp⟩
def OAt (H : Hp) (v : V) (x : Iw) : Prop := ∃ p, v = .ref p ∧ H p = some (.tup [.int (x.o : Nat), .int (x.t : Nat)])
theorem OAt.same {H H' : Hp} {v : V} {x : Iw} (s : Same H H') (h : OAt H v x) : OAt H' v x := let ⟨p, e, h⟩ := h; ⟨p, e, s _ _ h⟩
theorem OAt.put {H : Hp} {d : Addr} {o u : HO} {v : V} {x : Iw} (hd : H d = some u) (nt : ∀ ys, u ≠ .tup ys) (h : OAt H v x) : OAt (upd H d o) v x := let ⟨p, e, hp⟩ := h; ⟨p, e, upd_tup hd nt hp⟩
def ihas (IW : List Iw) (a b : Nat) : Bool := IW.any fun x => (x.o == a && x.t == b) || (x.o == b && x.t == a)
structure IOk (many : Nat) (IW : List Iw) : Prop where
  o : ∀ x ∈ IW, x.o < many
  t : ∀ x ∈ IW, x.t < many
  ne : ∀ x ∈ IW, x.o ≠ x.t
  m1 : ∀ x ∈ IW, 1 ≤ x.m
  m60 : ∀ x ∈ IW, x.m ≤ 60
  ds : ∀ (i : Nat) (x : Iw), IW[i]? = some x → ihas (IW.take i) x.o x.t = false
theorem IOk.nil {many : Nat} : IOk many [] := ⟨fun x h => (by cases h), fun x h => (by cases h), fun x h => (by cases h), fun x h => (by cases h), fun x h => (by cases h), fun i x h => (by cases h)⟩
theorem IOk.snoc {many : Nat} {IW : List Iw} {x : Iw} (h : IOk many IW) (h1 : x.o < many) (h2 : x.t < many) (h3 : x.o ≠ x.t) (h4 : 1 ≤ x.m) (h5 : x.m ≤ 60) (h6 : ihas IW x.o x.t = false) : IOk many (IW ++ [x]) := by
  have all : ∀ {p : Iw → Prop}, (∀ y ∈ IW, p y) → p x → ∀ y ∈ IW ++ [x], p y := fun a b y hy => by
    rcases List.mem_append.mp hy with hy | hy
    · exact a y hy
    · rw [List.mem_singleton] at hy; subst hy; exact b
  refine ⟨all h.o h1, all h.t h2, all h.ne h3, all h.m1 h4, all h.m60 h5, fun i y e => ?_⟩
  rw [List.getElem?_append] at e
  split at e
  · rename_i hi
    rw [List.take_append_of_le_length (by omega)]
    exact h.ds i y e
  · rename_i hi
    have : i = IW.length := by
      have := (List.getElem?_eq_some_iff.mp e).1
      rw [List.length_singleton] at this
      omega
    subst this
    rw [Nat.sub_self] at e
    cases e
    rw [List.take_left']
    · exact h6
    · rfl
theorem odv {K : W.Frag} {H : Hp} {vs : List V} {IW : List Iw} (h : Al (OAt H) vs IW) : DVs K H vs (IW.map fun x => .tuple [.int (x.o : Nat), .int (x.t : Nat)]) := by
  induction h with
  | nil => exact .nil
  | cons a _ ih =>
    obtain ⟨p, rfl, hp⟩ := a
    exact .cons (.tup (SqT.of hp) (.cons (.int _) (.cons (.int _) .nil))) ih
theorem seen_any (IW : List Iw) (a b : Nat) : ((IW.map fun x => PyData.tuple [.int (x.o : Nat), .int (x.t : Nat)]).any fun d => PyData.eqv d (.tuple [.int (a : Nat), .int (b : Nat)])) = IW.any fun x => x.o == a && x.t == b := by
  rw [List.any_map]
  congr 1
  funext x
  have cst : ∀ m n : Nat, (((m : Nat) : Int) == ((n : Nat) : Int)) = (m == n) := fun m n => by
    by_cases e : m = n
    · subst e; simp
    · rw [beq_eq_false_iff_ne.mpr e, beq_eq_false_iff_ne.mpr (by omega)]
  simp [PyData.eqv, PyData.eqvAll, cst]
theorem at_pos {d m : Nat} (h : 2 ≤ m) : ∃ o t : Nat, ((d : Nat) : Int) % ((m : Nat) : Int) = ((o : Nat) : Int) ∧ (((o : Nat) : Int) + 1 + ((d : Nat) : Int) / 8 % (((m : Nat) : Int) - 1)) % ((m : Nat) : Int) = ((t : Nat) : Int) ∧ o < m ∧ t < m ∧ o ≠ t := by
  refine ⟨d % m, (d % m + 1 + d / 8 % (m - 1)) % m, (Int.natCast_emod d m).symm, ?_, Nat.mod_lt _ (by omega), Nat.mod_lt _ (by omega), ?_⟩
  · rw [show ((m : Nat) : Int) - 1 = ((m - 1 : Nat) : Int) by omega, show ((d : Nat) : Int) / 8 = ((d / 8 : Nat) : Int) by omega]
    rw [← Int.natCast_emod, show ((d % m : Nat) : Int) + 1 + ((d / 8 % (m - 1) : Nat) : Int) = ((d % m + 1 + d / 8 % (m - 1) : Nat) : Int) by omega, ← Int.natCast_emod]
  · have h1 : d % m < m := Nat.mod_lt _ (by omega)
    have h2 : d / 8 % (m - 1) < m - 1 := Nat.mod_lt _ (by omega)
    generalize d % m = o at h1
    generalize d / 8 % (m - 1) = r at h2
    rcases Nat.lt_or_ge (o + 1 + r) m with h3 | h3
    · rw [Nat.mod_eq_of_lt h3]; omega
    · rw [Nat.mod_eq_sub_mod h3, Nat.mod_eq_of_lt (by omega)]; omega
def spWalksL (K : W.Frag) : Sp := fun vs H Q _ => ∃ (a : Addr) (ns : List Int) (k many most : Nat), vs = [.ref a, .int (k : Nat), .int (many : Nat), .int (most : Nat)] ∧ SqL K H a (ns.map V.int) ∧ k ≤ 90000 ∧ 1 ≤ many ∧ many ≤ 8 ∧ most ≤ 12 ∧
  ∀ (IW : List Iw) vs l H', Same H H' → H l = none → H' l = some (.lst vs) → Al (IAt H') vs IW → IOk many IW → IW.length ≤ 12 → Q (.ref l) H'
theorem ok_law_walks (Tx : Tab K mg t) : FnOk P w K mg base CX0 2 t.f_law_walks t.d_law_walks ["_law_script", "_law_k", "_law_many", "_law_most"] (spWalksL K) := by
  refine Tx.F_law_walks.ok sc_law_walks (fun vs H Q E h => ?_) (fun cdv A outer s H vs Q E hr h => ?_)
  · obtain ⟨a, ns, k, many, most, rfl, _⟩ := h
    rfl
  obtain ⟨a, ns, k, many, most, rfl, hS, k9, m1, m8, mo, q⟩ := h
  refine ⟨_, (pss_cons (ps_set (i := 4) sc_law_walks.nd rfl (Or.inl rfl) (pe_lst pa_nil))
    (pss_cons (ps_set (i := 5) sc_law_walks.nd rfl (Or.inl rfl) (pe_lst pa_nil))
    (pss_cons (ps_for PassesOwn.never rfl (pi_range1 rfl Tx.z_range (pac (pe_op op_mul (pv 3) (pe_callTy call_int_bl rfl Tx.z_int b_int (pac (pe_cmpR op_gt (pv 2) pe_int (nomark _)) pa_nil))) pa_nil)) (pg_name (i := 6) sc_law_walks.nd rfl (Or.inl rfl))
    (pss_cons (ps_set (i := 7) sc_law_walks.nd rfl (Or.inl rfl) (pe_call (ok_law_draw Tx) (hr.mono (by omega)) rfl Tx.m_law_draw Tx.F_law_draw.kp Tx.b_law_draw .nil pass0 (pac (pv 0) (pac (pe_op op_add (pv 1) (pv 6)) pa_nil))))
    (pss_cons (ps_set (i := 8) sc_law_walks.nd rfl (Or.inl rfl) (pe_op op_mod (pv 7) (pv 2)))
    (pss_cons (ps_set (i := 9) sc_law_walks.nd rfl (Or.inl rfl) (pe_op op_mod (pe_op op_add (pe_op op_add (pv 8) pe_int) (pe_op op_mod (pe_op op_fdiv (pv 7) pe_int) (pe_op op_sub (pv 2) pe_int))) (pv 2)))
    (pss_one (ps_if (PW.pt (pw_and (pt_cmpR (op_notInD hr.units) (pe_tup (pac (pv 8) (pac (pv 9) pa_nil))) (pv 5) rfl) (pw_and1 (pt_cmpR (op_notInD hr.units) (pe_tup (pac (pv 9) (pac (pv 8) pa_nil))) (pv 5) rfl))))
    (pss_cons (ps_expr (pe_bm PySem.F.plainAttrs_list PySem.F.slot_list_append PySem.F.type_list_append mt_append (pv 5) (pac (pe_tup (pac (pv 8) (pac (pv 9) pa_nil))) pa_nil)))
    (pss_one (ps_expr (pe_bm PySem.F.plainAttrs_list PySem.F.slot_list_append PySem.F.type_list_append mt_append (pv 4) (pac (pe_tup (pac (pv 8) (pac (pv 9) (pac (pe_op op_add pe_int (pe_op op_mod (pe_op op_fdiv (pv 7) pe_int) (pe_ix ix_list (pe_lst (pac pe_int (pac pe_int (pac pe_int pa_nil)))) (pe_op op_mod (pe_op op_fdiv (pv 7) pe_int) pe_int) (fun _ _ => rfl)))) pa_nil)))) pa_nil)))))
    pss_nil))))))
    (pss_one (ps_ret (pv 4)))))), ?_⟩
  refine ⟨by show 0 ≤ sizeLine; decide, fun lf g1 => ?_⟩
  have u1 := same_new g1 (.lst [])
  refine ⟨by show 0 ≤ sizeLine; decide, fun ls g2 => ?_⟩
  have u2 := same_new g2 (.lst [])
  have nls : H ls = none := u1.free g2
  have ne : lf ≠ ls := ne_of_none upd_same g2
  have hf0 := u2 lf _ upd_same
  have hs0 := @upd_same (upd H lf (.lst [])) ls (.lst [])
  have U := u1.trans u2
  generalize upd (upd H lf (.lst [])) ls (.lst []) = H2 at U hf0 hs0 ⊢
  refine ⟨_, rfl, _, rfl, _, _, rfl, rfl, _, rfl, _, _, rfl, rfl, .inl ⟨by omega, by omega⟩, ?_⟩
  obtain ⟨mo', emo, hmo, hm2⟩ : ∃ mo' : Nat, ((most : Nat) : Int) * (if decide ((many : Int) > 1) = true then (1 : Int) else 0) = ((mo' : Nat) : Int) ∧ mo' ≤ most ∧ (0 < mo' → 2 ≤ many) := by
    by_cases c : 2 ≤ many
    · exact ⟨most, by rw [if_pos (decide_eq_true (by omega)), Int.mul_one], Nat.le_refl _, fun _ => c⟩
    · exact ⟨0, by rw [if_neg (by rw [decide_eq_true_eq]; omega), Int.mul_zero]; rfl, by omega, fun h => absurd h (by omega)⟩
  refine ⟨((mo' : Nat) : Int), (by show [V.int (((most : Nat) : Int) * (if decide ((many : Int) > 1) = true then (1 : Int) else 0))] = _; rw [emo]), by omega, by omega, for_range (n := ((mo' : Nat) : Int).toNat) (fun i σ H' => Same H H' ∧ (∃ (IW : List Iw) (vf vs : List V), H' lf = some (.lst vf) ∧ H' ls = some (.lst vs) ∧ Al (IAt H') vf IW ∧ Al (OAt H') vs IW ∧ IOk many IW ∧ IW.length ≤ i) ∧ ∃ v6 v7 v8 v9 : Option V, σ = [some (.ref a), some (.int (k : Nat)), some (.int (many : Nat)), some (.int (most : Nat)), some (.ref lf), some (.ref ls), v6, v7, v8, v9])
    ⟨U, ⟨[], [], [], hf0, hs0, .nil, .nil, IOk.nil, Nat.le_refl _⟩, _, _, _, _, rfl⟩ ?_ ?_⟩
  · rintro i σ H3 hi ⟨s3, ⟨IW, vf, vs, hf, hs, af, ao, ok, len⟩, v6, v7, v8, v9, rfl⟩
    rw [show (0 : Int) + ((i : Nat) : Int) = ((i : Nat) : Int) by omega]
    have m2 : 2 ≤ many := hm2 (by omega)
    refine ⟨_, rfl, _, rfl, _, rfl, _, _, rfl, rfl, a, ns, _, rfl, s3.seq hS, by omega, by omega, fun d H4 hd s4 => ?_⟩
    obtain ⟨o, t', eo, et, ho, ht, hne⟩ := at_pos (d := d) m2
    refine ⟨_, rfl, _, rfl, _, _, rfl, rfl, (by show (0 : Int) < (many : Nat); omega), ?_⟩
    dsimp only
    rw [eo]
    refine ⟨_, rfl, _, _, rfl, rfl, _, rfl, _, _, rfl, rfl, ⟨by decide, by decide⟩, _, rfl, _, _, rfl, rfl, _, _, rfl, rfl, (by show (0 : Int) < ((many : Nat) : Int) - 1; omega), _, _, rfl, rfl, _, rfl, _, _, rfl, rfl, (by show (0 : Int) < (many : Nat); omega), ?_⟩
    dsimp only
    rw [et]
    have T4 := s3.trans s4
    have hf4 := s4 _ _ hf
    have hs4 := s4 _ _ hs
    have af4 := af.imp fun _ _ => IAt.same s4
    have ao4 := ao.imp fun _ _ => OAt.same s4
    refine ⟨_, rfl, _, rfl, by show 2 ≤ sizeLine; decide, fun p1 g3 => ?_⟩
    have t1 := same_new g3 (.tup [.int (o : Nat), .int (t' : Nat)])
    refine ⟨_, rfl, ls, vs, .tuple [.int (o : Nat), .int (t' : Nat)], _, rfl, .inl (SqL.of (t1 _ _ hs4)), .tup (SqT.of upd_same) (.cons (.int _) (.cons (.int _) .nil)), odv (ao4.imp fun _ _ => OAt.same t1), by simp [PyData.depth, PyData.depthAll], _, rfl, ?_⟩
    rw [seen_any]
    by_cases c1 : (IW.any fun x => x.o == o && x.t == t') = true
    · refine itF (by rw [c1]; decide) ⟨T4.trans t1, ⟨IW, vf, vs, t1 _ _ hf4, t1 _ _ hs4, af4.imp fun _ _ => IAt.same t1, ao4.imp fun _ _ => OAt.same t1, ok, by omega⟩, _, _, _, _, rfl⟩
    have c1 := Bool.eq_false_iff.mpr c1
    refine itT (by rw [c1]; decide) ?_
    refine ⟨_, rfl, _, rfl, by show 2 ≤ sizeLine; decide, fun p2 g4 => ?_⟩
    have t2 := same_new g4 (.tup [.int (t' : Nat), .int (o : Nat)])
    have T2 := t1.trans t2
    refine ⟨_, rfl, ls, vs, .tuple [.int (t' : Nat), .int (o : Nat)], _, rfl, .inl (SqL.of (T2 _ _ hs4)), .tup (SqT.of upd_same) (.cons (.int _) (.cons (.int _) .nil)), odv (ao4.imp fun _ _ => OAt.same T2), by simp [PyData.depth, PyData.depthAll], _, rfl, ?_⟩
    rw [seen_any]
    by_cases c2 : (IW.any fun x => x.o == t' && x.t == o) = true
    · refine itF (by rw [c2]; decide) ⟨T4.trans T2, ⟨IW, vf, vs, T2 _ _ hf4, T2 _ _ hs4, af4.imp fun _ _ => IAt.same T2, ao4.imp fun _ _ => OAt.same T2, ok, by omega⟩, _, _, _, _, rfl⟩
    have c2 := Bool.eq_false_iff.mpr c2
    refine itT (by rw [c2]; decide) ?_
    have nh : ihas IW o t' = false := by
      unfold ihas
      rw [List.any_eq_false] at c1 c2 ⊢
      intro x hx
      have h1 := c1 x hx
      have h2 := c2 x hx
      rw [Bool.or_eq_true]
      rintro (h | h)
      · exact h1 h
      · exact h2 h
    have hf5 := T2 _ _ hf4
    have hs5 := T2 _ _ hs4
    have af5 := af4.imp fun _ _ => IAt.same T2
    have ao5 := ao4.imp fun _ _ => OAt.same T2
    have T5 := T4.trans T2
    generalize upd (upd H4 p1 (.tup [.int (o : Nat), .int (t' : Nat)])) p2 (.tup [.int (t' : Nat), .int (o : Nat)]) = H5 at hf5 hs5 af5 ao5 T5 ⊢
    refine ⟨_, rfl, .inl ⟨rfl, _, SqL.of hs5⟩, _, rfl, _, rfl, by show 2 ≤ sizeLine; decide, fun p3 g5 => ?_⟩
    have t3 := same_new g5 (.tup [.int (o : Nat), .int (t' : Nat)])
    have hs6 := t3 _ _ hs5
    refine ⟨ls, _, _, rfl, rfl, hs6, Nat.lt_of_le_of_lt (show _ ≤ 12 by rw [ao5.length]; omega) (by decide), ?_⟩
    have nt : ∀ {zs : List V}, ∀ ys, HO.lst zs ≠ .tup ys := fun ys z => by cases z
    have T6 := same_put (T5.trans t3) nls (.lst (vs ++ [.ref p3]))
    have hf6 : upd (upd H5 p3 (.tup [.int (o : Nat), .int (t' : Nat)])) ls (.lst (vs ++ [.ref p3])) lf = some (.lst vf) := by rw [upd_ne ne]; exact t3 _ _ hf5
    have hs7 := @upd_same (upd H5 p3 (.tup [.int (o : Nat), .int (t' : Nat)])) ls (.lst (vs ++ [.ref p3]))
    have af6 := (af5.imp fun _ _ => IAt.same t3).imp fun _ _ => IAt.put (o := .lst (vs ++ [.ref p3])) hs6 nt
    have ao6 := ((ao5.imp fun _ _ => OAt.same t3).imp fun _ _ => OAt.put (o := .lst (vs ++ [.ref p3])) hs6 nt)
    have hp3 : upd (upd H5 p3 (.tup [.int (o : Nat), .int (t' : Nat)])) ls (.lst (vs ++ [.ref p3])) p3 = some (.tup [.int (o : Nat), .int (t' : Nat)]) := upd_tup hs6 nt upd_same
    generalize upd (upd H5 p3 (.tup [.int (o : Nat), .int (t' : Nat)])) ls (.lst (vs ++ [.ref p3])) = H6 at T6 hf6 hs7 af6 ao6 hp3 ⊢
    refine ⟨_, rfl, .inl ⟨rfl, _, SqL.of hf6⟩, _, rfl, _, rfl, _, rfl, _, _, rfl, rfl, ⟨by decide, by decide⟩, by show 3 ≤ sizeLine; decide, fun q1 g6 => ?_⟩
    have t6 := same_new g6 (.lst [.int 60, .int 9, .int 3])
    obtain ⟨vo, ev, e, rfl, e1, e60⟩ := at_all (p := fun v => ∃ e : Nat, v = .int (e : Nat) ∧ 1 ≤ e ∧ e ≤ 60) (xs := [.int 60, .int 9, .int 3]) (d := ((d : Nat) : Int) / 4096 % 3) (fun v hv => by
      simp only [List.mem_cons, List.not_mem_nil, or_false] at hv
      rcases hv with rfl | rfl | rfl
      · exact ⟨60, rfl, by decide, by decide⟩
      · exact ⟨9, rfl, by decide, by decide⟩
      · exact ⟨3, rfl, by decide, by decide⟩) (by omega) (by show ((d : Nat) : Int) / 4096 % 3 < 3; omega)
    refine ⟨_, rfl, _, _, rfl, rfl, ⟨by decide, by decide⟩, _, _, rfl, rfl, (by show (0 : Int) < 3; decide), q1, _, _, _, rfl, rfl, SqL.of upd_same, ev, _, _, rfl, rfl, (by show (0 : Int) < (e : Nat); omega), _, _, rfl, rfl, by show 3 ≤ sizeLine; decide, fun p4 g7 => ?_⟩
    have em : (1 : Int) + ((d : Nat) : Int) / 64 % ((e : Nat) : Int) = ((1 + d / 64 % e : Nat) : Int) := by
      rw [show ((d : Nat) : Int) / 64 = ((d / 64 : Nat) : Int) by omega, ← Int.natCast_emod]; omega
    have em2 : d / 64 % e < e := Nat.mod_lt _ (by omega)
    have t7 := same_new g7 (.tup [.int (o : Nat), .int (t' : Nat), .int (1 + ((d : Nat) : Int) / 64 % ((e : Nat) : Int))])
    have t67 := t6.trans t7
    have hf7 := t67 _ _ hf6
    refine ⟨lf, _, _, rfl, rfl, hf7, Nat.lt_of_le_of_lt (show _ ≤ 12 by rw [af6.length]; omega) (by decide), ?_⟩
    refine ⟨same_put (T6.trans t67) g1 _, ⟨IW ++ [⟨o, t', 1 + d / 64 % e⟩], vf ++ [.ref p4], vs ++ [.ref p3], upd_same, ?_, ?_, ?_, ?_, by rw [List.length_append, List.length_singleton]; omega⟩, _, _, _, _, rfl⟩
    · rw [upd_ne ne.symm]; exact t67 _ _ hs7
    · refine ((af6.imp fun _ _ => IAt.same t67).imp fun _ _ => IAt.put hf7 nt).snoc ⟨p4, rfl, upd_tup hf7 nt ?_⟩
      rw [← em]; exact upd_same
    · exact ((ao6.imp fun _ _ => OAt.same t67).imp fun _ _ => OAt.put hf7 nt).snoc ⟨p3, rfl, upd_tup hf7 nt (t67 _ _ hp3)⟩
    · exact ok.snoc ho ht hne (by show 1 ≤ 1 + d / 64 % e; omega) (by show 1 + d / 64 % e ≤ 60; omega) nh
  · rintro σ H3 ⟨s3, ⟨IW, vf, vs, hf, hs, af, ao, ok, len⟩, v6, v7, v8, v9, rfl⟩
    exact ⟨_, rfl, q IW vf lf H3 s3 g1 hf af ok (by omega)⟩

def wlsOf (NS : List Str) (IW : List Iw) : List Wl := IW.map fun x => ⟨NS.getD x.o Str.empty, NS.getD x.t Str.empty, x.m⟩
theorem getD_in {NS : List Str} {i : Nat} (h : i < NS.length) : NS.getD i Str.empty = NS[i] := by rw [List.getD_eq_getElem?_getD, List.getElem?_eq_getElem h]; rfl
theorem getD_inj {NS : List Str} (nd : NS.Nodup) {i j : Nat} (hi : i < NS.length) (hj : j < NS.length) (e : NS.getD i Str.empty = NS.getD j Str.empty) : i = j := by
  rw [getD_in hi, getD_in hj] at e
  exact (List.getElem_inj nd).mp e
theorem getD_mem {NS : List Str} {i : Nat} (h : i < NS.length) : NS.getD i Str.empty ∈ NS := by rw [getD_in h]; exact List.getElem_mem _
theorem has_of {NS : List Str} (nd : NS.Nodup) {IW : List Iw} (ho : ∀ x ∈ IW, x.o < NS.length) (ht : ∀ x ∈ IW, x.t < NS.length) {a b : Nat} (ha : a < NS.length) (hb : b < NS.length) (h : ihas IW a b = false) : hasW (wlsOf NS IW) (NS.getD a Str.empty) (NS.getD b Str.empty) = false := by
  unfold hasW wlsOf
  unfold ihas at h
  rw [List.any_map, List.any_eq_false]
  rw [List.any_eq_false] at h
  intro x hx c
  refine h x hx ?_
  simp only [Function.comp, Bool.or_eq_true, Bool.and_eq_true, beq_iff_eq] at c ⊢
  rcases c with c | c
  · exact .inl ⟨(getD_inj nd ha (ho x hx) c.1).symm, (getD_inj nd hb (ht x hx) c.2).symm⟩
  · exact .inr ⟨(getD_inj nd hb (ho x hx) c.1).symm, (getD_inj nd ha (ht x hx) c.2).symm⟩
theorem wls_ok {NS : List Str} (nd : NS.Nodup) {IW : List Iw} (ok : IOk NS.length IW) (len : IW.length ≤ 12) : WsOk NS (wlsOf NS IW) := by
  have all : ∀ {p : Wl → Prop}, (∀ x ∈ IW, p ⟨NS.getD x.o Str.empty, NS.getD x.t Str.empty, x.m⟩) → ∀ y ∈ wlsOf NS IW, p y := fun h y hy => by
    obtain ⟨x, hx, rfl⟩ := List.mem_map.mp hy
    exact h x hx
  refine ⟨all fun x hx => getD_mem (ok.o x hx), all fun x hx => getD_mem (ok.t x hx), all fun x hx e => ok.ne x hx (getD_inj nd (ok.o x hx) (ok.t x hx) e), all fun x hx => ok.m1 x hx, all fun x hx => ok.m60 x hx, fun i y e => ?_, by unfold wlsOf; rw [List.length_map]; exact len⟩
  unfold wlsOf at e ⊢
  rw [List.getElem?_map] at e
  cases ex : IW[i]? with
  | none => rw [ex] at e; cases e
  | some x =>
    rw [ex] at e
    cases e
    have hx := List.mem_of_getElem? ex
    rw [← List.map_take]
    exact has_of nd (fun y hy => ok.o y (List.mem_of_mem_take hy)) (fun y hy => ok.t y (List.mem_of_mem_take hy)) (ok.o x hx) (ok.t x hx) (ok.ds i x ex)
def spNetL (t : Adr) : Sp := fun vs H Q _ => ∃ (ln li : Addr) (NS : List Str) (vi : List V) (IW : List Iw), vs = [.ref ln, .ref li] ∧ H ln = some (.lst (NS.map V.str)) ∧ NS.Nodup ∧ (∀ z ∈ NS, NameOk z) ∧ NS.length ≤ 8 ∧ H li = some (.lst vi) ∧ Al (IAt H) vi IW ∧ IOk NS.length IW ∧ IW.length ≤ 12 ∧
  ∀ n ds lw H', Same H H' → NetO t H' n ds lw NS (wlsOf NS IW) → H ds = none → H lw = none → Q (.ref n) H'
theorem ok_law_net (Tx : Tab K mg t) : FnOk P w K mg base CX0 6 t.f_law_net t.d_law_net ["_law_names_here", "_law_walks_here"] (spNetL t) := by
  refine Tx.F_law_net.ok sc_law_net (fun vs H Q E h => ?_) (fun cdv A outer s H vs Q E hr h => ?_)
  · obtain ⟨ln, li, NS, vi, IW, rfl, _⟩ := h
    rfl
  obtain ⟨ln, li, NS, vi, IW, rfl, hln, nd, okN, n8, hli, al, ok, w12, q⟩ := h
  have wk := wls_ok nd ok w12
  have lenW : (wlsOf NS IW).length = IW.length := List.length_map ..
  refine ⟨_, (pss_cons (ps_set (i := 2) sc_law_net.nd rfl (Or.inl rfl) (pe_make0 Tx.mk_Net (ok_Net_init Tx) (hr.mono (by omega)) rfl Tx.m_Net Tx.b_Net_init .nil pass0))
    (pss_cons (ps_for PassesOwn.never rfl (pi_enum rfl Tx.z_enumerate (pac (pv 0) pa_nil)) (pg_tup rfl (pgs_cons (pg_name (i := 3) sc_law_net.nd rfl (Or.inl rfl)) (pgs_cons (pg_name (i := 4) sc_law_net.nd rfl (Or.inl rfl)) pgs_nil)))
    (pss_one (ps_expr (pe_meth (pv 2) Tx.cl_Net Tx.me_Net_add_stop (ok_Net_add_stop Tx) (hr.mono (by omega)) Tx.b_Net_add_stop .nil pass0 (pac (pv 4) (pac (pe_op op_add pe_int (pe_op op_mod (pv 3) pe_int)) (pac (pe_op op_mod (pe_op op_mul pe_int (pv 3)) pe_int) pa_nil)))))))
    (pss_cons (ps_for PassesOwn.never rfl (pi_list (pv 1)) (pg_tup rfl (pgs_cons (pg_name (i := 5) sc_law_net.nd rfl (Or.inl rfl)) (pgs_cons (pg_name (i := 6) sc_law_net.nd rfl (Or.inl rfl)) (pgs_cons (pg_name (i := 7) sc_law_net.nd rfl (Or.inl rfl)) pgs_nil))))
    (pss_one (ps_expr (pe_meth (pv 2) Tx.cl_Net Tx.me_Net_add_walk (ok_Net_add_walk Tx) (hr.mono (by omega)) Tx.b_Net_add_walk .nil pass0 (pac (pe_ix ix_list (pv 0) (pv 5) (fun _ _ => rfl)) (pac (pe_ix ix_list (pv 0) (pv 6) (fun _ _ => rfl)) (pac (pv 7) pa_nil)))))))
    (pss_one (ps_ret (pv 2)))))), ?_⟩
  intro x dx nx ndx nex
  refine ⟨x, H, rfl, nx, same_put (same_new ndx _) nx _, ⟨dx, upd_same⟩, fun H1 ds lw s1 hN nds nlw => ⟨rfl, ?_⟩⟩
  refine ⟨_, rfl, ln, rfl, ⟨_, SqL.of (s1 _ _ hln)⟩, for_enum (xs := NS.map V.str) (fun i σ H' => Same H H' ∧ NetO t H' x ds lw (NS.take i) [] ∧ ∃ v3 v4 v5 v6 v7 : Option V, σ = [some (.ref ln), some (.ref li), some (.ref x), v3, v4, v5, v6, v7]) ⟨s1, hN, _, _, _, _, _, rfl⟩ (fun i σ H' _ ⟨s', _⟩ => SqL.of (s' _ _ hln)) ?_ ?_⟩
  · rintro i v pp σ H2 hv hpp ⟨s2, hN2, v3, v4, v5, v6, v7, rfl⟩
    rw [List.getElem?_map] at hv
    cases ez : NS[i]? with
    | none => rw [ez] at hv; cases hv
    | some z =>
      rw [ez] at hv
      obtain rfl : V.str z = v := Option.some.inj hv
      obtain ⟨hi, ei⟩ := List.getElem?_eq_some_iff.mp ez
      have u := same_new hpp (.tup [.int (i : Nat), .str z])
      obtain ⟨dn, fn, e1, e2⟩ := (hN2.same u).ob
      refine ⟨pp, _, rfl, SqT.of upd_same, rfl, _, _, rfl, _, _, rfl, rfl, ?_⟩
      refine ⟨_, rfl, x, dn, _, rfl, e1, e2.n5, _, rfl, _, rfl, _, _, rfl, rfl, (by show (0 : Int) < 6; decide), _, _, rfl, rfl, _, rfl, _, _, rfl, rfl, .inl ⟨by decide, by decide⟩, _, _, rfl, rfl, (by show (0 : Int) < 31; decide), x, ds, lw, NS.take i, [], z, 1 + i % 6, 5 * i % 31, H, ?_, hN2.same u, nds, s2.trans u, okN z (List.mem_of_getElem? ez), by omega, by omega, by omega, ?_, by rw [List.length_take]; omega, fun H3 s3 hN3 => ?_⟩
      · show [V.ref x, V.str z, V.int (1 + ((i : Nat) : Int) % 6), V.int (5 * ((i : Nat) : Int) % 31)] = _
        rw [show (1 : Int) + ((i : Nat) : Int) % 6 = ((1 + i % 6 : Nat) : Int) by omega, show (5 : Int) * ((i : Nat) : Int) % 31 = ((5 * i % 31 : Nat) : Int) by omega]
      · intro m
        obtain ⟨j, hj, ej⟩ := List.mem_iff_getElem.mp m
        rw [List.length_take] at hj
        rw [List.getElem_take] at ej
        have := (List.getElem_inj nd).mp (ej.trans ei.symm)
        omega
      · refine ⟨s3, ?_, _, _, _, _, _, rfl⟩
        rw [List.take_add_one, ez]
        exact hN3
  · rintro σ H2 ⟨s2, hN2, v3, v4, v5, v6, v7, rfl⟩
    rw [List.length_map, List.take_length] at hN2
    refine ⟨_, rfl, li, rfl, ⟨_, SqL.of (s2 _ _ hli)⟩, for_list (xs := vi) (fun i σ H' => Same H H' ∧ NetO t H' x ds lw NS ((wlsOf NS IW).take i) ∧ ∃ v3 v4 v5 v6 v7 : Option V, σ = [some (.ref ln), some (.ref li), some (.ref x), v3, v4, v5, v6, v7]) ⟨s2, hN2, _, _, _, _, _, rfl⟩ (fun i σ H' _ ⟨s', _⟩ => SqL.of (s' _ _ hli)) ?_ ?_⟩
    · rintro i v σ H3 hv ⟨s3, hN3, u3, u4, u5, u6, u7, rfl⟩
      obtain ⟨y, ey, py, rfl, hpy⟩ := al.get hv
      have hy := List.mem_of_getElem? ey
      obtain ⟨dn, fn, e1, e2⟩ := hN3.ob
      have at1 : ∀ j, j < NS.length → atI (NS.map V.str) ((j : Nat) : Int) = some (.str (NS.getD j Str.empty)) := fun j hj => atI_nat (by rw [List.getElem?_map, List.getElem?_eq_getElem hj, getD_in hj]; rfl)
      have ew : (wlsOf NS IW)[i]? = some ⟨NS.getD y.o Str.empty, NS.getD y.t Str.empty, y.m⟩ := by unfold wlsOf; rw [List.getElem?_map, ey]; rfl
      have hw := List.mem_of_getElem? ew
      have hi := (List.getElem?_eq_some_iff.mp ey).1
      refine ⟨py, _, rfl, SqT.of (s3 _ _ hpy), rfl, _, _, rfl, _, _, rfl, _, _, rfl, rfl, ?_⟩
      refine ⟨_, rfl, x, dn, _, rfl, e1, e2.n6, _, rfl, _, rfl, ln, _, _, _, rfl, rfl, SqL.of (s3 _ _ hln), at1 _ (ok.o y hy), _, rfl, _, rfl, ln, _, _, _, rfl, rfl, SqL.of (s3 _ _ hln), at1 _ (ok.t y hy), _, rfl, x, ds, lw, NS, (wlsOf NS IW).take i, ⟨NS.getD y.o Str.empty, NS.getD y.t Str.empty, y.m⟩, H, rfl, hN3, nlw, s3, okN, (fun z hz => ⟨wk.o z (List.mem_of_mem_take hz), wk.t z (List.mem_of_mem_take hz)⟩), wk.o _ hw, wk.t _ hw, wk.ne _ hw, wk.ds i _ ew, wk.m1 _ hw, wk.m60 _ hw, by rw [List.length_take, lenW]; omega, fun H4 s4 hN4 => ?_⟩
      refine ⟨s4, ?_, _, _, _, _, _, rfl⟩
      rw [List.take_add_one, ew]
      exact hN4
    · rintro σ H3 ⟨s3, hN3, u3, u4, u5, u6, u7, rfl⟩
      rw [al.length, ← lenW, List.take_length] at hN3
      exact ⟨_, rfl, q x ds lw H3 s3 hN3 nds nlw⟩

def oV (o : Option Nat) : V := match o with
  | none => .non
  | some m => .int (m : Nat)
theorem oV_at {T : List (Option Nat)} {i : Nat} {a : Option Nat} (h : T[i]? = some a) : atI (T.map oV) ((i : Nat) : Int) = some (oV a) := atI_nat (by rw [List.getElem?_map, h]; rfl)
theorem flat_nat (zs : List Nat) : (natV zs).all flatV = true := by
  rw [List.all_eq_true]
  intro v hv
  obtain ⟨k, _, rfl⟩ := List.mem_map.mp hv
  rfl
theorem natV_snoc (xs : List Nat) (n : Nat) : natV xs ++ [V.int (n : Nat)] = natV (xs ++ [n]) := by unfold natV; rw [List.map_append]; rfl
theorem rep_non (n : Nat) : (List.replicate n [V.non]).flatten = (List.replicate n (none : Option Nat)).map oV := by
  induction n with
  | zero => rfl
  | succ n ih => rw [List.replicate_succ, List.flatten_cons, ih]; rfl
theorem ixN_nat {n j : Nat} (h : j < n) : ixN n ((j : Nat) : Int) = some j := by
  unfold ixN
  rw [if_pos (by omega), if_pos (by omega)]
  rfl
theorem oV_set (R : List (Option Nat)) (j m : Nat) : (R.map oV).set j (.int (m : Nat)) = (R.set j (some m)).map oV := by rw [List.map_set]; rfl
def TabAt (H : Hp) (tb : Addr) (ps : List Addr) (RS : Nat → List (Option Nat)) : Prop := H tb = some (.lst (ps.map V.ref)) ∧ ps.Nodup ∧ tb ∉ ps ∧ ∀ (i : Nat) p, ps[i]? = some p → H p = some (.lst ((RS i).map oV))
theorem TabAt.same {H H' : Hp} {tb : Addr} {ps : List Addr} {RS : Nat → List (Option Nat)} (s : Same H H') (h : TabAt H tb ps RS) : TabAt H' tb ps RS := ⟨s _ _ h.1, h.2.1, h.2.2.1, fun i p e => s _ _ (h.2.2.2 i p e)⟩
def rowsF (D : Nat → List (Option Nat)) (g : Nat) (R : List (Option Nat)) (many : Nat) : Nat → List (Option Nat) := fun i => if i < g then D i else if i = g then R else List.replicate many none
theorem TabAt.put {H : Hp} {tb p : Addr} {ps : List Addr} {D : Nat → List (Option Nat)} {g many : Nat} {R : List (Option Nat)} (h : TabAt H tb ps (rowsF D g R many)) (e : ps[g]? = some p) (R' : List (Option Nat)) : TabAt (upd H p (.lst (R'.map oV))) tb ps (rowsF D g R' many) := by
  obtain ⟨h1, nd, nm, h2⟩ := h
  have nt : tb ≠ p := fun x => nm (by rw [x]; exact List.mem_of_getElem? e)
  refine ⟨by rw [upd_ne nt]; exact h1, nd, nm, fun i q eq => ?_⟩
  by_cases c : i = g
  · subst c
    rw [e] at eq
    obtain rfl := Option.some.inj eq
    rw [upd_same]
    unfold rowsF
    rw [if_neg (by omega), if_pos rfl]
  · have ne : q ≠ p := fun x => by
      subst x
      obtain ⟨hi, ei⟩ := List.getElem?_eq_some_iff.mp eq
      obtain ⟨hg, eg⟩ := List.getElem?_eq_some_iff.mp e
      exact c ((List.getElem_inj nd).mp (ei.trans eg.symm))
    rw [upd_ne ne, h2 i q eq]
    unfold rowsF
    rw [if_neg c, if_neg c]
theorem TabAt.row {H : Hp} {tb p : Addr} {ps : List Addr} {D : Nat → List (Option Nat)} {g many : Nat} {R : List (Option Nat)} (h : TabAt H tb ps (rowsF D g R many)) (e : ps[g]? = some p) : H p = some (.lst (R.map oV)) := by
  have := h.2.2.2 g p e
  unfold rowsF at this
  rw [if_neg (by omega), if_pos rfl] at this
  exact this
theorem TabAt.at {H : Hp} {tb p : Addr} {ps : List Addr} {RS : Nat → List (Option Nat)} (h : TabAt H tb ps RS) {g : Nat} (e : ps[g]? = some p) : atI (ps.map V.ref) ((g : Nat) : Int) = some (.ref p) := atI_nat (by rw [List.getElem?_map, e]; rfl)
def IE (IW : List Iw) (h t c : Nat) : Prop := ∃ x ∈ IW, ((x.o = h ∧ x.t = t) ∨ (x.o = t ∧ x.t = h)) ∧ x.m = c
def Dn2 (D : List (Option Nat)) (k : Nat) (x : Iw) (R : List (Option Nat)) : Prop := Bf.Dn D k x.o x.t x.m R ∧ Bf.Dn D k x.t x.o x.m R
theorem Dn2.up {D R R' : List (Option Nat)} {k : Nat} {x : Iw} (a : Dn2 D k x R) (u : Bf.Up D R R') : Dn2 D k x R' := ⟨a.1.up u, a.2.up u⟩
def spTable : Sp := fun vs H Q _ => ∃ (li : Addr) (vi : List V) (IW : List Iw) (many : Nat) (D : Nat → List (Option Nat)), vs = [.int (many : Nat), .ref li] ∧ H li = some (.lst vi) ∧ Al (IAt H) vi IW ∧ many ≤ 8 ∧ IOk many IW ∧ (∀ g, g < many → (D g).length = many ∧ Bf.Hi (D g) g (IE IW)) ∧
  ∀ tb ps H', Same H H' → H tb = none → (∀ p ∈ ps, H p = none) → ps.length = many → TabAt H' tb ps (fun i => if i < many then D i else []) → Q (.ref tb) H'
theorem ok_law_table (Tx : Tab K mg t) : FnOk P w K mg base CX0 1 t.f_law_table t.d_law_table ["_law_many", "_law_walks_here"] spTable := by
  refine Tx.F_law_table.ok sc_law_table (fun vs H Q E h => ?_) (fun cdv A outer s H vs Q E hr h => ?_)
  · obtain ⟨li, vi, IW, many, D, rfl, _⟩ := h
    rfl
  obtain ⟨li, vi, IW, many, D, rfl, hli, al, m8, ok, hD, q⟩ := h
  refine ⟨_, (pss_cons (ps_setc (i0 := 2) (cl := [(Str.ofString "_law_many", s.heap.objs.size + 1)]) (N := ["_law_one", "_law_many"]) (fr := [none, some 0]) sc_law_table.nd rfl (Or.inl rfl) rfl (pi_range1 rfl Tx.z_range (pac (pv 0) pa_nil)) rfl (by decide +kernel) rfl (by decide +kernel) ⟨⟨rfl, Or.inl rfl, Or.inl rfl, _, rfl, rfl⟩, trivial⟩ ⟨rfl, trivial⟩ rfl (fun _ _ _ _ _ => (pg_name (i := 0) (show List.Nodup (["_law_one", "_law_many"] : List Str) by decide +kernel) rfl (Or.inl rfl))) (fun _ _ _ _ _ => pts_nil) (fun _ _ _ _ _ => (pe_op op_rep (pe_lst (pac pe_non pa_nil)) (pv 1))))
    (pss_cons (ps_for PassesOwn.never rfl (pi_range1 rfl Tx.z_range (pac (pv 0) pa_nil)) (pg_name (i := 3) sc_law_table.nd rfl (Or.inl rfl))
    (pss_cons (ps_asg pe_int (pg_sub (pe_ix ix_list (pv 2) (pv 3) (fun _ _ => rfl)) (pv 3) set_list))
    (pss_one (ps_for PassesOwn.never rfl (pi_range1 rfl Tx.z_range (pac (pv 0) pa_nil)) (pg_name (i := 4) sc_law_table.nd rfl (Or.inl rfl))
    (pss_one (ps_for PassesOwn.never rfl (pi_list (pv 1)) (pg_tup rfl (pgs_cons (pg_name (i := 5) sc_law_table.nd rfl (Or.inl rfl)) (pgs_cons (pg_name (i := 6) sc_law_table.nd rfl (Or.inl rfl)) (pgs_cons (pg_name (i := 7) sc_law_table.nd rfl (Or.inl rfl)) pgs_nil))))
    (pss_one (ps_for PassesOwn.never rfl (pi_tup (pe_tup (pac (pe_tup (pac (pv 5) (pac (pv 6) pa_nil))) (pac (pe_tup (pac (pv 6) (pac (pv 5) pa_nil))) pa_nil)))) (pg_tup rfl (pgs_cons (pg_name (i := 8) sc_law_table.nd rfl (Or.inl rfl)) (pgs_cons (pg_name (i := 9) sc_law_table.nd rfl (Or.inl rfl)) pgs_nil)))
    (pss_one (ps_if (pt_cmp (pc_notN (pe_ix ix_list (pe_ix ix_list (pv 2) (pv 3) (fun _ _ => rfl)) (pv 8) (fun _ _ => rfl))))
    (pss_cons (ps_set (i := 10) sc_law_table.nd rfl (Or.inl rfl) (pe_op op_add (pe_ix ix_list (pe_ix ix_list (pv 2) (pv 3) (fun _ _ => rfl)) (pv 8) (fun _ _ => rfl)) (pv 7)))
    (pss_one (ps_if (PW.pt (pw_or (pt_cmp (pc_isN (pe_ix ix_list (pe_ix ix_list (pv 2) (pv 3) (fun _ _ => rfl)) (pv 9) (fun _ _ => rfl)))) (pw_or1 (pt_cmpR op_lt (pv 10) (pe_ix ix_list (pe_ix ix_list (pv 2) (pv 3) (fun _ _ => rfl)) (pv 9) (fun _ _ => rfl)) (nomark _)))))
    (pss_one (ps_asg (pv 10) (pg_sub (pe_ix ix_list (pv 2) (pv 3) (fun _ _ => rfl)) (pv 9) set_list)))
    pss_nil)))
    pss_nil))))))))))
    (pss_one (ps_ret (pv 2))))), ?_⟩
  refine ⟨_, rfl, ((many : Nat) : Int), rfl, by omega, by omega, comp_range (fun i acc σ H' => Same H H' ∧ (∃ v, σ = [v, some (.int (many : Nat))]) ∧ ∃ ps : List Addr, acc = ps.map V.ref ∧ ps.length = i ∧ ps.Nodup ∧ (∀ p ∈ ps, H p = none) ∧ ∀ p ∈ ps, H' p = some (.lst ((List.replicate many none).map oV))) ⟨Same.refl H, ⟨_, rfl⟩, [], rfl, rfl, List.nodup_nil, fun p h => (by cases h), fun p h => (by cases h)⟩ (Nat.le_trans (show _ ≤ 8 by omega) (by decide)) ?_ ?_⟩
  · rintro i acc σ H1 hi ha ⟨s1, ⟨v0, rfl⟩, ps, rfl, lp, nd, fr, hp⟩
    dsimp only [gName, tTrue]
    rw [if_pos rfl]
    refine ⟨by show 1 ≤ sizeLine; decide, fun p1 g1 => ?_⟩
    have u1 := same_new g1 (.lst [.non])
    refine ⟨_, rfl, p1, _, [.non], rfl, rfl, upd_same, by omega, by omega, Nat.le_trans (show _ ≤ 8 by rw [List.length_singleton]; omega) (by decide), fun p2 g2 => ?_⟩
    rw [rep_non, show ((many : Nat) : Int).toNat = many by omega]
    have u2 := same_new g2 (.lst ((List.replicate many none).map oV))
    have U := u1.trans u2
    have n2 := u1.free g2
    refine ⟨by rw [List.length_append, List.length_singleton]; omega, s1.trans U, ⟨_, rfl⟩, ps ++ [p2], by rw [List.map_append]; rfl, by rw [List.length_append, List.length_singleton, lp], ?_, fun p h => ?_, fun p h => ?_⟩
    · rw [List.nodup_append]
      refine ⟨nd, List.pairwise_singleton _ _, fun x hx y hy e => ?_⟩
      rw [List.mem_singleton] at hy
      subst hy
      subst e
      have := hp x hx
      rw [n2] at this
      cases this
    · rcases List.mem_append.mp h with h | h
      · exact fr p h
      · rw [List.mem_singleton] at h
        subst h
        exact s1.free n2
    · rcases List.mem_append.mp h with h | h
      · exact U _ _ (hp p h)
      · rw [List.mem_singleton] at h
        subst h
        exact upd_same
  rintro acc σ H1 ha ⟨s1, ⟨v0, rfl⟩, ps, rfl, lp, nd, fr, hp⟩ tb gt
  have lp : ps.length = many := by omega
  have u1 := same_new gt (.lst (ps.map V.ref))
  have T1 : TabAt (upd H1 tb (.lst (ps.map V.ref))) tb ps (rowsF D 0 (List.replicate many none) many) := by
    refine ⟨upd_same, nd, fun h => ?_, fun i p e => ?_⟩
    · have := hp tb h
      rw [gt] at this
      cases this
    · rw [u1 _ _ (hp p (List.mem_of_getElem? e))]
      unfold rowsF
      rw [if_neg (by omega)]
      split <;> rfl
  have ntb : H tb = none := s1.free gt
  have S1 := s1.trans u1
  generalize upd H1 tb (.lst (ps.map V.ref)) = H2 at T1 S1 ⊢
  refine ⟨_, rfl, ((many : Nat) : Int), rfl, by omega, by omega, for_range (n := ((many : Nat) : Int).toNat) (fun g σ H' => Same H H' ∧ TabAt H' tb ps (rowsF D g (List.replicate many none) many) ∧ ∃ v3 v4 v5 v6 v7 v8 v9 v10 : Option V, σ = [some (.int (many : Nat)), some (.ref li), some (.ref tb), v3, v4, v5, v6, v7, v8, v9, v10]) ⟨S1, T1, _, _, _, _, _, _, _, _, rfl⟩ ?_ ?_⟩
  · rintro g σ H3 hg ⟨s3, T3, v3, v4, v5, v6, v7, v8, v9, v10, rfl⟩
    rw [show (0 : Int) + ((g : Nat) : Int) = ((g : Nat) : Int) by omega]
    have hg : g < many := by omega
    obtain ⟨p, ep⟩ : ∃ p, ps[g]? = some p := ⟨_, List.getElem?_eq_getElem (by omega)⟩
    have np := fr p (List.mem_of_getElem? ep)
    obtain ⟨lD, hi⟩ := hD g hg
    refine ⟨_, rfl, _, rfl, tb, _, _, _, rfl, rfl, SqL.of T3.1, T3.at ep, _, rfl, p, _, _, g, rfl, rfl, T3.row ep, ixN_nat (by rw [List.length_map, List.length_replicate]; exact hg), ?_⟩
    rw [show (V.int 0) = .int ((0 : Nat) : Int) from rfl, oV_set]
    have T4 := T3.put ep ((List.replicate many none).set g (some 0))
    have s4 := same_put s3 np (.lst (((List.replicate many none).set g (some 0)).map oV))
    generalize upd H3 p (.lst (((List.replicate many none).set g (some 0)).map oV)) = H4 at T4 s4 ⊢
    have sn0 := Bf.Sn.ini hi
    rw [lD] at sn0
    have tn0 : Bf.Tn (D g) 0 ((List.replicate many none).set g (some 0)) := Bf.Tn.zero hi (List.getElem?_set_self (by rw [List.length_replicate]; exact hg))
    refine ⟨_, rfl, ((many : Nat) : Int), rfl, by omega, by omega, for_range (n := ((many : Nat) : Int).toNat) (fun k σ H' => Same H H' ∧ (∃ R, TabAt H' tb ps (rowsF D g R many) ∧ Bf.Sn (D g) R ∧ Bf.Tn (D g) k R) ∧ ∃ v4 v5 v6 v7 v8 v9 v10 : Option V, σ = [some (.int (many : Nat)), some (.ref li), some (.ref tb), some (.int (g : Nat)), v4, v5, v6, v7, v8, v9, v10]) ⟨s4, ⟨_, T4, sn0, tn0⟩, _, _, _, _, _, _, _, rfl⟩ ?_ ?_⟩
    · rintro k σ H5 hk ⟨s5, ⟨R5, T5, sn5, tn5⟩, w4, w5, w6, w7, w8, w9, w10, rfl⟩
      rw [show (0 : Int) + ((k : Nat) : Int) = ((k : Nat) : Int) by omega]
      refine ⟨_, rfl, li, rfl, ⟨_, SqL.of (s5 _ _ hli)⟩, for_list (xs := vi) (fun i σ H' => Same H H' ∧ (∃ R, TabAt H' tb ps (rowsF D g R many) ∧ Bf.Sn (D g) R ∧ Bf.Tn (D g) k R ∧ ∀ x ∈ IW.take i, Dn2 (D g) k x R) ∧ ∃ v5 v6 v7 v8 v9 v10 : Option V, σ = [some (.int (many : Nat)), some (.ref li), some (.ref tb), some (.int (g : Nat)), some (.int (k : Nat)), v5, v6, v7, v8, v9, v10]) ⟨s5, ⟨R5, T5, sn5, tn5, fun x h => by cases h⟩, _, _, _, _, _, _, rfl⟩ (fun i σ H' _ ⟨s', _⟩ => SqL.of (s' _ _ hli)) ?_ ?_⟩
      · rintro i v σ H6 hv ⟨s6, ⟨R6, T6, sn6, tn6, dn6⟩, x5, x6, x7, x8, x9, x10, rfl⟩
        obtain ⟨y, ey, py, rfl, hpy⟩ := al.get hv
        have hy := List.mem_of_getElem? ey
        refine ⟨py, _, rfl, SqT.of (s6 _ _ hpy), rfl, _, _, rfl, _, _, rfl, _, _, rfl, rfl, ?_⟩
        refine ⟨_, rfl, _, rfl, by show 2 ≤ sizeLine; decide, fun q1 g1 => ?_⟩
        have z1 := same_new g1 (.tup [.int (y.o : Nat), .int (y.t : Nat)])
        refine ⟨_, rfl, _, rfl, by show 2 ≤ sizeLine; decide, fun q2 g2 => ?_⟩
        have z2 := same_new g2 (.tup [.int (y.t : Nat), .int (y.o : Nat)])
        refine ⟨by show 2 ≤ sizeLine; decide, fun q3 g3 => ?_⟩
        have z3 := same_new g3 (.tup [.ref q1, .ref q2])
        have k1 := (z2.trans z3) _ _ (@upd_same H6 q1 (.tup [.int (y.o : Nat), .int (y.t : Nat)]))
        have k2 := z3 _ _ (@upd_same (upd H6 q1 (.tup [.int (y.o : Nat), .int (y.t : Nat)])) q2 (.tup [.int (y.t : Nat), .int (y.o : Nat)]))
        have k3 := @upd_same (upd (upd H6 q1 (.tup [.int (y.o : Nat), .int (y.t : Nat)])) q2 (.tup [.int (y.t : Nat), .int (y.o : Nat)])) q3 (.tup [.ref q1, .ref q2])
        have Z := (z1.trans z2).trans z3
        have s7 := s6.trans Z
        have T7 := T6.same Z
        generalize upd (upd (upd H6 q1 (.tup [.int (y.o : Nat), .int (y.t : Nat)])) q2 (.tup [.int (y.t : Nat), .int (y.o : Nat)])) q3 (.tup [.ref q1, .ref q2]) = H7 at k1 k2 k3 s7 T7 ⊢
        refine ⟨q3, rfl, ⟨_, SqT.of k3⟩, for_tup (xs := [.ref q1, .ref q2]) (fun j σ H' => Same H H' ∧ H' q1 = some (.tup [.int (y.o : Nat), .int (y.t : Nat)]) ∧ H' q2 = some (.tup [.int (y.t : Nat), .int (y.o : Nat)]) ∧ H' q3 = some (.tup [.ref q1, .ref q2]) ∧ (∃ R, TabAt H' tb ps (rowsF D g R many) ∧ Bf.Sn (D g) R ∧ Bf.Tn (D g) k R ∧ (∀ x ∈ IW.take i, Dn2 (D g) k x R) ∧ (0 < j → Bf.Dn (D g) k y.o y.t y.m R) ∧ (1 < j → Bf.Dn (D g) k y.t y.o y.m R)) ∧ ∃ v8 v9 v10 : Option V, σ = [some (.int (many : Nat)), some (.ref li), some (.ref tb), some (.int (g : Nat)), some (.int (k : Nat)), some (.int (y.o : Nat)), some (.int (y.t : Nat)), some (.int (y.m : Nat)), v8, v9, v10])
          ⟨s7, k1, k2, k3, ⟨R6, T7, sn6, tn6, dn6, fun h => absurd h (by omega), fun h => absurd h (by omega)⟩, _, _, _, rfl⟩ (fun j σ H' _ ⟨_, _, _, h3, _⟩ => SqT.of h3) ?_ ?_⟩
        · rintro j v σ H8 hj ⟨s8, k1, k2, k3, ⟨R, T8, sn, tn, dn, d0, d1⟩, y8, y9, y10, rfl⟩
          obtain ⟨a, b, qq, rfl, hqq, ie, ha, hb, hab⟩ : ∃ a b : Nat, ∃ qq, v = .ref qq ∧ H8 qq = some (.tup [.int (a : Nat), .int (b : Nat)]) ∧ IE IW a b y.m ∧ a < many ∧ b < many ∧ ((j = 0 ∧ a = y.o ∧ b = y.t) ∨ (j = 1 ∧ a = y.t ∧ b = y.o)) := by
            match j, hj with
            | 0, hj => cases hj; exact ⟨y.o, y.t, q1, rfl, k1, ⟨y, hy, .inl ⟨rfl, rfl⟩, rfl⟩, ok.o y hy, ok.t y hy, .inl ⟨rfl, rfl, rfl⟩⟩
            | 1, hj => cases hj; exact ⟨y.t, y.o, q2, rfl, k2, ⟨y, hy, .inr ⟨rfl, rfl⟩, rfl⟩, ok.t y hy, ok.o y hy, .inr ⟨rfl, rfl, rfl⟩⟩
            | m + 2, hj => cases hj
          have lR : R.length = many := sn.len.trans lD
          have fin : ∀ R' : List (Option Nat), Bf.Up (D g) R R' → Bf.Dn (D g) k a b y.m R' → (∀ x ∈ IW.take i, Dn2 (D g) k x R') ∧ (0 < j + 1 → Bf.Dn (D g) k y.o y.t y.m R') ∧ (1 < j + 1 → Bf.Dn (D g) k y.t y.o y.m R') := fun R' up dd => by
            refine ⟨fun x hx => (dn x hx).up up, fun _ => ?_, fun h1 => ?_⟩
            · rcases hab with ⟨rfl, rfl, rfl⟩ | ⟨rfl, rfl, rfl⟩
              · exact dd
              · exact (d0 (by omega)).up up
            · rcases hab with ⟨rfl, rfl, rfl⟩ | ⟨rfl, rfl, rfl⟩
              · omega
              · exact dd
          have row8 := T8.row ep
          have tb8 := SqL.of (K := K) T8.1
          have at8 := T8.at ep
          obtain ⟨oa, ea⟩ : ∃ o, R[a]? = some o := ⟨_, List.getElem?_eq_getElem (by omega)⟩
          obtain ⟨ob, eb⟩ : ∃ o, R[b]? = some o := ⟨_, List.getElem?_eq_getElem (by omega)⟩
          refine ⟨qq, _, rfl, SqT.of hqq, rfl, _, _, rfl, _, _, rfl, rfl, ?_⟩
          refine ⟨_, rfl, _, rfl, tb, _, _, _, rfl, rfl, tb8, at8, _, rfl, p, _, _, _, rfl, rfl, SqL.of row8, oV_at ea, _, rfl, ?_⟩
          cases oa with
          | none =>
            obtain ⟨f1, f2, f3⟩ := fin R (Bf.Up.refl _ _) (Bf.step_none tn ea)
            exact itF (by decide) ⟨s8, k1, k2, k3, ⟨R, T8, sn, tn, f1, f2, f3⟩, _, _, _, rfl⟩
          | some r =>
            refine itT (by show (!decide (V.int ((r : Nat) : Int) = V.non)) = true; simp) ?_
            refine ⟨_, rfl, _, rfl, tb, _, _, _, rfl, rfl, tb8, at8, _, rfl, p, _, _, _, rfl, rfl, SqL.of row8, oV_at ea, _, rfl, _, _, rfl, rfl, ?_⟩
            refine ⟨_, rfl, _, rfl, tb, _, _, _, rfl, rfl, tb8, at8, _, rfl, p, _, _, _, rfl, rfl, SqL.of row8, oV_at eb, _, rfl, ?_⟩
            have put : (∀ s : Nat, R[b]? = some (some s) → r + y.m < s) → ∀ y10' : Option V, Same H (upd H8 p (.lst ((R.set b (some (r + y.m))).map oV))) ∧ upd H8 p (.lst ((R.set b (some (r + y.m))).map oV)) q1 = some (.tup [.int (y.o : Nat), .int (y.t : Nat)]) ∧ upd H8 p (.lst ((R.set b (some (r + y.m))).map oV)) q2 = some (.tup [.int (y.t : Nat), .int (y.o : Nat)]) ∧ upd H8 p (.lst ((R.set b (some (r + y.m))).map oV)) q3 = some (.tup [.ref q1, .ref q2]) ∧ (∃ R', TabAt (upd H8 p (.lst ((R.set b (some (r + y.m))).map oV))) tb ps (rowsF D g R' many) ∧ Bf.Sn (D g) R' ∧ Bf.Tn (D g) k R' ∧ (∀ x ∈ IW.take i, Dn2 (D g) k x R') ∧ (0 < j + 1 → Bf.Dn (D g) k y.o y.t y.m R') ∧ (1 < j + 1 → Bf.Dn (D g) k y.t y.o y.m R')) := fun n y10' => by
              obtain ⟨sn', up', dn'⟩ := Bf.step_set hi ie sn tn ea (by omega) n
              obtain ⟨f1, f2, f3⟩ := fin _ up' dn'
              exact ⟨same_put s8 np _, upd_tup row8 (fun ys z => by cases z) k1, upd_tup row8 (fun ys z => by cases z) k2, upd_tup row8 (fun ys z => by cases z) k3, ⟨_, T8.put ep _, sn', tn.up up', f1, f2, f3⟩⟩
            have aim : ∀ (n : ∀ s : Nat, R[b]? = some (some s) → r + y.m < s), True := fun _ => trivial
            cases ob with
            | none =>
              obtain ⟨c1, c2, c3, c4, c5⟩ := put (fun s e => by rw [eb] at e; cases e) none
              refine itT (by decide) ⟨_, rfl, _, rfl, _, rfl, tb, _, _, _, rfl, rfl, tb8, at8, _, rfl, p, _, _, b, rfl, rfl, row8, ixN_nat (by rw [List.length_map, lR]; exact hb), ?_⟩
              rw [← oV_set] at c1 c2 c3 c4 c5
              exact ⟨c1, c2, c3, c4, c5, _, _, _, rfl⟩
            | some s =>
              refine itF (by show ¬ decide (V.int ((s : Nat) : Int) = V.non) = true; simp) ⟨_, rfl, _, rfl, _, rfl, tb, _, _, _, rfl, rfl, tb8, at8, _, rfl, p, _, _, _, rfl, rfl, SqL.of row8, oV_at eb, _, _, rfl, rfl, _, rfl, ?_⟩
              by_cases c : r + y.m < s
              · obtain ⟨c1, c2, c3, c4, c5⟩ := put (fun s' e => by rw [eb] at e; cases e; exact c) none
                refine itT (decide_eq_true (by omega)) ⟨_, rfl, _, rfl, _, rfl, tb, _, _, _, rfl, rfl, tb8, at8, _, rfl, p, _, _, b, rfl, rfl, row8, ixN_nat (by rw [List.length_map, lR]; exact hb), ?_⟩
                rw [← oV_set] at c1 c2 c3 c4 c5
                exact ⟨c1, c2, c3, c4, c5, _, _, _, rfl⟩
              · obtain ⟨f1, f2, f3⟩ := fin R (Bf.Up.refl _ _) (Bf.step_keep sn tn ea eb c)
                exact itF (by intro z; exact c (by have := of_decide_eq_true z; omega)) ⟨s8, k1, k2, k3, ⟨R, T8, sn, tn, f1, f2, f3⟩, _, _, _, rfl⟩
        · rintro σ H8 ⟨s8, k1, k2, k3, ⟨R, T8, sn, tn, dn, d0, d1⟩, y8, y9, y10, rfl⟩
          refine ⟨s8, ⟨R, T8, sn, tn, fun x hx => ?_⟩, _, _, _, _, _, _, rfl⟩
          rw [List.take_add_one, ey] at hx
          rcases List.mem_append.mp hx with hx | hx
          · exact dn x hx
          · obtain rfl := List.mem_singleton.mp hx
            exact ⟨d0 (by show 0 < 2; decide), d1 (by show 1 < 2; decide)⟩
      · rintro σ H6 ⟨s6, ⟨R6, T6, sn6, tn6, dn6⟩, x5, x6, x7, x8, x9, x10, rfl⟩
        rw [al.length, List.take_length] at dn6
        refine ⟨s6, ⟨R6, T6, sn6, tn6.succ hi fun h t c ⟨x, hx, hc, hm⟩ => ?_⟩, _, _, _, _, _, _, _, rfl⟩
        rcases hc with ⟨rfl, rfl⟩ | ⟨rfl, rfl⟩
        · rw [← hm]; exact (dn6 x hx).1
        · rw [← hm]; exact (dn6 x hx).2
    · rintro σ H5 ⟨s5, ⟨R5, T5, sn5, tn5⟩, w4, w5, w6, w7, w8, w9, w10, rfl⟩
      obtain rfl := tn5.end sn5 (by rw [lD]; omega)
      refine ⟨s5, ⟨T5.1, T5.2.1, T5.2.2.1, fun i p e => ?_⟩, _, _, _, _, _, _, _, _, rfl⟩
      rw [T5.2.2.2 i p e]
      unfold rowsF
      by_cases c1 : i < g
      · rw [if_pos c1, if_pos (by omega)]
      · by_cases c2 : i = g
        · subst c2
          rw [if_neg c1, if_pos rfl, if_pos (by omega)]
        · rw [if_neg c1, if_neg c2, if_neg (by omega)]
          split <;> rfl
  · rintro σ H3 ⟨s3, T3, v3, v4, v5, v6, v7, v8, v9, v10, rfl⟩
    refine ⟨_, rfl, q tb ps H3 s3 ntb fr lp ⟨T3.1, T3.2.1, T3.2.2.1, fun i p e => ?_⟩⟩
    have hi : i < many := by have := (List.getElem?_eq_some_iff.mp e).1; omega
    rw [T3.2.2.2 i p e]
    unfold rowsF
    rw [if_pos (show i < ((many : Nat) : Int).toNat by omega)]
    show _ = some (HO.lst ((if i < many then D i else []).map oV))
    rw [if_pos hi]

theorem pth_last {E : Str → Str → Nat → Prop} {i j : Str} {m : Nat} {w : List Str} (p : Fw.Pth E i j m w) : ∃ u, w = u ++ [j] := by
  induction p with
  | nil i => exact ⟨[], rfl⟩
  | @cons i _ _ _ _ _ _ _ ih => obtain ⟨u, rfl⟩ := ih; exact ⟨i :: u, rfl⟩
theorem pth_mem {E : Str → Str → Nat → Prop} {NS : List Str} (hE : ∀ u v a, E u v a → u ∈ NS) {i j : Str} {m : Nat} {w : List Str} (p : Fw.Pth E i j m w) (hj : j ∈ NS) : ∀ z ∈ w, z ∈ NS := by
  induction p with
  | nil i => intro z hz; rw [List.mem_singleton] at hz; subst hz; exact hj
  | cons e _ ih =>
    intro z hz
    rcases List.mem_cons.mp hz with rfl | hz
    · exact hE _ _ _ e
    · exact ih hj z hz
theorem pth_one {E : Str → Str → Nat → Prop} {i j : Str} {m : Nat} {w : List Str} (p : Fw.Pth E i j m w) (h : w.length ≤ 1) : m = 0 := by
  cases p with
  | nil => rfl
  | cons e q => have := q.head; rw [this] at h; simp at h
theorem pth_step {E : Str → Str → Nat → Prop} {z j a b : Str} {mr : Nat} {l r : List Str} (p : Fw.Pth E z j mr l) (e : l = a :: b :: r) : ∃ c m', E a b c ∧ Fw.Pth E b j m' (b :: r) ∧ mr = c + m' := by
  cases p with
  | nil => cases e
  | @cons _ v _ c m' w he pt =>
    have hw := pt.head
    injection e with e1 e2
    subst e1
    rw [e2] at hw
    injection hw with e3 _
    subst e3
    rw [e2] at pt
    exact ⟨c, m', he, pt, rfl⟩
def wlOf (NS : List Str) (x : Iw) : Wl := ⟨NS.getD x.o Str.empty, NS.getD x.t Str.empty, x.m⟩
def hitW (x : Wl) (a b : Str) : Bool := (a == x.o && b == x.t) || (b == x.o && a == x.t)
theorem hit_uniq {NS : List Str} {WS : List Wl} (ok : WsOk NS WS) {x y : Wl} (hx : x ∈ WS) (hy : y ∈ WS) {a b : Str} (h1 : hitW x a b = true) (h2 : hitW y a b = true) : x.m = y.m := by
  have key : ∀ i j x y, i < j → WS[i]? = some x → WS[j]? = some y → hitW x a b = true → hitW y a b = true → False := fun i j x y hij ex ey h1 h2 => by
    have d := ok.ds j y ey
    unfold hasW at d
    rw [List.any_eq_false] at d
    refine d x (List.mem_of_getElem? (i := i) (by rw [List.getElem?_take_of_lt hij]; exact ex)) ?_
    simp only [hitW, Bool.or_eq_true, Bool.and_eq_true, beq_iff_eq] at h1 h2 ⊢
    rcases h1 with ⟨rfl, rfl⟩ | ⟨rfl, rfl⟩
    · rcases h2 with ⟨c1, c2⟩ | ⟨c1, c2⟩
      · exact .inl ⟨c1.symm, c2.symm⟩
      · exact .inr ⟨c2.symm, c1.symm⟩
    · rcases h2 with ⟨c1, c2⟩ | ⟨c1, c2⟩
      · exact .inr ⟨c2.symm, c1.symm⟩
      · exact .inl ⟨c1.symm, c2.symm⟩
  obtain ⟨i, ex⟩ := List.getElem?_of_mem hx
  obtain ⟨j, ey⟩ := List.getElem?_of_mem hy
  rcases Nat.lt_trichotomy i j with h | h | h
  · exact (key i j x y h ex ey h1 h2).elim
  · subst h; rw [ex] at ey; cases ey; rfl
  · exact (key j i y x h ey ex h2 h1).elim
theorem kit_list {K : W.Frag} {H : Hp} {v : V} {T : String} (k : Kd H v T) : W.kitOne K (.type T) (.type "list") = some (decide (T = "list")) := by
  cases k <;> rfl
def spRightW (t : Adr) : Sp := fun vs H Q _ => ∃ (wv : V) (ln li : Addr) (i j : Nat) (dv : V) (NS : List Str) (vi : List V) (IW : List Iw), vs = [wv, .ref ln, .ref li, .int (i : Nat), .int (j : Nat), dv] ∧ H ln = some (.lst (NS.map V.str)) ∧ H li = some (.lst vi) ∧ Al (IAt H) vi IW ∧ NS.Nodup ∧ (∀ z ∈ NS, NameOk z) ∧ IOk NS.length IW ∧ IW.length ≤ 12 ∧ i < NS.length ∧ j < NS.length ∧
  ((wv = .non ∧ dv = .non) ∨ ∃ (lw : Addr) (m : Nat) (u : List Str), wv = .ref lw ∧ dv = .int (m : Nat) ∧ H lw = some (.lst (u.map V.str)) ∧ Fw.Pth (EW (wlsOf NS IW)) (NS.getD i Str.empty) (NS.getD j Str.empty) m u ∧ u.length ≤ 100000) ∧ ∀ H', Same H H' → Q (.bl true) H'
theorem ok_law_way_right (Tx : Tab K mg t) : FnOk P w K mg base CX0 1 t.f_law_way_right t.d_law_way_right ["_law_way", "_law_names_here", "_law_walks_here", "_law_one", "_law_other", "_law_due"] (spRightW t) := by
  refine Tx.F_law_way_right.ok sc_law_way_right (fun vs H Q E h => ?_) (fun cdv A outer s H vs Q E hr h => ?_)
  · obtain ⟨wv, ln, li, i, j, dv, NS, vi, IW, rfl, _⟩ := h
    rfl
  obtain ⟨wv, ln, li, i, j, dv, NS, vi, IW, rfl, hln, hli, al, nd, okN, ok, w12, hi, hj, cs, q⟩ := h
  have wk := wls_ok nd ok w12
  have at1 : ∀ j, j < NS.length → atI (NS.map V.str) ((j : Nat) : Int) = some (.str (NS.getD j Str.empty)) := fun j hj => atI_nat (by rw [List.getElem?_map, List.getElem?_eq_getElem hj, getD_in hj]; rfl)
  refine ⟨_, (pss_cons (ps_if (pt_cmp (pc_isN (pv 5)))
    (pss_one (ps_ret (pe_cmp (pc_isN (pv 0)))))
    pss_nil)
    (pss_cons (ps_if (PW.pt (pw_or (pt_not (pt_val (pe_callB call_isi_ty rfl Tx.z_isinstance b_isinstance (pac (pv 0) (pac (pe_gty rfl Tx.z_list b_list) pa_nil))))) (pw_or (pt_cmpR (op_eq_lst hr.units0) (pv 0) (pe_lst pa_nil) (nomark _)) (pw_or (pt_cmpR op_ne (pe_ix ix_list (pv 0) pe_int (fun _ _ => rfl)) (pe_ix ix_list (pv 1) (pv 3) (fun _ _ => rfl)) (nomark _)) (pw_or1 (pt_cmpR op_ne (pe_ix ix_list (pv 0) (pe_un un_neg pe_int) (fun _ _ => rfl)) (pe_ix ix_list (pv 1) (pv 4) (fun _ _ => rfl)) (nomark _)))))))
    (pss_one (ps_ret pe_bl))
    pss_nil)
    (pss_cons (ps_set (i := 6) sc_law_way_right.nd rfl (Or.inl rfl) pe_int)
    (pss_cons (ps_for PassesOwn.never rfl (pi_zip rfl Tx.z_zip (pac (pv 0) (pac (pe_slice sl_list (pv 0) (po_some pe_int) po_none) pa_nil))) (pg_tup rfl (pgs_cons (pg_name (i := 7) sc_law_way_right.nd rfl (Or.inr rfl)) (pgs_cons (pg_name (i := 8) sc_law_way_right.nd rfl (Or.inr rfl)) pgs_nil)))
    (pss_cons (ps_setc (i0 := 9) (cl := [(Str.ofString "_law_there", s.heap.objs.size + 3), (Str.ofString "_law_names_here", s.heap.objs.size + 1), (Str.ofString "_law_here", s.heap.objs.size + 2)]) (N := ["_law_row", "_law_names_here", "_law_here", "_law_there"]) (fr := [none, some 1, some 7, some 8]) sc_law_way_right.nd rfl (Or.inl rfl) rfl (pi_list (pv 2)) rfl (by decide +kernel) rfl (by decide +kernel) ⟨⟨rfl, Or.inl rfl, Or.inl rfl, _, rfl, rfl⟩, ⟨⟨rfl, Or.inl rfl, Or.inl rfl, _, rfl, rfl⟩, ⟨⟨rfl, Or.inl rfl, Or.inl rfl, _, rfl, rfl⟩, trivial⟩⟩⟩ ⟨rfl, ⟨rfl, ⟨rfl, trivial⟩⟩⟩ rfl (fun _ _ _ _ _ => (pg_name (i := 0) (show List.Nodup (["_law_row", "_law_names_here", "_law_here", "_law_there"] : List Str) by decide +kernel) rfl (Or.inl rfl))) (fun _ _ _ _ _ => (pts_one (pt_cmpR (show OpR _ (compareOp .In) (rInD K false) from op_inD hr.units) (pe_tup (pac (pe_ix (show IxR _ (rIxL K) from ix_list) (pv 1) (pe_ix (show IxR _ (rIxT K) from ix_tup) (pv 0) pe_int (fun _ _ => rfl)) (fun _ _ => rfl)) (pac (pe_ix (show IxR _ (rIxL K) from ix_list) (pv 1) (pe_ix (show IxR _ (rIxT K) from ix_tup) (pv 0) pe_int (fun _ _ => rfl)) (fun _ _ => rfl)) pa_nil))) (pe_tup (pac (pe_tup (pac (pv 2) (pac (pv 3) pa_nil))) (pac (pe_tup (pac (pv 3) (pac (pv 2) pa_nil))) pa_nil))) rfl))) (fun _ _ _ _ _ => (pe_ix (show IxR _ (rIxT K) from ix_tup) (pv 0) pe_int (fun _ _ => rfl))))
    (pss_cons (ps_if (pt_cmpR (op_eq_lst hr.units0) (pv 9) (pe_lst pa_nil) (nomark _))
    (pss_one (ps_ret pe_bl))
    pss_nil)
    (pss_one (ps_set (i := 6) sc_law_way_right.nd rfl (Or.inl rfl) (pe_op op_add (pv 6) (pe_ix ix_list (pv 9) pe_int (fun _ _ => rfl))))))))
    (pss_one (ps_ret (pe_cmpR op_eq (pv 6) (pv 5) (nomark _)))))))), ?_⟩
  rcases cs with ⟨rfl, rfl⟩ | ⟨lw, m, u, rfl, rfl, hlw, pth, ul⟩
  · exact ⟨_, rfl, _, rfl, itT (by decide) ⟨_, rfl, q _ (Same.refl H)⟩⟩
  refine ⟨_, rfl, _, rfl, itF (by show ¬ decide (V.int ((m : Nat) : Int) = V.non) = true; simp) ?_⟩
  have hu := pth.head
  obtain ⟨ui, ul'⟩ := pth_last pth
  have kd : Kd H (.ref lw) "list" := .lst hlw
  have fl : (u.map V.str).all flatV = true := by
    rw [List.all_eq_true]
    intro v hv
    obtain ⟨z, _, rfl⟩ := List.mem_map.mp hv
    rfl
  refine ⟨_, rfl, .ref lw, "list", _, _, rfl, kd.ty, kit_list kd, _, rfl, itF (by decide) ?_⟩
  refine ⟨_, rfl, by show 0 ≤ sizeLine; decide, fun p1 g1 => ?_⟩
  have u1 := same_new g1 (.lst [])
  refine ⟨lw, p1, _, _, rfl, rfl, SqL.of (u1 _ _ hlw), SqL.of upd_same, fl, rfl, _, rfl, itF (by rw [hu]; exact Bool.false_ne_true) ?_⟩
  generalize upd H p1 (.lst []) = H1 at u1 ⊢
  have a0 : atI (u.map V.str) 0 = some (.str (NS.getD i Str.empty)) := atI_nat (j := 0) (by rw [hu]; rfl)
  have a9 : atI (u.map V.str) (-1) = some (.str (NS.getD j Str.empty)) := by rw [ul', List.map_append]; exact atI_last _ _
  refine ⟨_, rfl, lw, _, _, _, rfl, rfl, SqL.of (u1 _ _ hlw), a0, _, rfl, _, rfl, ln, _, _, _, rfl, rfl, SqL.of (u1 _ _ hln), at1 _ hi, rfl, _, rfl, itF (by show ¬ (!decide (V.str (NS.getD i Str.empty) = V.str (NS.getD i Str.empty))) = true; simp) ?_⟩
  refine ⟨_, rfl, _, rfl, lw, _, _, _, rfl, rfl, SqL.of (u1 _ _ hlw), a9, _, rfl, _, rfl, ln, _, _, _, rfl, rfl, SqL.of (u1 _ _ hln), at1 _ hj, rfl, _, rfl, itF (by show ¬ (!decide (V.str (NS.getD j Str.empty) = V.str (NS.getD j Str.empty))) = true; simp) ?_⟩
  refine ⟨_, rfl, _, rfl, _, rfl, lw, _, rfl, SqL.of (u1 _ _ hlw), fun l2 g2 => ?_⟩
  rw [show cutV (u.map V.str) (some 1) none = u.tail.map V.str by rw [show (1 : Int) = ((1 : Nat) : Int) from rfl, cut_from, List.drop_one, List.map_tail]]
  have u2 := same_new g2 (.lst (u.tail.map V.str))
  have hl2 := @upd_same H1 l2 (.lst (u.tail.map V.str))
  have U2 := u1.trans u2
  generalize upd H1 l2 (.lst (u.tail.map V.str)) = H2 at U2 hl2 ⊢
  refine ⟨lw, l2, rfl, ⟨_, SqL.of (U2 _ _ hlw)⟩, ⟨_, SqL.of hl2⟩, for_zip (xs := u.map V.str) (ys := u.tail.map V.str) (fun p σ H' => Same H2 H' ∧ (∃ (sp mr : Nat) (z : Str) (v7 v8 v9 : Option V), sp + mr = m ∧ Fw.Pth (EW (wlsOf NS IW)) z (NS.getD j Str.empty) mr (u.drop p) ∧ σ = [some (.ref lw), some (.ref ln), some (.ref li), some (.int (i : Nat)), some (.int (j : Nat)), some (.int (m : Nat)), some (.int (sp : Nat)), v7, v8, v9])) ⟨Same.refl H2, 0, m, _, _, _, _, Nat.zero_add _, pth, rfl⟩ (fun p σ H' _ _ ⟨s', _⟩ => ⟨SqL.of ((U2.trans s') _ _ hlw), SqL.of (s' _ _ hl2)⟩) ?_ ?_⟩
  · rintro p xv yv pp σ H3 hx hy hpp ⟨s3, sp, mr, z, v7, v8, v9, em, pt, rfl⟩
    rw [List.getElem?_map] at hx hy
    cases ea : u[p]? with
    | none => rw [ea] at hx; cases hx
    | some a =>
      cases eb : u.tail[p]? with
      | none => rw [eb] at hy; cases hy
      | some b =>
        rw [ea] at hx
        rw [eb] at hy
        obtain rfl : V.str a = xv := Option.some.inj hx
        obtain rfl : V.str b = yv := Option.some.inj hy
        obtain ⟨hp1, ea'⟩ := List.getElem?_eq_some_iff.mp ea
        have eb1 : u[p + 1]? = some b := by rw [← List.getElem?_tail]; exact eb
        obtain ⟨hp2, eb'⟩ := List.getElem?_eq_some_iff.mp eb1
        have d1 : u.drop p = a :: u.drop (p + 1) := by rw [List.drop_eq_getElem_cons hp1, ea']
        have d2 : u.drop (p + 1) = b :: u.drop (p + 1 + 1) := by rw [List.drop_eq_getElem_cons hp2, eb']
        obtain ⟨c, m', he, pt', emr⟩ := pth_step pt (d1.trans (by rw [d2]))
        have hNj : NS.getD j Str.empty ∈ NS := getD_mem hj
        have inN := pth_mem (fun u v a e => wk.gr.mem v u a (wk.gr.sy _ _ _ e)) pth hNj
        have oka := okN a (inN a (List.mem_of_getElem? ea))
        have okb := okN b (inN b (List.mem_of_getElem? eb1))
        have u3 := same_new hpp (.tup [.str a, .str b])
        have T3 := (U2.trans s3).trans u3
        have S3 := s3.trans u3
        refine ⟨pp, _, rfl, SqT.of upd_same, rfl, _, _, rfl, _, _, rfl, rfl, ?_⟩
        generalize upd H3 pp (.tup [.str a, .str b]) = H4 at T3 S3 ⊢
        refine ⟨_, rfl, li, rfl, ⟨_, SqL.of (T3 _ _ hli)⟩, comp_list (K := K) (a := li) (xs := vi) (fun k acc σ H' => Same H4 H' ∧ (∃ v, σ = [v, some (.ref ln), some (.str a), some (.str b)]) ∧ acc = natV (((IW.take k).filter fun x => hitW (wlOf NS x) a b).map (·.m))) ⟨Same.refl _, ⟨_, rfl⟩, rfl⟩ (Nat.le_trans (show _ ≤ 12 by rw [al.length]; exact w12) (by decide)) (fun k acc σ H' _ ⟨s', _⟩ => SqL.of ((T3.trans s') _ _ hli)) ?_ ?_⟩
        · rintro k v acc σ H5 hl hv ⟨s5, ⟨v0, rfl⟩, rfl⟩
          obtain ⟨y, ey, py, rfl, hpy⟩ := al.get hv
          have hy := List.mem_of_getElem? ey
          have T5 := T3.trans s5
          have hpy5 := SqT.of (K := K) (T5 _ _ hpy)
          have hln5 := SqL.of (K := K) (T5 _ _ hln)
          have tk : IW.take (k + 1) = IW.take k ++ [y] := by rw [List.take_add_one, ey]; rfl
          refine ⟨_, rfl, _, rfl, py, _, 0, _, rfl, rfl, hpy5, rfl, ln, _, _, _, rfl, rfl, hln5, at1 _ (ok.o y hy), _, rfl, _, rfl, py, _, 1, _, rfl, rfl, hpy5, rfl, ln, _, _, _, rfl, rfl, hln5, at1 _ (ok.t y hy), by show 2 ≤ sizeLine; decide, fun p1 g1 => ?_⟩
          have w1 := same_new g1 (.tup [.str (NS.getD y.o Str.empty), .str (NS.getD y.t Str.empty)])
          refine ⟨_, rfl, _, rfl, by show 2 ≤ sizeLine; decide, fun p2 g2 => ?_⟩
          have w2 := same_new g2 (.tup [.str a, .str b])
          refine ⟨_, rfl, _, rfl, by show 2 ≤ sizeLine; decide, fun p3 g3 => ?_⟩
          have w3 := same_new g3 (.tup [.str b, .str a])
          refine ⟨by show 2 ≤ sizeLine; decide, fun p4 g4 => ?_⟩
          have w4 := same_new g4 (.tup [.ref p2, .ref p3])
          have k1 := ((w2.trans w3).trans w4) p1 _ upd_same
          have k2 := (w3.trans w4) p2 _ upd_same
          have k3 := w4 p3 _ upd_same
          have W4 := (((s5.trans w1).trans w2).trans w3).trans w4
          have oko := okN _ (getD_mem (ok.o y hy))
          have okt := okN _ (getD_mem (ok.t y hy))
          refine ⟨p4, _, .tuple [.str (NS.getD y.o Str.empty), .str (NS.getD y.t Str.empty)], [.tuple [.str a, .str b], .tuple [.str b, .str a]], rfl, .inr (SqT.of upd_same), .tup (SqT.of k1) (.cons (.str _ (name_lay oko)) (.cons (.str _ (name_lay okt)) .nil)), .cons (.tup (SqT.of k2) (.cons (.str _ (name_lay oka)) (.cons (.str _ (name_lay okb)) .nil))) (.cons (.tup (SqT.of k3) (.cons (.str _ (name_lay okb)) (.cons (.str _ (name_lay oka)) .nil))) .nil), by simp [PyData.depth, PyData.depthAll], _, rfl, ?_⟩
          have hh : ([PyData.tuple [.str a, .str b], PyData.tuple [.str b, .str a]].any fun d => PyData.eqv d (.tuple [.str (NS.getD y.o Str.empty), .str (NS.getD y.t Str.empty)])) = hitW (wlOf NS y) a b := by
            simp [PyData.eqv, PyData.eqvAll, hitW, wlOf]
          rw [tk, List.filter_append, List.map_append]
          show if (if false then _ else _) = true then _ else _
          rw [if_neg Bool.false_ne_true, hh]
          by_cases c1 : hitW (wlOf NS y) a b = true
          · refine itT c1 ⟨_, rfl, py, _, 2, _, rfl, rfl, SqT.of (K := K) ((T3.trans W4) _ _ hpy), rfl, by rw [List.length_append, List.length_singleton]; omega, W4, ⟨_, rfl⟩, ?_⟩
            rw [List.filter_cons, List.filter_nil, c1]
            exact natV_snoc _ _
          · refine itF c1 ⟨by omega, W4, ⟨_, rfl⟩, ?_⟩
            rw [List.filter_cons, List.filter_nil, Bool.eq_false_iff.mpr c1]
            exact congrArg natV (List.append_nil _).symm
        rintro acc σ H5 ha ⟨s5, ⟨v0, rfl⟩, rfl⟩ l9 g9
        rw [al.length, List.take_length]
        obtain ⟨rest, eF⟩ : ∃ rest, (IW.filter fun x => hitW (wlOf NS x) a b).map (·.m) = c :: rest := by
          obtain ⟨x, hx, cx, rfl⟩ := he
          obtain ⟨y, hy, rfl⟩ := List.mem_map.mp hx
          have hit : hitW (wlOf NS y) a b = true := by
            simp only [hitW, wlOf, Bool.or_eq_true, Bool.and_eq_true, beq_iff_eq]
            rcases cx with ⟨rfl, rfl⟩ | ⟨rfl, rfl⟩
            · exact .inl ⟨rfl, rfl⟩
            · exact .inr ⟨rfl, rfl⟩
          have hm : y ∈ IW.filter fun x => hitW (wlOf NS x) a b := List.mem_filter.mpr ⟨hy, hit⟩
          cases ef : IW.filter fun x => hitW (wlOf NS x) a b with
          | nil => rw [ef] at hm; cases hm
          | cons y0 ys =>
            have h0 : y0 ∈ IW.filter fun x => hitW (wlOf NS x) a b := by rw [ef]; exact List.mem_cons_self ..
            obtain ⟨h1, h2⟩ := List.mem_filter.mp h0
            have := hit_uniq wk (List.mem_map.mpr ⟨y0, h1, rfl⟩) (List.mem_map.mpr ⟨y, hy, rfl⟩) h2 hit
            exact ⟨ys.map (·.m), by rw [List.map_cons]; exact congrArg (· :: _) this⟩
        rw [eF]
        have w9 := same_new g9 (.lst (natV (c :: rest)))
        refine ⟨_, rfl, by show 0 ≤ sizeLine; decide, fun l10 g10 => ?_⟩
        have w10 := same_new g10 (.lst [])
        have hl9 := w10 l9 _ upd_same
        refine ⟨l9, l10, _, _, rfl, rfl, SqL.of hl9, SqL.of upd_same, flat_nat _, rfl, _, rfl, itF Bool.false_ne_true ?_⟩
        refine ⟨_, rfl, _, rfl, l9, _, 0, _, rfl, rfl, SqL.of hl9, (show atI (natV (c :: rest)) 0 = some (V.int ((c : Nat) : Int)) from atI_nat (j := 0) rfl), _, _, rfl, rfl, ?_⟩
        refine ⟨((S3.trans s5).trans w9).trans w10, sp + c, m', b, some (.str a), some (.str b), some (.ref l9), by omega, by rw [d2]; exact pt', ?_⟩
        rw [show ((sp + c : Nat) : Int) = ((sp : Nat) : Int) + ((c : Nat) : Int) by omega]
        rfl
  · rintro p σ H3 hp ⟨s3, sp, mr, z, v7, v8, v9, em, pt, rfl⟩
    have m0 := pth_one pt (by rw [List.length_drop]; rw [List.length_map, List.length_map, List.length_tail] at hp; omega)
    refine ⟨_, rfl, _, rfl, rfl, ?_⟩
    have := q H3 (U2.trans s3)
    rw [show sp = m by omega]
    rw [show decide (V.int ((m : Nat) : Int) = V.int ((m : Nat) : Int)) = true from decide_eq_true rfl]
    exact this

def wordsL : List Str := [Str.ofString "calls", Str.ofString "clock", Str.ofString "line", Str.ofString "name", Str.ofString "number", Str.ofString "row", Str.ofString "days", Str.ofString "plan", Str.ofString "rule", Str.ofString "run", Str.ofString "stop", Str.ofString "ticket", Str.ofString "traveller", Str.ofString "trip", Str.ofString "late", Str.ofString "many", Str.ofString "twice"]
structure Wd (K : W.Frag) (t : Adr) (C : Addr) (b : Nat → Bool) : Prop where
  i : ExI K C
  k0 : W.kitOne K (.ref C) (.ref t.c_BadCalls) = some (b 0)
  k1 : W.kitOne K (.ref C) (.ref t.c_BadClock) = some (b 1)
  k2 : W.kitOne K (.ref C) (.ref t.c_BadLine) = some (b 2)
  k3 : W.kitOne K (.ref C) (.ref t.c_BadName) = some (b 3)
  k4 : W.kitOne K (.ref C) (.ref t.c_BadNumber) = some (b 4)
  k5 : W.kitOne K (.ref C) (.ref t.c_BadRow) = some (b 5)
  k6 : W.kitOne K (.ref C) (.ref t.c_BadRule) = some (b 6)
  k7 : W.kitOne K (.ref C) (.ref t.c_NoPlan) = some (b 7)
  k8 : W.kitOne K (.ref C) (.ref t.c_NoRule) = some (b 8)
  k9 : W.kitOne K (.ref C) (.ref t.c_NoRun) = some (b 9)
  k10 : W.kitOne K (.ref C) (.ref t.c_NoStop) = some (b 10)
  k11 : W.kitOne K (.ref C) (.ref t.c_NoTicket) = some (b 11)
  k12 : W.kitOne K (.ref C) (.ref t.c_NoTraveller) = some (b 12)
  k13 : W.kitOne K (.ref C) (.ref t.c_NoTrip) = some (b 13)
  k14 : W.kitOne K (.ref C) (.ref t.c_TooLate) = some (b 14)
  k15 : W.kitOne K (.ref C) (.ref t.c_TooMany) = some (b 15)
  k16 : W.kitOne K (.ref C) (.ref t.c_Twice) = some (b 16)
  v : W.kitOne K (.ref C) (.type "ValueError") = some true
theorem wd_NoStop (Tx : Tab K mg t) : Wd K t t.c_NoStop (fun i => decide (i = 10)) := ⟨Tx.i_NoStop, Tx.k_NoStop_BadCalls, Tx.k_NoStop_BadClock, Tx.k_NoStop_BadLine, Tx.k_NoStop_BadName, Tx.k_NoStop_BadNumber, Tx.k_NoStop_BadRow, Tx.k_NoStop_BadRule, Tx.k_NoStop_NoPlan, Tx.k_NoStop_NoRule, Tx.k_NoStop_NoRun, Tx.k_NoStop_NoStop, Tx.k_NoStop_NoTicket, Tx.k_NoStop_NoTraveller, Tx.k_NoStop_NoTrip, Tx.k_NoStop_TooLate, Tx.k_NoStop_TooMany, Tx.k_NoStop_Twice, Tx.v_NoStop⟩
def WdAt (H : Hp) (v : V) (w : Str × Bool) : Prop := ∃ p, v = .ref p ∧ H p = some (.tup [.str w.1, .bl w.2])
theorem WdAt.same {H H' : Hp} {v : V} {w : Str × Bool} (s : Same H H') (h : WdAt H v w) : WdAt H' v w := let ⟨p, e, h⟩ := h; ⟨p, e, s _ _ h⟩
def wordOf (b : Nat → Bool) : List Str := (((List.range 17).map fun i => (wordsL.getD i Str.empty, b i)).filter (·.2)).map (·.1)
def spWord (t : Adr) (K : W.Frag) : Sp := fun vs H Q _ => ∃ (a C : Addr) (b : Nat → Bool), vs = [.ref a] ∧ H a = some (exO a (.ref C)) ∧ Wd K t C b ∧ ∀ l H', Same H H' → H' l = some (.lst ((wordOf b).map V.str)) → Q (.ref l) H'
theorem ok_law_word (Tx : Tab K mg t) : FnOk P w K mg base CX0 1 t.f_law_word t.d_law_word ["_law_e"] (spWord t K) := by
  refine Tx.F_law_word.ok sc_law_word (fun vs H Q E h => ?_) (fun cdv A outer s H vs Q E hr h => ?_)
  · obtain ⟨a, C, b, rfl, _⟩ := h
    rfl
  obtain ⟨a, C, b, rfl, ha, W, q⟩ := h
  refine ⟨_, (pss_cons (ps_set (i := 1) sc_law_word.nd rfl (Or.inl rfl) (pe_lst (pac (pe_tup (pac pe_str (pac (pe_callB call_isi_exc rfl Tx.z_isinstance b_isinstance (pac (pv 0) (pac (pe_gref rfl Tx.m_BadCalls) pa_nil))) pa_nil))) (pac (pe_tup (pac pe_str (pac (pe_callB call_isi_exc rfl Tx.z_isinstance b_isinstance (pac (pv 0) (pac (pe_gref rfl Tx.m_BadClock) pa_nil))) pa_nil))) (pac (pe_tup (pac pe_str (pac (pe_callB call_isi_exc rfl Tx.z_isinstance b_isinstance (pac (pv 0) (pac (pe_gref rfl Tx.m_BadLine) pa_nil))) pa_nil))) pa_nil)))))
    (pss_cons (ps_set (i := 1) sc_law_word.nd rfl (Or.inl rfl) (pe_op op_cat (pv 1) (pe_lst (pac (pe_tup (pac pe_str (pac (pe_callB call_isi_exc rfl Tx.z_isinstance b_isinstance (pac (pv 0) (pac (pe_gref rfl Tx.m_BadName) pa_nil))) pa_nil))) (pac (pe_tup (pac pe_str (pac (pe_callB call_isi_exc rfl Tx.z_isinstance b_isinstance (pac (pv 0) (pac (pe_gref rfl Tx.m_BadNumber) pa_nil))) pa_nil))) pa_nil)))))
    (pss_cons (ps_set (i := 1) sc_law_word.nd rfl (Or.inl rfl) (pe_op op_cat (pv 1) (pe_lst (pac (pe_tup (pac pe_str (pac (pe_callB call_isi_exc rfl Tx.z_isinstance b_isinstance (pac (pv 0) (pac (pe_gref rfl Tx.m_BadRow) pa_nil))) pa_nil))) (pac (pe_tup (pac pe_str (pac (pe_callB call_isi_exc rfl Tx.z_isinstance b_isinstance (pac (pv 0) (pac (pe_gref rfl Tx.m_BadRule) pa_nil))) pa_nil))) (pac (pe_tup (pac pe_str (pac (pe_callB call_isi_exc rfl Tx.z_isinstance b_isinstance (pac (pv 0) (pac (pe_gref rfl Tx.m_NoPlan) pa_nil))) pa_nil))) pa_nil))))))
    (pss_cons (ps_set (i := 1) sc_law_word.nd rfl (Or.inl rfl) (pe_op op_cat (pv 1) (pe_lst (pac (pe_tup (pac pe_str (pac (pe_callB call_isi_exc rfl Tx.z_isinstance b_isinstance (pac (pv 0) (pac (pe_gref rfl Tx.m_NoRule) pa_nil))) pa_nil))) pa_nil))))
    (pss_cons (ps_set (i := 1) sc_law_word.nd rfl (Or.inl rfl) (pe_op op_cat (pv 1) (pe_lst (pac (pe_tup (pac pe_str (pac (pe_callB call_isi_exc rfl Tx.z_isinstance b_isinstance (pac (pv 0) (pac (pe_gref rfl Tx.m_NoRun) pa_nil))) pa_nil))) (pac (pe_tup (pac pe_str (pac (pe_callB call_isi_exc rfl Tx.z_isinstance b_isinstance (pac (pv 0) (pac (pe_gref rfl Tx.m_NoStop) pa_nil))) pa_nil))) (pac (pe_tup (pac pe_str (pac (pe_callB call_isi_exc rfl Tx.z_isinstance b_isinstance (pac (pv 0) (pac (pe_gref rfl Tx.m_NoTicket) pa_nil))) pa_nil))) pa_nil))))))
    (pss_cons (ps_set (i := 1) sc_law_word.nd rfl (Or.inl rfl) (pe_op op_cat (pv 1) (pe_lst (pac (pe_tup (pac pe_str (pac (pe_callB call_isi_exc rfl Tx.z_isinstance b_isinstance (pac (pv 0) (pac (pe_gref rfl Tx.m_NoTraveller) pa_nil))) pa_nil))) (pac (pe_tup (pac pe_str (pac (pe_callB call_isi_exc rfl Tx.z_isinstance b_isinstance (pac (pv 0) (pac (pe_gref rfl Tx.m_NoTrip) pa_nil))) pa_nil))) pa_nil)))))
    (pss_cons (ps_set (i := 1) sc_law_word.nd rfl (Or.inl rfl) (pe_op op_cat (pv 1) (pe_lst (pac (pe_tup (pac pe_str (pac (pe_callB call_isi_exc rfl Tx.z_isinstance b_isinstance (pac (pv 0) (pac (pe_gref rfl Tx.m_TooLate) pa_nil))) pa_nil))) (pac (pe_tup (pac pe_str (pac (pe_callB call_isi_exc rfl Tx.z_isinstance b_isinstance (pac (pv 0) (pac (pe_gref rfl Tx.m_TooMany) pa_nil))) pa_nil))) (pac (pe_tup (pac pe_str (pac (pe_callB call_isi_exc rfl Tx.z_isinstance b_isinstance (pac (pv 0) (pac (pe_gref rfl Tx.m_Twice) pa_nil))) pa_nil))) pa_nil))))))
    (pss_one (ps_ret (pe_op op_cat (pe_comp (cl := []) (N := ["_law_word_here", "_law_is_so"]) (fr := [none, none]) rfl (pi_list (pv 1)) rfl (by decide +kernel) rfl (by decide +kernel) trivial trivial rfl (fun _ _ _ _ _ => (show PG _ _ (gTup K 2 _) from pg_tup rfl (pgs_cons (pg_name (i := 0) (show List.Nodup (["_law_word_here", "_law_is_so"] : List Str) by decide +kernel) rfl (Or.inl rfl)) (pgs_cons (pg_name (i := 1) (show List.Nodup (["_law_word_here", "_law_is_so"] : List Str) by decide +kernel) rfl (Or.inl rfl)) pgs_nil)))) (fun _ _ _ _ _ => (pts_one (pt_val (pv 1)))) (fun _ _ _ _ _ => (pv 0))) (pe_op op_rep (pe_lst (pac pe_str pa_nil)) (pe_callTy call_int_bl rfl Tx.z_int b_int (pac (pe_not (pe_callB call_isi_excT rfl Tx.z_isinstance b_isinstance (pac (pv 0) (pac (pe_gty rfl Tx.z_ValueError b_ValueError) pa_nil)))) pa_nil))))))))))))), ?_⟩
  have S := Same.refl H
  have A : Al (WdAt H) [] [] := .nil
  refine ⟨_, rfl, a, C, t.c_BadCalls, _, rfl, S _ _ ha, W.i, W.k0, by show 2 ≤ sizeLine; decide, fun p0 g => ?_⟩
  replace A : Al (WdAt (upd H p0 (.tup [.str (Str.ofString "calls"), .bl (b 0)]))) [.ref p0] [(Str.ofString "calls", b 0)] := (A.imp fun _ _ => WdAt.same (same_new g _)).snoc ⟨p0, rfl, upd_same⟩
  replace S := S.trans (same_new g (.tup [.str (Str.ofString "calls"), .bl (b 0)]))
  generalize upd H p0 (.tup [.str (Str.ofString "calls"), .bl (b 0)]) = H1 at A S ⊢
  clear g
  refine ⟨_, rfl, a, C, t.c_BadClock, _, rfl, S _ _ ha, W.i, W.k1, by show 2 ≤ sizeLine; decide, fun p1 g => ?_⟩
  replace A : Al (WdAt (upd H1 p1 (.tup [.str (Str.ofString "clock"), .bl (b 1)]))) [.ref p0, .ref p1] [(Str.ofString "calls", b 0), (Str.ofString "clock", b 1)] := (A.imp fun _ _ => WdAt.same (same_new g _)).snoc ⟨p1, rfl, upd_same⟩
  replace S := S.trans (same_new g (.tup [.str (Str.ofString "clock"), .bl (b 1)]))
  generalize upd H1 p1 (.tup [.str (Str.ofString "clock"), .bl (b 1)]) = H2 at A S ⊢
  clear g
  refine ⟨_, rfl, a, C, t.c_BadLine, _, rfl, S _ _ ha, W.i, W.k2, by show 2 ≤ sizeLine; decide, fun p2 g => ?_⟩
  replace A : Al (WdAt (upd H2 p2 (.tup [.str (Str.ofString "line"), .bl (b 2)]))) [.ref p0, .ref p1, .ref p2] [(Str.ofString "calls", b 0), (Str.ofString "clock", b 1), (Str.ofString "line", b 2)] := (A.imp fun _ _ => WdAt.same (same_new g _)).snoc ⟨p2, rfl, upd_same⟩
  replace S := S.trans (same_new g (.tup [.str (Str.ofString "line"), .bl (b 2)]))
  generalize upd H2 p2 (.tup [.str (Str.ofString "line"), .bl (b 2)]) = H3 at A S ⊢
  clear g
  refine ⟨by show 3 ≤ sizeLine; decide, fun q0 g => ?_⟩
  replace A := A.imp fun _ _ => WdAt.same (same_new g (.lst [.ref p0, .ref p1, .ref p2]))
  replace S := S.trans (same_new g (.lst [.ref p0, .ref p1, .ref p2]))
  have M : upd H3 q0 (.lst [.ref p0, .ref p1, .ref p2]) q0 = some (.lst [.ref p0, .ref p1, .ref p2]) := upd_same
  generalize upd H3 q0 (.lst [.ref p0, .ref p1, .ref p2]) = H4 at A S M ⊢
  clear g
  have L := M
  clear M
  refine ⟨_, rfl, ?_⟩
  refine ⟨_, rfl, a, C, t.c_BadName, _, rfl, S _ _ ha, W.i, W.k3, by show 2 ≤ sizeLine; decide, fun p3 g => ?_⟩
  replace A : Al (WdAt (upd H4 p3 (.tup [.str (Str.ofString "name"), .bl (b 3)]))) [.ref p0, .ref p1, .ref p2, .ref p3] [(Str.ofString "calls", b 0), (Str.ofString "clock", b 1), (Str.ofString "line", b 2), (Str.ofString "name", b 3)] := (A.imp fun _ _ => WdAt.same (same_new g _)).snoc ⟨p3, rfl, upd_same⟩
  replace S := S.trans (same_new g (.tup [.str (Str.ofString "name"), .bl (b 3)]))
  replace L := same_new g (.tup [.str (Str.ofString "name"), .bl (b 3)]) _ _ L
  generalize upd H4 p3 (.tup [.str (Str.ofString "name"), .bl (b 3)]) = H5 at A S L ⊢
  clear g
  refine ⟨_, rfl, a, C, t.c_BadNumber, _, rfl, S _ _ ha, W.i, W.k4, by show 2 ≤ sizeLine; decide, fun p4 g => ?_⟩
  replace A : Al (WdAt (upd H5 p4 (.tup [.str (Str.ofString "number"), .bl (b 4)]))) [.ref p0, .ref p1, .ref p2, .ref p3, .ref p4] [(Str.ofString "calls", b 0), (Str.ofString "clock", b 1), (Str.ofString "line", b 2), (Str.ofString "name", b 3), (Str.ofString "number", b 4)] := (A.imp fun _ _ => WdAt.same (same_new g _)).snoc ⟨p4, rfl, upd_same⟩
  replace S := S.trans (same_new g (.tup [.str (Str.ofString "number"), .bl (b 4)]))
  replace L := same_new g (.tup [.str (Str.ofString "number"), .bl (b 4)]) _ _ L
  generalize upd H5 p4 (.tup [.str (Str.ofString "number"), .bl (b 4)]) = H6 at A S L ⊢
  clear g
  refine ⟨by show 2 ≤ sizeLine; decide, fun q1 g => ?_⟩
  replace A := A.imp fun _ _ => WdAt.same (same_new g (.lst [.ref p3, .ref p4]))
  replace S := S.trans (same_new g (.lst [.ref p3, .ref p4]))
  replace L := same_new g (.lst [.ref p3, .ref p4]) _ _ L
  have M : upd H6 q1 (.lst [.ref p3, .ref p4]) q1 = some (.lst [.ref p3, .ref p4]) := upd_same
  generalize upd H6 q1 (.lst [.ref p3, .ref p4]) = H7 at A S M L ⊢
  clear g
  refine ⟨q0, q1, _, _, rfl, rfl, L, M, by show 5 ≤ sizeLine; decide, fun r1 g => ?_⟩
  replace A := A.imp fun _ _ => WdAt.same (same_new g (.lst ([.ref p0, .ref p1, .ref p2] ++ [.ref p3, .ref p4])))
  replace S := S.trans (same_new g (.lst ([.ref p0, .ref p1, .ref p2] ++ [.ref p3, .ref p4])))
  clear L M
  have L : upd H7 r1 (.lst ([.ref p0, .ref p1, .ref p2] ++ [.ref p3, .ref p4])) r1 = some (.lst [.ref p0, .ref p1, .ref p2, .ref p3, .ref p4]) := upd_same
  have hG : upd H7 r1 (.lst ([.ref p0, .ref p1, .ref p2] ++ [.ref p3, .ref p4])) = upd H7 r1 (.lst ([.ref p0, .ref p1, .ref p2] ++ [.ref p3, .ref p4])) := rfl
  generalize upd H7 r1 (.lst ([.ref p0, .ref p1, .ref p2] ++ [.ref p3, .ref p4])) = H8 at A S L hG ⊢
  clear hG g
  refine ⟨_, rfl, ?_⟩
  refine ⟨_, rfl, a, C, t.c_BadRow, _, rfl, S _ _ ha, W.i, W.k5, by show 2 ≤ sizeLine; decide, fun p5 g => ?_⟩
  replace A : Al (WdAt (upd H8 p5 (.tup [.str (Str.ofString "row"), .bl (b 5)]))) [.ref p0, .ref p1, .ref p2, .ref p3, .ref p4, .ref p5] [(Str.ofString "calls", b 0), (Str.ofString "clock", b 1), (Str.ofString "line", b 2), (Str.ofString "name", b 3), (Str.ofString "number", b 4), (Str.ofString "row", b 5)] := (A.imp fun _ _ => WdAt.same (same_new g _)).snoc ⟨p5, rfl, upd_same⟩
  replace S := S.trans (same_new g (.tup [.str (Str.ofString "row"), .bl (b 5)]))
  replace L := same_new g (.tup [.str (Str.ofString "row"), .bl (b 5)]) _ _ L
  generalize upd H8 p5 (.tup [.str (Str.ofString "row"), .bl (b 5)]) = H9 at A S L ⊢
  clear g
  refine ⟨_, rfl, a, C, t.c_BadRule, _, rfl, S _ _ ha, W.i, W.k6, by show 2 ≤ sizeLine; decide, fun p6 g => ?_⟩
  replace A : Al (WdAt (upd H9 p6 (.tup [.str (Str.ofString "days"), .bl (b 6)]))) [.ref p0, .ref p1, .ref p2, .ref p3, .ref p4, .ref p5, .ref p6] [(Str.ofString "calls", b 0), (Str.ofString "clock", b 1), (Str.ofString "line", b 2), (Str.ofString "name", b 3), (Str.ofString "number", b 4), (Str.ofString "row", b 5), (Str.ofString "days", b 6)] := (A.imp fun _ _ => WdAt.same (same_new g _)).snoc ⟨p6, rfl, upd_same⟩
  replace S := S.trans (same_new g (.tup [.str (Str.ofString "days"), .bl (b 6)]))
  replace L := same_new g (.tup [.str (Str.ofString "days"), .bl (b 6)]) _ _ L
  generalize upd H9 p6 (.tup [.str (Str.ofString "days"), .bl (b 6)]) = H10 at A S L ⊢
  clear g
  refine ⟨_, rfl, a, C, t.c_NoPlan, _, rfl, S _ _ ha, W.i, W.k7, by show 2 ≤ sizeLine; decide, fun p7 g => ?_⟩
  replace A : Al (WdAt (upd H10 p7 (.tup [.str (Str.ofString "plan"), .bl (b 7)]))) [.ref p0, .ref p1, .ref p2, .ref p3, .ref p4, .ref p5, .ref p6, .ref p7] [(Str.ofString "calls", b 0), (Str.ofString "clock", b 1), (Str.ofString "line", b 2), (Str.ofString "name", b 3), (Str.ofString "number", b 4), (Str.ofString "row", b 5), (Str.ofString "days", b 6), (Str.ofString "plan", b 7)] := (A.imp fun _ _ => WdAt.same (same_new g _)).snoc ⟨p7, rfl, upd_same⟩
  replace S := S.trans (same_new g (.tup [.str (Str.ofString "plan"), .bl (b 7)]))
  replace L := same_new g (.tup [.str (Str.ofString "plan"), .bl (b 7)]) _ _ L
  generalize upd H10 p7 (.tup [.str (Str.ofString "plan"), .bl (b 7)]) = H11 at A S L ⊢
  clear g
  refine ⟨by show 3 ≤ sizeLine; decide, fun q2 g => ?_⟩
  replace A := A.imp fun _ _ => WdAt.same (same_new g (.lst [.ref p5, .ref p6, .ref p7]))
  replace S := S.trans (same_new g (.lst [.ref p5, .ref p6, .ref p7]))
  replace L := same_new g (.lst [.ref p5, .ref p6, .ref p7]) _ _ L
  have M : upd H11 q2 (.lst [.ref p5, .ref p6, .ref p7]) q2 = some (.lst [.ref p5, .ref p6, .ref p7]) := upd_same
  generalize upd H11 q2 (.lst [.ref p5, .ref p6, .ref p7]) = H12 at A S M L ⊢
  clear g
  refine ⟨r1, q2, _, _, rfl, rfl, L, M, by show 8 ≤ sizeLine; decide, fun r2 g => ?_⟩
  replace A := A.imp fun _ _ => WdAt.same (same_new g (.lst ([.ref p0, .ref p1, .ref p2, .ref p3, .ref p4] ++ [.ref p5, .ref p6, .ref p7])))
  replace S := S.trans (same_new g (.lst ([.ref p0, .ref p1, .ref p2, .ref p3, .ref p4] ++ [.ref p5, .ref p6, .ref p7])))
  clear L M
  have L : upd H12 r2 (.lst ([.ref p0, .ref p1, .ref p2, .ref p3, .ref p4] ++ [.ref p5, .ref p6, .ref p7])) r2 = some (.lst [.ref p0, .ref p1, .ref p2, .ref p3, .ref p4, .ref p5, .ref p6, .ref p7]) := upd_same
  have hG : upd H12 r2 (.lst ([.ref p0, .ref p1, .ref p2, .ref p3, .ref p4] ++ [.ref p5, .ref p6, .ref p7])) = upd H12 r2 (.lst ([.ref p0, .ref p1, .ref p2, .ref p3, .ref p4] ++ [.ref p5, .ref p6, .ref p7])) := rfl
  generalize upd H12 r2 (.lst ([.ref p0, .ref p1, .ref p2, .ref p3, .ref p4] ++ [.ref p5, .ref p6, .ref p7])) = H13 at A S L hG ⊢
  clear hG g
  refine ⟨_, rfl, ?_⟩
  refine ⟨_, rfl, a, C, t.c_NoRule, _, rfl, S _ _ ha, W.i, W.k8, by show 2 ≤ sizeLine; decide, fun p8 g => ?_⟩
  replace A : Al (WdAt (upd H13 p8 (.tup [.str (Str.ofString "rule"), .bl (b 8)]))) [.ref p0, .ref p1, .ref p2, .ref p3, .ref p4, .ref p5, .ref p6, .ref p7, .ref p8] [(Str.ofString "calls", b 0), (Str.ofString "clock", b 1), (Str.ofString "line", b 2), (Str.ofString "name", b 3), (Str.ofString "number", b 4), (Str.ofString "row", b 5), (Str.ofString "days", b 6), (Str.ofString "plan", b 7), (Str.ofString "rule", b 8)] := (A.imp fun _ _ => WdAt.same (same_new g _)).snoc ⟨p8, rfl, upd_same⟩
  replace S := S.trans (same_new g (.tup [.str (Str.ofString "rule"), .bl (b 8)]))
  replace L := same_new g (.tup [.str (Str.ofString "rule"), .bl (b 8)]) _ _ L
  generalize upd H13 p8 (.tup [.str (Str.ofString "rule"), .bl (b 8)]) = H14 at A S L ⊢
  clear g
  refine ⟨by show 1 ≤ sizeLine; decide, fun q3 g => ?_⟩
  replace A := A.imp fun _ _ => WdAt.same (same_new g (.lst [.ref p8]))
  replace S := S.trans (same_new g (.lst [.ref p8]))
  replace L := same_new g (.lst [.ref p8]) _ _ L
  have M : upd H14 q3 (.lst [.ref p8]) q3 = some (.lst [.ref p8]) := upd_same
  generalize upd H14 q3 (.lst [.ref p8]) = H15 at A S M L ⊢
  clear g
  refine ⟨r2, q3, _, _, rfl, rfl, L, M, by show 9 ≤ sizeLine; decide, fun r3 g => ?_⟩
  replace A := A.imp fun _ _ => WdAt.same (same_new g (.lst ([.ref p0, .ref p1, .ref p2, .ref p3, .ref p4, .ref p5, .ref p6, .ref p7] ++ [.ref p8])))
  replace S := S.trans (same_new g (.lst ([.ref p0, .ref p1, .ref p2, .ref p3, .ref p4, .ref p5, .ref p6, .ref p7] ++ [.ref p8])))
  clear L M
  have L : upd H15 r3 (.lst ([.ref p0, .ref p1, .ref p2, .ref p3, .ref p4, .ref p5, .ref p6, .ref p7] ++ [.ref p8])) r3 = some (.lst [.ref p0, .ref p1, .ref p2, .ref p3, .ref p4, .ref p5, .ref p6, .ref p7, .ref p8]) := upd_same
  have hG : upd H15 r3 (.lst ([.ref p0, .ref p1, .ref p2, .ref p3, .ref p4, .ref p5, .ref p6, .ref p7] ++ [.ref p8])) = upd H15 r3 (.lst ([.ref p0, .ref p1, .ref p2, .ref p3, .ref p4, .ref p5, .ref p6, .ref p7] ++ [.ref p8])) := rfl
  generalize upd H15 r3 (.lst ([.ref p0, .ref p1, .ref p2, .ref p3, .ref p4, .ref p5, .ref p6, .ref p7] ++ [.ref p8])) = H16 at A S L hG ⊢
  clear hG g
  refine ⟨_, rfl, ?_⟩
  refine ⟨_, rfl, a, C, t.c_NoRun, _, rfl, S _ _ ha, W.i, W.k9, by show 2 ≤ sizeLine; decide, fun p9 g => ?_⟩
  replace A : Al (WdAt (upd H16 p9 (.tup [.str (Str.ofString "run"), .bl (b 9)]))) [.ref p0, .ref p1, .ref p2, .ref p3, .ref p4, .ref p5, .ref p6, .ref p7, .ref p8, .ref p9] [(Str.ofString "calls", b 0), (Str.ofString "clock", b 1), (Str.ofString "line", b 2), (Str.ofString "name", b 3), (Str.ofString "number", b 4), (Str.ofString "row", b 5), (Str.ofString "days", b 6), (Str.ofString "plan", b 7), (Str.ofString "rule", b 8), (Str.ofString "run", b 9)] := (A.imp fun _ _ => WdAt.same (same_new g _)).snoc ⟨p9, rfl, upd_same⟩
  replace S := S.trans (same_new g (.tup [.str (Str.ofString "run"), .bl (b 9)]))
  replace L := same_new g (.tup [.str (Str.ofString "run"), .bl (b 9)]) _ _ L
  generalize upd H16 p9 (.tup [.str (Str.ofString "run"), .bl (b 9)]) = H17 at A S L ⊢
  clear g
  refine ⟨_, rfl, a, C, t.c_NoStop, _, rfl, S _ _ ha, W.i, W.k10, by show 2 ≤ sizeLine; decide, fun p10 g => ?_⟩
  replace A : Al (WdAt (upd H17 p10 (.tup [.str (Str.ofString "stop"), .bl (b 10)]))) [.ref p0, .ref p1, .ref p2, .ref p3, .ref p4, .ref p5, .ref p6, .ref p7, .ref p8, .ref p9, .ref p10] [(Str.ofString "calls", b 0), (Str.ofString "clock", b 1), (Str.ofString "line", b 2), (Str.ofString "name", b 3), (Str.ofString "number", b 4), (Str.ofString "row", b 5), (Str.ofString "days", b 6), (Str.ofString "plan", b 7), (Str.ofString "rule", b 8), (Str.ofString "run", b 9), (Str.ofString "stop", b 10)] := (A.imp fun _ _ => WdAt.same (same_new g _)).snoc ⟨p10, rfl, upd_same⟩
  replace S := S.trans (same_new g (.tup [.str (Str.ofString "stop"), .bl (b 10)]))
  replace L := same_new g (.tup [.str (Str.ofString "stop"), .bl (b 10)]) _ _ L
  generalize upd H17 p10 (.tup [.str (Str.ofString "stop"), .bl (b 10)]) = H18 at A S L ⊢
  clear g
  refine ⟨_, rfl, a, C, t.c_NoTicket, _, rfl, S _ _ ha, W.i, W.k11, by show 2 ≤ sizeLine; decide, fun p11 g => ?_⟩
  replace A : Al (WdAt (upd H18 p11 (.tup [.str (Str.ofString "ticket"), .bl (b 11)]))) [.ref p0, .ref p1, .ref p2, .ref p3, .ref p4, .ref p5, .ref p6, .ref p7, .ref p8, .ref p9, .ref p10, .ref p11] [(Str.ofString "calls", b 0), (Str.ofString "clock", b 1), (Str.ofString "line", b 2), (Str.ofString "name", b 3), (Str.ofString "number", b 4), (Str.ofString "row", b 5), (Str.ofString "days", b 6), (Str.ofString "plan", b 7), (Str.ofString "rule", b 8), (Str.ofString "run", b 9), (Str.ofString "stop", b 10), (Str.ofString "ticket", b 11)] := (A.imp fun _ _ => WdAt.same (same_new g _)).snoc ⟨p11, rfl, upd_same⟩
  replace S := S.trans (same_new g (.tup [.str (Str.ofString "ticket"), .bl (b 11)]))
  replace L := same_new g (.tup [.str (Str.ofString "ticket"), .bl (b 11)]) _ _ L
  generalize upd H18 p11 (.tup [.str (Str.ofString "ticket"), .bl (b 11)]) = H19 at A S L ⊢
  clear g
  refine ⟨by show 3 ≤ sizeLine; decide, fun q4 g => ?_⟩
  replace A := A.imp fun _ _ => WdAt.same (same_new g (.lst [.ref p9, .ref p10, .ref p11]))
  replace S := S.trans (same_new g (.lst [.ref p9, .ref p10, .ref p11]))
  replace L := same_new g (.lst [.ref p9, .ref p10, .ref p11]) _ _ L
  have M : upd H19 q4 (.lst [.ref p9, .ref p10, .ref p11]) q4 = some (.lst [.ref p9, .ref p10, .ref p11]) := upd_same
  generalize upd H19 q4 (.lst [.ref p9, .ref p10, .ref p11]) = H20 at A S M L ⊢
  clear g
  refine ⟨r3, q4, _, _, rfl, rfl, L, M, by show 12 ≤ sizeLine; decide, fun r4 g => ?_⟩
  replace A := A.imp fun _ _ => WdAt.same (same_new g (.lst ([.ref p0, .ref p1, .ref p2, .ref p3, .ref p4, .ref p5, .ref p6, .ref p7, .ref p8] ++ [.ref p9, .ref p10, .ref p11])))
  replace S := S.trans (same_new g (.lst ([.ref p0, .ref p1, .ref p2, .ref p3, .ref p4, .ref p5, .ref p6, .ref p7, .ref p8] ++ [.ref p9, .ref p10, .ref p11])))
  clear L M
  have L : upd H20 r4 (.lst ([.ref p0, .ref p1, .ref p2, .ref p3, .ref p4, .ref p5, .ref p6, .ref p7, .ref p8] ++ [.ref p9, .ref p10, .ref p11])) r4 = some (.lst [.ref p0, .ref p1, .ref p2, .ref p3, .ref p4, .ref p5, .ref p6, .ref p7, .ref p8, .ref p9, .ref p10, .ref p11]) := upd_same
  have hG : upd H20 r4 (.lst ([.ref p0, .ref p1, .ref p2, .ref p3, .ref p4, .ref p5, .ref p6, .ref p7, .ref p8] ++ [.ref p9, .ref p10, .ref p11])) = upd H20 r4 (.lst ([.ref p0, .ref p1, .ref p2, .ref p3, .ref p4, .ref p5, .ref p6, .ref p7, .ref p8] ++ [.ref p9, .ref p10, .ref p11])) := rfl
  generalize upd H20 r4 (.lst ([.ref p0, .ref p1, .ref p2, .ref p3, .ref p4, .ref p5, .ref p6, .ref p7, .ref p8] ++ [.ref p9, .ref p10, .ref p11])) = H21 at A S L hG ⊢
  clear hG g
  refine ⟨_, rfl, ?_⟩
  refine ⟨_, rfl, a, C, t.c_NoTraveller, _, rfl, S _ _ ha, W.i, W.k12, by show 2 ≤ sizeLine; decide, fun p12 g => ?_⟩
  replace A : Al (WdAt (upd H21 p12 (.tup [.str (Str.ofString "traveller"), .bl (b 12)]))) [.ref p0, .ref p1, .ref p2, .ref p3, .ref p4, .ref p5, .ref p6, .ref p7, .ref p8, .ref p9, .ref p10, .ref p11, .ref p12] [(Str.ofString "calls", b 0), (Str.ofString "clock", b 1), (Str.ofString "line", b 2), (Str.ofString "name", b 3), (Str.ofString "number", b 4), (Str.ofString "row", b 5), (Str.ofString "days", b 6), (Str.ofString "plan", b 7), (Str.ofString "rule", b 8), (Str.ofString "run", b 9), (Str.ofString "stop", b 10), (Str.ofString "ticket", b 11), (Str.ofString "traveller", b 12)] := (A.imp fun _ _ => WdAt.same (same_new g _)).snoc ⟨p12, rfl, upd_same⟩
  replace S := S.trans (same_new g (.tup [.str (Str.ofString "traveller"), .bl (b 12)]))
  replace L := same_new g (.tup [.str (Str.ofString "traveller"), .bl (b 12)]) _ _ L
  generalize upd H21 p12 (.tup [.str (Str.ofString "traveller"), .bl (b 12)]) = H22 at A S L ⊢
  clear g
  refine ⟨_, rfl, a, C, t.c_NoTrip, _, rfl, S _ _ ha, W.i, W.k13, by show 2 ≤ sizeLine; decide, fun p13 g => ?_⟩
  replace A : Al (WdAt (upd H22 p13 (.tup [.str (Str.ofString "trip"), .bl (b 13)]))) [.ref p0, .ref p1, .ref p2, .ref p3, .ref p4, .ref p5, .ref p6, .ref p7, .ref p8, .ref p9, .ref p10, .ref p11, .ref p12, .ref p13] [(Str.ofString "calls", b 0), (Str.ofString "clock", b 1), (Str.ofString "line", b 2), (Str.ofString "name", b 3), (Str.ofString "number", b 4), (Str.ofString "row", b 5), (Str.ofString "days", b 6), (Str.ofString "plan", b 7), (Str.ofString "rule", b 8), (Str.ofString "run", b 9), (Str.ofString "stop", b 10), (Str.ofString "ticket", b 11), (Str.ofString "traveller", b 12), (Str.ofString "trip", b 13)] := (A.imp fun _ _ => WdAt.same (same_new g _)).snoc ⟨p13, rfl, upd_same⟩
  replace S := S.trans (same_new g (.tup [.str (Str.ofString "trip"), .bl (b 13)]))
  replace L := same_new g (.tup [.str (Str.ofString "trip"), .bl (b 13)]) _ _ L
  generalize upd H22 p13 (.tup [.str (Str.ofString "trip"), .bl (b 13)]) = H23 at A S L ⊢
  clear g
  refine ⟨by show 2 ≤ sizeLine; decide, fun q5 g => ?_⟩
  replace A := A.imp fun _ _ => WdAt.same (same_new g (.lst [.ref p12, .ref p13]))
  replace S := S.trans (same_new g (.lst [.ref p12, .ref p13]))
  replace L := same_new g (.lst [.ref p12, .ref p13]) _ _ L
  have M : upd H23 q5 (.lst [.ref p12, .ref p13]) q5 = some (.lst [.ref p12, .ref p13]) := upd_same
  generalize upd H23 q5 (.lst [.ref p12, .ref p13]) = H24 at A S M L ⊢
  clear g
  refine ⟨r4, q5, _, _, rfl, rfl, L, M, by show 14 ≤ sizeLine; decide, fun r5 g => ?_⟩
  replace A := A.imp fun _ _ => WdAt.same (same_new g (.lst ([.ref p0, .ref p1, .ref p2, .ref p3, .ref p4, .ref p5, .ref p6, .ref p7, .ref p8, .ref p9, .ref p10, .ref p11] ++ [.ref p12, .ref p13])))
  replace S := S.trans (same_new g (.lst ([.ref p0, .ref p1, .ref p2, .ref p3, .ref p4, .ref p5, .ref p6, .ref p7, .ref p8, .ref p9, .ref p10, .ref p11] ++ [.ref p12, .ref p13])))
  clear L M
  have L : upd H24 r5 (.lst ([.ref p0, .ref p1, .ref p2, .ref p3, .ref p4, .ref p5, .ref p6, .ref p7, .ref p8, .ref p9, .ref p10, .ref p11] ++ [.ref p12, .ref p13])) r5 = some (.lst [.ref p0, .ref p1, .ref p2, .ref p3, .ref p4, .ref p5, .ref p6, .ref p7, .ref p8, .ref p9, .ref p10, .ref p11, .ref p12, .ref p13]) := upd_same
  have hG : upd H24 r5 (.lst ([.ref p0, .ref p1, .ref p2, .ref p3, .ref p4, .ref p5, .ref p6, .ref p7, .ref p8, .ref p9, .ref p10, .ref p11] ++ [.ref p12, .ref p13])) = upd H24 r5 (.lst ([.ref p0, .ref p1, .ref p2, .ref p3, .ref p4, .ref p5, .ref p6, .ref p7, .ref p8, .ref p9, .ref p10, .ref p11] ++ [.ref p12, .ref p13])) := rfl
  generalize upd H24 r5 (.lst ([.ref p0, .ref p1, .ref p2, .ref p3, .ref p4, .ref p5, .ref p6, .ref p7, .ref p8, .ref p9, .ref p10, .ref p11] ++ [.ref p12, .ref p13])) = H25 at A S L hG ⊢
  clear hG g
  refine ⟨_, rfl, ?_⟩
  refine ⟨_, rfl, a, C, t.c_TooLate, _, rfl, S _ _ ha, W.i, W.k14, by show 2 ≤ sizeLine; decide, fun p14 g => ?_⟩
  replace A : Al (WdAt (upd H25 p14 (.tup [.str (Str.ofString "late"), .bl (b 14)]))) [.ref p0, .ref p1, .ref p2, .ref p3, .ref p4, .ref p5, .ref p6, .ref p7, .ref p8, .ref p9, .ref p10, .ref p11, .ref p12, .ref p13, .ref p14] [(Str.ofString "calls", b 0), (Str.ofString "clock", b 1), (Str.ofString "line", b 2), (Str.ofString "name", b 3), (Str.ofString "number", b 4), (Str.ofString "row", b 5), (Str.ofString "days", b 6), (Str.ofString "plan", b 7), (Str.ofString "rule", b 8), (Str.ofString "run", b 9), (Str.ofString "stop", b 10), (Str.ofString "ticket", b 11), (Str.ofString "traveller", b 12), (Str.ofString "trip", b 13), (Str.ofString "late", b 14)] := (A.imp fun _ _ => WdAt.same (same_new g _)).snoc ⟨p14, rfl, upd_same⟩
  replace S := S.trans (same_new g (.tup [.str (Str.ofString "late"), .bl (b 14)]))
  replace L := same_new g (.tup [.str (Str.ofString "late"), .bl (b 14)]) _ _ L
  generalize upd H25 p14 (.tup [.str (Str.ofString "late"), .bl (b 14)]) = H26 at A S L ⊢
  clear g
  refine ⟨_, rfl, a, C, t.c_TooMany, _, rfl, S _ _ ha, W.i, W.k15, by show 2 ≤ sizeLine; decide, fun p15 g => ?_⟩
  replace A : Al (WdAt (upd H26 p15 (.tup [.str (Str.ofString "many"), .bl (b 15)]))) [.ref p0, .ref p1, .ref p2, .ref p3, .ref p4, .ref p5, .ref p6, .ref p7, .ref p8, .ref p9, .ref p10, .ref p11, .ref p12, .ref p13, .ref p14, .ref p15] [(Str.ofString "calls", b 0), (Str.ofString "clock", b 1), (Str.ofString "line", b 2), (Str.ofString "name", b 3), (Str.ofString "number", b 4), (Str.ofString "row", b 5), (Str.ofString "days", b 6), (Str.ofString "plan", b 7), (Str.ofString "rule", b 8), (Str.ofString "run", b 9), (Str.ofString "stop", b 10), (Str.ofString "ticket", b 11), (Str.ofString "traveller", b 12), (Str.ofString "trip", b 13), (Str.ofString "late", b 14), (Str.ofString "many", b 15)] := (A.imp fun _ _ => WdAt.same (same_new g _)).snoc ⟨p15, rfl, upd_same⟩
  replace S := S.trans (same_new g (.tup [.str (Str.ofString "many"), .bl (b 15)]))
  replace L := same_new g (.tup [.str (Str.ofString "many"), .bl (b 15)]) _ _ L
  generalize upd H26 p15 (.tup [.str (Str.ofString "many"), .bl (b 15)]) = H27 at A S L ⊢
  clear g
  refine ⟨_, rfl, a, C, t.c_Twice, _, rfl, S _ _ ha, W.i, W.k16, by show 2 ≤ sizeLine; decide, fun p16 g => ?_⟩
  replace A : Al (WdAt (upd H27 p16 (.tup [.str (Str.ofString "twice"), .bl (b 16)]))) [.ref p0, .ref p1, .ref p2, .ref p3, .ref p4, .ref p5, .ref p6, .ref p7, .ref p8, .ref p9, .ref p10, .ref p11, .ref p12, .ref p13, .ref p14, .ref p15, .ref p16] [(Str.ofString "calls", b 0), (Str.ofString "clock", b 1), (Str.ofString "line", b 2), (Str.ofString "name", b 3), (Str.ofString "number", b 4), (Str.ofString "row", b 5), (Str.ofString "days", b 6), (Str.ofString "plan", b 7), (Str.ofString "rule", b 8), (Str.ofString "run", b 9), (Str.ofString "stop", b 10), (Str.ofString "ticket", b 11), (Str.ofString "traveller", b 12), (Str.ofString "trip", b 13), (Str.ofString "late", b 14), (Str.ofString "many", b 15), (Str.ofString "twice", b 16)] := (A.imp fun _ _ => WdAt.same (same_new g _)).snoc ⟨p16, rfl, upd_same⟩
  replace S := S.trans (same_new g (.tup [.str (Str.ofString "twice"), .bl (b 16)]))
  replace L := same_new g (.tup [.str (Str.ofString "twice"), .bl (b 16)]) _ _ L
  generalize upd H27 p16 (.tup [.str (Str.ofString "twice"), .bl (b 16)]) = H28 at A S L ⊢
  clear g
  refine ⟨by show 3 ≤ sizeLine; decide, fun q6 g => ?_⟩
  replace A := A.imp fun _ _ => WdAt.same (same_new g (.lst [.ref p14, .ref p15, .ref p16]))
  replace S := S.trans (same_new g (.lst [.ref p14, .ref p15, .ref p16]))
  replace L := same_new g (.lst [.ref p14, .ref p15, .ref p16]) _ _ L
  have M : upd H28 q6 (.lst [.ref p14, .ref p15, .ref p16]) q6 = some (.lst [.ref p14, .ref p15, .ref p16]) := upd_same
  generalize upd H28 q6 (.lst [.ref p14, .ref p15, .ref p16]) = H29 at A S M L ⊢
  clear g
  refine ⟨r5, q6, _, _, rfl, rfl, L, M, by show 17 ≤ sizeLine; decide, fun r6 g => ?_⟩
  replace A := A.imp fun _ _ => WdAt.same (same_new g (.lst ([.ref p0, .ref p1, .ref p2, .ref p3, .ref p4, .ref p5, .ref p6, .ref p7, .ref p8, .ref p9, .ref p10, .ref p11, .ref p12, .ref p13] ++ [.ref p14, .ref p15, .ref p16])))
  replace S := S.trans (same_new g (.lst ([.ref p0, .ref p1, .ref p2, .ref p3, .ref p4, .ref p5, .ref p6, .ref p7, .ref p8, .ref p9, .ref p10, .ref p11, .ref p12, .ref p13] ++ [.ref p14, .ref p15, .ref p16])))
  clear L M
  have L : upd H29 r6 (.lst ([.ref p0, .ref p1, .ref p2, .ref p3, .ref p4, .ref p5, .ref p6, .ref p7, .ref p8, .ref p9, .ref p10, .ref p11, .ref p12, .ref p13] ++ [.ref p14, .ref p15, .ref p16])) r6 = some (.lst [.ref p0, .ref p1, .ref p2, .ref p3, .ref p4, .ref p5, .ref p6, .ref p7, .ref p8, .ref p9, .ref p10, .ref p11, .ref p12, .ref p13, .ref p14, .ref p15, .ref p16]) := upd_same
  have hG : upd H29 r6 (.lst ([.ref p0, .ref p1, .ref p2, .ref p3, .ref p4, .ref p5, .ref p6, .ref p7, .ref p8, .ref p9, .ref p10, .ref p11, .ref p12, .ref p13] ++ [.ref p14, .ref p15, .ref p16])) = upd H29 r6 (.lst ([.ref p0, .ref p1, .ref p2, .ref p3, .ref p4, .ref p5, .ref p6, .ref p7, .ref p8, .ref p9, .ref p10, .ref p11, .ref p12, .ref p13] ++ [.ref p14, .ref p15, .ref p16])) := rfl
  generalize upd H29 r6 (.lst ([.ref p0, .ref p1, .ref p2, .ref p3, .ref p4, .ref p5, .ref p6, .ref p7, .ref p8, .ref p9, .ref p10, .ref p11, .ref p12, .ref p13] ++ [.ref p14, .ref p15, .ref p16])) = H30 at A S L hG ⊢
  clear hG g
  refine ⟨_, rfl, r6, rfl, ⟨_, SqL.of L⟩, comp_list (K := K) (a := r6) (xs := [.ref p0, .ref p1, .ref p2, .ref p3, .ref p4, .ref p5, .ref p6, .ref p7, .ref p8, .ref p9, .ref p10, .ref p11, .ref p12, .ref p13, .ref p14, .ref p15, .ref p16]) (fun i acc σ H' => H' = H30 ∧ acc = ((([(Str.ofString "calls", b 0), (Str.ofString "clock", b 1), (Str.ofString "line", b 2), (Str.ofString "name", b 3), (Str.ofString "number", b 4), (Str.ofString "row", b 5), (Str.ofString "days", b 6), (Str.ofString "plan", b 7), (Str.ofString "rule", b 8), (Str.ofString "run", b 9), (Str.ofString "stop", b 10), (Str.ofString "ticket", b 11), (Str.ofString "traveller", b 12), (Str.ofString "trip", b 13), (Str.ofString "late", b 14), (Str.ofString "many", b 15), (Str.ofString "twice", b 16)].take i).filter (·.2)).map (·.1)).map V.str ∧ ∃ v u, σ = [v, u]) ⟨rfl, rfl, _, _, rfl⟩ (by show 17 ≤ sizeLine; decide) (fun i acc σ H' _ ⟨e, _⟩ => by rw [e]; exact SqL.of L) ?_ ?_⟩
  · rintro i y acc σ H' hi hy ⟨rfl, rfl, v, u, rfl⟩
    obtain ⟨x, ex, p, rfl, hp⟩ := A.get hy
    refine ⟨p, _, rfl, SqT.of hp, rfl, _, _, rfl, _, _, rfl, rfl, _, rfl, _, rfl, ?_⟩
    rw [List.take_add_one, ex, List.filter_append]
    cases hx : x.2 with
    | true =>
      refine itT rfl ⟨_, rfl, by rw [List.length_append, List.length_singleton]; omega, rfl, ?_, _, _, rfl⟩
      have f : (some x).toList.filter (fun w : Str × Bool => w.2) = [x] := by
        show [x].filter (fun w : Str × Bool => w.2) = [x]
        rw [List.filter_cons, hx]
        rfl
      rw [f, List.map_append, List.map_append]
      rfl
    | false =>
      refine itF Bool.false_ne_true ⟨by omega, rfl, ?_, _, _, rfl⟩
      have f : (some x).toList.filter (fun w : Str × Bool => w.2) = [] := by
        show [x].filter (fun w : Str × Bool => w.2) = []
        rw [List.filter_cons, hx]
        rfl
      rw [f, List.append_nil]
  · rintro acc σ H' ha' ⟨rfl, rfl, v, u, rfl⟩ pa ga
    have ew : (([(Str.ofString "calls", b 0), (Str.ofString "clock", b 1), (Str.ofString "line", b 2), (Str.ofString "name", b 3), (Str.ofString "number", b 4), (Str.ofString "row", b 5), (Str.ofString "days", b 6), (Str.ofString "plan", b 7), (Str.ofString "rule", b 8), (Str.ofString "run", b 9), (Str.ofString "stop", b 10), (Str.ofString "ticket", b 11), (Str.ofString "traveller", b 12), (Str.ofString "trip", b 13), (Str.ofString "late", b 14), (Str.ofString "many", b 15), (Str.ofString "twice", b 16)].take [V.ref p0, V.ref p1, V.ref p2, V.ref p3, V.ref p4, V.ref p5, V.ref p6, V.ref p7, V.ref p8, V.ref p9, V.ref p10, V.ref p11, V.ref p12, V.ref p13, V.ref p14, V.ref p15, V.ref p16].length).filter (·.2)).map (·.1) = wordOf b := rfl
    rw [ew]
    have s1 := same_new ga (.lst ((wordOf b).map V.str))
    refine ⟨by show 1 ≤ sizeLine; decide, fun pb gb => ?_⟩
    have s2 := same_new gb (.lst [.str (Str.ofString "else")])
    refine ⟨_, rfl, a, C, "ValueError", _, rfl, s2 _ _ (s1 _ _ (S _ _ ha)), W.i, W.v, _, rfl, _, rfl, ?_⟩
    refine ⟨pb, 0, _, rfl, rfl, upd_same, by decide, by decide, by show 1 * 0 ≤ sizeLine; decide, fun pc gc => ?_⟩
    have s3 := same_new gc (.lst [])
    have lw : (wordOf b).length ≤ 17 := by
      unfold wordOf
      rw [List.length_map]
      exact Nat.le_trans (List.length_filter_le _ _) (by rw [List.length_map, List.length_range]; exact Nat.le_refl _)
    refine ⟨pa, pc, _, _, rfl, rfl, s3 _ _ (s2 _ _ upd_same), upd_same, Nat.le_trans (show _ ≤ 17 by rw [List.length_map]; show _ + 0 ≤ 17; omega) (by decide), fun pd gd => ?_⟩
    refine q pd _ ((((S.trans s1).trans s2).trans s3).trans (same_new gd _)) ?_
    rw [upd_same]
    show some (HO.lst (_ ++ [])) = _
    rw [List.append_nil]

def knV (rows : List (Key × V)) : V → Bool
  | .str z => (valV rows (Sum.inr z)).isSome
  | _ => false
def spKnownG : Sp := fun vs H Q _ => ∃ (v : V) (T : String) (d : Addr) (kvs : List (Key × V)), vs = [v, .ref d] ∧ Kd H v T ∧ H d = some (.dK kvs) ∧ Q (.bl (knV kvs v)) H
theorem ok_is_known_g (Tx : Tab K mg t) : FnOk P w K mg base CX0 1 t.f_is_known t.d_is_known ["value", "named"] spKnownG := by
  refine Tx.F_is_known.ok sc_is_known (fun vs H Q E h => ?_) (fun cdv A outer s H vs Q E hr h => ?_)
  · obtain ⟨v, T, d, kvs, rfl, _⟩ := h
    rfl
  obtain ⟨v, T, d, kvs, rfl, kd, hd, q⟩ := h
  refine ⟨_, (pss_one (ps_ret (pe_and (pe_callB call_isi_ty rfl Tx.z_isinstance b_isinstance (pac (pv 0) (pac (pe_gty rfl Tx.z_str b_str) pa_nil))) (pe_one (pe_cmp (pc_din (hu_of hr) (pv 0) (pv 1))))))), ?_⟩
  refine ⟨_, rfl, v, "str", _, _, rfl, kd.ty, kit_str kd, _, rfl, ?_⟩
  cases kd with
  | non => exact itF (by decide) q
  | bl b => exact itF (by decide) q
  | int i => exact itF (by decide) q
  | lst e => exact itF (by decide) q
  | tup e => exact itF (by decide) q
  | dK e => exact itF (by decide) q
  | str z => exact itT (by decide) ⟨_, rfl, _, rfl, d, _, rfl, DGet.k (k := Sum.inr z) hd, q⟩
def inN (NS : List Str) : V → Prop
  | .str z => z ∈ NS
  | _ => False
theorem kn_in {rows : List (Key × V)} {NS : List Str} (h : KnR rows NS) {v : V} (n : ¬ inN NS v) : knV rows v = false := by
  cases v with
  | str z => show (valV rows (Sum.inr z)).isSome = false; rw [h.2 z n]; rfl
  | _ => rfl
theorem in_kn {rows : List (Key × V)} {NS : List Str} (h : KnR rows NS) {v : V} (n : inN NS v) : knV rows v = true := by
  cases v with
  | str z => show (valV rows (Sum.inr z)).isSome = true; rw [h.1 z n]; rfl
  | _ => exact n.elim
def spNoStop (t : Adr) : Sp := fun vs H Q E => ∃ (x : Addr) (NS : List Str) (f : Fd) (a b : V) (Ta Tb : String), vs = [.ref x, a, b] ∧ FeetAt t H x NS f ∧ Kd H a Ta ∧ Kd H b Tb ∧ (¬ inN NS a ∨ ¬ inN NS b) ∧ ∀ H', Same H H' → E (.ref t.c_NoStop) none H'
open Classical in
theorem ok_Feet_between_x (Tx : Tab K mg t) : FnOk P w K mg base (CXO P w) 2 t.f_Feet_between t.d_Feet_between ["self", "one", "other"] (spNoStop t) := by
  refine Tx.F_Feet_between.okX sc_Feet_between (fun vs H Q E h => ?_) (fun cdv A outer s H vs Q E hr h => ?_)
  · obtain ⟨x, NS, f, a, b, Ta, Tb, rfl, _⟩ := h
    rfl
  obtain ⟨x, NS, f, a, b, Ta, Tb, rfl, ⟨dx, fs, dk, df, c, rows, hx, hF, hk, hrow, _⟩, ka, kb, hab, e⟩ := h
  refine ⟨_, (pss_cons (ps_for PassesOwn.leaving rfl (pi_tup (pe_tup (pac (pv 1) (pac (pv 2) pa_nil)))) (pg_name (i := 3) sc_Feet_between.nd rfl (Or.inl rfl))
    (pss_one (ps_if (pt_not (pt_val (pe_call (ok_is_known_g Tx) (hr.mono (by omega)) rfl Tx.m_is_known Tx.F_is_known.kp Tx.b_is_known .nil pass0 (pac (pv 3) (pac (pe_fld (pv 0) rfl) pa_nil)))))
    (pss_one (ps_raise raises_fn Tx.e_NoStop rfl rfl Tx.m_NoStop (pac pe_str pa_nil)))
    pss_nil)))
    (pss_one (ps_ret (pe_dget1 (hu_of hr) (pe_fld (pv 0) rfl) (pe_tup (pac (pv 1) (pac (pv 2) pa_nil))) ⟨rfl, rfl, rfl, rfl⟩)))), ?_⟩
  refine ⟨_, rfl, _, rfl, by show 2 ≤ sizeLine; decide, fun p g => ?_⟩
  have u := same_new g (.tup [a, b])
  have hp := @upd_same H p (.tup [a, b])
  generalize upd H p (.tup [a, b]) = H1 at u hp ⊢
  refine ⟨p, rfl, ⟨_, SqT.of hp⟩, for_tup (xs := [a, b]) (fun i σ H' => H' = H1 ∧ (1 ≤ i → inN NS a) ∧ (2 ≤ i → inN NS b) ∧ ∃ v3 : Option V, σ = [some (.ref x), some a, some b, v3]) ⟨rfl, fun h => absurd h (by omega), fun h => absurd h (by omega), _, rfl⟩ (fun i σ H' _ ⟨e, _⟩ => by rw [e]; exact SqT.of hp) ?_ ?_⟩
  · rintro i v σ H2 hi ⟨rfl, i1, i2, v3, rfl⟩
    obtain ⟨T, kd, nx⟩ : ∃ T, Kd H2 v T ∧ (inN NS v → (1 ≤ i + 1 → inN NS a) ∧ (2 ≤ i + 1 → inN NS b)) := by
      match i, hi with
      | 0, hi => cases hi; exact ⟨Ta, ka.same u, fun h => ⟨fun _ => h, fun h => absurd h (by omega)⟩⟩
      | 1, hi => cases hi; exact ⟨Tb, kb.same u, fun h => ⟨fun _ => i1 (by omega), fun _ => h⟩⟩
      | m + 2, hi => cases hi
    refine ⟨_, rfl, _, rfl, x, _, dx, _, _, rfl, u _ _ hx, Tx.cl_Feet, Tx.na_Feet_known, hF.fk, v, T, dk, rows, rfl, kd, u _ _ hk, _, rfl, ?_⟩
    by_cases c : inN NS v
    · rw [in_kn hrow c]
      exact itF (by decide) ⟨rfl, (nx c).1, (nx c).2, _, rfl⟩
    · rw [kn_in hrow c]
      exact itT (by decide) ⟨by show 1 ≤ sizeLine; decide, e _ u⟩
  · rintro σ H2 ⟨rfl, i1, i2, v3, rfl⟩
    rcases hab with h | h
    · exact absurd (i1 (by show 1 ≤ 2; decide)) h
    · exact absurd (i2 (by show 2 ≤ 2; decide)) h
theorem ok_Feet_minutes_x (Tx : Tab K mg t) : FnOk P w K mg base (CXO P w) 3 t.f_Feet_minutes t.d_Feet_minutes ["self", "one", "other"] (spNoStop t) := by
  refine Tx.F_Feet_minutes.okX sc_Feet_minutes (fun vs H Q E h => ?_) (fun cdv A outer s H vs Q E hr h => ?_)
  · obtain ⟨x, NS, f, a, b, Ta, Tb, rfl, _⟩ := h
    rfl
  obtain ⟨x, NS, f, a, b, Ta, Tb, rfl, hA, ka, kb, hab, e⟩ := h
  obtain ⟨dx, fs, dk, df, c, rows, hx, hF, _⟩ := id hA
  refine ⟨_, (pss_cons (ps_set (i := 3) sc_Feet_minutes.nd rfl (Or.inl rfl) (pe_meth (pv 0) Tx.cl_Feet Tx.me_Feet_between (ok_Feet_between_x Tx) (hr.mono (by omega)) Tx.b_Feet_between .nil passes_fn (pac (pv 1) (pac (pv 2) pa_nil))))
    (pss_one (ps_ret (pe_ifExp (pt_cmp (pc_isN (pv 3))) pe_non (pe_ix ix_tup (pv 3) pe_int (fun _ _ => rfl)))))), ?_⟩
  exact ⟨_, rfl, x, dx, _, rfl, hx, hF.n2, _, rfl, _, rfl, x, NS, f, a, b, Ta, Tb, rfl, hA, ka, kb, hab, e⟩
theorem ok_Feet_way_x (Tx : Tab K mg t) : FnOk P w K mg base (CXO P w) 3 t.f_Feet_way t.d_Feet_way ["self", "one", "other"] (spNoStop t) := by
  refine Tx.F_Feet_way.okX sc_Feet_way (fun vs H Q E h => ?_) (fun cdv A outer s H vs Q E hr h => ?_)
  · obtain ⟨x, NS, f, a, b, Ta, Tb, rfl, _⟩ := h
    rfl
  obtain ⟨x, NS, f, a, b, Ta, Tb, rfl, hA, ka, kb, hab, e⟩ := h
  obtain ⟨dx, fs, dk, df, c, rows, hx, hF, _⟩ := id hA
  refine ⟨_, (pss_cons (ps_set (i := 3) sc_Feet_way.nd rfl (Or.inl rfl) (pe_meth (pv 0) Tx.cl_Feet Tx.me_Feet_between (ok_Feet_between_x Tx) (hr.mono (by omega)) Tx.b_Feet_between .nil passes_fn (pac (pv 1) (pac (pv 2) pa_nil))))
    (pss_one (ps_ret (pe_ifExp (pt_cmp (pc_isN (pv 3))) pe_non (pe_callTy call_list_of rfl Tx.z_list b_list (pac (pe_ix ix_tup (pv 3) pe_int (fun _ _ => rfl)) pa_nil)))))), ?_⟩
  exact ⟨_, rfl, x, dx, _, rfl, hx, hF.n2, _, rfl, _, rfl, x, NS, f, a, b, Ta, Tb, rfl, hA, ka, kb, hab, e⟩

theorem word_stop : wordOf (fun i => decide (i = 10)) = [Str.ofString "stop"] := by decide +kernel
def spRefused (t : Adr) : Sp := fun vs H Q _ => ∃ (x : Addr) (wy : Int) (NS : List Str) (f : Fd) (a b : V) (Ta Tb : String), vs = [.ref x, .int wy, a, b] ∧ FeetAt t H x NS f ∧ Kd H a Ta ∧ Kd H b Tb ∧ (¬ inN NS a ∨ ¬ inN NS b) ∧ ∀ l H', Same H H' → H' l = some (.lst [.str (Str.ofString "stop")]) → Q (.ref l) H'
theorem ok_law_refused (Tx : Tab K mg t) : FnOk P w K mg base CX0 5 t.f_law_refused t.d_law_refused ["_law_feet", "_law_way", "_law_one", "_law_other"] (spRefused t) := by
  refine Tx.F_law_refused.ok sc_law_refused (fun vs H Q E h => ?_) (fun cdv A outer s H vs Q E hr h => ?_)
  · obtain ⟨x, wy, NS, f, a, b, Ta, Tb, rfl, _⟩ := h
    rfl
  obtain ⟨x, wy, NS, f, a, b, Ta, Tb, rfl, hA, ka, kb, hab, q⟩ := h
  obtain ⟨dx, fs, dk, df, c, rows, hx, hF, _⟩ := id hA
  refine ⟨_, (pss_cons (ps_set (i := 4) sc_law_refused.nd rfl (Or.inl rfl) pe_non)
    (pss_cons (ps_try (i := 5) ⟨rfl, rfl⟩ rfl sc_law_refused.nd rfl rfl rfl Tx.m_RoadError
    (fun pins Kx => (pss_one (ps_if (pt_cmpR op_eq (pv 1) pe_int (nomark _))
    (pss_one (ps_expr (pe_meth (pv 0) Tx.cl_Feet Tx.me_Feet_minutes (ok_Feet_minutes_x Tx) (hr.mono (by omega)) Tx.b_Feet_minutes .nil passes_try (pac (pv 2) (pac (pv 3) pa_nil)))))
    (pss_one (ps_expr (pe_meth (pv 0) Tx.cl_Feet Tx.me_Feet_way (ok_Feet_way_x Tx) (hr.mono (by omega)) Tx.b_Feet_way .nil passes_try (pac (pv 2) (pac (pv 3) pa_nil))))))))
    (fun a => (pss_one (ps_set (i := 4) sc_law_refused.nd rfl (Or.inl rfl) (pv 5)))))
    (pss_one (ps_ret (pe_ifExp (pt_cmp (pc_isN (pv 4))) (pe_lst pa_nil) (pe_call (ok_law_word Tx) (hr.mono (by omega)) rfl Tx.m_law_word Tx.F_law_word.kp Tx.b_law_word .nil pass0 (pac (pv 4) pa_nil))))))), ?_⟩
  refine ⟨_, rfl, rfl, _, rfl, ?_⟩
  by_cases h0 : wy = 0
  · subst h0
    refine itT (by decide) ⟨_, rfl, x, dx, _, rfl, hx, hF.n3, _, rfl, _, rfl, x, NS, f, a, b, Ta, Tb, rfl, hA, ka, kb, hab, fun H1 s1 => ⟨Tx.x_NoStop, fun e he => ?_⟩⟩
    refine ⟨_, rfl, _, rfl, _, rfl, itF (by intro y; cases y) ⟨_, rfl, e, t.c_NoStop, _, rfl, upd_same, wd_NoStop Tx, fun l H' s' hl => q l H' ((s1.trans (same_new he _)).trans s') ?_⟩⟩
    rw [word_stop] at hl
    exact hl
  · refine itF (by show ¬ decide (V.int wy = V.int 0) = true; rw [dec_int]; simpa using h0) ⟨_, rfl, x, dx, _, rfl, hx, hF.n4, _, rfl, _, rfl, x, NS, f, a, b, Ta, Tb, rfl, hA, ka, kb, hab, fun H1 s1 => ⟨Tx.x_NoStop, fun e he => ?_⟩⟩
    refine ⟨_, rfl, _, rfl, _, rfl, itF (by intro y; cases y) ⟨_, rfl, e, t.c_NoStop, _, rfl, upd_same, wd_NoStop Tx, fun l H' s' hl => q l H' ((s1.trans (same_new he _)).trans s') ?_⟩⟩
    rw [word_stop] at hl
    exact hl

structure Fit (t : Adr) (H : Hp) (x ln li tb : Addr) (NS : List Str) (vi : List V) (IW : List Iw) (f : Fd) (ps : List Addr) (RS : Nat → List (Option Nat)) : Prop where
  ft : FeetAt t H x NS f
  ln : H ln = some (.lst (NS.map V.str))
  li : H li = some (.lst vi)
  al : Al (IAt H) vi IW
  tb : TabAt H tb ps RS
  nd : NS.Nodup
  okN : ∀ z ∈ NS, NameOk z
  ok : IOk NS.length IW
  w12 : IW.length ≤ 12
  B : Fw.Best (EW (wlsOf NS IW)) NS f
  bd : ∀ i j p, f i j = some p → p.1 ≤ 15360
  lp : ps.length = NS.length
  due : ∀ i j, i < NS.length → j < NS.length → (RS i)[j]? = some ((f (NS.getD i Str.empty) (NS.getD j Str.empty)).map (·.1))
theorem Fit.same {H H' : Hp} {x ln li tb : Addr} {NS : List Str} {vi : List V} {IW : List Iw} {f : Fd} {ps : List Addr} {RS : Nat → List (Option Nat)} (s : Same H H') (F : Fit t H x ln li tb NS vi IW f ps RS) : Fit t H' x ln li tb NS vi IW f ps RS :=
  ⟨F.ft.same s, s _ _ F.ln, s _ _ F.li, F.al.imp fun _ _ => IAt.same s, F.tb.same s, F.nd, F.okN, F.ok, F.w12, F.B, F.bd, F.lp, F.due⟩
theorem name_at {NS : List Str} {j : Nat} (hj : j < NS.length) : atI (NS.map V.str) ((j : Nat) : Int) = some (.str (NS.getD j Str.empty)) := atI_nat (by rw [List.getElem?_map, List.getElem?_eq_getElem hj, getD_in hj]; rfl)
def spRight (t : Adr) : Sp := fun vs H Q _ => ∃ (x ln li tb : Addr) (i j : Nat) (NS : List Str) (vi : List V) (IW : List Iw) (f : Fd) (ps : List Addr) (RS : Nat → List (Option Nat)), vs = [.ref x, .ref ln, .ref li, .ref tb, .int (i : Nat), .int (j : Nat)] ∧ Fit t H x ln li tb NS vi IW f ps RS ∧ i < NS.length ∧ j < NS.length ∧ ∀ H', Same H H' → Q (.bl true) H'
theorem ok_law_right (Tx : Tab K mg t) : FnOk P w K mg base CX0 4 t.f_law_right t.d_law_right ["_law_feet", "_law_names_here", "_law_walks_here", "_law_table_here", "_law_one", "_law_other"] (spRight t) := by
  refine Tx.F_law_right.ok sc_law_right (fun vs H Q E h => ?_) (fun cdv A outer s H vs Q E hr h => ?_)
  · obtain ⟨x, ln, li, tb, i, j, NS, vi, IW, f, ps, RS, rfl, _⟩ := h
    rfl
  obtain ⟨x, ln, li, tb, i, j, NS, vi, IW, f, ps, RS, rfl, F, hi, hj, q⟩ := h
  obtain ⟨p, ep⟩ : ∃ p, ps[i]? = some p := ⟨_, List.getElem?_eq_getElem (by rw [F.lp]; exact hi)⟩
  have hp := F.tb.2.2.2 i p ep
  have wk := wls_ok F.nd F.ok F.w12
  have hiN := getD_mem hi
  have hjN := getD_mem hj
  have dueI := F.due i j hi hj
  obtain ⟨dx, fs, dk, df, c, rows, hx, hFF, _⟩ := id F.ft
  refine ⟨_, (pss_cons (ps_set (i := 6) sc_law_right.nd rfl (Or.inl rfl) (pe_ix ix_list (pe_ix ix_list (pv 3) (pv 4) (fun _ _ => rfl)) (pv 5) (fun _ _ => rfl)))
    (pss_cons (ps_set (i := 7) sc_law_right.nd rfl (Or.inl rfl) (pe_meth (pv 0) Tx.cl_Feet Tx.me_Feet_minutes (ok_Feet_minutes Tx) (hr.mono (by omega)) Tx.b_Feet_minutes .nil pass0 (pac (pe_ix ix_list (pv 1) (pv 4) (fun _ _ => rfl)) (pac (pe_ix ix_list (pv 1) (pv 5) (fun _ _ => rfl)) pa_nil))))
    (pss_cons (ps_if (PW.pt (pw_or (pt_cmpR op_ne (pv 7) (pv 6) (nomark _)) (pw_or (pt_val (pe_callB call_isi_ty rfl Tx.z_isinstance b_isinstance (pac (pv 7) (pac (pe_gty rfl Tx.z_bool b_bool) pa_nil)))) (pw_or1 (PW.pt (pw_and (pt_cmp (pc_notN (pv 7))) (pw_and1 (pt_not (pt_val (pe_callB call_isi_ty rfl Tx.z_isinstance b_isinstance (pac (pv 7) (pac (pe_gty rfl Tx.z_int b_int) pa_nil))))))))))))
    (pss_one (ps_ret pe_bl))
    pss_nil)
    (pss_cons (ps_set (i := 8) sc_law_right.nd rfl (Or.inl rfl) (pe_meth (pv 0) Tx.cl_Feet Tx.me_Feet_way (ok_Feet_way Tx) (hr.mono (by omega)) Tx.b_Feet_way .nil pass0 (pac (pe_ix ix_list (pv 1) (pv 4) (fun _ _ => rfl)) (pac (pe_ix ix_list (pv 1) (pv 5) (fun _ _ => rfl)) pa_nil))))
    (pss_cons (ps_if (pt_not (pt_val (pe_call (ok_law_way_right Tx) (hr.mono (by omega)) rfl Tx.m_law_way_right Tx.F_law_way_right.kp Tx.b_law_way_right .nil pass0 (pac (pv 8) (pac (pv 1) (pac (pv 2) (pac (pv 4) (pac (pv 5) (pac (pv 6) pa_nil)))))))))
    (pss_one (ps_ret pe_bl))
    pss_nil)
    (pss_cons (ps_if (pt_cmp (pc_notN (pv 8)))
    (pss_cons (ps_expr (pe_bm0 PySem.F.plainAttrs_list PySem.F.slot_list_reverse PySem.F.type_list_reverse mt_reverse (pv 8)))
    (pss_one (ps_expr (pe_bm PySem.F.plainAttrs_list PySem.F.slot_list_append PySem.F.type_list_append mt_append (pv 8) (pac pe_str pa_nil)))))
    pss_nil)
    (pss_one (ps_ret (pe_call (ok_law_way_right Tx) (hr.mono (by omega)) rfl Tx.m_law_way_right Tx.F_law_way_right.kp Tx.b_law_way_right .nil pass0 (pac (pe_meth (pv 0) Tx.cl_Feet Tx.me_Feet_way (ok_Feet_way Tx) (hr.mono (by omega)) Tx.b_Feet_way .nil pass0 (pac (pe_ix ix_list (pv 1) (pv 4) (fun _ _ => rfl)) (pac (pe_ix ix_list (pv 1) (pv 5) (fun _ _ => rfl)) pa_nil))) (pac (pv 1) (pac (pv 2) (pac (pv 4) (pac (pv 5) (pac (pv 6) pa_nil))))))))))))))), ?_⟩
  refine ⟨_, rfl, _, rfl, tb, _, _, _, rfl, rfl, SqL.of F.tb.1, F.tb.at ep, _, rfl, p, _, _, _, rfl, rfl, SqL.of hp, oV_at dueI, ?_⟩
  refine ⟨_, rfl, x, dx, _, rfl, hx, hFF.n3, _, rfl, _, rfl, ln, _, _, _, rfl, rfl, SqL.of F.ln, name_at hi, _, rfl, _, rfl, ln, _, _, _, rfl, rfl, SqL.of F.ln, name_at hj, x, NS, f, _, _, rfl, F.ft, hiN, hjN, fun H1 s1 => ?_⟩
  have F1 := F.same s1
  have hx1 := s1 _ _ hx
  cases e : f (NS.getD i Str.empty) (NS.getD j Str.empty) with
  | none =>
    rw [show minV none = .non from rfl, show oV (Option.map (fun q : Nat × List Str => q.1) none) = .non from rfl]
    refine ⟨_, rfl, _, rfl, rfl, _, rfl, itF (by decide) ?_⟩
    refine ⟨_, rfl, .non, "bool", _, _, rfl, (Kd.non (H := H1)).ty, kit_bool (H := H1) .non, _, rfl, itF (by decide) ?_⟩
    refine ⟨_, rfl, _, rfl, itF (by decide) ?_⟩
    refine ⟨_, rfl, x, dx, _, rfl, hx1, hFF.n4, _, rfl, _, rfl, ln, _, _, _, rfl, rfl, SqL.of F1.ln, name_at hi, _, rfl, _, rfl, ln, _, _, _, rfl, rfl, SqL.of F1.ln, name_at hj, x, NS, f, _, _, rfl, F1.ft, hiN, hjN, (fun _ H2 s2 => ?_), fun p' e' => by rw [e] at e'; cases e'⟩
    have F2 := F1.same s2
    refine ⟨_, rfl, _, rfl, _, rfl, _, rfl, _, rfl, _, rfl, .non, ln, li, i, j, .non, NS, vi, IW, rfl, F2.ln, F2.li, F2.al, F.nd, F.okN, F.ok, F.w12, hi, hj, .inl ⟨rfl, rfl⟩, fun H3 s3 => ⟨true, rfl, itF (by decide) ?_⟩⟩
    have F3 := F2.same s3
    refine ⟨_, rfl, _, rfl, itF (by decide) ?_⟩
    refine ⟨_, rfl, x, dx, _, rfl, (s2.trans s3) _ _ hx1, hFF.n4, _, rfl, _, rfl, ln, _, _, _, rfl, rfl, SqL.of F3.ln, name_at hi, _, rfl, _, rfl, ln, _, _, _, rfl, rfl, SqL.of F3.ln, name_at hj, x, NS, f, _, _, rfl, F3.ft, hiN, hjN, (fun _ H4 s4 => ?_), fun p' e' => by rw [e] at e'; cases e'⟩
    have F4 := F3.same s4
    exact ⟨_, rfl, _, rfl, _, rfl, _, rfl, _, rfl, .non, ln, li, i, j, .non, NS, vi, IW, rfl, F4.ln, F4.li, F4.al, F.nd, F.okN, F.ok, F.w12, hi, hj, .inl ⟨rfl, rfl⟩, fun H5 s5 => q _ ((((s1.trans s2).trans s3).trans s4).trans s5)⟩
  | some m =>
    rw [show minV (some m) = .int (m.1 : Nat) from rfl, show oV (Option.map (fun q : Nat × List Str => q.1) (some m)) = .int (m.1 : Nat) from rfl]
    have pt := F.B.snd _ _ _ e
    have pl := pt.len wk.one
    have pb := F.bd _ _ _ e
    refine ⟨_, rfl, _, rfl, rfl, _, rfl, itF (by show ¬ (!decide (V.int ((m.1 : Nat) : Int) = V.int ((m.1 : Nat) : Int))) = true; simp) ?_⟩
    refine ⟨_, rfl, .int (m.1 : Nat), "bool", _, _, rfl, (Kd.int (H := H1) (m.1 : Nat)).ty, kit_bool (H := H1) (.int (m.1 : Nat)), _, rfl, itF (by decide) ?_⟩
    refine ⟨_, rfl, _, rfl, itT (by show (!decide (V.int ((m.1 : Nat) : Int) = V.non)) = true; simp) ?_⟩
    refine ⟨_, rfl, .int (m.1 : Nat), "int", _, _, rfl, (Kd.int (H := H1) (m.1 : Nat)).ty, kit_int (H := H1) (.int (m.1 : Nat)), _, rfl, itF (by decide) ?_⟩
    refine ⟨_, rfl, x, dx, _, rfl, hx1, hFF.n4, _, rfl, _, rfl, ln, _, _, _, rfl, rfl, SqL.of F1.ln, name_at hi, _, rfl, _, rfl, ln, _, _, _, rfl, rfl, SqL.of F1.ln, name_at hj, x, NS, f, _, _, rfl, F1.ft, hiN, hjN, (fun e' => by rw [e] at e'; cases e'), fun p' e' lw H2 s2 nlw hlw => ?_⟩
    rw [e] at e'
    obtain rfl : m = p' := Option.some.inj e'
    have F2 := F1.same s2
    refine ⟨_, rfl, _, rfl, _, rfl, _, rfl, _, rfl, _, rfl, .ref lw, ln, li, i, j, .int (m.1 : Nat), NS, vi, IW, rfl, F2.ln, F2.li, F2.al, F.nd, F.okN, F.ok, F.w12, hi, hj, .inr ⟨lw, m.1, m.2, rfl, rfl, hlw, pt, by omega⟩, fun H3 s3 => ⟨true, rfl, itF (by decide) ?_⟩⟩
    have hl3 := s3 _ _ hlw
    have S3 := s2.trans s3
    refine ⟨_, rfl, _, rfl, itT (by show (!decide (V.ref lw = V.non)) = true; simp) ?_⟩
    refine ⟨_, rfl, .inl ⟨rfl, _, SqL.of hl3⟩, lw, _, rfl, rfl, hl3, ?_⟩
    have S4 := same_put S3 nlw (.lst (m.2.map V.str).reverse)
    have hl4 := @upd_same H3 lw (.lst (m.2.map V.str).reverse)
    generalize upd H3 lw (.lst (m.2.map V.str).reverse) = H4 at S4 hl4 ⊢
    refine ⟨_, rfl, .inl ⟨rfl, _, SqL.of hl4⟩, lw, _, _, rfl, rfl, hl4, Nat.lt_of_le_of_lt (show _ ≤ 100000 by rw [List.length_reverse, List.length_map]; omega) (by decide), ?_⟩
    have S5 := same_put S4 nlw (.lst ((m.2.map V.str).reverse ++ [.str (Str.ofString "more")]))
    generalize upd H4 lw (.lst ((m.2.map V.str).reverse ++ [.str (Str.ofString "more")])) = H5 at S5 ⊢
    have F5 := F1.same S5
    refine ⟨_, rfl, x, dx, _, rfl, S5 _ _ hx1, hFF.n4, _, rfl, _, rfl, ln, _, _, _, rfl, rfl, SqL.of F5.ln, name_at hi, _, rfl, _, rfl, ln, _, _, _, rfl, rfl, SqL.of F5.ln, name_at hj, x, NS, f, _, _, rfl, F5.ft, hiN, hjN, (fun e' => by rw [e] at e'; cases e'), fun p' e' lv H6 s6 _ hlv => ?_⟩
    rw [e] at e'
    obtain rfl : m = p' := Option.some.inj e'
    have F6 := F5.same s6
    exact ⟨_, rfl, _, rfl, _, rfl, _, rfl, _, rfl, .ref lv, ln, li, i, j, .int (m.1 : Nat), NS, vi, IW, rfl, F6.ln, F6.li, F6.al, F.nd, F.okN, F.ok, F.w12, hi, hj, .inr ⟨lv, m.1, m.2, rfl, rfl, hlv, pt, by omega⟩, fun H7 s7 => q _ (((s1.trans S5).trans s6).trans s7)⟩

def frS : Str := Str.ofString "fresh"
theorem fr_name : NameOk frS := by
  refine ⟨by decide, by decide, fun c hc => ?_, by decide +kernel⟩
  have : frS.cps.toList = [102, 114, 101, 115, 104] := by decide +kernel
  rw [this] at hc
  simp only [List.mem_cons, List.not_mem_nil, or_false] at hc
  omega
theorem eq_stop : eqL [V.str (Str.ofString "stop")] [V.str (Str.ofString "stop")] = true := by decide +kernel
theorem ws_more {NS NS' : List Str} {WS : List Wl} (h : WsOk NS WS) (s : ∀ z ∈ NS, z ∈ NS') : WsOk NS' WS := ⟨fun x hx => s _ (h.o x hx), fun x hx => s _ (h.t x hx), h.ne, h.m1, h.m60, h.ds, h.len⟩
theorem ws_snoc {NS : List Str} {WS : List Wl} {x : Wl} (h : WsOk NS WS) (h1 : x.o ∈ NS) (h2 : x.t ∈ NS) (h3 : x.o ≠ x.t) (h4 : 1 ≤ x.m) (h5 : x.m ≤ 60) (h6 : hasW WS x.o x.t = false) (h7 : WS.length < 12) : WsOk NS (WS ++ [x]) := by
  have all : ∀ {p : Wl → Prop}, (∀ y ∈ WS, p y) → p x → ∀ y ∈ WS ++ [x], p y := fun a b y hy => by
    rcases List.mem_append.mp hy with hy | hy
    · exact a y hy
    · rw [List.mem_singleton] at hy; subst hy; exact b
  refine ⟨all h.o h1, all h.t h2, all h.ne h3, all h.m1 h4, all h.m60 h5, fun i y e => ?_, by rw [List.length_append, List.length_singleton]; omega⟩
  rcases Nat.lt_or_ge i WS.length with hi | hi
  · rw [List.getElem?_append_left hi] at e
    rw [List.take_append_of_le_length (by omega)]
    exact h.ds i y e
  · rw [List.getElem?_append_right hi] at e
    have hi0 : i - WS.length = 0 := by have := (List.getElem?_eq_some_iff.mp e).1; rw [List.length_singleton] at this; omega
    rw [hi0] at e
    obtain rfl : x = y := Option.some.inj e
    rw [show i = WS.length by omega, List.take_left']
    · exact h6
    · rfl
theorem best_one {NS : List Str} {WS : List Wl} {f : Fd} (wk : WsOk NS WS) (B : Fw.Best (EW WS) NS f) {a b : Str} (ha : a ∈ NS) (hb : b ∈ NS) (ne : a ≠ b) (e : EW WS a b 1) : minV (f a b) = .int 1 := by
  obtain ⟨p, ep, l⟩ := B.ful a ha b hb 1 (.one e)
  have pt := B.snd _ _ _ ep
  have : 1 ≤ p.1 := by
    generalize p.1 = m at pt
    generalize p.2 = w at pt
    cases pt with
    | nil => exact absurd rfl ne
    | cons e' _ => have := wk.one _ _ _ e'; omega
  rw [ep]
  show V.int ((p.1 : Nat) : Int) = .int 1
  rw [show p.1 = 1 by omega]
  rfl
theorem has_out {NS : List Str} {WS : List Wl} (wk : WsOk NS WS) {a b : Str} (n : a ∉ NS) : hasW WS a b = false := by
  unfold hasW
  rw [List.any_eq_false]
  intro x hx c
  simp only [Bool.or_eq_true, Bool.and_eq_true, beq_iff_eq] at c
  rcases c with c | c
  · exact n (c.1 ▸ wk.o x hx)
  · exact n (c.2 ▸ wk.t x hx)
theorem has_snoc {WS : List Wl} {x : Wl} {a b : Str} (h : hasW WS a b = false) (n1 : a ≠ x.o) (n2 : b ≠ x.o) : hasW (WS ++ [x]) a b = false := by
  unfold hasW at h ⊢
  rw [List.any_append, h, Bool.false_or, List.any_cons, List.any_nil, Bool.or_false, beq_eq_false_iff_ne.mpr n1, beq_eq_false_iff_ne.mpr n2]
  rfl
def hit01 (x : Iw) : Bool := (x.o == 0 && x.t == 1) || (x.o == 1 && x.t == 0)
theorem idv {K : W.Frag} {H : Hp} {vs : List V} {IW : List Iw} (h : Al (IAt H) vs IW) : DVs K H vs (IW.map fun x => .tuple [.int (x.o : Nat), .int (x.t : Nat), .int (x.m : Nat)]) := by
  induction h with
  | nil => exact .nil
  | cons a _ ih =>
    obtain ⟨p, rfl, hp⟩ := a
    exact .cons (.tup (SqT.of hp) (.cons (.int _) (.cons (.int _) (.cons (.int _) .nil)))) ih
theorem hit_any (x : Iw) : ([PyData.tuple [.int 0, .int 1], PyData.tuple [.int 1, .int 0]].any fun d => PyData.eqv d (.tuple [.int (x.o : Nat), .int (x.t : Nat)])) = hit01 x := by
  have c0 : ∀ m : Nat, ((0 : Int) == ((m : Nat) : Int)) = (m == 0) := fun m => by
    by_cases e : m = 0
    · subst e; rfl
    · rw [beq_eq_false_iff_ne.mpr e, beq_eq_false_iff_ne.mpr (by omega)]
  have c1 : ∀ m : Nat, ((1 : Int) == ((m : Nat) : Int)) = (m == 1) := fun m => by
    by_cases e : m = 1
    · subst e; rfl
    · rw [beq_eq_false_iff_ne.mpr e, beq_eq_false_iff_ne.mpr (by omega)]
  simp [PyData.eqv, PyData.eqvAll, c0, c1, hit01]
theorem dep_all (IW : List Iw) : PyData.depthAll (IW.map fun x => .tuple [.int (x.o : Nat), .int (x.t : Nat), .int (x.m : Nat)]) ≤ 3 := by
  induction IW with
  | nil => simp [PyData.depthAll]
  | cons x IW ih =>
    rw [List.map_cons]
    simp only [PyData.depthAll, PyData.depth]
    omega
def spGoes (t : Adr) : Sp := fun vs H Q _ => ∃ (n ds lw x ln li tb : Addr) (NS : List Str) (vi : List V) (IW : List Iw) (f : Fd) (ps : List Addr) (RS : Nat → List (Option Nat)) (B : Hp), vs = [.ref n, .ref x, .ref ln, .ref li, .ref tb] ∧ NetO t H n ds lw NS (wlsOf NS IW) ∧ B ds = none ∧ B lw = none ∧ Same B H ∧ Fit t B x ln li tb NS vi IW f ps RS ∧ 1 ≤ NS.length ∧ NS.length ≤ 8 ∧ IW.length ≤ 10 ∧ frS ∉ NS ∧ ∀ H', Q (.bl true) H'
theorem ok_law_goes_on (Tx : Tab K mg t) : FnOk P w K mg base CX0 7 t.f_law_goes_on t.d_law_goes_on ["_law_net_here", "_law_feet", "_law_names_here", "_law_walks_here", "_law_table_here"] (spGoes t) := by
  refine Tx.F_law_goes_on.ok sc_law_goes_on (fun vs H Q E h => ?_) (fun cdv A outer s H vs Q E hr h => ?_)
  · obtain ⟨n, ds, lw, x, ln, li, tb, NS, vi, IW, f, ps, RS, B, rfl, _⟩ := h
    rfl
  obtain ⟨n, ds, lw, x, ln, li, tb, NS, vi, IW, f, ps, RS, B, rfl, hN, bds, blw, sB, F, n1, n8, w10, nf, q⟩ := h
  have wk := wls_ok F.nd F.ok F.w12
  have lenW : (wlsOf NS IW).length = IW.length := List.length_map ..
  have h0 : NS.getD 0 Str.empty ∈ NS := getD_mem n1
  have at0 : atI (NS.map V.str) 0 = some (.str (NS.getD 0 Str.empty)) := name_at (j := 0) n1
  refine ⟨_, (pss_join (ps_if (pt_cmpR op_lt (pe_callB call_len_seq rfl Tx.z_len b_len (pac (pv 2) pa_nil)) pe_int (nomark _))
    (pss_cons (ps_expr (pe_meth (pv 0) Tx.cl_Net Tx.me_Net_add_stop (ok_Net_add_stop Tx) (hr.mono (by omega)) Tx.b_Net_add_stop .nil pass0 (pac pe_str (pac pe_int (pac pe_int pa_nil)))))
    (pss_cons (ps_expr (pe_meth (pv 0) Tx.cl_Net Tx.me_Net_add_walk (ok_Net_add_walk Tx) (hr.mono (by omega)) Tx.b_Net_add_walk .nil pass0 (pac pe_str (pac (pe_ix ix_list (pv 2) pe_int (fun _ _ => rfl)) (pac pe_int pa_nil)))))
    (pss_one (ps_if (PW.pt (pw_or (pt_cmpR op_ne (pe_meth (pe_make Tx.mk_Feet (ok_Feet_init Tx) (hr.mono (by omega)) rfl Tx.m_Feet Tx.b_Feet_init .nil pass0 (pac (pv 0) pa_nil)) Tx.cl_Feet Tx.me_Feet_minutes (ok_Feet_minutes Tx) (hr.mono (by omega)) Tx.b_Feet_minutes .nil pass0 (pac (pe_ix ix_list (pv 2) pe_int (fun _ _ => rfl)) (pac pe_str pa_nil))) pe_int (nomark _)) (pw_or1 (pt_cmpR (op_ne_lst hr.units0) (pe_call (ok_law_refused Tx) (hr.mono (by omega)) rfl Tx.m_law_refused Tx.F_law_refused.kp Tx.b_law_refused .nil pass0 (pac (pv 1) (pac pe_int (pac (pe_ix ix_list (pv 2) pe_int (fun _ _ => rfl)) (pac pe_str pa_nil))))) (pe_lst (pac pe_str pa_nil)) (nomark _)))))
    (pss_one (ps_ret pe_bl))
    pss_nil))))
    pss_nil)
    (pss_join (ps_if (PW.pt (pw_and (pt_cmpR op_gt (pe_callB call_len_seq rfl Tx.z_len b_len (pac (pv 2) pa_nil)) pe_int (nomark _)) (pw_and1 (pt_cmpR (op_eqD hr.units) (pe_comp (cl := []) (N := ["_law_row"]) (fr := [none]) rfl (pi_list (pv 3)) rfl (by decide +kernel) rfl (by decide +kernel) trivial trivial rfl (fun _ _ _ _ _ => (pg_name (i := 0) (show List.Nodup (["_law_row"] : List Str) by decide +kernel) rfl (Or.inl rfl))) (fun _ _ _ _ _ => (pts_one (pt_cmpR (show OpR _ (compareOp .In) (rInD K false) from op_inD hr.units) (pe_slice (show SlR _ (rSlT K) from sl_tup) (pv 0) po_none (po_some pe_int)) (pe_tup (pac (pe_tup (pac pe_int (pac pe_int pa_nil))) (pac (pe_tup (pac pe_int (pac pe_int pa_nil))) pa_nil))) rfl))) (fun _ _ _ _ _ => (pv 0))) (pe_lst pa_nil) (nomark _)))))
    (pss_cons (ps_expr (pe_meth (pv 0) Tx.cl_Net Tx.me_Net_add_walk (ok_Net_add_walk Tx) (hr.mono (by omega)) Tx.b_Net_add_walk .nil pass0 (pac (pe_ix ix_list (pv 2) pe_int (fun _ _ => rfl)) (pac (pe_ix ix_list (pv 2) pe_int (fun _ _ => rfl)) (pac pe_int pa_nil)))))
    (pss_one (ps_if (pt_cmpR op_ne (pe_meth (pe_make Tx.mk_Feet (ok_Feet_init Tx) (hr.mono (by omega)) rfl Tx.m_Feet Tx.b_Feet_init .nil pass0 (pac (pv 0) pa_nil)) Tx.cl_Feet Tx.me_Feet_minutes (ok_Feet_minutes Tx) (hr.mono (by omega)) Tx.b_Feet_minutes .nil pass0 (pac (pe_ix ix_list (pv 2) pe_int (fun _ _ => rfl)) (pac (pe_ix ix_list (pv 2) pe_int (fun _ _ => rfl)) pa_nil))) pe_int (nomark _))
    (pss_one (ps_ret pe_bl))
    pss_nil)))
    pss_nil)
    (pss_cons (ps_set (i := 5) sc_law_goes_on.nd rfl (Or.inl rfl) (pe_op op_sub (pe_callB call_len_seq rfl Tx.z_len b_len (pac (pv 2) pa_nil)) pe_int))
    (pss_one (ps_ret (pe_and (pe_call (ok_law_right Tx) (hr.mono (by omega)) rfl Tx.m_law_right Tx.F_law_right.kp Tx.b_law_right .nil pass0 (pac (pv 1) (pac (pv 2) (pac (pv 3) (pac (pv 4) (pac pe_int (pac (pv 5) pa_nil))))))) (pe_one (pe_call (ok_law_right Tx) (hr.mono (by omega)) rfl Tx.m_law_right Tx.F_law_right.kp Tx.b_law_right .nil pass0 (pac (pv 1) (pac (pv 2) (pac (pv 3) (pac (pv 4) (pac (pv 5) (pac (pe_callB (call_min2 rfl) rfl Tx.z_min b_min (pac pe_int (pac (pv 5) pa_nil))) pa_nil)))))))))))))), ?_⟩
  refine ⟨fun σ H' => Same B H' ∧ σ = [some (.ref n), some (.ref x), some (.ref ln), some (.ref li), some (.ref tb), none] ∧ ∃ NS2 WS2, NetO t H' n ds lw NS2 WS2 ∧ WsOk NS2 WS2 ∧ (∀ z ∈ NS2, NameOk z) ∧ NS2.length ≤ 8 ∧ WS2.length ≤ 11 ∧ (∀ z ∈ NS, z ∈ NS2) ∧ ∀ a ∈ NS, ∀ b ∈ NS, hasW (wlsOf NS IW) a b = false → hasW WS2 a b = false, ?_, ?_⟩
  · refine ⟨_, rfl, ln, _, rfl, .inl (SqL.of (sB _ _ F.ln)), _, _, rfl, rfl, _, rfl, ?_⟩
    rw [List.length_map]
    by_cases c8 : NS.length < 8
    · obtain ⟨dn, fn, e1, e2⟩ := hN.ob
      refine itT (decide_eq_true (by omega)) ⟨_, rfl, n, dn, _, rfl, e1, e2.n5, n, ds, lw, NS, wlsOf NS IW, frS, 1, 0, B, rfl, hN, bds, sB, fr_name, by decide, by decide, by decide, nf, c8, fun H1 s1 hN1 => ?_⟩
      obtain ⟨dn1, fn1, a1, a2⟩ := hN1.ob
      have sub : ∀ z ∈ NS, z ∈ NS ++ [frS] := fun z hz => List.mem_append_left _ hz
      have frm : frS ∈ NS ++ [frS] := List.mem_append_right _ (List.mem_singleton.mpr rfl)
      have okN2 : ∀ z ∈ NS ++ [frS], NameOk z := fun z hz => by
        rcases List.mem_append.mp hz with hz | hz
        · exact F.okN z hz
        · rw [List.mem_singleton] at hz; subst hz; exact fr_name
      have wk1 := ws_more wk sub
      have ne0 : frS ≠ NS.getD 0 Str.empty := fun e => nf (e ▸ h0)
      have nh := has_out (b := NS.getD 0 Str.empty) wk nf
      refine ⟨_, rfl, n, dn1, _, rfl, a1, a2.n6, _, rfl, ln, _, _, _, rfl, rfl, SqL.of (s1 _ _ F.ln), at0, n, ds, lw, NS ++ [frS], wlsOf NS IW, ⟨frS, NS.getD 0 Str.empty, 1⟩, B, rfl, hN1, blw, s1, okN2, (fun y hy => ⟨wk1.o y hy, wk1.t y hy⟩), frm, sub _ h0, ne0, nh, by show 1 ≤ 1; decide, by show 1 ≤ 60; decide, by rw [lenW]; omega, fun H2 s2 hN2 => ?_⟩
      have wk2 : WsOk (NS ++ [frS]) (wlsOf NS IW ++ [⟨frS, NS.getD 0 Str.empty, 1⟩]) := ws_snoc wk1 frm (sub _ h0) ne0 (by show 1 ≤ 1; decide) (by show 1 ≤ 60; decide) nh (by rw [lenW]; omega)
      refine ⟨_, rfl, fun x2 dx2 nx2 ndx2 nex2 => ⟨x2, n, _, _, H2, rfl, nx2, same_put (same_new ndx2 _) nx2 _, ⟨dx2, upd_same⟩, ⟨ds, lw, hN2⟩, by rw [List.length_append, List.length_singleton]; omega, wk2, fun H3 f2 s3 hF2 B2 bd2 => ⟨rfl, ?_⟩⟩⟩
      obtain ⟨dy, fs, dk, df, c, rows, hx2, hFF, _⟩ := id hF2
      have S3 := s2.trans s3
      refine ⟨x2, dy, _, rfl, hx2, hFF.n3, _, rfl, ln, _, _, _, rfl, rfl, SqL.of (S3 _ _ F.ln), at0, x2, _, f2, NS.getD 0 Str.empty, frS, rfl, hF2, sub _ h0, frm, fun H4 s4 => ?_⟩
      rw [best_one wk2 B2 (sub _ h0) frm ne0.symm ⟨_, List.mem_append_right _ (List.mem_singleton.mpr rfl), .inr ⟨rfl, rfl⟩, rfl⟩]
      refine ⟨rfl, _, rfl, itF (by decide) ?_⟩
      have S4 := S3.trans s4
      refine ⟨_, rfl, _, rfl, ln, _, _, _, rfl, rfl, SqL.of (S4 _ _ F.ln), at0, x, 0, NS, f, .str (NS.getD 0 Str.empty), .str frS, "str", "str", rfl, F.ft.same S4, .str _, .str _, .inr nf, fun l H5 s5 hl => ?_⟩
      refine ⟨by show 1 ≤ sizeLine; decide, fun l2 g2 => ?_⟩
      have u := same_new g2 (.lst [.str (Str.ofString "stop")])
      refine ⟨l, l2, _, _, rfl, rfl, SqL.of (u _ _ hl), SqL.of upd_same, rfl, rfl, _, rfl, itF (by rw [eq_stop]; decide) ?_⟩
      refine ⟨(S4.trans s5).trans u, rfl, _, _, hN2.same (((s3.trans s4).trans s5).trans u), wk2, okN2, by rw [List.length_append, List.length_singleton]; omega, by rw [List.length_append, List.length_singleton, lenW]; omega, sub, fun a ha b hb h => has_snoc h (fun e => nf (by rw [← show a = frS from e]; exact ha)) (fun e => nf (by rw [← show b = frS from e]; exact hb))⟩
    · exact itF (by rw [decide_eq_true_eq]; omega) ⟨sB, rfl, NS, wlsOf NS IW, hN, wk, F.okN, n8, by rw [lenW]; omega, fun z hz => hz, fun a _ b _ h => h⟩
  · rintro σ H1 ⟨s1, rfl, NS2, WS2, hN1, wk2, okN2, n82, w11, sub, hh⟩
    refine ⟨fun σ H' => Same B H' ∧ σ = [some (.ref n), some (.ref x), some (.ref ln), some (.ref li), some (.ref tb), none], ?_, ?_⟩
    · refine ⟨_, rfl, ln, _, rfl, .inl (SqL.of (s1 _ _ F.ln)), _, _, rfl, rfl, _, rfl, ?_⟩
      rw [List.length_map]
      by_cases c1 : 1 < NS.length
      · refine itT (decide_eq_true (by omega)) ?_
        refine ⟨_, rfl, li, rfl, ⟨_, SqL.of (s1 _ _ F.li)⟩, comp_list (K := K) (a := li) (xs := vi) (fun k acc σ H' => Same H1 H' ∧ (∃ v, σ = [v]) ∧ Al (IAt H') acc ((IW.take k).filter hit01)) ⟨Same.refl _, ⟨_, rfl⟩, .nil⟩ (Nat.le_trans (show _ ≤ 12 by rw [F.al.length]; exact F.w12) (by decide)) (fun k acc σ H' _ ⟨s', _⟩ => SqL.of ((s1.trans s') _ _ F.li)) ?_ ?_⟩
        · rintro k v acc σ H2 hk hv ⟨s2, ⟨v0, rfl⟩, ac⟩
          obtain ⟨y, ey, py, rfl, hpy⟩ := F.al.get hv
          have T2 := s1.trans s2
          refine ⟨_, rfl, _, rfl, py, _, rfl, SqT.of (T2 _ _ hpy), by show ¬ (HT.sIx 3 0 none = 0 ∧ HT.sIx 3 3 (some 2) = 3); decide, fun p1 g1 => ?_⟩
          rw [show cutV [V.int ((y.o : Nat) : Int), .int (y.t : Nat), .int (y.m : Nat)] none (some 2) = [.int (y.o : Nat), .int (y.t : Nat)] from rfl]
          have z1 := same_new g1 (.tup [.int (y.o : Nat), .int (y.t : Nat)])
          refine ⟨by show 2 ≤ sizeLine; decide, fun p2 g2 => ?_⟩
          have z2 := same_new g2 (.tup [.int 0, .int 1])
          refine ⟨by show 2 ≤ sizeLine; decide, fun p3 g3 => ?_⟩
          have z3 := same_new g3 (.tup [.int 1, .int 0])
          refine ⟨by show 2 ≤ sizeLine; decide, fun p4 g4 => ?_⟩
          have z4 := same_new g4 (.tup [.ref p2, .ref p3])
          have k1 := ((z2.trans z3).trans z4) p1 _ upd_same
          have k2 := (z3.trans z4) p2 _ upd_same
          have k3 := z4 p3 _ upd_same
          have Z := ((z1.trans z2).trans z3).trans z4
          refine ⟨p4, _, .tuple [.int (y.o : Nat), .int (y.t : Nat)], [.tuple [.int 0, .int 1], .tuple [.int 1, .int 0]], rfl, .inr (SqT.of upd_same), .tup (SqT.of k1) (.cons (.int _) (.cons (.int _) .nil)), .cons (.tup (SqT.of k2) (.cons (.int _) (.cons (.int _) .nil))) (.cons (.tup (SqT.of k3) (.cons (.int _) (.cons (.int _) .nil))) .nil), by simp [PyData.depth, PyData.depthAll], _, rfl, ?_⟩
          show if (if false then _ else _) = true then _ else _
          rw [if_neg Bool.false_ne_true, hit_any]
          have acZ := ac.imp fun _ _ => IAt.same Z
          rw [List.take_add_one, ey, List.filter_append]
          by_cases c : hit01 y = true
          · refine itT c ⟨_, rfl, by rw [List.length_append, List.length_singleton]; omega, s2.trans Z, ⟨_, rfl⟩, ?_⟩
            rw [show (some y).toList.filter hit01 = [y] by show [y].filter hit01 = [y]; rw [List.filter_cons, c]; rfl]
            exact acZ.snoc ⟨py, rfl, (T2.trans Z) _ _ hpy⟩
          · refine itF c ⟨by omega, s2.trans Z, ⟨_, rfl⟩, ?_⟩
            rw [show (some y).toList.filter hit01 = [] by show [y].filter hit01 = []; rw [List.filter_cons, if_neg c]; rfl, List.append_nil]
            exact acZ
        rintro acc σ H2 ha ⟨s2, ⟨v0, rfl⟩, ac⟩ l9 g9
        rw [F.al.length, List.take_length] at ac
        have z9 := same_new g9 (.lst acc)
        refine ⟨by show 0 ≤ sizeLine; decide, fun l10 g10 => ?_⟩
        have z10 := same_new g10 (.lst [])
        have hl9 := z10 l9 _ upd_same
        have S2 := (s2.trans z9).trans z10
        have ac10 := ac.imp fun _ _ => IAt.same (z9.trans z10)
        refine ⟨.list ((IW.filter hit01).map fun x => .tuple [.int (x.o : Nat), .int (x.t : Nat), .int (x.m : Nat)]), .list [], .lst (SqL.of hl9) (idv ac10), .lst (SqL.of upd_same) .nil, ?_, _, rfl, ?_⟩
        · have := dep_all (IW.filter hit01)
          simp only [PyData.depth]
          omega
        generalize upd (upd H2 l9 (.lst acc)) l10 (.lst []) = H3 at S2 ⊢
        show if (if false then _ else _) = true then _ else _
        rw [if_neg Bool.false_ne_true]
        have S3 := s1.trans S2
        cases ef : IW.filter hit01 with
        | cons y ys => exact itF (by simp [PyData.eqv, PyData.eqvAll]) ⟨S3, rfl⟩
        | nil =>
          refine itT (by simp [PyData.eqv, PyData.eqvAll]) ?_
          have h1 : NS.getD 1 Str.empty ∈ NS := getD_mem c1
          have at1 : atI (NS.map V.str) 1 = some (.str (NS.getD 1 Str.empty)) := name_at (j := 1) c1
          have hN3 := hN1.same S2
          obtain ⟨dn, fn, e1, e2⟩ := hN3.ob
          have ne : NS.getD 1 Str.empty ≠ NS.getD 0 Str.empty := fun e => absurd (getD_inj F.nd c1 n1 e) (by decide)
          have nh : hasW WS2 (NS.getD 1 Str.empty) (NS.getD 0 Str.empty) = false := by
            refine hh _ h1 _ h0 (has_of F.nd F.ok.o F.ok.t c1 n1 ?_)
            rw [List.filter_eq_nil_iff] at ef
            unfold ihas
            rw [List.any_eq_false]
            intro z hz c
            refine ef z hz ?_
            unfold hit01
            simp only [Bool.or_eq_true, Bool.and_eq_true, beq_iff_eq] at c ⊢
            exact c.symm
          refine ⟨_, rfl, n, dn, _, rfl, e1, e2.n6, _, rfl, ln, _, _, _, rfl, rfl, SqL.of (S3 _ _ F.ln), at1, _, rfl, ln, _, _, _, rfl, rfl, SqL.of (S3 _ _ F.ln), at0, n, ds, lw, NS2, WS2, ⟨NS.getD 1 Str.empty, NS.getD 0 Str.empty, 1⟩, B, rfl, hN3, blw, S3, okN2, (fun y hy => ⟨wk2.o y hy, wk2.t y hy⟩), sub _ h1, sub _ h0, ne, nh, by show 1 ≤ 1; decide, by show 1 ≤ 60; decide, by omega, fun H4 s4 hN4 => ?_⟩
          have wk4 : WsOk NS2 (WS2 ++ [⟨NS.getD 1 Str.empty, NS.getD 0 Str.empty, 1⟩]) := ws_snoc wk2 (sub _ h1) (sub _ h0) ne (by show 1 ≤ 1; decide) (by show 1 ≤ 60; decide) nh (by omega)
          refine ⟨_, rfl, fun x2 dx2 nx2 ndx2 nex2 => ⟨x2, n, _, _, H4, rfl, nx2, same_put (same_new ndx2 _) nx2 _, ⟨dx2, upd_same⟩, ⟨ds, lw, hN4⟩, n82, wk4, fun H5 f2 s5 hF2 B2 bd2 => ⟨rfl, ?_⟩⟩⟩
          obtain ⟨dy, fs, dk, df, c, rows, hx2, hFF, _⟩ := id hF2
          have S5 := s4.trans s5
          refine ⟨x2, dy, _, rfl, hx2, hFF.n3, _, rfl, ln, _, _, _, rfl, rfl, SqL.of (S5 _ _ F.ln), at0, _, rfl, ln, _, _, _, rfl, rfl, SqL.of (S5 _ _ F.ln), at1, x2, _, f2, NS.getD 0 Str.empty, NS.getD 1 Str.empty, rfl, hF2, sub _ h0, sub _ h1, fun H6 s6 => ?_⟩
          rw [best_one wk4 B2 (sub _ h0) (sub _ h1) ne.symm ⟨_, List.mem_append_right _ (List.mem_singleton.mpr rfl), .inr ⟨rfl, rfl⟩, rfl⟩]
          exact ⟨rfl, _, rfl, itF (by decide) ⟨S5.trans s6, rfl⟩⟩
      · exact itF (by rw [decide_eq_true_eq]; omega) ⟨s1, rfl⟩
    · rintro σ H2 ⟨s2, rfl⟩
      have F2 := F.same s2
      refine ⟨_, rfl, ln, _, rfl, .inl (SqL.of F2.ln), _, _, rfl, rfl, ?_⟩
      dsimp only
      rw [List.length_map, show ((NS.length : Nat) : Int) - 1 = ((NS.length - 1 : Nat) : Int) by omega]
      generalize hL : NS.length - 1 = L
      refine ⟨_, rfl, _, rfl, _, rfl, _, rfl, _, rfl, x, ln, li, tb, 0, L, NS, vi, IW, f, ps, RS, rfl, F2, n1, by omega, fun H3 s3 => ⟨_, rfl, itT rfl ?_⟩⟩
      have F3 := F2.same s3
      obtain ⟨m, em, hm⟩ : ∃ m : Nat, (if ((L : Nat) : Int) < 1 then ((L : Nat) : Int) else 1) = ((m : Nat) : Int) ∧ m < NS.length := by
        by_cases c : L = 0
        · exact ⟨0, by rw [if_pos (by omega), c], n1⟩
        · exact ⟨1, by rw [if_neg (by omega)]; rfl, by omega⟩
      refine ⟨_, rfl, _, rfl, _, rfl, _, rfl, _, rfl, _, rfl, _, _, rfl, x, ln, li, tb, L, m, NS, vi, IW, f, ps, RS, ?_, F3, by omega, hm, fun H4 s4 => q _⟩
      rw [em]
      rfl

def rowD (NS : List Str) (f : Fd) (g : Nat) : List (Option Nat) := NS.map fun z => (f z (NS.getD g Str.empty)).map (·.1)
theorem row_at {NS : List Str} {f : Fd} {g i : Nat} (hi : i < NS.length) : (rowD NS f g)[i]? = some ((f (NS.getD i Str.empty) (NS.getD g Str.empty)).map (·.1)) := by
  unfold rowD
  rw [List.getElem?_map, List.getElem?_eq_getElem hi, getD_in hi]; rfl
theorem ie_ew {NS : List Str} {IW : List Iw} {h t' c : Nat} (e : IE IW h t' c) : EW (wlsOf NS IW) (NS.getD h Str.empty) (NS.getD t' Str.empty) c := by
  obtain ⟨x, hx, hc, hm⟩ := e
  refine ⟨_, List.mem_map.mpr ⟨x, hx, rfl⟩, ?_, hm⟩
  rcases hc with ⟨rfl, rfl⟩ | ⟨rfl, rfl⟩
  · exact .inl ⟨rfl, rfl⟩
  · exact .inr ⟨rfl, rfl⟩
theorem hi_of {NS : List Str} {IW : List Iw} {f : Fd} (nd : NS.Nodup) (ok : IOk NS.length IW) (w12 : IW.length ≤ 12) (B : Fw.Best (EW (wlsOf NS IW)) NS f) {g : Nat} (hg : g < NS.length) : Bf.Hi (rowD NS f g) g (IE IW) := by
  have wk := wls_ok nd ok w12
  have G := wk.gr
  have hgN := getD_mem hg
  have lt : ∀ {h t' c : Nat}, IE IW h t' c → h < NS.length ∧ t' < NS.length := fun e => by
    obtain ⟨x, hx, hc, _⟩ := e
    rcases hc with ⟨rfl, rfl⟩ | ⟨rfl, rfl⟩
    · exact ⟨ok.o x hx, ok.t x hx⟩
    · exact ⟨ok.t x hx, ok.o x hx⟩
  refine ⟨?_, fun h t' c e a ea => ?_, fun p d hp e => ?_, fun h t' c e => wk.one _ _ _ (ie_ew e)⟩
  · obtain ⟨w, e⟩ := Fw.Best.self G B hgN
    rw [row_at hg, e]; rfl
  · obtain ⟨h1, h2⟩ := lt e
    rw [row_at h1] at ea
    cases e1 : f (NS.getD h Str.empty) (NS.getD g Str.empty) with
    | none => rw [e1] at ea; cases ea
    | some q1 =>
      rw [e1] at ea
      have ea : q1.1 = a := Option.some.inj (Option.some.inj ea)
      obtain ⟨q2, e2, l2⟩ := Fw.Best.edge G B (ie_ew (NS := NS) e) hgN e1
      exact ⟨q2.1, by rw [row_at h2, e2]; rfl, by omega⟩
  · have hpl : p < NS.length := by have := (List.getElem?_eq_some_iff.mp e).1; unfold rowD at this; rw [List.length_map] at this; exact this
    rw [row_at hpl] at e
    cases e1 : f (NS.getD p Str.empty) (NS.getD g Str.empty) with
    | none => rw [e1] at e; cases e
    | some q1 =>
      rw [e1] at e
      have e : q1.1 = d := Option.some.inj (Option.some.inj e)
      obtain ⟨v, a, q2, he, e2, es⟩ := Fw.Best.near G B hgN (fun h => hp (getD_inj nd hpl hg h)) e1
      obtain ⟨y, hy, c, rfl⟩ := he
      obtain ⟨x, hx, rfl⟩ := List.mem_map.mp hy
      rcases c with ⟨c1, c2⟩ | ⟨c1, c2⟩
      · refine ⟨x.t, x.m, q2.1, ⟨x, hx, .inr ⟨getD_inj nd (ok.o x hx) hpl c1, rfl⟩, rfl⟩, ?_, (show q2.1 + x.m = q1.1 from es).trans e⟩
        rw [row_at (ok.t x hx), show NS.getD x.t Str.empty = v from c2, e2]; rfl
      · refine ⟨x.o, x.m, q2.1, ⟨x, hx, .inl ⟨rfl, getD_inj nd (ok.t x hx) hpl c2⟩, rfl⟩, ?_, (show q2.1 + x.m = q1.1 from es).trans e⟩
        rw [row_at (ok.o x hx), show NS.getD x.o Str.empty = v from c1, e2]; rfl
theorem feet_apart {H : Hp} {n ds lw x : Addr} {NS : List Str} {WS : List Wl} {f : Fd} {E : Str → Str → Nat → Prop} (hN : NetO t H n ds lw NS WS) (h1 : 1 ≤ NS.length) (hF : FeetAt t H x NS f) (sn : Fw.Snd E f) : FeetAt t (wo (wo H ds) lw) x NS f := by
  obtain ⟨dx, fs, dk, df, c, rows, hx, hFF, hk, hrow, kvs, hd, lk, hv⟩ := hF
  obtain ⟨rs, hs, as⟩ := hN.st
  obtain ⟨vs, hl, al⟩ := hN.wk
  have two : ∀ {a : Addr} {o : HO}, H a = some o → a ≠ ds → a ≠ lw → wo (wo H ds) lw a = some o := fun e n1 n2 => wo_at (wo_at e n1) n2
  have kd : dk ≠ ds := fun z => by
    subst z
    rw [hk] at hs
    obtain rfl : rows = rs := by cases hs; rfl
    have h0 : NS[0]? = some NS[0] := List.getElem?_eq_getElem h1
    have m0 : NS[0] ∈ NS := List.getElem_mem _
    have r0 := hrow.1 _ m0
    have : ∀ {rs : List (Key × V)} {NS : List Str}, Al SRow rs NS → ∀ k v, valV rs k = some v → ∃ r, v = .ref r := fun h => by
      induction h with
      | nil => intro k v e; cases e
      | @cons kv y rows xs hr _ ih =>
        intro k v e
        by_cases c : kv.1 = k
        · rw [valV_pos c] at e
          obtain rfl := Option.some.inj e
          exact hr.2
        · rw [valV_neg c] at e
          exact ih k v e
    obtain ⟨r, er⟩ := this as _ _ r0
    cases er
  refine ⟨dx, fs, dk, df, c, rows, two hx (ne_of hx hs (by intro z; cases z)) (ne_of hx hl (by intro z; cases z)), hFF, two hk kd (ne_of hk hl (by intro z; cases z)), hrow, kvs, two hd (ne_of hd hs (by intro z; cases z)) (ne_of hd hl (by intro z; cases z)), lk, fun a b => ?_⟩
  have := hv a b
  cases e : f a b with
  | none => rw [e] at this; exact this
  | some p =>
    rw [e] at this
    obtain ⟨v, ev, r, l, er, q1, q2⟩ := this
    have hh := (sn _ _ _ e).head
    have nl : l ≠ lw := fun z => by
      subst z
      rw [q2] at hl
      have : p.2.map V.str = vs := by injection hl with h; injection h
      rw [hh] at this
      cases al with
      | nil => cases this
      | cons hw _ =>
        obtain ⟨_, rfl, _⟩ := hw
        cases this
    exact ⟨v, ev, r, l, er, two q1 (ne_of q1 hs (by intro z; cases z)) (ne_of q1 hl (by intro z; cases z)), two q2 (ne_of q2 hs (by intro z; cases z)) nl⟩
def OddAt (NS : List Str) (H : Hp) (v : V) : Prop := (∃ T, Kd H v T) ∧ ¬ inN NS v
theorem odd_text {NS : List Str} (okN : ∀ z ∈ NS, NameOk z) : Str.ofString "" ∉ NS ∧ Str.ofString "A" ∉ NS ∧ Str.ofString "nowhere" ∉ NS := by
  refine ⟨fun h => ?_, fun h => ?_, fun h => (okN _ h).2.2.2 rfl⟩
  · have := (okN _ h).1
    exact absurd this (by decide)
  · have := (okN _ h).2.2.1 65 (by decide)
    omega
def sp_law (K : W.Frag) : Sp := fun vs H Q _ => ∃ (a : Addr) (ns : List Int), vs = [.ref a] ∧ SqL K H a (ns.map V.int) ∧ ns.length ≤ 63 ∧ ∀ H', Q (.bl true) H'
theorem ok_law (Tx : Tab K mg t) : FnOk P w K mg base CX0 20 t.f_law t.d_law ["_law_script"] (sp_law K) := by
  refine Tx.F_law.ok sc_law (fun vs H Q E h => ?_) (fun cdv A outer s H vs Q E hr h => ?_)
  · obtain ⟨a, ns, rfl, _⟩ := h
    rfl
  obtain ⟨a, ns, rfl, hS, hlen, q⟩ := h
  refine ⟨_, (pss_cons (ps_set (i := 1) sc_law.nd rfl (Or.inl rfl) (pe_call (ok_law_draw Tx) (hr.mono (by omega)) rfl Tx.m_law_draw Tx.F_law_draw.kp Tx.b_law_draw .nil pass0 (pac (pv 0) (pac pe_int pa_nil))))
    (pss_cons (ps_set (i := 2) sc_law.nd rfl (Or.inl rfl) (pe_ix ix_list (pe_lst (pac (pe_op op_add pe_int (pe_op op_mod (pv 1) pe_int)) (pac pe_int pa_nil))) (pe_callTy call_int_bl rfl Tx.z_int b_int (pac (pe_cmpR op_eq (pe_op op_mod (pe_op op_fdiv (pv 1) pe_int) pe_int) pe_int (nomark _)) pa_nil)) (fun _ _ => rfl)))
    (pss_cons (ps_set (i := 3) sc_law.nd rfl (Or.inl rfl) (pe_call (ok_law_names Tx) (hr.mono (by omega)) rfl Tx.m_law_names Tx.F_law_names.kp Tx.b_law_names .nil pass0 (pac (pv 0) (pac pe_int (pac (pv 2) pa_nil)))))
    (pss_cons (ps_set (i := 4) sc_law.nd rfl (Or.inl rfl) (pe_call (ok_law_walks Tx) (hr.mono (by omega)) rfl Tx.m_law_walks Tx.F_law_walks.kp Tx.b_law_walks .nil pass0 (pac (pv 0) (pac pe_int (pac (pv 2) (pac (pe_op op_mod (pe_op op_fdiv (pv 1) pe_int) pe_int) pa_nil))))))
    (pss_cons (ps_set (i := 5) sc_law.nd rfl (Or.inl rfl) (pe_call (ok_law_net Tx) (hr.mono (by omega)) rfl Tx.m_law_net Tx.F_law_net.kp Tx.b_law_net .nil pass0 (pac (pv 3) (pac (pv 4) pa_nil))))
    (pss_cons (ps_set (i := 6) sc_law.nd rfl (Or.inl rfl) (pe_make Tx.mk_Feet (ok_Feet_init Tx) (hr.mono (by omega)) rfl Tx.m_Feet Tx.b_Feet_init .nil pass0 (pac (pv 5) pa_nil)))
    (pss_cons (ps_set (i := 7) sc_law.nd rfl (Or.inl rfl) (pe_call (ok_law_table Tx) (hr.mono (by omega)) rfl Tx.m_law_table Tx.F_law_table.kp Tx.b_law_table .nil pass0 (pac (pv 2) (pac (pv 4) pa_nil))))
    (pss_cons (ps_for PassesOwn.never rfl (pi_range1 rfl Tx.z_range (pac (pv 2) pa_nil)) (pg_name (i := 8) sc_law.nd rfl (Or.inl rfl))
    (pss_one (ps_for PassesOwn.never rfl (pi_range1 rfl Tx.z_range (pac (pv 2) pa_nil)) (pg_name (i := 9) sc_law.nd rfl (Or.inl rfl))
    (pss_one (ps_if (pt_not (pt_val (pe_call (ok_law_right Tx) (hr.mono (by omega)) rfl Tx.m_law_right Tx.F_law_right.kp Tx.b_law_right .nil pass0 (pac (pv 6) (pac (pv 3) (pac (pv 4) (pac (pv 7) (pac (pv 8) (pac (pv 9) pa_nil)))))))))
    (pss_one (ps_ret pe_bl))
    pss_nil)))))
    (pss_cons (ps_set (i := 10) sc_law.nd rfl (Or.inl rfl) (pe_ix ix_list (pe_lst (pac pe_non (pac pe_bl (pac pe_int (pac pe_str (pac pe_str (pac pe_str (pac (pe_lst (pac (pe_ix ix_list (pv 3) pe_int (fun _ _ => rfl)) pa_nil)) (pac (pe_tup pa_nil) (pac pe_dnew pa_nil)))))))))) (pe_op op_mod (pe_op op_fdiv (pv 1) pe_int) pe_int) (fun _ _ => rfl)))
    (pss_cons (ps_for PassesOwn.never rfl (pi_tup (pe_tup (pac pe_int (pac pe_int pa_nil)))) (pg_name (i := 11) sc_law.nd rfl (Or.inl rfl))
    (pss_one (ps_if (PW.pt (pw_or (pt_cmpR (op_ne_lst hr.units0) (pe_call (ok_law_refused Tx) (hr.mono (by omega)) rfl Tx.m_law_refused Tx.F_law_refused.kp Tx.b_law_refused .nil pass0 (pac (pv 6) (pac (pv 11) (pac (pv 10) (pac (pe_ix ix_list (pv 3) pe_int (fun _ _ => rfl)) pa_nil))))) (pe_lst (pac pe_str pa_nil)) (nomark _)) (pw_or1 (pt_cmpR (op_ne_lst hr.units0) (pe_call (ok_law_refused Tx) (hr.mono (by omega)) rfl Tx.m_law_refused Tx.F_law_refused.kp Tx.b_law_refused .nil pass0 (pac (pv 6) (pac (pv 11) (pac (pe_ix ix_list (pv 3) (pe_un un_neg pe_int) (fun _ _ => rfl)) (pac (pv 10) pa_nil))))) (pe_lst (pac pe_str pa_nil)) (nomark _)))))
    (pss_one (ps_ret pe_bl))
    pss_nil)))
    (pss_one (ps_ret (pe_or (pe_cmpR op_gt (pe_callB call_len_seq rfl Tx.z_len b_len (pac (pv 4) pa_nil)) pe_int (nomark _)) (pe_one (pe_call (ok_law_goes_on Tx) (hr.mono (by omega)) rfl Tx.m_law_goes_on Tx.F_law_goes_on.kp Tx.b_law_goes_on .nil pass0 (pac (pv 5) (pac (pv 6) (pac (pv 3) (pac (pv 4) (pac (pv 7) pa_nil)))))))))))))))))))), ?_⟩
  refine ⟨_, rfl, a, ns, 0, rfl, hS, by decide, by decide, fun d H1 hd s1 => ?_⟩
  refine ⟨_, rfl, _, _, rfl, rfl, (by show (0 : Int) < 5; decide), _, _, rfl, rfl, by show 2 ≤ sizeLine; decide, fun p1 g1 => ?_⟩
  have u1 := same_new g1 (.lst [.int (1 + ((d : Nat) : Int) % 5), .int 8])
  obtain ⟨vm, em, many, rfl, m1, m8⟩ := at_all (p := fun v => ∃ many : Nat, v = .int (many : Nat) ∧ 1 ≤ many ∧ many ≤ 8) (xs := [.int (1 + ((d : Nat) : Int) % 5), .int 8]) (d := if decide (V.int (((d : Nat) : Int) / 8 % 8) = V.int 1) = true then (1 : Int) else 0) (fun v hv => by
    simp only [List.mem_cons, List.not_mem_nil, or_false] at hv
    rcases hv with rfl | rfl
    · exact ⟨1 + d % 5, by rw [show (1 : Int) + ((d : Nat) : Int) % 5 = ((1 + d % 5 : Nat) : Int) by omega], by omega, by omega⟩
    · exact ⟨8, rfl, by decide, by decide⟩) (by split <;> decide) (by show (if _ then (1 : Int) else 0) < 2; split <;> decide)
  refine ⟨_, rfl, _, _, rfl, rfl, ⟨by decide, by decide⟩, _, _, rfl, rfl, (by show (0 : Int) < 8; decide), rfl, _, rfl, p1, _, _, _, rfl, rfl, SqL.of upd_same, em, ?_⟩
  replace s1 := s1.trans u1
  generalize upd H1 p1 (.lst [.int (1 + ((d : Nat) : Int) % 5), .int 8]) = H1' at s1 ⊢
  refine ⟨_, rfl, _, rfl, a, ns, 1, many, rfl, s1.seq hS, by decide, by decide, m8, fun NS ln H2 s2 _ hln lenN nd okF => ?_⟩
  have okN : ∀ z ∈ NS, NameOk z := fun z hz => (okF z hz).1
  have S2 := s1.trans s2
  refine ⟨_, rfl, _, rfl, _, rfl, _, _, rfl, rfl, ⟨by decide, by decide⟩, _, _, rfl, rfl, (by show (0 : Int) < 13; decide), a, ns, 20, many, d / 64 % 13, ?_, S2.seq hS, by decide, m1, m8, by omega, fun IW vi li H3 s3 _ hli al ok0 w12 => ?_⟩
  · show [V.ref a, V.int 20, V.int ((many : Nat) : Int), V.int (((d : Nat) : Int) / 64 % 13)] = _
    rw [show ((d : Nat) : Int) / 64 % 13 = ((d / 64 % 13 : Nat) : Int) by omega]
    rfl
  have ok : IOk NS.length IW := by rw [lenN]; exact ok0
  have hln3 := s3 _ _ hln
  refine ⟨_, rfl, _, rfl, ln, li, NS, vi, IW, rfl, hln3, nd, okN, by omega, hli, al, ok, w12, fun n ds lw H4 s4 hO nds nlw => ?_⟩
  refine ⟨_, rfl, fun x dx nx ndx nex => ⟨x, n, NS, wlsOf NS IW, H4, rfl, nx, same_put (same_new ndx _) nx _, ⟨dx, upd_same⟩, ⟨ds, lw, hO⟩, by omega, wls_ok nd ok w12, fun H5 f s5 hF B bd => ⟨rfl, ?_⟩⟩⟩
  have T5 := s4.trans s5
  refine ⟨_, rfl, _, rfl, li, vi, IW, many, rowD NS f, rfl, T5 _ _ hli, al.imp fun _ _ => IAt.same T5, m8, ok0, (fun g hg => ⟨by unfold rowD; rw [List.length_map, lenN], hi_of nd ok w12 B (by omega)⟩), fun tb ps H6 s6 ntb nps lp T6 => ?_⟩
  have T36 := T5.trans s6
  have hN5 := hO.same s5
  have hN6 := hN5.same s6
  have two : ∀ {b : Addr} {o : HO}, H6 b = some o → b ≠ ds → b ≠ lw → wo (wo H6 ds) lw b = some o := fun e n1 n2 => wo_at (wo_at e n1) n2
  have ds5 : ∃ o, H5 ds = some o := let ⟨r, h, _⟩ := hN5.st; ⟨_, h⟩
  have lw5 : ∃ o, H5 lw = some o := let ⟨r, h, _⟩ := hN5.wk; ⟨_, h⟩
  have new2 : ∀ {b : Addr} {o : HO}, H5 b = none → H6 b = some o → wo (wo H6 ds) lw b = some o := fun hb e => by
    obtain ⟨o1, h1⟩ := ds5
    obtain ⟨o2, h2⟩ := lw5
    exact two e (ne_of_none h1 hb).symm (ne_of_none h2 hb).symm
  have G := (wls_ok nd ok w12).gr
  have F : Fit t (wo (wo H6 ds) lw) x ln li tb NS vi IW f ps (fun i => if i < many then rowD NS f i else []) := by
    refine ⟨feet_apart hN6 (by omega) (hF.same s6) B.snd, two (T36 _ _ hln3) (ne_of_none hln3 nds) (ne_of_none hln3 nlw), two (T36 _ _ hli) (ne_of_none hli nds) (ne_of_none hli nlw), al.imp fun v y ⟨p, e, hp⟩ => ⟨p, e, two (T36 _ _ hp) (ne_of_none hp nds) (ne_of_none hp nlw)⟩, ⟨new2 ntb T6.1, T6.2.1, T6.2.2.1, fun i p e => new2 (nps p (List.mem_of_getElem? e)) (T6.2.2.2 i p e)⟩, nd, okN, ok, w12, B, bd, by rw [lp, lenN], fun i j hi hj => ?_⟩
    show (if i < many then rowD NS f i else [])[j]? = _
    rw [if_pos (by omega), row_at hj, Fw.Best.same G B B (fun _ _ _ => Iff.rfl) (getD_mem hj) (getD_mem hi)]
  have sB : Same (wo (wo H6 ds) lw) H6 := wo_same.trans wo_same
  have bds : wo (wo H6 ds) lw ds = none := by
    by_cases c : ds = lw
    · rw [← c]; unfold wo; rw [if_pos rfl]
    · rw [wo_ne c]; unfold wo; rw [if_pos rfl]
  have blw : wo (wo H6 ds) lw lw = none := by unfold wo; rw [if_pos rfl]
  have nf : frS ∉ NS := fun h => (okF _ h).2 rfl
  generalize wo (wo H6 ds) lw = B0 at F sB bds blw
  clear T6 nps ntb lp two new2 ds5 lw5 T36 hN5 hF hO T5 s6 s5 s4 al hli hln3 hln nds nlw
  have n1 : 1 ≤ NS.length := by omega
  have at0 : atI (NS.map V.str) 0 = some (.str (NS.getD 0 Str.empty)) := name_at (j := 0) n1
  refine ⟨_, rfl, ((many : Nat) : Int), rfl, by omega, by omega, for_range (n := ((many : Nat) : Int).toNat) (fun i σ H' => Same H6 H' ∧ ∃ v8 v9 : Option V, σ = [some (.ref a), some (.int (d : Nat)), some (.int (many : Nat)), some (.ref ln), some (.ref li), some (.ref n), some (.ref x), some (.ref tb), v8, v9, none, none]) ⟨Same.refl _, _, _, rfl⟩ ?_ ?_⟩
  · rintro i σ H7 hi ⟨s7, v8, v9, rfl⟩
    rw [show (0 : Int) + ((i : Nat) : Int) = ((i : Nat) : Int) by omega]
    refine ⟨_, rfl, ((many : Nat) : Int), rfl, by omega, by omega, for_range (n := ((many : Nat) : Int).toNat) (fun j σ H' => Same H6 H' ∧ ∃ v9 : Option V, σ = [some (.ref a), some (.int (d : Nat)), some (.int (many : Nat)), some (.ref ln), some (.ref li), some (.ref n), some (.ref x), some (.ref tb), some (.int (i : Nat)), v9, none, none]) ⟨s7, _, rfl⟩ ?_ ?_⟩
    · rintro j σ H8 hj ⟨s8, v9, rfl⟩
      rw [show (0 : Int) + ((j : Nat) : Int) = ((j : Nat) : Int) by omega]
      exact ⟨_, rfl, _, rfl, _, rfl, _, rfl, _, rfl, _, rfl, x, ln, li, tb, i, j, NS, vi, IW, f, ps, _, rfl, F.same (sB.trans s8), by omega, by omega, fun H9 s9 => ⟨true, rfl, itF (by decide) ⟨s8.trans s9, _, rfl⟩⟩⟩
    · rintro σ H8 ⟨s8, v9, rfl⟩
      exact ⟨s8, _, _, rfl⟩
  · rintro σ H7 ⟨s7, v8, v9, rfl⟩
    have F7 := F.same (sB.trans s7)
    obtain ⟨o1, o2, o3⟩ := odd_text okN
    refine ⟨_, rfl, ln, _, _, _, rfl, rfl, SqL.of F7.ln, at0, by show 1 ≤ sizeLine; decide, fun q1 g1 => ?_⟩
    have z1 := same_new g1 (.lst [.str (NS.getD 0 Str.empty)])
    refine ⟨by show 0 ≤ sizeLine; decide, fun q2 g2 => ?_⟩
    have z2 := same_new g2 (.tup [])
    intro q3 g3
    have z3 := same_new g3 (.dK [])
    refine ⟨by show 9 ≤ sizeLine; decide, fun q4 g4 => ?_⟩
    have z4 := same_new g4 (.lst [.non, .bl true, .int 0, .str (Str.ofString ""), .str (Str.ofString "A"), .str (Str.ofString "nowhere"), .ref q1, .ref q2, .ref q3])
    have k1 := ((z2.trans z3).trans z4) q1 _ upd_same
    have k2 := (z3.trans z4) q2 _ upd_same
    have k3 := z4 q3 _ upd_same
    have k4 := @upd_same (upd (upd (upd H7 q1 (.lst [.str (NS.getD 0 Str.empty)])) q2 (.tup [])) q3 (.dK [])) q4 (.lst [.non, .bl true, .int 0, .str (Str.ofString ""), .str (Str.ofString "A"), .str (Str.ofString "nowhere"), .ref q1, .ref q2, .ref q3])
    have Z := ((z1.trans z2).trans z3).trans z4
    generalize upd (upd (upd (upd H7 q1 (.lst [.str (NS.getD 0 Str.empty)])) q2 (.tup [])) q3 (.dK [])) q4 (.lst [.non, .bl true, .int 0, .str (Str.ofString ""), .str (Str.ofString "A"), .str (Str.ofString "nowhere"), .ref q1, .ref q2, .ref q3]) = H8 at k1 k2 k3 k4 Z ⊢
    obtain ⟨vo, eo, ⟨To, ko⟩, no⟩ := at_all (p := OddAt NS H8) (xs := [.non, .bl true, .int 0, .str (Str.ofString ""), .str (Str.ofString "A"), .str (Str.ofString "nowhere"), .ref q1, .ref q2, .ref q3]) (d := ((d : Nat) : Int) / 1024 % 9) (fun v hv => by
      simp only [List.mem_cons, List.not_mem_nil, or_false] at hv
      rcases hv with rfl | rfl | rfl | rfl | rfl | rfl | rfl | rfl | rfl
      · exact ⟨⟨_, .non⟩, fun h => h⟩
      · exact ⟨⟨_, .bl _⟩, fun h => h⟩
      · exact ⟨⟨_, .int _⟩, fun h => h⟩
      · exact ⟨⟨_, .str _⟩, o1⟩
      · exact ⟨⟨_, .str _⟩, o2⟩
      · exact ⟨⟨_, .str _⟩, o3⟩
      · exact ⟨⟨_, .lst k1⟩, fun h => h⟩
      · exact ⟨⟨_, .tup k2⟩, fun h => h⟩
      · exact ⟨⟨_, .dK k3⟩, fun h => h⟩) (by omega) (by show ((d : Nat) : Int) / 1024 % 9 < 9; omega)
    refine ⟨_, rfl, _, _, rfl, rfl, ⟨by decide, by decide⟩, _, _, rfl, rfl, (by show (0 : Int) < 9; decide), q4, _, _, _, rfl, rfl, SqL.of k4, eo, ?_⟩
    have s8 := s7.trans Z
    clear k1 k2 k3 k4 z1 z2 z3 z4 Z eo
    refine ⟨by show 2 ≤ sizeLine; decide, fun q5 g5 => ?_⟩
    have z5 := same_new g5 (.tup [.int 0, .int 1])
    have k5 := @upd_same H8 q5 (.tup [.int 0, .int 1])
    have s9 := s8.trans z5
    have ko9 := ko.same z5
    generalize upd H8 q5 (.tup [.int 0, .int 1]) = H9 at k5 s9 ko9 ⊢
    obtain ⟨ini, zl, eN⟩ : ∃ ini zl, NS = ini ++ [zl] := ⟨NS.dropLast, NS.getLast (by intro h; rw [h] at n1; exact absurd n1 (by decide)), (List.dropLast_concat_getLast _).symm⟩
    have atl : atI (NS.map V.str) (-1) = some (.str zl) := by rw [eN, List.map_append]; exact atI_last _ _
    refine ⟨q5, rfl, ⟨_, SqT.of k5⟩, for_tup (xs := [.int 0, .int 1]) (fun i σ H' => Same H9 H' ∧ ∃ v11 : Option V, σ = [some (.ref a), some (.int (d : Nat)), some (.int (many : Nat)), some (.ref ln), some (.ref li), some (.ref n), some (.ref x), some (.ref tb), v8, v9, some vo, v11]) ⟨Same.refl _, _, rfl⟩ (fun i σ H' _ ⟨s', _⟩ => SqT.of (s' _ _ k5)) ?_ ?_⟩
    · rintro i v σ H10 hv ⟨s10, v11, rfl⟩
      obtain ⟨wy, rfl⟩ : ∃ wy : Int, v = .int wy := by
        match i, hv with
        | 0, hv => cases hv; exact ⟨0, rfl⟩
        | 1, hv => cases hv; exact ⟨1, rfl⟩
        | m + 2, hv => cases hv
      have F10 := F.same (sB.trans (s9.trans s10))
      refine ⟨_, rfl, _, rfl, _, rfl, _, rfl, ln, _, _, _, rfl, rfl, SqL.of F10.ln, at0, x, wy, NS, f, vo, .str (NS.getD 0 Str.empty), To, "str", rfl, F10.ft, ko9.same s10, .str _, .inl no, fun l H11 s11 hl => ?_⟩
      refine ⟨by show 1 ≤ sizeLine; decide, fun l2 g2 => ?_⟩
      have u2 := same_new g2 (.lst [.str (Str.ofString "stop")])
      refine ⟨l, l2, _, _, rfl, rfl, SqL.of (u2 _ _ hl), SqL.of upd_same, rfl, rfl, _, rfl, itF (by rw [eq_stop]; decide) ?_⟩
      have s12 := (s10.trans s11).trans u2
      generalize upd H11 l2 (.lst [.str (Str.ofString "stop")]) = H12 at s12 ⊢
      have F12 := F.same (sB.trans (s9.trans s12))
      refine ⟨_, rfl, _, rfl, _, rfl, _, rfl, ln, _, _, _, rfl, rfl, SqL.of F12.ln, atl, _, rfl, x, wy, NS, f, .str zl, vo, "str", To, rfl, F12.ft, .str _, ko9.same s12, .inr no, fun l3 H13 s13 hl3 => ?_⟩
      refine ⟨by show 1 ≤ sizeLine; decide, fun l4 g4 => ?_⟩
      have u4 := same_new g4 (.lst [.str (Str.ofString "stop")])
      exact ⟨l3, l4, _, _, rfl, rfl, SqL.of (u4 _ _ hl3), SqL.of upd_same, rfl, rfl, _, rfl, itF (by rw [eq_stop]; decide) ⟨(s12.trans s13).trans u4, _, rfl⟩⟩
    · rintro σ H10 ⟨s10, v11, rfl⟩
      have T10 := s9.trans s10
      have F10 := F.same (sB.trans T10)
      refine ⟨_, rfl, li, _, rfl, .inl (SqL.of F10.li), _, _, rfl, rfl, _, rfl, ?_⟩
      rw [F.al.length]
      by_cases c : 10 < IW.length
      · rw [show decide ((10 : Int) < ((IW.length : Nat) : Int)) = true from decide_eq_true (by omega)]
        exact itT rfl (q _)
      · refine itF (by rw [decide_eq_true_eq]; omega) ⟨_, rfl, _, rfl, _, rfl, _, rfl, _, rfl, n, ds, lw, x, ln, li, tb, NS, vi, IW, f, ps, _, B0, rfl, hN6.same T10, bds, blw, sB.trans T10, F, n1, by omega, by omega, nf, fun H11 => q _⟩

end
theorem all_mk {K : W.Frag} {h : Heap} {mg : Str → Option Value} (X : K.In h) (G : h.Ns mainGlobals mg)
    {aa : Addr} {ab ac ad ae af ag : Value} {ah ai : Option Addr} {aj : Array (Option Value)}
    {ak : Addr} {al am ao ap aq ar : Value} {as au : Option Addr} {av : Array (Option Value)}
    {aw : Addr} {ax ay az aA aB aC : Value} {aD aE : Option Addr} {aF : Array (Option Value)}
    {aG : Addr} {aH aI aJ aK aL aM : Value} {aN aO : Option Addr} {aP : Array (Option Value)}
    {aQ : Addr} {aR aS aT aU aV aW : Value} {aX aY : Option Addr} {aZ : Array (Option Value)}
    {a0 : Addr} {a1 a2 a3 a4 a5 a6 : Value} {a7 a8 : Option Addr} {a9 : Array (Option Value)}
    {ba : Addr} {bb bc bd be bf bg : Value} {bh bi : Option Addr} {bj : Array (Option Value)}
    {bk : Addr} {bl bm bn bo bp bq : Value} {br bs : Option Addr} {bt : Array (Option Value)}
    {bu : Addr} {bv bw bx bz bA bB : Value} {bC bD : Option Addr} {bE : Array (Option Value)}
    {bF : Addr} {bG bH bI bJ bK bL : Value} {bM bN : Option Addr} {bO : Array (Option Value)}
    {bP : Addr} {bQ bR bS bT bU bV : Value} {bW bX : Option Addr} {bY : Array (Option Value)}
    {bZ : Addr} {b0 b1 b2 b3 b4 b5 : Value} {b6 b7 : Option Addr} {b8 : Array (Option Value)}
    {b9 : Addr} {ca cb cc cd ce cf : Value} {cg ch : Option Addr} {ci : Array (Option Value)}
    {cj : Addr} {ck cl cm cn co cp : Value} {cq cr : Option Addr} {cs : Array (Option Value)}
    {cu : Addr} {cv cw cx cy cz cA : Value} {cB cC : Option Addr} {cD : Array (Option Value)}
    {cE : Addr} {cF cG cH cI cJ cK : Value} {cL cM : Option Addr} {cN : Array (Option Value)}
    {cO : Addr} {cP cQ cR cS cT cU : Value} {cV cW : Option Addr} {cX : Array (Option Value)}
    {cY : Addr} {cZ c0 c1 c2 c3 c4 : Value} {c5 c6 : Option Addr} {c7 : Array (Option Value)}
    {c8 : Addr} {c9 da db dc dd de : Value} {df dg : Option Addr} {dh : Array (Option Value)}
    {di : Addr} {dj dk dl dm dn dp : Value} {dq dr : Option Addr} {ds : Array (Option Value)}
    {dt : Addr} {du dv dw dx dy dz : Value} {dA dB : Option Addr} {dC : Array (Option Value)}
    {dD : Addr} {dE dF dG dH dI dJ : Value} {dK dL : Option Addr} {dM : Array (Option Value)}
    {dN : Addr} {dO dP dQ dR dS dT : Value} {dU dV : Option Addr} {dW : Array (Option Value)}
    {dX : Addr} {dY dZ d0 d1 d2 d3 : Value} {d4 d5 : Option Addr} {d6 : Array (Option Value)}
    {d7 : Addr} {d8 d9 ea eb ec ed : Value} {ee ef : Option Addr} {eg : Array (Option Value)}
    {eh : Addr} {ei ej ek el em en : Value} {eo ep : Option Addr} {eq : Array (Option Value)}
    {er : Addr} {es et eu ev ew ey : Value} {ez eA : Option Addr} {eB : Array (Option Value)}
    {eC : Addr} {eD eE eF eG eH eI : Value} {eJ eK : Option Addr} {eL : Array (Option Value)}
    {eM : Addr} {eN eO eP eQ eR eS : Value} {eT eU : Option Addr} {eV : Array (Option Value)}
    {eW : Addr} {eX eY eZ e1 e2 e3 : Value} {e4 e5 : Option Addr} {e6 : Array (Option Value)}
    {e7 : Addr} {e8 e9 fb fc fd fe : Value} {ff fg : Option Addr} {fh : Array (Option Value)}
    {fi : Addr} {fj fk fl fm fn fo : Value} {fp fq : Option Addr} {fr : Array (Option Value)}
    {fs : Addr} {ft fu fv fw fx fy : Value} {fz fA : Option Addr} {fB : Array (Option Value)}
    {fC : Addr} {fD fE fF fG fH fI : Value} {fJ fK : Option Addr} {fL : Array (Option Value)}
    {fM : Addr} {fN fO fP fQ fR fS : Value} {fT fU : Option Addr} {fV : Array (Option Value)}
    {fW : Addr} {fX fY fZ f0 f1 f2 : Value} {f3 f4 : Option Addr} {f5 : Array (Option Value)}
    {f6 : Addr} {f7 f8 f9 ga gb gc : Value} {gd gf : Option Addr} {gg : Array (Option Value)}
    {gh : Addr} {gi gj gk gl gm gn : Value} {go gp : Option Addr} {gq : Array (Option Value)}
    {gr : Addr} {gs gu gv gw gx gy : Value} {gz gA : Option Addr} {gB : Array (Option Value)}
    {gC : Addr} {gD gE gF gG gH gI : Value} {gJ gK : Option Addr} {gL : Array (Option Value)}
    {gM : Addr} {gN gO gP gQ gR gS : Value} {gT gU : Option Addr} {gV : Array (Option Value)}
    {gW : Addr} {gX gY gZ g0 g1 g2 : Value} {g3 g4 : Option Addr} {g5 : Array (Option Value)}
    {g6 : Addr} {g7 g8 g9 hb hc hd : Value} {he hf : Option Addr} {hg : Array (Option Value)}
    {hh : Addr} {hi hj hk hm hn ho : Value} {hp hq : Option Addr} {hr : Array (Option Value)}
    {hs : Addr} {ht hu hv hx hy hz : Value} {hA hB : Option Addr} {hC : Array (Option Value)}
    {hD : Addr} {hE hF hG hH hI hJ : Value} {hK hL : Option Addr} {hM : Array (Option Value)}
    {hN : Addr} {hO hP hQ hR hT hU : Value} {hV hW : Option Addr} {hX : Array (Option Value)}
    {hY : Addr} {hZ h0 h1 h2 h3 h4 : Value} {h5 h6 : Option Addr} {h7 : Array (Option Value)}
    {h8 : Addr} {h9 ia ib ic ie ig : Value} {ih ii : Option Addr} {ij : Array (Option Value)}
    {ik : Addr} {il im io ip iq ir : Value} {it iu : Option Addr} {iv : Array (Option Value)}
    {iw : Addr} {ix iy iz iA iB iC : Value} {iD iE : Option Addr} {iF : Array (Option Value)}
    {iG : Addr} {iH iI iJ iK iL iM : Value} {iN iO : Option Addr} {iP : Array (Option Value)}
    {iQ : Addr} {iR iS iT iU iV iW : Value} {iX iY : Option Addr} {iZ : Array (Option Value)}
    {i0 : Addr} {i1 i2 i3 i4 i5 i6 : Value} {i7 i8 : Option Addr} {i9 : Array (Option Value)}
    {ja : Addr} {jb jc jd je jf jg : Value} {jh ji : Option Addr} {jj : Array (Option Value)}
    {jk : Addr}
    {jl : Addr}
    {jm : Addr}
    {jn : Addr}
    {jo : Addr}
    {jp : Addr}
    {jq : Addr}
    {jr : Addr}
    {js : Addr}
    {jt : Addr}
    {ju : Addr}
    {jv : Addr}
    {jw : Addr}
    {jx : Addr}
    {jy : Addr}
    {jz : Addr}
    {jA : Addr}
    {jB : Addr}
    {jC : Addr}
    {jD : Addr}
    {jE : Addr}
    {jF : PySem.ClassData}
    {jG : Tok}
    {jH : Tok}
    {jI : Tok}
    {jJ : Tok}
    {jK : Tok}
    {jL : Tok}
    {jM : Tok}
    (jN : W.nsIn K mainGlobals "_wall" = some (some (.ref aa)))
    (jO : K.lookup aa = some ⟨ab, ah, .func (W.fnOf "_wall" "_wall" (defArgs s_wall) (defBody s_wall) (defScope s_wall) .none ac ad ae ai af ag), aj⟩)
    (jP : W.codeIn K af "_wall" = true)
    (jQ : W.keepIn K (.ref aa) = true)
    (jR : W.nsIn K mainGlobals "is_any_number" = some (some (.ref ak)))
    (jS : K.lookup ak = some ⟨al, as, .func (W.fnOf "is_any_number" "is_any_number" (defArgs s_is_any_number) (defBody s_is_any_number) (defScope s_is_any_number) .none am ao ap au aq ar), av⟩)
    (jT : W.codeIn K aq "is_any_number" = true)
    (jU : W.keepIn K (.ref ak) = true)
    (jV : W.nsIn K mainGlobals "is_number" = some (some (.ref aw)))
    (jW : K.lookup aw = some ⟨ax, aD, .func (W.fnOf "is_number" "is_number" (defArgs s_is_number) (defBody s_is_number) (defScope s_is_number) .none ay az aA aE aB aC), aF⟩)
    (jX : W.codeIn K aB "is_number" = true)
    (jY : W.keepIn K (.ref aw) = true)
    (jZ : W.nsIn K mainGlobals "check_number" = some (some (.ref aG)))
    (j0 : K.lookup aG = some ⟨aH, aN, .func (W.fnOf "check_number" "check_number" (defArgs s_check_number) (defBody s_check_number) (defScope s_check_number) .none aI aJ aK aO aL aM), aP⟩)
    (j1 : W.codeIn K aL "check_number" = true)
    (j2 : W.keepIn K (.ref aG) = true)
    (j3 : W.nsIn K mainGlobals "is_name" = some (some (.ref aQ)))
    (j4 : K.lookup aQ = some ⟨aR, aX, .func (W.fnOf "is_name" "is_name" (defArgs s_is_name) (defBody s_is_name) (defScope s_is_name) .none aS aT aU aY aV aW), aZ⟩)
    (j5 : W.codeIn K aV "is_name" = true)
    (j6 : W.keepIn K (.ref aQ) = true)
    (j7 : W.nsIn K mainGlobals "is_known" = some (some (.ref a0)))
    (j8 : K.lookup a0 = some ⟨a1, a7, .func (W.fnOf "is_known" "is_known" (defArgs s_is_known) (defBody s_is_known) (defScope s_is_known) .none a2 a3 a4 a8 a5 a6), a9⟩)
    (j9 : W.codeIn K a5 "is_known" = true)
    (ka : W.keepIn K (.ref a0) = true)
    (kc : W.nsIn K mainGlobals "walked_at_once" = some (some (.ref ba)))
    (kd : K.lookup ba = some ⟨bb, bh, .func (W.fnOf "walked_at_once" "walked_at_once" (defArgs s_walked_at_once) (defBody s_walked_at_once) (defScope s_walked_at_once) .none bc bd be bi bf bg), bj⟩)
    (ke : W.codeIn K bf "walked_at_once" = true)
    (kf : W.keepIn K (.ref ba) = true)
    (kg : W.nsIn K mainGlobals "led_over" = some (some (.ref bk)))
    (kh : K.lookup bk = some ⟨bl, br, .func (W.fnOf "led_over" "led_over" (defArgs s_led_over) (defBody s_led_over) (defScope s_led_over) .none bm bn bo bs bp bq), bt⟩)
    (ki : W.codeIn K bp "led_over" = true)
    (kj : W.keepIn K (.ref bk) = true)
    (kk : W.nsIn K mainGlobals "copy_of" = some (some (.ref bu)))
    (kl : K.lookup bu = some ⟨bv, bC, .func (W.fnOf "copy_of" "copy_of" (defArgs s_copy_of) (defBody s_copy_of) (defScope s_copy_of) .none bw bx bz bD bA bB), bE⟩)
    (km : W.codeIn K bA "copy_of" = true)
    (kn : W.keepIn K (.ref bu) = true)
    (ko : W.nsIn K mainGlobals "check_new" = some (some (.ref bF)))
    (kq : K.lookup bF = some ⟨bG, bM, .func (W.fnOf "check_new" "check_new" (defArgs s_check_new) (defBody s_check_new) (defScope s_check_new) .none bH bI bJ bN bK bL), bO⟩)
    (kr : W.codeIn K bK "check_new" = true)
    (ks : W.keepIn K (.ref bF) = true)
    (kt : W.nsIn K mainGlobals "check_room" = some (some (.ref bP)))
    (ku : K.lookup bP = some ⟨bQ, bW, .func (W.fnOf "check_room" "check_room" (defArgs s_check_room) (defBody s_check_room) (defScope s_check_room) .none bR bS bT bX bU bV), bY⟩)
    (kv : W.codeIn K bU "check_room" = true)
    (kw : W.keepIn K (.ref bP) = true)
    (kx : W.nsIn K mainGlobals "_law_draw" = some (some (.ref bZ)))
    (ky : K.lookup bZ = some ⟨b0, b6, .func (W.fnOf "_law_draw" "_law_draw" (defArgs s_law_draw) (defBody s_law_draw) (defScope s_law_draw) .none b1 b2 b3 b7 b4 b5), b8⟩)
    (kz : W.codeIn K b4 "_law_draw" = true)
    (kA : W.keepIn K (.ref bZ) = true)
    (kB : W.nsIn K mainGlobals "_law_word" = some (some (.ref b9)))
    (kC : K.lookup b9 = some ⟨ca, cg, .func (W.fnOf "_law_word" "_law_word" (defArgs s_law_word) (defBody s_law_word) (defScope s_law_word) .none cb cc cd ch ce cf), ci⟩)
    (kD : W.codeIn K ce "_law_word" = true)
    (kE : W.keepIn K (.ref b9) = true)
    (kF : W.nsIn K mainGlobals "_law_names" = some (some (.ref cj)))
    (kG : K.lookup cj = some ⟨ck, cq, .func (W.fnOf "_law_names" "_law_names" (defArgs s_law_names) (defBody s_law_names) (defScope s_law_names) .none cl cm cn cr co cp), cs⟩)
    (kH : W.codeIn K co "_law_names" = true)
    (kI : W.keepIn K (.ref cj) = true)
    (kJ : W.nsIn K mainGlobals "_law_walks" = some (some (.ref cu)))
    (kK : K.lookup cu = some ⟨cv, cB, .func (W.fnOf "_law_walks" "_law_walks" (defArgs s_law_walks) (defBody s_law_walks) (defScope s_law_walks) .none cw cx cy cC cz cA), cD⟩)
    (kL : W.codeIn K cz "_law_walks" = true)
    (kM : W.keepIn K (.ref cu) = true)
    (kN : W.nsIn K mainGlobals "_law_net" = some (some (.ref cE)))
    (kO : K.lookup cE = some ⟨cF, cL, .func (W.fnOf "_law_net" "_law_net" (defArgs s_law_net) (defBody s_law_net) (defScope s_law_net) .none cG cH cI cM cJ cK), cN⟩)
    (kP : W.codeIn K cJ "_law_net" = true)
    (kQ : W.keepIn K (.ref cE) = true)
    (kR : W.nsIn K mainGlobals "_law_table" = some (some (.ref cO)))
    (kS : K.lookup cO = some ⟨cP, cV, .func (W.fnOf "_law_table" "_law_table" (defArgs s_law_table) (defBody s_law_table) (defScope s_law_table) .none cQ cR cS cW cT cU), cX⟩)
    (kT : W.codeIn K cT "_law_table" = true)
    (kU : W.keepIn K (.ref cO) = true)
    (kW : W.nsIn K mainGlobals "_law_way_right" = some (some (.ref cY)))
    (kX : K.lookup cY = some ⟨cZ, c5, .func (W.fnOf "_law_way_right" "_law_way_right" (defArgs s_law_way_right) (defBody s_law_way_right) (defScope s_law_way_right) .none c0 c1 c2 c6 c3 c4), c7⟩)
    (kY : W.codeIn K c3 "_law_way_right" = true)
    (kZ : W.keepIn K (.ref cY) = true)
    (k0 : W.nsIn K mainGlobals "_law_right" = some (some (.ref c8)))
    (k1 : K.lookup c8 = some ⟨c9, df, .func (W.fnOf "_law_right" "_law_right" (defArgs s_law_right) (defBody s_law_right) (defScope s_law_right) .none da db dc dg dd de), dh⟩)
    (k2 : W.codeIn K dd "_law_right" = true)
    (k3 : W.keepIn K (.ref c8) = true)
    (k4 : W.nsIn K mainGlobals "_law_refused" = some (some (.ref di)))
    (k5 : K.lookup di = some ⟨dj, dq, .func (W.fnOf "_law_refused" "_law_refused" (defArgs s_law_refused) (defBody s_law_refused) (defScope s_law_refused) .none dk dl dm dr dn dp), ds⟩)
    (k6 : W.codeIn K dn "_law_refused" = true)
    (k7 : W.keepIn K (.ref di) = true)
    (k8 : W.nsIn K mainGlobals "_law_goes_on" = some (some (.ref dt)))
    (k9 : K.lookup dt = some ⟨du, dA, .func (W.fnOf "_law_goes_on" "_law_goes_on" (defArgs s_law_goes_on) (defBody s_law_goes_on) (defScope s_law_goes_on) .none dv dw dx dB dy dz), dC⟩)
    (la : W.codeIn K dy "_law_goes_on" = true)
    (lb : W.keepIn K (.ref dt) = true)
    (lc : W.nsIn K mainGlobals "law" = some (some (.ref dD)))
    (ld : K.lookup dD = some ⟨dE, dK, .func (W.fnOf "law" "law" (defArgs s_law) (defBody s_law) (defScope s_law) .none dF dG dH dL dI dJ), dM⟩)
    (lf : W.codeIn K dI "law" = true)
    (lg : W.keepIn K (.ref dD) = true)
    (lh : W.nsIn K mainGlobals "RoadError" = some (some (.ref jk)))
    (li : W.nsIn K mainGlobals "BadClock" = some (some (.ref jl)))
    (lj : W.nsIn K mainGlobals "BadRule" = some (some (.ref jm)))
    (lk : W.nsIn K mainGlobals "TooMany" = some (some (.ref jn)))
    (ll : W.nsIn K mainGlobals "BadName" = some (some (.ref jo)))
    (lm : W.nsIn K mainGlobals "Twice" = some (some (.ref jp)))
    (ln : W.nsIn K mainGlobals "NoStop" = some (some (.ref jq)))
    (lo : W.nsIn K mainGlobals "NoRule" = some (some (.ref jr)))
    (lp : W.nsIn K mainGlobals "NoTicket" = some (some (.ref js)))
    (lq : W.nsIn K mainGlobals "NoTrip" = some (some (.ref jt)))
    (lr : W.nsIn K mainGlobals "BadNumber" = some (some (.ref ju)))
    (ls : W.nsIn K mainGlobals "BadCalls" = some (some (.ref jv)))
    (lu : W.nsIn K mainGlobals "BadRow" = some (some (.ref jw)))
    (lv : W.nsIn K mainGlobals "NoRun" = some (some (.ref jx)))
    (lw : W.nsIn K mainGlobals "NoPlan" = some (some (.ref jy)))
    (lx : W.nsIn K mainGlobals "TooLate" = some (some (.ref jz)))
    (ly : W.nsIn K mainGlobals "NoTraveller" = some (some (.ref jA)))
    (lz : W.nsIn K mainGlobals "BadLine" = some (some (.ref jB)))
    (lA : W.nsIn K mainGlobals "Feet" = some (some (.ref jC)))
    (lB : W.nsIn K mainGlobals "Rule" = some (some (.ref jD)))
    (lC : W.nsIn K mainGlobals "Net" = some (some (.ref jE)))
    (lD : W.findIn K (.ref jC) "__init__" = some (some (.ref dN)))
    (lE : W.isFn K (.ref dN) = true)
    (lF : K.lookup dN = some ⟨dO, dU, .func (W.fnOf "__init__" "Feet.__init__" (defArgs s_Feet_init) (defBody s_Feet_init) (defScope s_Feet_init) .none dP dQ dR dV dS dT), dW⟩)
    (lG : W.codeIn K dS "Feet.__init__" = true)
    (lH : W.keepIn K (.ref dN) = true)
    (lI : W.findIn K (.ref jC) "take_shorter" = some (some (.ref dX)))
    (lJ : W.isFn K (.ref dX) = true)
    (lK : K.lookup dX = some ⟨dY, d4, .func (W.fnOf "take_shorter" "Feet.take_shorter" (defArgs s_Feet_take_shorter) (defBody s_Feet_take_shorter) (defScope s_Feet_take_shorter) .none dZ d0 d1 d5 d2 d3), d6⟩)
    (lL : W.codeIn K d2 "Feet.take_shorter" = true)
    (lM : W.keepIn K (.ref dX) = true)
    (lN : W.findIn K (.ref jC) "between" = some (some (.ref d7)))
    (lO : W.isFn K (.ref d7) = true)
    (lP : K.lookup d7 = some ⟨d8, ee, .func (W.fnOf "between" "Feet.between" (defArgs s_Feet_between) (defBody s_Feet_between) (defScope s_Feet_between) .none d9 ea eb ef ec ed), eg⟩)
    (lQ : W.codeIn K ec "Feet.between" = true)
    (lR : W.keepIn K (.ref d7) = true)
    (lS : W.findIn K (.ref jC) "minutes" = some (some (.ref eh)))
    (lT : W.isFn K (.ref eh) = true)
    (lU : K.lookup eh = some ⟨ei, eo, .func (W.fnOf "minutes" "Feet.minutes" (defArgs s_Feet_minutes) (defBody s_Feet_minutes) (defScope s_Feet_minutes) .none ej ek el ep em en), eq⟩)
    (lV : W.codeIn K em "Feet.minutes" = true)
    (lW : W.keepIn K (.ref eh) = true)
    (lX : W.findIn K (.ref jC) "way" = some (some (.ref er)))
    (lY : W.isFn K (.ref er) = true)
    (lZ : K.lookup er = some ⟨es, ez, .func (W.fnOf "way" "Feet.way" (defArgs s_Feet_way) (defBody s_Feet_way) (defScope s_Feet_way) .none et eu ev eA ew ey), eB⟩)
    (l0 : W.codeIn K ew "Feet.way" = true)
    (l1 : W.keepIn K (.ref er) = true)
    (l2 : W.findIn K (.ref jD) "copied" = some (some (.ref eC)))
    (l3 : W.isFn K (.ref eC) = true)
    (l4 : K.lookup eC = some ⟨eD, eJ, .func (W.fnOf "copied" "Rule.copied" (defArgs s_Rule_copied) (defBody s_Rule_copied) (defScope s_Rule_copied) .none eE eF eG eK eH eI), eL⟩)
    (l5 : W.codeIn K eH "Rule.copied" = true)
    (l6 : W.keepIn K (.ref eC) = true)
    (l7 : W.findIn K (.ref jD) "parts" = some (some (.ref eM)))
    (l8 : W.isFn K (.ref eM) = true)
    (l9 : K.lookup eM = some ⟨eN, eT, .func (W.fnOf "parts" "Rule.parts" (defArgs s_Rule_parts) (defBody s_Rule_parts) (defScope s_Rule_parts) .none eO eP eQ eU eR eS), eV⟩)
    (ma : W.codeIn K eR "Rule.parts" = true)
    (mb : W.keepIn K (.ref eM) = true)
    (mc : W.findIn K (.ref jD) "runs" = some (some (.ref eW)))
    (md : W.isFn K (.ref eW) = true)
    (me : K.lookup eW = some ⟨eX, e4, .func (W.fnOf "runs" "Rule.runs" (defArgs s_Rule_runs) (defBody s_Rule_runs) (defScope s_Rule_runs) .none eY eZ e1 e5 e2 e3), e6⟩)
    (mf : W.codeIn K e2 "Rule.runs" = true)
    (mh : W.keepIn K (.ref eW) = true)
    (mi : W.findIn K (.ref jD) "words" = some (some (.ref e7)))
    (mj : W.isFn K (.ref e7) = true)
    (mk : K.lookup e7 = some ⟨e8, ff, .func (W.fnOf "words" "Rule.words" (defArgs s_Rule_words) (defBody s_Rule_words) (defScope s_Rule_words) .none e9 fb fc fg fd fe), fh⟩)
    (ml : W.codeIn K fd "Rule.words" = true)
    (mm : W.keepIn K (.ref e7) = true)
    (mn : W.findIn K (.ref jD) "weight" = some (some (.ref fi)))
    (mo : W.isFn K (.ref fi) = true)
    (mp : K.lookup fi = some ⟨fj, fp, .func (W.fnOf "weight" "Rule.weight" (defArgs s_Rule_weight) (defBody s_Rule_weight) (defScope s_Rule_weight) .none fk fl fm fq fn fo), fr⟩)
    (mq : W.codeIn K fn "Rule.weight" = true)
    (mr : W.keepIn K (.ref fi) = true)
    (ms : W.findIn K (.ref jD) "depth" = some (some (.ref fs)))
    (mt : W.isFn K (.ref fs) = true)
    (mu : K.lookup fs = some ⟨ft, fz, .func (W.fnOf "depth" "Rule.depth" (defArgs s_Rule_depth) (defBody s_Rule_depth) (defScope s_Rule_depth) .none fu fv fw fA fx fy), fB⟩)
    (mv : W.codeIn K fx "Rule.depth" = true)
    (mw : W.keepIn K (.ref fs) = true)
    (mx : W.findIn K (.ref jE) "__init__" = some (some (.ref fC)))
    (my : W.isFn K (.ref fC) = true)
    (mz : K.lookup fC = some ⟨fD, fJ, .func (W.fnOf "__init__" "Net.__init__" (defArgs s_Net_init) (defBody s_Net_init) (defScope s_Net_init) .none fE fF fG fK fH fI), fL⟩)
    (mA : W.codeIn K fH "Net.__init__" = true)
    (mB : W.keepIn K (.ref fC) = true)
    (mC : W.findIn K (.ref jE) "copied" = some (some (.ref fM)))
    (mD : W.isFn K (.ref fM) = true)
    (mE : K.lookup fM = some ⟨fN, fT, .func (W.fnOf "copied" "Net.copied" (defArgs s_Net_copied) (defBody s_Net_copied) (defScope s_Net_copied) .none fO fP fQ fU fR fS), fV⟩)
    (mF : W.codeIn K fR "Net.copied" = true)
    (mG : W.keepIn K (.ref fM) = true)
    (mH : W.findIn K (.ref jE) "add_stop" = some (some (.ref fW)))
    (mI : W.isFn K (.ref fW) = true)
    (mJ : K.lookup fW = some ⟨fX, f3, .func (W.fnOf "add_stop" "Net.add_stop" (defArgs s_Net_add_stop) (defBody s_Net_add_stop) (defScope s_Net_add_stop) .none fY fZ f0 f4 f1 f2), f5⟩)
    (mK : W.codeIn K f1 "Net.add_stop" = true)
    (mL : W.keepIn K (.ref fW) = true)
    (mM : W.findIn K (.ref jE) "add_walk" = some (some (.ref f6)))
    (mN : W.isFn K (.ref f6) = true)
    (mO : K.lookup f6 = some ⟨f7, gd, .func (W.fnOf "add_walk" "Net.add_walk" (defArgs s_Net_add_walk) (defBody s_Net_add_walk) (defScope s_Net_add_walk) .none f8 f9 ga gf gb gc), gg⟩)
    (mP : W.codeIn K gb "Net.add_walk" = true)
    (mQ : W.keepIn K (.ref f6) = true)
    (mR : W.findIn K (.ref jE) "add_rule" = some (some (.ref gh)))
    (mS : W.isFn K (.ref gh) = true)
    (mT : K.lookup gh = some ⟨gi, go, .func (W.fnOf "add_rule" "Net.add_rule" (defArgs s_Net_add_rule) (defBody s_Net_add_rule) (defScope s_Net_add_rule) .none gj gk gl gp gm gn), gq⟩)
    (mU : W.codeIn K gm "Net.add_rule" = true)
    (mV : W.keepIn K (.ref gh) = true)
    (mW : W.findIn K (.ref jE) "add_ticket" = some (some (.ref gr)))
    (mX : W.isFn K (.ref gr) = true)
    (mY : K.lookup gr = some ⟨gs, gz, .func (W.fnOf "add_ticket" "Net.add_ticket" (defArgs s_Net_add_ticket) (defBody s_Net_add_ticket) (defScope s_Net_add_ticket) .none gu gv gw gA gx gy), gB⟩)
    (mZ : W.codeIn K gx "Net.add_ticket" = true)
    (m0 : W.keepIn K (.ref gr) = true)
    (m1 : W.findIn K (.ref jE) "add_trip" = some (some (.ref gC)))
    (m2 : W.isFn K (.ref gC) = true)
    (m3 : K.lookup gC = some ⟨gD, gJ, .func (W.fnOf "add_trip" "Net.add_trip" (defArgs s_Net_add_trip) (defBody s_Net_add_trip) (defScope s_Net_add_trip) .none gE gF gG gK gH gI), gL⟩)
    (m4 : W.codeIn K gH "Net.add_trip" = true)
    (m5 : W.keepIn K (.ref gC) = true)
    (m6 : W.findIn K (.ref jE) "check_stop" = some (some (.ref gM)))
    (m7 : W.isFn K (.ref gM) = true)
    (m8 : K.lookup gM = some ⟨gN, gT, .func (W.fnOf "check_stop" "Net.check_stop" (defArgs s_Net_check_stop) (defBody s_Net_check_stop) (defScope s_Net_check_stop) .none gO gP gQ gU gR gS), gV⟩)
    (m9 : W.codeIn K gR "Net.check_stop" = true)
    (na : W.keepIn K (.ref gM) = true)
    (nc : W.findIn K (.ref jE) "check_trip" = some (some (.ref gW)))
    (nd : W.isFn K (.ref gW) = true)
    (nf : K.lookup gW = some ⟨gX, g3, .func (W.fnOf "check_trip" "Net.check_trip" (defArgs s_Net_check_trip) (defBody s_Net_check_trip) (defScope s_Net_check_trip) .none gY gZ g0 g4 g1 g2), g5⟩)
    (ng : W.codeIn K g1 "Net.check_trip" = true)
    (nh : W.keepIn K (.ref gW) = true)
    (ni : W.findIn K (.ref jE) "check_call" = some (some (.ref g6)))
    (nj : W.isFn K (.ref g6) = true)
    (nk : K.lookup g6 = some ⟨g7, he, .func (W.fnOf "check_call" "Net.check_call" (defArgs s_Net_check_call) (defBody s_Net_check_call) (defScope s_Net_check_call) .none g8 g9 hb hf hc hd), hg⟩)
    (nl : W.codeIn K hc "Net.check_call" = true)
    (nm : W.keepIn K (.ref g6) = true)
    (nn : W.findIn K (.ref jE) "has_walk" = some (some (.ref hh)))
    (no : W.isFn K (.ref hh) = true)
    (np : K.lookup hh = some ⟨hi, hp, .func (W.fnOf "has_walk" "Net.has_walk" (defArgs s_Net_has_walk) (defBody s_Net_has_walk) (defScope s_Net_has_walk) .none hj hk hm hq hn ho), hr⟩)
    (nq : W.codeIn K hn "Net.has_walk" = true)
    (nr : W.keepIn K (.ref hh) = true)
    (nt : W.findIn K (.ref jE) "stops" = some (some (.ref hs)))
    (nu : W.isFn K (.ref hs) = true)
    (nv : K.lookup hs = some ⟨ht, hA, .func (W.fnOf "stops" "Net.stops" (defArgs s_Net_stops) (defBody s_Net_stops) (defScope s_Net_stops) .none hu hv hx hB hy hz), hC⟩)
    (nw : W.codeIn K hy "Net.stops" = true)
    (nx : W.keepIn K (.ref hs) = true)
    (ny : W.findIn K (.ref jE) "walks" = some (some (.ref hD)))
    (nz : W.isFn K (.ref hD) = true)
    (nA : K.lookup hD = some ⟨hE, hK, .func (W.fnOf "walks" "Net.walks" (defArgs s_Net_walks) (defBody s_Net_walks) (defScope s_Net_walks) .none hF hG hH hL hI hJ), hM⟩)
    (nB : W.codeIn K hI "Net.walks" = true)
    (nC : W.keepIn K (.ref hD) = true)
    (nD : W.findIn K (.ref jE) "rules" = some (some (.ref hN)))
    (nE : W.isFn K (.ref hN) = true)
    (nF : K.lookup hN = some ⟨hO, hV, .func (W.fnOf "rules" "Net.rules" (defArgs s_Net_rules) (defBody s_Net_rules) (defScope s_Net_rules) .none hP hQ hR hW hT hU), hX⟩)
    (nG : W.codeIn K hT "Net.rules" = true)
    (nH : W.keepIn K (.ref hN) = true)
    (nI : W.findIn K (.ref jE) "tickets" = some (some (.ref hY)))
    (nJ : W.isFn K (.ref hY) = true)
    (nK : K.lookup hY = some ⟨hZ, h5, .func (W.fnOf "tickets" "Net.tickets" (defArgs s_Net_tickets) (defBody s_Net_tickets) (defScope s_Net_tickets) .none h0 h1 h2 h6 h3 h4), h7⟩)
    (nL : W.codeIn K h3 "Net.tickets" = true)
    (nM : W.keepIn K (.ref hY) = true)
    (nN : W.findIn K (.ref jE) "trips" = some (some (.ref h8)))
    (nO : W.isFn K (.ref h8) = true)
    (nP : K.lookup h8 = some ⟨h9, ih, .func (W.fnOf "trips" "Net.trips" (defArgs s_Net_trips) (defBody s_Net_trips) (defScope s_Net_trips) .none ia ib ic ii ie ig), ij⟩)
    (nQ : W.codeIn K ie "Net.trips" = true)
    (nR : W.keepIn K (.ref h8) = true)
    (nS : W.findIn K (.ref jE) "zone" = some (some (.ref ik)))
    (nT : W.isFn K (.ref ik) = true)
    (nU : K.lookup ik = some ⟨il, it, .func (W.fnOf "zone" "Net.zone" (defArgs s_Net_zone) (defBody s_Net_zone) (defScope s_Net_zone) .none im io ip iu iq ir), iv⟩)
    (nV : W.codeIn K iq "Net.zone" = true)
    (nW : W.keepIn K (.ref ik) = true)
    (nX : W.findIn K (.ref jE) "change" = some (some (.ref iw)))
    (nY : W.isFn K (.ref iw) = true)
    (nZ : K.lookup iw = some ⟨ix, iD, .func (W.fnOf "change" "Net.change" (defArgs s_Net_change) (defBody s_Net_change) (defScope s_Net_change) .none iy iz iA iE iB iC), iF⟩)
    (n0 : W.codeIn K iB "Net.change" = true)
    (n1 : W.keepIn K (.ref iw) = true)
    (n2 : W.findIn K (.ref jE) "rule" = some (some (.ref iG)))
    (n3 : W.isFn K (.ref iG) = true)
    (n4 : K.lookup iG = some ⟨iH, iN, .func (W.fnOf "rule" "Net.rule" (defArgs s_Net_rule) (defBody s_Net_rule) (defScope s_Net_rule) .none iI iJ iK iO iL iM), iP⟩)
    (n5 : W.codeIn K iL "Net.rule" = true)
    (n6 : W.keepIn K (.ref iG) = true)
    (n7 : W.findIn K (.ref jE) "ticket" = some (some (.ref iQ)))
    (n8 : W.isFn K (.ref iQ) = true)
    (n9 : K.lookup iQ = some ⟨iR, iX, .func (W.fnOf "ticket" "Net.ticket" (defArgs s_Net_ticket) (defBody s_Net_ticket) (defScope s_Net_ticket) .none iS iT iU iY iV iW), iZ⟩)
    (oa : W.codeIn K iV "Net.ticket" = true)
    (ob : W.keepIn K (.ref iQ) = true)
    (oe : W.findIn K (.ref jE) "rule_name" = some (some (.ref i0)))
    (og : W.isFn K (.ref i0) = true)
    (oh : K.lookup i0 = some ⟨i1, i7, .func (W.fnOf "rule_name" "Net.rule_name" (defArgs s_Net_rule_name) (defBody s_Net_rule_name) (defScope s_Net_rule_name) .none i2 i3 i4 i8 i5 i6), i9⟩)
    (oi : W.codeIn K i5 "Net.rule_name" = true)
    (oj : W.keepIn K (.ref i0) = true)
    (ok : W.findIn K (.ref jE) "calls" = some (some (.ref ja)))
    (ol : W.isFn K (.ref ja) = true)
    (om : K.lookup ja = some ⟨jb, jh, .func (W.fnOf "calls" "Net.calls" (defArgs s_Net_calls) (defBody s_Net_calls) (defScope s_Net_calls) .none jc jd je ji jf jg), jj⟩)
    (on : W.codeIn K jf "Net.calls" = true)
    (oo : W.keepIn K (.ref ja) = true)
    (op : W.plainGet K jC Str.empty = true)
    (oq : W.hasDictIn K jC = true)
    (os : W.plainOver K jC = true)
    (ot : W.findIn K (.ref jC) "__setattr__" = some (some (.builtin "object.__setattr__")))
    (ou : W.makesIn K jC = true)
    (ov : W.keepIn K (.ref jC) = true)
    (ow : W.findIn K (.ref jC) "known" = some none)
    (ox : W.findIn K (.ref jC) "found" = some none)
    (oy : W.plainGet K jD Str.empty = true)
    (oz : W.hasDictIn K jD = true)
    (oA : W.plainOver K jD = true)
    (oB : W.findIn K (.ref jD) "__setattr__" = some (some (.builtin "object.__setattr__")))
    (oC : W.makesIn K jD = true)
    (oD : W.keepIn K (.ref jD) = true)
    (oE : W.findIn K (.ref jD) "__init__" = some (some (.builtin "object.__init__")))
    (oF : W.findIn K (.ref jD) "known" = some none)
    (oG : W.findIn K (.ref jD) "found" = some none)
    (oH : W.findIn K (.ref jD) "stop_rows" = some none)
    (oI : W.findIn K (.ref jD) "walk_rows" = some none)
    (oJ : W.findIn K (.ref jD) "rule_rows" = some none)
    (oK : W.findIn K (.ref jD) "ticket_rows" = some none)
    (oL : W.findIn K (.ref jD) "trip_rows" = some none)
    (oM : W.plainGet K jE Str.empty = true)
    (oN : W.hasDictIn K jE = true)
    (oO : W.plainOver K jE = true)
    (oP : W.findIn K (.ref jE) "__setattr__" = some (some (.builtin "object.__setattr__")))
    (oQ : W.makesIn K jE = true)
    (oR : W.keepIn K (.ref jE) = true)
    (oS : W.findIn K (.ref jE) "stop_rows" = some none)
    (oT : W.findIn K (.ref jE) "walk_rows" = some none)
    (oU : W.findIn K (.ref jE) "rule_rows" = some none)
    (oV : W.findIn K (.ref jE) "ticket_rows" = some none)
    (oW : W.findIn K (.ref jE) "trip_rows" = some none)
    (oX : W.excIn K jq [.type "ValueError", .type "Exception", .type "BaseException", .type "object"] "ValueError.__new__" = true)
    (oY : W.clsIn K jq = some jF)
    (oZ : W.findIn K (.ref jq) "__getattribute__" = some (some (.builtin "BaseException.__getattribute__")))
    (o0 : W.findIn K (.ref jq) "__getattr__" = some none)
    (o1 : W.findIn K (.ref jq) "__class__" = some (some (.builtin "object.__class__")))
    (o2 : W.mroIn K jq (.type "object") = some true)
    (o3 : W.mroIn K jq (.type "BaseException") = some true)
    (o4 : W.specialIn K (.builtin "object.__class__") "__get__" = some (some (.builtin "getset_descriptor.__get__")))
    (o5 : W.takesIn K (.builtin "object.__class__") = some true)
    (o6 : W.kitOne K (.ref jq) (.ref jv) = some false)
    (o7 : W.kitOne K (.ref jq) (.ref jl) = some false)
    (o8 : W.kitOne K (.ref jq) (.ref jB) = some false)
    (o9 : W.kitOne K (.ref jq) (.ref jo) = some false)
    (pa : W.kitOne K (.ref jq) (.ref ju) = some false)
    (pb : W.kitOne K (.ref jq) (.ref jw) = some false)
    (pc : W.kitOne K (.ref jq) (.ref jm) = some false)
    (pd : W.kitOne K (.ref jq) (.ref jy) = some false)
    (pe : W.kitOne K (.ref jq) (.ref jr) = some false)
    (pf : W.kitOne K (.ref jq) (.ref jx) = some false)
    (pg : W.kitOne K (.ref jq) (.ref jq) = some true)
    (ph : W.kitOne K (.ref jq) (.ref js) = some false)
    (pi : W.kitOne K (.ref jq) (.ref jA) = some false)
    (pj : W.kitOne K (.ref jq) (.ref jt) = some false)
    (pk : W.kitOne K (.ref jq) (.ref jz) = some false)
    (pl : W.kitOne K (.ref jq) (.ref jn) = some false)
    (pn : W.kitOne K (.ref jq) (.ref jp) = some false)
    (po : W.kitOne K (.ref jq) (.type "ValueError") = some true)
    (pp : W.exmOne K (.ref jq) (.ref jk) = some true)
    (pq : W.nsIn K mainGlobals "ValueError" = some none)
    (pr : W.nsIn K mainGlobals "all" = some none)
    (pt : W.nsIn K mainGlobals "any" = some none)
    (pu : W.nsIn K mainGlobals "bool" = some none)
    (pv : W.nsIn K mainGlobals "dict" = some none)
    (pw : W.nsIn K mainGlobals "enumerate" = some none)
    (px : W.nsIn K mainGlobals "int" = some none)
    (py : W.nsIn K mainGlobals "isinstance" = some none)
    (pz : W.nsIn K mainGlobals "len" = some none)
    (pA : W.nsIn K mainGlobals "list" = some none)
    (pB : W.nsIn K mainGlobals "min" = some none)
    (pC : W.nsIn K mainGlobals "range" = some none)
    (pD : W.nsIn K mainGlobals "str" = some none)
    (pE : W.nsIn K mainGlobals "zip" = some none)
    (pF : W.nsIn K mainGlobals "LETTERS" = some (some (.str (Str.ofString "abcdefghijklmnopqrstuvwxyz") jG)))
    (pG : W.nsIn K mainGlobals "MOST_LETTERS" = some (some (.int 8 jH)))
    (pH : W.nsIn K mainGlobals "MOST_STOPS" = some (some (.int 8 jI)))
    (pI : W.nsIn K mainGlobals "MOST_WALKS" = some (some (.int 12 jJ)))
    (pJ : W.nsIn K mainGlobals "LAST_ZONE" = some (some (.int 6 jK)))
    (pK : W.nsIn K mainGlobals "MOST_CHANGE" = some (some (.int 30 jL)))
    (pL : W.nsIn K mainGlobals "MOST_WALKED" = some (some (.int 60 jM)))
    : ∃ t : Adr, Tab K mg t := by
  have pM := fun_mk (st := s_wall) jO jP jQ
  have pN := pM.binds (ps := ["k"]) fun _ _ _ _ _ _ us hl => match us, hl with | [_], _ => rfl
  have pO := fun_mk (st := s_is_any_number) jS jT jU
  have pP := pO.binds (ps := ["value"]) fun _ _ _ _ _ _ us hl => match us, hl with | [_], _ => rfl
  have pQ := fun_mk (st := s_is_number) jW jX jY
  have pR := pQ.binds (ps := ["value", "least", "most"]) fun _ _ _ _ _ _ us hl => match us, hl with | [_, _, _], _ => rfl
  have pS := fun_mk (st := s_check_number) j0 j1 j2
  have pT := pS.binds (ps := ["value", "least", "most"]) fun _ _ _ _ _ _ us hl => match us, hl with | [_, _, _], _ => rfl
  have pU := fun_mk (st := s_is_name) j4 j5 j6
  have pV := pU.binds (ps := ["value"]) fun _ _ _ _ _ _ us hl => match us, hl with | [_], _ => rfl
  have pW := fun_mk (st := s_is_known) j8 j9 ka
  have pX := pW.binds (ps := ["value", "named"]) fun _ _ _ _ _ _ us hl => match us, hl with | [_, _], _ => rfl
  have pY := fun_mk (st := s_walked_at_once) kd ke kf
  have pZ := pY.binds (ps := ["net"]) fun _ _ _ _ _ _ us hl => match us, hl with | [_], _ => rfl
  have p0 := fun_mk (st := s_led_over) kh ki kj
  have p1 := p0.binds (ps := ["found", "one", "middle", "other"]) fun _ _ _ _ _ _ us hl => match us, hl with | [_, _, _, _], _ => rfl
  have p2 := fun_mk (st := s_copy_of) kl km kn
  have p3 := p2.binds (ps := ["rule"]) fun _ _ _ _ _ _ us hl => match us, hl with | [_], _ => rfl
  have p4 := fun_mk (st := s_check_new) kq kr ks
  have p5 := p4.binds (ps := ["name", "named"]) fun _ _ _ _ _ _ us hl => match us, hl with | [_, _], _ => rfl
  have p6 := fun_mk (st := s_check_room) ku kv kw
  have p7 := p6.binds (ps := ["kept", "most"]) fun _ _ _ _ _ _ us hl => match us, hl with | [_, _], _ => rfl
  have p8 := fun_mk (st := s_law_draw) ky kz kA
  have p9 := p8.binds (ps := ["_law_script", "_law_k"]) fun _ _ _ _ _ _ us hl => match us, hl with | [_, _], _ => rfl
  have qa := fun_mk (st := s_law_word) kC kD kE
  have qb := qa.binds (ps := ["_law_e"]) fun _ _ _ _ _ _ us hl => match us, hl with | [_], _ => rfl
  have qc := fun_mk (st := s_law_names) kG kH kI
  have qd := qc.binds (ps := ["_law_script", "_law_k", "_law_many"]) fun _ _ _ _ _ _ us hl => match us, hl with | [_, _, _], _ => rfl
  have qe := fun_mk (st := s_law_walks) kK kL kM
  have qf := qe.binds (ps := ["_law_script", "_law_k", "_law_many", "_law_most"]) fun _ _ _ _ _ _ us hl => match us, hl with | [_, _, _, _], _ => rfl
  have qg := fun_mk (st := s_law_net) kO kP kQ
  have qh := qg.binds (ps := ["_law_names_here", "_law_walks_here"]) fun _ _ _ _ _ _ us hl => match us, hl with | [_, _], _ => rfl
  have qi := fun_mk (st := s_law_table) kS kT kU
  have qj := qi.binds (ps := ["_law_many", "_law_walks_here"]) fun _ _ _ _ _ _ us hl => match us, hl with | [_, _], _ => rfl
  have qk := fun_mk (st := s_law_way_right) kX kY kZ
  have ql := qk.binds (ps := ["_law_way", "_law_names_here", "_law_walks_here", "_law_one", "_law_other", "_law_due"]) fun _ _ _ _ _ _ us hl => match us, hl with | [_, _, _, _, _, _], _ => rfl
  have qm := fun_mk (st := s_law_right) k1 k2 k3
  have qn := qm.binds (ps := ["_law_feet", "_law_names_here", "_law_walks_here", "_law_table_here", "_law_one", "_law_other"]) fun _ _ _ _ _ _ us hl => match us, hl with | [_, _, _, _, _, _], _ => rfl
  have qo := fun_mk (st := s_law_refused) k5 k6 k7
  have qp := qo.binds (ps := ["_law_feet", "_law_way", "_law_one", "_law_other"]) fun _ _ _ _ _ _ us hl => match us, hl with | [_, _, _, _], _ => rfl
  have qq := fun_mk (st := s_law_goes_on) k9 la lb
  have qr := qq.binds (ps := ["_law_net_here", "_law_feet", "_law_names_here", "_law_walks_here", "_law_table_here"]) fun _ _ _ _ _ _ us hl => match us, hl with | [_, _, _, _, _], _ => rfl
  have qs := fun_mk (st := s_law) ld lf lg
  have qt := qs.binds (ps := ["_law_script"]) fun _ _ _ _ _ _ us hl => match us, hl with | [_], _ => rfl
  have qu := fun_mk (st := s_Feet_init) lF lG lH
  have qv := qu.binds (ps := ["self", "net"]) fun _ _ _ _ _ _ us hl => match us, hl with | [_, _], _ => rfl
  have qw := fun_mk (st := s_Feet_take_shorter) lK lL lM
  have qx := qw.binds (ps := ["self", "one", "other", "led"]) fun _ _ _ _ _ _ us hl => match us, hl with | [_, _, _, _], _ => rfl
  have qy := fun_mk (st := s_Feet_between) lP lQ lR
  have qz := qy.binds (ps := ["self", "one", "other"]) fun _ _ _ _ _ _ us hl => match us, hl with | [_, _, _], _ => rfl
  have qA := fun_mk (st := s_Feet_minutes) lU lV lW
  have qB := qA.binds (ps := ["self", "one", "other"]) fun _ _ _ _ _ _ us hl => match us, hl with | [_, _, _], _ => rfl
  have qC := fun_mk (st := s_Feet_way) lZ l0 l1
  have qD := qC.binds (ps := ["self", "one", "other"]) fun _ _ _ _ _ _ us hl => match us, hl with | [_, _, _], _ => rfl
  have qE := fun_mk (st := s_Rule_copied) l4 l5 l6
  have qF := qE.binds (ps := ["self"]) fun _ _ _ _ _ _ us hl => match us, hl with | [_], _ => rfl
  have qG := fun_mk (st := s_Rule_parts) l9 ma mb
  have qH := qG.binds (ps := ["self"]) fun _ _ _ _ _ _ us hl => match us, hl with | [_], _ => rfl
  have qI := fun_mk (st := s_Rule_runs) me mf mh
  have qJ := qI.binds (ps := ["self", "day"]) fun _ _ _ _ _ _ us hl => match us, hl with | [_, _], _ => rfl
  have qK := fun_mk (st := s_Rule_words) mk ml mm
  have qL := qK.binds (ps := ["self"]) fun _ _ _ _ _ _ us hl => match us, hl with | [_], _ => rfl
  have qM := fun_mk (st := s_Rule_weight) mp mq mr
  have qN := qM.binds (ps := ["self"]) fun _ _ _ _ _ _ us hl => match us, hl with | [_], _ => rfl
  have qO := fun_mk (st := s_Rule_depth) mu mv mw
  have qP := qO.binds (ps := ["self"]) fun _ _ _ _ _ _ us hl => match us, hl with | [_], _ => rfl
  have qQ := fun_mk (st := s_Net_init) mz mA mB
  have qR := qQ.binds (ps := ["self"]) fun _ _ _ _ _ _ us hl => match us, hl with | [_], _ => rfl
  have qS := fun_mk (st := s_Net_copied) mE mF mG
  have qT := qS.binds (ps := ["self"]) fun _ _ _ _ _ _ us hl => match us, hl with | [_], _ => rfl
  have qU := fun_mk (st := s_Net_add_stop) mJ mK mL
  have qV := qU.binds (ps := ["self", "name", "zone", "change"]) fun _ _ _ _ _ _ us hl => match us, hl with | [_, _, _, _], _ => rfl
  have qW := fun_mk (st := s_Net_add_walk) mO mP mQ
  have qX := qW.binds (ps := ["self", "one", "other", "minutes"]) fun _ _ _ _ _ _ us hl => match us, hl with | [_, _, _, _], _ => rfl
  have qY := fun_mk (st := s_Net_add_rule) mT mU mV
  have qZ := qY.binds (ps := ["self", "name", "rule"]) fun _ _ _ _ _ _ us hl => match us, hl with | [_, _, _], _ => rfl
  have q0 := fun_mk (st := s_Net_add_ticket) mY mZ m0
  have q1 := q0.binds (ps := ["self", "name", "price", "lasts", "zones"]) fun _ _ _ _ _ _ us hl => match us, hl with | [_, _, _, _, _], _ => rfl
  have q2 := fun_mk (st := s_Net_add_trip) m3 m4 m5
  have q3 := q2.binds (ps := ["self", "name", "rule", "calls"]) fun _ _ _ _ _ _ us hl => match us, hl with | [_, _, _, _], _ => rfl
  have q4 := fun_mk (st := s_Net_check_stop) m8 m9 na
  have q5 := q4.binds (ps := ["self", "name"]) fun _ _ _ _ _ _ us hl => match us, hl with | [_, _], _ => rfl
  have q6 := fun_mk (st := s_Net_check_trip) nf ng nh
  have q7 := q6.binds (ps := ["self", "name"]) fun _ _ _ _ _ _ us hl => match us, hl with | [_, _], _ => rfl
  have q8 := fun_mk (st := s_Net_check_call) nk nl nm
  have q9 := q8.binds (ps := ["self", "call"]) fun _ _ _ _ _ _ us hl => match us, hl with | [_, _], _ => rfl
  have ra := fun_mk (st := s_Net_has_walk) np nq nr
  have rb := ra.binds (ps := ["self", "one", "other"]) fun _ _ _ _ _ _ us hl => match us, hl with | [_, _, _], _ => rfl
  have rc := fun_mk (st := s_Net_stops) nv nw nx
  have rd := rc.binds (ps := ["self"]) fun _ _ _ _ _ _ us hl => match us, hl with | [_], _ => rfl
  have re := fun_mk (st := s_Net_walks) nA nB nC
  have rf := re.binds (ps := ["self"]) fun _ _ _ _ _ _ us hl => match us, hl with | [_], _ => rfl
  have rg := fun_mk (st := s_Net_rules) nF nG nH
  have rh := rg.binds (ps := ["self"]) fun _ _ _ _ _ _ us hl => match us, hl with | [_], _ => rfl
  have ri := fun_mk (st := s_Net_tickets) nK nL nM
  have rj := ri.binds (ps := ["self"]) fun _ _ _ _ _ _ us hl => match us, hl with | [_], _ => rfl
  have rk := fun_mk (st := s_Net_trips) nP nQ nR
  have rl := rk.binds (ps := ["self"]) fun _ _ _ _ _ _ us hl => match us, hl with | [_], _ => rfl
  have rm := fun_mk (st := s_Net_zone) nU nV nW
  have rn := rm.binds (ps := ["self", "stop"]) fun _ _ _ _ _ _ us hl => match us, hl with | [_, _], _ => rfl
  have ro := fun_mk (st := s_Net_change) nZ n0 n1
  have rp := ro.binds (ps := ["self", "stop"]) fun _ _ _ _ _ _ us hl => match us, hl with | [_, _], _ => rfl
  have rq := fun_mk (st := s_Net_rule) n4 n5 n6
  have rr := rq.binds (ps := ["self", "name"]) fun _ _ _ _ _ _ us hl => match us, hl with | [_, _], _ => rfl
  have rs := fun_mk (st := s_Net_ticket) n9 oa ob
  have rt := rs.binds (ps := ["self", "name"]) fun _ _ _ _ _ _ us hl => match us, hl with | [_, _], _ => rfl
  have ru := fun_mk (st := s_Net_rule_name) oh oi oj
  have rv := ru.binds (ps := ["self", "trip"]) fun _ _ _ _ _ _ us hl => match us, hl with | [_, _], _ => rfl
  have rx := fun_mk (st := s_Net_calls) om on oo
  have ry := rx.binds (ps := ["self", "trip"]) fun _ _ _ _ _ _ us hl => match us, hl with | [_, _], _ => rfl
  exact ⟨⟨aa, W.fnOf "_wall" "_wall" (defArgs s_wall) (defBody s_wall) (defScope s_wall) .none ac ad ae ai af ag, ak, W.fnOf "is_any_number" "is_any_number" (defArgs s_is_any_number) (defBody s_is_any_number) (defScope s_is_any_number) .none am ao ap au aq ar, aw, W.fnOf "is_number" "is_number" (defArgs s_is_number) (defBody s_is_number) (defScope s_is_number) .none ay az aA aE aB aC, aG, W.fnOf "check_number" "check_number" (defArgs s_check_number) (defBody s_check_number) (defScope s_check_number) .none aI aJ aK aO aL aM, aQ, W.fnOf "is_name" "is_name" (defArgs s_is_name) (defBody s_is_name) (defScope s_is_name) .none aS aT aU aY aV aW, a0, W.fnOf "is_known" "is_known" (defArgs s_is_known) (defBody s_is_known) (defScope s_is_known) .none a2 a3 a4 a8 a5 a6, ba, W.fnOf "walked_at_once" "walked_at_once" (defArgs s_walked_at_once) (defBody s_walked_at_once) (defScope s_walked_at_once) .none bc bd be bi bf bg, bk, W.fnOf "led_over" "led_over" (defArgs s_led_over) (defBody s_led_over) (defScope s_led_over) .none bm bn bo bs bp bq, bu, W.fnOf "copy_of" "copy_of" (defArgs s_copy_of) (defBody s_copy_of) (defScope s_copy_of) .none bw bx bz bD bA bB, bF, W.fnOf "check_new" "check_new" (defArgs s_check_new) (defBody s_check_new) (defScope s_check_new) .none bH bI bJ bN bK bL, bP, W.fnOf "check_room" "check_room" (defArgs s_check_room) (defBody s_check_room) (defScope s_check_room) .none bR bS bT bX bU bV, bZ, W.fnOf "_law_draw" "_law_draw" (defArgs s_law_draw) (defBody s_law_draw) (defScope s_law_draw) .none b1 b2 b3 b7 b4 b5, b9, W.fnOf "_law_word" "_law_word" (defArgs s_law_word) (defBody s_law_word) (defScope s_law_word) .none cb cc cd ch ce cf, cj, W.fnOf "_law_names" "_law_names" (defArgs s_law_names) (defBody s_law_names) (defScope s_law_names) .none cl cm cn cr co cp, cu, W.fnOf "_law_walks" "_law_walks" (defArgs s_law_walks) (defBody s_law_walks) (defScope s_law_walks) .none cw cx cy cC cz cA, cE, W.fnOf "_law_net" "_law_net" (defArgs s_law_net) (defBody s_law_net) (defScope s_law_net) .none cG cH cI cM cJ cK, cO, W.fnOf "_law_table" "_law_table" (defArgs s_law_table) (defBody s_law_table) (defScope s_law_table) .none cQ cR cS cW cT cU, cY, W.fnOf "_law_way_right" "_law_way_right" (defArgs s_law_way_right) (defBody s_law_way_right) (defScope s_law_way_right) .none c0 c1 c2 c6 c3 c4, c8, W.fnOf "_law_right" "_law_right" (defArgs s_law_right) (defBody s_law_right) (defScope s_law_right) .none da db dc dg dd de, di, W.fnOf "_law_refused" "_law_refused" (defArgs s_law_refused) (defBody s_law_refused) (defScope s_law_refused) .none dk dl dm dr dn dp, dt, W.fnOf "_law_goes_on" "_law_goes_on" (defArgs s_law_goes_on) (defBody s_law_goes_on) (defScope s_law_goes_on) .none dv dw dx dB dy dz, dD, W.fnOf "law" "law" (defArgs s_law) (defBody s_law) (defScope s_law) .none dF dG dH dL dI dJ, dN, W.fnOf "__init__" "Feet.__init__" (defArgs s_Feet_init) (defBody s_Feet_init) (defScope s_Feet_init) .none dP dQ dR dV dS dT, dX, W.fnOf "take_shorter" "Feet.take_shorter" (defArgs s_Feet_take_shorter) (defBody s_Feet_take_shorter) (defScope s_Feet_take_shorter) .none dZ d0 d1 d5 d2 d3, d7, W.fnOf "between" "Feet.between" (defArgs s_Feet_between) (defBody s_Feet_between) (defScope s_Feet_between) .none d9 ea eb ef ec ed, eh, W.fnOf "minutes" "Feet.minutes" (defArgs s_Feet_minutes) (defBody s_Feet_minutes) (defScope s_Feet_minutes) .none ej ek el ep em en, er, W.fnOf "way" "Feet.way" (defArgs s_Feet_way) (defBody s_Feet_way) (defScope s_Feet_way) .none et eu ev eA ew ey, eC, W.fnOf "copied" "Rule.copied" (defArgs s_Rule_copied) (defBody s_Rule_copied) (defScope s_Rule_copied) .none eE eF eG eK eH eI, eM, W.fnOf "parts" "Rule.parts" (defArgs s_Rule_parts) (defBody s_Rule_parts) (defScope s_Rule_parts) .none eO eP eQ eU eR eS, eW, W.fnOf "runs" "Rule.runs" (defArgs s_Rule_runs) (defBody s_Rule_runs) (defScope s_Rule_runs) .none eY eZ e1 e5 e2 e3, e7, W.fnOf "words" "Rule.words" (defArgs s_Rule_words) (defBody s_Rule_words) (defScope s_Rule_words) .none e9 fb fc fg fd fe, fi, W.fnOf "weight" "Rule.weight" (defArgs s_Rule_weight) (defBody s_Rule_weight) (defScope s_Rule_weight) .none fk fl fm fq fn fo, fs, W.fnOf "depth" "Rule.depth" (defArgs s_Rule_depth) (defBody s_Rule_depth) (defScope s_Rule_depth) .none fu fv fw fA fx fy, fC, W.fnOf "__init__" "Net.__init__" (defArgs s_Net_init) (defBody s_Net_init) (defScope s_Net_init) .none fE fF fG fK fH fI, fM, W.fnOf "copied" "Net.copied" (defArgs s_Net_copied) (defBody s_Net_copied) (defScope s_Net_copied) .none fO fP fQ fU fR fS, fW, W.fnOf "add_stop" "Net.add_stop" (defArgs s_Net_add_stop) (defBody s_Net_add_stop) (defScope s_Net_add_stop) .none fY fZ f0 f4 f1 f2, f6, W.fnOf "add_walk" "Net.add_walk" (defArgs s_Net_add_walk) (defBody s_Net_add_walk) (defScope s_Net_add_walk) .none f8 f9 ga gf gb gc, gh, W.fnOf "add_rule" "Net.add_rule" (defArgs s_Net_add_rule) (defBody s_Net_add_rule) (defScope s_Net_add_rule) .none gj gk gl gp gm gn, gr, W.fnOf "add_ticket" "Net.add_ticket" (defArgs s_Net_add_ticket) (defBody s_Net_add_ticket) (defScope s_Net_add_ticket) .none gu gv gw gA gx gy, gC, W.fnOf "add_trip" "Net.add_trip" (defArgs s_Net_add_trip) (defBody s_Net_add_trip) (defScope s_Net_add_trip) .none gE gF gG gK gH gI, gM, W.fnOf "check_stop" "Net.check_stop" (defArgs s_Net_check_stop) (defBody s_Net_check_stop) (defScope s_Net_check_stop) .none gO gP gQ gU gR gS, gW, W.fnOf "check_trip" "Net.check_trip" (defArgs s_Net_check_trip) (defBody s_Net_check_trip) (defScope s_Net_check_trip) .none gY gZ g0 g4 g1 g2, g6, W.fnOf "check_call" "Net.check_call" (defArgs s_Net_check_call) (defBody s_Net_check_call) (defScope s_Net_check_call) .none g8 g9 hb hf hc hd, hh, W.fnOf "has_walk" "Net.has_walk" (defArgs s_Net_has_walk) (defBody s_Net_has_walk) (defScope s_Net_has_walk) .none hj hk hm hq hn ho, hs, W.fnOf "stops" "Net.stops" (defArgs s_Net_stops) (defBody s_Net_stops) (defScope s_Net_stops) .none hu hv hx hB hy hz, hD, W.fnOf "walks" "Net.walks" (defArgs s_Net_walks) (defBody s_Net_walks) (defScope s_Net_walks) .none hF hG hH hL hI hJ, hN, W.fnOf "rules" "Net.rules" (defArgs s_Net_rules) (defBody s_Net_rules) (defScope s_Net_rules) .none hP hQ hR hW hT hU, hY, W.fnOf "tickets" "Net.tickets" (defArgs s_Net_tickets) (defBody s_Net_tickets) (defScope s_Net_tickets) .none h0 h1 h2 h6 h3 h4, h8, W.fnOf "trips" "Net.trips" (defArgs s_Net_trips) (defBody s_Net_trips) (defScope s_Net_trips) .none ia ib ic ii ie ig, ik, W.fnOf "zone" "Net.zone" (defArgs s_Net_zone) (defBody s_Net_zone) (defScope s_Net_zone) .none im io ip iu iq ir, iw, W.fnOf "change" "Net.change" (defArgs s_Net_change) (defBody s_Net_change) (defScope s_Net_change) .none iy iz iA iE iB iC, iG, W.fnOf "rule" "Net.rule" (defArgs s_Net_rule) (defBody s_Net_rule) (defScope s_Net_rule) .none iI iJ iK iO iL iM, iQ, W.fnOf "ticket" "Net.ticket" (defArgs s_Net_ticket) (defBody s_Net_ticket) (defScope s_Net_ticket) .none iS iT iU iY iV iW, i0, W.fnOf "rule_name" "Net.rule_name" (defArgs s_Net_rule_name) (defBody s_Net_rule_name) (defScope s_Net_rule_name) .none i2 i3 i4 i8 i5 i6, ja, W.fnOf "calls" "Net.calls" (defArgs s_Net_calls) (defBody s_Net_calls) (defScope s_Net_calls) .none jc jd je ji jf jg, jk, jl, jm, jn, jo, jp, jq, jr, js, jt, ju, jv, jw, jx, jy, jz, jA, jB, jC, jD, jE⟩, ⟨W.mg_none_of X G pq,
    W.mg_none_of X G pr,
    W.mg_none_of X G pt,
    W.mg_none_of X G pu,
    W.mg_none_of X G pv,
    W.mg_none_of X G pw,
    W.mg_none_of X G px,
    W.mg_none_of X G py,
    W.mg_none_of X G pz,
    W.mg_none_of X G pA,
    W.mg_none_of X G pB,
    W.mg_none_of X G pC,
    W.mg_none_of X G pD,
    W.mg_none_of X G pE,
    ⟨_, W.mg_of X G pF⟩,
    ⟨_, W.mg_of X G pG⟩,
    ⟨_, W.mg_of X G pH⟩,
    ⟨_, W.mg_of X G pI⟩,
    ⟨_, W.mg_of X G pJ⟩,
    ⟨_, W.mg_of X G pK⟩,
    ⟨_, W.mg_of X G pL⟩,
    pM,
    W.mg_of X G jN,
    pN,
    pO,
    W.mg_of X G jR,
    pP,
    pQ,
    W.mg_of X G jV,
    pR,
    pS,
    W.mg_of X G jZ,
    pT,
    pU,
    W.mg_of X G j3,
    pV,
    pW,
    W.mg_of X G j7,
    pX,
    pY,
    W.mg_of X G kc,
    pZ,
    p0,
    W.mg_of X G kg,
    p1,
    p2,
    W.mg_of X G kk,
    p3,
    p4,
    W.mg_of X G ko,
    p5,
    p6,
    W.mg_of X G kt,
    p7,
    p8,
    W.mg_of X G kx,
    p9,
    qa,
    W.mg_of X G kB,
    qb,
    qc,
    W.mg_of X G kF,
    qd,
    qe,
    W.mg_of X G kJ,
    qf,
    qg,
    W.mg_of X G kN,
    qh,
    qi,
    W.mg_of X G kR,
    qj,
    qk,
    W.mg_of X G kW,
    ql,
    qm,
    W.mg_of X G k0,
    qn,
    qo,
    W.mg_of X G k4,
    qp,
    qq,
    W.mg_of X G k8,
    qr,
    qs,
    W.mg_of X G lc,
    qt,
    qu,
    qv,
    qw,
    qx,
    qy,
    qz,
    qA,
    qB,
    qC,
    qD,
    qE,
    qF,
    qG,
    qH,
    qI,
    qJ,
    qK,
    qL,
    qM,
    qN,
    qO,
    qP,
    qQ,
    qR,
    qS,
    qT,
    qU,
    qV,
    qW,
    qX,
    qY,
    qZ,
    q0,
    q1,
    q2,
    q3,
    q4,
    q5,
    q6,
    q7,
    q8,
    q9,
    ra,
    rb,
    rc,
    rd,
    re,
    rf,
    rg,
    rh,
    ri,
    rj,
    rk,
    rl,
    rm,
    rn,
    ro,
    rp,
    rq,
    rr,
    rs,
    rt,
    ru,
    rv,
    rx,
    ry,
    ⟨op, oq, os, ot⟩,
    ⟨ou, lD, lE, ov⟩,
    ⟨lN, lO, lR⟩,
    ⟨lS, lT, lW⟩,
    ⟨lI, lJ, lM⟩,
    ⟨lX, lY, l1⟩,
    ow,
    ox,
    ⟨oy, oz, oA, oB⟩,
    ⟨oC, oE, oD⟩,
    ⟨l2, l3, l6⟩,
    ⟨ms, mt, mw⟩,
    ⟨l7, l8, mb⟩,
    ⟨mc, md, mh⟩,
    ⟨mn, mo, mr⟩,
    ⟨mi, mj, mm⟩,
    oF,
    oG,
    oH,
    oI,
    oJ,
    oK,
    oL,
    ⟨oM, oN, oO, oP⟩,
    ⟨oQ, mx, my, oR⟩,
    ⟨mR, mS, mV⟩,
    ⟨mH, mI, mL⟩,
    ⟨mW, mX, m0⟩,
    ⟨m1, m2, m5⟩,
    ⟨mM, mN, mQ⟩,
    ⟨ok, ol, oo⟩,
    ⟨nX, nY, n1⟩,
    ⟨ni, nj, nm⟩,
    ⟨m6, m7, na⟩,
    ⟨nc, nd, nh⟩,
    ⟨mC, mD, mG⟩,
    ⟨nn, no, nr⟩,
    ⟨n2, n3, n6⟩,
    ⟨oe, og, oj⟩,
    ⟨nD, nE, nH⟩,
    ⟨nt, nu, nx⟩,
    ⟨n7, n8, ob⟩,
    ⟨nI, nJ, nM⟩,
    ⟨nN, nO, nR⟩,
    ⟨ny, nz, nC⟩,
    ⟨nS, nT, nW⟩,
    oS,
    oT,
    oU,
    oV,
    oW,
    W.mg_of X G lh,
    W.mg_of X G li,
    W.mg_of X G lj,
    W.mg_of X G lk,
    W.mg_of X G ll,
    W.mg_of X G lm,
    W.mg_of X G ln,
    W.mg_of X G lo,
    W.mg_of X G lp,
    W.mg_of X G lq,
    W.mg_of X G lr,
    W.mg_of X G ls,
    W.mg_of X G lu,
    W.mg_of X G lv,
    W.mg_of X G lw,
    W.mg_of X G lx,
    W.mg_of X G ly,
    W.mg_of X G lz,
    W.mg_of X G lA,
    W.mg_of X G lB,
    W.mg_of X G lC,
    ⟨oX⟩,
    ⟨by rw [oY]; rfl, oZ, o0, o1, o2, o3, o4, o5⟩,
    o6,
    o7,
    o8,
    o9,
    pa,
    pb,
    pc,
    pd,
    pe,
    pf,
    pg,
    ph,
    pi,
    pj,
    pk,
    pl,
    pn,
    po,
    pp⟩⟩
end K11
def PySem.W.Fast.tw4366150886871994065 : Nat := 0
def PySem.W.Fast.tw9760209254190078021 : Nat := 0
def PySem.W.Fast.tw984999007261336974 : Nat := 0
def PySem.W.Fast.tw3295627073359342846 : Nat := 0
def PySem.W.Fast.tw9187038780021769129 : Nat := 0
def PySem.W.Fast.tw2871201656650772427 : Nat := 0
def PySem.W.Fast.tw4476696351758718084 : Nat := 0
def PySem.W.Fast.tw7832669231579215219 : Nat := 0
def PySem.W.Fast.tw2805367401682141224 : Nat := 0
def PySem.W.Fast.tw5095924709605309109 : Nat := 0
def PySem.W.Fast.tw16189597471556385261 : Nat := 0
def PySem.W.Fast.tw17176098170012550430 : Nat := 0
def PySem.W.Fast.tw3242124857367659375 : Nat := 0
def PySem.W.Fast.tw6384929419869654623 : Nat := 0
def PySem.W.Fast.tw5508808489066771894 : Nat := 0
def PySem.W.Fast.tw13994984160218539209 : Nat := 0
def PySem.W.Fast.tw16543472563955869410 : Nat := 0
def PySem.W.Fast.tw12449115594978966432 : Nat := 0
def PySem.W.Fast.tw12943325988187500895 : Nat := 0
def PySem.W.Fast.tw16175662443397237272 : Nat := 0
def PySem.W.Fast.tw2936390354178626510 : Nat := 0
def PySem.W.Fast.tw15821830375676016298 : Nat := 0
def PySem.W.Fast.tw5969306116801773458 : Nat := 0
def PySem.W.Fast.tw8627631186569602456 : Nat := 0
def PySem.W.Fast.tw11339073125498165119 : Nat := 0
def PySem.W.Fast.tw5389549237132071818 : Nat := 0
def PySem.W.Fast.tw14662385280062437347 : Nat := 0
open PySem PySem.W PyProof.Rows
set_option maxRecDepth 100000 in
set_option maxHeartbeats 0 in
theorem PySem.Challenge.cw_roadbook_k11_minutes_on_foot_holds : PySem.Challenge.rw_roadbook_k11_minutes_on_foot.Holds := by
  w_on; o_law; k_head; (case hw => w_witness2)
  k_fill
  refine L2.walk_ofK (l := PySem.Challenge.rw_roadbook_k11_minutes_on_foot) (n := 63) (k := 20) (x := "_law_script") (CX := L2.CX0) (sp := K11.sp_law) rfl (by decide) rfl ⟨rfl, by decide, by decide⟩ (fun w h Y => PySem.W.kIn_of Y) ?F (fun _ _ a ns hl _ hS => ⟨a, ns, rfl, hS, hl, fun _ => rfl⟩) fun _ _ _ _ z => z
  case F =>
    intro w mg fa h KX G hmg
    have T : ∃ t, K11.Tab (L2.KOf KX) mg t := by
      dsimp only [L2.KOf]
      refine' K11.all_mk KX G ?jN ?jO ?jP ?jQ ?jR ?jS ?jT ?jU ?jV ?jW ?jX ?jY ?jZ ?j0 ?j1 ?j2 ?j3 ?j4 ?j5 ?j6 ?j7 ?j8 ?j9 ?ka ?kc ?kd ?ke ?kf ?kg ?kh ?ki ?kj ?kk ?kl ?km ?kn ?ko ?kq ?kr ?ks ?kt ?ku ?kv ?kw ?kx ?ky ?kz ?kA ?kB ?kC ?kD ?kE ?kF ?kG ?kH ?kI ?kJ ?kK ?kL ?kM ?kN ?kO ?kP ?kQ ?kR ?kS ?kT ?kU ?kW ?kX ?kY ?kZ ?k0 ?k1 ?k2 ?k3 ?k4 ?k5 ?k6 ?k7 ?k8 ?k9 ?la ?lb ?lc ?ld ?lf ?lg ?lh ?li ?lj ?lk ?ll ?lm ?ln ?lo ?lp ?lq ?lr ?ls ?lu ?lv ?lw ?lx ?ly ?lz ?lA ?lB ?lC ?lD ?lE ?lF ?lG ?lH ?lI ?lJ ?lK ?lL ?lM ?lN ?lO ?lP ?lQ ?lR ?lS ?lT ?lU ?lV ?lW ?lX ?lY ?lZ ?l0 ?l1 ?l2 ?l3 ?l4 ?l5 ?l6 ?l7 ?l8 ?l9 ?ma ?mb ?mc ?md ?me ?mf ?mh ?mi ?mj ?mk ?ml ?mm ?mn ?mo ?mp ?mq ?mr ?ms ?mt ?mu ?mv ?mw ?mx ?my ?mz ?mA ?mB ?mC ?mD ?mE ?mF ?mG ?mH ?mI ?mJ ?mK ?mL ?mM ?mN ?mO ?mP ?mQ ?mR ?mS ?mT ?mU ?mV ?mW ?mX ?mY ?mZ ?m0 ?m1 ?m2 ?m3 ?m4 ?m5 ?m6 ?m7 ?m8 ?m9 ?na ?nc ?nd ?nf ?ng ?nh ?ni ?nj ?nk ?nl ?nm ?nn ?no ?np ?nq ?nr ?nt ?nu ?nv ?nw ?nx ?ny ?nz ?nA ?nB ?nC ?nD ?nE ?nF ?nG ?nH ?nI ?nJ ?nK ?nL ?nM ?nN ?nO ?nP ?nQ ?nR ?nS ?nT ?nU ?nV ?nW ?nX ?nY ?nZ ?n0 ?n1 ?n2 ?n3 ?n4 ?n5 ?n6 ?n7 ?n8 ?n9 ?oa ?ob ?oe ?og ?oh ?oi ?oj ?ok ?ol ?om ?on ?oo ?op ?oq ?os ?ot ?ou ?ov ?ow ?ox ?oy ?oz ?oA ?oB ?oC ?oD ?oE ?oF ?oG ?oH ?oI ?oJ ?oK ?oL ?oM ?oN ?oO ?oP ?oQ ?oR ?oS ?oT ?oU ?oV ?oW ?oX ?oY ?oZ ?o0 ?o1 ?o2 ?o3 ?o4 ?o5 ?o6 ?o7 ?o8 ?o9 ?pa ?pb ?pc ?pd ?pe ?pf ?pg ?ph ?pi ?pj ?pk ?pl ?pn ?po ?pp ?pq ?pr ?pt ?pu ?pv ?pw ?px ?py ?pz ?pA ?pB ?pC ?pD ?pE ?pF ?pG ?pH ?pI ?pJ ?pK ?pL
      (case jN => k_is)
      (case jO => k_is)
      (case jP => k_is)
      (case jQ => k_is)
      (case jR => k_is)
      (case jS => k_is)
      (case jT => k_is)
      (case jU => k_is)
      (case jV => k_is)
      (case jW => k_is)
      (case jX => k_is)
      (case jY => k_is)
      (case jZ => k_is)
      (case j0 => k_is)
      (case j1 => k_is)
      (case j2 => k_is)
      (case j3 => k_is)
      (case j4 => k_is)
      (case j5 => k_is)
      (case j6 => k_is)
      (case j7 => k_is)
      (case j8 => k_is)
      (case j9 => k_is)
      (case ka => k_is)
      (case kc => k_is)
      (case kd => k_is)
      (case ke => k_is)
      (case kf => k_is)
      (case kg => k_is)
      (case kh => k_is)
      (case ki => k_is)
      (case kj => k_is)
      (case kk => k_is)
      (case kl => k_is)
      (case km => k_is)
      (case kn => k_is)
      (case ko => k_is)
      (case kq => k_is)
      (case kr => k_is)
      (case ks => k_is)
      (case kt => k_is)
      (case ku => k_is)
      (case kv => k_is)
      (case kw => k_is)
      (case kx => k_is)
      (case ky => k_is)
      (case kz => k_is)
      (case kA => k_is)
      (case kB => k_is)
      (case kC => k_is)
      (case kD => k_is)
      (case kE => k_is)
      (case kF => k_is)
      (case kG => k_is)
      (case kH => k_is)
      (case kI => k_is)
      (case kJ => k_is)
      (case kK => k_is)
      (case kL => k_is)
      (case kM => k_is)
      (case kN => k_is)
      (case kO => k_is)
      (case kP => k_is)
      (case kQ => k_is)
      (case kR => k_is)
      (case kS => k_is)
      (case kT => k_is)
      (case kU => k_is)
      (case kW => k_is)
      (case kX => k_is)
      (case kY => k_is)
      (case kZ => k_is)
      (case k0 => k_is)
      (case k1 => k_is)
      (case k2 => k_is)
      (case k3 => k_is)
      (case k4 => k_is)
      (case k5 => k_is)
      (case k6 => k_is)
      (case k7 => k_is)
      (case k8 => k_is)
      (case k9 => k_is)
      (case la => k_is)
      (case lb => k_is)
      (case lc => k_is)
      (case ld => k_is)
      (case lf => k_is)
      (case lg => k_is)
      (case lh => k_is)
      (case li => k_is)
      (case lj => k_is)
      (case lk => k_is)
      (case ll => k_is)
      (case lm => k_is)
      (case ln => k_is)
      (case lo => k_is)
      (case lp => k_is)
      (case lq => k_is)
      (case lr => k_is)
      (case ls => k_is)
      (case lu => k_is)
      (case lv => k_is)
      (case lw => k_is)
      (case lx => k_is)
      (case ly => k_is)
      (case lz => k_is)
      (case lA => k_is)
      (case lB => k_is)
      (case lC => k_is)
      (case lD => k_is)
      (case lE => k_is)
      (case lF => k_is)
      (case lG => k_is)
      (case lH => k_is)
      (case lI => k_is)
      (case lJ => k_is)
      (case lK => k_is)
      (case lL => k_is)
      (case lM => k_is)
      (case lN => k_is)
      (case lO => k_is)
      (case lP => k_is)
      (case lQ => k_is)
      (case lR => k_is)
      (case lS => k_is)
      (case lT => k_is)
      (case lU => k_is)
      (case lV => k_is)
      (case lW => k_is)
      (case lX => k_is)
      (case lY => k_is)
      (case lZ => k_is)
      (case l0 => k_is)
      (case l1 => k_is)
      (case l2 => k_is)
      (case l3 => k_is)
      (case l4 => k_is)
      (case l5 => k_is)
      (case l6 => k_is)
      (case l7 => k_is)
      (case l8 => k_is)
      (case l9 => k_is)
      (case ma => k_is)
      (case mb => k_is)
      (case mc => k_is)
      (case md => k_is)
      (case me => k_is)
      (case mf => k_is)
      (case mh => k_is)
      (case mi => k_is)
      (case mj => k_is)
      (case mk => k_is)
      (case ml => k_is)
      (case mm => k_is)
      (case mn => k_is)
      (case mo => k_is)
      (case mp => k_is)
      (case mq => k_is)
      (case mr => k_is)
      (case ms => k_is)
      (case mt => k_is)
      (case mu => k_is)
      (case mv => k_is)
      (case mw => k_is)
      (case mx => k_is)
      (case my => k_is)
      (case mz => k_is)
      (case mA => k_is)
      (case mB => k_is)
      (case mC => k_is)
      (case mD => k_is)
      (case mE => k_is)
      (case mF => k_is)
      (case mG => k_is)
      (case mH => k_is)
      (case mI => k_is)
      (case mJ => k_is)
      (case mK => k_is)
      (case mL => k_is)
      (case mM => k_is)
      (case mN => k_is)
      (case mO => k_is)
      (case mP => k_is)
      (case mQ => k_is)
      (case mR => k_is)
      (case mS => k_is)
      (case mT => k_is)
      (case mU => k_is)
      (case mV => k_is)
      (case mW => k_is)
      (case mX => k_is)
      (case mY => k_is)
      (case mZ => k_is)
      (case m0 => k_is)
      (case m1 => k_is)
      (case m2 => k_is)
      (case m3 => k_is)
      (case m4 => k_is)
      (case m5 => k_is)
      (case m6 => k_is)
      (case m7 => k_is)
      (case m8 => k_is)
      (case m9 => k_is)
      (case na => k_is)
      (case nc => k_is)
      (case nd => k_is)
      (case nf => k_is)
      (case ng => k_is)
      (case nh => k_is)
      (case ni => k_is)
      (case nj => k_is)
      (case nk => k_is)
      (case nl => k_is)
      (case nm => k_is)
      (case nn => k_is)
      (case no => k_is)
      (case np => k_is)
      (case nq => k_is)
      (case nr => k_is)
      (case nt => k_is)
      (case nu => k_is)
      (case nv => k_is)
      (case nw => k_is)
      (case nx => k_is)
      (case ny => k_is)
      (case nz => k_is)
      (case nA => k_is)
      (case nB => k_is)
      (case nC => k_is)
      (case nD => k_is)
      (case nE => k_is)
      (case nF => k_is)
      (case nG => k_is)
      (case nH => k_is)
      (case nI => k_is)
      (case nJ => k_is)
      (case nK => k_is)
      (case nL => k_is)
      (case nM => k_is)
      (case nN => k_is)
      (case nO => k_is)
      (case nP => k_is)
      (case nQ => k_is)
      (case nR => k_is)
      (case nS => k_is)
      (case nT => k_is)
      (case nU => k_is)
      (case nV => k_is)
      (case nW => k_is)
      (case nX => k_is)
      (case nY => k_is)
      (case nZ => k_is)
      (case n0 => k_is)
      (case n1 => k_is)
      (case n2 => k_is)
      (case n3 => k_is)
      (case n4 => k_is)
      (case n5 => k_is)
      (case n6 => k_is)
      (case n7 => k_is)
      (case n8 => k_is)
      (case n9 => k_is)
      (case oa => k_is)
      (case ob => k_is)
      (case oe => k_is)
      (case og => k_is)
      (case oh => k_is)
      (case oi => k_is)
      (case oj => k_is)
      (case ok => k_is)
      (case ol => k_is)
      (case om => k_is)
      (case on => k_is)
      (case oo => k_is)
      (case op => k_is)
      (case oq => k_is)
      (case os => k_is)
      (case ot => k_is)
      (case ou => k_is)
      (case ov => k_is)
      (case ow => k_is)
      (case ox => k_is)
      (case oy => k_is)
      (case oz => k_is)
      (case oA => k_is)
      (case oB => k_is)
      (case oC => k_is)
      (case oD => k_is)
      (case oE => k_is)
      (case oF => k_is)
      (case oG => k_is)
      (case oH => k_is)
      (case oI => k_is)
      (case oJ => k_is)
      (case oK => k_is)
      (case oL => k_is)
      (case oM => k_is)
      (case oN => k_is)
      (case oO => k_is)
      (case oP => k_is)
      (case oQ => k_is)
      (case oR => k_is)
      (case oS => k_is)
      (case oT => k_is)
      (case oU => k_is)
      (case oV => k_is)
      (case oW => k_is)
      (case oX => k_exc)
      (case oY => k_is)
      (case oZ => k_is)
      (case o0 => k_is)
      (case o1 => k_is)
      (case o2 => k_is)
      (case o3 => k_is)
      (case o4 => k_is)
      (case o5 => k_is)
      (case o6 => kit_is)
      (case o7 => kit_is)
      (case o8 => kit_is)
      (case o9 => kit_is)
      (case pa => kit_is)
      (case pb => kit_is)
      (case pc => kit_is)
      (case pd => kit_is)
      (case pe => kit_is)
      (case pf => kit_is)
      (case pg => kit_is)
      (case ph => kit_is)
      (case pi => kit_is)
      (case pj => kit_is)
      (case pk => kit_is)
      (case pl => kit_is)
      (case pn => kit_is)
      (case po => kit_is)
      (case pp => kts_exm)
      (case pq => k_is)
      (case pr => k_is)
      (case pt => k_is)
      (case pu => k_is)
      (case pv => k_is)
      (case pw => k_is)
      (case px => k_is)
      (case py => k_is)
      (case pz => k_is)
      (case pA => k_is)
      (case pB => k_is)
      (case pC => k_is)
      (case pD => k_is)
      (case pE => k_is)
      (case pF => k_is)
      (case pG => k_is)
      (case pH => k_is)
      (case pI => k_is)
      (case pJ => k_is)
      (case pK => k_is)
      (case pL => k_is)
    obtain ⟨t, T⟩ := T
    have e0 := hmg.symm.trans T.m_law
    cases e0
    refine' ⟨t.d_law, ?b, fun base kb nb => K11.ok_law T⟩
    obtain ⟨oc, od, kV, doc, pm, an, cdv, ct, osl, e, _, _⟩ := T.F_law.ex
    rw [e]
    exact fun s u => .of_eq rfl
