/- Layer 14 as plain functions: settings and triples; what a side has, holds and waits for; what comes of a triple that is heard, and of asking. -/
import Derived.Test.YtojnhheeholaeaaDoorBase
namespace Go.Proofs.YtojnhheeholaeaaDoor

structure Se where
  l : Int
  v : Int
  deriving DecidableEq
/-- Is it a setting? -/
def Se.fine (x : Se) : Bool := (decide (x.l = 0 ∨ x.l = 3) && decide (x.v = 0)) || (decide (x.l = 1 ∨ x.l = 2) && decide (0 ≤ x.v ∧ x.v ≤ 255))
theorem Se.fine_iff {x : Se} : x.fine = true ↔ ((x.l = 0 ∨ x.l = 3) ∧ x.v = 0) ∨ ((x.l = 1 ∨ x.l = 2) ∧ 0 ≤ x.v ∧ x.v ≤ 255) := by
  unfold Se.fine
  simp
theorem Se.none_of {x : Se} (h : x.fine = true) (hl : x.l = 0) : x = ⟨0, 0⟩ := by
  rw [Se.fine_iff] at h
  obtain ⟨l, v⟩ := x
  simp only at hl h
  subst hl
  rcases h with ⟨_, rfl⟩ | ⟨h, _⟩
  · rfl
  · omega
theorem Se.v_of {x : Se} (h : x.fine = true) : 0 ≤ x.v ∧ x.v ≤ 255 := by
  rw [Se.fine_iff] at h
  omega
theorem Se.l_of {x : Se} (h : x.fine = true) : 0 ≤ x.l ∧ x.l ≤ 3 := by
  rw [Se.fine_iff] at h
  omega

structure Tr where
  f : Int
  x : Se
  ack : Bool
  deriving DecidableEq
def Tr.zero : Tr := ⟨0, ⟨0, 0⟩, false⟩
def isF (n : Int) : Bool := decide (1 ≤ n ∧ n ≤ 18)
theorem isF_iff {n : Int} : isF n = true ↔ 1 ≤ n ∧ n ≤ 18 := by simp [isF]
def Tr.right (t : Tr) : Bool := isF t.f && t.x.fine

/-- What a side has, and holds, of a function, and whether it waits. -/
structure Ch where
  has : Se
  holds : Se
  waits : Bool
  deriving DecidableEq
def Ch.zero : Ch := ⟨⟨0, 0⟩, ⟨0, 0⟩, false⟩
/-- What a side has behind a setting that is heard and isn't what it has; whether it agrees. -/
def ansS (x h : Se) : Se × Bool :=
  if x.l = 0 ∨ (h.l = 2 ∧ x.l ≠ 3) then (x, true) else if x.l = 1 then (⟨0, 0⟩, false) else (h, false)
def Ch.hear (c : Ch) (x : Se) (ack : Bool) : Ch × Option (Se × Bool) :=
  if x = c.has ∨ ack = true then (⟨c.has, c.holds, false⟩, none) else (⟨(ansS x c.holds).1, c.holds, false⟩, some (ansS x c.holds))
/-- The error's number, or 0. -/
def Ch.askN (c : Ch) (x : Se) : Nat := if c.waits then 10 else if x = c.has then 8 else 0
def Ch.asked (c : Ch) (x : Se) : Ch := ⟨if x.l = 3 then c.has else x, c.holds, true⟩

/-- A side: of each function's place. -/
abbrev Sd := Nat → Ch
def Sd.zero : Sd := fun _ => Ch.zero
def Sd.set (S : Sd) (i : Nat) (c : Ch) : Sd := fun j => if j = i then c else S j
theorem Sd.set_self (S : Sd) (i : Nat) (c : Ch) : S.set i c i = c := by simp [Sd.set]
theorem Sd.set_ne (S : Sd) {i j : Nat} (c : Ch) (h : j ≠ i) : S.set i c j = S j := by simp [Sd.set, h]
theorem Sd.set_same (S : Sd) (i : Nat) : S.set i (S i) = S := by
  funext j
  unfold Sd.set
  split <;> simp_all
theorem Sd.set_set (S : Sd) (i : Nat) (c d : Ch) : (S.set i c).set i d = S.set i d := by
  funext j
  unfold Sd.set
  split <;> rfl
/-- A side that holds settings. -/
def holdOf (x : Se) : Se := if x.fine = true ∧ x.l ≠ 3 then x else ⟨0, 0⟩
def newS (l : List Se) : Sd := fun i => ⟨⟨0, 0⟩, if i < 18 then holdOf (l.getD i ⟨0, 0⟩) else ⟨0, 0⟩, false⟩
/-- A function's place. -/
def plF (f : Int) : Nat := (f - 1).toNat
def hearS (S : Sd) (t : Tr) : Sd × Tr × Bool :=
  if t.right = true then
    match (S (plF t.f)).hear t.x t.ack with
    | (c, none) => (S.set (plF t.f) c, Tr.zero, false)
    | (c, some y) => (S.set (plF t.f) c, ⟨t.f, y.1, y.2⟩, true)
  else (S, Tr.zero, false)
/-- The error's number of an asking, or 0. -/
def askN (S : Sd) (f : Int) (x : Se) : Nat :=
  if isF f = false then 1 else if x.fine = false ∨ x.l = 0 then 5 else (S (plF f)).askN x
def askS (S : Sd) (f : Int) (x : Se) : Sd × Tr := if askN S f x = 0 then (S.set (plF f) ((S (plF f)).asked x), ⟨f, x, false⟩) else (S, Tr.zero)
def hasS (S : Sd) (f : Int) : Se := if isF f = true then (S (plF f)).has else ⟨0, 0⟩
def waitsTo (S : Sd) : Nat → Nat
  | 0 => 0
  | k + 1 => waitsTo S k + if (S k).waits then 1 else 0
def waitsS (S : Sd) : Nat := waitsTo S 18
theorem waitsTo_le (S : Sd) (k : Nat) : waitsTo S k ≤ k := by
  induction k with
  | zero => exact Nat.le_refl _
  | succ k ih => unfold waitsTo; split <;> omega
theorem waits_none {S : Sd} (h : ∀ i, i < 18 → (S i).waits = false) : waitsS S = 0 := by
  have key : ∀ k, k ≤ 18 → waitsTo S k = 0 := by
    intro k
    induction k with
    | zero => intro _; rfl
    | succ k ih =>
      intro hk
      unfold waitsTo
      rw [ih (by omega), h k (by omega)]
      rfl
  exact key 18 (Nat.le_refl _)

theorem plF_lt {f : Int} (h : isF f = true) : plF f < 18 := by
  rw [isF_iff] at h
  unfold plF
  omega
theorem plF_at {f : Int} (h : isF f = true) : ((plF f : Nat) : Int) = f - 1 := by
  rw [isF_iff] at h
  unfold plF
  omega

theorem hearS_not {S : Sd} {t : Tr} (h : t.right = false) : hearS S t = (S, Tr.zero, false) := by
  unfold hearS
  rw [if_neg (by rw [h]; decide)]
theorem hearS_still {S : Sd} {t : Tr} (h : t.right = true) (hs : t.x = (S (plF t.f)).has ∨ t.ack = true) : hearS S t = (S.set (plF t.f) ⟨(S (plF t.f)).has, (S (plF t.f)).holds, false⟩, Tr.zero, false) := by
  unfold hearS
  rw [if_pos h, Ch.hear, if_pos hs]
theorem hearS_told {S : Sd} {t : Tr} (h : t.right = true) (hs : ¬ (t.x = (S (plF t.f)).has ∨ t.ack = true)) :
    hearS S t = (S.set (plF t.f) ⟨(ansS t.x (S (plF t.f)).holds).1, (S (plF t.f)).holds, false⟩, ⟨t.f, (ansS t.x (S (plF t.f)).holds).1, (ansS t.x (S (plF t.f)).holds).2⟩, true) := by
  unfold hearS
  rw [if_pos h, Ch.hear, if_neg hs]

/-- What a side has and holds is right, and no Default. -/
def Ch.Ok (c : Ch) : Prop := c.has.fine = true ∧ c.has.l ≠ 3 ∧ c.holds.fine = true ∧ c.holds.l ≠ 3
theorem Ch.zero_ok : Ch.zero.Ok := ⟨rfl, by decide, rfl, by decide⟩
theorem holdOf_ok (x : Se) : (holdOf x).fine = true ∧ (holdOf x).l ≠ 3 := by
  unfold holdOf
  split
  · next h => exact h
  · decide
theorem newS_ok (l : List Se) (i : Nat) : (newS l i).Ok := by
  refine ⟨(rfl : Se.fine ⟨0, 0⟩ = true), (by decide : (0 : Int) ≠ 3), ?_⟩
  show (if i < 18 then _ else _ : Se).fine = true ∧ (if i < 18 then _ else _ : Se).l ≠ 3
  split
  · exact holdOf_ok _
  · decide
theorem ansS_ok {x h : Se} (hx : x.fine = true) (hh : h.fine = true) (h3 : h.l ≠ 3) : (ansS x h).1.fine = true ∧ (ansS x h).1.l ≠ 3 := by
  unfold ansS
  split
  · next e =>
    refine ⟨hx, ?_⟩
    show x.l ≠ 3
    omega
  · split
    · exact ⟨rfl, by decide⟩
    · exact ⟨hh, h3⟩
theorem Ch.hear_ok {c : Ch} (h : c.Ok) {x : Se} (hx : x.fine = true) (a : Bool) : (c.hear x a).1.Ok := by
  unfold Ch.hear
  split
  · exact h
  · exact ⟨(ansS_ok hx h.2.2.1 h.2.2.2).1, (ansS_ok hx h.2.2.1 h.2.2.2).2, h.2.2⟩
theorem Ch.asked_ok {c : Ch} (h : c.Ok) {x : Se} (hx : x.fine = true) : (c.asked x).Ok := by
  unfold Ch.asked
  refine ⟨?_, ?_, h.2.2⟩
  · show (if x.l = 3 then c.has else x).fine = true
    split
    · exact h.1
    · exact hx
  · show (if x.l = 3 then c.has else x).l ≠ 3
    split
    · exact h.2.1
    · assumption
end Go.Proofs.YtojnhheeholaeaaDoor
