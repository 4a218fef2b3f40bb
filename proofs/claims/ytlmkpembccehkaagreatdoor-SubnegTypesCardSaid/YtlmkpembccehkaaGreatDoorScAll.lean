/- Several texts in one. -/
import Derived.Test.YtlmkpembccehkaaGreatDoorBase
import Derived.Test.YtlmkpembccehkaaGreatDoorBox
import Derived.Deep.RegionHeld3
import Derived.Laws.StructEq
import Derived.BigQuiet
/- Layer 14 as plain functions: settings and triples; what a side has, holds and waits for; what comes of a triple that is heard, and of asking. -/
namespace Go.Proofs.YtlmkpembccehkaaGreatDoor

structure Se where
  l : Int
  v : Int
  deriving DecidableEq
/-- Is it a setting? -/
def Se.fine (x : Se) : Bool := (decide (x.l = 0 ∨ x.l = 3) && decide (x.v = 0)) || (decide (x.l = 1 ∨ x.l = 2) && decide (0 ≤ x.v ∧ x.v ≤ 255))
theorem Se.fine_iff {x : Se} : x.fine = true ↔ ((x.l = 0 ∨ x.l = 3) ∧ x.v = 0) ∨ ((x.l = 1 ∨ x.l = 2) ∧ 0 ≤ x.v ∧ x.v ≤ 255) := by
  unfold Se.fine
  simp
theorem Se.none_of {x : Se} (h : x.fine = true) (hl : x.l = 0) : x = ⟨0, 0⟩ := by
  rw [Se.fine_iff] at h
  obtain ⟨l, v⟩ := x
  simp only at hl h
  subst hl
  rcases h with ⟨_, rfl⟩ | ⟨h, _⟩
  · rfl
  · omega
theorem Se.v_of {x : Se} (h : x.fine = true) : 0 ≤ x.v ∧ x.v ≤ 255 := by
  rw [Se.fine_iff] at h
  omega
theorem Se.l_of {x : Se} (h : x.fine = true) : 0 ≤ x.l ∧ x.l ≤ 3 := by
  rw [Se.fine_iff] at h
  omega

structure Tr where
  f : Int
  x : Se
  ack : Bool
  deriving DecidableEq
def Tr.zero : Tr := ⟨0, ⟨0, 0⟩, false⟩
def isF (n : Int) : Bool := decide (1 ≤ n ∧ n ≤ 18)
theorem isF_iff {n : Int} : isF n = true ↔ 1 ≤ n ∧ n ≤ 18 := by simp [isF]
def Tr.right (t : Tr) : Bool := isF t.f && t.x.fine

/-- What a side has, and holds, of a function, and whether it waits. -/
structure Ch where
  has : Se
  holds : Se
  waits : Bool
  deriving DecidableEq
def Ch.zero : Ch := ⟨⟨0, 0⟩, ⟨0, 0⟩, false⟩
/-- What a side has behind a setting that is heard and isn't what it has; whether it agrees. -/
def ansS (x h : Se) : Se × Bool :=
  if x.l = 0 ∨ (h.l = 2 ∧ x.l ≠ 3) then (x, true) else if x.l = 1 then (⟨0, 0⟩, false) else (h, false)
def Ch.hear (c : Ch) (x : Se) (ack : Bool) : Ch × Option (Se × Bool) :=
  if x = c.has ∨ ack = true then (⟨c.has, c.holds, false⟩, none) else (⟨(ansS x c.holds).1, c.holds, false⟩, some (ansS x c.holds))
/-- The error's number, or 0. -/
def Ch.askN (c : Ch) (x : Se) : Nat := if c.waits then 10 else if x = c.has then 8 else 0
def Ch.asked (c : Ch) (x : Se) : Ch := ⟨if x.l = 3 then c.has else x, c.holds, true⟩

/-- A side: of each function's place. -/
abbrev Sd := Nat → Ch
def Sd.zero : Sd := fun _ => Ch.zero
def Sd.set (S : Sd) (i : Nat) (c : Ch) : Sd := fun j => if j = i then c else S j
theorem Sd.set_self (S : Sd) (i : Nat) (c : Ch) : S.set i c i = c := by simp [Sd.set]
theorem Sd.set_ne (S : Sd) {i j : Nat} (c : Ch) (h : j ≠ i) : S.set i c j = S j := by simp [Sd.set, h]
theorem Sd.set_same (S : Sd) (i : Nat) : S.set i (S i) = S := by
  funext j
  unfold Sd.set
  split <;> simp_all
theorem Sd.set_set (S : Sd) (i : Nat) (c d : Ch) : (S.set i c).set i d = S.set i d := by
  funext j
  unfold Sd.set
  split <;> rfl
/-- A side that holds settings. -/
def holdOf (x : Se) : Se := if x.fine = true ∧ x.l ≠ 3 then x else ⟨0, 0⟩
def newS (l : List Se) : Sd := fun i => ⟨⟨0, 0⟩, if i < 18 then holdOf (l.getD i ⟨0, 0⟩) else ⟨0, 0⟩, false⟩
/-- A function's place. -/
def plF (f : Int) : Nat := (f - 1).toNat
def hearS (S : Sd) (t : Tr) : Sd × Tr × Bool :=
  if t.right = true then
    match (S (plF t.f)).hear t.x t.ack with
    | (c, none) => (S.set (plF t.f) c, Tr.zero, false)
    | (c, some y) => (S.set (plF t.f) c, ⟨t.f, y.1, y.2⟩, true)
  else (S, Tr.zero, false)
/-- The error's number of an asking, or 0. -/
def askN (S : Sd) (f : Int) (x : Se) : Nat :=
  if isF f = false then 1 else if x.fine = false ∨ x.l = 0 then 5 else (S (plF f)).askN x
def askS (S : Sd) (f : Int) (x : Se) : Sd × Tr := if askN S f x = 0 then (S.set (plF f) ((S (plF f)).asked x), ⟨f, x, false⟩) else (S, Tr.zero)
def hasS (S : Sd) (f : Int) : Se := if isF f = true then (S (plF f)).has else ⟨0, 0⟩
def waitsTo (S : Sd) : Nat → Nat
  | 0 => 0
  | k + 1 => waitsTo S k + if (S k).waits then 1 else 0
def waitsS (S : Sd) : Nat := waitsTo S 18
theorem waitsTo_le (S : Sd) (k : Nat) : waitsTo S k ≤ k := by
  induction k with
  | zero => exact Nat.le_refl _
  | succ k ih => unfold waitsTo; split <;> omega
theorem waits_none {S : Sd} (h : ∀ i, i < 18 → (S i).waits = false) : waitsS S = 0 := by
  have key : ∀ k, k ≤ 18 → waitsTo S k = 0 := by
    intro k
    induction k with
    | zero => intro _; rfl
    | succ k ih =>
      intro hk
      unfold waitsTo
      rw [ih (by omega), h k (by omega)]
      rfl
  exact key 18 (Nat.le_refl _)

theorem plF_lt {f : Int} (h : isF f = true) : plF f < 18 := by
  rw [isF_iff] at h
  unfold plF
  omega
theorem plF_at {f : Int} (h : isF f = true) : ((plF f : Nat) : Int) = f - 1 := by
  rw [isF_iff] at h
  unfold plF
  omega

theorem hearS_not {S : Sd} {t : Tr} (h : t.right = false) : hearS S t = (S, Tr.zero, false) := by
  unfold hearS
  rw [if_neg (by rw [h]; decide)]
theorem hearS_still {S : Sd} {t : Tr} (h : t.right = true) (hs : t.x = (S (plF t.f)).has ∨ t.ack = true) : hearS S t = (S.set (plF t.f) ⟨(S (plF t.f)).has, (S (plF t.f)).holds, false⟩, Tr.zero, false) := by
  unfold hearS
  rw [if_pos h, Ch.hear, if_pos hs]
theorem hearS_told {S : Sd} {t : Tr} (h : t.right = true) (hs : ¬ (t.x = (S (plF t.f)).has ∨ t.ack = true)) :
    hearS S t = (S.set (plF t.f) ⟨(ansS t.x (S (plF t.f)).holds).1, (S (plF t.f)).holds, false⟩, ⟨t.f, (ansS t.x (S (plF t.f)).holds).1, (ansS t.x (S (plF t.f)).holds).2⟩, true) := by
  unfold hearS
  rw [if_pos h, Ch.hear, if_neg hs]

/-- What a side has and holds is right, and no Default. -/
def Ch.Ok (c : Ch) : Prop := c.has.fine = true ∧ c.has.l ≠ 3 ∧ c.holds.fine = true ∧ c.holds.l ≠ 3
theorem Ch.zero_ok : Ch.zero.Ok := ⟨rfl, by decide, rfl, by decide⟩
theorem holdOf_ok (x : Se) : (holdOf x).fine = true ∧ (holdOf x).l ≠ 3 := by
  unfold holdOf
  split
  · next h => exact h
  · decide
theorem newS_ok (l : List Se) (i : Nat) : (newS l i).Ok := by
  refine ⟨(rfl : Se.fine ⟨0, 0⟩ = true), (by decide : (0 : Int) ≠ 3), ?_⟩
  show (if i < 18 then _ else _ : Se).fine = true ∧ (if i < 18 then _ else _ : Se).l ≠ 3
  split
  · exact holdOf_ok _
  · decide
theorem ansS_ok {x h : Se} (hx : x.fine = true) (hh : h.fine = true) (h3 : h.l ≠ 3) : (ansS x h).1.fine = true ∧ (ansS x h).1.l ≠ 3 := by
  unfold ansS
  split
  · next e =>
    refine ⟨hx, ?_⟩
    show x.l ≠ 3
    omega
  · split
    · exact ⟨rfl, by decide⟩
    · exact ⟨hh, h3⟩
theorem Ch.hear_ok {c : Ch} (h : c.Ok) {x : Se} (hx : x.fine = true) (a : Bool) : (c.hear x a).1.Ok := by
  unfold Ch.hear
  split
  · exact h
  · exact ⟨(ansS_ok hx h.2.2.1 h.2.2.2).1, (ansS_ok hx h.2.2.1 h.2.2.2).2, h.2.2⟩
theorem Ch.asked_ok {c : Ch} (h : c.Ok) {x : Se} (hx : x.fine = true) : (c.asked x).Ok := by
  unfold Ch.asked
  refine ⟨?_, ?_, h.2.2⟩
  · show (if x.l = 3 then c.has else x).fine = true
    split
    · exact h.1
    · exact hx
  · show (if x.l = 3 then c.has else x).l ≠ 3
    split
    · exact h.2.1
    · assumption
end Go.Proofs.YtlmkpembccehkaaGreatDoor
/- Package slc: which settings and triples are right, what a side answers. -/
namespace Go.Proofs.YtlmkpembccehkaaGreatDoor
open Go Go.RowKit
set_option maxRecDepth 100000
set_option maxHeartbeats 4000000

@[reducible] def Se.val (x : Se) : Value := .agg #[.int .i64 x.l, .int .i64 x.v]
@[reducible] def Tr.val (t : Tr) : Value := .agg #[.int .i64 t.f, .int .i64 t.x.l, .int .i64 t.x.v, .bool t.ack]
@[reducible] def Se.cs (x : Se) : List Value := [.int .i64 x.l, .int .i64 x.v]
@[reducible] def Tr.cs (t : Tr) : List Value := [.int .i64 t.f, .int .i64 t.x.l, .int .i64 t.x.v, .bool t.ack]
theorem size_set : (Tryz.prog.info? 75).map (·.size) = some 2 := by kernel_rfl
theorem size_tri : (Tryz.prog.info? 126).map (·.size) = some 4 := by kernel_rfl
theorem zero_set : (Tryz.prog.info? 75).map (fun i => (i.zero, i.size)) = some (some (.agg (Se.cs ⟨0, 0⟩).toArray), 2) := by kernel_rfl
theorem zero_tri : (Tryz.prog.info? 126).map (fun i => (i.zero, i.size)) = some (some (.agg (Tr.cs Tr.zero).toArray), 4) := by kernel_rfl
theorem Se.cs_one (x : Se) : ∀ v ∈ x.cs, v.oneCell' = true := by
  intro v hv
  simp only [Se.cs, List.mem_cons, List.not_mem_nil, or_false] at hv
  rcases hv with rfl | rfl <;> rfl
theorem Tr.cs_one (x : Tr) : ∀ v ∈ x.cs, v.oneCell' = true := by
  intro v hv
  simp only [Tr.cs, List.mem_cons, List.not_mem_nil, or_false] at hv
  rcases hv with rfl | rfl | rfl | rfl <;> rfl

theorem isFn_any (W : World) (c : Int) : Calls Tryz.prog 83 #[.int .i64 c] W fun e w' => e = .returned (.bool (isF c)) ∧ w' = W := by
  by_cases h0 : 1 ≤ c <;> by_cases h1 : c ≤ 18
  all_goals
    go_enter Tryz.func83, Tryz.ntmps83
    go_wp2
    go_ret
    refine ⟨?_, rfl⟩
    unfold isF
    congr 2
    simp
    try omega

theorem isSet_any (W : World) (l v : Int) : Calls Tryz.prog 62 #[.agg #[.int .i64 l, .int .i64 v]] W fun e w' => e = .returned (.bool (Se.fine ⟨l, v⟩)) ∧ Only (fun _ => False) W w' := by
  obtain ⟨b, hb⟩ : ∃ b, b = Se.fine ⟨l, v⟩ := ⟨_, rfl⟩
  rw [← hb]
  unfold Se.fine at hb
  simp only at hb
  by_cases h0 : l = 0
  · subst h0
    by_cases hv : v = 0
    all_goals
      have HB := Lib.hid hb
      clear hb
      go_enter Tryz.func62, Tryz.ntmps62
      go_wp2
      go_ret
      refine ⟨?_, (Only.refl _ _).alloc _⟩
      rw [HB.out]
      simp [hv]
  · by_cases h3 : l = 3
    · subst h3
      by_cases hv : v = 0
      all_goals
        have HB := Lib.hid hb
        clear hb
        go_enter Tryz.func62, Tryz.ntmps62
        go_wp2
        go_ret
        refine ⟨?_, (Only.refl _ _).alloc _⟩
        rw [HB.out]
        simp [hv]
    · by_cases h1 : l = 1
      · subst h1
        cases hv : decide (0 ≤ v) <;> cases hw : decide (v ≤ 255)
        all_goals
          have HB := Lib.hid hb
          clear hb
          go_enter Tryz.func62, Tryz.ntmps62
          go_wp2
          go_ret
          refine ⟨?_, (Only.refl _ _).alloc _⟩
          rw [HB.out]
          simp_all
      · by_cases h2 : l = 2
        · subst h2
          cases hv : decide (0 ≤ v) <;> cases hw : decide (v ≤ 255)
          all_goals
            have HB := Lib.hid hb
            clear hb
            go_enter Tryz.func62, Tryz.ntmps62
            go_wp2
            go_ret
            refine ⟨?_, (Only.refl _ _).alloc _⟩
            rw [HB.out]
            simp_all
        · have HB := Lib.hid hb
          clear hb
          go_enter Tryz.func62, Tryz.ntmps62
          go_wp2
          go_ret
          refine ⟨?_, (Only.refl _ _).alloc _⟩
          rw [HB.out]
          simp [h0, h1, h2, h3]

theorem sright_any (W : World) (t : Tr) : Calls Tryz.prog 63 #[t.val] W fun e w' => e = .returned (.bool t.right) ∧ Only (fun _ => False) W w' := by
  obtain ⟨f, ⟨l, v⟩, k⟩ := t
  unfold Tr.right
  simp only
  have HS := Lib.hid (fun W => isSet_any W l v)
  have HF := Lib.hid (fun W => isFn_any W f)
  generalize isF f = p at *
  generalize Se.fine ⟨l, v⟩ = q at *
  cases p
  all_goals
    go_enter Tryz.func63, Tryz.ntmps63
    go_wp2_with (first
      | (go_at_call 83; refine (HF.out _).mono ?_; rintro e w' ⟨rfl, e2⟩; subst w')
      | (go_at_call 62; refine (HS.out _).mono ?_; rintro e w2 ⟨rfl, ho2⟩; have HO2 := Lib.hid ho2; clear ho2)
      | fail)
    go_ret
  · exact ⟨rfl, (Only.refl _ _).alloc _⟩
  · exact ⟨rfl, ((Only.refl _ _).alloc _).trans HO2.out (fun _ h => h.elim)⟩

theorem sanswer_any (W : World) (x h : Se) : Calls Tryz.prog 64 #[x.val, h.val] W fun e w' => e = .returned (.tuple #[(ansS x h).1.val, .bool (ansS x h).2]) ∧ Only (fun _ => False) W w' := by
  obtain ⟨xl, xv⟩ := x
  obtain ⟨hl, hv⟩ := h
  obtain ⟨y, hy⟩ : ∃ y, y = ansS ⟨xl, xv⟩ ⟨hl, hv⟩ := ⟨_, rfl⟩
  rw [← hy]
  unfold ansS at hy
  simp only at hy
  by_cases h0 : xl = 0
  · subst h0
    have HY : Hid (y = (⟨0, xv⟩, true)) := hy.trans (if_pos (.inl rfl))
    clear hy
    go_enter Tryz.func64, Tryz.ntmps64
    go_wp2
    refine ret_cell2 rfl (W.heap.size + 1 + 1) rfl 75 [.int .i64 0, .int .i64 xv] _ (Blk.new' _ _ _ (by simp)) Tryz.underlying75 rfl size_set rfl ?_
    exact ⟨by rw [HY.out]; rfl, (((Only.refl _ _).alloc _).alloc _).alloc _⟩
  · by_cases h3 : xl = 3
    · subst h3
      have HY : Hid (y = (⟨hl, hv⟩, false)) := hy.trans ((if_neg (by omega)).trans (if_neg (by omega)))
      clear hy
      cases hb : (hl == 2)
      all_goals
        go_enter Tryz.func64, Tryz.ntmps64
        go_wp2
        refine ret_cell2 rfl (W.heap.size + 1 + 1) rfl 75 [.int .i64 hl, .int .i64 hv] _ (Blk.new' _ _ _ (by simp)) Tryz.underlying75 rfl size_set rfl ?_
        exact ⟨by rw [HY.out]; rfl, (((Only.refl _ _).alloc _).alloc _).alloc _⟩
    · by_cases h2 : hl = 2
      · subst h2
        have HY : Hid (y = (⟨xl, xv⟩, true)) := hy.trans (if_pos (.inr ⟨rfl, h3⟩))
        clear hy
        go_enter Tryz.func64, Tryz.ntmps64
        go_wp2
        refine ret_cell2 rfl (W.heap.size + 1 + 1) rfl 75 [.int .i64 xl, .int .i64 xv] _ (Blk.new' _ _ _ (by simp)) Tryz.underlying75 rfl size_set rfl ?_
        exact ⟨by rw [HY.out]; rfl, (((Only.refl _ _).alloc _).alloc _).alloc _⟩
      · by_cases h1 : xl = 1
        · subst h1
          have HY : Hid (y = (⟨0, 0⟩, false)) := hy.trans ((if_neg (by omega)).trans (if_pos rfl))
          clear hy
          go_enter Tryz.func64, Tryz.ntmps64
          go_wp2
          refine ret_cell2 rfl (W.heap.size + 1 + 1) rfl 75 [.int .i64 0, .int .i64 0] _ (Blk.new' _ _ _ (by simp)) Tryz.underlying75 rfl size_set rfl ?_
          exact ⟨by rw [HY.out]; rfl, (((Only.refl _ _).alloc _).alloc _).alloc _⟩
        · have hb : (hl == 2) = false := by simp [h2]
          have HY : Hid (y = (⟨hl, hv⟩, false)) := hy.trans ((if_neg (by omega)).trans (if_neg (by omega)))
          clear hy
          go_enter Tryz.func64, Tryz.ntmps64
          go_wp2
          refine ret_cell2 rfl (W.heap.size + 1 + 1) rfl 75 [.int .i64 hl, .int .i64 hv] _ (Blk.new' _ _ _ (by simp)) Tryz.underlying75 rfl size_set rfl ?_
          exact ⟨by rw [HY.out]; rfl, (((Only.refl _ _).alloc _).alloc _).alloc _⟩
end Go.Proofs.YtlmkpembccehkaaGreatDoor
/- Package slc: a side's cells. -/
namespace Go.Proofs.YtlmkpembccehkaaGreatDoor
open Go Go.RowKit
set_option maxRecDepth 100000
set_option maxHeartbeats 4000000

@[reducible] def Ch.cs (c : Ch) : List Value := [.int .i64 c.has.l, .int .i64 c.has.v, .int .i64 c.holds.l, .int .i64 c.holds.v, .bool c.waits]
/-- A side's cells. -/
structure ScC (cs : List Value) (S : Sd) : Prop where
  len : cs.length = 90
  at_ : ∀ i j v, i < 18 → (S i).cs[j]? = some v → cs[i * 5 + j]? = some v
def sc0 : List Value := (List.replicate 18 Ch.zero.cs).flatten
theorem sc0_c : ScC sc0 Sd.zero := by
  refine ⟨rfl, fun i j v hi hv => ?_⟩
  have hj : j < 5 := (List.getElem?_eq_some_iff.1 hv).1
  have key : ∀ i, i < 18 → ∀ j, j < 5 → sc0[i * 5 + j]? = Ch.zero.cs[j]? := by
    intro i hi j hj
    have : ∀ n, i < n → (List.replicate n Ch.zero.cs).flatten[i * 5 + j]? = Ch.zero.cs[j]? := by
      clear hi
      induction i with
      | zero =>
        intro n hn
        obtain ⟨m, rfl⟩ : ∃ m, n = m + 1 := ⟨n - 1, by omega⟩
        rw [List.replicate_succ, List.flatten_cons, Nat.zero_mul, Nat.zero_add, List.getElem?_append_left (by simpa using hj)]
      | succ i ih =>
        intro n hn
        obtain ⟨m, rfl⟩ : ∃ m, n = m + 1 := ⟨n - 1, by omega⟩
        rw [List.replicate_succ, List.flatten_cons, List.getElem?_append_right (by simp; omega), ← ih m (by omega)]
        congr 1
        simp
        omega
    exact this 18 hi
  rw [key i hi j hj]
  exact hv
theorem sc0_one : ∀ v ∈ sc0, v.oneCell' = true := by
  intro v hv
  simp only [sc0, List.mem_flatten, List.mem_replicate] at hv
  obtain ⟨l, ⟨_, rfl⟩, hv⟩ := hv
  simp only [List.mem_cons, List.not_mem_nil, or_false] at hv
  rcases hv with rfl | rfl | rfl | rfl | rfl <;> rfl
section
variable {cs : List Value} {S : Sd}
theorem ScC.upd (h : ScC cs S) {i : Nat} (hi : i < 18) {cs' : List Value} {c : Ch} (hl : cs'.length = 90) (hk : ∀ k, (k < i * 5 ∨ i * 5 + 5 ≤ k) → cs'[k]? = cs[k]?) (hc : ∀ j v, c.cs[j]? = some v → cs'[i * 5 + j]? = some v) : ScC cs' (S.set i c) := by
  refine ⟨hl, fun k j v hk' hv => ?_⟩
  have hj : j < 5 := (List.getElem?_eq_some_iff.1 hv).1
  by_cases e : k = i
  · subst e
    rw [Sd.set_self] at hv
    exact hc j v hv
  · rw [Sd.set_ne _ _ e] at hv
    rw [hk _ (by omega)]
    exact h.at_ k j v hk' hv
theorem ScC.c0 (h : ScC cs S) {i : Nat} (hi : i < 18) : cs[i * 5]? = some (.int .i64 (S i).has.l) := h.at_ i 0 _ hi rfl
theorem ScC.c1 (h : ScC cs S) {i : Nat} (hi : i < 18) : cs[i * 5 + 1]? = some (.int .i64 (S i).has.v) := h.at_ i 1 _ hi rfl
theorem ScC.c2 (h : ScC cs S) {i : Nat} (hi : i < 18) : cs[i * 5 + 2]? = some (.int .i64 (S i).holds.l) := h.at_ i 2 _ hi rfl
theorem ScC.c3 (h : ScC cs S) {i : Nat} (hi : i < 18) : cs[i * 5 + 3]? = some (.int .i64 (S i).holds.v) := h.at_ i 3 _ hi rfl
theorem ScC.c4 (h : ScC cs S) {i : Nat} (hi : i < 18) : cs[i * 5 + 4]? = some (.bool (S i).waits) := h.at_ i 4 _ hi rfl
theorem ScC.setWaits (h : ScC cs S) {i : Nat} (hi : i < 18) (b : Bool) : ScC (cs.set (i * 5 + 4) (.bool b)) (S.set i ⟨(S i).has, (S i).holds, b⟩) := by
  have hl := h.len
  refine h.upd hi (by rw [List.length_set, hl]) (fun k hk => List.getElem?_set_ne (by omega)) (fun j v hv => ?_)
  match j, hv with
  | 0, hv => rw [List.getElem?_set_ne (by omega)]; exact (h.c0 hi).trans hv
  | 1, hv => rw [List.getElem?_set_ne (by omega)]; exact (h.c1 hi).trans hv
  | 2, hv => rw [List.getElem?_set_ne (by omega)]; exact (h.c2 hi).trans hv
  | 3, hv => rw [List.getElem?_set_ne (by omega)]; exact (h.c3 hi).trans hv
  | 4, hv => rw [List.getElem?_set_self (by omega)]; exact hv
theorem ScC.setHas (h : ScC cs S) {i : Nat} (hi : i < 18) (x : Se) : ScC (cs.take (i * 5) ++ ([.int .i64 x.l, .int .i64 x.v] ++ cs.drop (i * 5 + 2))) (S.set i ⟨x, (S i).holds, (S i).waits⟩) := by
  have hl := h.len
  rw [set2_eq _ _ _ _ (by omega)]
  refine h.upd hi (by simp [hl]) (fun k hk => by rw [List.getElem?_set_ne (by omega), List.getElem?_set_ne (by omega)]) (fun j v hv => ?_)
  match j, hv with
  | 0, hv => rw [List.getElem?_set_ne (by omega), Nat.add_zero, List.getElem?_set_self (by omega)]; exact hv
  | 1, hv => rw [List.getElem?_set_self (by rw [List.length_set]; omega)]; exact hv
  | 2, hv => rw [List.getElem?_set_ne (by omega), List.getElem?_set_ne (by omega)]; exact (h.c2 hi).trans hv
  | 3, hv => rw [List.getElem?_set_ne (by omega), List.getElem?_set_ne (by omega)]; exact (h.c3 hi).trans hv
  | 4, hv => rw [List.getElem?_set_ne (by omega), List.getElem?_set_ne (by omega)]; exact (h.c4 hi).trans hv
theorem ScC.setHolds (h : ScC cs S) {i : Nat} (hi : i < 18) (x : Se) : ScC (cs.take (i * 5 + 2) ++ ([.int .i64 x.l, .int .i64 x.v] ++ cs.drop (i * 5 + 2 + 2))) (S.set i ⟨(S i).has, x, (S i).waits⟩) := by
  have hl := h.len
  rw [set2_eq _ _ _ _ (by omega)]
  refine h.upd hi (by simp [hl]) (fun k hk => by rw [List.getElem?_set_ne (by omega), List.getElem?_set_ne (by omega)]) (fun j v hv => ?_)
  match j, hv with
  | 0, hv => rw [List.getElem?_set_ne (by omega), List.getElem?_set_ne (by omega)]; exact (h.c0 hi).trans hv
  | 1, hv => rw [List.getElem?_set_ne (by omega), List.getElem?_set_ne (by omega)]; exact (h.c1 hi).trans hv
  | 2, hv => rw [List.getElem?_set_ne (by omega), List.getElem?_set_self (by omega)]; exact hv
  | 3, hv => rw [List.getElem?_set_self (by rw [List.length_set]; omega)]; exact hv
  | 4, hv => rw [List.getElem?_set_ne (by omega), List.getElem?_set_ne (by omega)]; exact (h.c4 hi).trans hv
end
/-- A side that lies in block p. -/
def ScSdAt (w : World) (p : Nat) (S : Sd) : Prop := ∃ cs, Blk w p 80 cs ∧ ScC cs S
section
variable {w w' : World} {p : Nat} {S : Sd}
theorem ScSdAt.lt (h : ScSdAt w p S) : p < w.heap.size := by obtain ⟨cs, h, _⟩ := h; exact h.lt
theorem ScSdAt.only {D : Nat → Prop} (h : ScSdAt w p S) (ho : Only D w w') (hD : ¬ D p) : ScSdAt w' p S := by
  obtain ⟨cs, h, hc⟩ := h
  exact ⟨cs, h.only ho hD, hc⟩
theorem ScSdAt.same (h : ScSdAt w p S) (ho : Only (fun _ => False) w w') : ScSdAt w' p S := h.only ho (fun h => h)
end
theorem zero_side : (Tryz.prog.info? 80).map (fun i => (i.zero, i.size)) = some (some (.agg sc0.toArray), 90) := by kernel_rfl
theorem built_side : Tryz.prog.built 80 [] = some sc0.toArray := by
  unfold Program.built
  have h := zero_side
  cases hi : Tryz.prog.info? 80 with
  | none => rw [hi] at h; cases h
  | some i =>
    rw [hi] at h
    simp only [Option.map_some, Option.some.injEq, Prod.mk.injEq] at h
    simp only [Tryz.underlying80, h.1]
    rfl
theorem has_range {w : World} {p : Nat} {cs : List Value} {S : Sd} (h : Blk w p 80 cs) (hc : ScC cs S) {i : Nat} (hi : i < 18) : w.rangeAt p (i * 5) (S i).has.cs := by
  intro j v hj
  rw [h.cell]
  match j, hj with
  | 0, hj => exact (hc.c0 hi).trans hj
  | 1, hj => exact (hc.c1 hi).trans hj
theorem eq_set (W : World) (a b c d : Int) : (Op.equalIn 10000 75 (.agg #[.int .i64 a, .int .i64 b]) (.agg #[.int .i64 c, .int .i64 d])).run Tryz.prog W = .ok (decide ((⟨a, b⟩ : Se) = ⟨c, d⟩)) W := by
  rw [show (10000 : Nat) = 9999 + 1 from rfl, run_equalIn_struct W 9999 _ _ _ (by kernel_rfl) (by kernel_rfl)]
  have u3 : Tryz.prog.underlying 3 = some (.int .i64) := Tryz.underlying3
  simp only [Program.fieldsOf, Tryz.underlying75, Op.eqFields]
  simp [go_sem, u3, Result.andThen]
  by_cases h1 : a = c <;> by_cases h2 : b = d <;> simp [h1, h2]
theorem guard_set : Tryz.prog.eqGuardType Tryz.prog.depth 75 = false := by kernel_rfl

end Go.Proofs.YtlmkpembccehkaaGreatDoor
