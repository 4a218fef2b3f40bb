/- Masks: which numbers they are, what two of them share, their bits as the machine has them, their words, what a body says: as plain functions. -/
import Derived.Test.YtefcgbkbgkllaaaDoorText
namespace Go.Proofs.YtefcgbkbgkllaaaDoor
open Go Go.RowKit
set_option maxRecDepth 100000
set_option maxHeartbeats 4000000

/-- A mask: of the numbers from 0 to 31 those without 4. -/
def isMask (m : Int) : Bool := decide (0 ≤ m ∧ m < 32 ∧ m % 8 < 4)
theorem isMask_iff {m : Int} : isMask m = true ↔ 0 ≤ m ∧ m < 32 ∧ m % 8 < 4 := by simp [isMask]
theorem isMask_cases {m : Int} (h : isMask m = true) : m = 0 ∨ m = 1 ∨ m = 2 ∨ m = 3 ∨ m = 8 ∨ m = 9 ∨ m = 10 ∨ m = 11 ∨ m = 16 ∨ m = 17 ∨ m = 18 ∨ m = 19 ∨ m = 24 ∨ m = 25 ∨ m = 26 ∨ m = 27 := by
  rw [isMask_iff] at h
  omega
/-- What holds of sixteen numbers holds of every mask. -/
theorem mask_all {p : Int → Prop} (h : ∀ n : Fin 28, isMask (n.val : Int) = true → p (n.val : Int)) {m : Int} (hm : isMask m = true) : p m := by
  have h1 := isMask_iff.1 hm
  have h2 : m < 28 := by omega
  have := h ⟨m.toNat, by omega⟩ (by rw [show ((⟨m.toNat, by omega⟩ : Fin 28).val : Int) = m from by simp; omega]; exact hm)
  rwa [show ((⟨m.toNat, by omega⟩ : Fin 28).val : Int) = m from by simp; omega] at this

/-- A number that a machine's word holds. -/
def In64 (m : Int) : Prop := -9223372036854775808 ≤ m ∧ m ≤ 9223372036854775807

theorem wrap_of (x : BitVec 64) : IntKind.wrap .i64 (x.toNat : Int) = x.toInt := by
  have hx := x.isLt
  rw [IntWalk.i64_left, BitVec.toInt_eq_toNat_bmod, Int.bmod_def]
  unfold wrap64
  omega
theorem ofInt_wrap (x : BitVec 64) : BitVec.ofInt 64 (IntKind.wrap .i64 (x.toNat : Int)) = x := by
  rw [wrap_of, BitVec.ofInt_toInt]
theorem and_not_part (x m : BitVec 64) (h : x &&& ~~~m = 0#64) : x &&& m = x := by
  apply BitVec.eq_of_getLsbD_eq
  intro i hi
  have h1 := congrArg (fun y => BitVec.getLsbD y i) h
  simp [hi] at h1 ⊢
  exact h1
/-- A part of 27. -/
theorem part_mask (x : BitVec 64) (h : x &&& 27#64 = x) : isMask x.toInt = true := by
  have h1 := congrArg BitVec.toNat h
  rw [BitVec.toNat_and] at h1
  have h27 : (27#64).toNat = 27 := rfl
  rw [h27] at h1
  have hle : x.toNat ≤ 27 := by rw [← h1]; exact Nat.and_le_right
  have e : x.toInt = (x.toNat : Int) := by rw [BitVec.toInt_eq_toNat_of_lt (by omega)]
  rw [e]
  have key : ∀ n : Fin 28, n.val &&& 27 = n.val → isMask (n.val : Int) = true := by decide +kernel
  exact key ⟨x.toNat, by omega⟩ h1

/-- Whether a number has bits beside the mask's. -/
theorem right_bits {m : Int} (hm : In64 m) : (bits .andNot .i64 m 27 == 0) = isMask m := by
  cases h : isMask m with
  | true =>
    have key : ∀ n : Fin 28, isMask (n.val : Int) = true → (bits .andNot .i64 (n.val : Int) 27 == 0) = true := by decide +kernel
    exact mask_all (p := fun m => (bits .andNot .i64 m 27 == 0) = true) key h
  | false =>
    rw [Bool.eq_false_iff]
    intro hb
    rw [beq_iff_eq] at hb
    have e : bits .andNot .i64 m 27 = IntKind.wrap .i64 ((BitVec.ofInt 64 m &&& ~~~(27#64)).toNat : Int) := rfl
    rw [e, wrap_of] at hb
    have hz : BitVec.ofInt 64 m &&& ~~~(27#64) = 0#64 := BitVec.eq_of_toInt_eq (by rw [hb]; rfl)
    have hp := part_mask _ (and_not_part _ _ hz)
    rw [BitVec.toInt_ofInt, show (m.bmod (2 ^ 64)) = m from by unfold In64 at hm; rw [Int.bmod_def]; omega] at hp
    rw [hp] at h
    cases h

/-- What a tail that was told a number can do. -/
def canOf (can : Int) : Int := bits .and .i64 can 27
theorem canOf_mask (can : Int) : isMask (canOf can) = true := by
  have e : canOf can = IntKind.wrap .i64 ((BitVec.ofInt 64 can &&& 27#64).toNat : Int) := rfl
  rw [e, wrap_of]
  refine part_mask _ ?_
  rw [BitVec.and_assoc, BitVec.and_self]
/-- The bits, in the order of their words. -/
def bitV : Nat → Int
  | 0 => 1
  | 1 => 2
  | 2 => 8
  | _ => 16
/-- Whether a mask has a bit. -/
def hasB (m : Int) (k : Nat) : Bool := decide (m / bitV k % 2 = 1)
theorem can_bit (can : Int) (k : Nat) : bits .and .i64 can (bitV k) = bits .and .i64 (canOf can) (bitV k) := by
  have e1 : bits .and .i64 can (bitV k) = IntKind.wrap .i64 ((BitVec.ofInt 64 can &&& BitVec.ofInt 64 (bitV k)).toNat : Int) := rfl
  have e2 : bits .and .i64 (canOf can) (bitV k) = IntKind.wrap .i64 ((BitVec.ofInt 64 (canOf can) &&& BitVec.ofInt 64 (bitV k)).toNat : Int) := rfl
  have e3 : canOf can = IntKind.wrap .i64 ((BitVec.ofInt 64 can &&& 27#64).toNat : Int) := rfl
  rw [e1, e2, e3, ofInt_wrap, BitVec.and_assoc]
  have : 27#64 &&& BitVec.ofInt 64 (bitV k) = BitVec.ofInt 64 (bitV k) := by unfold bitV; split <;> rfl
  rw [this]
theorem mask_bit {m : Int} (hm : isMask m = true) (k : Nat) (hk : k < 4) : (bits .and .i64 m (bitV k) == 0) = !hasB m k := by
  have key : ∀ n : Fin 28, isMask (n.val : Int) = true → ∀ k : Fin 4, (bits .and .i64 (n.val : Int) (bitV k.val) == 0) = !hasB (n.val : Int) k.val := by decide +kernel
  exact mask_all (p := fun m => ∀ k : Fin 4, (bits .and .i64 m (bitV k.val) == 0) = !hasB m k.val) key hm ⟨k, hk⟩
theorem can_has (can : Int) (k : Nat) (hk : k < 4) : (bits .and .i64 can (bitV k) == 0) = !hasB (canOf can) k := by
  rw [can_bit, mask_bit (canOf_mask can) k hk]

/-- The bits that are in both, as far as so many. -/
def bothTo (a b : Int) : Nat → Int
  | 0 => 0
  | k + 1 => bothTo a b k + (if hasB a k && hasB b k then bitV k else 0)
/-- What two masks share. -/
def both (a b : Int) : Int := bothTo a b 4
theorem bothTo_in (a b : Int) : ∀ k, k ≤ 4 → 0 ≤ bothTo a b k ∧ bothTo a b k ≤ 16 * k
  | 0, _ => ⟨Int.le_refl _, Int.le_refl _⟩
  | k + 1, h => by
    have ih := bothTo_in a b k (by omega)
    have hv : 0 ≤ bitV k ∧ bitV k ≤ 16 := by unfold bitV; split <;> decide
    rw [bothTo]
    split <;> omega
theorem and_both {a b : Int} (ha : isMask a = true) (hb : isMask b = true) : bits .and .i64 a b = both a b := by
  have key : ∀ x : Fin 28, isMask (x.val : Int) = true → ∀ y : Fin 28, isMask (y.val : Int) = true → bits .and .i64 (x.val : Int) (y.val : Int) = both (x.val : Int) (y.val : Int) := by decide +kernel
  exact mask_all (p := fun a => ∀ b, isMask b = true → bits .and .i64 a b = both a b) (fun x hx b hb => mask_all (p := fun b => bits .and .i64 (x.val : Int) b = both (x.val : Int) b) (fun y hy => key x hx y hy) hb) ha b hb
theorem both_mask {a b : Int} (ha : isMask a = true) (hb : isMask b = true) : isMask (both a b) = true := by
  have key : ∀ x : Fin 28, isMask (x.val : Int) = true → ∀ y : Fin 28, isMask (y.val : Int) = true → isMask (both (x.val : Int) (y.val : Int)) = true := by decide +kernel
  exact mask_all (p := fun a => ∀ b, isMask b = true → isMask (both a b) = true) (fun x hx b hb => mask_all (p := fun b => isMask (both (x.val : Int) b) = true) (fun y hy => key x hx y hy) hb) ha b hb
/-- A mask with Ack. -/
theorem or_four {m : Int} (hm : isMask m = true) : bits .or .i64 m 4 = m + 4 := by
  have key : ∀ n : Fin 28, isMask (n.val : Int) = true → bits .or .i64 (n.val : Int) 4 = (n.val : Int) + 4 := by decide +kernel
  exact mask_all (p := fun m => bits .or .i64 m 4 = m + 4) key hm

/-- A number without 4. -/
def clr (y : Nat) : Int := if y / 4 % 2 = 1 then (y : Int) - 4 else y
def ackB (y : Nat) : Bool := decide (y / 4 % 2 = 1)
theorem clr_bits (y : Nat) (hy : y < 256) : bits .andNot .i64 (y : Int) 4 = clr y := by
  have key : ∀ n : Fin 256, bits .andNot .i64 (n.val : Int) 4 = clr n.val := by decide +kernel
  exact key ⟨y, hy⟩
theorem clr_in (y : Nat) (hy : y < 256) : 0 ≤ clr y ∧ clr y ≤ 255 := by
  unfold clr
  split <;> omega
theorem ack_ne (y : Nat) (hy : y < 256) : ((y : Int) != clr y) = ackB y := by
  have key : ∀ n : Fin 256, ((n.val : Int) != clr n.val) = ackB n.val := by decide +kernel
  exact key ⟨y, hy⟩
/-- What a body says: the mask, whether it has Ack, the error's number. -/
def saysM : List UInt8 → Int × Bool × Nat
  | [] => (0, false, 3)
  | [_] => (0, false, 3)
  | [x, y] => if x.toNat = 1 then (if isMask (clr y.toNat) then (clr y.toNat, ackB y.toNat, 0) else (0, false, 5)) else (0, false, 9)
  | _ => (0, false, 4)
/-- A mask's body. -/
def bodyM (m : Int) : List UInt8 := [1, b8 m]
theorem saysM_body {m : Int} (hm : isMask m = true) : saysM (bodyM m) = (m, false, 0) := by
  have key : ∀ n : Fin 28, isMask (n.val : Int) = true → saysM (bodyM (n.val : Int)) = ((n.val : Int), false, 0) := by decide +kernel
  exact mask_all (p := fun m => saysM (bodyM m) = (m, false, 0)) key hm
theorem saysM_ack {m : Int} (hm : isMask m = true) : saysM (bodyM (m + 4)) = (m, true, 0) := by
  have key : ∀ n : Fin 28, isMask (n.val : Int) = true → saysM (bodyM ((n.val : Int) + 4)) = ((n.val : Int), true, 0) := by decide +kernel
  exact mask_all (p := fun m => saysM (bodyM (m + 4)) = (m, true, 0)) key hm
theorem saysM_mask : ∀ {b : List UInt8}, (saysM b).2.2 = 0 → isMask (saysM b).1 = true
  | [], h => by simp [saysM] at h
  | [_], h => by simp [saysM] at h
  | [x, y], h => by
    rw [saysM] at h ⊢
    by_cases h1 : x.toNat = 1
    · rw [if_pos h1] at h ⊢
      cases h2 : isMask (clr y.toNat) with
      | true =>
        rw [if_pos rfl]
        exact h2
      | false =>
        rw [h2] at h
        simp at h
    · rw [if_neg h1] at h
      simp at h
  | _ :: _ :: _ :: _, h => by simp [saysM] at h

/-- The words. -/
def wordM : Nat → List UInt8
  | 0 => [101, 100, 105, 116]
  | 1 => [116, 114, 97, 112]
  | 2 => [115, 111, 102, 116]
  | _ => [108, 105, 116]
/-- The words of a mask's bits, as far as so many. -/
def wordsTo (m : Int) : Nat → List (List UInt8)
  | 0 => []
  | k + 1 => if hasB m k then wordsTo m k ++ [wordM k] else wordsTo m k
/-- .. with a + between. -/
def textTo (m : Int) : Nat → List UInt8
  | 0 => []
  | k + 1 => if hasB m k then (if textTo m k = [] then wordM k else (textTo m k ++ [43]) ++ wordM k) else textTo m k
def textM (m : Int) : List UInt8 := if textTo m 4 = [] then [110, 111, 110, 101] else textTo m 4
end Go.Proofs.YtefcgbkbgkllaaaDoor
