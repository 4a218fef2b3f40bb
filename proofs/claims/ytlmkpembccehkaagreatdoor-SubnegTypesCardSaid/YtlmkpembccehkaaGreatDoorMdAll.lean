/- Several texts in one. -/
import Derived.Test.YtlmkpembccehkaaGreatDoorText
import Derived.Test.YtlmkpembccehkaaGreatDoorBox
import Derived.Test.YtlmkpembccehkaaGreatDoorErAll
import Derived.BigQuiet
import Derived.Test.YtlmkpembccehkaaGreatDoorSnIn
/- Masks: which numbers they are, what two of them share, their bits as the machine has them, their words, what a body says: as plain functions. -/
namespace Go.Proofs.YtlmkpembccehkaaGreatDoor
open Go Go.RowKit
set_option maxRecDepth 100000
set_option maxHeartbeats 4000000

/-- A mask: of the numbers from 0 to 31 those without 4. -/
def isMask (m : Int) : Bool := decide (0 ≤ m ∧ m < 32 ∧ m % 8 < 4)
theorem isMask_iff {m : Int} : isMask m = true ↔ 0 ≤ m ∧ m < 32 ∧ m % 8 < 4 := by simp [isMask]
theorem isMask_cases {m : Int} (h : isMask m = true) : m = 0 ∨ m = 1 ∨ m = 2 ∨ m = 3 ∨ m = 8 ∨ m = 9 ∨ m = 10 ∨ m = 11 ∨ m = 16 ∨ m = 17 ∨ m = 18 ∨ m = 19 ∨ m = 24 ∨ m = 25 ∨ m = 26 ∨ m = 27 := by
  rw [isMask_iff] at h
  omega
/-- What holds of sixteen numbers holds of every mask. -/
theorem mask_all {p : Int → Prop} (h : ∀ n : Fin 28, isMask (n.val : Int) = true → p (n.val : Int)) {m : Int} (hm : isMask m = true) : p m := by
  have h1 := isMask_iff.1 hm
  have h2 : m < 28 := by omega
  have := h ⟨m.toNat, by omega⟩ (by rw [show ((⟨m.toNat, by omega⟩ : Fin 28).val : Int) = m from by simp; omega]; exact hm)
  rwa [show ((⟨m.toNat, by omega⟩ : Fin 28).val : Int) = m from by simp; omega] at this

/-- A number that a machine's word holds. -/
def In64 (m : Int) : Prop := -9223372036854775808 ≤ m ∧ m ≤ 9223372036854775807

theorem wrap_of (x : BitVec 64) : IntKind.wrap .i64 (x.toNat : Int) = x.toInt := by
  have hx := x.isLt
  rw [IntWalk.i64_left, BitVec.toInt_eq_toNat_bmod, Int.bmod_def]
  unfold wrap64
  omega
theorem ofInt_wrap (x : BitVec 64) : BitVec.ofInt 64 (IntKind.wrap .i64 (x.toNat : Int)) = x := by
  rw [wrap_of, BitVec.ofInt_toInt]
theorem and_not_part (x m : BitVec 64) (h : x &&& ~~~m = 0#64) : x &&& m = x := by
  apply BitVec.eq_of_getLsbD_eq
  intro i hi
  have h1 := congrArg (fun y => BitVec.getLsbD y i) h
  simp [hi] at h1 ⊢
  exact h1
/-- A part of 27. -/
theorem part_mask (x : BitVec 64) (h : x &&& 27#64 = x) : isMask x.toInt = true := by
  have h1 := congrArg BitVec.toNat h
  rw [BitVec.toNat_and] at h1
  have h27 : (27#64).toNat = 27 := rfl
  rw [h27] at h1
  have hle : x.toNat ≤ 27 := by rw [← h1]; exact Nat.and_le_right
  have e : x.toInt = (x.toNat : Int) := by rw [BitVec.toInt_eq_toNat_of_lt (by omega)]
  rw [e]
  have key : ∀ n : Fin 28, n.val &&& 27 = n.val → isMask (n.val : Int) = true := by decide +kernel
  exact key ⟨x.toNat, by omega⟩ h1

/-- Whether a number has bits beside the mask's. -/
theorem right_bits {m : Int} (hm : In64 m) : (bits .andNot .i64 m 27 == 0) = isMask m := by
  cases h : isMask m with
  | true =>
    have key : ∀ n : Fin 28, isMask (n.val : Int) = true → (bits .andNot .i64 (n.val : Int) 27 == 0) = true := by decide +kernel
    exact mask_all (p := fun m => (bits .andNot .i64 m 27 == 0) = true) key h
  | false =>
    rw [Bool.eq_false_iff]
    intro hb
    rw [beq_iff_eq] at hb
    have e : bits .andNot .i64 m 27 = IntKind.wrap .i64 ((BitVec.ofInt 64 m &&& ~~~(27#64)).toNat : Int) := rfl
    rw [e, wrap_of] at hb
    have hz : BitVec.ofInt 64 m &&& ~~~(27#64) = 0#64 := BitVec.eq_of_toInt_eq (by rw [hb]; rfl)
    have hp := part_mask _ (and_not_part _ _ hz)
    rw [BitVec.toInt_ofInt, show (m.bmod (2 ^ 64)) = m from by unfold In64 at hm; rw [Int.bmod_def]; omega] at hp
    rw [hp] at h
    cases h

/-- What a tail that was told a number can do. -/
def canOf (can : Int) : Int := bits .and .i64 can 27
theorem canOf_mask (can : Int) : isMask (canOf can) = true := by
  have e : canOf can = IntKind.wrap .i64 ((BitVec.ofInt 64 can &&& 27#64).toNat : Int) := rfl
  rw [e, wrap_of]
  refine part_mask _ ?_
  rw [BitVec.and_assoc, BitVec.and_self]
/-- The bits, in the order of their words. -/
def bitV : Nat → Int
  | 0 => 1
  | 1 => 2
  | 2 => 8
  | _ => 16
/-- Whether a mask has a bit. -/
def hasB (m : Int) (k : Nat) : Bool := decide (m / bitV k % 2 = 1)
theorem can_bit (can : Int) (k : Nat) : bits .and .i64 can (bitV k) = bits .and .i64 (canOf can) (bitV k) := by
  have e1 : bits .and .i64 can (bitV k) = IntKind.wrap .i64 ((BitVec.ofInt 64 can &&& BitVec.ofInt 64 (bitV k)).toNat : Int) := rfl
  have e2 : bits .and .i64 (canOf can) (bitV k) = IntKind.wrap .i64 ((BitVec.ofInt 64 (canOf can) &&& BitVec.ofInt 64 (bitV k)).toNat : Int) := rfl
  have e3 : canOf can = IntKind.wrap .i64 ((BitVec.ofInt 64 can &&& 27#64).toNat : Int) := rfl
  rw [e1, e2, e3, ofInt_wrap, BitVec.and_assoc]
  have : 27#64 &&& BitVec.ofInt 64 (bitV k) = BitVec.ofInt 64 (bitV k) := by unfold bitV; split <;> rfl
  rw [this]
theorem mask_bit {m : Int} (hm : isMask m = true) (k : Nat) (hk : k < 4) : (bits .and .i64 m (bitV k) == 0) = !hasB m k := by
  have key : ∀ n : Fin 28, isMask (n.val : Int) = true → ∀ k : Fin 4, (bits .and .i64 (n.val : Int) (bitV k.val) == 0) = !hasB (n.val : Int) k.val := by decide +kernel
  exact mask_all (p := fun m => ∀ k : Fin 4, (bits .and .i64 m (bitV k.val) == 0) = !hasB m k.val) key hm ⟨k, hk⟩
theorem can_has (can : Int) (k : Nat) (hk : k < 4) : (bits .and .i64 can (bitV k) == 0) = !hasB (canOf can) k := by
  rw [can_bit, mask_bit (canOf_mask can) k hk]

/-- The bits that are in both, as far as so many. -/
def bothTo (a b : Int) : Nat → Int
  | 0 => 0
  | k + 1 => bothTo a b k + (if hasB a k && hasB b k then bitV k else 0)
/-- What two masks share. -/
def both (a b : Int) : Int := bothTo a b 4
theorem bothTo_in (a b : Int) : ∀ k, k ≤ 4 → 0 ≤ bothTo a b k ∧ bothTo a b k ≤ 16 * k
  | 0, _ => ⟨Int.le_refl _, Int.le_refl _⟩
  | k + 1, h => by
    have ih := bothTo_in a b k (by omega)
    have hv : 0 ≤ bitV k ∧ bitV k ≤ 16 := by unfold bitV; split <;> decide
    rw [bothTo]
    split <;> omega
theorem and_both {a b : Int} (ha : isMask a = true) (hb : isMask b = true) : bits .and .i64 a b = both a b := by
  have key : ∀ x : Fin 28, isMask (x.val : Int) = true → ∀ y : Fin 28, isMask (y.val : Int) = true → bits .and .i64 (x.val : Int) (y.val : Int) = both (x.val : Int) (y.val : Int) := by decide +kernel
  exact mask_all (p := fun a => ∀ b, isMask b = true → bits .and .i64 a b = both a b) (fun x hx b hb => mask_all (p := fun b => bits .and .i64 (x.val : Int) b = both (x.val : Int) b) (fun y hy => key x hx y hy) hb) ha b hb
theorem both_mask {a b : Int} (ha : isMask a = true) (hb : isMask b = true) : isMask (both a b) = true := by
  have key : ∀ x : Fin 28, isMask (x.val : Int) = true → ∀ y : Fin 28, isMask (y.val : Int) = true → isMask (both (x.val : Int) (y.val : Int)) = true := by decide +kernel
  exact mask_all (p := fun a => ∀ b, isMask b = true → isMask (both a b) = true) (fun x hx b hb => mask_all (p := fun b => isMask (both (x.val : Int) b) = true) (fun y hy => key x hx y hy) hb) ha b hb
/-- A mask with Ack. -/
theorem or_four {m : Int} (hm : isMask m = true) : bits .or .i64 m 4 = m + 4 := by
  have key : ∀ n : Fin 28, isMask (n.val : Int) = true → bits .or .i64 (n.val : Int) 4 = (n.val : Int) + 4 := by decide +kernel
  exact mask_all (p := fun m => bits .or .i64 m 4 = m + 4) key hm

/-- A number without 4. -/
def clr (y : Nat) : Int := if y / 4 % 2 = 1 then (y : Int) - 4 else y
def ackB (y : Nat) : Bool := decide (y / 4 % 2 = 1)
theorem clr_bits (y : Nat) (hy : y < 256) : bits .andNot .i64 (y : Int) 4 = clr y := by
  have key : ∀ n : Fin 256, bits .andNot .i64 (n.val : Int) 4 = clr n.val := by decide +kernel
  exact key ⟨y, hy⟩
theorem clr_in (y : Nat) (hy : y < 256) : 0 ≤ clr y ∧ clr y ≤ 255 := by
  unfold clr
  split <;> omega
theorem ack_ne (y : Nat) (hy : y < 256) : ((y : Int) != clr y) = ackB y := by
  have key : ∀ n : Fin 256, ((n.val : Int) != clr n.val) = ackB n.val := by decide +kernel
  exact key ⟨y, hy⟩
/-- What a body says: the mask, whether it has Ack, the error's number. -/
def saysM : List UInt8 → Int × Bool × Nat
  | [] => (0, false, 3)
  | [_] => (0, false, 3)
  | [x, y] => if x.toNat = 1 then (if isMask (clr y.toNat) then (clr y.toNat, ackB y.toNat, 0) else (0, false, 5)) else (0, false, 9)
  | _ => (0, false, 4)
/-- A mask's body. -/
def bodyM (m : Int) : List UInt8 := [1, b8 m]
theorem saysM_body {m : Int} (hm : isMask m = true) : saysM (bodyM m) = (m, false, 0) := by
  have key : ∀ n : Fin 28, isMask (n.val : Int) = true → saysM (bodyM (n.val : Int)) = ((n.val : Int), false, 0) := by decide +kernel
  exact mask_all (p := fun m => saysM (bodyM m) = (m, false, 0)) key hm
theorem saysM_ack {m : Int} (hm : isMask m = true) : saysM (bodyM (m + 4)) = (m, true, 0) := by
  have key : ∀ n : Fin 28, isMask (n.val : Int) = true → saysM (bodyM ((n.val : Int) + 4)) = ((n.val : Int), true, 0) := by decide +kernel
  exact mask_all (p := fun m => saysM (bodyM (m + 4)) = (m, true, 0)) key hm
theorem saysM_mask : ∀ {b : List UInt8}, (saysM b).2.2 = 0 → isMask (saysM b).1 = true
  | [], h => by simp [saysM] at h
  | [_], h => by simp [saysM] at h
  | [x, y], h => by
    rw [saysM] at h ⊢
    by_cases h1 : x.toNat = 1
    · rw [if_pos h1] at h ⊢
      cases h2 : isMask (clr y.toNat) with
      | true =>
        rw [if_pos rfl]
        exact h2
      | false =>
        rw [h2] at h
        simp at h
    · rw [if_neg h1] at h
      simp at h
  | _ :: _ :: _ :: _, h => by simp [saysM] at h

/-- The words. -/
def wordM : Nat → List UInt8
  | 0 => [101, 100, 105, 116]
  | 1 => [116, 114, 97, 112]
  | 2 => [115, 111, 102, 116]
  | _ => [108, 105, 116]
/-- The words of a mask's bits, as far as so many. -/
def wordsTo (m : Int) : Nat → List (List UInt8)
  | 0 => []
  | k + 1 => if hasB m k then wordsTo m k ++ [wordM k] else wordsTo m k
/-- .. with a + between. -/
def textTo (m : Int) : Nat → List UInt8
  | 0 => []
  | k + 1 => if hasB m k then (if textTo m k = [] then wordM k else (textTo m k ++ [43]) ++ wordM k) else textTo m k
def textM (m : Int) : List UInt8 := if textTo m 4 = [] then [110, 111, 110, 101] else textTo m 4
end Go.Proofs.YtlmkpembccehkaaGreatDoor
/- Modes: what a number is, a body told, heads and tails in memory, what they have. -/
namespace Go.Proofs.YtlmkpembccehkaaGreatDoor
open Go Go.RowKit
set_option maxRecDepth 100000
set_option maxHeartbeats 4000000

theorem mdRight_any (w : World) {m : Int} (hm : In64 m) : Calls Tryz.prog 108 #[.int .i64 m] w fun e w' => e = .returned (.bool (isMask m)) ∧ w' = w := by
  have h := right_bits hm
  obtain ⟨z, hz⟩ : ∃ z, z = bits .andNot .i64 m 27 := ⟨_, rfl⟩
  rw [← hz] at h
  have hb := hz.symm
  obtain ⟨p, hp⟩ : ∃ p, p = isMask m := ⟨_, rfl⟩
  rw [← hp] at h ⊢
  have h2 : decide (z = 0) = p := by rw [← h]; rfl
  clear hz hp
  cases p
  all_goals
    go_enter Tryz.func108, Tryz.ntmps108
    go_wp2
    go_ret
    exact ⟨rfl, rfl⟩

theorem mdTell_any (w : World) {m : Int} (h0 : 0 ≤ m) (h1 : m ≤ 255) : Calls Tryz.prog 105 #[.int .i64 m] w fun e w' => e = .returned (.slice (some ⟨w.heap.size, 0, none⟩) 2 2) ∧ Hid (Src w' (some ⟨w.heap.size, 0, none⟩) 2 (bodyM m)) ∧ Hid (Only (fun _ => False) w w') := by
  have hb : (#[.int .u8 1, .int .u8 m] : Array Value) = ((bodyM m).map B8).toArray := by
    simp only [bodyM, List.map_cons, List.map_nil, B8, b8_int h0 h1]
    rfl
  go_enter Tryz.func105, Tryz.ntmps105
  go_wp2
  go_ret
  exact ⟨rfl, src_new w (bodyM m) _ 5 _ 2 rfl rfl, (Only.refl _ _).alloc _⟩

/-- A head, in memory. -/
def HdAt (w : World) (p : Nat) (m : Int) (b : Bool) : Prop := Blk w p 82 [.int .i64 m, .bool b]
/-- A tail. -/
def TlAt (w : World) (q : Nat) (can m : Int) : Prop := Blk w q 84 [.int .i64 can, .int .i64 m]

theorem mdNewHead_any (w : World) : Calls Tryz.prog 47 #[] w fun e w' => e = .returned (.pointer (some ⟨w.heap.size, 0, none⟩)) ∧ Hid (HdAt w' w.heap.size 0 false) ∧ Hid (w'.heap.size = w.heap.size + 1) ∧ Hid (Only (fun _ => False) w w') := by
  go_enter Tryz.func47, Tryz.ntmps47
  go_wp2
  go_ret
  exact ⟨rfl, Blk.new w _ [.int .i64 0, .bool false], show (w.alloc _).heap.size = _ by simp, (Only.refl _ _).alloc _⟩
theorem mdNewTail_any (w : World) (can : Int) : Calls Tryz.prog 48 #[.int .i64 can] w fun e w' => e = .returned (.pointer (some ⟨w.heap.size, 0, none⟩)) ∧ Hid (TlAt w' w.heap.size (canOf can) 0) ∧ Hid (w'.heap.size = w.heap.size + 1) ∧ Hid (Only (fun _ => False) w w') := by
  have hb : bits .and .i64 can 27 = canOf can := rfl
  go_enter Tryz.func48, Tryz.ntmps48
  go_wp2
  go_ret
  exact ⟨rfl, Blk.new w _ [.int .i64 (canOf can), .int .i64 0], show (w.alloc _).heap.size = _ by simp, (Only.refl _ _).alloc _⟩

theorem mdMask_any {w : World} {p : Nat} {m : Int} {b : Bool} (h : HdAt w p m b) : Calls Tryz.prog 31 #[.pointer (some ⟨p, 0, none⟩)] w fun e w' => e = .returned (.int .i64 m) ∧ w' = w := by
  have c0 := Blk.cell h 0
  simp only [List.getElem?_cons_zero] at c0
  go_enter Tryz.func31, Tryz.ntmps31
  go_wp2
  go_ret
  exact ⟨rfl, rfl⟩
theorem mdWaits_any {w : World} {p : Nat} {m : Int} {b : Bool} (h : HdAt w p m b) : Calls Tryz.prog 34 #[.pointer (some ⟨p, 0, none⟩)] w fun e w' => e = .returned (.bool b) ∧ w' = w := by
  have c1 := Blk.cell h 1
  simp only [List.getElem?_cons_zero, List.getElem?_cons_succ] at c1
  go_enter Tryz.func34, Tryz.ntmps34
  go_wp2
  go_ret
  exact ⟨rfl, rfl⟩
theorem mdTMask_any {w : World} {q : Nat} {can m : Int} (h : TlAt w q can m) : Calls Tryz.prog 32 #[.pointer (some ⟨q, 0, none⟩)] w fun e w' => e = .returned (.int .i64 m) ∧ w' = w := by
  have c1 := Blk.cell h 1
  simp only [List.getElem?_cons_zero, List.getElem?_cons_succ] at c1
  go_enter Tryz.func32, Tryz.ntmps32
  go_wp2
  go_ret
  exact ⟨rfl, rfl⟩
end Go.Proofs.YtlmkpembccehkaaGreatDoor
/- What a body says: the program's Parse of any bytes. -/
namespace Go.Proofs.YtlmkpembccehkaaGreatDoor
open Go Go.RowKit
set_option maxRecDepth 100000
set_option maxHeartbeats 4000000

/-- The errors that modes tell: by their places among the sixteen. -/
@[reducible] def mdSel : List Nat := [2, 3, 4, 7, 8, 9]

section
variable {w : World} {es : List Addr} {A : Option Addr} {n : Nat} {b : List UInt8} {x y : UInt8}
/-- The two bytes lie side by side. -/
theorem Src.pair (hs : Src w A 2 [x, y]) : ∃ ad, A = some ad ∧ w.cell? ad = some (.int .u8 (x.toNat : Int)) ∧ w.cell? ⟨ad.block, ad.off + 1, none⟩ = some (.int .u8 (y.toNat : Int)) := by
  obtain ⟨ad, rfl, hx⟩ := hs.2 (by omega)
  have c0 := hx 0 x rfl
  have c1 := hx 1 y rfl
  rw [show ad.add 0 = ad from by simp [Addr.add]] at c0
  rw [show ad.add 1 = ⟨ad.block, ad.off + 1, none⟩ from by simp [Addr.add]] at c1
  exact ⟨ad, rfl, c0, c1⟩
theorem mdParse_short (hes : ErrsOf w mdSel es) (A : Option Addr) (n cap : Nat) (h : n < 2) :
    Calls Tryz.prog 104 #[.slice A n cap] w fun e w' => ∃ a, es[2]? = some a ∧ e = .returned (.tuple #[.int .i64 0, .bool false, errV a]) ∧ Only (fun _ => False) w w' := by
  obtain ⟨a, ha, hc⟩ := hes.get 2 9 (by decide) rfl
  unfold errV at hc
  have HA := Lib.hid ha
  have hd : decide ((n : Int) < 2) = true := by simp; omega
  clear ha hes h
  go_enter Tryz.func104, Tryz.ntmps104
  go_wp2
  go_quiet (fail)
  go_wp2
  go_ret3
  exact ⟨a, HA.out, rfl, (Only.refl _ _).drewN _⟩
theorem mdParse_long (hes : ErrsOf w mdSel es) (A : Option Addr) (n cap : Nat) (h : 2 < n) :
    Calls Tryz.prog 104 #[.slice A n cap] w fun e w' => ∃ a, es[3]? = some a ∧ e = .returned (.tuple #[.int .i64 0, .bool false, errV a]) ∧ Only (fun _ => False) w w' := by
  obtain ⟨a, ha, hc⟩ := hes.get 3 3 (by decide) rfl
  unfold errV at hc
  have HA := Lib.hid ha
  have hd : decide ((n : Int) < 2) = false := by simp; omega
  have hd2 : decide ((2 : Int) < (n : Int)) = true := by simp; omega
  clear ha hes h
  go_enter Tryz.func104, Tryz.ntmps104
  go_wp2
  go_quiet (fail)
  go_wp2
  go_ret3
  exact ⟨a, HA.out, rfl, (Only.refl _ _).drewN _⟩
theorem mdParse_kind (hes : ErrsOf w mdSel es) (cap : Nat) (hs : Src w A 2 [x, y]) (h : x.toNat ≠ 1) :
    Calls Tryz.prog 104 #[.slice A 2 cap] w fun e w' => ∃ a, es[8]? = some a ∧ e = .returned (.tuple #[.int .i64 0, .bool false, errV a]) ∧ Only (fun _ => False) w w' := by
  obtain ⟨a, ha, hc⟩ := hes.get 8 0 (by decide) rfl
  unfold errV at hc
  have HA := Lib.hid ha
  obtain ⟨ad, rfl, c0, c1⟩ := hs.pair
  have e1 : ((x.toNat : Int) == 1) = false := by simp; omega
  have e2 : ((x.toNat : Int) != 1) = true := by simp; omega
  clear ha hes hs h
  go_enter Tryz.func104, Tryz.ntmps104
  go_wp2
  go_quiet (fail)
  go_wp2
  go_ret3
  exact ⟨a, HA.out, rfl, (Only.refl _ _).drewN _⟩
theorem mdParse_form (hes : ErrsOf w mdSel es) (cap : Nat) (hs : Src w A 2 [x, y]) (h : x.toNat = 1) (hm : isMask (clr y.toNat) = false) :
    Calls Tryz.prog 104 #[.slice A 2 cap] w fun e w' => ∃ a, es[4]? = some a ∧ e = .returned (.tuple #[.int .i64 0, .bool false, errV a]) ∧ Only (fun _ => False) w w' := by
  obtain ⟨a, ha, hc⟩ := hes.get 4 5 (by decide) rfl
  unfold errV at hc
  have HA := Lib.hid ha
  obtain ⟨ad, rfl, c0, c1⟩ := hs.pair
  rw [h] at c0
  have hy := y.toNat_lt
  have hb := clr_bits y.toNat hy
  have hin := clr_in y.toNat hy
  have HR := Lib.hid (fun W => mdRight_any W (m := clr y.toNat) ⟨by omega, by omega⟩)
  rw [hm] at HR
  generalize y.toNat = z at *
  generalize clr z = q at *
  clear ha hes hs h hm
  go_enter Tryz.func104, Tryz.ntmps104
  go_wp2_with (go_at_call 108; (with_reducible refine (HR.out _).mono ?_); rintro e w1 ⟨rfl, e1⟩; subst w1)
  go_quiet (fail)
  go_wp2
  go_ret3
  exact ⟨a, HA.out, rfl, (Only.refl _ _).drewN _⟩
theorem mdParse_ok (cap : Nat) (hs : Src w A 2 [x, y]) (h : x.toNat = 1) (hm : isMask (clr y.toNat) = true) :
    Calls Tryz.prog 104 #[.slice A 2 cap] w fun e w' => e = .returned (.tuple #[.int .i64 (clr y.toNat), .bool (ackB y.toNat), .nilIface]) ∧ Only (fun _ => False) w w' := by
  obtain ⟨ad, rfl, c0, c1⟩ := hs.pair
  rw [h] at c0
  have hy := y.toNat_lt
  have hb := clr_bits y.toNat hy
  have hin := clr_in y.toNat hy
  have hne := ack_ne y.toNat hy
  have HR := Lib.hid (fun W => mdRight_any W (m := clr y.toNat) ⟨by omega, by omega⟩)
  rw [hm] at HR
  generalize y.toNat = z at *
  generalize clr z = q at *
  generalize ackB z = k at *
  clear hs h hm
  go_enter Tryz.func104, Tryz.ntmps104
  go_wp2_with (go_at_call 108; (with_reducible refine (HR.out _).mono ?_); rintro e w1 ⟨rfl, e1⟩; subst w1)
  go_ret3
  exact ⟨rfl, Only.refl _ _⟩
/-- Parse of any bytes. -/
theorem mdParse_any (hes : ErrsOf w mdSel es) (cap : Nat) (hs : Src w A n b) :
    ∃ E, ErrV es E (saysM b).2.2 ∧ Calls Tryz.prog 104 #[.slice A n cap] w fun e w' => e = .returned (.tuple #[.int .i64 (saysM b).1, .bool (saysM b).2.1, E]) ∧ Only (fun _ => False) w w' := by
  have key : ∀ (i : Nat) (hi : i ∈ mdSel) (g : Nat), errIds[i]? = some g → saysM b = (0, false, i + 1) → (Calls Tryz.prog 104 #[.slice A n cap] w fun e w' => ∃ a, es[i]? = some a ∧ e = .returned (.tuple #[.int .i64 0, .bool false, errV a]) ∧ Only (fun _ => False) w w') →
      ∃ E, ErrV es E (saysM b).2.2 ∧ Calls Tryz.prog 104 #[.slice A n cap] w fun e w' => e = .returned (.tuple #[.int .i64 (saysM b).1, .bool (saysM b).2.1, E]) ∧ Only (fun _ => False) w w' := by
    intro i hi g hg hb h
    obtain ⟨a, ha, _⟩ := hes.get i g hi hg
    rw [hb]
    refine ⟨errV a, ErrV.err ha _ rfl, h.mono ?_⟩
    rintro e w' ⟨a', ha', rfl, ho⟩
    rw [ha] at ha'
    injection ha' with ha'
    subst ha'
    exact ⟨rfl, ho⟩
  have hl := hs.1
  match b, hl, hs, key with
  | [], hl, hs, key => exact key 2 (by decide) _ rfl rfl (mdParse_short hes A n cap (by simp at hl; omega))
  | [_], hl, hs, key => exact key 2 (by decide) _ rfl rfl (mdParse_short hes A n cap (by simp at hl; omega))
  | [x, y], hl, hs, key =>
    obtain rfl : n = 2 := by simpa using hl.symm
    by_cases h : x.toNat = 1
    · cases hm : isMask (clr y.toNat) with
      | false => exact key 4 (by decide) _ rfl (by simp [saysM, h, hm]) (mdParse_form hes cap hs h hm)
      | true =>
        have hb : saysM [x, y] = (clr y.toNat, ackB y.toNat, 0) := by simp [saysM, h, hm]
        rw [hb]
        exact ⟨_, ErrV.nil es, mdParse_ok cap hs h hm⟩
    · exact key 8 (by decide) _ rfl (by simp [saysM, h]) (mdParse_kind hes cap hs h)
  | x :: y :: z :: r, hl, hs, key => exact key 3 (by decide) _ rfl rfl (mdParse_long hes A n cap (by simp at hl; omega))
end
end Go.Proofs.YtlmkpembccehkaaGreatDoor
/- Heads and tails: Set, and both ways to hear. -/
namespace Go.Proofs.YtlmkpembccehkaaGreatDoor
open Go Go.RowKit
set_option maxRecDepth 100000
set_option maxHeartbeats 4000000

/-- What Set answers: the error's number. -/
def setNum (m hm : Int) (wt : Bool) : Nat := if isMask m then (if wt then 10 else if hm = m then 8 else 0) else 5
/-- What a head that hears answers. -/
def hearNum (b : List UInt8) (wt : Bool) : Nat := if (saysM b).2.2 = 0 then (if (saysM b).2.1 && wt then 0 else 10) else (saysM b).2.2
/-- What a tail that hears answers. -/
def takeNum (b : List UInt8) : Nat := if (saysM b).2.2 = 0 then (if (saysM b).2.1 then 10 else 0) else (saysM b).2.2

section
variable {w : World} {es : List Addr} {A : Option Addr} {n : Nat} {b : List UInt8} {p q : Nat} {m hm can tm : Int} {wt : Bool}
theorem ErrV.is_err {E : Value} {k : Nat} (h : ErrV es E k) (hk : k ≠ 0) : ∃ a, E = .iface 191 (.pointer (some a)) := by
  rcases h with ⟨rfl, _⟩ | ⟨i, a, _, _, rfl⟩
  · exact absurd rfl hk
  · exact ⟨a, rfl⟩
theorem HdAt.lt (h : HdAt w p m wt) : p < w.heap.size := Blk.lt h
theorem TlAt.lt (h : TlAt w q can m) : q < w.heap.size := Blk.lt h
theorem HdAt.same {w' : World} (h : HdAt w p m wt) (ho : Only (fun _ => False) w w') : HdAt w' p m wt := Blk.only h ho (fun h => h)
theorem TlAt.same {w' : World} (h : TlAt w q can m) (ho : Only (fun _ => False) w w') : TlAt w' q can m := Blk.only h ho (fun h => h)
theorem HdAt.far {w' : World} (h : HdAt w p m wt) (ho : Only (· = q) w w') (hne : p ≠ q) : HdAt w' p m wt := Blk.only h ho hne
theorem TlAt.far {w' : World} (h : TlAt w q can m) (ho : Only (· = p) w w') (hne : q ≠ p) : TlAt w' q can m := Blk.only h ho hne

theorem mdHear_bad (hes : ErrsOf w mdSel es) (hh : HdAt w p hm wt) (cap : Nat) (hs : Src w A n b) (hn : hearNum b wt ≠ 0) :
    Calls Tryz.prog 93 #[.pointer (some ⟨p, 0, none⟩), .slice A n cap] w fun e w' => ∃ E, ErrV es E (hearNum b wt) ∧ e = .returned E ∧ Only (fun _ => False) w w' := by
  obtain ⟨E, hE, hP⟩ := mdParse_any hes cap hs
  have HP := Lib.hid hP
  unfold hearNum at hn ⊢
  by_cases hz : (saysM b).2.2 = 0
  · rw [if_pos hz] at hn ⊢
    rw [hz] at hE
    obtain rfl : E = .nilIface := by
      rcases hE with ⟨_, h⟩ | ⟨i, _, h, _⟩
      · exact h
      · omega
    obtain ⟨a, ha, hc⟩ := hes.get 9 8 (by decide) rfl
    have hc' : ∀ W, Only (fun _ => False) w W → W.cell? ⟨8, 0, none⟩ = some (.iface 191 (.pointer (some a))) := fun W ho => ho.cellv hc (fun h => h)
    have HC := Lib.hid hc'
    have HA : Hid (ErrV es (errV a) 10) := ErrV.err ha 10 rfl
    have HB : Hid (∀ W, Only (fun _ => False) w W → W.cell? ⟨p, 1, none⟩ = some (.bool wt)) := fun W ho => Blk.cell (hh.same ho) 1
    generalize (saysM b).1 = z at *
    generalize (saysM b).2.1 = k at *
    have hkw : (k && wt) = false := by
      cases h : (k && wt) with
      | false => rfl
      | true => rw [h] at hn; simp at hn
    rw [hkw, if_neg (by simp)]
    clear hn hz hE hP hes ha hc hc' hh hs
    cases k <;> cases wt
    case true.true => cases hkw
    all_goals
      clear hkw
      go_enter Tryz.func93, Tryz.ntmps93
      go_wp2_with (go_at_call 104; (with_reducible refine HP.out.mono ?_); rintro e w1 ⟨rfl, ho1⟩; have HO1 := Lib.hid ho1; have c1 := HB.out _ ho1; have c2 := HC.out _ ho1; clear ho1)
      go_ret
      exact ⟨_, HA.out, rfl, HO1.out⟩
  · rw [if_neg hz] at hn ⊢
    obtain ⟨a, rfl⟩ := hE.is_err hn
    have HE := Lib.hid hE
    generalize (saysM b).1 = z at *
    generalize (saysM b).2.1 = k at *
    generalize (saysM b).2.2 = y at *
    clear hn hz hE hP hes hh hs
    go_enter Tryz.func93, Tryz.ntmps93
    go_wp2_with (go_at_call 104; (with_reducible refine HP.out.mono ?_); rintro e w1 ⟨rfl, ho1⟩; have HO1 := Lib.hid ho1; clear ho1)
    go_ret
    exact ⟨_, HE.out, rfl, HO1.out⟩

theorem mdHear_ok (hes : ErrsOf w mdSel es) (hh : HdAt w p hm wt) (cap : Nat) (hs : Src w A n b) (hn : hearNum b wt = 0) :
    Calls Tryz.prog 93 #[.pointer (some ⟨p, 0, none⟩), .slice A n cap] w fun e w' => e = .returned .nilIface ∧ Hid (HdAt w' p (saysM b).1 false) ∧ Hid (Only (· = p) w w') := by
  obtain ⟨E, hE, hP⟩ := mdParse_any hes cap hs
  have HP := Lib.hid hP
  unfold hearNum at hn
  by_cases hz : (saysM b).2.2 = 0
  · rw [if_pos hz] at hn
    rw [hz] at hE
    obtain rfl : E = .nilIface := by
      rcases hE with ⟨_, h⟩ | ⟨i, _, h, _⟩
      · exact h
      · omega
    have HH := Lib.hid hh
    generalize (saysM b).1 = z at *
    generalize (saysM b).2.1 = k at *
    obtain ⟨rfl, rfl⟩ : k = true ∧ wt = true := by
      cases k <;> cases wt <;> simp at hn ⊢
    have hlt := hh.lt
    clear hn hz hE hP hes hh hs
    go_enter Tryz.func93, Tryz.ntmps93
    go_wp2_with (go_at_call 104; (with_reducible refine HP.out.mono ?_); rintro e w1 ⟨rfl, ho1⟩; have HO1 := Lib.hid ho1; have HB1 := Lib.hid (HH.out.same ho1); have c0 := Blk.cell HB1.out 0; have c1 := Blk.cell HB1.out 1; have f0 := Blk.frozen HB1.out 0; have f1 := Blk.frozen HB1.out 1; simp only [List.getElem?_cons_zero, List.getElem?_cons_succ] at c0 c1; clear ho1)
    go_ret
    refine ⟨rfl, ?_, ?_⟩
    · exact (Blk.setCell HB1.out 0 (.int .i64 z)).setCell 1 (.bool false)
    · exact Only.setCell (S := (· = p)) (p := ⟨p, 1, none⟩) (Only.setCell (S := (· = p)) (p := ⟨p, 0, none⟩) (HO1.out.mono (fun _ h => h.elim)) (.inl rfl) _) (.inl rfl) _
  · rw [if_neg hz] at hn
    exact absurd hn hz

theorem mdTake_bad (hes : ErrsOf w mdSel es) (cap : Nat) (hs : Src w A n b) (hn : takeNum b ≠ 0) :
    Calls Tryz.prog 92 #[.pointer (some ⟨q, 0, none⟩), .slice A n cap] w fun e w' => ∃ E, ErrV es E (takeNum b) ∧ e = .returned (.tuple #[.slice none 0 0, E]) ∧ Only (fun _ => False) w w' := by
  obtain ⟨E, hE, hP⟩ := mdParse_any hes cap hs
  have HP := Lib.hid hP
  unfold takeNum at hn ⊢
  by_cases hz : (saysM b).2.2 = 0
  · rw [if_pos hz] at hn ⊢
    rw [hz] at hE
    obtain rfl : E = .nilIface := by
      rcases hE with ⟨_, h⟩ | ⟨i, _, h, _⟩
      · exact h
      · omega
    obtain ⟨a, ha, hc⟩ := hes.get 9 8 (by decide) rfl
    have hc' : ∀ W, Only (fun _ => False) w W → W.cell? ⟨8, 0, none⟩ = some (.iface 191 (.pointer (some a))) := fun W ho => ho.cellv hc (fun h => h)
    have HC := Lib.hid hc'
    have HA : Hid (ErrV es (errV a) 10) := ErrV.err ha 10 rfl
    generalize (saysM b).1 = z at *
    generalize (saysM b).2.1 = k at *
    obtain rfl : k = true := by
      cases k <;> simp at hn ⊢
    rw [if_pos rfl]
    clear hn hz hE hP hes ha hc hc' hs
    go_enter Tryz.func92, Tryz.ntmps92
    go_wp2_with (go_at_call 104; (with_reducible refine HP.out.mono ?_); rintro e w1 ⟨rfl, ho1⟩; have HO1 := Lib.hid ho1; have c2 := HC.out _ ho1; clear ho1)
    go_quiet (fail)
    go_wp2
    go_ret2
    exact ⟨_, HA.out, rfl, HO1.out.drewN _⟩
  · rw [if_neg hz] at hn ⊢
    obtain ⟨a, rfl⟩ := hE.is_err hn
    have HE := Lib.hid hE
    generalize (saysM b).1 = z at *
    generalize (saysM b).2.1 = k at *
    generalize (saysM b).2.2 = y at *
    clear hn hz hE hP hes hs
    go_enter Tryz.func92, Tryz.ntmps92
    go_wp2_with (go_at_call 104; (with_reducible refine HP.out.mono ?_); rintro e w1 ⟨rfl, ho1⟩; have HO1 := Lib.hid ho1; clear ho1)
    go_ret2
    exact ⟨_, HE.out, rfl, HO1.out⟩

theorem mdTake_ok (hes : ErrsOf w mdSel es) (hh : TlAt w q can tm) (hcan : isMask can = true) (cap : Nat) (hs : Src w A n b) (hn : takeNum b = 0) :
    Calls Tryz.prog 92 #[.pointer (some ⟨q, 0, none⟩), .slice A n cap] w fun e w' => ∃ N, e = .returned (.tuple #[.slice (some ⟨N, 0, none⟩) 2 2, .nilIface]) ∧ Hid (w.heap.size ≤ N) ∧ Hid (Src w' (some ⟨N, 0, none⟩) 2 (bodyM (both (saysM b).1 can + 4))) ∧ Hid (TlAt w' q can (both (saysM b).1 can)) ∧ Hid (Only (· = q) w w') := by
  obtain ⟨E, hE, hP⟩ := mdParse_any hes cap hs
  have HP := Lib.hid hP
  unfold takeNum at hn
  by_cases hz : (saysM b).2.2 = 0
  · rw [if_pos hz] at hn
    rw [hz] at hE
    obtain rfl : E = .nilIface := by
      rcases hE with ⟨_, h⟩ | ⟨i, _, h, _⟩
      · exact h
      · omega
    have hm := saysM_mask hz
    have HH := Lib.hid hh
    generalize (saysM b).1 = z at *
    generalize (saysM b).2.1 = k at *
    obtain rfl : k = false := by
      cases k <;> simp at hn ⊢
    have ha := and_both hm hcan
    have hbm := both_mask hm hcan
    have ho4 := or_four hbm
    have hb := isMask_iff.1 hbm
    generalize both z can = y at *
    have HTl := Lib.hid (fun W => mdTell_any W (m := y + 4) (by omega) (by omega))
    clear hn hz hE hP hes hh hs hm hcan hbm hb
    go_enter Tryz.func92, Tryz.ntmps92
    go_wp2_with (first
      | (go_at_call 104; (with_reducible refine HP.out.mono ?_); rintro e w1 ⟨rfl, ho1⟩; have HO1 := Lib.hid ho1; have HB1 := Lib.hid (HH.out.same ho1); have c0 := Blk.cell HB1.out 0; have c1 := Blk.cell HB1.out 1; have f0 := Blk.frozen HB1.out 0; have f1 := Blk.frozen HB1.out 1; simp only [List.getElem?_cons_zero, List.getElem?_cons_succ] at c0 c1; have hlt := HB1.out.lt; clear ho1)
      | (go_at_call 105; (with_reducible refine (HTl.out _).mono ?_); rintro e w2 ⟨rfl, hs2, ho2⟩))
    go_ret2
    have hO1 : Only (· = q) w (w1.setCell ⟨q, 1, none⟩ (.int .i64 y)) := Only.setCell (S := (· = q)) (p := ⟨q, 1, none⟩) (HO1.out.mono (fun _ h => h.elim)) (.inl rfl) _
    refine ⟨_, rfl, ?_, ?_, ?_, hO1.trans ho2.out (fun _ h => h.elim)⟩
    · exact HO1.out.size
    · have h := hs2.out
      rw [setCell_size] at h
      exact h
    · exact Blk.only (Blk.setCell HB1.out 1 (.int .i64 y)) ho2.out (fun h => h)
  · rw [if_neg hz] at hn
    exact absurd hn hz
end
end Go.Proofs.YtlmkpembccehkaaGreatDoor
/- Within a block: heads (from place 108 on) and tails (from place 110 on): Hear, Mask, Waits. -/
namespace Go.Proofs.YtlmkpembccehkaaGreatDoor
open Go Go.RowKit
set_option maxRecDepth 100000
set_option maxHeartbeats 4000000

/-- A head, in a block. -/
@[reducible] def HeIn (w : World) (p : Nat) (t : TypeId) (pre post : List Value) (m : Int) (b : Bool) : Prop := InB w p t pre post 108 [.int .i64 m, .bool b]
/-- A tail. -/
@[reducible] def TaIn (w : World) (q : Nat) (t : TypeId) (pre post : List Value) (can m : Int) : Prop := InB w q t pre post 110 [.int .i64 can, .int .i64 m]
section
variable {w : World} {es : List Addr} {A : Option Addr} {n : Nat} {b : List UInt8} {p q : Nat} {m hm can tm : Int} {wt : Bool} {t : TypeId} {pre post : List Value}
theorem heMask_any (h : HeIn w p t pre post m wt) : Calls Tryz.prog 31 #[.pointer (some ⟨p, 108, none⟩)] w fun e w' => e = .returned (.int .i64 m) ∧ w' = w := by
  have c0 : w.cell? ⟨p, 108, none⟩ = some (.int .i64 m) := h.val (i := 0) rfl
  clear h
  go_enter Tryz.func31, Tryz.ntmps31
  go_wp2
  go_ret
  exact ⟨rfl, rfl⟩
theorem heWaits_any (h : HeIn w p t pre post m wt) : Calls Tryz.prog 34 #[.pointer (some ⟨p, 108, none⟩)] w fun e w' => e = .returned (.bool wt) ∧ w' = w := by
  have c1 : w.cell? ⟨p, 109, none⟩ = some (.bool wt) := h.val (i := 1) rfl
  clear h
  go_enter Tryz.func34, Tryz.ntmps34
  go_wp2
  go_ret
  exact ⟨rfl, rfl⟩
theorem taMask_any (h : TaIn w q t pre post can m) : Calls Tryz.prog 32 #[.pointer (some ⟨q, 110, none⟩)] w fun e w' => e = .returned (.int .i64 m) ∧ w' = w := by
  have c1 : w.cell? ⟨q, 111, none⟩ = some (.int .i64 m) := h.val (i := 1) rfl
  clear h
  go_enter Tryz.func32, Tryz.ntmps32
  go_wp2
  go_ret
  exact ⟨rfl, rfl⟩
theorem heHear_bad (hes : ErrsOf w mdSel es) (hh : HeIn w p t pre post hm wt) (cap : Nat) (hs : Src w A n b) (hn : hearNum b wt ≠ 0) :
    Calls Tryz.prog 93 #[.pointer (some ⟨p, 108, none⟩), .slice A n cap] w fun e w' => ∃ E, ErrV es E (hearNum b wt) ∧ e = .returned E ∧ Only (fun _ => False) w w' := by
  obtain ⟨E, hE, hP⟩ := mdParse_any hes cap hs
  have HP := Lib.hid hP
  unfold hearNum at hn ⊢
  by_cases hz : (saysM b).2.2 = 0
  · rw [if_pos hz] at hn ⊢
    rw [hz] at hE
    obtain rfl : E = .nilIface := by
      rcases hE with ⟨_, h⟩ | ⟨i, _, h, _⟩
      · exact h
      · omega
    obtain ⟨a, ha, hc⟩ := hes.get 9 8 (by decide) rfl
    have hc' : ∀ W, Only (fun _ => False) w W → W.cell? ⟨8, 0, none⟩ = some (.iface 191 (.pointer (some a))) := fun W ho => ho.cellv hc (fun h => h)
    have HC := Lib.hid hc'
    have HA : Hid (ErrV es (errV a) 10) := ErrV.err ha 10 rfl
    have HB : Hid (∀ W, Only (fun _ => False) w W → W.cell? ⟨p, 109, none⟩ = some (.bool wt)) := fun W ho => (hh.same ho).val (i := 1) rfl
    generalize (saysM b).1 = z at *
    generalize (saysM b).2.1 = k at *
    have hkw : (k && wt) = false := by
      cases h : (k && wt) with
      | false => rfl
      | true => rw [h] at hn; simp at hn
    rw [hkw, if_neg (by simp)]
    clear hn hz hE hP hes ha hc hc' hh hs
    cases k <;> cases wt
    case true.true => cases hkw
    all_goals
      clear hkw
      go_enter Tryz.func93, Tryz.ntmps93
      go_wp2_with (go_at_call 104; (with_reducible refine HP.out.mono ?_); rintro e w1 ⟨rfl, ho1⟩; have HO1 := Lib.hid ho1; have c1 := HB.out _ ho1; have c2 := HC.out _ ho1; clear ho1)
      go_ret
      exact ⟨_, HA.out, rfl, HO1.out⟩
  · rw [if_neg hz] at hn ⊢
    obtain ⟨a, rfl⟩ := hE.is_err hn
    have HE := Lib.hid hE
    generalize (saysM b).1 = z at *
    generalize (saysM b).2.1 = k at *
    generalize (saysM b).2.2 = y at *
    clear hn hz hE hP hes hh hs
    go_enter Tryz.func93, Tryz.ntmps93
    go_wp2_with (go_at_call 104; (with_reducible refine HP.out.mono ?_); rintro e w1 ⟨rfl, ho1⟩; have HO1 := Lib.hid ho1; clear ho1)
    go_ret
    exact ⟨_, HE.out, rfl, HO1.out⟩

theorem heHear_ok (hes : ErrsOf w mdSel es) (hh : HeIn w p t pre post hm wt) (cap : Nat) (hs : Src w A n b) (hn : hearNum b wt = 0) :
    Calls Tryz.prog 93 #[.pointer (some ⟨p, 108, none⟩), .slice A n cap] w fun e w' => e = .returned .nilIface ∧ Hid (HeIn w' p t pre post (saysM b).1 false) ∧ Hid (Only (· = p) w w') := by
  obtain ⟨E, hE, hP⟩ := mdParse_any hes cap hs
  have HP := Lib.hid hP
  unfold hearNum at hn
  by_cases hz : (saysM b).2.2 = 0
  · rw [if_pos hz] at hn
    rw [hz] at hE
    obtain rfl : E = .nilIface := by
      rcases hE with ⟨_, h⟩ | ⟨i, _, h, _⟩
      · exact h
      · omega
    have HH := Lib.hid hh
    generalize (saysM b).1 = z at *
    generalize (saysM b).2.1 = k at *
    obtain ⟨rfl, rfl⟩ : k = true ∧ wt = true := by
      cases k <;> cases wt <;> simp at hn ⊢
    have hlt := hh.lt
    clear hn hz hE hP hes hh hs
    go_enter Tryz.func93, Tryz.ntmps93
    go_wp2_with (go_at_call 104; (with_reducible refine HP.out.mono ?_); rintro e w1 ⟨rfl, ho1⟩; have HO1 := Lib.hid ho1; have HB1 := Lib.hid (HH.out.same ho1); have c0 : w1.cell? ⟨p, 108, none⟩ = some _ := HB1.out.val (i := 0) rfl; have c1 : w1.cell? ⟨p, 109, none⟩ = some _ := HB1.out.val (i := 1) rfl; have f0 := HB1.out.frozen 108; have f1 := HB1.out.frozen 109; clear ho1)
    go_ret
    refine ⟨rfl, ?_, ?_⟩
    · exact (HB1.out.setCell (i := 0) (by simp) (.int .i64 z)).setCell (i := 1) (by simp) (.bool false)
    · exact Only.setCell (S := (· = p)) (p := ⟨p, 109, none⟩) (Only.setCell (S := (· = p)) (p := ⟨p, 108, none⟩) (HO1.out.mono (fun _ h => h.elim)) (.inl rfl) _) (.inl rfl) _
  · rw [if_neg hz] at hn
    exact absurd hn hz

theorem taHear_bad (hes : ErrsOf w mdSel es) (cap : Nat) (hs : Src w A n b) (hn : takeNum b ≠ 0) :
    Calls Tryz.prog 92 #[.pointer (some ⟨q, 110, none⟩), .slice A n cap] w fun e w' => ∃ E, ErrV es E (takeNum b) ∧ e = .returned (.tuple #[.slice none 0 0, E]) ∧ Only (fun _ => False) w w' := by
  obtain ⟨E, hE, hP⟩ := mdParse_any hes cap hs
  have HP := Lib.hid hP
  unfold takeNum at hn ⊢
  by_cases hz : (saysM b).2.2 = 0
  · rw [if_pos hz] at hn ⊢
    rw [hz] at hE
    obtain rfl : E = .nilIface := by
      rcases hE with ⟨_, h⟩ | ⟨i, _, h, _⟩
      · exact h
      · omega
    obtain ⟨a, ha, hc⟩ := hes.get 9 8 (by decide) rfl
    have hc' : ∀ W, Only (fun _ => False) w W → W.cell? ⟨8, 0, none⟩ = some (.iface 191 (.pointer (some a))) := fun W ho => ho.cellv hc (fun h => h)
    have HC := Lib.hid hc'
    have HA : Hid (ErrV es (errV a) 10) := ErrV.err ha 10 rfl
    generalize (saysM b).1 = z at *
    generalize (saysM b).2.1 = k at *
    obtain rfl : k = true := by
      cases k <;> simp at hn ⊢
    rw [if_pos rfl]
    clear hn hz hE hP hes ha hc hc' hs
    go_enter Tryz.func92, Tryz.ntmps92
    go_wp2_with (go_at_call 104; (with_reducible refine HP.out.mono ?_); rintro e w1 ⟨rfl, ho1⟩; have HO1 := Lib.hid ho1; have c2 := HC.out _ ho1; clear ho1)
    go_quiet (fail)
    go_wp2
    go_ret2
    exact ⟨_, HA.out, rfl, HO1.out.drewN _⟩
  · rw [if_neg hz] at hn ⊢
    obtain ⟨a, rfl⟩ := hE.is_err hn
    have HE := Lib.hid hE
    generalize (saysM b).1 = z at *
    generalize (saysM b).2.1 = k at *
    generalize (saysM b).2.2 = y at *
    clear hn hz hE hP hes hs
    go_enter Tryz.func92, Tryz.ntmps92
    go_wp2_with (go_at_call 104; (with_reducible refine HP.out.mono ?_); rintro e w1 ⟨rfl, ho1⟩; have HO1 := Lib.hid ho1; clear ho1)
    go_ret2
    exact ⟨_, HE.out, rfl, HO1.out⟩

theorem taHear_ok (hes : ErrsOf w mdSel es) (hh : TaIn w q t pre post can tm) (hcan : isMask can = true) (cap : Nat) (hs : Src w A n b) (hn : takeNum b = 0) :
    Calls Tryz.prog 92 #[.pointer (some ⟨q, 110, none⟩), .slice A n cap] w fun e w' => ∃ N, e = .returned (.tuple #[.slice (some ⟨N, 0, none⟩) 2 2, .nilIface]) ∧ Hid (w.heap.size ≤ N) ∧ Hid (Src w' (some ⟨N, 0, none⟩) 2 (bodyM (both (saysM b).1 can + 4))) ∧ Hid (TaIn w' q t pre post can (both (saysM b).1 can)) ∧ Hid (Only (· = q) w w') := by
  obtain ⟨E, hE, hP⟩ := mdParse_any hes cap hs
  have HP := Lib.hid hP
  unfold takeNum at hn
  by_cases hz : (saysM b).2.2 = 0
  · rw [if_pos hz] at hn
    rw [hz] at hE
    obtain rfl : E = .nilIface := by
      rcases hE with ⟨_, h⟩ | ⟨i, _, h, _⟩
      · exact h
      · omega
    have hm := saysM_mask hz
    have HH := Lib.hid hh
    generalize (saysM b).1 = z at *
    generalize (saysM b).2.1 = k at *
    obtain rfl : k = false := by
      cases k <;> simp at hn ⊢
    have ha := and_both hm hcan
    have hbm := both_mask hm hcan
    have ho4 := or_four hbm
    have hb := isMask_iff.1 hbm
    generalize both z can = y at *
    have HTl := Lib.hid (fun W => mdTell_any W (m := y + 4) (by omega) (by omega))
    clear hn hz hE hP hes hh hs hm hcan hbm hb
    go_enter Tryz.func92, Tryz.ntmps92
    go_wp2_with (first
      | (go_at_call 104; (with_reducible refine HP.out.mono ?_); rintro e w1 ⟨rfl, ho1⟩; have HO1 := Lib.hid ho1; have HB1 := Lib.hid (HH.out.same ho1); have c0 : w1.cell? ⟨q, 110, none⟩ = some _ := HB1.out.val (i := 0) rfl; have c1 : w1.cell? ⟨q, 111, none⟩ = some _ := HB1.out.val (i := 1) rfl; have f0 := HB1.out.frozen 110; have f1 := HB1.out.frozen 111; have hlt := HB1.out.lt; clear ho1)
      | (go_at_call 105; (with_reducible refine (HTl.out _).mono ?_); rintro e w2 ⟨rfl, hs2, ho2⟩))
    go_ret2
    have hO1 : Only (· = q) w (w1.setCell ⟨q, 111, none⟩ (.int .i64 y)) := Only.setCell (S := (· = q)) (p := ⟨q, 111, none⟩) (HO1.out.mono (fun _ h => h.elim)) (.inl rfl) _
    refine ⟨_, rfl, ?_, ?_, ?_, hO1.trans ho2.out (fun _ h => h.elim)⟩
    · exact HO1.out.size
    · have h := hs2.out
      rw [setCell_size] at h
      exact h
    · exact (HB1.out.setCell (i := 1) (by simp) (.int .i64 y)).same ho2.out
  · rw [if_neg hz] at hn
    exact absurd hn hz
end
end Go.Proofs.YtlmkpembccehkaaGreatDoor
