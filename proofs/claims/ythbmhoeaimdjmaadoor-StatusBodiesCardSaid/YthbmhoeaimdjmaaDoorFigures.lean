/- truchmannum.Figures: a number's figures, of whatever number. -/
import Derived.Test.YthbmhoeaimdjmaaDoorFinish
import Derived.Test.YthbmhoeaimdjmaaDoorSum
import Derived.Lib.ItoaNum
import Derived.Lib.ItoaMem
namespace Go.Proofs.YthbmhoeaimdjmaaDoor
open Go Go.RowKit

def tenText : ByteArray := ⟨#[48, 49, 50, 51, 52, 53, 54, 55, 56, 57]⟩
theorem ten_at : ∀ r : Fin 10, tenText.extract r.val (r.val + 1) = ⟨#[UInt8.ofNat (48 + r.val)]⟩ := by decide +kernel

/-- What is told already, t, behind what is left, m. -/
def Told (n m : Nat) (t : List UInt8) : Prop := (if m = 0 then t else Lib.decDigits m ++ t) = Lib.decDigits n ∧ t.length + m ≤ n
theorem Told.next {n m : Nat} {t : List UInt8} (h : Told n m t) (hm : 0 < m) : Told n (m / 10) (UInt8.ofNat (48 + m % 10) :: t) := by
  obtain ⟨h1, h2⟩ := h
  rw [if_neg (by omega), Lib.decDigits] at h1
  refine ⟨?_, by simp; omega⟩
  by_cases hs : m < 10
  · rw [dif_pos hs] at h1
    rw [if_pos (by omega), Nat.mod_eq_of_lt hs]
    exact h1
  · rw [dif_neg hs] at h1
    rw [if_neg (by omega)]
    simpa using h1
theorem Told.done {n : Nat} {t : List UInt8} (h : Told n 0 t) : t = Lib.decDigits n := h.1

theorem Told.short {n m : Nat} {t : List UInt8} (h : Told n m t) (h0 : 0 < n) (h1 : n < 18446744073709551616) : t.length ≤ 20 := by
  have h2 := Lib.decDigits_length n
  have h3 := Lib.numDigits_eq n h0 h1
  have h4 := congrArg List.length h.1
  rw [h2] at h4
  split at h3 <;> split at h4 <;> (try rw [List.length_append] at h4) <;> omega
theorem Told.far {n m : Nat} {t : List UInt8} (h : Told n m t) : t.length + m ≤ n := h.2

theorem figures_pos (W : World) (n : Nat) (h0 : 0 < n) (h1 : n ≤ 9223372036854775807) :
    Calls Tryd.prog 58 #[.int .i64 (n : Int)] W fun e w' => e = .returned (.string ⟨(Lib.decDigits n).toArray⟩) ∧ w' = W := by
  have hb0 : ((n : Int) == 0) = false := by simp; omega
  have hb1 : decide ((n : Int) < 0) = false := by simp
  go_enter Tryd.func58, Tryd.ntmps58
  go_wp2
  go_loopw [0, 3] (fun a b w => ∃ (m : Nat) (t : List UInt8), m ≤ n ∧ a = .int .i64 (m : Int) ∧ b = .string ⟨t.toArray⟩ ∧ Hid (Told n m t) ∧ w = W) (fun a _ _ => (intOf a).toNat)
  case atStart => exact ⟨n, [], Nat.le_refl _, rfl, rfl, ⟨by rw [if_neg (by omega), List.append_nil], by simp⟩, rfl⟩
  case round =>
    obtain ⟨m, t, hm, rfl, rfl, ht, rfl⟩ := hrel
    have hfar := ht.out.far
    by_cases hz : m = 0
    · subst hz
      have hsum : ∀ w, (Op.stringOp .add (ByteArray.mk #[]) (ByteArray.mk t.toArray)).run Tryd.prog w = .ok (.string (ByteArray.mk t.toArray)) w := fun w => sum_texts [] t t rfl (by simp; omega)
      go_wp2
      go_ret
      rw [ht.out.done]
      exact ⟨rfl, rfl⟩
    · have hbz : ((m : Int) != 0) = true := by simpa using hz
      obtain ⟨bx, hbx⟩ : ∃ bx, bx = ByteArray.mk [UInt8.ofNat (48 + m % 10)].toArray := ⟨_, rfl⟩
      obtain ⟨t', ht'⟩ : ∃ t', t' = UInt8.ofNat (48 + m % 10) :: t := ⟨_, rfl⟩
      have hex : (ByteArray.mk #[48, 49, 50, 51, 52, 53, 54, 55, 56, 57]).extract (m % 10) (m % 10 + 1) = bx := by rw [hbx]; exact ten_at ⟨m % 10, by omega⟩
      have hsum : ∀ w, (Op.stringOp .add bx (ByteArray.mk t.toArray)).run Tryd.prog w = .ok (.string (ByteArray.mk t'.toArray)) w := fun w => by
        rw [hbx]
        exact sum_texts _ _ _ (by rw [ht']; rfl) (by simp; omega)
      have HT := Lib.hid (show Told n (m / 10) t' by rw [ht']; exact ht.out.next (by omega))
      clear hbx ht' ht
      go_wp2
      go_roundw
      case rel => exact ⟨m / 10, t', by omega, by go_num, rfl, HT, trivial⟩
      case measure => simp [intOf]; omega

theorem figures_neg (W : World) (n : Nat) (h0 : 0 < n) (h1 : n ≤ 9223372036854775808) :
    Calls Tryd.prog 58 #[.int .i64 (-(n : Int))] W fun e w' => e = .returned (.string ⟨(45 :: Lib.decDigits n).toArray⟩) ∧ w' = W := by
  obtain ⟨z, hz⟩ : ∃ z : Int, z = -(n : Int) := ⟨_, rfl⟩
  rw [← hz]
  have hb0 : (z == 0) = false := by simp; omega
  have hb1 : decide (z < 0) = true := by simp; omega
  have HZ := Lib.hid hz
  clear hz
  go_enter Tryd.func58, Tryd.ntmps58
  go_wp2
  go_loopw [0, 3] (fun a b w => ∃ (m : Nat) (y : Int) (t : List UInt8), m ≤ n ∧ Hid (y = -(m : Int)) ∧ a = .int .i64 y ∧ b = .string ⟨t.toArray⟩ ∧ Hid (Told n m t) ∧ w = W) (fun a _ _ => (intOf a).natAbs)
  case atStart => exact ⟨n, z, [], Nat.le_refl _, HZ, rfl, rfl, ⟨by rw [if_neg (by omega), List.append_nil], by simp⟩, rfl⟩
  case round =>
    obtain ⟨m, y, t, hm, hy, rfl, rfl, ht, rfl⟩ := hrel
    have hfar := ht.out.short h0 (by omega)
    by_cases hmz : m = 0
    · subst hmz
      obtain rfl : y = 0 := by have := hy.out; omega
      have hsum : ∀ w, (Op.stringOp .add (ByteArray.mk #[45]) (ByteArray.mk t.toArray)).run Tryd.prog w = .ok (.string (ByteArray.mk (45 :: t).toArray)) w := fun w => sum_texts [45] t (45 :: t) rfl (by simp; omega)
      clear hy
      go_wp2
      go_ret
      rw [ht.out.done]
      exact ⟨rfl, rfl⟩
    · obtain ⟨r, hr⟩ : ∃ r, r = m % 10 := ⟨_, rfl⟩
      obtain ⟨q, hq⟩ : ∃ q, q = m / 10 := ⟨_, rfl⟩
      obtain ⟨rs, hrs⟩ : ∃ rs : Int, rs = -(r : Int) := ⟨_, rfl⟩
      obtain ⟨y', hy'⟩ : ∃ y' : Int, y' = -(q : Int) := ⟨_, rfl⟩
      have hbz : (y != 0) = true := by have := hy.out; simp; omega
      have hrem : y.tmod 10 = rs := by rw [hy.out, Int.neg_tmod, Int.tmod_eq_emod_of_nonneg (by omega)]; omega
      have hquo : y.tdiv 10 = y' := by rw [hy.out, Int.neg_tdiv, Int.tdiv_eq_ediv_of_nonneg (by omega)]; omega
      obtain ⟨bx, hbx⟩ : ∃ bx, bx = ByteArray.mk [UInt8.ofNat (48 + r)].toArray := ⟨_, rfl⟩
      obtain ⟨t', ht'⟩ : ∃ t', t' = UInt8.ofNat (48 + r) :: t := ⟨_, rfl⟩
      have hex : (ByteArray.mk #[48, 49, 50, 51, 52, 53, 54, 55, 56, 57]).extract r (r + 1) = bx := by rw [hbx]; exact ten_at ⟨r, by omega⟩
      have hsum : ∀ w, (Op.stringOp .add bx (ByteArray.mk t.toArray)).run Tryd.prog w = .ok (.string (ByteArray.mk t'.toArray)) w := fun w => by
        rw [hbx]
        exact sum_texts _ _ _ (by rw [ht']; rfl) (by simp; omega)
      have HT := Lib.hid (show Told n q t' by rw [ht', hr, hq]; exact ht.out.next (by omega))
      have hr10 : r < 10 := by omega
      have hym : -9223372036854775808 ≤ y ∧ y ≤ -1 := by have := hy.out; omega
      have hym' : -9223372036854775808 ≤ y' ∧ y' ≤ 0 := by omega
      have hqm : q < m := by omega
      have HY := Lib.hid hy'
      have hma : y.natAbs = m := by have := hy.out; omega
      have hqa : y'.natAbs = q := by omega
      have HM := Lib.hid hma
      have HQ := Lib.hid hqa
      by_cases hr0 : r = 0
      · subst hr0
        obtain rfl : rs = 0 := by omega
        clear hbx ht' ht hr hq hy' hy hrs hma hqa
        go_wp2
        go_roundw
        case rel => exact ⟨q, y', t', by omega, HY, by go_num, rfl, HT, trivial⟩
        case measure =>
          have h1 := HM.out
          have h2 := HQ.out
          simp [intOf]
          omega
      · have hneg : -rs = (r : Int) := by omega
        have hrs0 : -9 ≤ rs ∧ rs ≤ -1 := by omega
        clear hbx ht' ht hr hq hy' hy hrs hma hqa
        go_wp2
        go_roundw
        case rel => exact ⟨q, y', t', by omega, HY, by go_num, rfl, HT, trivial⟩
        case measure =>
          have h1 := HM.out
          have h2 := HQ.out
          simp [intOf]
          omega

/-- Of every number. -/
theorem figuresOf_any (W : World) (n : Int) (h0 : -9223372036854775808 ≤ n) (h1 : n ≤ 9223372036854775807) :
    Calls Tryd.prog 58 #[.int .i64 n] W fun e w' => e = .returned (.string ⟨(Lib.itoa n).toArray⟩) ∧ w' = W := by
  rcases Int.lt_trichotomy n 0 with h | rfl | h
  · obtain ⟨k, rfl⟩ : ∃ k : Nat, n = -(k : Int) := ⟨n.natAbs, by omega⟩
    rw [Lib.itoa_neg k (by omega)]
    exact figures_neg W k (by omega) (by omega)
  · have e : Lib.itoa 0 = [48] := by unfold Lib.itoa; rw [if_neg (by omega), Lib.decDigits, dif_pos (by decide)]; rfl
    rw [e]
    go_enter Tryd.func58, Tryd.ntmps58
    go_wp2
    go_ret
    exact ⟨rfl, rfl⟩
  · obtain ⟨k, rfl⟩ : ∃ k : Nat, n = (k : Int) := ⟨n.toNat, by omega⟩
    rw [Lib.itoa_nonneg]
    exact figures_pos W k (by omega) (by omega)
end Go.Proofs.YthbmhoeaimdjmaaDoor
