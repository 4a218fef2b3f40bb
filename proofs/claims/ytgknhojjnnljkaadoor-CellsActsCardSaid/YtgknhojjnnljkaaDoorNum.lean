/- truchmannum.Num of each of the sixteen errors: its number. -/
import Derived.Test.YtgknhojjnnljkaaDoorErrs
namespace Go.Proofs.YtgknhojjnnljkaaDoor
open Go Go.RowKit

theorem num_err {W : World} {es : List Addr} (h : ErrsAt W es) (i : Nat) (a : Addr) (ha : es[i]? = some a) :
    Calls Tryd.prog 9 #[errV a] W fun e w' => e = .returned (.int .i64 ((i + 1 : Nat) : Int)) ∧ Only (fun _ => False) W w' := by
  have H := Lib.hid h
  have HA := Lib.hid ha
  have C := Lib.hid (errsAll_any h)
  have hi : i < 16 := by have := (List.getElem?_eq_some_iff.1 ha).1; have := h.len; omega
  clear h ha
  unfold errV
  go_enter Tryd.func9, Tryd.ntmps9
  go_wp2_with fail
  refine C.out.mono ?_
  rintro e w1 ⟨rfl, hb, ho⟩
  have hrel0 : Only (fun _ => False) W w1 ∧ Blk w1 W.heap.size 27 (es.map errV) := ⟨ho, hb⟩
  clear ho hb C
  generalize W.heap.size = N at *
  go_wp2_with fail
  go_loopw [9] (fun j w => ∃ k : Nat, k ≤ i ∧ j = .int .i64 (k : Int) ∧ Hid (Only (fun _ => False) W w ∧ Blk w N 27 (es.map errV))) (fun j _ => 16 - (intOf j).toNat)
  case atStart => exact ⟨0, Nat.zero_le _, rfl, hrel0⟩
  case round =>
    clear hrel0
    obtain ⟨k, hk, rfl, hrel⟩ := hrel
    have hk16 : k < 16 := by omega
    obtain ⟨b, hb⟩ : ∃ b, es[k]? = some b := ⟨_, List.getElem?_eq_getElem (by rw [H.out.len]; exact hk16)⟩
    have HB := Lib.hid hb
    have c : wr.cell? ⟨N, k, none⟩ = some (.iface 118 (.pointer (some b))) := by
      rw [hrel.out.2.cell, List.getElem?_map, hb]; rfl
    have HE := Lib.hid (H.out.only hrel.out.1)
    clear hb
    by_cases hlt : k < i
    · have hne : a ≠ b := by
        rintro rfl
        have h1 := HA.out
        rw [← HB.out] at h1
        have := (List.getElem?_inj (by rw [H.out.len]; omega) H.out.nodup).1 h1
        omega
      have C := Lib.hid (is_other a b wr hne (HE.out.row i a HA.out) (HE.out.row k b HB.out))
      clear hne
      unfold errV at C
      go_wp2_with (go_at_call 26; refine C.out.mono ?_; rintro e w' ⟨rfl, rfl⟩)
      go_roundw
      case rel => exact ⟨k + 1, by omega, by go_num, hrel⟩
      case measure => simp [intOf]; omega
    · obtain rfl : k = i := by omega
      have e : a = b := by
        have h1 := HA.out
        rw [HB.out] at h1
        exact (Option.some.inj h1).symm
      subst e
      have C := Lib.hid (is_same a wr)
      unfold errV at C
      go_wp2_with (go_at_call 26; refine C.out.mono ?_; rintro e w' ⟨rfl, rfl⟩)
      go_ret
      exact ⟨rfl, hrel.out.1⟩
end Go.Proofs.YtgknhojjnnljkaaDoor
