/- What each byte does. -/
import Derived.Test.YtgknhojjnnljkaaDoorCeShow
namespace Go.Proofs.YtgknhojjnnljkaaDoor
open Go Go.RowKit
set_option maxRecDepth 100000
set_option maxHeartbeats 4000000
attribute [local go_sem] run_store_complex

section
variable {w : World} {F : Nat → Prop} {p : Nat} {s : Sc}
theorem put_shown (h : ScAt w p F s) {b : UInt8} (hb1 : 32 ≤ b.toNat) (hb2 : b.toNat ≤ 126) :
    Calls Tryd.prog 23 #[.pointer (some ⟨p, 0, none⟩), .int .u8 (b.toNat : Int)] w fun e w' => e = .returned (.tuple #[]) ∧ Hid (Goes p F (s.put b) w w') := by
  obtain ⟨rb, c0, c1, c2, f2, _⟩ := h.cells
  have hr1 := h.ok.r1
  have HS := Lib.hid (show_any h b)
  have e : s.put b = (s.mark b).step := by unfold Sc.put; rw [if_pos ⟨hb1, hb2⟩]
  rw [e]
  generalize (s.mark b).step = st at *
  generalize s.rows.length = R at *
  have i1 : ((32 : Nat) : Int) ≤ (b.toNat : Int) := by omega
  have i2 : (b.toNat : Int) ≤ 126 := by omega
  have i0 : (32 : Int) ≤ (b.toNat : Int) := by omega
  have hR : ¬ R = 0 := by omega
  clear h c0 c2 f2 e hb1 hb2 i1
  generalize b.toNat = n at *
  go_enter Tryd.func23, Tryd.ntmps23
  go_wp2_with (go_at_call 35; (with_reducible refine HS.out.mono ?_); rintro e w' ⟨rfl, hgo⟩)
  refine bodyPost_end (results_none rfl _ _ _) rfl ?_
  exact ⟨rfl, hgo⟩

theorem put_left (h : ScAt w p F s) {b : UInt8} (hb : b.toNat = 8) :
    Calls Tryd.prog 23 #[.pointer (some ⟨p, 0, none⟩), .int .u8 (b.toNat : Int)] w fun e w' => e = .returned (.tuple #[]) ∧ Hid (Goes p F (s.put b) w w') := by
  obtain ⟨rb, c0, c1, c2, f2, _⟩ := h.cells
  have hr1 := h.ok.r1
  have hx := h.ok.hx
  have hy := h.ok.hy
  have hc2 := h.ok.c2
  have hr2 := h.ok.r2
  have hadd := fun W => run_complex_sum (P := Tryd.prog) W .add (.inl rfl) 51 .f64 _ _ _ _ _ _ (c_left (show s.x < 64 by omega) (show s.y < 64 by omega))
  have HN := nearest_any (u := (s.x : Int) - 1) (v := (s.y : Int)) (by omega) (by omega) (by omega) (by omega) (show 1 ≤ s.c by omega) (show s.c ≤ 64 by omega) hr1 (show s.rows.length ≤ 64 by omega) c0 c1
  rw [show min (max ((s.x : Int) - 1) 0) ((s.c : Int) - 1) = ((s.x - 1 : Nat) : Int) from by omega, show min (max (s.y : Int) 0) ((s.rows.length : Int) - 1) = (s.y : Int) from by omega] at HN
  have HNN := Lib.hid HN
  have hG : Hid (Goes p F (s.put b) w (w.setCell ⟨p, 2, none⟩ (.complex .f64 (fl ((s.x - 1 : Nat) : Int)) (fl (s.y : Int))))) := by
    have e : s.put b = ⟨s.c, s.x - 1, s.y, s.rows⟩ := by unfold Sc.put; rw [if_neg (by omega), if_pos hb]
    rw [e]
    exact Goes.cursor h (s.x - 1) s.y (by omega) hy
  clear h c0 HN hx hy hc2 hr2
  generalize s.put b = st at *
  generalize s.rows.length = R at *
  generalize fl ((s.x - 1 : Nat) : Int) = z1 at *
  generalize fl ((s.x : Int) - 1) = z2 at *
  generalize fl (s.x : Int) = fx at *
  generalize fl (s.y : Int) = fy at *
  have hR : ¬ R = 0 := by omega
  rw [hb]
  clear hb
  go_enter Tryd.func23, Tryd.ntmps23
  go_wp2_with (go_at_call 30; (with_reducible refine HNN.out.mono ?_); rintro e w' ⟨rfl, e2⟩; subst w')
  refine bodyPost_end (results_none rfl _ _ _) rfl ?_
  exact ⟨rfl, hG⟩

theorem put_next (h : ScAt w p F s) {b : UInt8} (hb : b.toNat = 10) :
    Calls Tryd.prog 23 #[.pointer (some ⟨p, 0, none⟩), .int .u8 (b.toNat : Int)] w fun e w' => e = .returned (.tuple #[]) ∧ Hid (Goes p F (s.put b) w w') := by
  obtain ⟨rb, c0, c1, c2, f2, _⟩ := h.cells
  have hr1 := h.ok.r1
  have HS := Lib.hid (next_any h)
  have e : s.put b = s.next := by unfold Sc.put; rw [if_neg (by omega), if_neg (by omega), if_neg (by omega), if_pos hb]
  rw [e]
  clear h c0 c2 f2 e
  generalize s.next = st at *
  generalize s.rows.length = R at *
  have hR : ¬ R = 0 := by omega
  rw [hb]
  clear hb
  go_enter Tryd.func23, Tryd.ntmps23
  go_wp2_with (go_at_call 37; (with_reducible refine HS.out.mono ?_); rintro e w' ⟨rfl, hgo⟩)
  refine bodyPost_end (results_none rfl _ _ _) rfl ?_
  exact ⟨rfl, hgo⟩

theorem put_front (h : ScAt w p F s) {b : UInt8} (hb : b.toNat = 13) :
    Calls Tryd.prog 23 #[.pointer (some ⟨p, 0, none⟩), .int .u8 (b.toNat : Int)] w fun e w' => e = .returned (.tuple #[]) ∧ Hid (Goes p F (s.put b) w w') := by
  obtain ⟨rb, c0, c1, c2, f2, _⟩ := h.cells
  have hr1 := h.ok.r1
  have HF := Lib.hid (fun W => front_any (fl (s.x : Int)) (fl (s.y : Int)) W)
  have hG : Hid (Goes p F (s.put b) w (w.setCell ⟨p, 2, none⟩ (.complex .f64 0 (fl (s.y : Int))))) := by
    have e : s.put b = ⟨s.c, 0, s.y, s.rows⟩ := by unfold Sc.put; rw [if_neg (by omega), if_neg (by omega), if_neg (by omega), if_neg (by omega), if_pos hb]
    rw [e]
    have h5 := Goes.cursor h 0 s.y h.ok.c1 h.ok.hy
    rw [show ((0 : Nat) : Int) = 0 from rfl, fl_zero] at h5
    exact h5
  clear h c0
  generalize s.put b = st at *
  generalize s.rows.length = R at *
  generalize fl (s.x : Int) = fx at *
  generalize fl (s.y : Int) = fy at *
  have hR : ¬ R = 0 := by omega
  rw [hb]
  clear hb
  go_enter Tryd.func23, Tryd.ntmps23
  go_wp2_with (go_at_call 38; (with_reducible refine (HF.out _).mono ?_); rintro e w' ⟨rfl, e2⟩; subst w')
  refine bodyPost_end (results_none rfl _ _ _) rfl ?_
  exact ⟨rfl, hG⟩

theorem put_else (h : ScAt w p F s) {b : UInt8} (hb : ¬ (32 ≤ b.toNat ∧ b.toNat ≤ 126)) (h1 : b.toNat ≠ 8) (h2 : b.toNat ≠ 9) (h3 : b.toNat ≠ 10) (h4 : b.toNat ≠ 13) (h5 : b.toNat ≠ 12) :
    Calls Tryd.prog 23 #[.pointer (some ⟨p, 0, none⟩), .int .u8 (b.toNat : Int)] w fun e w' => e = .returned (.tuple #[]) ∧ Hid (Goes p F (s.put b) w w') := by
  obtain ⟨rb, c0, c1, c2, f2, _⟩ := h.cells
  have hr1 := h.ok.r1
  have hG : Hid (Goes p F (s.put b) w w) := by
    have e : s.put b = s := by unfold Sc.put; rw [if_neg hb, if_neg h1, if_neg h2, if_neg h3, if_neg h4, if_neg h5]
    rw [e]
    exact Goes.refl h
  clear h c0 c2 f2
  generalize s.put b = st at *
  generalize s.rows.length = R at *
  have hR : ¬ R = 0 := by omega
  have i1 : ¬ (b.toNat : Int) = 8 := by omega
  have i2 : ¬ (b.toNat : Int) = 9 := by omega
  have i3 : ¬ (b.toNat : Int) = 10 := by omega
  have i4 : ¬ (b.toNat : Int) = 13 := by omega
  have i5 : ¬ (b.toNat : Int) = 12 := by omega
  by_cases hlo : 32 ≤ b.toNat
  · have i6 : (32 : Int) ≤ (b.toNat : Int) := by omega
    have i7 : ¬ (b.toNat : Int) ≤ 126 := by omega
    clear h1 h2 h3 h4 h5 hb hlo
    generalize b.toNat = n at *
    go_enter Tryd.func23, Tryd.ntmps23
    go_wp2
    refine bodyPost_end (results_none rfl _ _ _) rfl ?_
    exact ⟨rfl, hG⟩
  · have i6 : ¬ (32 : Int) ≤ (b.toNat : Int) := by omega
    clear h1 h2 h3 h4 h5 hb hlo
    generalize b.toNat = n at *
    go_enter Tryd.func23, Tryd.ntmps23
    go_wp2
    refine bodyPost_end (results_none rfl _ _ _) rfl ?_
    exact ⟨rfl, hG⟩
end
end Go.Proofs.YtgknhojjnnljkaaDoor
