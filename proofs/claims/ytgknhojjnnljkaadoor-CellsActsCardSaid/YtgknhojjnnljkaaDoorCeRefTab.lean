/- The document: a tab; a byte that stands in a cell. -/
import Derived.Test.YtgknhojjnnljkaaDoorCeRefPut
namespace Go.Proofs.YtgknhojjnnljkaaDoor
open Go Go.RowKit
set_option maxRecDepth 100000
set_option maxHeartbeats 4000000

section
variable {w : World} {G : Nat → Prop} {p : Nat} {s : Sc}
theorem rput_tab (h : DAt w p G s) {b : UInt8} (hb : b.toNat = 9) :
    Calls Tryd.prog 12 #[.pointer (some ⟨p, 0, none⟩), .int .u8 (b.toNat : Int)] w fun e w' => e = .returned (.tuple #[]) ∧ Hid (DGoes p G (s.put b) w w') := by
  obtain ⟨A, cap, c0, c1, c2, c3, f1, f2, f3, _⟩ := h.cells
  have e : s.put b = ⟨s.c, min ((s.x / 8 + 1) * 8) (s.c - 1), s.y, s.rows⟩ := by unfold Sc.put; rw [if_neg (by omega), if_neg (by omega), if_pos hb]
  have hx := h.ok.hx
  have hc1 := h.ok.c1
  have hc2 := h.ok.c2
  have HG : Hid (∀ z : Nat, z = min ((s.x / 8 + 1) * 8) (s.c - 1) → DGoes p G (s.put b) w (w.setCell ⟨p, 1, none⟩ (.int .i64 (z : Int)))) := fun z hz => by
    rw [e, ← hz]
    exact h.xy z s.y (by omega) h.ok.hy ((Only.refl (· = p) w).setCell (p := ⟨p, 1, none⟩) (.inl rfl) _) (fun hb => hb.setCell 1 _)
  clear h c2 c3 f2 f3 e
  generalize s.put b = st at *
  generalize s.x = x at *
  generalize s.c = c at *
  rw [hb]
  clear hb
  go_enter Tryd.func12, Tryd.ntmps12
  go_wp2
  go_loop [6] (fun i => ∃ k : Nat, x + 1 ≤ k ∧ k ≤ (x / 8 + 1) * 8 ∧ i = .int .i64 (k : Int)) (fun i => (x / 8 + 1) * 8 - (intOf i).toNat)
  case atStart => exact ⟨x + 1, Nat.le_refl _, by omega, by go_num⟩
  case round =>
    obtain ⟨k, hk1, hk2, rfl⟩ := hrel
    by_cases hk : k % 8 = 0
    · have hk3 : k = (x / 8 + 1) * 8 := by omega
      have i1 : (k : Int).tmod 8 = 0 := by rw [Int.tmod_eq_emod_of_nonneg (by omega)]; omega
      have HGG := Lib.hid (HG.out (min k (c - 1)) (by omega))
      rw [show ((min k (c - 1) : Nat) : Int) = min (k : Int) ((c : Int) - 1) from by omega] at HGG
      clear HG hk3
      go_wp2
      refine bodyPost_end (results_none rfl _ _ _) rfl ?_
      exact ⟨rfl, HGG⟩
    · have i1 : ((k : Int).tmod 8 != 0) = true := by rw [Int.tmod_eq_emod_of_nonneg (by omega)]; simp; omega
      go_wp2
      go_round
      case rel => exact ⟨k + 1, by omega, by omega, by go_num⟩
      case measure => simp [intOf]; omega
end
end Go.Proofs.YtgknhojjnnljkaaDoor
