/- A new screen, or none. -/
import Derived.Test.YtgknhojjnnljkaaDoorCeSize
namespace Go.Proofs.YtgknhojjnnljkaaDoor
open Go Go.RowKit
set_option maxRecDepth 100000
set_option maxHeartbeats 4000000

theorem Goes.wide {p : Nat} {F G : Nat → Prop} {s' : Sc} {w w' : World} (h : Goes p F s' w w') (hF : ∀ k, F k → G k) : Goes p G s' w w' := by
  obtain ⟨F', h1, h2, h3⟩ := h
  exact ⟨F', h1, h2.mono (fun i hi => .inl (hF i hi)), fun i hi => (h3 i hi).imp (hF i) id⟩

theorem new_ok {w : World} {c R : Nat} (hc1 : 1 ≤ c) (hc2 : c ≤ 60) (hR1 : 1 ≤ R) (hR2 : R ≤ 60) :
    Calls Tryd.prog 7 #[.int .i64 (c : Int), .int .i64 (R : Int)] w fun e w' => ∃ p F, e = .returned (.tuple #[.pointer (some ⟨p, 0, none⟩), .nilIface]) ∧ Hid (ScAt w' p F (newSc c R)) ∧ Hid (∀ k, F k → w.heap.size ≤ k) ∧ Hid (Only (fun _ => False) w w') := by
  have HP := PreAt.zero w
  have hRz := resize_ok HP hc1 hc2 hR1 hR2 (by rw [size_zero]; exact newSc_ok hc1 hc2 hR1 hR2)
  rw [size_zero] at hRz
  have HRz := Lib.hid hRz
  have hs : (w.alloc (.cells #[.int .i64 0, .slice none 0 0, .complex .f64 0 0] 62)).heap.size = w.heap.size + 1 := by simp
  have HS := Lib.hid hs
  have HO := Lib.hid ((Only.refl (fun _ => False) w).alloc (.cells #[.int .i64 0, .slice none 0 0, .complex .f64 0 0] 62))
  clear HP hRz hs
  go_enter Tryd.func7, Tryd.ntmps7
  go_wp2_with (go_at_call 14; (with_reducible refine HRz.out.mono ?_); rintro e w' ⟨rfl, hgo⟩)
  go_ret2
  obtain ⟨F', h1, h2, h3⟩ := hgo.out
  refine ⟨_, F', rfl, h1, fun k hk => ?_, HO.out.trans h2 (fun i hi => .inr (by omega))⟩
  rcases h3 k hk with h4 | h4
  · omega
  · have := HS.out; omega
theorem new_bad {w : World} {a : Addr} (he : w.cell? ⟨0, 0, none⟩ = some (errV a)) (c r : Int) (h : fitsS c r = false) :
    Calls Tryd.prog 7 #[.int .i64 c, .int .i64 r] w fun e w' => e = .returned (.tuple #[.pointer none, errV a]) ∧ Hid (Only (fun _ => False) w w') := by
  have HO := Lib.hid ((Only.refl (fun _ => False) w).alloc (.cells #[.int .i64 0, .slice none 0 0, .complex .f64 0 0] 62))
  have HRz := Lib.hid (resize_bad (p := w.heap.size) (HO.out.cellv he (fun h => h)) c r h)
  clear he h
  unfold errV at *
  go_enter Tryd.func7, Tryd.ntmps7
  go_wp2_with (go_at_call 14; (with_reducible refine HRz.out.mono ?_); rintro e w' ⟨rfl, e2⟩; subst w')
  go_ret2
  exact ⟨rfl, HO⟩
end Go.Proofs.YtgknhojjnnljkaaDoor
