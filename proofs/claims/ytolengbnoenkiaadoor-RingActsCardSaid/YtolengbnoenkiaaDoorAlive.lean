/- The chapter's example, as the statements of layer 1 ask it first, comes out as told. -/
import Derived.Test.YtolengbnoenkiaaDoorRing
import Derived.Lib.SlBytesConst
namespace Go.Proofs.YtolengbnoenkiaaDoor
open Go Go.RowKit

set_option maxHeartbeats 1000000 in
theorem alive_any (w : World) : Calls Tryd.prog 6 #[] w fun e w' => e = .returned (.bool true) ∧ Only (fun _ => False) w w' := by
  have kc := fun (w : World) (C : Array Value) (n c : Nat) => Lib.run_convert_bytes_const (P := Tryd.prog) w 34 5 C n c Tryd.underlying34 Tryd.underlying5
  go_enter Tryd.func6, Tryd.ntmps6
  go_wp2_with fail
  refine (new_ok _ 3 (by omega) (by omega)).mono ?_
  rintro e w1 ⟨p, g, rfl, h1, hp, hg, ho1⟩
  have g1 : g < w1.heap.size := by obtain ⟨cs, hb, _⟩ := h1.body; exact hb.lt
  go_wp2_with fail
  refine (put_any (A := some ⟨w1.heap.size, 0, none⟩) (h1.keep fun _ _ _ _ hb => hb.alloc _) 4 4 [97, 98, 99, 100] (src_new w1 _ _ _ _ _ rfl rfl) (by omega) (by omega) (by rintro _ ad ⟨⟩; show w1.heap.size ≠ g; omega) (by simp)).mono ?_
  rintro e w2 ⟨k, rfl, hk, h2, ho2⟩
  obtain rfl : k = 3 := by rw [hk]; rfl
  clear hk
  have h2 : IsRing w2 p g 3 [97, 98, 99] 0 := h2
  have ho2 : Only (fun _ => False) w w2 := (ho1.alloc _).trans ho2 (fun i hi => .inr (by rcases hi with rfl | rfl <;> omega))
  clear h1 ho1
  go_wp2_with fail
  refine (take_any h2 2).mono ?_
  rintro e w3 ⟨A, m, rfl, hm, hmade, h3, ho3⟩
  obtain rfl : m = 2 := by rw [hm]; rfl
  clear hm
  have hmade : Made w2.heap.size 5 w3 A 2 [97, 98] := hmade
  have h3 : IsRing w3 p g 3 [97, 98, 99] 2 := h3
  have ht := text_of hmade.src 2 34 9 5 Tryd.underlying34 Tryd.underlying5 Tryd.underlying9
  have ho3 : Only (fun _ => False) w w3 := ho2.trans ho3 (fun i hi => .inr (by subst hi; omega))
  clear h2 ho2 hmade
  go_wp2_with fail
  clear ht
  refine (put_any (A := some ⟨w3.heap.size, 0, none⟩) (h3.keep fun _ _ _ _ hb => hb.alloc _) 1 1 [101] (src_new w3 _ _ _ _ _ rfl rfl) (by omega) (by omega) (by rintro _ ad ⟨⟩; show w3.heap.size ≠ g; obtain ⟨cs, hb, _⟩ := h3.body; have := hb.lt; omega) (by simp)).mono ?_
  rintro e w4 ⟨k, rfl, hk, h4, ho4⟩
  obtain rfl : k = 1 := by rw [hk]; rfl
  clear hk
  have h4 : IsRing w4 p g 3 [97, 98, 99, 101] 2 := h4
  have ho4 : Only (fun _ => False) w w4 := (ho3.alloc _).trans ho4 (fun i hi => .inr (by rcases hi with rfl | rfl <;> omega))
  clear h3 ho3
  go_wp2_with fail
  refine (take_any h4 9).mono ?_
  rintro e w5 ⟨A, m, rfl, hm, hmade, h5, ho5⟩
  obtain rfl : m = 2 := by rw [hm]; rfl
  clear hm
  have hmade : Made w4.heap.size 5 w5 A 2 [99, 101] := hmade
  have h5 : IsRing w5 p g 3 [97, 98, 99, 101] 4 := h5
  have ht := text_of hmade.src 2 34 9 5 Tryd.underlying34 Tryd.underlying5 Tryd.underlying9
  have ho5 : Only (fun _ => False) w w5 := ho4.trans ho5 (fun i hi => .inr (by subst hi; omega))
  clear h4 ho4 hmade
  go_wp2_with fail
  clear ht
  refine (len_any h5).mono ?_
  rintro e w6 ⟨rfl, q, rfl⟩
  go_wp2
  go_ret
  exact ⟨rfl, ho5.drewN q⟩
end Go.Proofs.YtolengbnoenkiaaDoor
