/- The chapter's example of layer 8, as its statements ask it first, comes out as told. -/
import Derived.Test.YtckfbdjebbnieaaNvt
namespace Go.Proofs.Ytckfbdjebbnieaa
open Go Go.RowKit
set_option maxRecDepth 100000
set_option maxHeartbeats 4000000

theorem nalive_any (W : World) : Calls Try.prog 6 #[] W fun e w' => e = .returned (.bool true) ∧ Only (fun _ => False) W w' := by
  have C : ∀ W0 : World, Calls Try.prog 8 #[.slice (some ⟨W0.heap.size, 0, none⟩) 2 2, .bool false] (W0.alloc (.cells #[.int .u8 13, .int .u8 65] 5)) fun e w' => ∃ A c, e = .returned (.slice A 3 c) ∧ Hid (Src w' A 3 [13, 0, 65]) ∧ Hid (Only (fun _ => False) W0 w') := fun W0 => by
    refine (encode_any (c := 2) (src_new W0 [13, 65] _ _ (0, 0) 2 rfl rfl) false (by omega) (by omega)).mono ?_
    rintro e w' ⟨A, c, rfl, hb, ho⟩
    have e1 : out8 false [13, 65] = [13, 0, 65] := by decide +kernel
    rw [e1] at hb ⊢
    exact ⟨A, c, rfl, hb.out.src rfl, ((Only.refl (fun _ => False) W0).alloc _).trans ho.out (fun _ h => h.elim)⟩
  have D : ∀ W0 : World, Calls Try.prog 9 #[.slice (some ⟨W0.heap.size, 0, none⟩) 3 3, .bool false] (W0.alloc (.cells #[.int .u8 13, .int .u8 0, .int .u8 65] 5)) fun e w' => ∃ A c, e = .returned (.slice A 2 c) ∧ Hid (Src w' A 2 [13, 65]) ∧ Hid (Only (fun _ => False) W0 w') := fun W0 => by
    refine (decode_any (c := 3) (src_new W0 [13, 0, 65] _ _ (0, 0) 3 rfl rfl) false (by omega)).mono ?_
    rintro e w' ⟨A, c, rfl, hb, ho⟩
    have e1 : in8 false (flags8 false [13, 0, 65]) = [13, 65] := by decide +kernel
    rw [e1] at hb ⊢
    exact ⟨A, c, rfl, hb.out.src rfl, ((Only.refl (fun _ => False) W0).alloc _).trans ho.out (fun _ h => h.elim)⟩
  have HC := Lib.hid C
  have HD := Lib.hid D
  clear C D
  go_enter Try.func6, Try.ntmps6
  go_wp2_with (first
    | (go_at_call 8; refine (HC.out W).mono ?_; rintro e w1 ⟨A1, c1, rfl, hs1, ho1⟩; have hcv1 := text_of (P := Try.prog) hs1.out c1 22 9 5 Try.underlying22 Try.underlying5 Try.underlying9)
    | (go_at_call 9; refine (HD.out w1).mono ?_; rintro e w2 ⟨A2, c2, rfl, hs2, ho2⟩; have hcv2 := text_of (P := Try.prog) hs2.out c2 22 9 5 Try.underlying22 Try.underlying5 Try.underlying9))
  go_ret
  exact ⟨rfl, ho1.out.trans ho2.out (fun _ h => h.elim)⟩
end Go.Proofs.Ytckfbdjebbnieaa
