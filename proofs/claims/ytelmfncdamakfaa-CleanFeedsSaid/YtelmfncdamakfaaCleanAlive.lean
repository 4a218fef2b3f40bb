/- The chapter's example of layer 9, as its statements ask it first, comes out as told. -/
import Derived.Test.YtelmfncdamakfaaCleanAll
namespace Go.Proofs.Ytelmfncdamakfaa
open Go Go.RowKit
set_option maxRecDepth 100000
set_option maxHeartbeats 4000000

theorem clive_any (W : World) : Calls Try.prog 6 #[] W fun e w' => e = .returned (.bool true) ∧ Only (fun _ => False) W w' := by
  have C : Calls Try.prog 13 #[.slice (some ⟨W.heap.size, 0, none⟩) 6 6, .slice (some ⟨W.heap.size + 1, 0, none⟩) 1 1, .bool false] ((W.alloc (.cells #[.int .u8 97, .int .u8 98, .int .u8 99, .int .u8 255, .int .u8 242, .int .u8 100] 5)).alloc (.cells #[.int .i64 1] 3)) fun e w' => ∃ A c, e = .returned (.slice A 2 c) ∧ Hid (Src w' A 2 [97, 100]) ∧ Hid (Only (fun _ => False) W w') := by
    have hs : Src ((W.alloc (.cells #[.int .u8 97, .int .u8 98, .int .u8 99, .int .u8 255, .int .u8 242, .int .u8 100] 5)).alloc (.cells #[.int .i64 1] 3)) (some ⟨W.heap.size, 0, none⟩) 6 [97, 98, 99, 255, 242, 100] :=
      (src_new W [97, 98, 99, 255, 242, 100] _ _ (0, 0) 6 rfl rfl).only ((Only.refl (fun _ => False) _).alloc _) (fun _ _ _ h => h)
    have hz : Ints ((W.alloc (.cells #[.int .u8 97, .int .u8 98, .int .u8 99, .int .u8 255, .int .u8 242, .int .u8 100] 5)).alloc (.cells #[.int .i64 1] 3)) (some ⟨W.heap.size + 1, 0, none⟩) 1 [1] := by
      refine ⟨rfl, fun _ => ⟨_, rfl, fun j z hj => ?_⟩⟩
      have hj0 : j = 0 := by have := (List.getElem?_eq_some_iff.1 hj).1; simp at this; omega
      subst hj0
      simp only [List.getElem?_cons_zero, Option.some.injEq] at hj
      subst hj
      rw [at_add]
      exact (Blk.new' (n := W.heap.size + 1) (W.alloc _) 3 [.int .i64 1] (by simp)).cell 0
    refine (clean_data_any (c := 6) (d := 1) hs hz false (by omega) (by omega) [97, 100] (by decide +kernel)).mono ?_
    rintro e w' ⟨A, c, rfl, hb, ho⟩
    exact ⟨A, c, rfl, hb.out.src rfl, (((Only.refl (fun _ => False) W).alloc _).alloc _).trans ho.out (fun _ h => h.elim)⟩
  have HC := Lib.hid C
  clear C
  go_enter Try.func6, Try.ntmps6
  go_wp2_with (first
    | (go_at_call 13; refine HC.out.mono ?_; rintro e w1 ⟨A1, c1, rfl, hs1, ho1⟩; have hcv1 := text_of (P := Try.prog) hs1.out c1 22 9 5 Try.underlying22 Try.underlying5 Try.underlying9))
  go_ret
  exact ⟨rfl, ho1.out⟩
end Go.Proofs.Ytelmfncdamakfaa
