/- The document's own answers of layer 6: Sub, Token. -/
import Derived.Test.YtgahamdfgjijkaaDoorEmitRef
namespace Go.Proofs.YtgahamdfgjijkaaDoor
open Go Go.RowKit
set_option maxRecDepth 100000
set_option maxHeartbeats 4000000

theorem text_newD (w : World) (xs : List UInt8) (n : Nat) (hn : xs.length = n) (cs : Array Value) (hc : cs = (xs.map B8).toArray) (g : Nat) (hg : w.heap.size = g) :
    (convert 24 9 (.slice (some ⟨g, 0, none⟩) n n)).run Tryd.prog (w.alloc (.cells cs 5)).drew = .ok (.string ⟨xs.toArray⟩) (w.alloc (.cells cs 5)).drew := by
  subst hg
  exact text_of (P := Tryd.prog) ((src_new w xs cs 5 (0, 0) n hc hn).only ((Only.refl (fun _ => False) _).drew) (fun _ _ _ h => h)) n 24 9 5 Tryd.underlying24 Tryd.underlying5 Tryd.underlying9

theorem subRef_any (w : World) (o : Int) (b : List UInt8) (ho : 0 ≤ o ∧ o ≤ 255) (hb : b.length ≤ 256) :
    Calls Tryd.prog 22 #[.int .i64 o, .string ⟨b.toArray⟩] w fun e w' => e = .returned (.string ⟨([255, 250, b8 o] ++ dbl b ++ [255, 240] : List UInt8).toArray⟩) ∧ Only (fun _ => False) w w' := by
  have hw : IntKind.u8.wrap o = o := by rw [IntKind.wrap_u8]; omega
  have HC : #[Value.int .u8 255, Value.int .u8 250, Value.int .u8 o] = ([255, 250, b8 o].map B8).toArray := by
    have := b8_int ho.1 ho.2
    simp only [List.map_cons, List.map_nil, B8, *]
    rfl
  obtain ⟨L, hL⟩ : ∃ L, L = [255, 250, b8 o] := ⟨_, rfl⟩
  obtain ⟨D, hD⟩ : ∃ D, D = dbl b := ⟨_, rfl⟩
  obtain ⟨M, hM⟩ : ∃ M, M = L ++ D := ⟨_, rfl⟩
  obtain ⟨R, hR⟩ : ∃ R, R = M ++ [255, 240] := ⟨_, rfl⟩
  have hcv := text_newD w [255, 250, b8 o] 3 rfl _ HC w.heap.size rfl
  have hd := (dbl_length b).2
  have hLl : L.length = 3 := by rw [hL]; rfl
  have hadd : ∀ W, (Op.stringOp .add ⟨L.toArray⟩ ⟨D.toArray⟩).run Tryd.prog W = .ok (.string ⟨M.toArray⟩) W := fun W => sum_texts L D M hM.symm (by rw [hD]; omega)
  have hMl : M.length = 3 + D.length := by rw [hM, List.length_append, hLl]
  have hadd2 : ∀ W, (Op.stringOp .add ⟨M.toArray⟩ ⟨#[255, 240]⟩).run Tryd.prog W = .ok (.string ⟨R.toArray⟩) W := fun W => sum_texts M [255, 240] R hR.symm (by rw [hMl, hD]; simp only [List.length_cons, List.length_nil]; omega)
  have HD : Hid (∀ W, Calls Tryd.prog 14 #[.string ⟨b.toArray⟩] W fun e w' => e = .returned (.string ⟨D.toArray⟩) ∧ W = w') := fun W => by rw [hD]; exact dataRef_any W b (by omega)
  rw [← hL, ← hD, ← hM, ← hR]
  rw [← hL] at hcv
  clear ho hb HC hL hD hM hR hd hLl hMl
  go_enter Tryd.func22, Tryd.ntmps22
  go_wp2_with fail
  go_region_law (go_simp; go_at_call 14; (with_reducible refine (HD.out _).mono ?_); rintro e w2 ⟨rfl, e2⟩; subst w2)
  all_goals
    go_wp2
    go_ret
    exact ⟨rfl, ((Only.refl _ w).drew).alloc _⟩
end Go.Proofs.YtgahamdfgjijkaaDoor
