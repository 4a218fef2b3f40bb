/- The chapter's example. -/
import Derived.Test.YtlmkpembccehkaaGreatDoorSnTurned
namespace Go.Proofs.YtlmkpembccehkaaGreatDoor
open Go Go.RowKit
set_option maxRecDepth 100000
set_option maxHeartbeats 4000000

theorem StAt.nil (w : World) (A : Option Addr) : StAt w A 0 [] := ⟨rfl, fun i x h => by simp at h⟩
def vt : List UInt8 := [118, 116, 49, 48, 48]
theorem snAlive_any (w : World) : Calls Tryz.prog 5 #[] w fun e w' => e = .returned (.bool true) ∧ Only (fun _ => False) w w' := by
  have HT : Hid (TSrc (w.alloc (.cells #[.string ⟨#[118, 116, 49, 48, 48]⟩] 9)) (some ⟨w.heap.size, 0, none⟩) 1 [vt]) := TSrc.of_blk (Blk.new w 9 [.string ⟨#[118, 116, 49, 48, 48]⟩]) rfl (fun j x hj => by
    match j, hj with
    | 0, hj =>
      simp only [List.getElem?_cons_zero, Option.some.injEq] at hj
      subst hj
      rfl
    | j + 1, hj => simp at hj)
  have HN := Lib.hid (fun can => snNew_ok (cc := 80) (cr := 24) (cA := 1) (B := none) (m := 0) (cB := 0) (can := can) HT.out (StAt.nil _ none) (by omega) (by omega) (by decide))
  go_enter Tryz.func5, Tryz.ntmps5
  go_wp2_with (first
    | (go_at_call 7; (with_reducible refine (HN.out _).mono ?_); rintro e w1 ⟨p, rfl, hn1, ho1⟩; obtain ⟨h, hn1⟩ := hn1.out; obtain ⟨N, hsz, hs, _⟩ := hn1.sz; have HTu := Lib.hid (turned_size hn1.hub hsz hs); clear hn1 hsz hs)
    | (go_at_call 18; (with_reducible refine HTu.out.mono ?_); rintro e w2 ⟨M, rfl, h1, h2, h3⟩; obtain ⟨M', A, n, c, e1, _, hb, hs2, _⟩ := h1.out.form; injection e1 with e1; injection e1 with e1; injection e1 with e1; subst e1; obtain rfl : n = 4 := hs2.1.symm; have c0 : w2.cell? ⟨M, 0, none⟩ = some (.int .i64 31) := hb.cell 0; have c1 : w2.cell? ⟨M, 1, none⟩ = some (.slice A 4 c) := hb.cell 1; have hT := hs2.texts c w2 (Only.refl _ _); rw [show (bodyOf 80 24).toArray = #[0, 80, 0, 24] from by decide] at hT; clear hb hs2 h2))
  go_ret
  exact ⟨rfl, (((Only.refl (fun _ => False) w).alloc _).trans ho1.out (fun _ h => h.elim)).trans h3.out (fun _ h => h.elim)⟩
end Go.Proofs.YtlmkpembccehkaaGreatDoor
