/- What a screen answers: the cursor, its size, how far a place is, a row's line. -/
import Derived.Test.YtgknhojjnnljkaaDoorCeShow
import Derived.Test.YtgknhojjnnljkaaDoorTexts
namespace Go.Proofs.YtgknhojjnnljkaaDoor
open Go Go.RowKit
set_option maxRecDepth 100000
set_option maxHeartbeats 4000000

section
variable {w : World} {F : Nat → Prop} {p : Nat} {s : Sc}
theorem cursor_any (h : ScAt w p F s) : Calls Tryd.prog 20 #[.pointer (some ⟨p, 0, none⟩)] w fun e w' => e = .returned (.complex .f64 (fl (s.x : Int)) (fl (s.y : Int))) ∧ w' = w := by
  obtain ⟨rb, c0, c1, c2, f2, _⟩ := h.cells
  generalize fl (s.x : Int) = fx at *
  generalize fl (s.y : Int) = fy at *
  clear h
  go_enter Tryd.func20, Tryd.ntmps20
  go_wp2
  go_ret
  exact ⟨rfl, rfl⟩
theorem size_any (h : ScAt w p F s) : Calls Tryd.prog 17 #[.pointer (some ⟨p, 0, none⟩)] w fun e w' => e = .returned (.tuple #[.int .i64 (s.c : Int), .int .i64 (s.rows.length : Int)]) ∧ ∃ n, w' = w.drewN n := by
  obtain ⟨rb, c0, c1, c2, f2, _⟩ := h.cells
  clear h
  go_enter Tryd.func17, Tryd.ntmps17
  go_wp2_with fail
  go_quiet (fail)
  go_wp2
  go_ret2
  exact ⟨rfl, _, rfl⟩

theorem far_in (h : ScAt w p F s) {a b : Nat} (ha : a < s.c) (hb : b < s.rows.length) (h1 : a = s.x ∨ s.c ≤ 40) (h2 : b = s.y ∨ s.rows.length ≤ 40) :
    Calls Tryd.prog 22 #[.pointer (some ⟨p, 0, none⟩), .complex .f64 (fl (a : Int)) (fl (b : Int))] w fun e w' => e = .returned (.int .i64 (((a : Int) - (s.x : Int)).natAbs + ((b : Int) - (s.y : Int)).natAbs : Int)) ∧ w' = w := by
  obtain ⟨rb, c0, c1, c2, f2, _⟩ := h.cells
  have hc2 := h.ok.c2
  have hr2 := h.ok.r2
  have hx := h.ok.hx
  have hy := h.ok.hy
  have HH := has_any (u := (a : Int)) (v := (b : Int)) (by omega) (by omega) (by omega) (by omega) (show s.c ≤ 64 by omega) (show s.rows.length ≤ 64 by omega) c0 c1
  rw [show ((decide ((0 : Int) ≤ (a : Int)) && decide ((a : Int) < (s.c : Int))) && (decide ((0 : Int) ≤ (b : Int)) && decide ((b : Int) < (s.rows.length : Int)))) = true from by simp; omega] at HH
  have hsub := fun W => run_complex_sum (P := Tryd.prog) W .sub (.inr rfl) 51 .f64 _ _ _ _ _ _ (c_sub (a := a) (b := b) (x := s.x) (y := s.y) (by omega) (by omega))
  have HA := fun W => abs_any (d := (a : Int) - (s.x : Int)) (by omega) (by omega) W
  have HB := fun W => abs_any (d := (b : Int) - (s.y : Int)) (by omega) (by omega) W
  obtain ⟨m1, e1⟩ : ∃ m, m = ((a : Int) - (s.x : Int)).natAbs := ⟨_, rfl⟩
  obtain ⟨m2, e2⟩ : ∃ m, m = ((b : Int) - (s.y : Int)).natAbs := ⟨_, rfl⟩
  have k1 : m1 < 40 := by omega
  have k2 : m2 < 40 := by omega
  have hsum := fun W => run_float_arith (P := Tryd.prog) W .add 53 .f64 _ _ _ (sum_t ⟨m1, k1⟩ ⟨m2, k2⟩)
  have hint := fun W => toInt_any (show m1 + m2 < 80 by omega) W
  rw [← e1] at HA ⊢
  rw [← e2] at HB ⊢
  have e3 : fl ((m1 + m2 : Nat) : Int) = fl ((m1 : Int) + (m2 : Int)) := by rw [Int.natCast_add]
  rw [e3] at hint
  rw [Int.natCast_add] at hint
  dsimp only at hsum
  generalize fl ((m1 : Int) + (m2 : Int)) = f12 at *
  generalize fl (m1 : Int) = f1 at *
  generalize fl (m2 : Int) = f3 at *
  generalize fl ((a : Int) - (s.x : Int)) = d1 at *
  generalize fl ((b : Int) - (s.y : Int)) = d2 at *
  generalize fl (a : Int) = fa at *
  generalize fl (b : Int) = fb at *
  generalize fl (s.x : Int) = fx at *
  generalize fl (s.y : Int) = fy at *
  have HHH := Lib.hid HH
  have HAA := Lib.hid HA
  have HBB := Lib.hid HB
  have hw : (m1 : Int) + (m2 : Int) ≤ 80 := by omega
  clear h c0 c1 HH HA HB e1 e2 e3 hc2 hr2 hx hy ha hb h1 h2 f2
  go_enter Tryd.func22, Tryd.ntmps22
  go_wp2_with (first
    | (go_at_call 33; (with_reducible refine HHH.out.mono ?_); rintro e w' ⟨rfl, e2⟩; subst w')
    | (go_at_call 34; (with_reducible refine (HAA.out _).mono ?_); rintro e w' ⟨rfl, e2⟩; subst w')
    | (go_at_call 34; (with_reducible refine (HBB.out _).mono ?_); rintro e w' ⟨rfl, e2⟩; subst w'))
  go_ret
  exact ⟨rfl, rfl⟩
theorem far_out (h : ScAt w p F s) {u v : Int} (hu : -9223372036854775808 ≤ u) (hu' : u ≤ 9223372036854775807) (hv : -9223372036854775808 ≤ v) (hv' : v ≤ 9223372036854775807) (hn : ¬ (0 ≤ u ∧ u < s.c ∧ 0 ≤ v ∧ v < s.rows.length)) :
    Calls Tryd.prog 22 #[.pointer (some ⟨p, 0, none⟩), .complex .f64 (fl u) (fl v)] w fun e w' => e = .returned (.int .i64 (-1)) ∧ w' = w := by
  obtain ⟨rb, c0, c1, c2, f2, _⟩ := h.cells
  have hc2 := h.ok.c2
  have hr2 := h.ok.r2
  have HH := has_any hu hu' hv hv' (show s.c ≤ 64 by omega) (show s.rows.length ≤ 64 by omega) c0 c1
  rw [show ((decide ((0 : Int) ≤ u) && decide (u < (s.c : Int))) && (decide ((0 : Int) ≤ v) && decide (v < (s.rows.length : Int)))) = false from by
    rw [← Bool.not_eq_true]
    simp only [Bool.and_eq_true, decide_eq_true_eq]
    omega] at HH
  generalize fl u = fu at *
  generalize fl v = fv at *
  have HHH := Lib.hid HH
  clear h c0 c1 HH hc2 hr2 hn hu hu' hv hv'
  go_enter Tryd.func22, Tryd.ntmps22
  go_wp2_with (go_at_call 33; (with_reducible refine HHH.out.mono ?_); rintro e w' ⟨rfl, e2⟩; subst w')
  go_ret
  exact ⟨rfl, rfl⟩
theorem far_half (h : ScAt w p F s) (v : Nat) : Calls Tryd.prog 22 #[.pointer (some ⟨p, 0, none⟩), .complex .f64 4602678819172646912 v] w fun e w' => e = .returned (.int .i64 (-1)) ∧ w' = w := by
  obtain ⟨rb, c0, c1, c2, f2, _⟩ := h.cells
  have hc1 := h.ok.c1
  have hc2 := h.ok.c2
  have HHH := Lib.hid (has_half (v := v) hc1 (show s.c ≤ 64 by omega) c0)
  clear h c0 c1 hc1 hc2
  go_enter Tryd.func22, Tryd.ntmps22
  go_wp2_with (go_at_call 33; (with_reducible refine HHH.out.mono ?_); rintro e w' ⟨rfl, e2⟩; subst w')
  go_ret
  exact ⟨rfl, rfl⟩
end

theorem trimN_step (r : List UInt8) (k : Nat) (h : r[k]? = some 32) : trimN r (k + 1) = trimN r k := by
  show (if r[k]? = some 32 then trimN r k else k + 1) = _
  rw [if_pos h]
theorem trimN_stop (r : List UInt8) (k : Nat) (h : r[k]? ≠ some 32) : trimN r (k + 1) = k + 1 := by
  show (if r[k]? = some 32 then trimN r k else k + 1) = _
  rw [if_neg h]
theorem trimByte_any {w : World} {g n C : Nat} {r : List UInt8} {tl : List Value} (hb : Blk w g 5 (r.map B8 ++ tl)) (hl : r.length = n) (hnC : n ≤ C) (hC : C ≤ 1048576) :
    Calls Tryd.prog 42 #[.slice (some ⟨g, 0, none⟩) n C, .int .u8 32] w fun e w' => e = .returned (.slice (some ⟨g, 0, none⟩) (trimN r n) C) ∧ w' = w := by
  have HB := Lib.hid hb
  have HL := Lib.hid hl
  clear hb hl
  go_enter Tryd.func42, Tryd.ntmps42
  go_wp2_with fail
  go_loop [0] (fun v => ∃ k : Nat, k ≤ n ∧ v = .slice (some ⟨g, 0, none⟩) k C ∧ Hid (trimN r k = trimN r n)) (fun v => match v with | .slice _ l _ => l | _ => 0)
  case atStart => exact ⟨n, Nat.le_refl _, rfl, rfl⟩
  case round =>
    obtain ⟨k, hk, rfl, HT⟩ := hrel
    cases k with
    | zero =>
      go_wp2
      go_ret
      have : trimN r n = 0 := HT.out.symm
      rw [this]
      exact ⟨rfl, rfl⟩
    | succ k =>
      obtain ⟨x, hx⟩ : ∃ x, r[k]? = some x := ⟨_, List.getElem?_eq_getElem (by rw [HL.out]; omega)⟩
      have c0 : w.cell? ⟨g, k, none⟩ = some (.int .u8 (x.toNat : Int)) := by
        rw [HB.out.cell, List.getElem?_append_left (by rw [List.length_map, HL.out]; omega), List.getElem?_map, hx]; rfl
      by_cases h32 : x = 32
      · subst h32
        have HT2 : Hid (trimN r k = trimN r n) := by show _ = _; rw [← HT.out, trimN_step r k hx]
        clear hx HT
        have c0 : w.cell? ⟨g, k, none⟩ = some (.int .u8 32) := c0
        go_wp2
        go_round
        case rel => exact ⟨k, by omega, rfl, HT2⟩
        case measure => exact Nat.lt_succ_self _
      · have HT2 : Hid (k + 1 = trimN r n) := by show _ = _; rw [← HT.out, trimN_stop r k (by rw [hx]; simpa using h32)]
        have hne : ¬ (x.toNat : Int) = 32 := by
          intro e
          exact h32 (UInt8.toNat_inj.1 (by have : x.toNat = 32 := by omega
                                           rw [this]; rfl))
        clear hx HT h32
        generalize x.toNat = xn at *
        go_wp2
        go_ret
        rw [← HT2.out]
        exact ⟨rfl, rfl⟩
theorem trimRight_any {w : World} {g n C : Nat} {r : List UInt8} {tl : List Value} (hb : Blk w g 5 (r.map B8 ++ tl)) (hl : r.length = n) (hn : 1 ≤ n) (hnC : n ≤ C) (hC : C ≤ 1048576) :
    Calls Tryd.prog 32 #[.slice (some ⟨g, 0, none⟩) n C, .string ⟨#[32]⟩] w fun e w' => e = .returned (.slice (some ⟨g, 0, none⟩) (trimN r n) C) ∧ w' = w := by
  have HT := Lib.hid (trimByte_any hb hl hnC hC)
  clear hb hl
  have hn0 : ¬ n = 0 := by omega
  go_enter Tryd.func32, Tryd.ntmps32
  go_wp2_with (go_at_call 42; refine HT.out.mono ?_; rintro e w' ⟨rfl, e2⟩; subst w')
  go_ret
  exact ⟨rfl, rfl⟩
end Go.Proofs.YtgknhojjnnljkaaDoor
