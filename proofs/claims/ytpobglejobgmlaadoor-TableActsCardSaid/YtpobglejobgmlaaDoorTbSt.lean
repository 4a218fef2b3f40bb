/- Package table: State, On, Counts. -/
import Derived.Test.YtpobglejobgmlaaDoorTbMove
namespace Go.Proofs.YtpobglejobgmlaaDoor
open Go Go.RowKit
set_option maxRecDepth 100000
set_option maxHeartbeats 4000000

theorem Tb.get_st (t : Tb) {a b : Nat} (ha : a < 2) (hb : b < 256) : t.get (a : Int) (b : Int) = t.st a b := by
  unfold Tb.get
  rw [if_pos ⟨by omega, by omega, by omega⟩]
  simp
theorem Tb.get_no (t : Tb) {s o : Int} (h : ¬ ((s = 0 ∨ s = 1) ∧ 0 ≤ o ∧ o ≤ 255)) : t.get s o = .no := by
  unfold Tb.get
  rw [if_neg h]
/-- A state as a value. -/
@[reducible] def qsV (q : Qs) : Value := .agg #[.int .i64 (q.kind : Int), .bool q.opp]

theorem state_in {W : World} {p : Nat} {ag : Nat → Nat → Bool} {t : Tb} (h : TbAt W p ag t) {s o : Nat} (hs : s < 2) (ho : o < 256) : Calls Tryd.prog 16 #[.pointer (some ⟨p, 0, none⟩), .int .i64 (s : Int), .int .i64 (o : Int)] W fun e w' =>
    e = .returned (qsV (t.st s o)) ∧ Only (fun _ => False) W w' := by
  obtain ⟨cs, hB, hC⟩ := h
  have HB := Lib.hid hB
  have HC := Lib.hid hC
  have hp := hB.lt
  have hs2 : (s : Int) < 2 := by omega
  have ho2 : (o : Int) < 256 := by omega
  have H1 : Hid (∀ W, Calls Tryd.prog 38 #[.int .i64 (s : Int)] W fun e w' => e = .returned (.bool true) ∧ w' = W) := fun W => by
    have := isSide_any W (s : Int)
    rwa [decide_eq_true (by omega)] at this
  have H2 : Hid (∀ W, Calls Tryd.prog 25 #[.int .i64 (o : Int)] W fun e w' => e = .returned (.bool true) ∧ w' = W) := fun W => by
    have := isOption_any W (o : Int)
    rwa [decide_eq_true (by omega)] at this
  clear hB hC
  go_enter Tryd.func16, Tryd.ntmps16
  go_wp2_with (first
    | (go_at_call 38; refine (H1.out _).mono ?_; rintro e w' ⟨rfl, rfl⟩)
    | (go_at_call 25; refine (H2.out _).mono ?_; rintro e w' ⟨rfl, rfl⟩)
    | ((with_reducible show wpList _ _ _ (⟨some 23, _, _, _, _, _⟩ :: _) _ _); refine wpList_load_mid rfl 53 _ rfl p (s * 512 + o * 2) rfl (qsC (t.st s o)) _ (st_range (HB.out.alloc _) HC.out hs ho rfl) Tryd.underlying53 rfl size_state ?_)
    | ((with_reducible show wpList _ _ _ (⟨none, .store 53 _ _, _, _, _, _⟩ :: _) _ _); refine step_store rfl 53 _ _ rfl W.heap.size rfl (qsC (t.st s o)) rfl _ [.int .i64 0, .bool false] (Blk.new W _ _) size_state rfl (fun v hv => by simp [qsC] at hv; rcases hv with rfl | rfl <;> rfl) ?_; intro w4 hB4 hz4 ho4))
  refine ret_cell1 rfl W.heap.size rfl _ (qsC (t.st s o)) _ hB4.out Tryd.underlying53 rfl size_state rfl ?_
  exact ⟨rfl, ((Only.refl _ _).alloc _).trans ho4 (fun i hi => .inr (by omega))⟩
theorem state_no {W : World} {p : Nat} (t : Tb) {s o : Int} (h : ¬ ((s = 0 ∨ s = 1) ∧ 0 ≤ o ∧ o ≤ 255)) : Calls Tryd.prog 16 #[.pointer (some ⟨p, 0, none⟩), .int .i64 s, .int .i64 o] W fun e w' =>
    e = .returned (qsV .no) ∧ Only (fun _ => False) W w' := by
  obtain ⟨b1, hb1⟩ : ∃ b, b = decide (s = 0 ∨ s = 1) := ⟨_, rfl⟩
  obtain ⟨b2, hb2⟩ : ∃ b, b = decide (0 ≤ o ∧ o ≤ 255) := ⟨_, rfl⟩
  have H1 := fun W => isSide_any W s
  have H2 := fun W => isOption_any W o
  rw [← hb1] at H1
  rw [← hb2] at H2
  have hh : ¬ (b1 = true ∧ b2 = true) := by
    rintro ⟨rfl, rfl⟩
    exact h ⟨of_decide_eq_true hb1.symm, of_decide_eq_true hb2.symm⟩
  have H1 := Lib.hid H1
  have H2 := Lib.hid H2
  clear hb1 hb2 h
  cases b1
  · clear hh
    go_enter Tryd.func16, Tryd.ntmps16
    go_wp2_with (first
      | (go_at_call 38; refine (H1.out _).mono ?_; rintro e w' ⟨rfl, rfl⟩)
      | ((with_reducible show wpList _ _ _ (⟨none, .store 53 _ _, _, _, _, _⟩ :: _) _ _); refine step_store rfl 53 _ _ rfl W.heap.size rfl (qsC .no) rfl _ [.int .i64 0, .bool false] (Blk.new W _ _) size_state rfl (fun v hv => by simp [qsC] at hv; rcases hv with rfl | rfl <;> rfl) ?_; intro w4 hB4 hz4 ho4))
    refine ret_cell1 rfl W.heap.size rfl _ (qsC .no) _ hB4.out Tryd.underlying53 rfl size_state rfl ?_
    exact ⟨rfl, ((Only.refl _ _).alloc _).trans ho4 (fun i hi => .inr (by omega))⟩
  · cases b2
    · clear hh
      go_enter Tryd.func16, Tryd.ntmps16
      go_wp2_with (first
        | (go_at_call 38; refine (H1.out _).mono ?_; rintro e w' ⟨rfl, rfl⟩)
        | (go_at_call 25; refine (H2.out _).mono ?_; rintro e w' ⟨rfl, rfl⟩)
        | ((with_reducible show wpList _ _ _ (⟨none, .store 53 _ _, _, _, _, _⟩ :: _) _ _); refine step_store rfl 53 _ _ rfl W.heap.size rfl (qsC .no) rfl _ [.int .i64 0, .bool false] (Blk.new W _ _) size_state rfl (fun v hv => by simp [qsC] at hv; rcases hv with rfl | rfl <;> rfl) ?_; intro w4 hB4 hz4 ho4))
      refine ret_cell1 rfl W.heap.size rfl _ (qsC .no) _ hB4.out Tryd.underlying53 rfl size_state rfl ?_
      exact ⟨rfl, ((Only.refl _ _).alloc _).trans ho4 (fun i hi => .inr (by omega))⟩
    · exact absurd ⟨rfl, rfl⟩ hh
theorem state_any {W : World} {p : Nat} {ag : Nat → Nat → Bool} {t : Tb} (h : TbAt W p ag t) (s o : Int) : Calls Tryd.prog 16 #[.pointer (some ⟨p, 0, none⟩), .int .i64 s, .int .i64 o] W fun e w' =>
    e = .returned (qsV (t.get s o)) ∧ Only (fun _ => False) W w' := by
  by_cases hv : (s = 0 ∨ s = 1) ∧ 0 ≤ o ∧ o ≤ 255
  · obtain ⟨a, rfl⟩ : ∃ a : Nat, s = (a : Int) := ⟨s.toNat, by omega⟩
    obtain ⟨b, rfl⟩ : ∃ b : Nat, o = (b : Int) := ⟨o.toNat, by omega⟩
    rw [t.get_st (by omega) (by omega)]
    exact state_in h (by omega) (by omega)
  · rw [t.get_no hv]
    exact state_no t hv
theorem kind_one (q : Qs) : decide ((q.kind : Int) = 1) = decide (q = .yes) := by cases q <;> rfl
theorem ton_any {W : World} {p : Nat} {ag : Nat → Nat → Bool} {t : Tb} (h : TbAt W p ag t) (s o : Int) : Calls Tryd.prog 18 #[.pointer (some ⟨p, 0, none⟩), .int .i64 s, .int .i64 o] W fun e w' =>
    e = .returned (.bool (decide (t.get s o = .yes))) ∧ Only (fun _ => False) W w' := by
  have H1 := Lib.hid (state_any h s o)
  have H2 : Hid (∀ w, Calls Tryd.prog 31 #[qsV (t.get s o)] w fun e w' => e = .returned (.bool (decide (t.get s o = .yes))) ∧ Only (fun _ => False) w w') := fun w => by
    have := on_any w ((t.get s o).kind : Int) (t.get s o).opp
    rwa [kind_one] at this
  obtain ⟨q, hq⟩ : ∃ q, q = t.get s o := ⟨_, rfl⟩
  rw [← hq] at H1 H2 ⊢
  obtain ⟨r, hr⟩ : ∃ r, r = decide (q = .yes) := ⟨_, rfl⟩
  rw [← hr] at H2 ⊢
  clear h hq hr
  go_enter Tryd.func18, Tryd.ntmps18
  go_wp2_with (first
    | (go_at_call 16; refine H1.out.mono ?_; rintro e w1 ⟨rfl, ho1⟩)
    | (go_at_call 31; refine (H2.out _).mono ?_; rintro e w2 ⟨rfl, ho2⟩))
  go_ret
  exact ⟨rfl, ho1.trans ho2 (fun _ h => h.elim)⟩
theorem counts_any {W : World} {p : Nat} {ag : Nat → Nat → Bool} {t : Tb} (h : TbAt W p ag t) : Calls Tryd.prog 13 #[.pointer (some ⟨p, 0, none⟩)] W fun e w' =>
    e = .returned (.tuple #[.int .i64 (t.heard : Int), .int .i64 (t.asked : Int), .int .i64 (t.sent : Int)]) ∧ Only (fun _ => False) W w' := by
  obtain ⟨cs, hB, hC⟩ := h
  have c1 : W.cell? ⟨p, 1536, none⟩ = some (.int .i64 (t.heard : Int)) := by rw [hB.cell]; exact hC.heard
  have c2 : W.cell? ⟨p, 1537, none⟩ = some (.int .i64 (t.asked : Int)) := by rw [hB.cell]; exact hC.asked
  have c3 : W.cell? ⟨p, 1538, none⟩ = some (.int .i64 (t.sent : Int)) := by rw [hB.cell]; exact hC.sent
  clear hB hC
  go_enter Tryd.func13, Tryd.ntmps13
  go_wp2
  go_quiet (fail)
  go_wp2
  go_ret3
  exact ⟨rfl, (Only.refl _ _).drewN _⟩
end Go.Proofs.YtpobglejobgmlaaDoor
