/- The screen's walks over floating-point numbers alone: rounding down, whether a part lies in a range, a row's beginning, a tab's next column, a number without its sign. -/
import Derived.Test.YtgknhojjnnljkaaDoorCeFl
import Derived.Test.YtgknhojjnnljkaaDoorAlloc
namespace Go.Proofs.YtgknhojjnnljkaaDoor
open Go Go.RowKit
set_option maxRecDepth 100000
set_option maxHeartbeats 4000000

theorem run_floor {P : Program} {b r : Nat} (h : flo b = some r) (W : World) : (Extern.MathFloor.toIntegral "math.archFloor" .down #[.float .f64 b]).run P W = .ok (.float .f64 r) W := by
  unfold flo at h
  show (Extern.MathFloor.toIntegral.match_1 (fun _ => Sem Value) (FloatKind.f64.decode b) (fun s t => _) (fun d => _) : Sem Value).run P W = _
  generalize FloatKind.f64.decode b = d at h ⊢
  cases d with
  | nan s t => cases h
  | infinity s => injection h with h; subst h; rfl
  | number s m e => injection h with h; subst h; rfl
theorem floor_any {b r : Nat} (h : flo b = some r) (w : World) : Calls Tryd.prog 49 #[.float .f64 b] w fun e w' => e = .returned (.float .f64 r) ∧ w' = w := by
  have HR := Lib.hid (fun W => run_floor (P := Tryd.prog) h W)
  clear h
  go_enter Tryd.func49, Tryd.ntmps49
  go_wp2
  rw [run_callFunc_extern Tryd.func54 (by kernel_rfl) (by kernel_rfl) (by kernel_rfl) (e := Extern.MathFloor.toIntegral "math.archFloor" .down) (by kernel_rfl)]
  rw [HR.out]
  simp only [Result.andThen]
  rw [Oper.upon_value]
  go_wp2
  go_ret
  exact ⟨rfl, rfl⟩
theorem isOf_any {z n : Int} (h1 : -9223372036854775808 ≤ z) (h2 : z ≤ 9223372036854775807) (h3 : 0 ≤ n) (h4 : n ≤ 64) (w : World) :
    Calls Tryd.prog 46 #[.float .f64 (fl z), .int .i64 n] w fun e w' => e = .returned (.bool (decide (0 ≤ z) && decide (z < n))) ∧ w' = w := by
  have g1 := fl_ge h1 h2 (show -100 ≤ (0 : Int) by omega) (show (0 : Int) ≤ 100 by omega)
  rw [fl_zero] at g1
  have g2 := fl_lt h1 h2 (show -100 ≤ n by omega) (show n ≤ 100 by omega)
  by_cases hz : 0 ≤ z
  · rw [decide_eq_true hz] at g1 ⊢
    by_cases hn : z < n
    · rw [decide_eq_true hn] at g2 ⊢
      have g3 := fl_eq h1 h2 (show -100 ≤ z by omega) (show z ≤ 100 by omega)
      rw [decide_eq_true rfl] at g3
      have HF := Lib.hid (fun W => floor_any (fl_flo (show -1 ≤ z by omega) (show z ≤ 72 by omega)) W)
      clear h1 h2 h3 h4 hz hn
      go_enter Tryd.func46, Tryd.ntmps46
      go_wp2_with (go_at_call 49; refine (HF.out _).mono ?_; rintro e w' ⟨rfl, e2⟩; subst w')
      go_ret
      exact ⟨rfl, rfl⟩
    · rw [decide_eq_false hn] at g2 ⊢
      clear h1 h2 h3 h4 hz hn
      go_enter Tryd.func46, Tryd.ntmps46
      go_wp2
      go_ret
      exact ⟨rfl, rfl⟩
  · rw [decide_eq_false hz] at g1 ⊢
    clear h1 h2 h3 h4 hz g2
    go_enter Tryd.func46, Tryd.ntmps46
    go_wp2
    go_ret
    exact ⟨rfl, rfl⟩
theorem front_any (x y : Nat) (w : World) : Calls Tryd.prog 38 #[.complex .f64 x y] w fun e w' => e = .returned (.complex .f64 0 y) ∧ w' = w := by
  go_enter Tryd.func38, Tryd.ntmps38
  go_wp2
  go_ret
  exact ⟨rfl, rfl⟩
theorem isSize_any (z : Int) (w : World) : Calls Tryd.prog 28 #[.int .i64 z] w fun e w' => e = .returned (.bool (decide (1 ≤ z) && decide (z ≤ 200))) ∧ w' = w := by
  by_cases hz : 1 ≤ z
  · by_cases hn : z ≤ 200
    · rw [decide_eq_true hz, decide_eq_true hn]
      go_enter Tryd.func28, Tryd.ntmps28
      go_wp2
      go_ret
      exact ⟨rfl, rfl⟩
    · rw [decide_eq_true hz, decide_eq_false hn]
      go_enter Tryd.func28, Tryd.ntmps28
      go_wp2
      go_ret
      exact ⟨rfl, rfl⟩
  · rw [decide_eq_false hz]
    go_enter Tryd.func28, Tryd.ntmps28
    go_wp2
    go_ret
    exact ⟨rfl, rfl⟩
theorem isOf_half {n : Int} (h3 : 1 ≤ n) (h4 : n ≤ 64) (w : World) :
    Calls Tryd.prog 46 #[.float .f64 4602678819172646912, .int .i64 n] w fun e w' => e = .returned (.bool false) ∧ w' = w := by
  have g1 : (FloatKind.f64.format.order 4602678819172646912 0 == some .gt || FloatKind.f64.format.order 4602678819172646912 0 == some .eq) = true := by decide +kernel
  have g2 := half_t ⟨n.toNat - 1, by omega⟩
  rw [show (((⟨n.toNat - 1, by omega⟩ : Fin 64).val : Nat) : Int) + 1 = n from by simp; omega] at g2
  have g3 : (FloatKind.f64.format.order 4602678819172646912 0 == some .eq) = false := by decide +kernel
  have HF := Lib.hid (fun W => floor_any flo_half W)
  clear h3 h4
  go_enter Tryd.func46, Tryd.ntmps46
  go_wp2_with (go_at_call 49; refine (HF.out _).mono ?_; rintro e w' ⟨rfl, e2⟩; subst w')
  go_ret
  exact ⟨rfl, rfl⟩
theorem run_max_fl {P : Program} (ts : Array TypeId) (t : TypeId) {z k : Int} (h1 : -100 ≤ z) (h2 : z ≤ 100) (h3 : -100 ≤ k) (h4 : k ≤ 100) (W : World) : (Builtin.max_ ts t #[.float .f64 (fl z), .float .f64 (fl k)]).run P W = .ok (.float .f64 (fl (max z k))) W := by
  have g := fl_ord (show -9223372036854775808 ≤ z by omega) (show z ≤ 9223372036854775807 by omega) h3 h4
  rcases Int.lt_trichotomy z k with h | h | h
  · rw [cmp_lt h] at g
    simp [Builtin.max_, Builtin.max2, g, show max z k = k from by omega]
  · subst h
    rw [cmp_eq] at g
    simp [Builtin.max_, Builtin.max2, g, show max z z = z from by omega]
  · rw [cmp_gt h] at g
    simp [Builtin.max_, Builtin.max2, g, show max z k = z from by omega]
theorem run_min_fl {P : Program} (ts : Array TypeId) (t : TypeId) {z k : Int} (h1 : -100 ≤ z) (h2 : z ≤ 100) (h3 : -100 ≤ k) (h4 : k ≤ 100) (W : World) : (Builtin.min_ ts t #[.float .f64 (fl z), .float .f64 (fl k)]).run P W = .ok (.float .f64 (fl (min z k))) W := by
  have g := fl_ord (show -9223372036854775808 ≤ z by omega) (show z ≤ 9223372036854775807 by omega) h3 h4
  rcases Int.lt_trichotomy z k with h | h | h
  · rw [cmp_lt h] at g
    simp [Builtin.min_, Builtin.min2, g, show min z k = z from by omega]
  · subst h
    rw [cmp_eq] at g
    simp [Builtin.min_, Builtin.min2, g, show min z z = z from by omega]
  · rw [cmp_gt h] at g
    simp [Builtin.min_, Builtin.min2, g, show min z k = k from by omega]
theorem nearest_any {u v : Int} (hu : -1 ≤ u) (hu' : u ≤ 100) (hv : -1 ≤ v) (hv' : v ≤ 100) {c R : Nat} (hc : 1 ≤ c) (hc' : c ≤ 64) (hR : 1 ≤ R) (hR' : R ≤ 64) {p : Nat} {A : Option Addr} {k : Nat} {w : World}
    (h0 : w.cell? ⟨p, 0, none⟩ = some (.int .i64 (c : Int))) (h1 : w.cell? ⟨p, 1, none⟩ = some (.slice A R k)) :
    Calls Tryd.prog 30 #[.pointer (some ⟨p, 0, none⟩), .complex .f64 (fl u) (fl v)] w fun e w' => e = .returned (.complex .f64 (fl (min (max u 0) ((c : Int) - 1))) (fl (min (max v 0) ((R : Int) - 1)))) ∧ w' = w := by
  have m1 := fun ts t W => run_max_fl (P := Tryd.prog) ts t (show -100 ≤ u by omega) hu' (show -100 ≤ (0 : Int) by omega) (show (0 : Int) ≤ 100 by omega) W
  have m2 := fun ts t W => run_max_fl (P := Tryd.prog) ts t (show -100 ≤ v by omega) hv' (show -100 ≤ (0 : Int) by omega) (show (0 : Int) ≤ 100 by omega) W
  have m3 := fun ts t W => run_min_fl (P := Tryd.prog) ts t (show -100 ≤ max u 0 by omega) (show max u 0 ≤ 100 by omega) (show -100 ≤ (c : Int) - 1 by omega) (show (c : Int) - 1 ≤ 100 by omega) W
  have m4 := fun ts t W => run_min_fl (P := Tryd.prog) ts t (show -100 ≤ max v 0 by omega) (show max v 0 ≤ 100 by omega) (show -100 ≤ (R : Int) - 1 by omega) (show (R : Int) - 1 ≤ 100 by omega) W
  rw [fl_zero] at m1 m2
  generalize min (max u 0) ((c : Int) - 1) = x at *
  generalize min (max v 0) ((R : Int) - 1) = y at *
  generalize max u 0 = a at *
  generalize max v 0 = b at *
  clear hu hu' hv hv'
  go_enter Tryd.func30, Tryd.ntmps30
  go_wp2
  go_ret
  exact ⟨rfl, rfl⟩
theorem has_any {u v : Int} (hu : -9223372036854775808 ≤ u) (hu' : u ≤ 9223372036854775807) (hv : -9223372036854775808 ≤ v) (hv' : v ≤ 9223372036854775807) {c R : Nat} (hc' : c ≤ 64) (hR' : R ≤ 64) {p : Nat} {A : Option Addr} {k : Nat} {w : World}
    (h0 : w.cell? ⟨p, 0, none⟩ = some (.int .i64 (c : Int))) (h1 : w.cell? ⟨p, 1, none⟩ = some (.slice A R k)) :
    Calls Tryd.prog 33 #[.pointer (some ⟨p, 0, none⟩), .complex .f64 (fl u) (fl v)] w fun e w' => e = .returned (.bool ((decide (0 ≤ u) && decide (u < c)) && (decide (0 ≤ v) && decide (v < R)))) ∧ w' = w := by
  have HU := Lib.hid (fun W => isOf_any hu hu' (show (0 : Int) ≤ c by omega) (show (c : Int) ≤ 64 by omega) W)
  have HV := Lib.hid (fun W => isOf_any hv hv' (show (0 : Int) ≤ R by omega) (show (R : Int) ≤ 64 by omega) W)
  generalize (decide (0 ≤ u) && decide (u < (c : Int))) = a at *
  generalize (decide (0 ≤ v) && decide (v < (R : Int))) = b at *
  generalize fl u = bu at *
  generalize fl v = bv at *
  clear hu hu' hv hv'
  cases a
  all_goals
    go_enter Tryd.func33, Tryd.ntmps33
    go_wp2_with (first
      | (go_at_call 46; (with_reducible refine (HU.out _).mono ?_); rintro e w' ⟨rfl, e2⟩; subst w')
      | (go_at_call 46; (with_reducible refine (HV.out _).mono ?_); rintro e w' ⟨rfl, e2⟩; subst w'))
    go_ret
    exact ⟨rfl, rfl⟩
theorem has_half {v : Nat} {c : Nat} (hc : 1 ≤ c) (hc' : c ≤ 64) {p : Nat} {w : World}
    (h0 : w.cell? ⟨p, 0, none⟩ = some (.int .i64 (c : Int))) :
    Calls Tryd.prog 33 #[.pointer (some ⟨p, 0, none⟩), .complex .f64 4602678819172646912 v] w fun e w' => e = .returned (.bool false) ∧ w' = w := by
  have HU := Lib.hid (fun W => isOf_half (show (1 : Int) ≤ c by omega) (show (c : Int) ≤ 64 by omega) W)
  go_enter Tryd.func33, Tryd.ntmps33
  go_wp2_with (go_at_call 46; refine (HU.out _).mono ?_; rintro e w' ⟨rfl, e2⟩; subst w')
  go_ret
  exact ⟨rfl, rfl⟩
theorem behindTab_any {a : Nat} (ha : a < 64) (w : World) : Calls Tryd.prog 36 #[.float .f64 (fl (a : Int))] w fun e w' => e = .returned (.float .f64 (fl (((a / 8 + 1) * 8 : Nat) : Int))) ∧ w' = w := by
  obtain ⟨q, hq, hf⟩ := fl_tab ha
  have hu := tab_u ⟨a / 8, by omega⟩
  have r1 := fun W => run_float_arith (P := Tryd.prog) W .quo 53 .f64 _ _ _ hq
  have r2 := fun W => run_float_arith (P := Tryd.prog) W .add 53 .f64 _ _ _ hu.1
  have r3 := fun W => run_float_arith (P := Tryd.prog) W .mul 53 .f64 _ _ _ hu.2
  have HF := Lib.hid (fun W => floor_any hf W)
  have e1 : fl ((a / 8 : Nat) : Int) = fl ((⟨a / 8, by omega⟩ : Fin 9).val : Int) := rfl
  have e2 : fl (((⟨a / 8, by omega⟩ : Fin 9).val : Int) + 1) = fl (((a / 8 + 1 : Nat) : Int)) := rfl
  have e3 : fl ((((⟨a / 8, by omega⟩ : Fin 9).val : Int) + 1) * 8) = fl (((a / 8 + 1) * 8 : Nat) : Int) := rfl
  rw [e2] at r2 r3
  rw [e3] at r3
  rw [← e1] at r2
  generalize fl (((a / 8 + 1) * 8 : Nat) : Int) = z3 at *
  generalize fl (((a / 8 + 1 : Nat) : Int)) = z2 at *
  generalize fl ((a / 8 : Nat) : Int) = z1 at *
  generalize fl (a : Int) = z0 at *
  clear hq hu e1 e2 e3 hf
  go_enter Tryd.func36, Tryd.ntmps36
  go_wp2_with (go_at_call 49; refine (HF.out _).mono ?_; rintro e w' ⟨rfl, e2⟩; subst w')
  go_ret
  exact ⟨rfl, rfl⟩
theorem abs_t : ∀ a : Fin 80, bits .andNot .u64 ((fl ((a.val : Int) - 40) : Nat) : Int) 9223372036854775808 = ((fl (((a.val : Int) - 40).natAbs : Int) : Nat) : Int) := by decide +kernel
theorem abs_any {d : Int} (h : -40 ≤ d) (h' : d < 40) (w : World) : Calls Tryd.prog 34 #[.float .f64 (fl d)] w fun e w' => e = .returned (.float .f64 (fl (d.natAbs : Int))) ∧ w' = w := by
  have hb := abs_t ⟨(d + 40).toNat, by omega⟩
  rw [show ((⟨(d + 40).toNat, by omega⟩ : Fin 80).val : Int) - 40 = d from by simp; omega] at hb
  generalize fl d = x at *
  generalize fl (d.natAbs : Int) = y at *
  clear h h'
  go_enter Tryd.func34, Tryd.ntmps34
  go_wp2
  rw [run_callFunc_extern Tryd.func48 (by kernel_rfl) (by kernel_rfl) (by kernel_rfl) (e := Extern.MathFloatBits.float64bits) (by kernel_rfl)]
  rw [show ∀ W : World, (Extern.MathFloatBits.float64bits #[.float .f64 x]).run Tryd.prog W = .ok (.int .u64 (x : Int)) W from fun _ => rfl]
  simp only [Result.andThen]
  rw [Oper.upon_value]
  go_wp2
  rw [run_callFunc_extern Tryd.func47 (by kernel_rfl) (by kernel_rfl) (by kernel_rfl) (e := Extern.MathFloatBits.float64frombits) (by kernel_rfl)]
  rw [show ∀ W : World, (Extern.MathFloatBits.float64frombits #[.int .u64 (y : Int)]).run Tryd.prog W = .ok (.float .f64 y) W from fun _ => rfl]
  simp only [Result.andThen]
  rw [Oper.upon_value]
  go_wp2
  go_ret
  exact ⟨rfl, rfl⟩
end Go.Proofs.YtgknhojjnnljkaaDoor
