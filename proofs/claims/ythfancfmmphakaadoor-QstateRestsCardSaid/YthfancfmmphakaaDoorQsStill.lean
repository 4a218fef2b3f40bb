/- QstateStill: what is heard and says what is, draws nothing: every right state, one by one; a state that isn't right is refused. -/
import Derived.Test.YthfancfmmphakaaDoorQsAlive
namespace Go.Proofs.YthfancfmmphakaaDoor
open Go Go.RowKit
set_option maxRecDepth 100000
set_option maxHeartbeats 4000000

/-- A call that answers v, wherever nothing old has turned. -/
def Says (W : World) (f : FuncId) (args : Array Value) (v : Value) : Prop := ∀ w, Only (fun _ => False) W w → Calls Tryd.prog f args w fun e w' => e = .returned v ∧ Only (fun _ => False) w w'
/-- What stands in the law's variables: the state, what came of the verb, what came of asking. -/
structure Three (w : World) (b c d : Nat) (s m n : List Value) : Prop where
  s : Blk w b 23 s
  m : Blk w c 26 m
  n : Blk w d 26 n
theorem Three.only {w w' : World} {b c d : Nat} {s m n : List Value} (h : Three w b c d s m n) (ho : Only (fun _ => False) w w') : Three w' b c d s m n := ⟨h.s.only ho (fun h => h), h.m.only ho (fun h => h), h.n.only ho (fun h => h)⟩
theorem Three.cells {w : World} {b c d : Nat} {s0 s1 m0 m1 m2 m3 n0 n1 n2 n3 : Value} (h : Three w b c d [s0, s1] [m0, m1, m2, m3] [n0, n1, n2, n3]) :
    (w.cell? ⟨b, 0, none⟩ = some s0 ∧ w.cell? ⟨b, 1, none⟩ = some s1) ∧ (w.cell? ⟨c, 0, none⟩ = some m0 ∧ w.cell? ⟨c, 1, none⟩ = some m1 ∧ w.cell? ⟨c, 2, none⟩ = some m2 ∧ w.cell? ⟨c, 3, none⟩ = some m3) ∧
      (w.cell? ⟨d, 0, none⟩ = some n0 ∧ w.cell? ⟨d, 1, none⟩ = some n1 ∧ w.cell? ⟨d, 2, none⟩ = some n2 ∧ w.cell? ⟨d, 3, none⟩ = some n3) :=
  ⟨⟨h.s.cell 0, h.s.cell 1⟩, ⟨h.m.cell 0, h.m.cell 1, h.m.cell 2, h.m.cell 3⟩, h.n.cell 0, h.n.cell 1, h.n.cell 2, h.n.cell 3⟩
theorem two_cells {w : World} {b : Nat} {t : TypeId} {s0 s1 : Value} (h : Blk w b t [s0, s1]) : w.cell? ⟨b, 0, none⟩ = some s0 ∧ w.cell? ⟨b, 1, none⟩ = some s1 := ⟨h.cell 0, h.cell 1⟩
theorem two_cells_alloc {w : World} {b : Nat} {t : TypeId} {s0 s1 : Value} (h : Blk w b t [s0, s1]) (o : Obj) : (w.alloc o).cell? ⟨b, 0, none⟩ = some s0 ∧ (w.alloc o).cell? ⟨b, 1, none⟩ = some s1 := ⟨(h.alloc o).cell 0, (h.alloc o).cell 1⟩

theorem still_none {W : World} (hT : QsW W) (k : Int) (o is agree : Bool) (hx : qsOf k o = none) : Calls Tryd.prog 3 #[.agg #[.int .i64 k, .bool o], .bool is, .bool agree] W (Fine W) := by
  have HT := Lib.hid hT
  have HX := Lib.hid hx
  have HH : Hid (∀ w, Only (fun _ => False) W w → Calls Tryd.prog 6 #[.agg #[.int .i64 k, .bool o], .bool is, .bool agree] w fun e w' => (∃ u v, e = .returned (.tuple #[.agg #[.int .i64 0, .bool false, .int .i64 0, .bool false], .iface u v])) ∧ Only (fun _ => False) w w') := fun w ho => hear_none (hT.only ho) k o is agree hx
  clear hT hx
  go_enter Tryd.func3, Tryd.ntmps3
  go_wp2_with (first
    | (go_at_call 5; refine (alive_any (HT.out.only (alloc_only _))).mono ?_; rintro e w1 ⟨rfl, ho1⟩; have HO1 := Lib.hid ((alloc_only (W := W) _).trans ho1 (fun _ h => h.elim)); have HB1 := Lib.hid ((Blk.new W 23 [.int .i64 k, .bool o]).only ho1 (fun h => h)); obtain ⟨b0, b1⟩ := two_cells HB1.out; clear ho1)
    | (go_at_call 6; refine (HH.out _ HO1.out).mono ?_; rintro e w2 ⟨⟨u, v, rfl⟩, ho2⟩; have HO2 := Lib.hid (HO1.out.trans ho2 (fun _ h => h.elim)); have HB2 := Lib.hid (HB1.out.only ho2 (fun h => h)); have d0 := fun o => (two_cells_alloc HB2.out o).1; have d1 := fun o => (two_cells_alloc HB2.out o).2; clear ho2)
    | (go_at_call 7; refine (right_any (HT.out.only (HO2.out.alloc _)) k o).mono ?_; rw [HX.out]; rintro e w3 ⟨rfl, ho3⟩)
    | fail)
  go_ret
  exact ⟨rfl, (HO2.out.alloc _).trans ho3 (fun _ h => h.elim)⟩

theorem still_no_for_true {W : World} (hT : QsW W) : Calls Tryd.prog 3 #[.agg #[.int .i64 0, .bool false], .bool true, .bool true] W (Fine W) := by
  have HT := Lib.hid hT
  have HH : Hid (∀ w, Only (fun _ => False) W w → Calls Tryd.prog 6 #[.agg #[.int .i64 0, .bool false], .bool true, .bool true] w fun e w' => e = .returned (.tuple #[.agg #[.int .i64 1, .bool false, .int .i64 1, .bool false], .nilIface]) ∧ Only (fun _ => False) w w') := fun w ho => hear_some (hT.only ho) 0 false true true (s := .no) rfl
  have HA : Hid (∀ w, Only (fun _ => False) W w → Calls Tryd.prog 8 #[.agg #[.int .i64 0, .bool false], .bool true] w fun e w' => e = .returned (.tuple #[.agg #[.int .i64 3, .bool false, .int .i64 1, .bool false], .nilIface]) ∧ Only (fun _ => False) w w') := fun w ho => (ask_some (hT.only ho) 0 false true (s := .no) rfl).mono fun e w' h => by
    rcases h with ⟨r, hr, h⟩ | ⟨hr, _⟩
    · cases hr
      exact h
    · cases hr
  have HRm : Hid (∀ w, Only (fun _ => False) W w → Calls Tryd.prog 7 #[.agg #[.int .i64 1, .bool false]] w fun e w' => e = .returned (.bool true) ∧ Only (fun _ => False) w w') := fun w ho => right_any (hT.only ho) 1 false
  have HRn : Hid (∀ w, Only (fun _ => False) W w → Calls Tryd.prog 7 #[.agg #[.int .i64 3, .bool false]] w fun e w' => e = .returned (.bool true) ∧ Only (fun _ => False) w w') := fun w ho => right_any (hT.only ho) 3 false
  have HC : Hid (∀ w, Calls Tryd.prog 9 #[.agg #[.int .i64 0, .bool false]] w fun e w' => e = .returned (.bool true) ∧ Only (fun _ => False) w w') := fun w => calm_any w 0 false
  have HOn : Hid (∀ w, Calls Tryd.prog 10 #[.agg #[.int .i64 0, .bool false]] w fun e w' => e = .returned (.bool false) ∧ Only (fun _ => False) w w') := fun w => on_any w 0 false
  have hns : ∀ W, (Op.equalIn 10000 23 (.agg #[.int .i64 3, .bool false]) (.agg #[.int .i64 0, .bool false])).run Tryd.prog W = .ok false W := fun W => eq_state W _ _ _ _
  have hgr := guard_state
  clear hT
  go_enter Tryd.func3, Tryd.ntmps3
  go_wp2_with (first
    | (go_at_call 5; refine (alive_any (HT.out.only (alloc_only _))).mono ?_; rintro e w1 ⟨rfl, ho1⟩; have HO1 := Lib.hid ((alloc_only (W := W) _).trans ho1 (fun _ h => h.elim)); have HB1 := Lib.hid ((Blk.new W 23 [.int .i64 0, .bool false]).only ho1 (fun h => h)); obtain ⟨b0, b1⟩ := two_cells HB1.out; clear ho1)
    | (go_at_call 6; refine (HH.out _ HO1.out).mono ?_; rintro e w2 ⟨rfl, ho2⟩; have HO2 := Lib.hid (HO1.out.trans ho2 (fun _ h => h.elim)); have HB2 := Lib.hid (HB1.out.only ho2 (fun h => h)); have d0 := fun o => (two_cells_alloc HB2.out o).1; have d1 := fun o => (two_cells_alloc HB2.out o).2; clear ho2)
    | (go_at_call 8; refine (HA.out _ (HO2.out.alloc _)).mono ?_; rintro e w3 ⟨rfl, ho3⟩; have HO3 := Lib.hid ((HO2.out.alloc _).trans ho3 (fun _ h => h.elim)); have HQ3 := Lib.hid (Three.mk (((HB2.out.alloc _).only ho3 (fun h => h)).alloc (.cells #[.int .i64 3, .bool false, .int .i64 1, .bool false] 26)) (((Blk.new w2 26 [.int .i64 1, .bool false, .int .i64 1, .bool false]).only ho3 (fun h => h)).alloc (.cells #[.int .i64 3, .bool false, .int .i64 1, .bool false] 26)) (Blk.new w3 26 [.int .i64 3, .bool false, .int .i64 1, .bool false])); have HO3' := Lib.hid (HO3.out.alloc (.cells #[.int .i64 3, .bool false, .int .i64 1, .bool false] 26)); obtain ⟨⟨x0, x1⟩, ⟨y0, y1, y2, y3⟩, z0, z1, z2, z3⟩ := HQ3.out.cells; clear ho3)
    | ((with_reducible show Calls _ 7 _ _ _); (with_reducible refine (HRm.out _ HO3'.out).mono ?_); rintro e w4 ⟨rfl, ho⟩; have HO4 := Lib.hid (HO3'.out.trans ho (fun _ h => h.elim)); have HQ4 := Lib.hid (HQ3.out.only ho); obtain ⟨⟨x0, x1⟩, ⟨y0, y1, y2, y3⟩, z0, z1, z2, z3⟩ := HQ4.out.cells; clear ho)
    | ((with_reducible show Calls _ 7 _ _ _); (with_reducible refine (HRn.out _ HO4.out).mono ?_); rintro e w5 ⟨rfl, ho⟩; have HO5 := Lib.hid (HO4.out.trans ho (fun _ h => h.elim)); have HQ5 := Lib.hid (HQ4.out.only ho); obtain ⟨⟨x0, x1⟩, ⟨y0, y1, y2, y3⟩, z0, z1, z2, z3⟩ := HQ5.out.cells; clear ho)
    | ((with_reducible show Calls _ 9 _ _ _); (with_reducible refine (HC.out _).mono ?_); rintro e w6 ⟨rfl, ho⟩; have HO6 := Lib.hid (HO5.out.trans ho (fun _ h => h.elim)); have HQ6 := Lib.hid (HQ5.out.only ho); obtain ⟨⟨x0, x1⟩, ⟨y0, y1, y2, y3⟩, z0, z1, z2, z3⟩ := HQ6.out.cells; clear ho)
    | ((with_reducible show Calls _ 10 _ _ _); (with_reducible refine (HOn.out _).mono ?_); rintro e w7 ⟨rfl, ho⟩; have HO7 := Lib.hid (HO6.out.trans ho (fun _ h => h.elim)); have HQ7 := Lib.hid (HQ6.out.only ho); obtain ⟨⟨x0, x1⟩, ⟨y0, y1, y2, y3⟩, z0, z1, z2, z3⟩ := HQ7.out.cells; clear ho)
    | fail)
  go_ret
  exact ⟨rfl, HO7.out⟩
theorem still_no_for_false {W : World} (hT : QsW W) : Calls Tryd.prog 3 #[.agg #[.int .i64 0, .bool false], .bool true, .bool false] W (Fine W) := by
  have HT := Lib.hid hT
  have HH : Hid (∀ w, Only (fun _ => False) W w → Calls Tryd.prog 6 #[.agg #[.int .i64 0, .bool false], .bool true, .bool false] w fun e w' => e = .returned (.tuple #[.agg #[.int .i64 0, .bool false, .int .i64 2, .bool false], .nilIface]) ∧ Only (fun _ => False) w w') := fun w ho => hear_some (hT.only ho) 0 false true false (s := .no) rfl
  have HA : Hid (∀ w, Only (fun _ => False) W w → Calls Tryd.prog 8 #[.agg #[.int .i64 0, .bool false], .bool true] w fun e w' => e = .returned (.tuple #[.agg #[.int .i64 3, .bool false, .int .i64 1, .bool false], .nilIface]) ∧ Only (fun _ => False) w w') := fun w ho => (ask_some (hT.only ho) 0 false true (s := .no) rfl).mono fun e w' h => by
    rcases h with ⟨r, hr, h⟩ | ⟨hr, _⟩
    · cases hr
      exact h
    · cases hr
  have HRm : Hid (∀ w, Only (fun _ => False) W w → Calls Tryd.prog 7 #[.agg #[.int .i64 0, .bool false]] w fun e w' => e = .returned (.bool true) ∧ Only (fun _ => False) w w') := fun w ho => right_any (hT.only ho) 0 false
  have HRn : Hid (∀ w, Only (fun _ => False) W w → Calls Tryd.prog 7 #[.agg #[.int .i64 3, .bool false]] w fun e w' => e = .returned (.bool true) ∧ Only (fun _ => False) w w') := fun w ho => right_any (hT.only ho) 3 false
  have HC : Hid (∀ w, Calls Tryd.prog 9 #[.agg #[.int .i64 0, .bool false]] w fun e w' => e = .returned (.bool true) ∧ Only (fun _ => False) w w') := fun w => calm_any w 0 false
  have HOn : Hid (∀ w, Calls Tryd.prog 10 #[.agg #[.int .i64 0, .bool false]] w fun e w' => e = .returned (.bool false) ∧ Only (fun _ => False) w w') := fun w => on_any w 0 false
  have hns : ∀ W, (Op.equalIn 10000 23 (.agg #[.int .i64 3, .bool false]) (.agg #[.int .i64 0, .bool false])).run Tryd.prog W = .ok false W := fun W => eq_state W _ _ _ _
  have hgr := guard_state
  clear hT
  go_enter Tryd.func3, Tryd.ntmps3
  go_wp2_with (first
    | (go_at_call 5; refine (alive_any (HT.out.only (alloc_only _))).mono ?_; rintro e w1 ⟨rfl, ho1⟩; have HO1 := Lib.hid ((alloc_only (W := W) _).trans ho1 (fun _ h => h.elim)); have HB1 := Lib.hid ((Blk.new W 23 [.int .i64 0, .bool false]).only ho1 (fun h => h)); obtain ⟨b0, b1⟩ := two_cells HB1.out; clear ho1)
    | (go_at_call 6; refine (HH.out _ HO1.out).mono ?_; rintro e w2 ⟨rfl, ho2⟩; have HO2 := Lib.hid (HO1.out.trans ho2 (fun _ h => h.elim)); have HB2 := Lib.hid (HB1.out.only ho2 (fun h => h)); have d0 := fun o => (two_cells_alloc HB2.out o).1; have d1 := fun o => (two_cells_alloc HB2.out o).2; clear ho2)
    | (go_at_call 8; refine (HA.out _ (HO2.out.alloc _)).mono ?_; rintro e w3 ⟨rfl, ho3⟩; have HO3 := Lib.hid ((HO2.out.alloc _).trans ho3 (fun _ h => h.elim)); have HQ3 := Lib.hid (Three.mk (((HB2.out.alloc _).only ho3 (fun h => h)).alloc (.cells #[.int .i64 3, .bool false, .int .i64 1, .bool false] 26)) (((Blk.new w2 26 [.int .i64 0, .bool false, .int .i64 2, .bool false]).only ho3 (fun h => h)).alloc (.cells #[.int .i64 3, .bool false, .int .i64 1, .bool false] 26)) (Blk.new w3 26 [.int .i64 3, .bool false, .int .i64 1, .bool false])); have HO3' := Lib.hid (HO3.out.alloc (.cells #[.int .i64 3, .bool false, .int .i64 1, .bool false] 26)); obtain ⟨⟨x0, x1⟩, ⟨y0, y1, y2, y3⟩, z0, z1, z2, z3⟩ := HQ3.out.cells; clear ho3)
    | ((with_reducible show Calls _ 7 _ _ _); (with_reducible refine (HRm.out _ HO3'.out).mono ?_); rintro e w4 ⟨rfl, ho⟩; have HO4 := Lib.hid (HO3'.out.trans ho (fun _ h => h.elim)); have HQ4 := Lib.hid (HQ3.out.only ho); obtain ⟨⟨x0, x1⟩, ⟨y0, y1, y2, y3⟩, z0, z1, z2, z3⟩ := HQ4.out.cells; clear ho)
    | ((with_reducible show Calls _ 7 _ _ _); (with_reducible refine (HRn.out _ HO4.out).mono ?_); rintro e w5 ⟨rfl, ho⟩; have HO5 := Lib.hid (HO4.out.trans ho (fun _ h => h.elim)); have HQ5 := Lib.hid (HQ4.out.only ho); obtain ⟨⟨x0, x1⟩, ⟨y0, y1, y2, y3⟩, z0, z1, z2, z3⟩ := HQ5.out.cells; clear ho)
    | ((with_reducible show Calls _ 9 _ _ _); (with_reducible refine (HC.out _).mono ?_); rintro e w6 ⟨rfl, ho⟩; have HO6 := Lib.hid (HO5.out.trans ho (fun _ h => h.elim)); have HQ6 := Lib.hid (HQ5.out.only ho); obtain ⟨⟨x0, x1⟩, ⟨y0, y1, y2, y3⟩, z0, z1, z2, z3⟩ := HQ6.out.cells; clear ho)
    | ((with_reducible show Calls _ 10 _ _ _); (with_reducible refine (HOn.out _).mono ?_); rintro e w7 ⟨rfl, ho⟩; have HO7 := Lib.hid (HO6.out.trans ho (fun _ h => h.elim)); have HQ7 := Lib.hid (HQ6.out.only ho); obtain ⟨⟨x0, x1⟩, ⟨y0, y1, y2, y3⟩, z0, z1, z2, z3⟩ := HQ7.out.cells; clear ho)
    | fail)
  go_ret
  exact ⟨rfl, HO7.out⟩
theorem still_no_against {W : World} (hT : QsW W) (agree : Bool) : Calls Tryd.prog 3 #[.agg #[.int .i64 0, .bool false], .bool false, .bool agree] W (Fine W) := by
  have HT := Lib.hid hT
  have HH : Hid (∀ w, Only (fun _ => False) W w → Calls Tryd.prog 6 #[.agg #[.int .i64 0, .bool false], .bool false, .bool agree] w fun e w' => e = .returned (.tuple #[.agg #[.int .i64 0, .bool false, .int .i64 0, .bool false], .nilIface]) ∧ Only (fun _ => False) w w') := fun w ho => hear_some (hT.only ho) 0 false false agree (s := .no) rfl
  have HA : Hid (∀ w, Only (fun _ => False) W w → Calls Tryd.prog 8 #[.agg #[.int .i64 0, .bool false], .bool false] w fun e w' => (∃ u v, e = .returned (.tuple #[.agg #[.int .i64 0, .bool false, .int .i64 0, .bool false], .iface u v])) ∧ Only (fun _ => False) w w') := fun w ho => (ask_some (hT.only ho) 0 false false (s := .no) rfl).mono fun e w' h => by
    rcases h with ⟨r, hr, _⟩ | ⟨_, h⟩
    · cases hr
    · exact h
  have HRm : Hid (∀ w, Only (fun _ => False) W w → Calls Tryd.prog 7 #[.agg #[.int .i64 0, .bool false]] w fun e w' => e = .returned (.bool true) ∧ Only (fun _ => False) w w') := fun w ho => right_any (hT.only ho) 0 false
  have HC : Hid (∀ w, Calls Tryd.prog 9 #[.agg #[.int .i64 0, .bool false]] w fun e w' => e = .returned (.bool true) ∧ Only (fun _ => False) w w') := fun w => calm_any w 0 false
  have HOn : Hid (∀ w, Calls Tryd.prog 10 #[.agg #[.int .i64 0, .bool false]] w fun e w' => e = .returned (.bool false) ∧ Only (fun _ => False) w w') := fun w => on_any w 0 false
  have hms : ∀ W, (Op.equalIn 10000 23 (.agg #[.int .i64 0, .bool false]) (.agg #[.int .i64 0, .bool false])).run Tryd.prog W = .ok true W := fun W => eq_state W _ _ _ _
  have hgr := guard_state
  clear hT
  go_enter Tryd.func3, Tryd.ntmps3
  go_wp2_with (first
    | (go_at_call 5; refine (alive_any (HT.out.only (alloc_only _))).mono ?_; rintro e w1 ⟨rfl, ho1⟩; have HO1 := Lib.hid ((alloc_only (W := W) _).trans ho1 (fun _ h => h.elim)); have HB1 := Lib.hid ((Blk.new W 23 [.int .i64 0, .bool false]).only ho1 (fun h => h)); obtain ⟨b0, b1⟩ := two_cells HB1.out; clear ho1)
    | (go_at_call 6; refine (HH.out _ HO1.out).mono ?_; rintro e w2 ⟨rfl, ho2⟩; have HO2 := Lib.hid (HO1.out.trans ho2 (fun _ h => h.elim)); have HB2 := Lib.hid (HB1.out.only ho2 (fun h => h)); have d0 := fun o => (two_cells_alloc HB2.out o).1; have d1 := fun o => (two_cells_alloc HB2.out o).2; clear ho2)
    | (go_at_call 8; refine (HA.out _ (HO2.out.alloc _)).mono ?_; rintro e w3 ⟨⟨u, v, rfl⟩, ho3⟩; have HO3 := Lib.hid ((HO2.out.alloc _).trans ho3 (fun _ h => h.elim)); have HQ3 := Lib.hid (Three.mk (((HB2.out.alloc _).only ho3 (fun h => h)).alloc (.cells #[.int .i64 0, .bool false, .int .i64 0, .bool false] 26)) (((Blk.new w2 26 [.int .i64 0, .bool false, .int .i64 0, .bool false]).only ho3 (fun h => h)).alloc (.cells #[.int .i64 0, .bool false, .int .i64 0, .bool false] 26)) (Blk.new w3 26 [.int .i64 0, .bool false, .int .i64 0, .bool false])); have HO3' := Lib.hid (HO3.out.alloc (.cells #[.int .i64 0, .bool false, .int .i64 0, .bool false] 26)); obtain ⟨⟨x0, x1⟩, ⟨y0, y1, y2, y3⟩, z0, z1, z2, z3⟩ := HQ3.out.cells; clear ho3)
    | ((with_reducible show Calls _ 7 _ _ _); (with_reducible refine (HRm.out _ HO3'.out).mono ?_); rintro e w4 ⟨rfl, ho⟩; have HO4 := Lib.hid (HO3'.out.trans ho (fun _ h => h.elim)); have HQ4 := Lib.hid (HQ3.out.only ho); obtain ⟨⟨x0, x1⟩, ⟨y0, y1, y2, y3⟩, z0, z1, z2, z3⟩ := HQ4.out.cells; clear ho)
    | ((with_reducible show Calls _ 9 _ _ _); (with_reducible refine (HC.out _).mono ?_); rintro e w5 ⟨rfl, ho⟩; have HO5 := Lib.hid (HO4.out.trans ho (fun _ h => h.elim)); have HQ5 := Lib.hid (HQ4.out.only ho); obtain ⟨⟨x0, x1⟩, ⟨y0, y1, y2, y3⟩, z0, z1, z2, z3⟩ := HQ5.out.cells; clear ho)
    | ((with_reducible show Calls _ 10 _ _ _); (with_reducible refine (HOn.out _).mono ?_); rintro e w6 ⟨rfl, ho⟩; have HO6 := Lib.hid (HO5.out.trans ho (fun _ h => h.elim)); have HQ6 := Lib.hid (HQ5.out.only ho); obtain ⟨⟨x0, x1⟩, ⟨y0, y1, y2, y3⟩, z0, z1, z2, z3⟩ := HQ6.out.cells; clear ho)
    | fail)
  go_ret
  exact ⟨rfl, HO6.out⟩
theorem still_yes_for {W : World} (hT : QsW W) (agree : Bool) : Calls Tryd.prog 3 #[.agg #[.int .i64 1, .bool false], .bool true, .bool agree] W (Fine W) := by
  have HT := Lib.hid hT
  have HH : Hid (∀ w, Only (fun _ => False) W w → Calls Tryd.prog 6 #[.agg #[.int .i64 1, .bool false], .bool true, .bool agree] w fun e w' => e = .returned (.tuple #[.agg #[.int .i64 1, .bool false, .int .i64 0, .bool false], .nilIface]) ∧ Only (fun _ => False) w w') := fun w ho => hear_some (hT.only ho) 1 false true agree (s := .yes) rfl
  have HA : Hid (∀ w, Only (fun _ => False) W w → Calls Tryd.prog 8 #[.agg #[.int .i64 1, .bool false], .bool true] w fun e w' => (∃ u v, e = .returned (.tuple #[.agg #[.int .i64 0, .bool false, .int .i64 0, .bool false], .iface u v])) ∧ Only (fun _ => False) w w') := fun w ho => (ask_some (hT.only ho) 1 false true (s := .yes) rfl).mono fun e w' h => by
    rcases h with ⟨r, hr, _⟩ | ⟨_, h⟩
    · cases hr
    · exact h
  have HRm : Hid (∀ w, Only (fun _ => False) W w → Calls Tryd.prog 7 #[.agg #[.int .i64 1, .bool false]] w fun e w' => e = .returned (.bool true) ∧ Only (fun _ => False) w w') := fun w ho => right_any (hT.only ho) 1 false
  have HC : Hid (∀ w, Calls Tryd.prog 9 #[.agg #[.int .i64 1, .bool false]] w fun e w' => e = .returned (.bool true) ∧ Only (fun _ => False) w w') := fun w => calm_any w 1 false
  have HOn : Hid (∀ w, Calls Tryd.prog 10 #[.agg #[.int .i64 1, .bool false]] w fun e w' => e = .returned (.bool true) ∧ Only (fun _ => False) w w') := fun w => on_any w 1 false
  have hms : ∀ W, (Op.equalIn 10000 23 (.agg #[.int .i64 1, .bool false]) (.agg #[.int .i64 1, .bool false])).run Tryd.prog W = .ok true W := fun W => eq_state W _ _ _ _
  have hgr := guard_state
  clear hT
  go_enter Tryd.func3, Tryd.ntmps3
  go_wp2_with (first
    | (go_at_call 5; refine (alive_any (HT.out.only (alloc_only _))).mono ?_; rintro e w1 ⟨rfl, ho1⟩; have HO1 := Lib.hid ((alloc_only (W := W) _).trans ho1 (fun _ h => h.elim)); have HB1 := Lib.hid ((Blk.new W 23 [.int .i64 1, .bool false]).only ho1 (fun h => h)); obtain ⟨b0, b1⟩ := two_cells HB1.out; clear ho1)
    | (go_at_call 6; refine (HH.out _ HO1.out).mono ?_; rintro e w2 ⟨rfl, ho2⟩; have HO2 := Lib.hid (HO1.out.trans ho2 (fun _ h => h.elim)); have HB2 := Lib.hid (HB1.out.only ho2 (fun h => h)); have d0 := fun o => (two_cells_alloc HB2.out o).1; have d1 := fun o => (two_cells_alloc HB2.out o).2; clear ho2)
    | (go_at_call 8; refine (HA.out _ (HO2.out.alloc _)).mono ?_; rintro e w3 ⟨⟨u, v, rfl⟩, ho3⟩; have HO3 := Lib.hid ((HO2.out.alloc _).trans ho3 (fun _ h => h.elim)); have HQ3 := Lib.hid (Three.mk (((HB2.out.alloc _).only ho3 (fun h => h)).alloc (.cells #[.int .i64 0, .bool false, .int .i64 0, .bool false] 26)) (((Blk.new w2 26 [.int .i64 1, .bool false, .int .i64 0, .bool false]).only ho3 (fun h => h)).alloc (.cells #[.int .i64 0, .bool false, .int .i64 0, .bool false] 26)) (Blk.new w3 26 [.int .i64 0, .bool false, .int .i64 0, .bool false])); have HO3' := Lib.hid (HO3.out.alloc (.cells #[.int .i64 0, .bool false, .int .i64 0, .bool false] 26)); obtain ⟨⟨x0, x1⟩, ⟨y0, y1, y2, y3⟩, z0, z1, z2, z3⟩ := HQ3.out.cells; clear ho3)
    | ((with_reducible show Calls _ 7 _ _ _); (with_reducible refine (HRm.out _ HO3'.out).mono ?_); rintro e w4 ⟨rfl, ho⟩; have HO4 := Lib.hid (HO3'.out.trans ho (fun _ h => h.elim)); have HQ4 := Lib.hid (HQ3.out.only ho); obtain ⟨⟨x0, x1⟩, ⟨y0, y1, y2, y3⟩, z0, z1, z2, z3⟩ := HQ4.out.cells; clear ho)
    | ((with_reducible show Calls _ 9 _ _ _); (with_reducible refine (HC.out _).mono ?_); rintro e w5 ⟨rfl, ho⟩; have HO5 := Lib.hid (HO4.out.trans ho (fun _ h => h.elim)); have HQ5 := Lib.hid (HQ4.out.only ho); obtain ⟨⟨x0, x1⟩, ⟨y0, y1, y2, y3⟩, z0, z1, z2, z3⟩ := HQ5.out.cells; clear ho)
    | ((with_reducible show Calls _ 10 _ _ _); (with_reducible refine (HOn.out _).mono ?_); rintro e w6 ⟨rfl, ho⟩; have HO6 := Lib.hid (HO5.out.trans ho (fun _ h => h.elim)); have HQ6 := Lib.hid (HQ5.out.only ho); obtain ⟨⟨x0, x1⟩, ⟨y0, y1, y2, y3⟩, z0, z1, z2, z3⟩ := HQ6.out.cells; clear ho)
    | fail)
  go_ret
  exact ⟨rfl, HO6.out⟩
theorem still_yes_against {W : World} (hT : QsW W) (agree : Bool) : Calls Tryd.prog 3 #[.agg #[.int .i64 1, .bool false], .bool false, .bool agree] W (Fine W) := by
  have HT := Lib.hid hT
  have HH : Hid (∀ w, Only (fun _ => False) W w → Calls Tryd.prog 6 #[.agg #[.int .i64 1, .bool false], .bool false, .bool agree] w fun e w' => e = .returned (.tuple #[.agg #[.int .i64 0, .bool false, .int .i64 2, .bool false], .nilIface]) ∧ Only (fun _ => False) w w') := fun w ho => hear_some (hT.only ho) 1 false false agree (s := .yes) rfl
  have HA : Hid (∀ w, Only (fun _ => False) W w → Calls Tryd.prog 8 #[.agg #[.int .i64 1, .bool false], .bool false] w fun e w' => e = .returned (.tuple #[.agg #[.int .i64 2, .bool false, .int .i64 2, .bool false], .nilIface]) ∧ Only (fun _ => False) w w') := fun w ho => (ask_some (hT.only ho) 1 false false (s := .yes) rfl).mono fun e w' h => by
    rcases h with ⟨r, hr, h⟩ | ⟨hr, _⟩
    · cases hr
      exact h
    · cases hr
  have HRm : Hid (∀ w, Only (fun _ => False) W w → Calls Tryd.prog 7 #[.agg #[.int .i64 0, .bool false]] w fun e w' => e = .returned (.bool true) ∧ Only (fun _ => False) w w') := fun w ho => right_any (hT.only ho) 0 false
  have HRn : Hid (∀ w, Only (fun _ => False) W w → Calls Tryd.prog 7 #[.agg #[.int .i64 2, .bool false]] w fun e w' => e = .returned (.bool true) ∧ Only (fun _ => False) w w') := fun w ho => right_any (hT.only ho) 2 false
  have HC : Hid (∀ w, Calls Tryd.prog 9 #[.agg #[.int .i64 1, .bool false]] w fun e w' => e = .returned (.bool true) ∧ Only (fun _ => False) w w') := fun w => calm_any w 1 false
  have HOn : Hid (∀ w, Calls Tryd.prog 10 #[.agg #[.int .i64 1, .bool false]] w fun e w' => e = .returned (.bool true) ∧ Only (fun _ => False) w w') := fun w => on_any w 1 false
  have hns : ∀ W, (Op.equalIn 10000 23 (.agg #[.int .i64 2, .bool false]) (.agg #[.int .i64 1, .bool false])).run Tryd.prog W = .ok false W := fun W => eq_state W _ _ _ _
  have hgr := guard_state
  clear hT
  go_enter Tryd.func3, Tryd.ntmps3
  go_wp2_with (first
    | (go_at_call 5; refine (alive_any (HT.out.only (alloc_only _))).mono ?_; rintro e w1 ⟨rfl, ho1⟩; have HO1 := Lib.hid ((alloc_only (W := W) _).trans ho1 (fun _ h => h.elim)); have HB1 := Lib.hid ((Blk.new W 23 [.int .i64 1, .bool false]).only ho1 (fun h => h)); obtain ⟨b0, b1⟩ := two_cells HB1.out; clear ho1)
    | (go_at_call 6; refine (HH.out _ HO1.out).mono ?_; rintro e w2 ⟨rfl, ho2⟩; have HO2 := Lib.hid (HO1.out.trans ho2 (fun _ h => h.elim)); have HB2 := Lib.hid (HB1.out.only ho2 (fun h => h)); have d0 := fun o => (two_cells_alloc HB2.out o).1; have d1 := fun o => (two_cells_alloc HB2.out o).2; clear ho2)
    | (go_at_call 8; refine (HA.out _ (HO2.out.alloc _)).mono ?_; rintro e w3 ⟨rfl, ho3⟩; have HO3 := Lib.hid ((HO2.out.alloc _).trans ho3 (fun _ h => h.elim)); have HQ3 := Lib.hid (Three.mk (((HB2.out.alloc _).only ho3 (fun h => h)).alloc (.cells #[.int .i64 2, .bool false, .int .i64 2, .bool false] 26)) (((Blk.new w2 26 [.int .i64 0, .bool false, .int .i64 2, .bool false]).only ho3 (fun h => h)).alloc (.cells #[.int .i64 2, .bool false, .int .i64 2, .bool false] 26)) (Blk.new w3 26 [.int .i64 2, .bool false, .int .i64 2, .bool false])); have HO3' := Lib.hid (HO3.out.alloc (.cells #[.int .i64 2, .bool false, .int .i64 2, .bool false] 26)); obtain ⟨⟨x0, x1⟩, ⟨y0, y1, y2, y3⟩, z0, z1, z2, z3⟩ := HQ3.out.cells; clear ho3)
    | ((with_reducible show Calls _ 7 _ _ _); (with_reducible refine (HRm.out _ HO3'.out).mono ?_); rintro e w4 ⟨rfl, ho⟩; have HO4 := Lib.hid (HO3'.out.trans ho (fun _ h => h.elim)); have HQ4 := Lib.hid (HQ3.out.only ho); obtain ⟨⟨x0, x1⟩, ⟨y0, y1, y2, y3⟩, z0, z1, z2, z3⟩ := HQ4.out.cells; clear ho)
    | ((with_reducible show Calls _ 7 _ _ _); (with_reducible refine (HRn.out _ HO4.out).mono ?_); rintro e w5 ⟨rfl, ho⟩; have HO5 := Lib.hid (HO4.out.trans ho (fun _ h => h.elim)); have HQ5 := Lib.hid (HQ4.out.only ho); obtain ⟨⟨x0, x1⟩, ⟨y0, y1, y2, y3⟩, z0, z1, z2, z3⟩ := HQ5.out.cells; clear ho)
    | ((with_reducible show Calls _ 9 _ _ _); (with_reducible refine (HC.out _).mono ?_); rintro e w6 ⟨rfl, ho⟩; have HO6 := Lib.hid (HO5.out.trans ho (fun _ h => h.elim)); have HQ6 := Lib.hid (HQ5.out.only ho); obtain ⟨⟨x0, x1⟩, ⟨y0, y1, y2, y3⟩, z0, z1, z2, z3⟩ := HQ6.out.cells; clear ho)
    | ((with_reducible show Calls _ 10 _ _ _); (with_reducible refine (HOn.out _).mono ?_); rintro e w7 ⟨rfl, ho⟩; have HO7 := Lib.hid (HO6.out.trans ho (fun _ h => h.elim)); have HQ7 := Lib.hid (HQ6.out.only ho); obtain ⟨⟨x0, x1⟩, ⟨y0, y1, y2, y3⟩, z0, z1, z2, z3⟩ := HQ7.out.cells; clear ho)
    | fail)
  go_ret
  exact ⟨rfl, HO7.out⟩
theorem still_wn_for {W : World} (hT : QsW W) (agree : Bool) : Calls Tryd.prog 3 #[.agg #[.int .i64 2, .bool false], .bool true, .bool agree] W (Fine W) := by
  have HT := Lib.hid hT
  have HH : Hid (∀ w, Only (fun _ => False) W w → Calls Tryd.prog 6 #[.agg #[.int .i64 2, .bool false], .bool true, .bool agree] w fun e w' => e = .returned (.tuple #[.agg #[.int .i64 0, .bool false, .int .i64 0, .bool true], .nilIface]) ∧ Only (fun _ => False) w w') := fun w ho => hear_some (hT.only ho) 2 false true agree (s := .wn) rfl
  have HA : Hid (∀ w, Only (fun _ => False) W w → Calls Tryd.prog 8 #[.agg #[.int .i64 2, .bool false], .bool true] w fun e w' => e = .returned (.tuple #[.agg #[.int .i64 2, .bool true, .int .i64 0, .bool false], .nilIface]) ∧ Only (fun _ => False) w w') := fun w ho => (ask_some (hT.only ho) 2 false true (s := .wn) rfl).mono fun e w' h => by
    rcases h with ⟨r, hr, h⟩ | ⟨hr, _⟩
    · cases hr
      exact h
    · cases hr
  have HRm : Hid (∀ w, Only (fun _ => False) W w → Calls Tryd.prog 7 #[.agg #[.int .i64 0, .bool false]] w fun e w' => e = .returned (.bool true) ∧ Only (fun _ => False) w w') := fun w ho => right_any (hT.only ho) 0 false
  have HRn : Hid (∀ w, Only (fun _ => False) W w → Calls Tryd.prog 7 #[.agg #[.int .i64 2, .bool true]] w fun e w' => e = .returned (.bool true) ∧ Only (fun _ => False) w w') := fun w ho => right_any (hT.only ho) 2 true
  have HC : Hid (∀ w, Calls Tryd.prog 9 #[.agg #[.int .i64 2, .bool false]] w fun e w' => e = .returned (.bool false) ∧ Only (fun _ => False) w w') := fun w => calm_any w 2 false
  have hns : ∀ W, (Op.equalIn 10000 23 (.agg #[.int .i64 2, .bool true]) (.agg #[.int .i64 2, .bool false])).run Tryd.prog W = .ok false W := fun W => eq_state W _ _ _ _
  have hgr := guard_state
  clear hT
  go_enter Tryd.func3, Tryd.ntmps3
  go_wp2_with (first
    | (go_at_call 5; refine (alive_any (HT.out.only (alloc_only _))).mono ?_; rintro e w1 ⟨rfl, ho1⟩; have HO1 := Lib.hid ((alloc_only (W := W) _).trans ho1 (fun _ h => h.elim)); have HB1 := Lib.hid ((Blk.new W 23 [.int .i64 2, .bool false]).only ho1 (fun h => h)); obtain ⟨b0, b1⟩ := two_cells HB1.out; clear ho1)
    | (go_at_call 6; refine (HH.out _ HO1.out).mono ?_; rintro e w2 ⟨rfl, ho2⟩; have HO2 := Lib.hid (HO1.out.trans ho2 (fun _ h => h.elim)); have HB2 := Lib.hid (HB1.out.only ho2 (fun h => h)); have d0 := fun o => (two_cells_alloc HB2.out o).1; have d1 := fun o => (two_cells_alloc HB2.out o).2; clear ho2)
    | (go_at_call 8; refine (HA.out _ (HO2.out.alloc _)).mono ?_; rintro e w3 ⟨rfl, ho3⟩; have HO3 := Lib.hid ((HO2.out.alloc _).trans ho3 (fun _ h => h.elim)); have HQ3 := Lib.hid (Three.mk (((HB2.out.alloc _).only ho3 (fun h => h)).alloc (.cells #[.int .i64 2, .bool true, .int .i64 0, .bool false] 26)) (((Blk.new w2 26 [.int .i64 0, .bool false, .int .i64 0, .bool true]).only ho3 (fun h => h)).alloc (.cells #[.int .i64 2, .bool true, .int .i64 0, .bool false] 26)) (Blk.new w3 26 [.int .i64 2, .bool true, .int .i64 0, .bool false])); have HO3' := Lib.hid (HO3.out.alloc (.cells #[.int .i64 2, .bool true, .int .i64 0, .bool false] 26)); obtain ⟨⟨x0, x1⟩, ⟨y0, y1, y2, y3⟩, z0, z1, z2, z3⟩ := HQ3.out.cells; clear ho3)
    | ((with_reducible show Calls _ 7 _ _ _); (with_reducible refine (HRm.out _ HO3'.out).mono ?_); rintro e w4 ⟨rfl, ho⟩; have HO4 := Lib.hid (HO3'.out.trans ho (fun _ h => h.elim)); have HQ4 := Lib.hid (HQ3.out.only ho); obtain ⟨⟨x0, x1⟩, ⟨y0, y1, y2, y3⟩, z0, z1, z2, z3⟩ := HQ4.out.cells; clear ho)
    | ((with_reducible show Calls _ 7 _ _ _); (with_reducible refine (HRn.out _ HO4.out).mono ?_); rintro e w5 ⟨rfl, ho⟩; have HO5 := Lib.hid (HO4.out.trans ho (fun _ h => h.elim)); have HQ5 := Lib.hid (HQ4.out.only ho); obtain ⟨⟨x0, x1⟩, ⟨y0, y1, y2, y3⟩, z0, z1, z2, z3⟩ := HQ5.out.cells; clear ho)
    | ((with_reducible show Calls _ 9 _ _ _); (with_reducible refine (HC.out _).mono ?_); rintro e w6 ⟨rfl, ho⟩; have HO6 := Lib.hid (HO5.out.trans ho (fun _ h => h.elim)); have HQ6 := Lib.hid (HQ5.out.only ho); obtain ⟨⟨x0, x1⟩, ⟨y0, y1, y2, y3⟩, z0, z1, z2, z3⟩ := HQ6.out.cells; clear ho)
    | fail)
  go_ret
  exact ⟨rfl, HO6.out⟩
theorem still_wn_against {W : World} (hT : QsW W) (agree : Bool) : Calls Tryd.prog 3 #[.agg #[.int .i64 2, .bool false], .bool false, .bool agree] W (Fine W) := by
  have HT := Lib.hid hT
  have HH : Hid (∀ w, Only (fun _ => False) W w → Calls Tryd.prog 6 #[.agg #[.int .i64 2, .bool false], .bool false, .bool agree] w fun e w' => e = .returned (.tuple #[.agg #[.int .i64 0, .bool false, .int .i64 0, .bool false], .nilIface]) ∧ Only (fun _ => False) w w') := fun w ho => hear_some (hT.only ho) 2 false false agree (s := .wn) rfl
  have HA : Hid (∀ w, Only (fun _ => False) W w → Calls Tryd.prog 8 #[.agg #[.int .i64 2, .bool false], .bool false] w fun e w' => (∃ u v, e = .returned (.tuple #[.agg #[.int .i64 0, .bool false, .int .i64 0, .bool false], .iface u v])) ∧ Only (fun _ => False) w w') := fun w ho => (ask_some (hT.only ho) 2 false false (s := .wn) rfl).mono fun e w' h => by
    rcases h with ⟨r, hr, _⟩ | ⟨_, h⟩
    · cases hr
    · exact h
  have HRm : Hid (∀ w, Only (fun _ => False) W w → Calls Tryd.prog 7 #[.agg #[.int .i64 0, .bool false]] w fun e w' => e = .returned (.bool true) ∧ Only (fun _ => False) w w') := fun w ho => right_any (hT.only ho) 0 false
  have HC : Hid (∀ w, Calls Tryd.prog 9 #[.agg #[.int .i64 2, .bool false]] w fun e w' => e = .returned (.bool false) ∧ Only (fun _ => False) w w') := fun w => calm_any w 2 false
  have hgr := guard_state
  clear hT
  go_enter Tryd.func3, Tryd.ntmps3
  go_wp2_with (first
    | (go_at_call 5; refine (alive_any (HT.out.only (alloc_only _))).mono ?_; rintro e w1 ⟨rfl, ho1⟩; have HO1 := Lib.hid ((alloc_only (W := W) _).trans ho1 (fun _ h => h.elim)); have HB1 := Lib.hid ((Blk.new W 23 [.int .i64 2, .bool false]).only ho1 (fun h => h)); obtain ⟨b0, b1⟩ := two_cells HB1.out; clear ho1)
    | (go_at_call 6; refine (HH.out _ HO1.out).mono ?_; rintro e w2 ⟨rfl, ho2⟩; have HO2 := Lib.hid (HO1.out.trans ho2 (fun _ h => h.elim)); have HB2 := Lib.hid (HB1.out.only ho2 (fun h => h)); have d0 := fun o => (two_cells_alloc HB2.out o).1; have d1 := fun o => (two_cells_alloc HB2.out o).2; clear ho2)
    | (go_at_call 8; refine (HA.out _ (HO2.out.alloc _)).mono ?_; rintro e w3 ⟨⟨u, v, rfl⟩, ho3⟩; have HO3 := Lib.hid ((HO2.out.alloc _).trans ho3 (fun _ h => h.elim)); have HQ3 := Lib.hid (Three.mk (((HB2.out.alloc _).only ho3 (fun h => h)).alloc (.cells #[.int .i64 0, .bool false, .int .i64 0, .bool false] 26)) (((Blk.new w2 26 [.int .i64 0, .bool false, .int .i64 0, .bool false]).only ho3 (fun h => h)).alloc (.cells #[.int .i64 0, .bool false, .int .i64 0, .bool false] 26)) (Blk.new w3 26 [.int .i64 0, .bool false, .int .i64 0, .bool false])); have HO3' := Lib.hid (HO3.out.alloc (.cells #[.int .i64 0, .bool false, .int .i64 0, .bool false] 26)); obtain ⟨⟨x0, x1⟩, ⟨y0, y1, y2, y3⟩, z0, z1, z2, z3⟩ := HQ3.out.cells; clear ho3)
    | ((with_reducible show Calls _ 7 _ _ _); (with_reducible refine (HRm.out _ HO3'.out).mono ?_); rintro e w4 ⟨rfl, ho⟩; have HO4 := Lib.hid (HO3'.out.trans ho (fun _ h => h.elim)); have HQ4 := Lib.hid (HQ3.out.only ho); obtain ⟨⟨x0, x1⟩, ⟨y0, y1, y2, y3⟩, z0, z1, z2, z3⟩ := HQ4.out.cells; clear ho)
    | ((with_reducible show Calls _ 9 _ _ _); (with_reducible refine (HC.out _).mono ?_); rintro e w5 ⟨rfl, ho⟩; have HO5 := Lib.hid (HO4.out.trans ho (fun _ h => h.elim)); have HQ5 := Lib.hid (HQ4.out.only ho); obtain ⟨⟨x0, x1⟩, ⟨y0, y1, y2, y3⟩, z0, z1, z2, z3⟩ := HQ5.out.cells; clear ho)
    | fail)
  go_ret
  exact ⟨rfl, HO5.out⟩
theorem still_wnO_for {W : World} (hT : QsW W) (agree : Bool) : Calls Tryd.prog 3 #[.agg #[.int .i64 2, .bool true], .bool true, .bool agree] W (Fine W) := by
  have HT := Lib.hid hT
  have HH : Hid (∀ w, Only (fun _ => False) W w → Calls Tryd.prog 6 #[.agg #[.int .i64 2, .bool true], .bool true, .bool agree] w fun e w' => e = .returned (.tuple #[.agg #[.int .i64 1, .bool false, .int .i64 0, .bool true], .nilIface]) ∧ Only (fun _ => False) w w') := fun w ho => hear_some (hT.only ho) 2 true true agree (s := .wnO) rfl
  have HA : Hid (∀ w, Only (fun _ => False) W w → Calls Tryd.prog 8 #[.agg #[.int .i64 2, .bool true], .bool true] w fun e w' => (∃ u v, e = .returned (.tuple #[.agg #[.int .i64 0, .bool false, .int .i64 0, .bool false], .iface u v])) ∧ Only (fun _ => False) w w') := fun w ho => (ask_some (hT.only ho) 2 true true (s := .wnO) rfl).mono fun e w' h => by
    rcases h with ⟨r, hr, _⟩ | ⟨_, h⟩
    · cases hr
    · exact h
  have HRm : Hid (∀ w, Only (fun _ => False) W w → Calls Tryd.prog 7 #[.agg #[.int .i64 1, .bool false]] w fun e w' => e = .returned (.bool true) ∧ Only (fun _ => False) w w') := fun w ho => right_any (hT.only ho) 1 false
  have HC : Hid (∀ w, Calls Tryd.prog 9 #[.agg #[.int .i64 2, .bool true]] w fun e w' => e = .returned (.bool false) ∧ Only (fun _ => False) w w') := fun w => calm_any w 2 true
  have hgr := guard_state
  clear hT
  go_enter Tryd.func3, Tryd.ntmps3
  go_wp2_with (first
    | (go_at_call 5; refine (alive_any (HT.out.only (alloc_only _))).mono ?_; rintro e w1 ⟨rfl, ho1⟩; have HO1 := Lib.hid ((alloc_only (W := W) _).trans ho1 (fun _ h => h.elim)); have HB1 := Lib.hid ((Blk.new W 23 [.int .i64 2, .bool true]).only ho1 (fun h => h)); obtain ⟨b0, b1⟩ := two_cells HB1.out; clear ho1)
    | (go_at_call 6; refine (HH.out _ HO1.out).mono ?_; rintro e w2 ⟨rfl, ho2⟩; have HO2 := Lib.hid (HO1.out.trans ho2 (fun _ h => h.elim)); have HB2 := Lib.hid (HB1.out.only ho2 (fun h => h)); have d0 := fun o => (two_cells_alloc HB2.out o).1; have d1 := fun o => (two_cells_alloc HB2.out o).2; clear ho2)
    | (go_at_call 8; refine (HA.out _ (HO2.out.alloc _)).mono ?_; rintro e w3 ⟨⟨u, v, rfl⟩, ho3⟩; have HO3 := Lib.hid ((HO2.out.alloc _).trans ho3 (fun _ h => h.elim)); have HQ3 := Lib.hid (Three.mk (((HB2.out.alloc _).only ho3 (fun h => h)).alloc (.cells #[.int .i64 0, .bool false, .int .i64 0, .bool false] 26)) (((Blk.new w2 26 [.int .i64 1, .bool false, .int .i64 0, .bool true]).only ho3 (fun h => h)).alloc (.cells #[.int .i64 0, .bool false, .int .i64 0, .bool false] 26)) (Blk.new w3 26 [.int .i64 0, .bool false, .int .i64 0, .bool false])); have HO3' := Lib.hid (HO3.out.alloc (.cells #[.int .i64 0, .bool false, .int .i64 0, .bool false] 26)); obtain ⟨⟨x0, x1⟩, ⟨y0, y1, y2, y3⟩, z0, z1, z2, z3⟩ := HQ3.out.cells; clear ho3)
    | ((with_reducible show Calls _ 7 _ _ _); (with_reducible refine (HRm.out _ HO3'.out).mono ?_); rintro e w4 ⟨rfl, ho⟩; have HO4 := Lib.hid (HO3'.out.trans ho (fun _ h => h.elim)); have HQ4 := Lib.hid (HQ3.out.only ho); obtain ⟨⟨x0, x1⟩, ⟨y0, y1, y2, y3⟩, z0, z1, z2, z3⟩ := HQ4.out.cells; clear ho)
    | ((with_reducible show Calls _ 9 _ _ _); (with_reducible refine (HC.out _).mono ?_); rintro e w5 ⟨rfl, ho⟩; have HO5 := Lib.hid (HO4.out.trans ho (fun _ h => h.elim)); have HQ5 := Lib.hid (HQ4.out.only ho); obtain ⟨⟨x0, x1⟩, ⟨y0, y1, y2, y3⟩, z0, z1, z2, z3⟩ := HQ5.out.cells; clear ho)
    | fail)
  go_ret
  exact ⟨rfl, HO5.out⟩
theorem still_wnO_against {W : World} (hT : QsW W) (agree : Bool) : Calls Tryd.prog 3 #[.agg #[.int .i64 2, .bool true], .bool false, .bool agree] W (Fine W) := by
  have HT := Lib.hid hT
  have HH : Hid (∀ w, Only (fun _ => False) W w → Calls Tryd.prog 6 #[.agg #[.int .i64 2, .bool true], .bool false, .bool agree] w fun e w' => e = .returned (.tuple #[.agg #[.int .i64 3, .bool false, .int .i64 1, .bool false], .nilIface]) ∧ Only (fun _ => False) w w') := fun w ho => hear_some (hT.only ho) 2 true false agree (s := .wnO) rfl
  have HA : Hid (∀ w, Only (fun _ => False) W w → Calls Tryd.prog 8 #[.agg #[.int .i64 2, .bool true], .bool false] w fun e w' => e = .returned (.tuple #[.agg #[.int .i64 2, .bool false, .int .i64 0, .bool false], .nilIface]) ∧ Only (fun _ => False) w w') := fun w ho => (ask_some (hT.only ho) 2 true false (s := .wnO) rfl).mono fun e w' h => by
    rcases h with ⟨r, hr, h⟩ | ⟨hr, _⟩
    · cases hr
      exact h
    · cases hr
  have HRm : Hid (∀ w, Only (fun _ => False) W w → Calls Tryd.prog 7 #[.agg #[.int .i64 3, .bool false]] w fun e w' => e = .returned (.bool true) ∧ Only (fun _ => False) w w') := fun w ho => right_any (hT.only ho) 3 false
  have HRn : Hid (∀ w, Only (fun _ => False) W w → Calls Tryd.prog 7 #[.agg #[.int .i64 2, .bool false]] w fun e w' => e = .returned (.bool true) ∧ Only (fun _ => False) w w') := fun w ho => right_any (hT.only ho) 2 false
  have HC : Hid (∀ w, Calls Tryd.prog 9 #[.agg #[.int .i64 2, .bool true]] w fun e w' => e = .returned (.bool false) ∧ Only (fun _ => False) w w') := fun w => calm_any w 2 true
  have hns : ∀ W, (Op.equalIn 10000 23 (.agg #[.int .i64 2, .bool false]) (.agg #[.int .i64 2, .bool true])).run Tryd.prog W = .ok false W := fun W => eq_state W _ _ _ _
  have hgr := guard_state
  clear hT
  go_enter Tryd.func3, Tryd.ntmps3
  go_wp2_with (first
    | (go_at_call 5; refine (alive_any (HT.out.only (alloc_only _))).mono ?_; rintro e w1 ⟨rfl, ho1⟩; have HO1 := Lib.hid ((alloc_only (W := W) _).trans ho1 (fun _ h => h.elim)); have HB1 := Lib.hid ((Blk.new W 23 [.int .i64 2, .bool true]).only ho1 (fun h => h)); obtain ⟨b0, b1⟩ := two_cells HB1.out; clear ho1)
    | (go_at_call 6; refine (HH.out _ HO1.out).mono ?_; rintro e w2 ⟨rfl, ho2⟩; have HO2 := Lib.hid (HO1.out.trans ho2 (fun _ h => h.elim)); have HB2 := Lib.hid (HB1.out.only ho2 (fun h => h)); have d0 := fun o => (two_cells_alloc HB2.out o).1; have d1 := fun o => (two_cells_alloc HB2.out o).2; clear ho2)
    | (go_at_call 8; refine (HA.out _ (HO2.out.alloc _)).mono ?_; rintro e w3 ⟨rfl, ho3⟩; have HO3 := Lib.hid ((HO2.out.alloc _).trans ho3 (fun _ h => h.elim)); have HQ3 := Lib.hid (Three.mk (((HB2.out.alloc _).only ho3 (fun h => h)).alloc (.cells #[.int .i64 2, .bool false, .int .i64 0, .bool false] 26)) (((Blk.new w2 26 [.int .i64 3, .bool false, .int .i64 1, .bool false]).only ho3 (fun h => h)).alloc (.cells #[.int .i64 2, .bool false, .int .i64 0, .bool false] 26)) (Blk.new w3 26 [.int .i64 2, .bool false, .int .i64 0, .bool false])); have HO3' := Lib.hid (HO3.out.alloc (.cells #[.int .i64 2, .bool false, .int .i64 0, .bool false] 26)); obtain ⟨⟨x0, x1⟩, ⟨y0, y1, y2, y3⟩, z0, z1, z2, z3⟩ := HQ3.out.cells; clear ho3)
    | ((with_reducible show Calls _ 7 _ _ _); (with_reducible refine (HRm.out _ HO3'.out).mono ?_); rintro e w4 ⟨rfl, ho⟩; have HO4 := Lib.hid (HO3'.out.trans ho (fun _ h => h.elim)); have HQ4 := Lib.hid (HQ3.out.only ho); obtain ⟨⟨x0, x1⟩, ⟨y0, y1, y2, y3⟩, z0, z1, z2, z3⟩ := HQ4.out.cells; clear ho)
    | ((with_reducible show Calls _ 7 _ _ _); (with_reducible refine (HRn.out _ HO4.out).mono ?_); rintro e w5 ⟨rfl, ho⟩; have HO5 := Lib.hid (HO4.out.trans ho (fun _ h => h.elim)); have HQ5 := Lib.hid (HQ4.out.only ho); obtain ⟨⟨x0, x1⟩, ⟨y0, y1, y2, y3⟩, z0, z1, z2, z3⟩ := HQ5.out.cells; clear ho)
    | ((with_reducible show Calls _ 9 _ _ _); (with_reducible refine (HC.out _).mono ?_); rintro e w6 ⟨rfl, ho⟩; have HO6 := Lib.hid (HO5.out.trans ho (fun _ h => h.elim)); have HQ6 := Lib.hid (HQ5.out.only ho); obtain ⟨⟨x0, x1⟩, ⟨y0, y1, y2, y3⟩, z0, z1, z2, z3⟩ := HQ6.out.cells; clear ho)
    | fail)
  go_ret
  exact ⟨rfl, HO6.out⟩
theorem still_wy_for {W : World} (hT : QsW W) (agree : Bool) : Calls Tryd.prog 3 #[.agg #[.int .i64 3, .bool false], .bool true, .bool agree] W (Fine W) := by
  have HT := Lib.hid hT
  have HH : Hid (∀ w, Only (fun _ => False) W w → Calls Tryd.prog 6 #[.agg #[.int .i64 3, .bool false], .bool true, .bool agree] w fun e w' => e = .returned (.tuple #[.agg #[.int .i64 1, .bool false, .int .i64 0, .bool false], .nilIface]) ∧ Only (fun _ => False) w w') := fun w ho => hear_some (hT.only ho) 3 false true agree (s := .wy) rfl
  have HA : Hid (∀ w, Only (fun _ => False) W w → Calls Tryd.prog 8 #[.agg #[.int .i64 3, .bool false], .bool true] w fun e w' => (∃ u v, e = .returned (.tuple #[.agg #[.int .i64 0, .bool false, .int .i64 0, .bool false], .iface u v])) ∧ Only (fun _ => False) w w') := fun w ho => (ask_some (hT.only ho) 3 false true (s := .wy) rfl).mono fun e w' h => by
    rcases h with ⟨r, hr, _⟩ | ⟨_, h⟩
    · cases hr
    · exact h
  have HRm : Hid (∀ w, Only (fun _ => False) W w → Calls Tryd.prog 7 #[.agg #[.int .i64 1, .bool false]] w fun e w' => e = .returned (.bool true) ∧ Only (fun _ => False) w w') := fun w ho => right_any (hT.only ho) 1 false
  have HC : Hid (∀ w, Calls Tryd.prog 9 #[.agg #[.int .i64 3, .bool false]] w fun e w' => e = .returned (.bool false) ∧ Only (fun _ => False) w w') := fun w => calm_any w 3 false
  have hgr := guard_state
  clear hT
  go_enter Tryd.func3, Tryd.ntmps3
  go_wp2_with (first
    | (go_at_call 5; refine (alive_any (HT.out.only (alloc_only _))).mono ?_; rintro e w1 ⟨rfl, ho1⟩; have HO1 := Lib.hid ((alloc_only (W := W) _).trans ho1 (fun _ h => h.elim)); have HB1 := Lib.hid ((Blk.new W 23 [.int .i64 3, .bool false]).only ho1 (fun h => h)); obtain ⟨b0, b1⟩ := two_cells HB1.out; clear ho1)
    | (go_at_call 6; refine (HH.out _ HO1.out).mono ?_; rintro e w2 ⟨rfl, ho2⟩; have HO2 := Lib.hid (HO1.out.trans ho2 (fun _ h => h.elim)); have HB2 := Lib.hid (HB1.out.only ho2 (fun h => h)); have d0 := fun o => (two_cells_alloc HB2.out o).1; have d1 := fun o => (two_cells_alloc HB2.out o).2; clear ho2)
    | (go_at_call 8; refine (HA.out _ (HO2.out.alloc _)).mono ?_; rintro e w3 ⟨⟨u, v, rfl⟩, ho3⟩; have HO3 := Lib.hid ((HO2.out.alloc _).trans ho3 (fun _ h => h.elim)); have HQ3 := Lib.hid (Three.mk (((HB2.out.alloc _).only ho3 (fun h => h)).alloc (.cells #[.int .i64 0, .bool false, .int .i64 0, .bool false] 26)) (((Blk.new w2 26 [.int .i64 1, .bool false, .int .i64 0, .bool false]).only ho3 (fun h => h)).alloc (.cells #[.int .i64 0, .bool false, .int .i64 0, .bool false] 26)) (Blk.new w3 26 [.int .i64 0, .bool false, .int .i64 0, .bool false])); have HO3' := Lib.hid (HO3.out.alloc (.cells #[.int .i64 0, .bool false, .int .i64 0, .bool false] 26)); obtain ⟨⟨x0, x1⟩, ⟨y0, y1, y2, y3⟩, z0, z1, z2, z3⟩ := HQ3.out.cells; clear ho3)
    | ((with_reducible show Calls _ 7 _ _ _); (with_reducible refine (HRm.out _ HO3'.out).mono ?_); rintro e w4 ⟨rfl, ho⟩; have HO4 := Lib.hid (HO3'.out.trans ho (fun _ h => h.elim)); have HQ4 := Lib.hid (HQ3.out.only ho); obtain ⟨⟨x0, x1⟩, ⟨y0, y1, y2, y3⟩, z0, z1, z2, z3⟩ := HQ4.out.cells; clear ho)
    | ((with_reducible show Calls _ 9 _ _ _); (with_reducible refine (HC.out _).mono ?_); rintro e w5 ⟨rfl, ho⟩; have HO5 := Lib.hid (HO4.out.trans ho (fun _ h => h.elim)); have HQ5 := Lib.hid (HQ4.out.only ho); obtain ⟨⟨x0, x1⟩, ⟨y0, y1, y2, y3⟩, z0, z1, z2, z3⟩ := HQ5.out.cells; clear ho)
    | fail)
  go_ret
  exact ⟨rfl, HO5.out⟩
theorem still_wy_against {W : World} (hT : QsW W) (agree : Bool) : Calls Tryd.prog 3 #[.agg #[.int .i64 3, .bool false], .bool false, .bool agree] W (Fine W) := by
  have HT := Lib.hid hT
  have HH : Hid (∀ w, Only (fun _ => False) W w → Calls Tryd.prog 6 #[.agg #[.int .i64 3, .bool false], .bool false, .bool agree] w fun e w' => e = .returned (.tuple #[.agg #[.int .i64 0, .bool false, .int .i64 0, .bool false], .nilIface]) ∧ Only (fun _ => False) w w') := fun w ho => hear_some (hT.only ho) 3 false false agree (s := .wy) rfl
  have HA : Hid (∀ w, Only (fun _ => False) W w → Calls Tryd.prog 8 #[.agg #[.int .i64 3, .bool false], .bool false] w fun e w' => e = .returned (.tuple #[.agg #[.int .i64 3, .bool true, .int .i64 0, .bool false], .nilIface]) ∧ Only (fun _ => False) w w') := fun w ho => (ask_some (hT.only ho) 3 false false (s := .wy) rfl).mono fun e w' h => by
    rcases h with ⟨r, hr, h⟩ | ⟨hr, _⟩
    · cases hr
      exact h
    · cases hr
  have HRm : Hid (∀ w, Only (fun _ => False) W w → Calls Tryd.prog 7 #[.agg #[.int .i64 0, .bool false]] w fun e w' => e = .returned (.bool true) ∧ Only (fun _ => False) w w') := fun w ho => right_any (hT.only ho) 0 false
  have HRn : Hid (∀ w, Only (fun _ => False) W w → Calls Tryd.prog 7 #[.agg #[.int .i64 3, .bool true]] w fun e w' => e = .returned (.bool true) ∧ Only (fun _ => False) w w') := fun w ho => right_any (hT.only ho) 3 true
  have HC : Hid (∀ w, Calls Tryd.prog 9 #[.agg #[.int .i64 3, .bool false]] w fun e w' => e = .returned (.bool false) ∧ Only (fun _ => False) w w') := fun w => calm_any w 3 false
  have hns : ∀ W, (Op.equalIn 10000 23 (.agg #[.int .i64 3, .bool true]) (.agg #[.int .i64 3, .bool false])).run Tryd.prog W = .ok false W := fun W => eq_state W _ _ _ _
  have hgr := guard_state
  clear hT
  go_enter Tryd.func3, Tryd.ntmps3
  go_wp2_with (first
    | (go_at_call 5; refine (alive_any (HT.out.only (alloc_only _))).mono ?_; rintro e w1 ⟨rfl, ho1⟩; have HO1 := Lib.hid ((alloc_only (W := W) _).trans ho1 (fun _ h => h.elim)); have HB1 := Lib.hid ((Blk.new W 23 [.int .i64 3, .bool false]).only ho1 (fun h => h)); obtain ⟨b0, b1⟩ := two_cells HB1.out; clear ho1)
    | (go_at_call 6; refine (HH.out _ HO1.out).mono ?_; rintro e w2 ⟨rfl, ho2⟩; have HO2 := Lib.hid (HO1.out.trans ho2 (fun _ h => h.elim)); have HB2 := Lib.hid (HB1.out.only ho2 (fun h => h)); have d0 := fun o => (two_cells_alloc HB2.out o).1; have d1 := fun o => (two_cells_alloc HB2.out o).2; clear ho2)
    | (go_at_call 8; refine (HA.out _ (HO2.out.alloc _)).mono ?_; rintro e w3 ⟨rfl, ho3⟩; have HO3 := Lib.hid ((HO2.out.alloc _).trans ho3 (fun _ h => h.elim)); have HQ3 := Lib.hid (Three.mk (((HB2.out.alloc _).only ho3 (fun h => h)).alloc (.cells #[.int .i64 3, .bool true, .int .i64 0, .bool false] 26)) (((Blk.new w2 26 [.int .i64 0, .bool false, .int .i64 0, .bool false]).only ho3 (fun h => h)).alloc (.cells #[.int .i64 3, .bool true, .int .i64 0, .bool false] 26)) (Blk.new w3 26 [.int .i64 3, .bool true, .int .i64 0, .bool false])); have HO3' := Lib.hid (HO3.out.alloc (.cells #[.int .i64 3, .bool true, .int .i64 0, .bool false] 26)); obtain ⟨⟨x0, x1⟩, ⟨y0, y1, y2, y3⟩, z0, z1, z2, z3⟩ := HQ3.out.cells; clear ho3)
    | ((with_reducible show Calls _ 7 _ _ _); (with_reducible refine (HRm.out _ HO3'.out).mono ?_); rintro e w4 ⟨rfl, ho⟩; have HO4 := Lib.hid (HO3'.out.trans ho (fun _ h => h.elim)); have HQ4 := Lib.hid (HQ3.out.only ho); obtain ⟨⟨x0, x1⟩, ⟨y0, y1, y2, y3⟩, z0, z1, z2, z3⟩ := HQ4.out.cells; clear ho)
    | ((with_reducible show Calls _ 7 _ _ _); (with_reducible refine (HRn.out _ HO4.out).mono ?_); rintro e w5 ⟨rfl, ho⟩; have HO5 := Lib.hid (HO4.out.trans ho (fun _ h => h.elim)); have HQ5 := Lib.hid (HQ4.out.only ho); obtain ⟨⟨x0, x1⟩, ⟨y0, y1, y2, y3⟩, z0, z1, z2, z3⟩ := HQ5.out.cells; clear ho)
    | ((with_reducible show Calls _ 9 _ _ _); (with_reducible refine (HC.out _).mono ?_); rintro e w6 ⟨rfl, ho⟩; have HO6 := Lib.hid (HO5.out.trans ho (fun _ h => h.elim)); have HQ6 := Lib.hid (HQ5.out.only ho); obtain ⟨⟨x0, x1⟩, ⟨y0, y1, y2, y3⟩, z0, z1, z2, z3⟩ := HQ6.out.cells; clear ho)
    | fail)
  go_ret
  exact ⟨rfl, HO6.out⟩
theorem still_wyO_for {W : World} (hT : QsW W) (agree : Bool) : Calls Tryd.prog 3 #[.agg #[.int .i64 3, .bool true], .bool true, .bool agree] W (Fine W) := by
  have HT := Lib.hid hT
  have HH : Hid (∀ w, Only (fun _ => False) W w → Calls Tryd.prog 6 #[.agg #[.int .i64 3, .bool true], .bool true, .bool agree] w fun e w' => e = .returned (.tuple #[.agg #[.int .i64 2, .bool false, .int .i64 2, .bool false], .nilIface]) ∧ Only (fun _ => False) w w') := fun w ho => hear_some (hT.only ho) 3 true true agree (s := .wyO) rfl
  have HA : Hid (∀ w, Only (fun _ => False) W w → Calls Tryd.prog 8 #[.agg #[.int .i64 3, .bool true], .bool true] w fun e w' => e = .returned (.tuple #[.agg #[.int .i64 3, .bool false, .int .i64 0, .bool false], .nilIface]) ∧ Only (fun _ => False) w w') := fun w ho => (ask_some (hT.only ho) 3 true true (s := .wyO) rfl).mono fun e w' h => by
    rcases h with ⟨r, hr, h⟩ | ⟨hr, _⟩
    · cases hr
      exact h
    · cases hr
  have HRm : Hid (∀ w, Only (fun _ => False) W w → Calls Tryd.prog 7 #[.agg #[.int .i64 2, .bool false]] w fun e w' => e = .returned (.bool true) ∧ Only (fun _ => False) w w') := fun w ho => right_any (hT.only ho) 2 false
  have HRn : Hid (∀ w, Only (fun _ => False) W w → Calls Tryd.prog 7 #[.agg #[.int .i64 3, .bool false]] w fun e w' => e = .returned (.bool true) ∧ Only (fun _ => False) w w') := fun w ho => right_any (hT.only ho) 3 false
  have HC : Hid (∀ w, Calls Tryd.prog 9 #[.agg #[.int .i64 3, .bool true]] w fun e w' => e = .returned (.bool false) ∧ Only (fun _ => False) w w') := fun w => calm_any w 3 true
  have hns : ∀ W, (Op.equalIn 10000 23 (.agg #[.int .i64 3, .bool false]) (.agg #[.int .i64 3, .bool true])).run Tryd.prog W = .ok false W := fun W => eq_state W _ _ _ _
  have hgr := guard_state
  clear hT
  go_enter Tryd.func3, Tryd.ntmps3
  go_wp2_with (first
    | (go_at_call 5; refine (alive_any (HT.out.only (alloc_only _))).mono ?_; rintro e w1 ⟨rfl, ho1⟩; have HO1 := Lib.hid ((alloc_only (W := W) _).trans ho1 (fun _ h => h.elim)); have HB1 := Lib.hid ((Blk.new W 23 [.int .i64 3, .bool true]).only ho1 (fun h => h)); obtain ⟨b0, b1⟩ := two_cells HB1.out; clear ho1)
    | (go_at_call 6; refine (HH.out _ HO1.out).mono ?_; rintro e w2 ⟨rfl, ho2⟩; have HO2 := Lib.hid (HO1.out.trans ho2 (fun _ h => h.elim)); have HB2 := Lib.hid (HB1.out.only ho2 (fun h => h)); have d0 := fun o => (two_cells_alloc HB2.out o).1; have d1 := fun o => (two_cells_alloc HB2.out o).2; clear ho2)
    | (go_at_call 8; refine (HA.out _ (HO2.out.alloc _)).mono ?_; rintro e w3 ⟨rfl, ho3⟩; have HO3 := Lib.hid ((HO2.out.alloc _).trans ho3 (fun _ h => h.elim)); have HQ3 := Lib.hid (Three.mk (((HB2.out.alloc _).only ho3 (fun h => h)).alloc (.cells #[.int .i64 3, .bool false, .int .i64 0, .bool false] 26)) (((Blk.new w2 26 [.int .i64 2, .bool false, .int .i64 2, .bool false]).only ho3 (fun h => h)).alloc (.cells #[.int .i64 3, .bool false, .int .i64 0, .bool false] 26)) (Blk.new w3 26 [.int .i64 3, .bool false, .int .i64 0, .bool false])); have HO3' := Lib.hid (HO3.out.alloc (.cells #[.int .i64 3, .bool false, .int .i64 0, .bool false] 26)); obtain ⟨⟨x0, x1⟩, ⟨y0, y1, y2, y3⟩, z0, z1, z2, z3⟩ := HQ3.out.cells; clear ho3)
    | ((with_reducible show Calls _ 7 _ _ _); (with_reducible refine (HRm.out _ HO3'.out).mono ?_); rintro e w4 ⟨rfl, ho⟩; have HO4 := Lib.hid (HO3'.out.trans ho (fun _ h => h.elim)); have HQ4 := Lib.hid (HQ3.out.only ho); obtain ⟨⟨x0, x1⟩, ⟨y0, y1, y2, y3⟩, z0, z1, z2, z3⟩ := HQ4.out.cells; clear ho)
    | ((with_reducible show Calls _ 7 _ _ _); (with_reducible refine (HRn.out _ HO4.out).mono ?_); rintro e w5 ⟨rfl, ho⟩; have HO5 := Lib.hid (HO4.out.trans ho (fun _ h => h.elim)); have HQ5 := Lib.hid (HQ4.out.only ho); obtain ⟨⟨x0, x1⟩, ⟨y0, y1, y2, y3⟩, z0, z1, z2, z3⟩ := HQ5.out.cells; clear ho)
    | ((with_reducible show Calls _ 9 _ _ _); (with_reducible refine (HC.out _).mono ?_); rintro e w6 ⟨rfl, ho⟩; have HO6 := Lib.hid (HO5.out.trans ho (fun _ h => h.elim)); have HQ6 := Lib.hid (HQ5.out.only ho); obtain ⟨⟨x0, x1⟩, ⟨y0, y1, y2, y3⟩, z0, z1, z2, z3⟩ := HQ6.out.cells; clear ho)
    | fail)
  go_ret
  exact ⟨rfl, HO6.out⟩
theorem still_wyO_against {W : World} (hT : QsW W) (agree : Bool) : Calls Tryd.prog 3 #[.agg #[.int .i64 3, .bool true], .bool false, .bool agree] W (Fine W) := by
  have HT := Lib.hid hT
  have HH : Hid (∀ w, Only (fun _ => False) W w → Calls Tryd.prog 6 #[.agg #[.int .i64 3, .bool true], .bool false, .bool agree] w fun e w' => e = .returned (.tuple #[.agg #[.int .i64 0, .bool false, .int .i64 0, .bool false], .nilIface]) ∧ Only (fun _ => False) w w') := fun w ho => hear_some (hT.only ho) 3 true false agree (s := .wyO) rfl
  have HA : Hid (∀ w, Only (fun _ => False) W w → Calls Tryd.prog 8 #[.agg #[.int .i64 3, .bool true], .bool false] w fun e w' => (∃ u v, e = .returned (.tuple #[.agg #[.int .i64 0, .bool false, .int .i64 0, .bool false], .iface u v])) ∧ Only (fun _ => False) w w') := fun w ho => (ask_some (hT.only ho) 3 true false (s := .wyO) rfl).mono fun e w' h => by
    rcases h with ⟨r, hr, _⟩ | ⟨_, h⟩
    · cases hr
    · exact h
  have HRm : Hid (∀ w, Only (fun _ => False) W w → Calls Tryd.prog 7 #[.agg #[.int .i64 0, .bool false]] w fun e w' => e = .returned (.bool true) ∧ Only (fun _ => False) w w') := fun w ho => right_any (hT.only ho) 0 false
  have HC : Hid (∀ w, Calls Tryd.prog 9 #[.agg #[.int .i64 3, .bool true]] w fun e w' => e = .returned (.bool false) ∧ Only (fun _ => False) w w') := fun w => calm_any w 3 true
  have hgr := guard_state
  clear hT
  go_enter Tryd.func3, Tryd.ntmps3
  go_wp2_with (first
    | (go_at_call 5; refine (alive_any (HT.out.only (alloc_only _))).mono ?_; rintro e w1 ⟨rfl, ho1⟩; have HO1 := Lib.hid ((alloc_only (W := W) _).trans ho1 (fun _ h => h.elim)); have HB1 := Lib.hid ((Blk.new W 23 [.int .i64 3, .bool true]).only ho1 (fun h => h)); obtain ⟨b0, b1⟩ := two_cells HB1.out; clear ho1)
    | (go_at_call 6; refine (HH.out _ HO1.out).mono ?_; rintro e w2 ⟨rfl, ho2⟩; have HO2 := Lib.hid (HO1.out.trans ho2 (fun _ h => h.elim)); have HB2 := Lib.hid (HB1.out.only ho2 (fun h => h)); have d0 := fun o => (two_cells_alloc HB2.out o).1; have d1 := fun o => (two_cells_alloc HB2.out o).2; clear ho2)
    | (go_at_call 8; refine (HA.out _ (HO2.out.alloc _)).mono ?_; rintro e w3 ⟨⟨u, v, rfl⟩, ho3⟩; have HO3 := Lib.hid ((HO2.out.alloc _).trans ho3 (fun _ h => h.elim)); have HQ3 := Lib.hid (Three.mk (((HB2.out.alloc _).only ho3 (fun h => h)).alloc (.cells #[.int .i64 0, .bool false, .int .i64 0, .bool false] 26)) (((Blk.new w2 26 [.int .i64 0, .bool false, .int .i64 0, .bool false]).only ho3 (fun h => h)).alloc (.cells #[.int .i64 0, .bool false, .int .i64 0, .bool false] 26)) (Blk.new w3 26 [.int .i64 0, .bool false, .int .i64 0, .bool false])); have HO3' := Lib.hid (HO3.out.alloc (.cells #[.int .i64 0, .bool false, .int .i64 0, .bool false] 26)); obtain ⟨⟨x0, x1⟩, ⟨y0, y1, y2, y3⟩, z0, z1, z2, z3⟩ := HQ3.out.cells; clear ho3)
    | ((with_reducible show Calls _ 7 _ _ _); (with_reducible refine (HRm.out _ HO3'.out).mono ?_); rintro e w4 ⟨rfl, ho⟩; have HO4 := Lib.hid (HO3'.out.trans ho (fun _ h => h.elim)); have HQ4 := Lib.hid (HQ3.out.only ho); obtain ⟨⟨x0, x1⟩, ⟨y0, y1, y2, y3⟩, z0, z1, z2, z3⟩ := HQ4.out.cells; clear ho)
    | ((with_reducible show Calls _ 9 _ _ _); (with_reducible refine (HC.out _).mono ?_); rintro e w5 ⟨rfl, ho⟩; have HO5 := Lib.hid (HO4.out.trans ho (fun _ h => h.elim)); have HQ5 := Lib.hid (HQ4.out.only ho); obtain ⟨⟨x0, x1⟩, ⟨y0, y1, y2, y3⟩, z0, z1, z2, z3⟩ := HQ5.out.cells; clear ho)
    | fail)
  go_ret
  exact ⟨rfl, HO5.out⟩
end Go.Proofs.YthfancfmmphakaaDoor
