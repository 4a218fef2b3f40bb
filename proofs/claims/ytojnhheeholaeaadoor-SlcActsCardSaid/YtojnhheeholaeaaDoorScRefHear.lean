/- Layer 14's document, walked: Hear. -/
import Derived.Test.YtojnhheeholaeaaDoorScRef
import Derived.BigRegion
namespace Go.Proofs.YtojnhheeholaeaaDoor
open Go Go.RowKit
set_option maxRecDepth 100000
set_option maxHeartbeats 4000000

theorem rhear_not (W : World) (p : Nat) (t : Tr) (h : t.right = false) :
    Calls Tryd.prog 11 #[.pointer (some ⟨p, 0, none⟩), t.val] W fun e w' => e = .returned (.tuple #[Tr.zero.val, .bool false]) ∧ Only (fun _ => False) W w' := by
  have HR := Lib.hid (fun W => rright_any W t)
  rw [h] at HR
  obtain ⟨f, ⟨l, v⟩, k⟩ := t
  clear h
  go_enter Tryd.func11, Tryd.ntmps11
  go_wp2_with (first
    | (go_at_call 20; refine (HR.out _).mono ?_; rintro e w1 ⟨rfl, ho1⟩; have HO1 : Hid (Only (fun _ => False) W w1) := (((Only.refl _ _).alloc _).alloc _).trans ho1 (fun _ h => h.elim); have HB1 : Hid (Blk w1 (W.heap.size + 1) 41 Tr.zero.cs) := (Blk.new' _ _ _ (by simp)).only ho1 (fun h => h); clear ho1)
    | ((with_reducible show wpList _ _ _ (⟨none, .store 41 _ _, _, _, _, _⟩ :: _) _ _); refine step_store rfl 41 _ _ rfl (W.heap.size + 1) rfl Tr.zero.cs rfl _ Tr.zero.cs HB1.out size_rtri rfl (Tr.cs_one _) ?_; intro w4 hB4 hz4 ho4)
    | fail)
  refine ret_cell2 rfl (W.heap.size + 1) rfl 41 Tr.zero.cs _ hB4.out Tryd.underlying41 rfl size_rtri rfl ?_
  exact ⟨rfl, HO1.out.trans ho4 (fun i hi => .inr (by omega))⟩

theorem ansS_two {l v n : Int} (h : l = 1 ∨ l = 2) : ansS ⟨l, v⟩ ⟨2, n⟩ = (⟨l, v⟩, true) := if_pos (.inr ⟨rfl, by show l ≠ 3; omega⟩)
theorem ansS_cant {v m n : Int} (h : ¬ m = 2) : ansS ⟨1, v⟩ ⟨m, n⟩ = (⟨0, 0⟩, false) := by
  unfold ansS
  rw [if_neg (by simp; omega), if_pos rfl]
theorem ansS_value {v m n : Int} (h : ¬ m = 2) : ansS ⟨2, v⟩ ⟨m, n⟩ = (⟨m, n⟩, false) := by
  unfold ansS
  rw [if_neg (by simp; omega), if_neg (by simp)]
theorem ansS_deft (v m n : Int) : ansS ⟨3, v⟩ ⟨m, n⟩ = (⟨m, n⟩, false) := by
  unfold ansS
  rw [if_neg (by simp), if_neg (by simp)]
/-- A document's side at one function: its cells. -/
structure RfJ (cs : List Value) (S : Sd) (i j : Nat) : Prop where
  hasl : cs[j * 2]? = some (.int .i64 (S i).has.l)
  hasv : cs[j * 2 + 1]? = some (.int .i64 (S i).has.v)
  holl : cs[38 + j * 2]? = some (.int .i64 (S i).holds.l)
  holv : cs[38 + j * 2 + 1]? = some (.int .i64 (S i).holds.v)
  wait : cs[76 + j]? = some (.bool (S i).waits)
theorem RfC.j {cs : List Value} {S : Sd} (h : RfC cs S) {i j : Nat} (hi : i < 18) (hj : j = i + 1) : RfJ cs S i j := by
  subst hj
  exact ⟨h.hasl i hi, h.hasv i hi, h.holl i hi, h.holv i hi, h.wait i hi⟩
theorem RfC.setWaitsJ {cs : List Value} {S : Sd} (h : RfC cs S) {i j : Nat} (hi : i < 18) (hj : j = i + 1) (b : Bool) : RfC (cs.set (76 + j) (.bool b)) (S.set i ⟨(S i).has, (S i).holds, b⟩) := by
  subst hj
  exact h.setWaits hi b
theorem RfC.setHasJ {cs : List Value} {S : Sd} (h : RfC cs S) {i j : Nat} (hi : i < 18) (hj : j = i + 1) (x : Se) : RfC ((cs.set (j * 2) (.int .i64 x.l)).set (j * 2 + 1) (.int .i64 x.v)) (S.set i ⟨x, (S i).holds, (S i).waits⟩) := by
  subst hj
  exact h.setHas hi x

theorem rhear_still {W : World} {p : Nat} {S : Sd} (h : RfAt W p S) (t : Tr) (hr : t.right = true) (hs : t.x = (S (plF t.f)).has ∨ t.ack = true) :
    Calls Tryd.prog 11 #[.pointer (some ⟨p, 0, none⟩), t.val] W fun e w' => e = .returned (.tuple #[Tr.zero.val, .bool false]) ∧ RfAt w' p (S.set (plF t.f) ⟨(S (plF t.f)).has, (S (plF t.f)).holds, false⟩) ∧ Only (· = p) W w' := by
  obtain ⟨cs, hB, hC⟩ := h
  have HR := Lib.hid (fun W => rright_any W t)
  rw [hr] at HR
  obtain ⟨f, ⟨l, v⟩, k⟩ := t
  unfold Tr.right at hr
  simp only [Bool.and_eq_true] at hr hs ⊢
  have hi := plF_lt hr.1
  have he := plF_at hr.1
  obtain ⟨i, hii⟩ : ∃ i, i = plF f := ⟨_, rfl⟩
  rw [← hii] at hi he hs ⊢
  obtain ⟨j, hj⟩ : ∃ j, j = i + 1 := ⟨_, rfl⟩
  obtain rfl : f = (j : Int) := by omega
  have hj19 : j < 19 := by omega
  have hj2 : (j : Int) < 19 := by omega
  have hp := hB.lt
  have HC2 := Lib.hid (hC.setWaitsJ hi hj false)
  obtain ⟨wt, hwt⟩ : ∃ b, b = (S i).waits := ⟨_, rfl⟩
  have HK : Hid (∀ W', Blk W' p 55 cs → W'.cell? ⟨p, 76 + j, none⟩ = some (.bool wt)) := fun W' hb => (hb.cell _).trans (by rw [hwt]; exact (hC.j hi hj).wait)
  obtain ⟨⟨a, b⟩, hx⟩ : ∃ x, x = (S i).has := ⟨_, rfl⟩
  have HL : Hid (∀ W', Blk W' p 55 (cs.set (76 + j) (.bool false)) → W'.cell? ⟨p, j * 2, none⟩ = some (.int .i64 a) ∧ W'.cell? ⟨p, j * 2 + 1, none⟩ = some (.int .i64 b)) := fun W' hb => by
    have h2 := (hC.setWaitsJ hi hj false).j hi hj
    have e0 := h2.hasl
    have e1 := h2.hasv
    rw [Sd.set_self] at e0 e1
    simp only [← hx] at e0 e1
    exact ⟨(hb.cell _).trans e0, (hb.cell _).trans e1⟩
  have HB := Lib.hid hB
  rw [← hx] at hs
  have heq : ∀ W, _ := fun W => eq_rset W l v a b
  have hgr := guard_rset
  obtain ⟨q, hq⟩ : ∃ q, q = decide ((⟨l, v⟩ : Se) = ⟨a, b⟩) := ⟨_, rfl⟩
  rw [← hq] at heq
  have hqk : q = true ∨ (q = false ∧ k = true) := by
    cases q
    · rcases hs with hs | hs
      · exact absurd hs (of_decide_eq_false hq.symm)
      · exact .inr ⟨rfl, hs⟩
    · exact .inl rfl
  clear hr hs hB hC he hii hx hq hwt hj
  rcases hqk with rfl | ⟨rfl, rfl⟩
  all_goals
    go_enter Tryd.func11, Tryd.ntmps11
    go_wp2_with (first
      | (go_at_call 20; refine (HR.out _).mono ?_; rintro e w1 ⟨rfl, ho1⟩; have HO1 : Hid (Only (fun _ => False) W w1) := (((Only.refl _ _).alloc _).alloc _).trans ho1 (fun _ h => h.elim); have HB1 : Hid (Blk w1 (W.heap.size + 1) 41 Tr.zero.cs) := (Blk.new' _ _ _ (by simp)).only ho1 (fun h => h); have HB0 : Hid (Blk w1 W.heap.size 41 [.int .i64 (j : Int), .int .i64 _, .int .i64 _, .bool _]) := ((Blk.new' _ _ _ rfl).alloc _).only ho1 (fun h => h); have f0 : w1.cell? ⟨W.heap.size, 0, none⟩ = some (.int .i64 (j : Int)) := HB0.out.cell 0; have HBp := Lib.hid (HB.out.only HO1.out (fun h => h)); have c4 := HK.out w1 HBp.out; have f4 := HBp.out.frozen (76 + j); clear ho1)
      | fail)
    have HB3 := Lib.hid (HBp.out.setCell (76 + j) (.bool false))
    obtain ⟨d0, d1⟩ := HL.out _ HB3.out
    have HO3 : Hid (Only (· = p) W (w1.setCell ⟨p, 76 + j, none⟩ (.bool false))) := (Only.mono (T := (· = p)) HO1.out (fun i hi => hi.elim)).setCell (p := ⟨p, 76 + j, none⟩) (.inl rfl) _
    have HB0' := Lib.hid (HB0.out.far (p := ⟨p, 76 + j, none⟩) (by show W.heap.size ≠ p; omega) (.bool false))
    have HB1' := Lib.hid (HB1.out.far (p := ⟨p, 76 + j, none⟩) (by show W.heap.size + 1 ≠ p; omega) (.bool false))
    clear HBp HO1 HB0 HB1 c4 f4 f0
    generalize w1.setCell ⟨p, 76 + j, none⟩ (.bool false) = w3 at *
    have g1 : w3.cell? ⟨W.heap.size, 1, none⟩ = some (.int .i64 l) := HB0'.out.cell 1
    have g2 : w3.cell? ⟨W.heap.size, 2, none⟩ = some (.int .i64 v) := HB0'.out.cell 2
    have g3 : w3.cell? ⟨W.heap.size, 3, none⟩ = some (.bool _) := HB0'.out.cell 3
    go_quiet (fail)
    have HB3' := Lib.hid (HB3.out.drewN nq)
    have HO3' := Lib.hid (HO3.out.drewN nq)
    have HB1'' := Lib.hid (HB1'.out.drewN nq)
    clear HB3 HO3 HB1' HB0' d0 d1 g1 g2 g3
    generalize w3.drewN nq = w4 at *
    go_wp2_with (first
      | ((with_reducible show wpList _ _ _ (⟨none, .store 41 _ _, _, _, _, _⟩ :: _) _ _); refine step_store rfl 41 _ _ rfl (W.heap.size + 1) rfl Tr.zero.cs rfl _ Tr.zero.cs HB1''.out size_rtri rfl (Tr.cs_one _) ?_; intro w5 hB5 hz5 ho5)
      | fail)
    refine ret_cell2 rfl (W.heap.size + 1) rfl 41 Tr.zero.cs _ hB5.out Tryd.underlying41 rfl size_rtri rfl ?_
    exact ⟨rfl, ⟨_, HB3'.out.only ho5 (by omega), HC2.out⟩, HO3'.out.trans ho5 (fun i hi => .inr (by omega))⟩

theorem rhear_told {W : World} {p : Nat} {S : Sd} (h : RfAt W p S) (t : Tr) (hr : t.right = true) (hs : ¬ (t.x = (S (plF t.f)).has ∨ t.ack = true)) :
    Calls Tryd.prog 11 #[.pointer (some ⟨p, 0, none⟩), t.val] W fun e w' => e = .returned (.tuple #[Tr.val ⟨t.f, (ansS t.x (S (plF t.f)).holds).1, (ansS t.x (S (plF t.f)).holds).2⟩, .bool true]) ∧ RfAt w' p (S.set (plF t.f) ⟨(ansS t.x (S (plF t.f)).holds).1, (S (plF t.f)).holds, false⟩) ∧ Only (· = p) W w' := by
  obtain ⟨cs, hB, hC⟩ := h
  have HR := Lib.hid (fun W => rright_any W t)
  rw [hr] at HR
  obtain ⟨f, ⟨l, v⟩, k⟩ := t
  unfold Tr.right at hr
  simp only [Bool.and_eq_true] at hr hs ⊢
  have hi := plF_lt hr.1
  have he := plF_at hr.1
  obtain ⟨i, hii⟩ : ∃ i, i = plF f := ⟨_, rfl⟩
  rw [← hii] at hi he hs ⊢
  obtain ⟨j, hj⟩ : ∃ j, j = i + 1 := ⟨_, rfl⟩
  obtain rfl : f = (j : Int) := by omega
  have hj19 : j < 19 := by omega
  have hj2 : (j : Int) < 19 := by omega
  have hp := hB.lt
  obtain ⟨⟨m, n⟩, hm⟩ : ∃ m, m = (S i).holds := ⟨_, rfl⟩
  obtain ⟨⟨⟨y, z⟩, ag⟩, hy⟩ : ∃ y, y = ansS ⟨l, v⟩ ⟨m, n⟩ := ⟨_, rfl⟩
  rw [← hm, ← hy]
  obtain ⟨wt, hwt⟩ : ∃ b, b = (S i).waits := ⟨_, rfl⟩
  have HC2 : Hid (RfC (((cs.set (76 + j) (.bool false)).set (j * 2) (.int .i64 y)).set (j * 2 + 1) (.int .i64 z)) (S.set i ⟨⟨y, z⟩, ⟨m, n⟩, false⟩)) := by
    have h2 := (hC.setWaitsJ hi hj false).setHasJ hi hj ⟨y, z⟩
    rw [Sd.set_self, Sd.set_set, ← hm] at h2
    exact h2
  have HK : Hid (∀ W', Blk W' p 55 cs → W'.cell? ⟨p, 76 + j, none⟩ = some (.bool wt)) := fun W' hb => (hb.cell _).trans (by rw [hwt]; exact (hC.j hi hj).wait)
  obtain ⟨⟨a, b⟩, hx⟩ : ∃ x, x = (S i).has := ⟨_, rfl⟩
  have HL : Hid (∀ W', Blk W' p 55 (cs.set (76 + j) (.bool false)) → W'.cell? ⟨p, j * 2, none⟩ = some (.int .i64 a) ∧ W'.cell? ⟨p, j * 2 + 1, none⟩ = some (.int .i64 b) ∧ W'.cell? ⟨p, 38 + j * 2, none⟩ = some (.int .i64 m) ∧ W'.cell? ⟨p, 38 + j * 2 + 1, none⟩ = some (.int .i64 n)) := fun W' hb => by
    have h2 := (hC.setWaitsJ hi hj false).j hi hj
    have e0 := h2.hasl
    have e1 := h2.hasv
    have e2 := h2.holl
    have e3 := h2.holv
    rw [Sd.set_self] at e0 e1 e2 e3
    simp only [← hx, ← hm] at e0 e1 e2 e3
    exact ⟨(hb.cell _).trans e0, (hb.cell _).trans e1, (hb.cell _).trans e2, (hb.cell _).trans e3⟩
  have HB := Lib.hid hB
  rw [← hx] at hs
  have heq : ∀ W, _ := fun W => eq_rset W l v a b
  have hgr := guard_rset
  rw [decide_eq_false (fun e => hs (.inl e))] at heq
  obtain rfl : k = false := by
    cases k
    · rfl
    · exact absurd (.inr rfl) hs
  have hfine := hr.2
  have hlf := Se.l_of hfine
  simp only at hlf
  clear hr hs hB hC he hii hx hwt hj hm
  by_cases h0 : l = 0
  · subst h0
    have hv := Se.none_of hfine rfl
    simp only [Se.mk.injEq, true_and] at hv
    subst hv
    rw [show ansS ⟨0, 0⟩ ⟨m, n⟩ = (⟨0, 0⟩, true) from if_pos (.inl rfl)] at hy
    simp only [Prod.mk.injEq, Se.mk.injEq] at hy
    obtain ⟨⟨rfl, rfl⟩, rfl⟩ := hy
    clear hfine hlf
    go_enter Tryd.func11, Tryd.ntmps11
    go_wp2_with (first
      | (go_at_call 20; refine (HR.out _).mono ?_; rintro e w1 ⟨rfl, ho1⟩; have HO1 : Hid (Only (fun _ => False) W w1) := (((Only.refl _ _).alloc _).alloc _).trans ho1 (fun _ h => h.elim); have HB1 : Hid (Blk w1 (W.heap.size + 1) 41 Tr.zero.cs) := (Blk.new' _ _ _ (by simp)).only ho1 (fun h => h); have HB0 : Hid (Blk w1 W.heap.size 41 [.int .i64 (j : Int), .int .i64 _, .int .i64 _, .bool _]) := ((Blk.new' _ _ _ rfl).alloc _).only ho1 (fun h => h); have f0 : w1.cell? ⟨W.heap.size, 0, none⟩ = some (.int .i64 (j : Int)) := HB0.out.cell 0; have HBp := Lib.hid (HB.out.only HO1.out (fun h => h)); have c4 := HK.out w1 HBp.out; have f4 := HBp.out.frozen (76 + j); clear ho1)
      | fail)
    have HB3 := Lib.hid (HBp.out.setCell (76 + j) (.bool false))
    obtain ⟨d0, d1, _, _⟩ := HL.out _ HB3.out
    have HO3 : Hid (Only (· = p) W (w1.setCell ⟨p, 76 + j, none⟩ (.bool false))) := (Only.mono (T := (· = p)) HO1.out (fun i hi => hi.elim)).setCell (p := ⟨p, 76 + j, none⟩) (.inl rfl) _
    have HB0' := Lib.hid (HB0.out.far (p := ⟨p, 76 + j, none⟩) (by show W.heap.size ≠ p; omega) (.bool false))
    have HB1' := Lib.hid (HB1.out.far (p := ⟨p, 76 + j, none⟩) (by show W.heap.size + 1 ≠ p; omega) (.bool false))
    clear HBp HO1 HB0 HB1 c4 f4 f0
    generalize w1.setCell ⟨p, 76 + j, none⟩ (.bool false) = w3 at *
    have g1 : w3.cell? ⟨W.heap.size, 1, none⟩ = some (.int .i64 0) := HB0'.out.cell 1
    have g2 : w3.cell? ⟨W.heap.size, 2, none⟩ = some (.int .i64 0) := HB0'.out.cell 2
    have g3 : w3.cell? ⟨W.heap.size, 3, none⟩ = some (.bool false) := HB0'.out.cell 3
    go_quiet (fail)
    have HB3' := Lib.hid (HB3.out.drewN nq)
    have HO3' := Lib.hid (HO3.out.drewN nq)
    have HB1'' := Lib.hid (HB1'.out.drewN nq)
    have HB0'' := Lib.hid (HB0'.out.drewN nq)
    clear HB3 HO3 HB1' HB0' d0 d1 g1 g2 g3
    generalize w3.drewN nq = w4 at *
    have hN4 := HB0''.out.lt
    have hN4' := HB1''.out.lt
    have hp4 := HB3'.out.lt
    have y0 : ∀ o, (w4.alloc o).cell? ⟨p, 38 + j * 2, none⟩ = some (.int .i64 m) := fun o => (HL.out _ (HB3'.out.alloc o)).2.2.1
    have y1 : ∀ o, (w4.alloc o).cell? ⟨p, 38 + j * 2 + 1, none⟩ = some (.int .i64 n) := fun o => (HL.out _ (HB3'.out.alloc o)).2.2.2
    have x1 : ∀ o o', ((w4.alloc o).alloc o').cell? ⟨W.heap.size, 1, none⟩ = some (.int .i64 0) := fun o o' => ((HB0''.out.alloc o).alloc o').cell 1
    have x2 : ∀ o o', ((w4.alloc o).alloc o').cell? ⟨W.heap.size, 2, none⟩ = some (.int .i64 0) := fun o o' => ((HB0''.out.alloc o).alloc o').cell 2
    go_wp2
    have HB5 := Lib.hid ((HB3'.out.alloc (.cells #[.int .i64 (j : Int), .int .i64 0, .int .i64 0, .bool true] 41)).alloc (.cells #[.int .i64 m, .int .i64 n] 39))
    have HT5 := Lib.hid ((Blk.new w4 41 [.int .i64 (j : Int), .int .i64 0, .int .i64 0, .bool true]).alloc (.cells #[.int .i64 m, .int .i64 n] 39))
    have HR5 := Lib.hid ((HB1''.out.alloc (.cells #[.int .i64 (j : Int), .int .i64 0, .int .i64 0, .bool true] 41)).alloc (.cells #[.int .i64 m, .int .i64 n] 39))
    have HO5 := Lib.hid ((HO3'.out.alloc (.cells #[.int .i64 (j : Int), .int .i64 0, .int .i64 0, .bool true] 41)).alloc (.cells #[.int .i64 m, .int .i64 n] 39))
    clear y0 y1 x1 x2
    generalize (w4.alloc (.cells #[.int .i64 (j : Int), .int .i64 0, .int .i64 0, .bool true] 41)).alloc (.cells #[.int .i64 m, .int .i64 n] 39) = w5 at *
    obtain ⟨T, hT⟩ : ∃ T, T = w4.heap.size := ⟨_, rfl⟩
    rw [← hT] at HT5 ⊢
    have hTp : T ≠ p := by omega
    have t0 : w5.cell? ⟨T, 1, none⟩ = some (.int .i64 0) := HT5.out.cell 1
    have t1 : w5.cell? ⟨T, 2, none⟩ = some (.int .i64 0) := HT5.out.cell 2
    obtain ⟨q0, q1, _, _⟩ := HL.out _ HB5.out
    have p0 := HB5.out.frozen (j * 2)
    have p1 := HB5.out.frozen (j * 2 + 1)
    clear hT
    go_region
    have HB9 := Lib.hid (((HB5.out.setCell (j * 2) (.int .i64 0)).setCell (j * 2 + 1) (.int .i64 0)).drew)
    have HO9 : Hid (Only (· = p) W (((w5.setCell ⟨p, j * 2, none⟩ (.int .i64 0)).setCell ⟨p, j * 2 + 1, none⟩ (.int .i64 0)).drew)) := ((HO5.out.setCell (p := ⟨p, j * 2, none⟩) (.inl rfl) _).setCell (p := ⟨p, j * 2 + 1, none⟩) (.inl rfl) _).drew
    have HT9 := Lib.hid (((HT5.out.far (p := ⟨p, j * 2, none⟩) (by show T ≠ p; exact hTp) (.int .i64 0)).far (p := ⟨p, j * 2 + 1, none⟩) (by show T ≠ p; exact hTp) (.int .i64 0)).drew)
    have HR9 := Lib.hid (((HR5.out.far (p := ⟨p, j * 2, none⟩) (by show W.heap.size + 1 ≠ p; omega) (.int .i64 0)).far (p := ⟨p, j * 2 + 1, none⟩) (by show W.heap.size + 1 ≠ p; omega) (.int .i64 0)).drew)
    clear t0 t1 q0 q1 p0 p1
    generalize ((w5.setCell ⟨p, j * 2, none⟩ (.int .i64 0)).setCell ⟨p, j * 2 + 1, none⟩ (.int .i64 0)).drew = w9 at *
    have s0 : w9.cell? ⟨T, 0, none⟩ = some (.int .i64 (j : Int)) := HT9.out.cell 0
    have s1 : w9.cell? ⟨T, 1, none⟩ = some (.int .i64 0) := HT9.out.cell 1
    have s2 : w9.cell? ⟨T, 2, none⟩ = some (.int .i64 0) := HT9.out.cell 2
    have s3 : w9.cell? ⟨T, 3, none⟩ = some (.bool true) := HT9.out.cell 3
    go_wp2_with (first
      | ((with_reducible show wpList _ _ _ (⟨none, .store 41 _ _, _, _, _, _⟩ :: _) _ _); refine step_store rfl 41 _ _ rfl (W.heap.size + 1) rfl (Tr.cs ⟨j, ⟨0, 0⟩, true⟩) rfl _ Tr.zero.cs HR9.out size_rtri rfl (Tr.cs_one _) ?_; intro w10 hB10 hz10 ho10)
      | fail)
    refine ret_cell2 rfl (W.heap.size + 1) rfl 41 (Tr.cs ⟨j, ⟨0, 0⟩, true⟩) _ hB10.out Tryd.underlying41 rfl size_rtri rfl ?_
    exact ⟨rfl, ⟨_, HB9.out.only ho10 (by omega), HC2.out⟩, HO9.out.trans ho10 (fun i hi => .inr (by omega))⟩
  · have e0 : (l == 0) = false := by simp [h0]
    by_cases h1 : l = 1
    · subst h1
      by_cases h2 : m = 2
      · subst h2
        rw [show ansS ⟨1, v⟩ ⟨2, n⟩ = (⟨1, v⟩, true) from ansS_two (by decide)] at hy
        simp only [Prod.mk.injEq, Se.mk.injEq] at hy
        obtain ⟨⟨hy1, hy2⟩, hy3⟩ := hy
        subst y z ag
        clear hfine hlf
        go_enter Tryd.func11, Tryd.ntmps11
        go_wp2_with (first
          | (go_at_call 20; refine (HR.out _).mono ?_; rintro e w1 ⟨rfl, ho1⟩; have HO1 : Hid (Only (fun _ => False) W w1) := (((Only.refl _ _).alloc _).alloc _).trans ho1 (fun _ h => h.elim); have HB1 : Hid (Blk w1 (W.heap.size + 1) 41 Tr.zero.cs) := (Blk.new' _ _ _ (by simp)).only ho1 (fun h => h); have HB0 : Hid (Blk w1 W.heap.size 41 [.int .i64 (j : Int), .int .i64 _, .int .i64 _, .bool _]) := ((Blk.new' _ _ _ rfl).alloc _).only ho1 (fun h => h); have f0 : w1.cell? ⟨W.heap.size, 0, none⟩ = some (.int .i64 (j : Int)) := HB0.out.cell 0; have HBp := Lib.hid (HB.out.only HO1.out (fun h => h)); have c4 := HK.out w1 HBp.out; have f4 := HBp.out.frozen (76 + j); clear ho1)
          | fail)
        have HB3 := Lib.hid (HBp.out.setCell (76 + j) (.bool false))
        obtain ⟨d0, d1, _, _⟩ := HL.out _ HB3.out
        have HO3 : Hid (Only (· = p) W (w1.setCell ⟨p, 76 + j, none⟩ (.bool false))) := (Only.mono (T := (· = p)) HO1.out (fun i hi => hi.elim)).setCell (p := ⟨p, 76 + j, none⟩) (.inl rfl) _
        have HB0' := Lib.hid (HB0.out.far (p := ⟨p, 76 + j, none⟩) (by show W.heap.size ≠ p; omega) (.bool false))
        have HB1' := Lib.hid (HB1.out.far (p := ⟨p, 76 + j, none⟩) (by show W.heap.size + 1 ≠ p; omega) (.bool false))
        clear HBp HO1 HB0 HB1 c4 f4 f0
        generalize w1.setCell ⟨p, 76 + j, none⟩ (.bool false) = w3 at *
        have g1 : w3.cell? ⟨W.heap.size, 1, none⟩ = some (.int .i64 1) := HB0'.out.cell 1
        have g2 : w3.cell? ⟨W.heap.size, 2, none⟩ = some (.int .i64 v) := HB0'.out.cell 2
        have g3 : w3.cell? ⟨W.heap.size, 3, none⟩ = some (.bool false) := HB0'.out.cell 3
        go_quiet (fail)
        have HB3' := Lib.hid (HB3.out.drewN nq)
        have HO3' := Lib.hid (HO3.out.drewN nq)
        have HB1'' := Lib.hid (HB1'.out.drewN nq)
        have HB0'' := Lib.hid (HB0'.out.drewN nq)
        clear HB3 HO3 HB1' HB0' d0 d1 g1 g2 g3
        generalize w3.drewN nq = w4 at *
        have hN4 := HB0''.out.lt
        have hN4' := HB1''.out.lt
        have hp4 := HB3'.out.lt
        have y0 : ∀ o, (w4.alloc o).cell? ⟨p, 38 + j * 2, none⟩ = some (.int .i64 2) := fun o => (HL.out _ (HB3'.out.alloc o)).2.2.1
        have y1 : ∀ o, (w4.alloc o).cell? ⟨p, 38 + j * 2 + 1, none⟩ = some (.int .i64 n) := fun o => (HL.out _ (HB3'.out.alloc o)).2.2.2
        have x1 : ∀ o o', ((w4.alloc o).alloc o').cell? ⟨W.heap.size, 1, none⟩ = some (.int .i64 1) := fun o o' => ((HB0''.out.alloc o).alloc o').cell 1
        have x2 : ∀ o o', ((w4.alloc o).alloc o').cell? ⟨W.heap.size, 2, none⟩ = some (.int .i64 v) := fun o o' => ((HB0''.out.alloc o).alloc o').cell 2
        go_wp2
        have HB5 := Lib.hid ((HB3'.out.alloc (.cells #[.int .i64 (j : Int), .int .i64 1, .int .i64 v, .bool true] 41)).alloc (.cells #[.int .i64 2, .int .i64 n] 39))
        have HT5 := Lib.hid ((Blk.new w4 41 [.int .i64 (j : Int), .int .i64 1, .int .i64 v, .bool true]).alloc (.cells #[.int .i64 2, .int .i64 n] 39))
        have HR5 := Lib.hid ((HB1''.out.alloc (.cells #[.int .i64 (j : Int), .int .i64 1, .int .i64 v, .bool true] 41)).alloc (.cells #[.int .i64 2, .int .i64 n] 39))
        have HO5 := Lib.hid ((HO3'.out.alloc (.cells #[.int .i64 (j : Int), .int .i64 1, .int .i64 v, .bool true] 41)).alloc (.cells #[.int .i64 2, .int .i64 n] 39))
        clear y0 y1 x1 x2
        generalize (w4.alloc (.cells #[.int .i64 (j : Int), .int .i64 1, .int .i64 v, .bool true] 41)).alloc (.cells #[.int .i64 2, .int .i64 n] 39) = w5 at *
        obtain ⟨T, hT⟩ : ∃ T, T = w4.heap.size := ⟨_, rfl⟩
        rw [← hT] at HT5 ⊢
        have hTp : T ≠ p := by omega
        have t0 : w5.cell? ⟨T, 1, none⟩ = some (.int .i64 1) := HT5.out.cell 1
        have t1 : w5.cell? ⟨T, 2, none⟩ = some (.int .i64 v) := HT5.out.cell 2
        obtain ⟨q0, q1, _, _⟩ := HL.out _ HB5.out
        have p0 := HB5.out.frozen (j * 2)
        have p1 := HB5.out.frozen (j * 2 + 1)
        clear hT
        go_region
        have HB9 := Lib.hid (((HB5.out.setCell (j * 2) (.int .i64 1)).setCell (j * 2 + 1) (.int .i64 v)).drew)
        have HO9 : Hid (Only (· = p) W (((w5.setCell ⟨p, j * 2, none⟩ (.int .i64 1)).setCell ⟨p, j * 2 + 1, none⟩ (.int .i64 v)).drew)) := ((HO5.out.setCell (p := ⟨p, j * 2, none⟩) (.inl rfl) _).setCell (p := ⟨p, j * 2 + 1, none⟩) (.inl rfl) _).drew
        have HT9 := Lib.hid (((HT5.out.far (p := ⟨p, j * 2, none⟩) (by show T ≠ p; exact hTp) (.int .i64 1)).far (p := ⟨p, j * 2 + 1, none⟩) (by show T ≠ p; exact hTp) (.int .i64 v)).drew)
        have HR9 := Lib.hid (((HR5.out.far (p := ⟨p, j * 2, none⟩) (by show W.heap.size + 1 ≠ p; omega) (.int .i64 1)).far (p := ⟨p, j * 2 + 1, none⟩) (by show W.heap.size + 1 ≠ p; omega) (.int .i64 v)).drew)
        clear t0 t1 q0 q1 p0 p1
        generalize ((w5.setCell ⟨p, j * 2, none⟩ (.int .i64 1)).setCell ⟨p, j * 2 + 1, none⟩ (.int .i64 v)).drew = w9 at *
        have s0 : w9.cell? ⟨T, 0, none⟩ = some (.int .i64 (j : Int)) := HT9.out.cell 0
        have s1 : w9.cell? ⟨T, 1, none⟩ = some (.int .i64 1) := HT9.out.cell 1
        have s2 : w9.cell? ⟨T, 2, none⟩ = some (.int .i64 v) := HT9.out.cell 2
        have s3 : w9.cell? ⟨T, 3, none⟩ = some (.bool true) := HT9.out.cell 3
        go_wp2_with (first
          | ((with_reducible show wpList _ _ _ (⟨none, .store 41 _ _, _, _, _, _⟩ :: _) _ _); refine step_store rfl 41 _ _ rfl (W.heap.size + 1) rfl (Tr.cs ⟨j, ⟨1, v⟩, true⟩) rfl _ Tr.zero.cs HR9.out size_rtri rfl (Tr.cs_one _) ?_; intro w10 hB10 hz10 ho10)
          | fail)
        refine ret_cell2 rfl (W.heap.size + 1) rfl 41 (Tr.cs ⟨j, ⟨1, v⟩, true⟩) _ hB10.out Tryd.underlying41 rfl size_rtri rfl ?_
        exact ⟨rfl, ⟨_, HB9.out.only ho10 (by omega), HC2.out⟩, HO9.out.trans ho10 (fun i hi => .inr (by omega))⟩
      · have e2 : (m == 2) = false := by simp [h2]
        rw [show ansS ⟨1, v⟩ ⟨m, n⟩ = (⟨0, 0⟩, false) from ansS_cant h2] at hy
        simp only [Prod.mk.injEq, Se.mk.injEq] at hy
        obtain ⟨⟨hy1, hy2⟩, hy3⟩ := hy
        subst y z ag
        clear hfine hlf
        go_enter Tryd.func11, Tryd.ntmps11
        go_wp2_with (first
          | (go_at_call 20; refine (HR.out _).mono ?_; rintro e w1 ⟨rfl, ho1⟩; have HO1 : Hid (Only (fun _ => False) W w1) := (((Only.refl _ _).alloc _).alloc _).trans ho1 (fun _ h => h.elim); have HB1 : Hid (Blk w1 (W.heap.size + 1) 41 Tr.zero.cs) := (Blk.new' _ _ _ (by simp)).only ho1 (fun h => h); have HB0 : Hid (Blk w1 W.heap.size 41 [.int .i64 (j : Int), .int .i64 _, .int .i64 _, .bool _]) := ((Blk.new' _ _ _ rfl).alloc _).only ho1 (fun h => h); have f0 : w1.cell? ⟨W.heap.size, 0, none⟩ = some (.int .i64 (j : Int)) := HB0.out.cell 0; have HBp := Lib.hid (HB.out.only HO1.out (fun h => h)); have c4 := HK.out w1 HBp.out; have f4 := HBp.out.frozen (76 + j); clear ho1)
          | fail)
        have HB3 := Lib.hid (HBp.out.setCell (76 + j) (.bool false))
        obtain ⟨d0, d1, _, _⟩ := HL.out _ HB3.out
        have HO3 : Hid (Only (· = p) W (w1.setCell ⟨p, 76 + j, none⟩ (.bool false))) := (Only.mono (T := (· = p)) HO1.out (fun i hi => hi.elim)).setCell (p := ⟨p, 76 + j, none⟩) (.inl rfl) _
        have HB0' := Lib.hid (HB0.out.far (p := ⟨p, 76 + j, none⟩) (by show W.heap.size ≠ p; omega) (.bool false))
        have HB1' := Lib.hid (HB1.out.far (p := ⟨p, 76 + j, none⟩) (by show W.heap.size + 1 ≠ p; omega) (.bool false))
        clear HBp HO1 HB0 HB1 c4 f4 f0
        generalize w1.setCell ⟨p, 76 + j, none⟩ (.bool false) = w3 at *
        have g1 : w3.cell? ⟨W.heap.size, 1, none⟩ = some (.int .i64 1) := HB0'.out.cell 1
        have g2 : w3.cell? ⟨W.heap.size, 2, none⟩ = some (.int .i64 v) := HB0'.out.cell 2
        have g3 : w3.cell? ⟨W.heap.size, 3, none⟩ = some (.bool false) := HB0'.out.cell 3
        go_quiet (fail)
        have HB3' := Lib.hid (HB3.out.drewN nq)
        have HO3' := Lib.hid (HO3.out.drewN nq)
        have HB1'' := Lib.hid (HB1'.out.drewN nq)
        have HB0'' := Lib.hid (HB0'.out.drewN nq)
        clear HB3 HO3 HB1' HB0' d0 d1 g1 g2 g3
        generalize w3.drewN nq = w4 at *
        have hN4 := HB0''.out.lt
        have hN4' := HB1''.out.lt
        have hp4 := HB3'.out.lt
        have y0 : ∀ o, (w4.alloc o).cell? ⟨p, 38 + j * 2, none⟩ = some (.int .i64 m) := fun o => (HL.out _ (HB3'.out.alloc o)).2.2.1
        have y1 : ∀ o, (w4.alloc o).cell? ⟨p, 38 + j * 2 + 1, none⟩ = some (.int .i64 n) := fun o => (HL.out _ (HB3'.out.alloc o)).2.2.2
        have x1 : ∀ o o', ((w4.alloc o).alloc o').cell? ⟨W.heap.size, 1, none⟩ = some (.int .i64 1) := fun o o' => ((HB0''.out.alloc o).alloc o').cell 1
        have x2 : ∀ o o', ((w4.alloc o).alloc o').cell? ⟨W.heap.size, 2, none⟩ = some (.int .i64 v) := fun o o' => ((HB0''.out.alloc o).alloc o').cell 2
        go_wp2
        have HB5 := Lib.hid ((HB3'.out.alloc (.cells #[.int .i64 (j : Int), .int .i64 0, .int .i64 0, .bool false] 41)).alloc (.cells #[.int .i64 m, .int .i64 n] 39))
        have HT5 := Lib.hid ((Blk.new w4 41 [.int .i64 (j : Int), .int .i64 0, .int .i64 0, .bool false]).alloc (.cells #[.int .i64 m, .int .i64 n] 39))
        have HR5 := Lib.hid ((HB1''.out.alloc (.cells #[.int .i64 (j : Int), .int .i64 0, .int .i64 0, .bool false] 41)).alloc (.cells #[.int .i64 m, .int .i64 n] 39))
        have HO5 := Lib.hid ((HO3'.out.alloc (.cells #[.int .i64 (j : Int), .int .i64 0, .int .i64 0, .bool false] 41)).alloc (.cells #[.int .i64 m, .int .i64 n] 39))
        clear y0 y1 x1 x2
        generalize (w4.alloc (.cells #[.int .i64 (j : Int), .int .i64 0, .int .i64 0, .bool false] 41)).alloc (.cells #[.int .i64 m, .int .i64 n] 39) = w5 at *
        obtain ⟨T, hT⟩ : ∃ T, T = w4.heap.size := ⟨_, rfl⟩
        rw [← hT] at HT5 ⊢
        have hTp : T ≠ p := by omega
        have t0 : w5.cell? ⟨T, 1, none⟩ = some (.int .i64 0) := HT5.out.cell 1
        have t1 : w5.cell? ⟨T, 2, none⟩ = some (.int .i64 0) := HT5.out.cell 2
        obtain ⟨q0, q1, _, _⟩ := HL.out _ HB5.out
        have p0 := HB5.out.frozen (j * 2)
        have p1 := HB5.out.frozen (j * 2 + 1)
        clear hT
        go_region
        have HB9 := Lib.hid (((HB5.out.setCell (j * 2) (.int .i64 0)).setCell (j * 2 + 1) (.int .i64 0)).drew)
        have HO9 : Hid (Only (· = p) W (((w5.setCell ⟨p, j * 2, none⟩ (.int .i64 0)).setCell ⟨p, j * 2 + 1, none⟩ (.int .i64 0)).drew)) := ((HO5.out.setCell (p := ⟨p, j * 2, none⟩) (.inl rfl) _).setCell (p := ⟨p, j * 2 + 1, none⟩) (.inl rfl) _).drew
        have HT9 := Lib.hid (((HT5.out.far (p := ⟨p, j * 2, none⟩) (by show T ≠ p; exact hTp) (.int .i64 0)).far (p := ⟨p, j * 2 + 1, none⟩) (by show T ≠ p; exact hTp) (.int .i64 0)).drew)
        have HR9 := Lib.hid (((HR5.out.far (p := ⟨p, j * 2, none⟩) (by show W.heap.size + 1 ≠ p; omega) (.int .i64 0)).far (p := ⟨p, j * 2 + 1, none⟩) (by show W.heap.size + 1 ≠ p; omega) (.int .i64 0)).drew)
        clear t0 t1 q0 q1 p0 p1
        generalize ((w5.setCell ⟨p, j * 2, none⟩ (.int .i64 0)).setCell ⟨p, j * 2 + 1, none⟩ (.int .i64 0)).drew = w9 at *
        have s0 : w9.cell? ⟨T, 0, none⟩ = some (.int .i64 (j : Int)) := HT9.out.cell 0
        have s1 : w9.cell? ⟨T, 1, none⟩ = some (.int .i64 0) := HT9.out.cell 1
        have s2 : w9.cell? ⟨T, 2, none⟩ = some (.int .i64 0) := HT9.out.cell 2
        have s3 : w9.cell? ⟨T, 3, none⟩ = some (.bool false) := HT9.out.cell 3
        go_wp2_with (first
          | ((with_reducible show wpList _ _ _ (⟨none, .store 41 _ _, _, _, _, _⟩ :: _) _ _); refine step_store rfl 41 _ _ rfl (W.heap.size + 1) rfl (Tr.cs ⟨j, ⟨0, 0⟩, false⟩) rfl _ Tr.zero.cs HR9.out size_rtri rfl (Tr.cs_one _) ?_; intro w10 hB10 hz10 ho10)
          | fail)
        refine ret_cell2 rfl (W.heap.size + 1) rfl 41 (Tr.cs ⟨j, ⟨0, 0⟩, false⟩) _ hB10.out Tryd.underlying41 rfl size_rtri rfl ?_
        exact ⟨rfl, ⟨_, HB9.out.only ho10 (by omega), HC2.out⟩, HO9.out.trans ho10 (fun i hi => .inr (by omega))⟩
    · have e1 : (l == 1) = false := by simp [h1]
      by_cases h2 : l = 2
      · subst h2
        by_cases hm : m = 2
        · subst hm
          rw [show ansS ⟨2, v⟩ ⟨2, n⟩ = (⟨2, v⟩, true) from ansS_two (by decide)] at hy
          simp only [Prod.mk.injEq, Se.mk.injEq] at hy
          obtain ⟨⟨hy1, hy2⟩, hy3⟩ := hy
          subst y z ag
          clear hfine hlf
          go_enter Tryd.func11, Tryd.ntmps11
          go_wp2_with (first
            | (go_at_call 20; refine (HR.out _).mono ?_; rintro e w1 ⟨rfl, ho1⟩; have HO1 : Hid (Only (fun _ => False) W w1) := (((Only.refl _ _).alloc _).alloc _).trans ho1 (fun _ h => h.elim); have HB1 : Hid (Blk w1 (W.heap.size + 1) 41 Tr.zero.cs) := (Blk.new' _ _ _ (by simp)).only ho1 (fun h => h); have HB0 : Hid (Blk w1 W.heap.size 41 [.int .i64 (j : Int), .int .i64 _, .int .i64 _, .bool _]) := ((Blk.new' _ _ _ rfl).alloc _).only ho1 (fun h => h); have f0 : w1.cell? ⟨W.heap.size, 0, none⟩ = some (.int .i64 (j : Int)) := HB0.out.cell 0; have HBp := Lib.hid (HB.out.only HO1.out (fun h => h)); have c4 := HK.out w1 HBp.out; have f4 := HBp.out.frozen (76 + j); clear ho1)
            | fail)
          have HB3 := Lib.hid (HBp.out.setCell (76 + j) (.bool false))
          obtain ⟨d0, d1, _, _⟩ := HL.out _ HB3.out
          have HO3 : Hid (Only (· = p) W (w1.setCell ⟨p, 76 + j, none⟩ (.bool false))) := (Only.mono (T := (· = p)) HO1.out (fun i hi => hi.elim)).setCell (p := ⟨p, 76 + j, none⟩) (.inl rfl) _
          have HB0' := Lib.hid (HB0.out.far (p := ⟨p, 76 + j, none⟩) (by show W.heap.size ≠ p; omega) (.bool false))
          have HB1' := Lib.hid (HB1.out.far (p := ⟨p, 76 + j, none⟩) (by show W.heap.size + 1 ≠ p; omega) (.bool false))
          clear HBp HO1 HB0 HB1 c4 f4 f0
          generalize w1.setCell ⟨p, 76 + j, none⟩ (.bool false) = w3 at *
          have g1 : w3.cell? ⟨W.heap.size, 1, none⟩ = some (.int .i64 2) := HB0'.out.cell 1
          have g2 : w3.cell? ⟨W.heap.size, 2, none⟩ = some (.int .i64 v) := HB0'.out.cell 2
          have g3 : w3.cell? ⟨W.heap.size, 3, none⟩ = some (.bool false) := HB0'.out.cell 3
          go_quiet (fail)
          have HB3' := Lib.hid (HB3.out.drewN nq)
          have HO3' := Lib.hid (HO3.out.drewN nq)
          have HB1'' := Lib.hid (HB1'.out.drewN nq)
          have HB0'' := Lib.hid (HB0'.out.drewN nq)
          clear HB3 HO3 HB1' HB0' d0 d1 g1 g2 g3
          generalize w3.drewN nq = w4 at *
          have hN4 := HB0''.out.lt
          have hN4' := HB1''.out.lt
          have hp4 := HB3'.out.lt
          have y0 : ∀ o, (w4.alloc o).cell? ⟨p, 38 + j * 2, none⟩ = some (.int .i64 2) := fun o => (HL.out _ (HB3'.out.alloc o)).2.2.1
          have y1 : ∀ o, (w4.alloc o).cell? ⟨p, 38 + j * 2 + 1, none⟩ = some (.int .i64 n) := fun o => (HL.out _ (HB3'.out.alloc o)).2.2.2
          have x1 : ∀ o o', ((w4.alloc o).alloc o').cell? ⟨W.heap.size, 1, none⟩ = some (.int .i64 2) := fun o o' => ((HB0''.out.alloc o).alloc o').cell 1
          have x2 : ∀ o o', ((w4.alloc o).alloc o').cell? ⟨W.heap.size, 2, none⟩ = some (.int .i64 v) := fun o o' => ((HB0''.out.alloc o).alloc o').cell 2
          go_wp2
          have HB5 := Lib.hid ((HB3'.out.alloc (.cells #[.int .i64 (j : Int), .int .i64 2, .int .i64 v, .bool true] 41)).alloc (.cells #[.int .i64 2, .int .i64 n] 39))
          have HT5 := Lib.hid ((Blk.new w4 41 [.int .i64 (j : Int), .int .i64 2, .int .i64 v, .bool true]).alloc (.cells #[.int .i64 2, .int .i64 n] 39))
          have HR5 := Lib.hid ((HB1''.out.alloc (.cells #[.int .i64 (j : Int), .int .i64 2, .int .i64 v, .bool true] 41)).alloc (.cells #[.int .i64 2, .int .i64 n] 39))
          have HO5 := Lib.hid ((HO3'.out.alloc (.cells #[.int .i64 (j : Int), .int .i64 2, .int .i64 v, .bool true] 41)).alloc (.cells #[.int .i64 2, .int .i64 n] 39))
          clear y0 y1 x1 x2
          generalize (w4.alloc (.cells #[.int .i64 (j : Int), .int .i64 2, .int .i64 v, .bool true] 41)).alloc (.cells #[.int .i64 2, .int .i64 n] 39) = w5 at *
          obtain ⟨T, hT⟩ : ∃ T, T = w4.heap.size := ⟨_, rfl⟩
          rw [← hT] at HT5 ⊢
          have hTp : T ≠ p := by omega
          have t0 : w5.cell? ⟨T, 1, none⟩ = some (.int .i64 2) := HT5.out.cell 1
          have t1 : w5.cell? ⟨T, 2, none⟩ = some (.int .i64 v) := HT5.out.cell 2
          obtain ⟨q0, q1, _, _⟩ := HL.out _ HB5.out
          have p0 := HB5.out.frozen (j * 2)
          have p1 := HB5.out.frozen (j * 2 + 1)
          clear hT
          go_region
          have HB9 := Lib.hid (((HB5.out.setCell (j * 2) (.int .i64 2)).setCell (j * 2 + 1) (.int .i64 v)).drew)
          have HO9 : Hid (Only (· = p) W (((w5.setCell ⟨p, j * 2, none⟩ (.int .i64 2)).setCell ⟨p, j * 2 + 1, none⟩ (.int .i64 v)).drew)) := ((HO5.out.setCell (p := ⟨p, j * 2, none⟩) (.inl rfl) _).setCell (p := ⟨p, j * 2 + 1, none⟩) (.inl rfl) _).drew
          have HT9 := Lib.hid (((HT5.out.far (p := ⟨p, j * 2, none⟩) (by show T ≠ p; exact hTp) (.int .i64 2)).far (p := ⟨p, j * 2 + 1, none⟩) (by show T ≠ p; exact hTp) (.int .i64 v)).drew)
          have HR9 := Lib.hid (((HR5.out.far (p := ⟨p, j * 2, none⟩) (by show W.heap.size + 1 ≠ p; omega) (.int .i64 2)).far (p := ⟨p, j * 2 + 1, none⟩) (by show W.heap.size + 1 ≠ p; omega) (.int .i64 v)).drew)
          clear t0 t1 q0 q1 p0 p1
          generalize ((w5.setCell ⟨p, j * 2, none⟩ (.int .i64 2)).setCell ⟨p, j * 2 + 1, none⟩ (.int .i64 v)).drew = w9 at *
          have s0 : w9.cell? ⟨T, 0, none⟩ = some (.int .i64 (j : Int)) := HT9.out.cell 0
          have s1 : w9.cell? ⟨T, 1, none⟩ = some (.int .i64 2) := HT9.out.cell 1
          have s2 : w9.cell? ⟨T, 2, none⟩ = some (.int .i64 v) := HT9.out.cell 2
          have s3 : w9.cell? ⟨T, 3, none⟩ = some (.bool true) := HT9.out.cell 3
          go_wp2_with (first
            | ((with_reducible show wpList _ _ _ (⟨none, .store 41 _ _, _, _, _, _⟩ :: _) _ _); refine step_store rfl 41 _ _ rfl (W.heap.size + 1) rfl (Tr.cs ⟨j, ⟨2, v⟩, true⟩) rfl _ Tr.zero.cs HR9.out size_rtri rfl (Tr.cs_one _) ?_; intro w10 hB10 hz10 ho10)
            | fail)
          refine ret_cell2 rfl (W.heap.size + 1) rfl 41 (Tr.cs ⟨j, ⟨2, v⟩, true⟩) _ hB10.out Tryd.underlying41 rfl size_rtri rfl ?_
          exact ⟨rfl, ⟨_, HB9.out.only ho10 (by omega), HC2.out⟩, HO9.out.trans ho10 (fun i hi => .inr (by omega))⟩
        · have e2 : (m == 2) = false := by simp [hm]
          rw [show ansS ⟨2, v⟩ ⟨m, n⟩ = (⟨m, n⟩, false) from ansS_value hm] at hy
          simp only [Prod.mk.injEq, Se.mk.injEq] at hy
          obtain ⟨⟨hy1, hy2⟩, hy3⟩ := hy
          subst y z ag
          clear hfine hlf
          go_enter Tryd.func11, Tryd.ntmps11
          go_wp2_with (first
            | (go_at_call 20; refine (HR.out _).mono ?_; rintro e w1 ⟨rfl, ho1⟩; have HO1 : Hid (Only (fun _ => False) W w1) := (((Only.refl _ _).alloc _).alloc _).trans ho1 (fun _ h => h.elim); have HB1 : Hid (Blk w1 (W.heap.size + 1) 41 Tr.zero.cs) := (Blk.new' _ _ _ (by simp)).only ho1 (fun h => h); have HB0 : Hid (Blk w1 W.heap.size 41 [.int .i64 (j : Int), .int .i64 _, .int .i64 _, .bool _]) := ((Blk.new' _ _ _ rfl).alloc _).only ho1 (fun h => h); have f0 : w1.cell? ⟨W.heap.size, 0, none⟩ = some (.int .i64 (j : Int)) := HB0.out.cell 0; have HBp := Lib.hid (HB.out.only HO1.out (fun h => h)); have c4 := HK.out w1 HBp.out; have f4 := HBp.out.frozen (76 + j); clear ho1)
            | fail)
          have HB3 := Lib.hid (HBp.out.setCell (76 + j) (.bool false))
          obtain ⟨d0, d1, _, _⟩ := HL.out _ HB3.out
          have HO3 : Hid (Only (· = p) W (w1.setCell ⟨p, 76 + j, none⟩ (.bool false))) := (Only.mono (T := (· = p)) HO1.out (fun i hi => hi.elim)).setCell (p := ⟨p, 76 + j, none⟩) (.inl rfl) _
          have HB0' := Lib.hid (HB0.out.far (p := ⟨p, 76 + j, none⟩) (by show W.heap.size ≠ p; omega) (.bool false))
          have HB1' := Lib.hid (HB1.out.far (p := ⟨p, 76 + j, none⟩) (by show W.heap.size + 1 ≠ p; omega) (.bool false))
          clear HBp HO1 HB0 HB1 c4 f4 f0
          generalize w1.setCell ⟨p, 76 + j, none⟩ (.bool false) = w3 at *
          have g1 : w3.cell? ⟨W.heap.size, 1, none⟩ = some (.int .i64 2) := HB0'.out.cell 1
          have g2 : w3.cell? ⟨W.heap.size, 2, none⟩ = some (.int .i64 v) := HB0'.out.cell 2
          have g3 : w3.cell? ⟨W.heap.size, 3, none⟩ = some (.bool false) := HB0'.out.cell 3
          go_quiet (fail)
          have HB3' := Lib.hid (HB3.out.drewN nq)
          have HO3' := Lib.hid (HO3.out.drewN nq)
          have HB1'' := Lib.hid (HB1'.out.drewN nq)
          have HB0'' := Lib.hid (HB0'.out.drewN nq)
          clear HB3 HO3 HB1' HB0' d0 d1 g1 g2 g3
          generalize w3.drewN nq = w4 at *
          have hN4 := HB0''.out.lt
          have hN4' := HB1''.out.lt
          have hp4 := HB3'.out.lt
          have y0 : ∀ o, (w4.alloc o).cell? ⟨p, 38 + j * 2, none⟩ = some (.int .i64 m) := fun o => (HL.out _ (HB3'.out.alloc o)).2.2.1
          have y1 : ∀ o, (w4.alloc o).cell? ⟨p, 38 + j * 2 + 1, none⟩ = some (.int .i64 n) := fun o => (HL.out _ (HB3'.out.alloc o)).2.2.2
          have x1 : ∀ o o', ((w4.alloc o).alloc o').cell? ⟨W.heap.size, 1, none⟩ = some (.int .i64 2) := fun o o' => ((HB0''.out.alloc o).alloc o').cell 1
          have x2 : ∀ o o', ((w4.alloc o).alloc o').cell? ⟨W.heap.size, 2, none⟩ = some (.int .i64 v) := fun o o' => ((HB0''.out.alloc o).alloc o').cell 2
          go_wp2
          have HB5 := Lib.hid ((HB3'.out.alloc (.cells #[.int .i64 (j : Int), .int .i64 m, .int .i64 n, .bool false] 41)).alloc (.cells #[.int .i64 m, .int .i64 n] 39))
          have HT5 := Lib.hid ((Blk.new w4 41 [.int .i64 (j : Int), .int .i64 m, .int .i64 n, .bool false]).alloc (.cells #[.int .i64 m, .int .i64 n] 39))
          have HR5 := Lib.hid ((HB1''.out.alloc (.cells #[.int .i64 (j : Int), .int .i64 m, .int .i64 n, .bool false] 41)).alloc (.cells #[.int .i64 m, .int .i64 n] 39))
          have HO5 := Lib.hid ((HO3'.out.alloc (.cells #[.int .i64 (j : Int), .int .i64 m, .int .i64 n, .bool false] 41)).alloc (.cells #[.int .i64 m, .int .i64 n] 39))
          clear y0 y1 x1 x2
          generalize (w4.alloc (.cells #[.int .i64 (j : Int), .int .i64 m, .int .i64 n, .bool false] 41)).alloc (.cells #[.int .i64 m, .int .i64 n] 39) = w5 at *
          obtain ⟨T, hT⟩ : ∃ T, T = w4.heap.size := ⟨_, rfl⟩
          rw [← hT] at HT5 ⊢
          have hTp : T ≠ p := by omega
          have t0 : w5.cell? ⟨T, 1, none⟩ = some (.int .i64 m) := HT5.out.cell 1
          have t1 : w5.cell? ⟨T, 2, none⟩ = some (.int .i64 n) := HT5.out.cell 2
          obtain ⟨q0, q1, _, _⟩ := HL.out _ HB5.out
          have p0 := HB5.out.frozen (j * 2)
          have p1 := HB5.out.frozen (j * 2 + 1)
          clear hT
          go_region
          have HB9 := Lib.hid (((HB5.out.setCell (j * 2) (.int .i64 m)).setCell (j * 2 + 1) (.int .i64 n)).drew)
          have HO9 : Hid (Only (· = p) W (((w5.setCell ⟨p, j * 2, none⟩ (.int .i64 m)).setCell ⟨p, j * 2 + 1, none⟩ (.int .i64 n)).drew)) := ((HO5.out.setCell (p := ⟨p, j * 2, none⟩) (.inl rfl) _).setCell (p := ⟨p, j * 2 + 1, none⟩) (.inl rfl) _).drew
          have HT9 := Lib.hid (((HT5.out.far (p := ⟨p, j * 2, none⟩) (by show T ≠ p; exact hTp) (.int .i64 m)).far (p := ⟨p, j * 2 + 1, none⟩) (by show T ≠ p; exact hTp) (.int .i64 n)).drew)
          have HR9 := Lib.hid (((HR5.out.far (p := ⟨p, j * 2, none⟩) (by show W.heap.size + 1 ≠ p; omega) (.int .i64 m)).far (p := ⟨p, j * 2 + 1, none⟩) (by show W.heap.size + 1 ≠ p; omega) (.int .i64 n)).drew)
          clear t0 t1 q0 q1 p0 p1
          generalize ((w5.setCell ⟨p, j * 2, none⟩ (.int .i64 m)).setCell ⟨p, j * 2 + 1, none⟩ (.int .i64 n)).drew = w9 at *
          have s0 : w9.cell? ⟨T, 0, none⟩ = some (.int .i64 (j : Int)) := HT9.out.cell 0
          have s1 : w9.cell? ⟨T, 1, none⟩ = some (.int .i64 m) := HT9.out.cell 1
          have s2 : w9.cell? ⟨T, 2, none⟩ = some (.int .i64 n) := HT9.out.cell 2
          have s3 : w9.cell? ⟨T, 3, none⟩ = some (.bool false) := HT9.out.cell 3
          go_wp2_with (first
            | ((with_reducible show wpList _ _ _ (⟨none, .store 41 _ _, _, _, _, _⟩ :: _) _ _); refine step_store rfl 41 _ _ rfl (W.heap.size + 1) rfl (Tr.cs ⟨j, ⟨m, n⟩, false⟩) rfl _ Tr.zero.cs HR9.out size_rtri rfl (Tr.cs_one _) ?_; intro w10 hB10 hz10 ho10)
            | fail)
          refine ret_cell2 rfl (W.heap.size + 1) rfl 41 (Tr.cs ⟨j, ⟨m, n⟩, false⟩) _ hB10.out Tryd.underlying41 rfl size_rtri rfl ?_
          exact ⟨rfl, ⟨_, HB9.out.only ho10 (by omega), HC2.out⟩, HO9.out.trans ho10 (fun i hi => .inr (by omega))⟩
      · obtain rfl : l = 3 := by omega
        rw [show ansS ⟨3, v⟩ ⟨m, n⟩ = (⟨m, n⟩, false) from ansS_deft _ _ _] at hy
        simp only [Prod.mk.injEq, Se.mk.injEq] at hy
        obtain ⟨⟨hy1, hy2⟩, hy3⟩ := hy
        subst y z ag
        clear hfine hlf
        go_enter Tryd.func11, Tryd.ntmps11
        go_wp2_with (first
          | (go_at_call 20; refine (HR.out _).mono ?_; rintro e w1 ⟨rfl, ho1⟩; have HO1 : Hid (Only (fun _ => False) W w1) := (((Only.refl _ _).alloc _).alloc _).trans ho1 (fun _ h => h.elim); have HB1 : Hid (Blk w1 (W.heap.size + 1) 41 Tr.zero.cs) := (Blk.new' _ _ _ (by simp)).only ho1 (fun h => h); have HB0 : Hid (Blk w1 W.heap.size 41 [.int .i64 (j : Int), .int .i64 _, .int .i64 _, .bool _]) := ((Blk.new' _ _ _ rfl).alloc _).only ho1 (fun h => h); have f0 : w1.cell? ⟨W.heap.size, 0, none⟩ = some (.int .i64 (j : Int)) := HB0.out.cell 0; have HBp := Lib.hid (HB.out.only HO1.out (fun h => h)); have c4 := HK.out w1 HBp.out; have f4 := HBp.out.frozen (76 + j); clear ho1)
          | fail)
        have HB3 := Lib.hid (HBp.out.setCell (76 + j) (.bool false))
        obtain ⟨d0, d1, _, _⟩ := HL.out _ HB3.out
        have HO3 : Hid (Only (· = p) W (w1.setCell ⟨p, 76 + j, none⟩ (.bool false))) := (Only.mono (T := (· = p)) HO1.out (fun i hi => hi.elim)).setCell (p := ⟨p, 76 + j, none⟩) (.inl rfl) _
        have HB0' := Lib.hid (HB0.out.far (p := ⟨p, 76 + j, none⟩) (by show W.heap.size ≠ p; omega) (.bool false))
        have HB1' := Lib.hid (HB1.out.far (p := ⟨p, 76 + j, none⟩) (by show W.heap.size + 1 ≠ p; omega) (.bool false))
        clear HBp HO1 HB0 HB1 c4 f4 f0
        generalize w1.setCell ⟨p, 76 + j, none⟩ (.bool false) = w3 at *
        have g1 : w3.cell? ⟨W.heap.size, 1, none⟩ = some (.int .i64 3) := HB0'.out.cell 1
        have g2 : w3.cell? ⟨W.heap.size, 2, none⟩ = some (.int .i64 v) := HB0'.out.cell 2
        have g3 : w3.cell? ⟨W.heap.size, 3, none⟩ = some (.bool false) := HB0'.out.cell 3
        go_quiet (fail)
        have HB3' := Lib.hid (HB3.out.drewN nq)
        have HO3' := Lib.hid (HO3.out.drewN nq)
        have HB1'' := Lib.hid (HB1'.out.drewN nq)
        have HB0'' := Lib.hid (HB0'.out.drewN nq)
        clear HB3 HO3 HB1' HB0' d0 d1 g1 g2 g3
        generalize w3.drewN nq = w4 at *
        have hN4 := HB0''.out.lt
        have hN4' := HB1''.out.lt
        have hp4 := HB3'.out.lt
        have y0 : ∀ o, (w4.alloc o).cell? ⟨p, 38 + j * 2, none⟩ = some (.int .i64 m) := fun o => (HL.out _ (HB3'.out.alloc o)).2.2.1
        have y1 : ∀ o, (w4.alloc o).cell? ⟨p, 38 + j * 2 + 1, none⟩ = some (.int .i64 n) := fun o => (HL.out _ (HB3'.out.alloc o)).2.2.2
        have x1 : ∀ o o', ((w4.alloc o).alloc o').cell? ⟨W.heap.size, 1, none⟩ = some (.int .i64 3) := fun o o' => ((HB0''.out.alloc o).alloc o').cell 1
        have x2 : ∀ o o', ((w4.alloc o).alloc o').cell? ⟨W.heap.size, 2, none⟩ = some (.int .i64 v) := fun o o' => ((HB0''.out.alloc o).alloc o').cell 2
        go_wp2
        have HB5 := Lib.hid ((HB3'.out.alloc (.cells #[.int .i64 (j : Int), .int .i64 m, .int .i64 n, .bool false] 41)).alloc (.cells #[.int .i64 m, .int .i64 n] 39))
        have HT5 := Lib.hid ((Blk.new w4 41 [.int .i64 (j : Int), .int .i64 m, .int .i64 n, .bool false]).alloc (.cells #[.int .i64 m, .int .i64 n] 39))
        have HR5 := Lib.hid ((HB1''.out.alloc (.cells #[.int .i64 (j : Int), .int .i64 m, .int .i64 n, .bool false] 41)).alloc (.cells #[.int .i64 m, .int .i64 n] 39))
        have HO5 := Lib.hid ((HO3'.out.alloc (.cells #[.int .i64 (j : Int), .int .i64 m, .int .i64 n, .bool false] 41)).alloc (.cells #[.int .i64 m, .int .i64 n] 39))
        clear y0 y1 x1 x2
        generalize (w4.alloc (.cells #[.int .i64 (j : Int), .int .i64 m, .int .i64 n, .bool false] 41)).alloc (.cells #[.int .i64 m, .int .i64 n] 39) = w5 at *
        obtain ⟨T, hT⟩ : ∃ T, T = w4.heap.size := ⟨_, rfl⟩
        rw [← hT] at HT5 ⊢
        have hTp : T ≠ p := by omega
        have t0 : w5.cell? ⟨T, 1, none⟩ = some (.int .i64 m) := HT5.out.cell 1
        have t1 : w5.cell? ⟨T, 2, none⟩ = some (.int .i64 n) := HT5.out.cell 2
        obtain ⟨q0, q1, _, _⟩ := HL.out _ HB5.out
        have p0 := HB5.out.frozen (j * 2)
        have p1 := HB5.out.frozen (j * 2 + 1)
        clear hT
        go_region
        have HB9 := Lib.hid (((HB5.out.setCell (j * 2) (.int .i64 m)).setCell (j * 2 + 1) (.int .i64 n)).drew)
        have HO9 : Hid (Only (· = p) W (((w5.setCell ⟨p, j * 2, none⟩ (.int .i64 m)).setCell ⟨p, j * 2 + 1, none⟩ (.int .i64 n)).drew)) := ((HO5.out.setCell (p := ⟨p, j * 2, none⟩) (.inl rfl) _).setCell (p := ⟨p, j * 2 + 1, none⟩) (.inl rfl) _).drew
        have HT9 := Lib.hid (((HT5.out.far (p := ⟨p, j * 2, none⟩) (by show T ≠ p; exact hTp) (.int .i64 m)).far (p := ⟨p, j * 2 + 1, none⟩) (by show T ≠ p; exact hTp) (.int .i64 n)).drew)
        have HR9 := Lib.hid (((HR5.out.far (p := ⟨p, j * 2, none⟩) (by show W.heap.size + 1 ≠ p; omega) (.int .i64 m)).far (p := ⟨p, j * 2 + 1, none⟩) (by show W.heap.size + 1 ≠ p; omega) (.int .i64 n)).drew)
        clear t0 t1 q0 q1 p0 p1
        generalize ((w5.setCell ⟨p, j * 2, none⟩ (.int .i64 m)).setCell ⟨p, j * 2 + 1, none⟩ (.int .i64 n)).drew = w9 at *
        have s0 : w9.cell? ⟨T, 0, none⟩ = some (.int .i64 (j : Int)) := HT9.out.cell 0
        have s1 : w9.cell? ⟨T, 1, none⟩ = some (.int .i64 m) := HT9.out.cell 1
        have s2 : w9.cell? ⟨T, 2, none⟩ = some (.int .i64 n) := HT9.out.cell 2
        have s3 : w9.cell? ⟨T, 3, none⟩ = some (.bool false) := HT9.out.cell 3
        go_wp2_with (first
          | ((with_reducible show wpList _ _ _ (⟨none, .store 41 _ _, _, _, _, _⟩ :: _) _ _); refine step_store rfl 41 _ _ rfl (W.heap.size + 1) rfl (Tr.cs ⟨j, ⟨m, n⟩, false⟩) rfl _ Tr.zero.cs HR9.out size_rtri rfl (Tr.cs_one _) ?_; intro w10 hB10 hz10 ho10)
          | fail)
        refine ret_cell2 rfl (W.heap.size + 1) rfl 41 (Tr.cs ⟨j, ⟨m, n⟩, false⟩) _ hB10.out Tryd.underlying41 rfl size_rtri rfl ?_
        exact ⟨rfl, ⟨_, HB9.out.only ho10 (by omega), HC2.out⟩, HO9.out.trans ho10 (fun i hi => .inr (by omega))⟩

theorem rhear_any {W : World} {p : Nat} {S : Sd} (h : RfAt W p S) (t : Tr) :
    Calls Tryd.prog 11 #[.pointer (some ⟨p, 0, none⟩), t.val] W fun e w' => e = .returned (.tuple #[(hearS S t).2.1.val, .bool (hearS S t).2.2]) ∧ RfAt w' p (hearS S t).1 ∧ Only (· = p) W w' := by
  cases hr : t.right
  · rw [hearS_not hr]
    refine (rhear_not W p t hr).mono ?_
    rintro e w' ⟨rfl, ho⟩
    exact ⟨rfl, h.same ho, ho.mono (fun _ h => h.elim)⟩
  · by_cases hs : t.x = (S (plF t.f)).has ∨ t.ack = true
    · rw [hearS_still hr hs]
      exact rhear_still h t hr hs
    · rw [hearS_told hr hs]
      exact rhear_told h t hr hs
end Go.Proofs.YtojnhheeholaeaaDoor
