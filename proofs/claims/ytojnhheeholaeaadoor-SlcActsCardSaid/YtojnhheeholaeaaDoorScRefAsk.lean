/- Layer 14's document, walked: Ask. -/
import Derived.Test.YtojnhheeholaeaaDoorScRefHear
import Derived.Test.YtojnhheeholaeaaDoorScAsk
namespace Go.Proofs.YtojnhheeholaeaaDoor
open Go Go.RowKit
set_option maxRecDepth 100000
set_option maxHeartbeats 4000000

theorem rask_range (W : World) (p : Nat) (S : Sd) (f : Int) (x : Se) (hn : askN S f x = 1) : Calls Tryd.prog 14 #[.pointer (some ⟨p, 0, none⟩), .int .i64 f, x.val] W fun e w' => e = .returned (.tuple #[Tr.zero.val, .int .i64 1]) ∧ Only (fun _ => False) W w' := by
  have hf : isF f = false := by
    unfold askN at hn
    cases hf : isF f
    · rfl
    · rw [hf, if_neg (by decide)] at hn
      split at hn
      · omega
      · unfold Ch.askN at hn
        split at hn
        · omega
        · split at hn <;> omega
  obtain ⟨l, v⟩ := x
  have hd : decide (f < 1) = true ∨ (decide (f < 1) = false ∧ decide (18 < f) = true) := by
    unfold isF at hf
    simp at hf ⊢
    omega
  clear hn hf
  rcases hd with hd | ⟨hd, hd2⟩
  all_goals
    go_enter Tryd.func14, Tryd.ntmps14
    go_wp2
    refine ret_cell2 rfl (W.heap.size + 1) rfl 41 Tr.zero.cs _ (Blk.new' _ _ _ (by simp)) Tryd.underlying41 rfl size_rtri rfl ?_
    exact ⟨rfl, ((Only.refl _ _).alloc _).alloc _⟩

theorem rask_form (W : World) (p : Nat) (S : Sd) (f : Int) (x : Se) (hn : askN S f x = 5) : Calls Tryd.prog 14 #[.pointer (some ⟨p, 0, none⟩), .int .i64 f, x.val] W fun e w' => e = .returned (.tuple #[Tr.zero.val, .int .i64 5]) ∧ Only (fun _ => False) W w' := by
  have hf : isF f = true := by
    cases hf : isF f
    · unfold askN at hn
      rw [if_pos hf] at hn
      omega
    · rfl
  have hx : x.fine = false ∨ x.l = 0 := by
    unfold askN at hn
    rw [if_neg (by rw [hf]; decide)] at hn
    split at hn
    · assumption
    · unfold Ch.askN at hn
      split at hn
      · omega
      · split at hn <;> omega
  rw [isF_iff] at hf
  have hd : decide (f < 1) = false := by simp; omega
  have hd2 : decide (18 < f) = false := by simp; omega
  obtain ⟨l, v⟩ := x
  have HS := Lib.hid (fun W => rfine_any W l v)
  generalize Se.fine ⟨l, v⟩ = q at *
  have hq : q = false ∨ (q = true ∧ l = 0) := by
    cases q
    · exact .inl rfl
    · rcases hx with hx | hx
      · cases hx
      · exact .inr ⟨rfl, hx⟩
  clear hn hf hx
  rcases hq with rfl | ⟨rfl, rfl⟩
  all_goals
    go_enter Tryd.func14, Tryd.ntmps14
    go_wp2_with (first
      | (go_at_call 27; refine (HS.out _).mono ?_; rintro e w1 ⟨rfl, ho1⟩; have HO1 : Hid (Only (fun _ => False) W w1) := (((Only.refl _ _).alloc _).alloc _).trans ho1 (fun _ h => h.elim); have HB1 : Hid (Blk w1 (W.heap.size + 1) 41 Tr.zero.cs) := (Blk.new' _ _ _ (by simp)).only ho1 (fun h => h); have HB0 : Hid (Blk w1 W.heap.size 39 (Se.cs ⟨_, v⟩)) := ((Blk.new' _ _ _ rfl).alloc _).only ho1 (fun h => h); have b0 : w1.cell? ⟨W.heap.size, 0, none⟩ = some (.int .i64 _) := HB0.out.cell 0; clear ho1)
      | ((with_reducible show wpList _ _ _ (⟨none, .store 41 _ _, _, _, _, _⟩ :: _) _ _); refine step_store rfl 41 _ _ rfl (W.heap.size + 1) rfl Tr.zero.cs rfl _ Tr.zero.cs HB1.out size_rtri rfl (Tr.cs_one _) ?_; intro w9 hB9 hz9 ho9)
      | fail)
    refine ret_cell2 rfl (W.heap.size + 1) rfl 41 Tr.zero.cs _ hB9.out Tryd.underlying41 rfl size_rtri rfl ?_
    exact ⟨rfl, HO1.out.trans ho9 (fun i hi => .inr (by omega))⟩

theorem rask_state {W : World} {p : Nat} {S : Sd} (h : RfAt W p S) (f : Int) (x : Se) (hn : askN S f x = 10) : Calls Tryd.prog 14 #[.pointer (some ⟨p, 0, none⟩), .int .i64 f, x.val] W fun e w' => e = .returned (.tuple #[Tr.zero.val, .int .i64 10]) ∧ Only (fun _ => False) W w' := by
  have hf : isF f = true := by
    cases hf : isF f
    · unfold askN at hn
      rw [if_pos hf] at hn
      omega
    · rfl
  have hx : ¬ (x.fine = false ∨ x.l = 0) := by
    intro hx
    unfold askN at hn
    rw [if_neg (by rw [hf]; decide), if_pos hx] at hn
    omega
  have hna : (S (plF f)).askN x = 10 := by
    unfold askN at hn
    rw [if_neg (by rw [hf]; decide), if_neg hx] at hn
    exact hn
  obtain ⟨cs, hB, hC⟩ := h
  have hi := plF_lt hf
  have he := plF_at hf
  obtain ⟨i, hii⟩ : ∃ i, i = plF f := ⟨_, rfl⟩
  rw [← hii] at hi he hna
  obtain ⟨j, hj⟩ : ∃ j, j = i + 1 := ⟨_, rfl⟩
  obtain rfl : f = (j : Int) := by omega
  have hj19 : j < 19 := by omega
  have hj2 : (j : Int) < 19 := by omega
  have hj1 : (1 : Int) ≤ (j : Int) := by omega
  have hd1 : decide ((j : Int) < 1) = false := by simp; omega
  have hd2 : decide (18 < (j : Int)) = false := by simp; omega
  have hp := hB.lt
  obtain ⟨l, v⟩ := x
  have HS := Lib.hid (fun W => rfine_any W l v)
  have hl0 : (l == 0) = false := by
    simp only [beq_eq_false_iff_ne, ne_eq]
    exact fun e => hx (.inr e)
  have hfi : Se.fine ⟨l, v⟩ = true := by
    cases hq : Se.fine ⟨l, v⟩
    · exact absurd (.inl hq) hx
    · rfl
  rw [hfi] at HS
  have hlf := Se.l_of hfi
  simp only at hlf
  have HB := Lib.hid hB
  obtain ⟨wt, hwt⟩ : ∃ b, b = (S i).waits := ⟨_, rfl⟩
  obtain ⟨⟨a0, b0'⟩, hhas⟩ : ∃ x, x = (S i).has := ⟨_, rfl⟩
  have HL : Hid (∀ W', Blk W' p 55 cs → W'.cell? ⟨p, j * 2, none⟩ = some (.int .i64 a0) ∧ W'.cell? ⟨p, j * 2 + 1, none⟩ = some (.int .i64 b0') ∧ W'.cell? ⟨p, 76 + j, none⟩ = some (.bool wt)) := fun W' hb => by
    have h2 := hC.j hi hj
    have e0 := h2.hasl
    have e1 := h2.hasv
    have e4 := h2.wait
    simp only [← hhas] at e0 e1
    rw [← hwt] at e4
    exact ⟨(hb.cell _).trans e0, (hb.cell _).trans e1, (hb.cell _).trans e4⟩
  unfold Ch.askN at hna
  rw [← hwt, ← hhas] at hna
  obtain rfl : wt = true := by
    cases wt
    · rw [if_neg (by decide)] at hna
      split at hna <;> omega
    · rfl
  clear hn hna hf hx hB hC he hii hfi hwt hhas hj
  go_enter Tryd.func14, Tryd.ntmps14
  go_wp2_with (first
    | (go_at_call 27; refine (HS.out _).mono ?_; rintro e w1 ⟨rfl, ho1⟩; have HO1 : Hid (Only (fun _ => False) W w1) := (((Only.refl _ _).alloc _).alloc _).trans ho1 (fun _ h => h.elim); have HB1 : Hid (Blk w1 (W.heap.size + 1) 41 Tr.zero.cs) := (Blk.new' _ _ _ (by simp)).only ho1 (fun h => h); have HB0 : Hid (Blk w1 W.heap.size 39 (Se.cs ⟨l, v⟩)) := ((Blk.new' _ _ _ rfl).alloc _).only ho1 (fun h => h); have b0 : w1.cell? ⟨W.heap.size, 0, none⟩ = some (.int .i64 l) := HB0.out.cell 0; clear ho1; obtain ⟨s0, s1, s4⟩ := HL.out w1 (HB.out.only HO1.out (fun h => h)))
    | ((with_reducible show wpList _ _ _ (⟨none, .store 41 _ _, _, _, _, _⟩ :: _) _ _); refine step_store rfl 41 _ _ rfl (W.heap.size + 1) rfl Tr.zero.cs rfl _ Tr.zero.cs HB1.out size_rtri rfl (Tr.cs_one _) ?_; intro w9 hB9 hz9 ho9)
    | fail)
  refine ret_cell2 rfl (W.heap.size + 1) rfl 41 Tr.zero.cs _ hB9.out Tryd.underlying41 rfl size_rtri rfl ?_
  exact ⟨rfl, HO1.out.trans ho9 (fun i hi => .inr (by omega))⟩

theorem rask_dup {W : World} {p : Nat} {S : Sd} (h : RfAt W p S) (f : Int) (x : Se) (hn : askN S f x = 8) : Calls Tryd.prog 14 #[.pointer (some ⟨p, 0, none⟩), .int .i64 f, x.val] W fun e w' => e = .returned (.tuple #[Tr.zero.val, .int .i64 8]) ∧ Only (fun _ => False) W w' := by
  have hf : isF f = true := by
    cases hf : isF f
    · unfold askN at hn
      rw [if_pos hf] at hn
      omega
    · rfl
  have hx : ¬ (x.fine = false ∨ x.l = 0) := by
    intro hx
    unfold askN at hn
    rw [if_neg (by rw [hf]; decide), if_pos hx] at hn
    omega
  have hna : (S (plF f)).askN x = 8 := by
    unfold askN at hn
    rw [if_neg (by rw [hf]; decide), if_neg hx] at hn
    exact hn
  obtain ⟨cs, hB, hC⟩ := h
  have hi := plF_lt hf
  have he := plF_at hf
  obtain ⟨i, hii⟩ : ∃ i, i = plF f := ⟨_, rfl⟩
  rw [← hii] at hi he hna
  obtain ⟨j, hj⟩ : ∃ j, j = i + 1 := ⟨_, rfl⟩
  obtain rfl : f = (j : Int) := by omega
  have hj19 : j < 19 := by omega
  have hj2 : (j : Int) < 19 := by omega
  have hj1 : (1 : Int) ≤ (j : Int) := by omega
  have hd1 : decide ((j : Int) < 1) = false := by simp; omega
  have hd2 : decide (18 < (j : Int)) = false := by simp; omega
  have hp := hB.lt
  obtain ⟨l, v⟩ := x
  have HS := Lib.hid (fun W => rfine_any W l v)
  have hl0 : (l == 0) = false := by
    simp only [beq_eq_false_iff_ne, ne_eq]
    exact fun e => hx (.inr e)
  have hfi : Se.fine ⟨l, v⟩ = true := by
    cases hq : Se.fine ⟨l, v⟩
    · exact absurd (.inl hq) hx
    · rfl
  rw [hfi] at HS
  have hlf := Se.l_of hfi
  simp only at hlf
  have HB := Lib.hid hB
  obtain ⟨wt, hwt⟩ : ∃ b, b = (S i).waits := ⟨_, rfl⟩
  obtain ⟨⟨a0, b0'⟩, hhas⟩ : ∃ x, x = (S i).has := ⟨_, rfl⟩
  have HL : Hid (∀ W', Blk W' p 55 cs → W'.cell? ⟨p, j * 2, none⟩ = some (.int .i64 a0) ∧ W'.cell? ⟨p, j * 2 + 1, none⟩ = some (.int .i64 b0') ∧ W'.cell? ⟨p, 76 + j, none⟩ = some (.bool wt)) := fun W' hb => by
    have h2 := hC.j hi hj
    have e0 := h2.hasl
    have e1 := h2.hasv
    have e4 := h2.wait
    simp only [← hhas] at e0 e1
    rw [← hwt] at e4
    exact ⟨(hb.cell _).trans e0, (hb.cell _).trans e1, (hb.cell _).trans e4⟩
  unfold Ch.askN at hna
  rw [← hwt, ← hhas] at hna
  obtain rfl : wt = false := by
    cases wt
    · rfl
    · rw [if_pos rfl] at hna
      omega
  have hd : (⟨a0, b0'⟩ : Se) = ⟨l, v⟩ := by
    rw [if_neg (by decide)] at hna
    split at hna
    · next e => exact e.symm
    · omega
  have heq : ∀ W, _ := fun W => eq_rset W a0 b0' l v
  rw [decide_eq_true hd] at heq
  have hgr := guard_rset
  clear hn hna hf hx hB hC he hii hfi hwt hhas hd hj
  go_enter Tryd.func14, Tryd.ntmps14
  go_wp2_with (first
    | (go_at_call 27; refine (HS.out _).mono ?_; rintro e w1 ⟨rfl, ho1⟩; have HO1 : Hid (Only (fun _ => False) W w1) := (((Only.refl _ _).alloc _).alloc _).trans ho1 (fun _ h => h.elim); have HB1 : Hid (Blk w1 (W.heap.size + 1) 41 Tr.zero.cs) := (Blk.new' _ _ _ (by simp)).only ho1 (fun h => h); have HB0 : Hid (Blk w1 W.heap.size 39 (Se.cs ⟨l, v⟩)) := ((Blk.new' _ _ _ rfl).alloc _).only ho1 (fun h => h); have b0 : w1.cell? ⟨W.heap.size, 0, none⟩ = some (.int .i64 l) := HB0.out.cell 0; clear ho1; obtain ⟨s0, s1, s4⟩ := HL.out w1 (HB.out.only HO1.out (fun h => h)))
    | fail)
  have b1 : w1.cell? ⟨W.heap.size, 1, none⟩ = some (.int .i64 v) := HB0.out.cell 1
  go_quiet (fail)
  have HO2 := Lib.hid (HO1.out.drewN nq)
  have HB2 := Lib.hid (HB1.out.drewN nq)
  go_wp2_with (first
    | ((with_reducible show wpList _ _ _ (⟨none, .store 41 _ _, _, _, _, _⟩ :: _) _ _); refine step_store rfl 41 _ _ rfl (W.heap.size + 1) rfl Tr.zero.cs rfl _ Tr.zero.cs HB2.out size_rtri rfl (Tr.cs_one _) ?_; intro w9 hB9 hz9 ho9)
    | fail)
  refine ret_cell2 rfl (W.heap.size + 1) rfl 41 Tr.zero.cs _ hB9.out Tryd.underlying41 rfl size_rtri rfl ?_
  exact ⟨rfl, HO2.out.trans ho9 (fun i hi => .inr (by omega))⟩

theorem rask_ok {W : World} {p : Nat} {S : Sd} (h : RfAt W p S) (f : Int) (x : Se) (hn : askN S f x = 0) :
    Calls Tryd.prog 14 #[.pointer (some ⟨p, 0, none⟩), .int .i64 f, x.val] W fun e w' => e = .returned (.tuple #[Tr.val ⟨f, x, false⟩, .int .i64 0]) ∧ RfAt w' p (S.set (plF f) ((S (plF f)).asked x)) ∧ Only (· = p) W w' := by
  have hf : isF f = true := by
    cases hf : isF f
    · unfold askN at hn
      rw [if_pos hf] at hn
      omega
    · rfl
  have hx : ¬ (x.fine = false ∨ x.l = 0) := by
    intro hx
    unfold askN at hn
    rw [if_neg (by rw [hf]; decide), if_pos hx] at hn
    omega
  have hna : (S (plF f)).askN x = 0 := by
    unfold askN at hn
    rw [if_neg (by rw [hf]; decide), if_neg hx] at hn
    exact hn
  obtain ⟨cs, hB, hC⟩ := h
  have hi := plF_lt hf
  have he := plF_at hf
  obtain ⟨i, hii⟩ : ∃ i, i = plF f := ⟨_, rfl⟩
  rw [← hii] at hi he hna ⊢
  obtain ⟨j, hj⟩ : ∃ j, j = i + 1 := ⟨_, rfl⟩
  obtain rfl : f = (j : Int) := by omega
  have hj19 : j < 19 := by omega
  have hj2 : (j : Int) < 19 := by omega
  have hj1 : (1 : Int) ≤ (j : Int) := by omega
  have hd1 : decide ((j : Int) < 1) = false := by simp; omega
  have hd2 : decide (18 < (j : Int)) = false := by simp; omega
  have hp := hB.lt
  obtain ⟨l, v⟩ := x
  have HS := Lib.hid (fun W => rfine_any W l v)
  have hl0 : (l == 0) = false := by
    simp only [beq_eq_false_iff_ne, ne_eq]
    exact fun e => hx (.inr e)
  have hfi : Se.fine ⟨l, v⟩ = true := by
    cases hq : Se.fine ⟨l, v⟩
    · exact absurd (.inl hq) hx
    · rfl
  rw [hfi] at HS
  have hlf := Se.l_of hfi
  simp only at hlf
  have HB := Lib.hid hB
  obtain ⟨wt, hwt⟩ : ∃ b, b = (S i).waits := ⟨_, rfl⟩
  obtain ⟨⟨a0, b0'⟩, hhas⟩ : ∃ x, x = (S i).has := ⟨_, rfl⟩
  have HL : Hid (∀ W', Blk W' p 55 cs → W'.cell? ⟨p, j * 2, none⟩ = some (.int .i64 a0) ∧ W'.cell? ⟨p, j * 2 + 1, none⟩ = some (.int .i64 b0') ∧ W'.cell? ⟨p, 76 + j, none⟩ = some (.bool wt)) := fun W' hb => by
    have h2 := hC.j hi hj
    have e0 := h2.hasl
    have e1 := h2.hasv
    have e4 := h2.wait
    simp only [← hhas] at e0 e1
    rw [← hwt] at e4
    exact ⟨(hb.cell _).trans e0, (hb.cell _).trans e1, (hb.cell _).trans e4⟩
  unfold Ch.askN at hna
  rw [← hwt, ← hhas] at hna
  obtain rfl : wt = false := by
    cases wt
    · rfl
    · rw [if_pos rfl] at hna
      omega
  have hd : ¬ (⟨a0, b0'⟩ : Se) = ⟨l, v⟩ := by
    rw [if_neg (by decide)] at hna
    split at hna
    · omega
    · next e => exact fun h => e h.symm
  have heq : ∀ W, _ := fun W => eq_rset W a0 b0' l v
  rw [decide_eq_false hd] at heq
  have hgr := guard_rset
  unfold Ch.asked
  have HC1 := hC.setWaitsJ hi hj true
  have HC2 := HC1.setHasJ hi hj ⟨l, v⟩
  rw [Sd.set_self, Sd.set_set] at HC2
  have HC1 := Lib.hid HC1
  have HC2 := Lib.hid HC2
  clear hn hna hf hx hB hC he hii hfi hwt hhas hd hj
  by_cases h3 : l = 3
  · subst h3
    rw [if_pos rfl]
    clear hlf
    go_enter Tryd.func14, Tryd.ntmps14
    go_wp2_with (first
      | (go_at_call 27; refine (HS.out _).mono ?_; rintro e w1 ⟨rfl, ho1⟩; have HO1 : Hid (Only (fun _ => False) W w1) := (((Only.refl _ _).alloc _).alloc _).trans ho1 (fun _ h => h.elim); have HB1 : Hid (Blk w1 (W.heap.size + 1) 41 Tr.zero.cs) := (Blk.new' _ _ _ (by simp)).only ho1 (fun h => h); have HB0 : Hid (Blk w1 W.heap.size 39 (Se.cs ⟨_, v⟩)) := ((Blk.new' _ _ _ rfl).alloc _).only ho1 (fun h => h); have b0 : w1.cell? ⟨W.heap.size, 0, none⟩ = some (.int .i64 _) := HB0.out.cell 0; clear ho1; obtain ⟨s0, s1, s4⟩ := HL.out w1 (HB.out.only HO1.out (fun h => h)))
      | fail)
    have b1 : w1.cell? ⟨W.heap.size, 1, none⟩ = some (.int .i64 v) := HB0.out.cell 1
    go_quiet (fail)
    have HBp := Lib.hid ((HB.out.only HO1.out (fun h => h)).drewN nq)
    have HO2 := Lib.hid (HO1.out.drewN nq)
    have HB2 := Lib.hid (HB1.out.drewN nq)
    have HB3 := Lib.hid (HB0.out.drewN nq)
    clear b0 b1 s0 s1 s4 HO1 HB1 HB0
    generalize w1.drewN nq = w2 at *
    obtain ⟨r0, r1, c4⟩ := HL.out _ HBp.out
    have f4 := HBp.out.frozen (76 + j)
    have HB4 := Lib.hid (HB3.out.far (p := ⟨p, 76 + j, none⟩) (by show W.heap.size ≠ p; omega) (.bool true))
    have k0 : (w2.setCell ⟨p, 76 + j, none⟩ (.bool true)).cell? ⟨W.heap.size, 0, none⟩ = some (.int .i64 3) := HB4.out.cell 0
    have k1 : (w2.setCell ⟨p, 76 + j, none⟩ (.bool true)).cell? ⟨W.heap.size, 1, none⟩ = some (.int .i64 v) := HB4.out.cell 1
    go_wp2_with (first
      | ((with_reducible show wpList _ _ _ (⟨none, .store 41 _ _, _, _, _, _⟩ :: _) _ _); refine step_store rfl 41 _ _ rfl (W.heap.size + 1) rfl (Tr.cs ⟨j, ⟨3, v⟩, false⟩) rfl _ Tr.zero.cs (HB2.out.far (p := ⟨p, 76 + j, none⟩) (by show W.heap.size + 1 ≠ p; omega) (.bool true)) size_rtri rfl (Tr.cs_one _) ?_; intro w9 hB9 hz9 ho9)
      | fail)
    refine ret_cell2 rfl (W.heap.size + 1) rfl 41 (Tr.cs ⟨j, ⟨3, v⟩, false⟩) _ hB9.out Tryd.underlying41 rfl size_rtri rfl ?_
    exact ⟨rfl, ⟨_, (HBp.out.setCell _ _).only ho9 (by omega), HC1.out⟩, ((Only.mono (T := (· = p)) HO2.out (fun i hi => hi.elim)).setCell (p := ⟨p, 76 + j, none⟩) (.inl rfl) _).trans ho9 (fun i hi => .inr (by omega))⟩
  · rw [if_neg h3]
    have hl3 : decide (l < 3) = true := by simp; omega
    clear h3 hlf
    go_enter Tryd.func14, Tryd.ntmps14
    go_wp2_with (first
      | (go_at_call 27; refine (HS.out _).mono ?_; rintro e w1 ⟨rfl, ho1⟩; have HO1 : Hid (Only (fun _ => False) W w1) := (((Only.refl _ _).alloc _).alloc _).trans ho1 (fun _ h => h.elim); have HB1 : Hid (Blk w1 (W.heap.size + 1) 41 Tr.zero.cs) := (Blk.new' _ _ _ (by simp)).only ho1 (fun h => h); have HB0 : Hid (Blk w1 W.heap.size 39 (Se.cs ⟨_, v⟩)) := ((Blk.new' _ _ _ rfl).alloc _).only ho1 (fun h => h); have b0 : w1.cell? ⟨W.heap.size, 0, none⟩ = some (.int .i64 _) := HB0.out.cell 0; clear ho1; obtain ⟨s0, s1, s4⟩ := HL.out w1 (HB.out.only HO1.out (fun h => h)))
      | fail)
    have b1 : w1.cell? ⟨W.heap.size, 1, none⟩ = some (.int .i64 v) := HB0.out.cell 1
    go_quiet (fail)
    have HBp := Lib.hid ((HB.out.only HO1.out (fun h => h)).drewN nq)
    have HO2 := Lib.hid (HO1.out.drewN nq)
    have HB2 := Lib.hid (HB1.out.drewN nq)
    have HB3 := Lib.hid (HB0.out.drewN nq)
    clear b0 b1 s0 s1 s4 HO1 HB1 HB0
    generalize w1.drewN nq = w2 at *
    obtain ⟨r0, r1, c4⟩ := HL.out _ HBp.out
    have f4 := HBp.out.frozen (76 + j)
    have HB4 := Lib.hid (HB3.out.far (p := ⟨p, 76 + j, none⟩) (by show W.heap.size ≠ p; omega) (.bool true))
    have k0 : (w2.setCell ⟨p, 76 + j, none⟩ (.bool true)).cell? ⟨W.heap.size, 0, none⟩ = some (.int .i64 l) := HB4.out.cell 0
    have k1 : (w2.setCell ⟨p, 76 + j, none⟩ (.bool true)).cell? ⟨W.heap.size, 1, none⟩ = some (.int .i64 v) := HB4.out.cell 1
    go_wp2
    have HB5 := Lib.hid (HBp.out.setCell (76 + j) (.bool true))
    have HR5 := Lib.hid (HB2.out.far (p := ⟨p, 76 + j, none⟩) (by show W.heap.size + 1 ≠ p; omega) (.bool true))
    have HO5 : Hid (Only (· = p) W (w2.setCell ⟨p, 76 + j, none⟩ (.bool true))) := (Only.mono (T := (· = p)) HO2.out (fun i hi => hi.elim)).setCell (p := ⟨p, 76 + j, none⟩) (.inl rfl) _
    have q0 : (w2.setCell ⟨p, 76 + j, none⟩ (.bool true)).cell? ⟨p, j * 2, none⟩ = some (.int .i64 a0) := by rw [HB5.out.cell, List.getElem?_set_ne (by omega), ← HBp.out.cell]; exact r0
    have q1 : (w2.setCell ⟨p, 76 + j, none⟩ (.bool true)).cell? ⟨p, j * 2 + 1, none⟩ = some (.int .i64 b0') := by rw [HB5.out.cell, List.getElem?_set_ne (by omega), ← HBp.out.cell]; exact r1
    have p0 := HB5.out.frozen (j * 2)
    have p1 := HB5.out.frozen (j * 2 + 1)
    clear HBp HO2 HB2 HB3 c4 f4 r0 r1
    generalize w2.setCell ⟨p, 76 + j, none⟩ (.bool true) = w5 at *
    go_region
    have HB6 := Lib.hid (((HB5.out.setCell (j * 2) (.int .i64 l)).setCell (j * 2 + 1) (.int .i64 v)).drew)
    have HO6 : Hid (Only (· = p) W (((w5.setCell ⟨p, j * 2, none⟩ (.int .i64 l)).setCell ⟨p, j * 2 + 1, none⟩ (.int .i64 v)).drew)) := ((HO5.out.setCell (p := ⟨p, j * 2, none⟩) (.inl rfl) _).setCell (p := ⟨p, j * 2 + 1, none⟩) (.inl rfl) _).drew
    have HS6 := Lib.hid (((HB4.out.far (p := ⟨p, j * 2, none⟩) (by show W.heap.size ≠ p; omega) (.int .i64 l)).far (p := ⟨p, j * 2 + 1, none⟩) (by show W.heap.size ≠ p; omega) (.int .i64 v)).drew)
    have HR6 := Lib.hid (((HR5.out.far (p := ⟨p, j * 2, none⟩) (by show W.heap.size + 1 ≠ p; omega) (.int .i64 l)).far (p := ⟨p, j * 2 + 1, none⟩) (by show W.heap.size + 1 ≠ p; omega) (.int .i64 v)).drew)
    clear k0 k1 q0 q1 p0 p1
    generalize ((w5.setCell ⟨p, j * 2, none⟩ (.int .i64 l)).setCell ⟨p, j * 2 + 1, none⟩ (.int .i64 v)).drew = w6 at *
    have m0 : w6.cell? ⟨W.heap.size, 0, none⟩ = some (.int .i64 l) := HS6.out.cell 0
    have m1 : w6.cell? ⟨W.heap.size, 1, none⟩ = some (.int .i64 v) := HS6.out.cell 1
    go_wp2_with (first
      | ((with_reducible show wpList _ _ _ (⟨none, .store 41 _ _, _, _, _, _⟩ :: _) _ _); refine step_store rfl 41 _ _ rfl (W.heap.size + 1) rfl (Tr.cs ⟨j, ⟨l, v⟩, false⟩) rfl _ Tr.zero.cs HR6.out size_rtri rfl (Tr.cs_one _) ?_; intro w9 hB9 hz9 ho9)
      | fail)
    refine ret_cell2 rfl (W.heap.size + 1) rfl 41 (Tr.cs ⟨j, ⟨l, v⟩, false⟩) _ hB9.out Tryd.underlying41 rfl size_rtri rfl ?_
    exact ⟨rfl, ⟨_, HB6.out.only ho9 (by omega), HC2.out⟩, HO6.out.trans ho9 (fun i hi => .inr (by omega))⟩

theorem rask_any {W : World} {p : Nat} {S : Sd} (h : RfAt W p S) (f : Int) (x : Se) :
    Calls Tryd.prog 14 #[.pointer (some ⟨p, 0, none⟩), .int .i64 f, x.val] W fun e w' => e = .returned (.tuple #[(askS S f x).2.val, .int .i64 (askN S f x : Int)]) ∧ RfAt w' p (askS S f x).1 ∧ Only (· = p) W w' := by
  unfold askS
  rcases askN_of S f x with hn | hn | hn | hn | hn
  · rw [if_pos hn, hn]
    exact rask_ok h f x hn
  · rw [if_neg (by omega), hn]
    refine (rask_range W p S f x hn).mono ?_
    rintro e w' ⟨rfl, ho⟩
    exact ⟨rfl, h.same ho, ho.mono (fun _ h => h.elim)⟩
  · rw [if_neg (by omega), hn]
    refine (rask_form W p S f x hn).mono ?_
    rintro e w' ⟨rfl, ho⟩
    exact ⟨rfl, h.same ho, ho.mono (fun _ h => h.elim)⟩
  · rw [if_neg (by omega), hn]
    refine (rask_dup h f x hn).mono ?_
    rintro e w' ⟨rfl, ho⟩
    exact ⟨rfl, h.same ho, ho.mono (fun _ h => h.elim)⟩
  · rw [if_neg (by omega), hn]
    refine (rask_state h f x hn).mono ?_
    rintro e w' ⟨rfl, ho⟩
    exact ⟨rfl, h.same ho, ho.mono (fun _ h => h.elim)⟩
end Go.Proofs.YtojnhheeholaeaaDoor
