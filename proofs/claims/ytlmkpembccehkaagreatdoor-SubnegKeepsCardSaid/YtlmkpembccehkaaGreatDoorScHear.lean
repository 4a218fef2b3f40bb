
/- Package slc: Hear. -/
import Derived.Test.YtlmkpembccehkaaGreatDoorJBox
import Derived.Deep.RegionHeld3
namespace Go.Proofs.YtlmkpembccehkaaGreatDoor
open Go Go.RowKit
set_option maxRecDepth 100000
set_option maxHeartbeats 4000000

theorem hear_not (W : World) (p : Nat) (t : Tr) (h : t.right = false) :
    Calls Tryz.prog 46 #[.pointer (some ⟨p, 0, none⟩), t.val] W fun e w' => e = .returned (.tuple #[Tr.zero.val, .bool false]) ∧ Only (fun _ => False) W w' := by
  have HR := Lib.hid (fun W => sright_any W t)
  rw [h] at HR
  obtain ⟨f, ⟨l, v⟩, k⟩ := t
  clear h
  go_enter Tryz.func46, Tryz.ntmps46
  go_wp2_with (first
    | (go_at_call 63; refine (HR.out _).mono ?_; rintro e w1 ⟨rfl, ho1⟩; have HO1 : Hid (Only (fun _ => False) W w1) := (((Only.refl _ _).alloc _).alloc _).trans ho1 (fun _ h => h.elim); have HB1 : Hid (Blk w1 (W.heap.size + 1) 126 Tr.zero.cs) := (Blk.new' _ _ _ (by simp)).only ho1 (fun h => h); clear ho1)
    | ((with_reducible show wpList _ _ _ (⟨none, .store 126 _ _, _, _, _, _⟩ :: _) _ _); refine step_store rfl 126 _ _ rfl (W.heap.size + 1) rfl Tr.zero.cs rfl _ Tr.zero.cs HB1.out size_tri rfl (Tr.cs_one _) ?_; intro w4 hB4 hz4 ho4)
    | fail)
  refine ret_cell2 rfl (W.heap.size + 1) rfl 126 Tr.zero.cs _ hB4.out Tryz.underlying126 rfl size_tri rfl ?_
  exact ⟨rfl, HO1.out.trans ho4 (fun i hi => .inr (by omega))⟩

theorem hear_still {W : World} {p : Nat} {S : Sd} (h : ScSdAt W p S) (t : Tr) (hr : t.right = true) (hs : t.x = (S (plF t.f)).has ∨ t.ack = true) :
    Calls Tryz.prog 46 #[.pointer (some ⟨p, 0, none⟩), t.val] W fun e w' => e = .returned (.tuple #[Tr.zero.val, .bool false]) ∧ ScSdAt w' p (S.set (plF t.f) ⟨(S (plF t.f)).has, (S (plF t.f)).holds, false⟩) ∧ Only (· = p) W w' := by
  obtain ⟨cs, hB, hC⟩ := h
  have HR := Lib.hid (fun W => sright_any W t)
  rw [hr] at HR
  obtain ⟨f, ⟨l, v⟩, k⟩ := t
  unfold Tr.right at hr
  simp only [Bool.and_eq_true] at hr hs ⊢
  have hi := plF_lt hr.1
  have he := plF_at hr.1
  have e1 : IntKind.i64.wrap (f - 1) = ((plF f : Nat) : Int) := by
    rw [← he]
    exact IntWalk.i64_in _ (by omega)
  obtain ⟨i, hii⟩ : ∃ i, i = plF f := ⟨_, rfl⟩
  rw [← hii] at hi e1 hs ⊢
  have hi2 : (i : Int) < 18 := by omega
  have hp := hB.lt
  have HC2 := Lib.hid (hC.setWaits hi false)
  have HK : Hid (∀ W', Blk W' p 80 cs → ∃ b, W'.cell? ⟨p, i * 5 + 4, none⟩ = some (.bool b)) := fun W' hb => ⟨_, (hb.cell _).trans (hC.c4 hi)⟩
  have HL : Hid (∀ W', Blk W' p 80 (cs.set (i * 5 + 4) (.bool false)) → W'.cell? ⟨p, i * 5, none⟩ = some (.int .i64 (S i).has.l) ∧ W'.cell? ⟨p, i * 5 + 1, none⟩ = some (.int .i64 (S i).has.v)) := fun W' hb => by
    have h2 := hC.setWaits hi false
    have e0 := h2.c0 hi
    have e1 := h2.c1 hi
    rw [Sd.set_self] at e0 e1
    exact ⟨(hb.cell _).trans e0, (hb.cell _).trans e1⟩
  have HB := Lib.hid hB
  obtain ⟨⟨a, b⟩, hx⟩ : ∃ x, x = (S i).has := ⟨_, rfl⟩
  rw [← hx] at HL hs
  have heq : ∀ W, _ := fun W => eq_set W l v a b
  have hgr := guard_set
  obtain ⟨q, hq⟩ : ∃ q, q = decide ((⟨l, v⟩ : Se) = ⟨a, b⟩) := ⟨_, rfl⟩
  rw [← hq] at heq
  have hqk : q = true ∨ (q = false ∧ k = true) := by
    cases q
    · rcases hs with hs | hs
      · exact absurd hs (of_decide_eq_false hq.symm)
      · exact .inr ⟨rfl, hs⟩
    · exact .inl rfl
  clear hr hs hB hC he hii hx hq
  rcases hqk with rfl | ⟨rfl, rfl⟩
  all_goals
    go_enter Tryz.func46, Tryz.ntmps46
    go_wp2_with (first
      | (go_at_call 63; refine (HR.out _).mono ?_; rintro e w1 ⟨rfl, ho1⟩; have HO1 : Hid (Only (fun _ => False) W w1) := (((Only.refl _ _).alloc _).alloc _).trans ho1 (fun _ h => h.elim); have HB1 : Hid (Blk w1 (W.heap.size + 1) 126 Tr.zero.cs) := (Blk.new' _ _ _ (by simp)).only ho1 (fun h => h); have HB0 : Hid (Blk w1 W.heap.size 126 (Tr.cs ⟨f, ⟨l, v⟩, _⟩)) := ((Blk.new' _ _ _ rfl).alloc _).only ho1 (fun h => h); have f0 : w1.cell? ⟨W.heap.size, 0, none⟩ = some (.int .i64 f) := HB0.out.cell 0; clear ho1)
      | fail)
    go_quiet (fail)
    have HBp := Lib.hid ((HB.out.only HO1.out (fun h => h)).drewN nq)
    obtain ⟨b4, c4⟩ := HK.out _ HBp.out
    have f4 := HBp.out.frozen (i * 5 + 4)
    have HO2 := Lib.hid (HO1.out.drewN nq)
    have HB0' := Lib.hid (HB0.out.drewN nq)
    have HB1' := Lib.hid (HB1.out.drewN nq)
    clear HB0 HB1 HO1 f0
    generalize w1.drewN nq = w2 at *
    go_wp2
    have HB3 := Lib.hid (HBp.out.setCell (i * 5 + 4) (.bool false))
    obtain ⟨d0, d1⟩ := HL.out _ HB3.out
    have HO3 : Hid (Only (· = p) W (w2.setCell ⟨p, i * 5 + 4, none⟩ (.bool false))) := (Only.mono (T := (· = p)) HO2.out (fun i hi => hi.elim)).setCell (p := ⟨p, i * 5 + 4, none⟩) (.inl rfl) _
    have HB0'' := Lib.hid (HB0'.out.far (p := ⟨p, i * 5 + 4, none⟩) (by show W.heap.size ≠ p; omega) (.bool false))
    have HB1'' := Lib.hid (HB1'.out.far (p := ⟨p, i * 5 + 4, none⟩) (by show W.heap.size + 1 ≠ p; omega) (.bool false))
    clear HBp HO2 HB0' HB1' c4 f4
    generalize w2.setCell ⟨p, i * 5 + 4, none⟩ (.bool false) = w3 at *
    have g1 : w3.cell? ⟨W.heap.size, 1, none⟩ = some (.int .i64 l) := HB0''.out.cell 1
    have g2 : w3.cell? ⟨W.heap.size, 2, none⟩ = some (.int .i64 v) := HB0''.out.cell 2
    have g3 : w3.cell? ⟨W.heap.size, 3, none⟩ = some (.bool _) := HB0''.out.cell 3
    go_quiet (fail)
    have HB3' := Lib.hid (HB3.out.drewN nq)
    have HO3' := Lib.hid (HO3.out.drewN nq)
    have HB1' := Lib.hid (HB1''.out.drewN nq)
    clear HB3 HO3 HB1'' HB0'' d0 d1 g1 g2 g3
    generalize w3.drewN nq = w4 at *
    go_wp2_with (first
      | ((with_reducible show wpList _ _ _ (⟨none, .store 126 _ _, _, _, _, _⟩ :: _) _ _); refine step_store rfl 126 _ _ rfl (W.heap.size + 1) rfl Tr.zero.cs rfl _ Tr.zero.cs HB1'.out size_tri rfl (Tr.cs_one _) ?_; intro w5 hB5 hz5 ho5)
      | fail)
    refine ret_cell2 rfl (W.heap.size + 1) rfl 126 Tr.zero.cs _ hB5.out Tryz.underlying126 rfl size_tri rfl ?_
    exact ⟨rfl, ⟨_, HB3'.out.only ho5 (by omega), HC2.out⟩, HO3'.out.trans ho5 (fun i hi => .inr (by omega))⟩
def sv0 : List Value := [.int .i64 0, .int .i64 0]
/-- A setting's variable, laid behind a call or ahead of it. -/
structure SvAt (w w' : World) (M : Nat) (cs : List Value) : Prop where
  mv : Blk w' M 75 cs
  new : w.heap.size ≤ M
  only : Only (fun _ => False) w w'
theorem SvAt.first {w w5 : World} (ho : Only (fun _ => False) w.drew w5) : ∀ a b, SvAt w (w5.alloc (.cells #[a, b] 75)) w5.heap.size [a, b] := fun a b =>
  ⟨Blk.new w5 _ [a, b], ho.size, (((Only.refl (fun _ => False) w).drew).trans ho (fun _ h => h.elim)).alloc _⟩
theorem SvAt.second {w w5 : World} (ho : Only (fun _ => False) (w.alloc (.cells sv0.toArray 75)).drew w5) (hz : Blk w5 w.heap.size 75 sv0) : ∀ a b, SvAt w ((w5.setCell ⟨w.heap.size, 0, none⟩ a).setCell ⟨w.heap.size, 1, none⟩ b) w.heap.size [a, b] := fun a b => by
  have h := ((Only.refl (· = w.heap.size) w5).setCell (p := ⟨w.heap.size, 0, none⟩) (.inl rfl) a).setCell (p := ⟨w.heap.size, 1, none⟩) (.inl rfl) b
  exact ⟨(hz.setCell 0 _).setCell 1 _, Nat.le_refl _, (((Only.refl (fun _ => False) w).alloc _).drew.trans ho (fun _ h => h.elim)).trans h (fun i hi => .inr (by omega))⟩
/-- Two ways that come to the same: what follows is walked once. -/
theorem twice2 {P : Prop} {C G : Nat → World → Prop} (k : (∀ p W, C p W → G p W) → P) (h : ∀ p W, C p W → G p W) : P := k h
theorem hear_told {W : World} {p : Nat} {S : Sd} (h : ScSdAt W p S) (t : Tr) (hr : t.right = true) (hs : ¬ (t.x = (S (plF t.f)).has ∨ t.ack = true)) :
    Calls Tryz.prog 46 #[.pointer (some ⟨p, 0, none⟩), t.val] W fun e w' => e = .returned (.tuple #[Tr.val ⟨t.f, (ansS t.x (S (plF t.f)).holds).1, (ansS t.x (S (plF t.f)).holds).2⟩, .bool true]) ∧ ScSdAt w' p (S.set (plF t.f) ⟨(ansS t.x (S (plF t.f)).holds).1, (S (plF t.f)).holds, false⟩) ∧ Only (· = p) W w' := by
  obtain ⟨cs, hB, hC⟩ := h
  have HR := Lib.hid (fun W => sright_any W t)
  rw [hr] at HR
  obtain ⟨f, ⟨l, v⟩, k⟩ := t
  unfold Tr.right at hr
  simp only [Bool.and_eq_true] at hr hs ⊢
  have hi := plF_lt hr.1
  have he := plF_at hr.1
  have e1 : IntKind.i64.wrap (f - 1) = ((plF f : Nat) : Int) := by
    rw [← he]
    exact IntWalk.i64_in _ (by omega)
  obtain ⟨i, hii⟩ : ∃ i, i = plF f := ⟨_, rfl⟩
  rw [← hii] at hi e1 hs ⊢
  have hi2 : (i : Int) < 18 := by omega
  have hp := hB.lt
  obtain ⟨⟨m, n⟩, hm⟩ : ∃ m, m = (S i).holds := ⟨_, rfl⟩
  have HA := Lib.hid (fun W => sanswer_any W ⟨l, v⟩ ⟨m, n⟩)
  obtain ⟨⟨⟨y, z⟩, ag⟩, hy⟩ : ∃ y, y = ansS ⟨l, v⟩ ⟨m, n⟩ := ⟨_, rfl⟩
  rw [← hm, ← hy]
  rw [← hy] at HA
  have HC2 : Hid (ScC ((cs.set (i * 5 + 4) (.bool false)).take (i * 5) ++ ([.int .i64 y, .int .i64 z] ++ (cs.set (i * 5 + 4) (.bool false)).drop (i * 5 + 2))) (S.set i ⟨⟨y, z⟩, ⟨m, n⟩, false⟩)) := by
    have h2 := (hC.setWaits hi false).setHas hi ⟨y, z⟩
    rw [Sd.set_self, Sd.set_set, ← hm] at h2
    exact h2
  have hl90 : i * 5 + 1 < (cs.set (i * 5 + 4) (.bool false)).length := by rw [List.length_set, hC.len]; omega
  have HK : Hid (∀ W', Blk W' p 80 cs → ∃ b, W'.cell? ⟨p, i * 5 + 4, none⟩ = some (.bool b)) := fun W' hb => ⟨_, (hb.cell _).trans (hC.c4 hi)⟩
  have HL : Hid (∀ W', Blk W' p 80 (cs.set (i * 5 + 4) (.bool false)) → W'.cell? ⟨p, i * 5, none⟩ = some (.int .i64 (S i).has.l) ∧ W'.cell? ⟨p, i * 5 + 1, none⟩ = some (.int .i64 (S i).has.v) ∧ W'.cell? ⟨p, i * 5 + 2, none⟩ = some (.int .i64 m) ∧ W'.cell? ⟨p, i * 5 + 3, none⟩ = some (.int .i64 n)) := fun W' hb => by
    have h2 := hC.setWaits hi false
    have e0 := h2.c0 hi
    have e1 := h2.c1 hi
    have e2 := h2.c2 hi
    have e3 := h2.c3 hi
    rw [Sd.set_self] at e0 e1 e2 e3
    rw [← hm] at e2 e3
    exact ⟨(hb.cell _).trans e0, (hb.cell _).trans e1, (hb.cell _).trans e2, (hb.cell _).trans e3⟩
  have HB := Lib.hid hB
  obtain ⟨⟨a, b⟩, hx⟩ : ∃ x, x = (S i).has := ⟨_, rfl⟩
  rw [← hx] at HL hs
  have heq : ∀ W, _ := fun W => eq_set W l v a b
  have hgr := guard_set
  obtain ⟨q, hq⟩ : ∃ q, q = decide ((⟨l, v⟩ : Se) = ⟨a, b⟩) := ⟨_, rfl⟩
  rw [← hq] at heq
  obtain rfl : q = false := by rw [hq]; exact decide_eq_false (fun e => hs (.inl e))
  obtain rfl : k = false := by
    cases k
    · rfl
    · exact absurd (.inr rfl) hs
  clear hr hs hB hC he hii hx hq hm hy
  go_enter Tryz.func46, Tryz.ntmps46
  go_wp2_with (first
    | (go_at_call 63; refine (HR.out _).mono ?_; rintro e w1 ⟨rfl, ho1⟩; have HO1 : Hid (Only (fun _ => False) W w1) := (((Only.refl _ _).alloc _).alloc _).trans ho1 (fun _ h => h.elim); have HB1 : Hid (Blk w1 (W.heap.size + 1) 126 Tr.zero.cs) := (Blk.new' _ _ _ (by simp)).only ho1 (fun h => h); have HB0 : Hid (Blk w1 W.heap.size 126 (Tr.cs ⟨f, ⟨l, v⟩, _⟩)) := ((Blk.new' _ _ _ rfl).alloc _).only ho1 (fun h => h); have f0 : w1.cell? ⟨W.heap.size, 0, none⟩ = some (.int .i64 f) := HB0.out.cell 0; clear ho1)
    | fail)
  go_quiet (fail)
  have HBp := Lib.hid ((HB.out.only HO1.out (fun h => h)).drewN nq)
  obtain ⟨b4, c4⟩ := HK.out _ HBp.out
  have f4 := HBp.out.frozen (i * 5 + 4)
  have HO2 := Lib.hid (HO1.out.drewN nq)
  have HB0' := Lib.hid (HB0.out.drewN nq)
  have HB1' := Lib.hid (HB1.out.drewN nq)
  clear HB0 HB1 HO1 f0
  generalize w1.drewN nq = w2 at *
  go_wp2
  have HB3 := Lib.hid (HBp.out.setCell (i * 5 + 4) (.bool false))
  obtain ⟨d0, d1, _⟩ := HL.out _ HB3.out
  have HO3 : Hid (Only (· = p) W (w2.setCell ⟨p, i * 5 + 4, none⟩ (.bool false))) := (Only.mono (T := (· = p)) HO2.out (fun i hi => hi.elim)).setCell (p := ⟨p, i * 5 + 4, none⟩) (.inl rfl) _
  have HB0'' := Lib.hid (HB0'.out.far (p := ⟨p, i * 5 + 4, none⟩) (by show W.heap.size ≠ p; omega) (.bool false))
  have HB1'' := Lib.hid (HB1'.out.far (p := ⟨p, i * 5 + 4, none⟩) (by show W.heap.size + 1 ≠ p; omega) (.bool false))
  clear HBp HO2 HB0' HB1' c4 f4
  generalize w2.setCell ⟨p, i * 5 + 4, none⟩ (.bool false) = w3 at *
  have g1 : w3.cell? ⟨W.heap.size, 1, none⟩ = some (.int .i64 l) := HB0''.out.cell 1
  have g2 : w3.cell? ⟨W.heap.size, 2, none⟩ = some (.int .i64 v) := HB0''.out.cell 2
  have g3 : w3.cell? ⟨W.heap.size, 3, none⟩ = some (.bool _) := HB0''.out.cell 3
  go_quiet (fail)
  have HB3' := Lib.hid (HB3.out.drewN nq)
  have HO3' := Lib.hid (HO3.out.drewN nq)
  have HB1' := Lib.hid (HB1''.out.drewN nq)
  have HB0' := Lib.hid (HB0''.out.drewN nq)
  clear HB3 HO3 HB1'' HB0'' d0 d1 g1 g2 g3
  generalize w3.drewN nq = w4 at *
  go_wp2
  have HS : Hid (∀ w, Only (fun _ => False) w4 w → (w.cell? ⟨W.heap.size, 1, none⟩ = some (.int .i64 l) ∧ w.cell? ⟨W.heap.size, 2, none⟩ = some (.int .i64 v)) ∧ w.cell? ⟨p, i * 5 + 2, none⟩ = some (.int .i64 m) ∧ w.cell? ⟨p, i * 5 + 3, none⟩ = some (.int .i64 n)) := fun w ho =>
    ⟨⟨(HB0'.out.only ho (fun h => h)).cell 1, (HB0'.out.only ho (fun h => h)).cell 2⟩, (HL.out _ (HB3'.out.only ho (fun h => h))).2.2⟩
  apply twice2 (C := fun M W7 => Hid (SvAt w4 W7 M [.int .i64 y, .int .i64 z]))
  case k =>
    intro key
    go_region_held3 (fun w => (w.cell? ⟨W.heap.size, 1, none⟩ = some (.int .i64 l) ∧ w.cell? ⟨W.heap.size, 2, none⟩ = some (.int .i64 v)) ∧ w.cell? ⟨p, i * 5 + 2, none⟩ = some (.int .i64 m) ∧ w.cell? ⟨p, i * 5 + 3, none⟩ = some (.int .i64 n))
      (first | exact HS.out _ (Only.refl _ _).drew | exact HS.out _ ((Only.refl _ _).alloc _).drew | exact HS.out _ ho5.out | exact HS.out _ (ho5.out.alloc _) | exact HS.out _ (SvAt.only (HE.out _ _)))
      (first
        | ((with_reducible show Calls _ _ _ (World.drew w4) _); refine (HA.out _).mono ?_; rintro e w5 ⟨rfl, ho⟩; have ho5 := Lib.hid (((Only.refl (fun _ => False) w4).drew).trans ho (fun _ h => h.elim)); have HE := Lib.hid (SvAt.first ho); clear ho)
        | ((with_reducible show Calls _ _ _ (World.drew (World.alloc _ _)) _); refine (HA.out _).mono ?_; rintro e w5 ⟨rfl, ho⟩; have ho5 := Lib.hid ((((Only.refl (fun _ => False) w4).alloc _).drew).trans ho (fun _ h => h.elim)); have hz := (Blk.new w4 75 sv0).drew.only ho (fun h => h); have z0 : w5.cell? ⟨w4.heap.size, 0, none⟩ = some (.int .i64 0) := hz.cell 0; have z1 : w5.cell? ⟨w4.heap.size, 1, none⟩ = some (.int .i64 0) := hz.cell 1; have f0 := hz.frozen 0; have f1 := hz.frozen 1; have HE := Lib.hid (SvAt.second ho hz); clear ho hz))
    all_goals (first
      | (obtain ⟨W7, hW7⟩ : ∃ W7, W7 = w5.alloc (.cells #[.int .i64 y, .int .i64 z] 75) := ⟨_, rfl⟩
         rw [← hW7]
         have H0 : Hid (SvAt w4 W7 w5.heap.size [.int .i64 y, .int .i64 z]) := hW7 ▸ HE.out _ _
         obtain ⟨M, hM⟩ : ∃ M, M = w5.heap.size := ⟨_, rfl⟩
         rw [← hM] at H0 ⊢
         exact key M W7 H0)
      | (obtain ⟨W7, hW7⟩ : ∃ W7, W7 = (w5.setCell ⟨w4.heap.size, 0, none⟩ (.int .i64 y)).setCell ⟨w4.heap.size, 1, none⟩ (.int .i64 z) := ⟨_, rfl⟩
         rw [← hW7]
         have H0 : Hid (SvAt w4 W7 w4.heap.size [.int .i64 y, .int .i64 z]) := hW7 ▸ HE.out _ _
         obtain ⟨M, hM⟩ : ∃ M, M = w4.heap.size := ⟨_, rfl⟩
         rw [← hM] at H0 ⊢
         exact key M W7 H0))
  case h =>
    intro M W7 H0
    have hMl := H0.out.new
    have hpl := HB3'.out.lt
    have hb1 := HB1'.out.lt
    have m0 : W7.cell? ⟨M, 0, none⟩ = some (.int .i64 y) := H0.out.mv.cell 0
    have m1 : W7.cell? ⟨M, 1, none⟩ = some (.int .i64 z) := H0.out.mv.cell 1
    go_wp2_with (first
      | ((with_reducible show wpList _ _ _ (⟨none, .store 75 _ _, _, _, _, _⟩ :: _) _ _); refine step_store2 rfl 75 _ _ rfl p (i * 5) rfl (.int .i64 y) (.int .i64 z) rfl _ _ (HB3'.out.only H0.out.only (fun h => h)) hl90 size_set rfl rfl ?_; intro w8 hB8 hz8 ho8; have n0 : w8.cell? ⟨M, 0, none⟩ = some (.int .i64 y) := (H0.out.mv.only ho8 (by omega)).cell 0; have n1 : w8.cell? ⟨M, 1, none⟩ = some (.int .i64 z) := (H0.out.mv.only ho8 (by omega)).cell 1; have k0 : w8.cell? ⟨W.heap.size, 0, none⟩ = some (.int .i64 f) := ((HB0'.out.only H0.out.only (fun h => h)).only ho8 (by omega)).cell 0; have HB8 := Lib.hid ((HB1'.out.only H0.out.only (fun h => h)).only ho8 (by omega : ¬ W.heap.size + 1 = p)); have HO8 : Hid (Only (· = p) W w8) := (HO3'.out.trans H0.out.only (fun _ h => h.elim)).trans ho8 (fun i hi => .inl hi); clear ho8)
      | ((with_reducible show wpList _ _ _ (⟨none, .store 126 _ _, _, _, _, _⟩ :: _) _ _); refine step_store rfl 126 _ _ rfl (W.heap.size + 1) rfl (Tr.cs ⟨f, ⟨y, z⟩, ag⟩) rfl _ Tr.zero.cs HB8.out size_tri rfl (Tr.cs_one _) ?_; intro w9 hB9 hz9 ho9)
      | fail)
    refine ret_cell2 rfl (W.heap.size + 1) rfl 126 (Tr.cs ⟨f, ⟨y, z⟩, ag⟩) _ hB9.out Tryz.underlying126 rfl size_tri rfl ?_
    exact ⟨rfl, ⟨_, hB8.out.only ho9 (by omega), HC2.out⟩, HO8.out.trans ho9 (fun i hi => .inr (by omega))⟩

theorem hear_any {W : World} {p : Nat} {S : Sd} (h : ScSdAt W p S) (t : Tr) :
    Calls Tryz.prog 46 #[.pointer (some ⟨p, 0, none⟩), t.val] W fun e w' => e = .returned (.tuple #[(hearS S t).2.1.val, .bool (hearS S t).2.2]) ∧ ScSdAt w' p (hearS S t).1 ∧ Only (· = p) W w' := by
  cases hr : t.right
  · rw [hearS_not hr]
    refine (hear_not W p t hr).mono ?_
    rintro e w' ⟨rfl, ho⟩
    exact ⟨rfl, h.same ho, ho.mono (fun _ h => h.elim)⟩
  · by_cases hs : t.x = (S (plF t.f)).has ∨ t.ack = true
    · rw [hearS_still hr hs]
      exact hear_still h t hr hs
    · rw [hearS_told hr hs]
      exact hear_told h t hr hs
end Go.Proofs.YtlmkpembccehkaaGreatDoor
