/- A byte in the cursor's cell, and the cursor goes on. -/
import Derived.Test.YtgknhojjnnljkaaDoorCeNext
namespace Go.Proofs.YtgknhojjnnljkaaDoor
open Go Go.RowKit
set_option maxRecDepth 100000
set_option maxHeartbeats 4000000
attribute [local go_sem] run_store_complex

section
variable {w w' : World} {F : Nat → Prop} {p : Nat} {s : Sc}
theorem ScAt.cells (h : ScAt w p F s) : ∃ rb, w.cell? ⟨p, 0, none⟩ = some (.int .i64 (s.c : Int)) ∧ w.cell? ⟨p, 1, none⟩ = some (.slice (some ⟨rb, 0, none⟩) s.rows.length s.rows.length) ∧
    w.cell? ⟨p, 2, none⟩ = some (.complex .f64 (fl (s.x : Int)) (fl (s.y : Int))) ∧ w.frozen? ⟨p, 2, none⟩ = false ∧ p < w.heap.size := by
  obtain ⟨rb, ads, h1, _⟩ := h.ex
  exact ⟨rb, h1.cell 0, h1.cell 1, h1.cell 2, h1.frozen 2, h1.lt⟩
theorem ScAt.ne (_ : ScAt w p F s) {rb : Nat} {ads : List Nat} {cs : List Value} (h1 : Blk w p 62 cs) (h2 : Blk w rb 34 (ads.map (hdr s.c))) (h4 : RowsAt w F ads s.rows) : rb ≠ p ∧ ∀ g ∈ ads, g ≠ rb ∧ g ≠ p :=
  ⟨h2.ne h1 (by decide), fun g hg => by
    obtain ⟨i, hi, e2⟩ := List.mem_iff_getElem.1 hg
    obtain ⟨tl, hb⟩ := h4.row i g _ (by rw [← e2]; exact List.getElem?_eq_getElem hi) (List.getElem?_eq_getElem (by rw [← h4.len]; exact hi))
    exact ⟨hb.ne h2 (by decide), hb.ne h1 (by decide)⟩⟩
/-- The cursor has turned alone. -/
theorem ScAt.cursor (h : ScAt w p F s) (x y : Nat) (hx : x < s.c) (hy : y < s.rows.length) : ScAt (w.setCell ⟨p, 2, none⟩ (.complex .f64 (fl (x : Int)) (fl (y : Int)))) p F ⟨s.c, x, y, s.rows⟩ := by
  obtain ⟨rb, ads, h1, h2, h3, h4⟩ := h.ex
  have hne := h.ne h1 h2 h4
  have ho : Only (· = p) w (w.setCell ⟨p, 2, none⟩ (.complex .f64 (fl (x : Int)) (fl (y : Int)))) := (Only.refl (· = p) w).setCell (p := ⟨p, 2, none⟩) (.inl rfl) _
  have hk := h.ok
  exact ⟨⟨hk.c1, hk.c2, hk.r1, hk.r2, hx, hy, hk.hr⟩, fun k hk => Nat.lt_of_lt_of_le (h.lt k hk) ho.size, h.fp, rb, ads, h1.setCell 2 _, h2.only ho hne.1, h3, h4.only ho (fun g hg => (hne.2 g hg).2)⟩
theorem Goes.cursor (h : ScAt w p F s) (x y : Nat) (hx : x < s.c) (hy : y < s.rows.length) : Goes p F ⟨s.c, x, y, s.rows⟩ w (w.setCell ⟨p, 2, none⟩ (.complex .f64 (fl (x : Int)) (fl (y : Int)))) :=
  ⟨F, h.cursor x y hx hy, (Only.refl F w).setCell (p := ⟨p, 2, none⟩) (.inl h.fp) _, fun _ h => .inl h⟩
theorem Goes.drew (h : Goes p F s w.drew w') : Goes p F s w w' := by
  obtain ⟨F', h1, h2, h3⟩ := h
  exact ⟨F', h1, ((Only.refl F w).drew).trans h2 (fun _ h => .inl h), h3⟩
end

/-- The marked row. -/
theorem mark_set (r : List UInt8) (tl : List Value) (x : Nat) (b : UInt8) (hx : x < r.length) : (r.map B8 ++ tl).set x (.int .u8 (b.toNat : Int)) = (r.set x b).map B8 ++ tl := by
  rw [List.set_append_left _ _ (by rw [List.length_map]; exact hx), List.map_set]
  rfl

theorem toInt_any {n : Nat} (hn : n < 80) (W : World) : (convert 53 3 (.float .f64 (fl (n : Int)))).run Tryd.prog W = .ok (.int .i64 (n : Int)) W :=
  run_convert_float_int W 53 3 .f64 .i64 _ _ (by kernel_rfl) Tryd.underlying3 (toInt_t ⟨n, hn⟩)

theorem show_any {w : World} {F : Nat → Prop} {p : Nat} {s : Sc} (h : ScAt w p F s) (b : UInt8) :
    Calls Tryd.prog 35 #[.pointer (some ⟨p, 0, none⟩), .int .u8 (b.toNat : Int)] w fun e w' => e = .returned (.tuple #[]) ∧ Hid (Goes p F (s.mark b).step w w') := by
  obtain ⟨rb, ads, h1, h2, h3, h4⟩ := h.ex
  have hne := h.ne h1 h2 h4
  have hok := h.ok
  obtain ⟨r, hr, hrl⟩ := hok.row
  obtain ⟨g, tl, hg, hb⟩ := h4.get hr
  have hyl := hok.hy
  have hxl := hok.hx
  have hc2 := hok.c2
  have hr2 := hok.r2
  have hmk : s.rows.getD s.y [] = r := by rw [List.getD_eq_getElem?_getD, hr]; rfl
  have c1 : w.cell? ⟨p, 1, none⟩ = some (.slice (some ⟨rb, 0, none⟩) s.rows.length s.rows.length) := h1.cell 1
  have c2 : w.cell? ⟨p, 2, none⟩ = some (.complex .f64 (fl (s.x : Int)) (fl (s.y : Int))) := h1.cell 2
  have c3 : w.cell? ⟨rb, s.y, none⟩ = some (.slice (some ⟨g, 0, none⟩) s.c s.c) := by rw [h2.cell, List.getElem?_map, hg]; rfl
  have hxr : s.x < r.length := by omega
  have c4 : ∃ v, w.cell? ⟨g, s.x, none⟩ = some v := ⟨_, by rw [hb.cell, List.getElem?_append_left (by rw [List.length_map]; exact hxr)]; exact List.getElem?_eq_getElem (by rw [List.length_map]; exact hxr)⟩
  obtain ⟨v, c4⟩ := c4
  have f4 := hb.frozen s.x
  have k1 := fun W => toInt_any (show s.x < 80 by omega) W
  have k2 := fun W => toInt_any (show s.y < 80 by omega) W
  /- the row has turned -/
  have hbn := hb.setCell s.x (.int .u8 (b.toNat : Int))
  rw [mark_set r tl s.x b hxr] at hbn
  have hgm := List.mem_of_getElem? hg
  have hM : Hid (∀ w1, w1 = w.drew.setCell ⟨g, s.x, none⟩ (.int .u8 (b.toNat : Int)) → ScAt w1 p F (s.mark b)) := by
    rintro w1 rfl
    have ho : Only (· = g) w (w.drew.setCell ⟨g, s.x, none⟩ (.int .u8 (b.toNat : Int))) := ((Only.refl (· = g) w).drew).setCell (p := ⟨g, s.x, none⟩) (.inl rfl) _
    refine ⟨hok.mark b, fun k hk => Nat.lt_of_lt_of_le (h.lt k hk) ho.size, h.fp, rb, ads, ?_, h2.only ho (fun e => (hne.2 g hgm).1 e.symm), h3, ?_⟩
    · have e : (s.mark b).rows.length = s.rows.length := List.length_set
      rw [e]
      exact h1.only ho (fun e => (hne.2 g hgm).2 e.symm)
    · show RowsAt _ F ads (s.rows.set s.y ((s.rows.getD s.y []).set s.x b))
      rw [hmk]
      exact h4.set hg ho hbn
  have hFg := h4.inF g hgm
  have hO : Hid (Only F w (w.drew.setCell ⟨g, s.x, none⟩ (.int .u8 (b.toNat : Int)))) := ((Only.refl F w).drew).setCell (p := ⟨g, s.x, none⟩) (.inl hFg) _
  have hbt := b.toNat_lt
  obtain ⟨W1, hW1⟩ : ∃ W1, W1 = (w.setCell ⟨g, s.x, none⟩ (.int .u8 (b.toNat : Int))).drew := ⟨_, rfl⟩
  have HW1 := Lib.hid hW1
  have HM := Lib.hid (hM.out W1 hW1)
  have hO : Hid (Only F w W1) := by rw [hW1]; exact hO.out
  have HL := Lib.hid (And.intro hxl (And.intro hyl (And.intro hc2 hr2)))
  have hx1 : (s.x : Int) < (s.c : Int) := by omega
  have hy1 : (s.y : Int) < (s.rows.length : Int) := by omega
  have hS1 := HM.out
  have hk1 := hS1.ok
  have hrows : (s.mark b).rows.length = s.rows.length := List.length_set
  obtain ⟨rb1, d0, d1, d2, g2, _⟩ := hS1.cells
  have hadd := fun W => run_complex_sum (P := Tryd.prog) W .add (.inl rfl) 51 .f64 _ _ _ _ _ _ (c_right (show s.x < 64 by omega) (show s.y < 64 by omega))
  have HHas := has_any (u := ((s.x + 1 : Nat) : Int)) (v := (s.y : Int)) (by omega) (by omega) (by omega) (by omega) (show (s.mark b).c ≤ 64 from by show s.c ≤ 64; omega) (show (s.mark b).rows.length ≤ 64 by omega) d0 d1
  have hcx : (s.mark b).x = s.x := rfl
  have hcy : (s.mark b).y = s.y := rfl
  rw [hcx, hcy] at d2
  have hb1 : ((decide ((0 : Int) ≤ ((s.x + 1 : Nat) : Int)) && decide (((s.x + 1 : Nat) : Int) < ((s.mark b).c : Int))) && (decide ((0 : Int) ≤ (s.y : Int)) && decide ((s.y : Int) < ((s.mark b).rows.length : Int)))) = decide (s.x + 1 < s.c) := by
    rw [hrows, show (s.mark b).c = s.c from rfl, decide_eq_true (show (0 : Int) ≤ ((s.x + 1 : Nat) : Int) by omega), decide_eq_true (show (0 : Int) ≤ (s.y : Int) by omega), decide_eq_true (show (s.y : Int) < (s.rows.length : Int) by omega)]
    simp
    omega
  rw [hb1] at HHas
  have e2 := d2
  have e3 := g2
  rw [hW1] at e2 e3
  have e2 : (w.setCell ⟨g, s.x, none⟩ (.int .u8 (b.toNat : Int))).cell? ⟨p, 2, none⟩ = some (.complex .f64 (fl (s.x : Int)) (fl (s.y : Int))) := e2
  have e3 : (w.setCell ⟨g, s.x, none⟩ (.int .u8 (b.toNat : Int))).frozen? ⟨p, 2, none⟩ = false := e3
  have HF := Lib.hid (fun W => front_any (fl (s.x : Int)) (fl (s.y : Int)) W)
  have HNx : Hid (∀ W2, W2 = W1.setCell ⟨p, 2, none⟩ (.complex .f64 0 (fl (s.y : Int))) → Calls Tryd.prog 37 #[.pointer (some ⟨p, 0, none⟩)] W2 fun e w' => e = .returned (.tuple #[]) ∧ Hid (Goes p F (⟨s.c, 0, s.y, (s.mark b).rows⟩ : Sc).next W2 w')) := by
    rintro W2 rfl
    have h5 := hS1.cursor 0 s.y hk1.c1 hk1.hy
    rw [show ((0 : Nat) : Int) = 0 from rfl, fl_zero] at h5
    exact next_any h5
  have HN0 : Hid (Only F W1 (W1.setCell ⟨p, 2, none⟩ (.complex .f64 0 (fl (s.y : Int))))) := (Only.refl F W1).setCell (p := ⟨p, 2, none⟩) (.inl h.fp) _
  have HN1 : Hid (s.x + 1 < s.c → Goes p F (⟨s.c, s.x + 1, s.y, (s.mark b).rows⟩ : Sc) W1 (W1.setCell ⟨p, 2, none⟩ (.complex .f64 (fl ((s.x + 1 : Nat) : Int)) (fl (s.y : Int))))) := fun hlt => Goes.cursor hS1 (s.x + 1) s.y hlt hk1.hy
  have HG : Hid (Only F w W1) := hO
  have HStep : Hid ((s.mark b).step = if s.x + 1 < s.c then ⟨s.c, s.x + 1, s.y, (s.mark b).rows⟩ else (⟨s.c, 0, s.y, (s.mark b).rows⟩ : Sc).next) := rfl
  clear hM hW1 hbn hb hg hmk hr hrl hne h1 h2 h3 h4 hok hgm hFg h hxr hbt hxl hyl hc2 hr2 HM hS1 hk1 hrows d0 d1 hcx hcy hb1 hO HL
  generalize (s.mark b).step = st at *
  generalize (s.mark b).rows = rows1 at *
  generalize s.mark b = sm at *
  obtain ⟨x, hx⟩ : ∃ x, x = s.x := ⟨_, rfl⟩
  obtain ⟨y, hy⟩ : ∃ x, x = s.y := ⟨_, rfl⟩
  obtain ⟨c, hc⟩ : ∃ x, x = s.c := ⟨_, rfl⟩
  obtain ⟨R, hR⟩ : ∃ x, x = s.rows.length := ⟨_, rfl⟩
  simp only [← hx, ← hy, ← hc, ← hR] at *
  clear hx hy hc hR s
  generalize fl ((x + 1 : Nat) : Int) = fx1 at *
  generalize fl (x : Int) = fx at *
  generalize fl (y : Int) = fy at *
  by_cases hlt : x + 1 < c
  · rw [decide_eq_true hlt] at HHas
    have HH := Lib.hid HHas
    have HN := Lib.hid (HN1.out hlt)
    have hst := HStep.out
    rw [if_pos hlt] at hst
    have HSt := Lib.hid hst
    clear HHas HN1 HN0 HNx HF HStep hst hlt
    go_enter Tryd.func35, Tryd.ntmps35
    go_wp2_with fail
    refine region_tail 20 (by kernel_rfl) (by kernel_rfl) ?_
    simp only [List.take_succ_cons, List.take_zero, List.drop_succ_cons, List.drop_zero]
    repeat still_step
    refine wpStill_nil ?_
    go_wp2_with (go_at_call 33; rw [← HW1.out]; (with_reducible refine HH.out.mono ?_); rintro e w' ⟨rfl, e2⟩; subst w')
    refine bodyPost_ret (results_none rfl _ _ _) rfl ?_
    rw [HSt.out]
    exact ⟨rfl, HN.out.pre HG.out⟩
  · rw [decide_eq_false hlt] at HHas
    have HH := Lib.hid HHas
    have hst := HStep.out
    rw [if_neg hlt] at hst
    have HSt := Lib.hid hst
    clear HHas HN1 HStep hst hlt
    go_enter Tryd.func35, Tryd.ntmps35
    go_wp2_with fail
    refine region_tail 20 (by kernel_rfl) (by kernel_rfl) ?_
    simp only [List.take_succ_cons, List.take_zero, List.drop_succ_cons, List.drop_zero]
    repeat still_step
    refine wpStill_nil ?_
    go_wp2_with (first
      | (go_at_call 33; rw [← HW1.out]; (with_reducible refine HH.out.mono ?_); rintro e w' ⟨rfl, e2⟩; subst w')
      | (go_at_call 38; (with_reducible refine (HF.out _).mono ?_); rintro e w' ⟨rfl, e2⟩; subst w')
      | (go_at_call 37; (with_reducible refine (HNx.out _ rfl).mono ?_); rintro e w' ⟨rfl, hgo⟩))
    refine bodyPost_end (results_none rfl _ _ _) rfl ?_
    rw [HSt.out]
    exact ⟨rfl, (hgo.out.pre HN0.out).pre HG.out⟩
end Go.Proofs.YtgknhojjnnljkaaDoor
