/- The cursor goes to the next row, or all rows go up. -/
import Derived.Test.YtgknhojjnnljkaaDoorCeRows
namespace Go.Proofs.YtgknhojjnnljkaaDoor
open Go Go.RowKit
set_option maxRecDepth 100000
set_option maxHeartbeats 4000000

theorem run_store_complex (P : Program) (w : World) (a : Addr) (m : Mode) (k : FloatKind) (x y : Nat) : (store a (.complex k x y) m).run P w = stored P w a (.complex k x y) m := run_store P w a _ m rfl
attribute [local go_sem] run_store_complex

section
variable {w w' : World} {F : Nat → Prop} {p : Nat} {s s' : Sc}
theorem Goes.mk (hok : s'.Ok) (ho : Only F w w') (hp : F p) {rb : Nat} {ads : List Nat}
    (h1 : Blk w' p 62 [.int .i64 (s'.c : Int), .slice (some ⟨rb, 0, none⟩) s'.rows.length s'.rows.length, .complex .f64 (fl (s'.x : Int)) (fl (s'.y : Int))])
    (h2 : Blk w' rb 34 (ads.map (hdr s'.c))) (h3 : F rb ∨ w.heap.size ≤ rb) (h4 : RowsAt w' (fun k => F k ∨ w.heap.size ≤ k) ads s'.rows) : Goes p F s' w w' :=
  ⟨fun k => (F k ∨ w.heap.size ≤ k) ∧ k < w'.heap.size, ⟨hok, fun _ hk => hk.2, ⟨.inl hp, h1.lt⟩, rb, ads, h1, h2, ⟨h3, h2.lt⟩, h4.mono (fun g hg hf => ⟨hf, h4.lt g hg⟩)⟩, ho, fun _ hk => hk.1⟩
end

theorem splice_up (hs : List Value) (R : Nat) (hR : hs.length = R) (h1 : 1 ≤ R) (v : Value) : (splice hs 0 (hs.drop 1)).set (R - 1) v = hs.drop 1 ++ [v] := by
  subst hR
  unfold splice
  rw [List.take_zero, List.nil_append, Nat.zero_add, List.length_drop, List.set_append_right _ _ (by rw [List.length_drop]; exact Nat.le_refl _), List.length_drop, Nat.sub_self]
  congr 1
  rw [List.drop_eq_getElem_cons (by omega), List.drop_eq_nil_of_le (by omega)]
  rfl

theorem next_in {w : World} {F : Nat → Prop} {p : Nat} {s : Sc} (h : ScAt w p F s) (hy : s.y + 1 < s.rows.length) :
    Calls Tryd.prog 37 #[.pointer (some ⟨p, 0, none⟩)] w fun e w' => e = .returned (.tuple #[]) ∧ Hid (Goes p F s.next w w') := by
  obtain ⟨rb, ads, h1, h2, h3, h4⟩ := h.ex
  have hok := h.ok
  have hlt := h.lt
  have hp := h.fp
  have hnx : s.next = ⟨s.c, s.x, s.y + 1, s.rows⟩ := by unfold Sc.next; rw [if_pos hy]
  have hok' := hok.next
  rw [hnx] at hok' ⊢
  clear hnx h
  obtain ⟨c, x, y, rows⟩ := s
  dsimp only at *
  obtain ⟨R, hR⟩ : ∃ R, R = rows.length := ⟨_, rfl⟩
  have hx := hok.hx
  have hy2 := hok.hy
  have hc1 := hok.c1
  have hc2 := hok.c2
  have hr2 := hok.r2
  dsimp only at hx hy2 hc1 hc2 hr2
  rw [← hR] at h1 hy hy2 hr2
  have c0 : w.cell? ⟨p, 0, none⟩ = some (.int .i64 (c : Int)) := h1.cell 0
  have c1 : w.cell? ⟨p, 1, none⟩ = some (.slice (some ⟨rb, 0, none⟩) R R) := h1.cell 1
  have c2 : w.cell? ⟨p, 2, none⟩ = some (.complex .f64 (fl (x : Int)) (fl (y : Int))) := h1.cell 2
  have f2 := h1.frozen 2
  have hadd := fun W => run_complex_sum (P := Tryd.prog) W .add (.inl rfl) 51 .f64 _ _ _ _ _ _ (c_down (show x < 64 by omega) (show y < 64 by omega))
  have hhas := has_any (u := (x : Int)) (v := ((y + 1 : Nat) : Int)) (by omega) (by omega) (by omega) (by omega) (show c ≤ 64 by omega) (show R ≤ 64 by omega) c0 c1
  rw [show ((decide ((0 : Int) ≤ (x : Int)) && decide ((x : Int) < (c : Int))) && (decide ((0 : Int) ≤ ((y + 1 : Nat) : Int)) && decide (((y + 1 : Nat) : Int) < (R : Int)))) = true from by simp; omega] at hhas
  have HF : ∃ z, z = fl ((y + 1 : Nat) : Int) := ⟨_, rfl⟩
  obtain ⟨y1, hy1⟩ := HF
  have HY1 := Lib.hid hy1
  rw [← hy1] at hadd hhas
  obtain ⟨fx, hfx⟩ : ∃ z, z = fl (x : Int) := ⟨_, rfl⟩
  obtain ⟨fy, hfy⟩ : ∃ z, z = fl (y : Int) := ⟨_, rfl⟩
  rw [← hfx] at c2 h1 hadd hhas
  rw [← hfy] at c2 h1 hadd
  have HFX := Lib.hid hfx
  have HFY := Lib.hid hfy
  clear hfx hfy
  have HA := Lib.hid (And.intro hok' (And.intro hlt (And.intro hp (And.intro h1 (And.intro h2 (And.intro h3 h4))))))
  have HH := Lib.hid hhas
  have HR := Lib.hid hR
  clear hok hok' hlt hp h1 h2 h3 h4 hhas hy1 hR hx hy2 hy hc1 hc2 hr2
  go_enter Tryd.func37, Tryd.ntmps37
  go_wp2_with (go_at_call 33; (with_reducible refine HH.out.mono ?_); rintro e w' ⟨rfl, e2⟩; subst w')
  refine bodyPost_ret (results_none rfl _ _ _) rfl ?_
  obtain ⟨hok', hlt, hp, h1, h2, h3, h4⟩ := HA.out
  have ho : Only (· = p) w (w.setCell ⟨p, 2, none⟩ (.complex .f64 fx y1)) := (Only.refl (· = p) w).setCell (p := ⟨p, 2, none⟩) (.inl rfl) _
  have hne : rb ≠ p := h2.ne h1 (by decide)
  have hn2 : ∀ g ∈ ads, g ≠ p := fun g hg e => by
    obtain ⟨i, hi, e2⟩ := List.mem_iff_getElem.1 hg
    obtain ⟨tl, hb⟩ := h4.row i g _ (by rw [← e2]; exact List.getElem?_eq_getElem hi) (List.getElem?_eq_getElem (by rw [← h4.len]; exact hi))
    exact hb.ne (e ▸ h1) (by decide) rfl
  have hb := h1.setCell 2 (.complex .f64 fx y1)
  refine ⟨rfl, Goes.mk hok' (ho.mono (fun i hi => .inl (hi ▸ hp))) hp (rb := rb) (ads := ads) ?_ (h2.only ho hne) (.inl h3) ((h4.only ho hn2).mono (fun _ _ h => .inl h))⟩
  rw [← HR.out, ← HFX.out, ← HY1.out]
  exact hb

theorem next_up {w : World} {F : Nat → Prop} {p : Nat} {s : Sc} (h : ScAt w p F s) (hy : ¬ s.y + 1 < s.rows.length) :
    Calls Tryd.prog 37 #[.pointer (some ⟨p, 0, none⟩)] w fun e w' => e = .returned (.tuple #[]) ∧ Hid (Goes p F s.next w w') := by
  obtain ⟨rb, ads, h1, h2, h3, h4⟩ := h.ex
  have hok := h.ok
  have hlt := h.lt
  have hp := h.fp
  have hnx : s.next = ⟨s.c, s.x, s.y, s.rows.drop 1 ++ [blank s.c]⟩ := by unfold Sc.next; rw [if_neg hy]
  have hok' := hok.next
  rw [hnx] at hok' ⊢
  clear hnx h
  obtain ⟨c, x, y, rows⟩ := s
  dsimp only at *
  obtain ⟨R, hR⟩ : ∃ R, R = rows.length := ⟨_, rfl⟩
  have hx := hok.hx
  have hy2 := hok.hy
  have hc1 := hok.c1
  have hc2 := hok.c2
  have hr1 := hok.r1
  have hr2 := hok.r2
  dsimp only at hx hy2 hc1 hc2 hr1 hr2
  rw [← hR] at h1 hy hr1 hr2 hy2
  have c0 : w.cell? ⟨p, 0, none⟩ = some (.int .i64 (c : Int)) := h1.cell 0
  have c1 : w.cell? ⟨p, 1, none⟩ = some (.slice (some ⟨rb, 0, none⟩) R R) := h1.cell 1
  have c2 : w.cell? ⟨p, 2, none⟩ = some (.complex .f64 (fl (x : Int)) (fl (y : Int))) := h1.cell 2
  have hadd := fun W => run_complex_sum (P := Tryd.prog) W .add (.inl rfl) 51 .f64 _ _ _ _ _ _ (c_down (show x < 64 by omega) (show y < 64 by omega))
  have hhas := has_any (u := (x : Int)) (v := ((y + 1 : Nat) : Int)) (by omega) (by omega) (by omega) (by omega) (show c ≤ 64 by omega) (show R ≤ 64 by omega) c0 c1
  rw [show ((decide ((0 : Int) ≤ (x : Int)) && decide ((x : Int) < (c : Int))) && (decide ((0 : Int) ≤ ((y + 1 : Nat) : Int)) && decide (((y + 1 : Nat) : Int) < (R : Int)))) = false from by simp; omega] at hhas
  obtain ⟨y1, hy1⟩ : ∃ z, z = fl ((y + 1 : Nat) : Int) := ⟨_, rfl⟩
  rw [← hy1] at hadd hhas
  obtain ⟨fx, hfx⟩ : ∃ z, z = fl (x : Int) := ⟨_, rfl⟩
  obtain ⟨fy, hfy⟩ : ∃ z, z = fl (y : Int) := ⟨_, rfl⟩
  rw [← hfx] at c2 h1 hadd hhas
  rw [← hfy] at c2 h1 hadd
  have HFX := Lib.hid hfx
  have HFY := Lib.hid hfy
  clear hfx hfy
  have hal : ads.length = R := by rw [h4.len, hR]
  have hne : rb ≠ p := h2.ne h1 (by decide)
  have hn2 : ∀ g ∈ ads, g ≠ rb ∧ g ≠ p := fun g hg => by
    obtain ⟨i, hi, e2⟩ := List.mem_iff_getElem.1 hg
    obtain ⟨tl, hb⟩ := h4.row i g _ (by rw [← e2]; exact List.getElem?_eq_getElem hi) (List.getElem?_eq_getElem (by rw [← h4.len]; exact hi))
    exact ⟨hb.ne h2 (by decide), hb.ne h1 (by decide)⟩
  have HA := Lib.hid (And.intro hok' (And.intro hlt (And.intro hp (And.intro h1 (And.intro h2 (And.intro h3 (And.intro h4 (And.intro hal (And.intro hne hn2)))))))))
  have HH := Lib.hid hhas
  have HR := Lib.hid hR
  have HBl := Lib.hid (fun W => blankRow_any hc1 hc2 W)
  have HX := Lib.hid (And.intro hx (And.intro hy2 (And.intro hc1 hc2)))
  clear hok hok' hlt hp h1 h2 h3 h4 hhas hy1 hR hx hy2 hy hal hne hn2 hc1 hc2
  go_enter Tryd.func37, Tryd.ntmps37
  go_wp2_with (go_at_call 33; (with_reducible refine HH.out.mono ?_); rintro e w' ⟨rfl, e2⟩; subst w')
  have HC := Lib.hid (And.intro c0 (And.intro c1 c2))
  have hi1 : (1 : Int) ≤ (R : Int) := by omega
  have hi0 : (0 : Int) < 1 := by omega
  refine region_tail 9 (by kernel_rfl) (by kernel_rfl) ?_
  simp only [List.take_succ_cons, List.take_zero, List.drop_succ_cons, List.drop_zero]
  repeat still_step
  refine wpStill_nil ?_
  obtain ⟨ad, had, hsrc⟩ : ∃ ad, (if R = 1 then some (⟨rb, 0, none⟩ : Addr) else some ⟨rb, 1, none⟩) = some ad ∧ ∀ (j : Nat) (v : Value), ((ads.map (hdr c)).drop 1)[j]? = some v → w.drew.cell? (ad.add j) = some v := by
    by_cases h1 : R = 1
    · refine ⟨⟨rb, 0, none⟩, by rw [if_pos h1], fun j v hj => ?_⟩
      have := (List.getElem?_eq_some_iff.1 hj).1
      rw [List.length_drop, List.length_map, HA.out.2.2.2.2.2.2.2.1] at this
      omega
    · refine ⟨⟨rb, 1, none⟩, by rw [if_neg h1], fun j v hj => ?_⟩
      rw [show (⟨rb, 1, none⟩ : Addr).add j = ⟨rb, 1 + j, none⟩ from by unfold Addr.add; split <;> simp_all]
      rw [HA.out.2.2.2.2.1.drew.cell, ← hj, List.getElem?_drop]
  have HS := Lib.hid hsrc
  have HL : Hid (((ads.map (hdr c)).drop 1).length = (R - 1) * 1) := by
    show _ = _
    rw [List.length_drop, List.length_map, HA.out.2.2.2.2.2.2.2.1]; omega
  have HFit : Hid (0 + ((ads.map (hdr c)).drop 1).length ≤ (ads.map (hdr c)).length) := by
    show _ ≤ _
    rw [List.length_drop]; omega
  have HOne : Hid (∀ v ∈ (ads.map (hdr c)).drop 1, v.oneCell' = true) := fun v hv => by
    obtain ⟨x, _, rfl⟩ := List.mem_map.1 (List.mem_of_mem_drop hv)
    exact hdr_one c x
  have HMin : Hid (R - 1 = Nat.min (R - 1) R) := by show _ = min _ _; omega
  rw [had]
  clear hsrc had
  refine step_copyK rfl (.tmp 25) (.tmp 30) 60 60 rfl 34 1 Tryd.underlying60 (by kernel_rfl) rb 0 R R ad (R - 1) (R - 1) rfl rfl (ads.map (hdr c)) 34 HA.out.2.2.2.2.1.drew _ (R - 1) HMin.out HL.out HS.out HFit.out HOne.out ?_
  intro w1 hb1 hz1 ho1
  have HP1 : Hid (Blk w1 p 62 [.int .i64 (c : Int), .slice (some ⟨rb, 0, none⟩) R R, .complex .f64 fx fy]) := HA.out.2.2.2.1.drew.only ho1 (fun e => HA.out.2.2.2.2.2.2.2.2.1 e.symm)
  have HO1 : Hid (Only (· = rb) w w1) := ((Only.refl (· = rb) w).drew).trans ho1 (fun i hi => .inl hi)
  have hcl : (splice (ads.map (hdr c)) 0 ((ads.map (hdr c)).drop 1)).length = R := by
    rw [length_splice _ _ _ HFit.out, List.length_map, HA.out.2.2.2.2.2.2.2.1]
  have HCl := Lib.hid hcl
  have HNe : Hid (p ≠ rb) := fun e => HA.out.2.2.2.2.2.2.2.2.1 e.symm
  clear ho1 hcl hz1 c0 c1 c2 HS
  go_wp2
  have q1 : (0 : Int) ≤ (R : Int) - 1 := by omega
  have q2 : (R : Int) - 1 < (R : Int) := by omega
  go_region_held3 (fun W => W.cell? ⟨p, 1, none⟩ = some (.slice (some ⟨rb, 0, none⟩) R R) ∧ W.cell? ⟨p, 0, none⟩ = some (.int .i64 (c : Int)))
    (first | exact ⟨HP1.out.drew.cell 1, HP1.out.drew.cell 0⟩ | exact hK | exact ⟨(HP5.out.far (p := ⟨rb, R - 1, none⟩) HNe.out _).cell 1, (HP5.out.far (p := ⟨rb, R - 1, none⟩) HNe.out _).cell 0⟩)
    (first
      | (go_at_call 41; (with_reducible refine (HBl.out _).mono ?_); rintro e w5 ⟨g, rfl, hg, hb5, ho5⟩; have hP5 := HP1.out.drew.only ho5.out (fun h => h); have hK := And.intro (hP5.cell 1) (hP5.cell 0); have hR5 := hb1.out.drew.only ho5.out (fun h => h); obtain ⟨v, hc5⟩ : ∃ v, w5.cell? ⟨rb, R - 1, none⟩ = some v := (by rw [hR5.cell]; exact ⟨_, List.getElem?_eq_getElem (by rw [HCl.out]; omega)⟩); have hf5 := hR5.frozen (R - 1); have HR5 := Lib.hid hR5; have HP5 := Lib.hid hP5; clear hR5 hP5))
  go_wp2
  refine bodyPost_end (results_none rfl _ _ _) rfl ?_
  obtain ⟨hok', hlt, hp, h1, h2, h3, h4, hal, hne, hn2⟩ := HA.out
  obtain ⟨tl, hb⟩ := hb5.out
  have ho5' : Only (fun _ => False) w1 w5 := ((Only.refl _ _).drew).trans ho5.out (fun _ h => h.elim)
  have ho6 : Only (· = rb) w5 (w5.setCell ⟨rb, R - 1, none⟩ (.slice (some ⟨g, 0, none⟩) c c)) := (Only.refl (· = rb) w5).setCell (p := ⟨rb, R - 1, none⟩) (.inl rfl) _
  have hgl : w.heap.size ≤ g := Nat.le_trans HO1.out.size hg
  have hr5 := (h4.only HO1.out (fun g hg => (hn2 g hg).1)).only ho5' (fun _ _ h => h)
  have hr6 := hr5.only ho6 (fun g hg => (hn2 g hg).1)
  have hrl := h2.lt
  have hb6 := hb.only ho6 (show g ≠ rb by omega)
  have hP6 := HP5.out.far (p := ⟨rb, R - 1, none⟩) HNe.out (.slice (some ⟨g, 0, none⟩) c c)
  have hR6 := HR5.out.setCell (R - 1) (.slice (some ⟨g, 0, none⟩) c c)
  rw [splice_up _ R (by rw [List.length_map, hal]) (by omega)] at hR6
  refine ⟨rfl, Goes.mk hok' (((HO1.out.trans ho5' (fun _ h => h.elim)).trans ho6 (fun i hi => .inl hi)).mono (fun i hi => .inl (hi ▸ h3))) hp (rb := rb) (ads := ads.drop 1 ++ [g]) ?_ ?_ (.inl h3) ?_⟩
  · have hlen : (rows.drop 1 ++ [blank c]).length = R := by
      rw [List.length_append, List.length_drop, List.length_singleton, ← HR.out]; omega
    dsimp only
    rw [hlen, ← HFX.out, ← HFY.out]
    exact hP6
  · rw [List.map_append, List.map_drop]
    exact hR6
  · exact (hr6.drop1.mono (fun _ _ h => .inl h)).snoc hb6 (.inr hgl) (fun hm => by have := h4.lt g (List.mem_of_mem_drop hm); omega)
theorem next_any {w : World} {F : Nat → Prop} {p : Nat} {s : Sc} (h : ScAt w p F s) :
    Calls Tryd.prog 37 #[.pointer (some ⟨p, 0, none⟩)] w fun e w' => e = .returned (.tuple #[]) ∧ Hid (Goes p F s.next w w') := by
  by_cases hy : s.y + 1 < s.rows.length
  · exact next_in h hy
  · exact next_up h hy
end Go.Proofs.YtgknhojjnnljkaaDoor
