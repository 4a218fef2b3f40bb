/- The document: what each byte does. -/
import Derived.Test.YtgknhojjnnljkaaDoorCeRefN
namespace Go.Proofs.YtgknhojjnnljkaaDoor
open Go Go.RowKit
set_option maxRecDepth 100000
set_option maxHeartbeats 4000000

section
variable {w : World} {G : Nat → Prop} {p : Nat} {s : Sc}
theorem rput_left (h : DAt w p G s) {b : UInt8} (hb : b.toNat = 8) :
    Calls Tryd.prog 12 #[.pointer (some ⟨p, 0, none⟩), .int .u8 (b.toNat : Int)] w fun e w' => e = .returned (.tuple #[]) ∧ Hid (DGoes p G (s.put b) w w') := by
  obtain ⟨A, cap, c0, c1, c2, c3, f1, f2, f3, _⟩ := h.cells
  have e : s.put b = ⟨s.c, s.x - 1, s.y, s.rows⟩ := by unfold Sc.put; rw [if_neg (by omega), if_pos hb]
  have hx := h.ok.hx
  have hc2 := h.ok.c2
  have HG : Hid (∀ N, DGoes p G (s.put b) w ((w.setCell ⟨p, 1, none⟩ (.int .i64 ((s.x - 1 : Nat) : Int))).drewN N)) := fun N => by
    rw [e]
    exact h.xy (s.x - 1) s.y (by omega) h.ok.hy (((Only.refl (· = p) w).setCell (p := ⟨p, 1, none⟩) (.inl rfl) _).drewN N) (fun hb => (hb.setCell 1 _).drewN N)
  have HE : Hid (s.x = 0 → DGoes p G (s.put b) w w) := fun h0 => by
    rw [e]
    have : (⟨s.c, s.x - 1, s.y, s.rows⟩ : Sc) = s := by rw [h0]; obtain ⟨c, x, y, rows⟩ := s; simp only at h0; subst h0; rfl
    rw [this]
    exact DGoes.refl h
  clear h c0 c2 c3 f2 f3 e
  generalize s.put b = st at *
  rw [hb]
  clear hb
  by_cases h0 : s.x = 0
  · have HEE := Lib.hid (HE.out h0)
    rw [h0] at c1
    clear HE HG hx h0
    go_enter Tryd.func12, Tryd.ntmps12
    go_wp2
    refine bodyPost_end (results_none rfl _ _ _) rfl ?_
    exact ⟨rfl, HEE⟩
  · have i1 : (0 : Int) < (s.x : Int) := by omega
    have i2 : (s.x : Int) - 1 = ((s.x - 1 : Nat) : Int) := by omega
    obtain ⟨x, hx0⟩ : ∃ x, x + 1 = s.x := ⟨s.x - 1, by omega⟩
    obtain ⟨X, hX⟩ : ∃ X, X = s.x := ⟨_, rfl⟩
    have HG0 := Lib.hid (HG.out 0)
    rw [show s.x - 1 = x from by omega] at HG0 i2
    rw [← hX] at c1 i1 i2
    have i3 : wrap64 (x : Int) = (x : Int) := wrap64_nat x (by omega)
    clear HE HG hx h0 hx0 hX
    go_enter Tryd.func12, Tryd.ntmps12
    go_wp2
    refine bodyPost_end (results_none rfl _ _ _) rfl ?_
    exact ⟨rfl, HG0⟩

theorem rput_next (h : DAt w p G s) {b : UInt8} (hb : b.toNat = 10) :
    Calls Tryd.prog 12 #[.pointer (some ⟨p, 0, none⟩), .int .u8 (b.toNat : Int)] w fun e w' => e = .returned (.tuple #[]) ∧ Hid (DGoes p G (s.put b) w w') := by
  have HS := Lib.hid (rnext_any h)
  have e : s.put b = s.next := by unfold Sc.put; rw [if_neg (by omega), if_neg (by omega), if_neg (by omega), if_pos hb]
  rw [e]
  clear h e
  generalize s.next = st at *
  rw [hb]
  clear hb
  go_enter Tryd.func12, Tryd.ntmps12
  go_wp2_with (go_at_call 27; (with_reducible refine HS.out.mono ?_); rintro e w' ⟨rfl, hgo⟩)
  refine bodyPost_end (results_none rfl _ _ _) rfl ?_
  exact ⟨rfl, hgo⟩

theorem rput_front (h : DAt w p G s) {b : UInt8} (hb : b.toNat = 13) :
    Calls Tryd.prog 12 #[.pointer (some ⟨p, 0, none⟩), .int .u8 (b.toNat : Int)] w fun e w' => e = .returned (.tuple #[]) ∧ Hid (DGoes p G (s.put b) w w') := by
  obtain ⟨A, cap, c0, c1, c2, c3, f1, f2, f3, _⟩ := h.cells
  have HG : Hid (DGoes p G (s.put b) w (w.setCell ⟨p, 1, none⟩ (.int .i64 0))) := by
    have e : s.put b = ⟨s.c, 0, s.y, s.rows⟩ := by unfold Sc.put; rw [if_neg (by omega), if_neg (by omega), if_neg (by omega), if_neg (by omega), if_pos hb]
    rw [e]
    exact h.xy 0 s.y h.ok.c1 h.ok.hy ((Only.refl (· = p) w).setCell (p := ⟨p, 1, none⟩) (.inl rfl) _) (fun hb => hb.setCell 1 _)
  clear h
  generalize s.put b = st at *
  rw [hb]
  clear hb
  go_enter Tryd.func12, Tryd.ntmps12
  go_wp2
  refine bodyPost_end (results_none rfl _ _ _) rfl ?_
  exact ⟨rfl, HG⟩

theorem rput_else (h : DAt w p G s) {b : UInt8} (hb : ¬ (32 ≤ b.toNat ∧ b.toNat ≤ 126)) (h1 : b.toNat ≠ 8) (h2 : b.toNat ≠ 9) (h3 : b.toNat ≠ 10) (h4 : b.toNat ≠ 13) (h5 : b.toNat ≠ 12) :
    Calls Tryd.prog 12 #[.pointer (some ⟨p, 0, none⟩), .int .u8 (b.toNat : Int)] w fun e w' => e = .returned (.tuple #[]) ∧ Hid (DGoes p G (s.put b) w w') := by
  have hG : Hid (DGoes p G (s.put b) w w) := by
    have e : s.put b = s := by unfold Sc.put; rw [if_neg hb, if_neg h1, if_neg h2, if_neg h3, if_neg h4, if_neg h5]
    rw [e]
    exact DGoes.refl h
  clear h
  generalize s.put b = st at *
  have i1 : ((b.toNat : Int) == 8) = false := beq_eq_false_iff_ne.2 (by omega)
  have i2 : ((b.toNat : Int) == 9) = false := beq_eq_false_iff_ne.2 (by omega)
  have i3 : ((b.toNat : Int) == 10) = false := beq_eq_false_iff_ne.2 (by omega)
  have i4 : ((b.toNat : Int) == 13) = false := beq_eq_false_iff_ne.2 (by omega)
  have i5 : ((b.toNat : Int) == 12) = false := beq_eq_false_iff_ne.2 (by omega)
  by_cases hlo : 32 ≤ b.toNat
  · have i6 : (31 : Int) < (b.toNat : Int) := by omega
    have i7 : ¬ (b.toNat : Int) < 127 := by omega
    clear h1 h2 h3 h4 h5 hb hlo
    generalize b.toNat = n at *
    go_enter Tryd.func12, Tryd.ntmps12
    go_wp2
    refine bodyPost_end (results_none rfl _ _ _) rfl ?_
    exact ⟨rfl, hG⟩
  · have i6 : ¬ (31 : Int) < (b.toNat : Int) := by omega
    clear h1 h2 h3 h4 h5 hb hlo
    generalize b.toNat = n at *
    go_enter Tryd.func12, Tryd.ntmps12
    go_wp2
    refine bodyPost_end (results_none rfl _ _ _) rfl ?_
    exact ⟨rfl, hG⟩

theorem rput_clear (h : DAt w p G s) {b : UInt8} (hb : b.toNat = 12) :
    Calls Tryd.prog 12 #[.pointer (some ⟨p, 0, none⟩), .int .u8 (b.toNat : Int)] w fun e w' => e = .returned (.tuple #[]) ∧ Hid (DGoes p G (s.put b) w w') := by
  have e : s.put b = ⟨s.c, 0, 0, List.replicate s.rows.length (blank s.c)⟩ := by unfold Sc.put; rw [if_neg (by omega), if_neg (by omega), if_neg (by omega), if_neg (by omega), if_neg (by omega), if_pos hb]
  rw [e]
  obtain ⟨ad, cap, h1, h2, h3, h4, h5, h6⟩ := h.ex
  have hok := h.ok.clear
  have hR1 := h.ok.r1
  have HB := Lib.hid (rblank_any h1 rfl h.ok.c2 h.ok.r1 h.ok.r2)
  have c3 : w.cell? ⟨p, 3, none⟩ = some (.slice (some ad) s.rows.length cap) := h1.cell 3
  have hpw := h1.lt
  have HA := Lib.hid (And.intro hok (And.intro h.gp (And.intro hpw hR1)))
  clear h h1 h2 h3 h4 h5 h6 hok e hpw hR1
  rw [hb]
  clear hb
  go_enter Tryd.func12, Tryd.ntmps12
  go_wp2_with (go_at_call 24; (with_reducible refine HB.out.mono ?_); rintro e w1 ⟨rfl, g, cap1, hb1, hn1, ho1⟩; have d1 := hb1.out.cell 1; have d2 := (hb1.out.setCell 1 (.int .i64 0)).cell 2; have f1 := hb1.out.frozen 1; have f2 := (hb1.out.setCell 1 (.int .i64 0)).frozen 2)
  refine bodyPost_end (results_none rfl _ _ _) rfl ?_
  obtain ⟨hok, hp, hpw, hR1⟩ := HA.out
  have ho7 : Only (· = p) w1 ((w1.setCell ⟨p, 1, none⟩ (.int .i64 0)).setCell ⟨p, 2, none⟩ (.int .i64 0)) := ((Only.refl (· = p) w1).setCell (p := ⟨p, 1, none⟩) (.inl rfl) _).setCell (p := ⟨p, 2, none⟩) (.inl rfl) _
  have hn7 := own_only hn1.out ho7 (fun q hq e => own_ne hn1.out hb1.out (by decide) q hq e)
  have hle := own_le hn7
  obtain ⟨g', e, hg, _, _⟩ := own_at hn7 (by omega)
  obtain rfl : g = g' := by injection e with e; injection e
  have hlen : (List.replicate s.rows.length (blank s.c)).length = s.rows.length := List.length_replicate
  refine ⟨rfl, DGoes.mk hok (ho1.out.trans ho7 (fun i hi => .inl hi)) hp (ad := ⟨g, 0, none⟩) (cap := cap1) ?_ (by dsimp only; rw [hlen]; exact hle.1) hle.2 ?_ (.inr hg) (show g ≠ p from by omega)⟩
  · dsimp only
    rw [hlen]
    exact (hb1.out.setCell 1 (.int .i64 0)).setCell 2 (.int .i64 0)
  · dsimp only
    rw [hlen]
    exact TSrc.of_own hn7
end
end Go.Proofs.YtgknhojjnnljkaaDoor
