/- The document: a byte that stands in a cell. -/
import Derived.Test.YtgknhojjnnljkaaDoorCeRefTab
import Derived.Deep.RegionHeld3
namespace Go.Proofs.YtgknhojjnnljkaaDoor
open Go Go.RowKit
set_option maxRecDepth 100000
set_option maxHeartbeats 4000000

section
variable {w : World} {G : Nat → Prop} {p : Nat} {s : Sc}
theorem DGoes.trans {w w' w'' : World} {G : Nat → Prop} {p : Nat} {s' s'' : Sc} (h : DGoes p G s' w w') (k : ∀ G', DAt w' p G' s' → DGoes p G' s'' w' w'') : DGoes p G s'' w w'' := by
  obtain ⟨F', h1, h2, h3⟩ := h
  obtain ⟨F'', k1, k2, k3⟩ := k F' h1
  refine ⟨F'', k1, h2.trans k2 (fun _ h => .inl h), fun i hi => ?_⟩
  rcases k3 i hi with h4 | h4
  · exact h3 i h4
  · exact .inr (Nat.le_trans h2.size h4)
theorem DGoes.cons {w w' w'' : World} {G G8 : Nat → Prop} {p : Nat} {s'' : Sc} (o8 : Only (· = p) w w') (g8 : ∀ k, G8 k → G k ∨ w.heap.size ≤ k) (h : DGoes p G8 s'' w' w'') : DGoes p G s'' w w'' := by
  obtain ⟨F'', k1, k2, k3⟩ := h
  refine ⟨F'', k1, o8.trans k2 (fun _ h => .inl h), fun i hi => ?_⟩
  rcases k3 i hi with h4 | h4
  · exact g8 i h4
  · exact .inr (Nat.le_trans o8.size h4)
theorem text_set (r : List UInt8) (x : Nat) (b : UInt8) (hx : x < r.length) : (r.take x ++ [b]) ++ r.drop (x + 1) = r.set x b := by
  rw [List.append_assoc, List.singleton_append, List.set_eq_take_append_cons_drop, if_pos hx]

theorem rmark_front (h : DAt w p G s) (b : UInt8) : ∃ r, s.rows[s.y]? = some r ∧ r.length = s.c ∧ s.rows.getD s.y [] = r := by
  obtain ⟨r, hr, hl⟩ := h.ok.row
  exact ⟨r, hr, hl, by rw [List.getD_eq_getElem?_getD, hr]; rfl⟩
theorem rput_shown (h : DAt w p G s) {b : UInt8} (hb1 : 32 ≤ b.toNat) (hb2 : b.toNat ≤ 126) :
    Calls Tryd.prog 12 #[.pointer (some ⟨p, 0, none⟩), .int .u8 (b.toNat : Int)] w fun e w' => e = .returned (.tuple #[]) ∧ Hid (DGoes p G (s.put b) w w') := by
  have e : s.put b = (s.mark b).step := by unfold Sc.put; rw [if_pos ⟨hb1, hb2⟩]
  rw [e]
  obtain ⟨r, hr, hrl, hgd⟩ := rmark_front h b
  obtain ⟨ad, cap, h1, h2, h3, h4, h5, h6⟩ := h.ex
  have hok := h.ok
  have hr1 := hok.r1
  have hr2 := hok.r2
  have hx := hok.hx
  have hy := hok.hy
  have hc2 := hok.c2
  have i1 : (31 : Int) < (b.toNat : Int) := by omega
  have i2 : (b.toNat : Int) < 127 := by omega
  have HOk := Lib.hid hok
  have HD := Lib.hid h
  have H4 := Lib.hid h4
  have HP := Lib.hid h1
  obtain ⟨vs, hvs⟩ : ∃ vs, vs = s.rows.map S8 := ⟨_, rfl⟩
  have HVS := Lib.hid hvs
  have hvl : vs.length = s.rows.length := by rw [hvs, List.length_map]
  have HVL := Lib.hid hvl
  have HV1 := Lib.hid (show ∀ u ∈ vs, u.oneCell' = true from fun u hu => by rw [hvs] at hu; obtain ⟨y, _, rfl⟩ := List.mem_map.1 hu; rfl)
  have c0 : w.cell? ⟨p, 0, none⟩ = some (.int .i64 (s.c : Int)) := h1.cell 0
  have c1 : w.cell? ⟨p, 1, none⟩ = some (.int .i64 (s.x : Int)) := h1.cell 1
  have c2 : w.cell? ⟨p, 2, none⟩ = some (.int .i64 (s.y : Int)) := h1.cell 2
  have c3 : w.cell? ⟨p, 3, none⟩ = some (.slice (some ad) s.rows.length cap) := h1.cell 3
  have c4 : w.cell? (ad.add s.y) = some (.string ⟨r.toArray⟩) := by
    obtain ⟨ad', e, hc⟩ := h4.2 (by omega)
    injection e with e
    subst e
    exact hc s.y r hr
  have j1 : (s.y : Int) < (s.rows.length : Int) := by omega
  clear h h1 h4 hvs hvl hok e
  obtain ⟨x, hx0⟩ : ∃ x, x = s.x := ⟨_, rfl⟩
  obtain ⟨y, hy0⟩ : ∃ x, x = s.y := ⟨_, rfl⟩
  obtain ⟨c, hc0⟩ : ∃ x, x = s.c := ⟨_, rfl⟩
  obtain ⟨R, hR0⟩ : ∃ x, x = s.rows.length := ⟨_, rfl⟩
  have HQ := Lib.hid (And.intro hx0 (And.intro hy0 (And.intro hc0 hR0)))
  rw [← hx0] at c1 hx
  rw [← hy0] at c2 c4 j1 hy
  rw [← hc0] at c0 hx hrl hc2
  rw [← hR0] at c3 j1 hy hr1 hr2 HVL h2
  clear hx0 hy0 hc0 hR0
  have HM1 : Hid (x + 1 = c → ((x : Int) == (c : Int) - 1) = true) := fun h => beq_iff_eq.2 (by omega)
  have HM2 : Hid (¬ x + 1 = c → ((x : Int) == (c : Int) - 1) = false ∧ x + 1 < c) := fun h => ⟨beq_eq_false_iff_ne.2 (by omega), by omega⟩
  have HM3 : Hid (wrap64 ((x : Int) + 1) = (x : Int) + 1) := by
    show _ = _
    rw [show (x : Int) + 1 = ((x + 1 : Nat) : Int) from by omega, wrap64_nat _ (by omega)]
  go_enter Tryd.func12, Tryd.ntmps12
  go_wp2_with fail
  go_quiet (fail)
  obtain ⟨w4, hw4⟩ : ∃ w4, w4 = w.drewN nq := ⟨_, rfl⟩
  rw [← hw4]
  have HO4 : Hid (Only (fun _ => False) w w4) := by rw [hw4]; exact (Only.refl _ w).drewN nq
  have HP4 := Lib.hid (HP.out.only HO4.out (fun h => h))
  have hpb : p < w4.heap.size := HP4.out.lt
  have c3' : w4.cell? ⟨p, 3, none⟩ = some (.slice (some ad) R cap) := by have := HP4.out.cell 3; rw [← HQ.out.2.2.2] at this; exact this
  have K4 : Hid (∀ W2, Only (fun _ => False) w4 W2 → ∀ (j : Nat) (u : Value), vs[j]? = some u → W2.cell? (ad.add j) = some u) := fun W2 ho j u hj => by
    rw [HVS.out, List.getElem?_map] at hj
    cases hl : s.rows[j]? with
    | none => rw [hl] at hj; cases hj
    | some z =>
      rw [hl] at hj
      injection hj with hj
      subst hj
      obtain ⟨ad', e, hc⟩ := (H4.out.same (HO4.out.trans ho (fun _ h => h.elim))).2 (by have := HQ.out.2.2.2; omega)
      injection e with e
      subst e
      exact hc j z hl
  obtain ⟨i0, hi, hz1, h1, h2'⟩ := info1 info_str
  have HI := Lib.hid hi
  clear hw4 c3 c0 c1 c2 c4 hi
  go_wp2_with (first
    | ((with_reducible show wpList _ _ _ (⟨some 29, _, _, _, _, _⟩ :: _) _ _); refine step_append_own rfl (.tmp 24) (.tmp 28) 43 rfl w4.heap.size 9 i0 _ 1 16 Tryd.underlying43 HI.out hz1 h1 h2' rfl (by omega) _ 0 [] rfl (own_of_blk (cur := []) (Blk.new w4 _ []) rfl rfl (by omega) (by omega) (Nat.le_refl _)) (some ad) R cap vs rfl (by rw [HVL.out, Nat.mul_one]) (fun _ => ⟨_, rfl, K4.out _ ((Only.refl _ w4).alloc _)⟩) HV1.out (by omega) (by omega) (by simp) ?_; intro A1 k1 w5 _ _ hq)
    | fail)
  have hn5 := hq.out.1
  rw [Nat.zero_add, List.nil_append] at hn5
  have HO5 : Hid (Only (fun _ => False) w4 w5) := Only.grown ((Only.refl _ w4).alloc (.cells #[] 9)) hq.out.2.1 (fun k hk => .inr (by have e : w4.heap.size = k := Option.some.inj hk; omega))
  have HP5 := Lib.hid (HP4.out.only HO5.out (fun h => h))
  obtain ⟨g1, e1, hg1, hg1l, _⟩ := own_at hn5 (by omega)
  subst e1
  obtain ⟨cur, hcur, hcl, hct, hk1, hk2, _⟩ := own_blk hn5
  have HCu := Lib.hid (And.intro hcur (And.intro hcl (And.intro hct (And.intro hk1 hk2))))
  have hpl5 : p < w5.heap.size := HP5.out.lt
  have d1 : w5.cell? ⟨p, 1, none⟩ = some (.int .i64 (x : Int)) := by have := HP5.out.cell 1; rw [← HQ.out.1] at this; exact this
  have d2 : w5.cell? ⟨p, 2, none⟩ = some (.int .i64 (y : Int)) := by have := HP5.out.cell 2; rw [← HQ.out.2.1] at this; exact this
  obtain ⟨v, hv⟩ : ∃ v, w5.cell? ⟨g1, y, none⟩ = some v := ⟨_, by rw [hcur.cell]; exact List.getElem?_eq_getElem (by omega)⟩
  have hfz := hcur.frozen y
  have hz : (ByteArray.mk r.toArray).size = c := by rw [← hrl]; rfl
  have hsA := fun W => sum_texts (P := Tryd.prog) (w := W) (r.take x) [b] (r.take x ++ [b]) rfl (by rw [List.length_take]; simp; omega)
  have hsB := fun W => sum_texts (P := Tryd.prog) (w := W) (r.take x ++ [b]) (r.drop (x + 1)) (r.set x b) (text_set r x b (by omega)) (by rw [List.length_append, List.length_take, List.length_drop]; simp; omega)
  have hcA := str_take r x
  have hcB : (ByteArray.mk r.toArray).extract (x + 1) c = ⟨(r.drop (x + 1)).toArray⟩ := by rw [str_cut, List.take_of_length_le (by omega)]
  have hcv : (convert 34 9 (.slice (some ⟨w5.heap.size, 0, none⟩) 1 1)).run Tryd.prog (w5.alloc (.cells #[.int .u8 (b.toNat : Int)] 5)).drew = .ok (.string ⟨[b].toArray⟩) (w5.alloc (.cells #[.int .u8 (b.toNat : Int)] 5)).drew :=
    text_of (P := Tryd.prog) ((src_new w5 [b] _ 5 (0, 0) 1 rfl rfl).only ((Only.refl (fun _ => False) _).drew) (fun _ _ _ h => h)) 1 34 9 5 Tryd.underlying34 Tryd.underlying5 Tryd.underlying9
  have q0 : (x : Int) ≤ (c : Int) := by omega
  have q1 : (x : Int) < (c : Int) := by omega
  have q2 : (x : Int) + 1 ≤ (c : Int) := by omega
  have q3 : (y : Int) < (R : Int) := j1
  have q4 : IntKind.i64.wrap ((x : Int) + 1) = ((x + 1 : Nat) : Int) := by rw [IntWalk.i64_in _ (by omega)]; omega
  have q5 : ((x + 1 : Nat) : Int) ≤ (c : Int) := by omega
  have q6 : (0 : Int) ≤ (x : Int) + 1 := by omega
  clear hq hn5 hcur hcl hct hk1 hk2 HI hz1 h1 h2'
  have HP5x : Hid (Blk w5 p 45 [.int .i64 (s.c : Int), .int .i64 (x : Int), .int .i64 (y : Int), .slice (some ad) R cap]) := by
    have := HP5.out
    rw [← HQ.out.1, ← HQ.out.2.1, ← HQ.out.2.2.2] at this
    exact this
  have hgp : g1 ≠ p := HCu.out.1.ne HP5x.out (by decide)
  refine wp_region_noPanic ?_
  refine wp_region_held_drew (S := fun W => W.cell? ⟨p, 1, none⟩ = some (.int .i64 (x : Int)) ∧ W.cell? ⟨p, 2, none⟩ = some (.int .i64 (y : Int))) (by kernel_rfl) (⟨d1, d2⟩) (fun hHeld => ?_)
  refine wpAnyH_take (i := 0) (v := .slice (some ⟨g1, 0, none⟩) R k1) rfl (by kernel_rfl) (by kernel_rfl) (by kernel_rfl) (fun _ _ _ h => h) (Or.inl ⟨by rfl, fun W hSw => by (obtain ⟨s1, s2⟩ := hSw; first | (go_simp; done) | (go_simp; with_reducible rfl))⟩) hHeld ?_
  simp only [List.getElem_toArray, List.getElem_cons_zero, Act.put, List.setIfInBounds_toArray, List.set_cons_zero, List.set_cons_succ]
  refine wpAnyH_take (i := 1) (v := .pointer (some ⟨p, 0, none⟩)) rfl (by kernel_rfl) (by kernel_rfl) (by kernel_rfl) (fun _ _ _ h => h) (Or.inl ⟨by rfl, fun W hSw => by (obtain ⟨s1, s2⟩ := hSw; first | (go_simp; done) | (go_simp; with_reducible rfl))⟩) hHeld ?_
  simp only [List.getElem_toArray, List.getElem_cons_zero, List.getElem_cons_succ, Act.put, List.setIfInBounds_toArray, List.set_cons_zero, List.set_cons_succ]
  refine wpAnyH_take (i := 2) (v := .pointer (some ⟨p, 0, none⟩)) rfl (by kernel_rfl) (by kernel_rfl) (by kernel_rfl) (fun _ _ _ h => h) (Or.inl ⟨by rfl, fun W hSw => by (obtain ⟨s1, s2⟩ := hSw; first | (go_simp; done) | (go_simp; with_reducible rfl))⟩) hHeld ?_
  simp only [List.getElem_toArray, List.getElem_cons_zero, List.getElem_cons_succ, Act.put, List.setIfInBounds_toArray, List.set_cons_zero, List.set_cons_succ]
  refine wpAnyH_take (i := 3) (v := .pointer (some ⟨p, 2, none⟩)) rfl (by kernel_rfl) (by kernel_rfl) (by kernel_rfl) (fun _ _ _ h => h) (Or.inl ⟨by rfl, fun W hSw => by (obtain ⟨s1, s2⟩ := hSw; first | (go_simp; done) | (go_simp; with_reducible rfl))⟩) hHeld ?_
  simp only [List.getElem_toArray, List.getElem_cons_zero, List.getElem_cons_succ, Act.put, List.setIfInBounds_toArray, List.set_cons_zero, List.set_cons_succ]
  refine wpAnyH_take (i := 4) (v := .int .i64 (y : Int)) rfl (by kernel_rfl) (by kernel_rfl) (by kernel_rfl) (fun _ _ _ h => h) (Or.inl ⟨by rfl, fun W hSw => by (obtain ⟨s1, s2⟩ := hSw; first | (go_simp; done) | (go_simp; with_reducible rfl))⟩) hHeld ?_
  simp only [List.getElem_toArray, List.getElem_cons_zero, List.getElem_cons_succ, Act.put, List.setIfInBounds_toArray, List.set_cons_zero, List.set_cons_succ]
  refine wpAnyH_take (i := 5) (v := .string ⟨r.toArray⟩) rfl (by kernel_rfl) (by kernel_rfl) (by kernel_rfl) (fun _ _ _ h => h) (Or.inl ⟨by rfl, fun W hSw => by (obtain ⟨s1, s2⟩ := hSw; first | (go_simp; done) | (go_simp; with_reducible rfl))⟩) hHeld ?_
  simp only [List.getElem_toArray, List.getElem_cons_zero, List.getElem_cons_succ, Act.put, List.setIfInBounds_toArray, List.set_cons_zero, List.set_cons_succ]
  refine wpAnyH_take (i := 6) (v := .pointer (some ⟨p, 0, none⟩)) rfl (by kernel_rfl) (by kernel_rfl) (by kernel_rfl) (fun _ _ _ h => h) (Or.inl ⟨by rfl, fun W hSw => by (obtain ⟨s1, s2⟩ := hSw; first | (go_simp; done) | (go_simp; with_reducible rfl))⟩) hHeld ?_
  simp only [List.getElem_toArray, List.getElem_cons_zero, List.getElem_cons_succ, Act.put, List.setIfInBounds_toArray, List.set_cons_zero, List.set_cons_succ]
  refine wpAnyH_take (i := 7) (v := .pointer (some ⟨p, 0, none⟩)) rfl (by kernel_rfl) (by kernel_rfl) (by kernel_rfl) (fun _ _ _ h => h) (Or.inl ⟨by rfl, fun W hSw => by (obtain ⟨s1, s2⟩ := hSw; first | (go_simp; done) | (go_simp; with_reducible rfl))⟩) hHeld ?_
  simp only [List.getElem_toArray, List.getElem_cons_zero, List.getElem_cons_succ, Act.put, List.setIfInBounds_toArray, List.set_cons_zero, List.set_cons_succ]
  refine wpAnyH_take (i := 8) (v := .pointer (some ⟨p, 1, none⟩)) rfl (by kernel_rfl) (by kernel_rfl) (by kernel_rfl) (fun _ _ _ h => h) (Or.inl ⟨by rfl, fun W hSw => by (obtain ⟨s1, s2⟩ := hSw; first | (go_simp; done) | (go_simp; with_reducible rfl))⟩) hHeld ?_
  simp only [List.getElem_toArray, List.getElem_cons_zero, List.getElem_cons_succ, Act.put, List.setIfInBounds_toArray, List.set_cons_zero, List.set_cons_succ]
  refine wpAnyH_take (i := 9) (v := .int .i64 (x : Int)) rfl (by kernel_rfl) (by kernel_rfl) (by kernel_rfl) (fun _ _ _ h => h) (Or.inl ⟨by rfl, fun W hSw => by (obtain ⟨s1, s2⟩ := hSw; first | (go_simp; done) | (go_simp; with_reducible rfl))⟩) hHeld ?_
  simp only [List.getElem_toArray, List.getElem_cons_zero, List.getElem_cons_succ, Act.put, List.setIfInBounds_toArray, List.set_cons_zero, List.set_cons_succ]
  refine wpAnyH_take (i := 10) (v := .string ⟨(r.take x).toArray⟩) rfl (by kernel_rfl) (by kernel_rfl) (by kernel_rfl) (fun _ _ _ h => h) (Or.inl ⟨by rfl, fun W hSw => by (obtain ⟨s1, s2⟩ := hSw; first | (go_simp; done) | (go_simp; with_reducible rfl))⟩) hHeld ?_
  simp only [List.getElem_toArray, List.getElem_cons_zero, List.getElem_cons_succ, Act.put, List.setIfInBounds_toArray, List.set_cons_zero, List.set_cons_succ]
  refine wpAnyH_take (i := 11) (v := .int .u8 (b.toNat : Int)) rfl (by kernel_rfl) (by kernel_rfl) (by kernel_rfl) (fun _ _ _ h => h) (Or.inl ⟨by rfl, fun W hSw => by (obtain ⟨s1, s2⟩ := hSw; first | (go_simp; done) | (go_simp; with_reducible rfl))⟩) hHeld ?_
  simp only [List.getElem_toArray, List.getElem_cons_zero, List.getElem_cons_succ, Act.put, List.setIfInBounds_toArray, List.set_cons_zero, List.set_cons_succ]
  refine wpAnyH_take (i := 15) (v := .string ⟨r.toArray⟩) rfl (by kernel_rfl) (by kernel_rfl) (by kernel_rfl) (fun _ _ _ h => h) (Or.inl ⟨by rfl, fun W hSw => by (obtain ⟨s1, s2⟩ := hSw; first | (go_simp; done) | (go_simp; with_reducible rfl))⟩) hHeld ?_
  simp only [List.getElem_toArray, List.getElem_cons_zero, List.getElem_cons_succ, Act.put, List.setIfInBounds_toArray, List.set_cons_zero, List.set_cons_succ]
  refine wpAnyH_take (i := 16) (v := .pointer (some ⟨p, 0, none⟩)) rfl (by kernel_rfl) (by kernel_rfl) (by kernel_rfl) (fun _ _ _ h => h) (Or.inl ⟨by rfl, fun W hSw => by (obtain ⟨s1, s2⟩ := hSw; first | (go_simp; done) | (go_simp; with_reducible rfl))⟩) hHeld ?_
  simp only [List.getElem_toArray, List.getElem_cons_zero, List.getElem_cons_succ, Act.put, List.setIfInBounds_toArray, List.set_cons_zero, List.set_cons_succ]
  refine wpAnyH_take (i := 17) (v := .pointer (some ⟨p, 0, none⟩)) rfl (by kernel_rfl) (by kernel_rfl) (by kernel_rfl) (fun _ _ _ h => h) (Or.inl ⟨by rfl, fun W hSw => by (obtain ⟨s1, s2⟩ := hSw; first | (go_simp; done) | (go_simp; with_reducible rfl))⟩) hHeld ?_
  simp only [List.getElem_toArray, List.getElem_cons_zero, List.getElem_cons_succ, Act.put, List.setIfInBounds_toArray, List.set_cons_zero, List.set_cons_succ]
  refine wpAnyH_take (i := 18) (v := .pointer (some ⟨p, 1, none⟩)) rfl (by kernel_rfl) (by kernel_rfl) (by kernel_rfl) (fun _ _ _ h => h) (Or.inl ⟨by rfl, fun W hSw => by (obtain ⟨s1, s2⟩ := hSw; first | (go_simp; done) | (go_simp; with_reducible rfl))⟩) hHeld ?_
  simp only [List.getElem_toArray, List.getElem_cons_zero, List.getElem_cons_succ, Act.put, List.setIfInBounds_toArray, List.set_cons_zero, List.set_cons_succ]
  refine wpAnyH_take (i := 19) (v := .int .i64 (x : Int)) rfl (by kernel_rfl) (by kernel_rfl) (by kernel_rfl) (fun _ _ _ h => h) (Or.inl ⟨by rfl, fun W hSw => by (obtain ⟨s1, s2⟩ := hSw; first | (go_simp; done) | (go_simp; with_reducible rfl))⟩) hHeld ?_
  simp only [List.getElem_toArray, List.getElem_cons_zero, List.getElem_cons_succ, Act.put, List.setIfInBounds_toArray, List.set_cons_zero, List.set_cons_succ]
  refine wpAnyH_take (i := 20) (v := .int .i64 ((x : Int) + 1)) rfl (by kernel_rfl) (by kernel_rfl) (by kernel_rfl) (fun _ _ _ h => h) (Or.inl ⟨by rfl, fun W hSw => by (obtain ⟨s1, s2⟩ := hSw; first | (go_simp; done) | (go_simp; with_reducible rfl))⟩) hHeld ?_
  simp only [List.getElem_toArray, List.getElem_cons_zero, List.getElem_cons_succ, Act.put, List.setIfInBounds_toArray, List.set_cons_zero, List.set_cons_succ]
  refine wpAnyH_take (i := 21) (v := .string ⟨(r.drop (x + 1)).toArray⟩) rfl (by kernel_rfl) (by kernel_rfl) (by kernel_rfl) (fun _ _ _ h => h) (Or.inl ⟨by rfl, fun W hSw => by (obtain ⟨s1, s2⟩ := hSw; first | (go_simp; done) | (go_simp; with_reducible rfl))⟩) hHeld ?_
  simp only [List.getElem_toArray, List.getElem_cons_zero, List.getElem_cons_succ, Act.put, List.setIfInBounds_toArray, List.set_cons_zero, List.set_cons_succ]
  refine wpAnyH_ready (rs := [12]) (by kernel_rfl) (by simp) ?_
  refine AllReadyH.cons rfl (fun K hK => ?_) AllReadyH.nil
  go_simp
  refine hK.out _ _ (⟨(HP5x.out.alloc _).cell 1, (HP5x.out.alloc _).cell 2⟩) (fun hHeld => ?_)
  clear hK K
  refine wpAnyH_ready (rs := [13]) (by kernel_rfl) (by simp) ?_
  refine AllReadyH.cons rfl (fun K hK => ?_) AllReadyH.nil
  go_simp
  refine hK.out _ _ (⟨(HP5x.out.alloc _).cell 1, (HP5x.out.alloc _).cell 2⟩) (fun hHeld => ?_)
  clear hK K
  refine wpAnyH_take (i := 14) (v := .string ⟨(r.take x ++ [b]).toArray⟩) rfl (by kernel_rfl) (by kernel_rfl) (by kernel_rfl) (fun _ _ _ h => h) (Or.inl ⟨by rfl, fun W hSw => by (obtain ⟨s1, s2⟩ := hSw; first | (go_simp; done) | (go_simp; with_reducible rfl))⟩) hHeld ?_
  simp only [List.getElem_toArray, List.getElem_cons_zero, List.getElem_cons_succ, Act.put, List.setIfInBounds_toArray, List.set_cons_zero, List.set_cons_succ]
  refine wpAnyH_take (i := 22) (v := .string ⟨(r.set x b).toArray⟩) rfl (by kernel_rfl) (by kernel_rfl) (by kernel_rfl) (fun _ _ _ h => h) (Or.inl ⟨by rfl, fun W hSw => by (obtain ⟨s1, s2⟩ := hSw; first | (go_simp; done) | (go_simp; with_reducible rfl))⟩) hHeld ?_
  simp only [List.getElem_toArray, List.getElem_cons_zero, List.getElem_cons_succ, Act.put, List.setIfInBounds_toArray, List.set_cons_zero, List.set_cons_succ]
  refine wpAnyH_take (i := 23) (v := .pointer (some ⟨g1, y, none⟩)) rfl (by kernel_rfl) (by kernel_rfl) (by kernel_rfl) (fun _ _ _ h => h) (Or.inl ⟨by rfl, fun W hSw => by (obtain ⟨s1, s2⟩ := hSw; first | (go_simp; done) | (go_simp; with_reducible rfl))⟩) hHeld ?_
  simp only [List.getElem_toArray, List.getElem_cons_zero, List.getElem_cons_succ, Act.put, List.setIfInBounds_toArray, List.set_cons_zero, List.set_cons_succ]
  refine wpAnyH_ready (rs := [24]) (by kernel_rfl) (by simp) ?_
  refine AllReadyH.cons rfl (fun K hK => ?_) AllReadyH.nil
  go_simp
  refine hK.out _ _ (⟨((HP5x.out.far (p := ⟨g1, y, none⟩) hgp.symm _).alloc _).cell 1, ((HP5x.out.far (p := ⟨g1, y, none⟩) hgp.symm _).alloc _).cell 2⟩) (fun hHeld => ?_)
  clear hK K
  refine wpAnyH_done (by kernel_rfl) (NoPanic.normal ?_) _
  have k3 : ((w5.setCell ⟨g1, y, none⟩ (.string ⟨(r.set x b).toArray⟩)).alloc (.cells #[.int .u8 (b.toNat : Int)] 5)).cell? ⟨p, 3, none⟩ = some (.slice (some ad) R cap) := ((HP5x.out.far (p := ⟨g1, y, none⟩) hgp.symm _).alloc _).cell 3
  have k3' : (w5.setCell ⟨g1, y, none⟩ (.string ⟨(r.set x b).toArray⟩)).cell? ⟨p, 3, none⟩ = some (.slice (some ad) R cap) := (HP5x.out.far (p := ⟨g1, y, none⟩) hgp.symm _).cell 3
  have kf3 : ((w5.setCell ⟨g1, y, none⟩ (.string ⟨(r.set x b).toArray⟩)).alloc (.cells #[.int .u8 (b.toNat : Int)] 5)).frozen? ⟨p, 3, none⟩ = false := ((HP5x.out.far (p := ⟨g1, y, none⟩) hgp.symm _).alloc _).frozen 3
  have kf3' : (w5.setCell ⟨g1, y, none⟩ (.string ⟨(r.set x b).toArray⟩)).frozen? ⟨p, 3, none⟩ = false := (HP5x.out.far (p := ⟨g1, y, none⟩) hgp.symm _).frozen 3
  go_wp2
  obtain ⟨W8, hW8⟩ : ∃ W8, W8 = (((w5.setCell ⟨g1, y, none⟩ (.string ⟨(r.set x b).toArray⟩)).setCell ⟨p, 3, none⟩ (.slice (some ⟨g1, 0, none⟩) R k1)).alloc (.cells #[.int .u8 (b.toNat : Int)] 5)).drew := ⟨_, rfl⟩
  rw [← hW8]
  have hO8 : Only (· = p) w W8 := by
    have h1 : Only (fun k => k = g1 ∨ k = p) w5 W8 := by
      rw [hW8]
      exact ((((Only.refl _ w5).setCell (p := ⟨g1, y, none⟩) (.inl (.inl rfl)) _).setCell (p := ⟨p, 3, none⟩) (.inl (.inr rfl)) _).alloc _).drew
    refine ((HO4.out.trans HO5.out (fun _ h => h.elim)).mono (fun _ h => h.elim)).trans h1 (fun i hi => ?_)
    rcases hi with rfl | rfl
    · exact .inr (Nat.le_trans HO4.out.size hg1)
    · exact .inl rfl
  have hB8 : Blk W8 p 45 [.int .i64 (s.c : Int), .int .i64 (x : Int), .int .i64 (y : Int), .slice (some ⟨g1, 0, none⟩) R k1] := by
    rw [hW8]
    exact (((HP5x.out.far (p := ⟨g1, y, none⟩) hgp.symm _).setCell 3 _).alloc _).drew
  have hg8 : Blk W8 g1 9 (cur.set y (S8 (r.set x b))) := by
    rw [hW8]
    exact (((HCu.out.1.setCell y _).far (p := ⟨p, 3, none⟩) hgp _).alloc _).drew
  have hMark : DGoes p G (s.mark b) w W8 := by
    obtain ⟨e1, e2, e3, e4⟩ := HQ.out
    obtain ⟨_, hcl, hct, hk1, hk2⟩ := HCu.out
    have hlen : (s.mark b).rows.length = R := by rw [e4]; exact List.length_set
    have hrw : (s.mark b).rows = s.rows.set y (r.set x b) := by
      show s.rows.set s.y ((s.rows.getD s.y []).set s.x b) = _
      rw [hgd, ← e1, ← e2]
    refine DGoes.mk (HOk.out.mark b) hO8 HD.out.gp (ad := ⟨g1, 0, none⟩) (cap := k1) ?_ (by rw [hlen]; exact hk1) hk2 ?_ (.inr (Nat.le_trans HO4.out.size hg1)) hgp
    · rw [hlen]
      have := hB8
      rw [e1, e2] at this
      exact this
    · rw [hlen, hrw]
      refine TSrc.of_blk hg8 (by rw [List.length_set, ← e4]) fun j z hj => ?_
      rw [List.getElem?_set] at hj ⊢
      by_cases hjy : y = j
      · subst hjy
        rw [if_pos rfl, if_pos (by rw [← e4]; exact hy)] at hj
        rw [if_pos rfl, if_pos (by omega)]
        injection hj with hj
        rw [hj]
      · rw [if_neg hjy] at hj ⊢
        have hjR : j < R := by rw [e4]; exact (List.getElem?_eq_some_iff.1 hj).1
        have h9 : (cur.take R)[j]? = some (S8 z) := by
          have h10 : cur.take (R * 1) = vs := hct
          rw [Nat.mul_one] at h10
          rw [h10, HVS.out, List.getElem?_map, hj]
          rfl
        rw [List.getElem?_take, if_pos hjR] at h9
        exact h9
  have HMk := Lib.hid hMark
  have hStep : (s.mark b).step = if x + 1 < c then ⟨(s.mark b).c, x + 1, (s.mark b).y, (s.mark b).rows⟩ else (⟨(s.mark b).c, 0, (s.mark b).y, (s.mark b).rows⟩ : Sc).next := by
    rw [HQ.out.1, HQ.out.2.2.1]
    rfl
  have HStp := Lib.hid hStep
  obtain ⟨G8, h8, o8, g8⟩ := hMark
  obtain ⟨A8, cap8, b0, b1, b2, b3, f1, f2, f3, hp8⟩ := h8.cells
  have a0 : W8.cell? ⟨p, 0, none⟩ = some (.int .i64 (c : Int)) := by rw [HQ.out.2.2.1]; exact b0
  have a1 : W8.cell? ⟨p, 1, none⟩ = some (.int .i64 (x : Int)) := by rw [HQ.out.1]; exact b1
  have HNext : Hid (∀ N, x + 1 = c → Calls Tryd.prog 27 #[.pointer (some ⟨p, 0, none⟩)] ((W8.drewN N).setCell ⟨p, 1, none⟩ (.int .i64 0)) fun e w' => e = .returned (.tuple #[]) ∧ Hid (DGoes p G (s.mark b).step w w')) := fun N hN => by
    have hxy := h8.xy (w' := (W8.drewN N).setCell ⟨p, 1, none⟩ (.int .i64 0)) 0 (s.mark b).y h8.ok.c1 h8.ok.hy (((Only.refl (· = p) W8).drewN N).setCell (p := ⟨p, 1, none⟩) (.inl rfl) _) (fun hb => (hb.drewN N).setCell 1 _)
    obtain ⟨G9, h9, h9o, h9g⟩ := hxy
    refine (rnext_any h9).mono fun e w' ⟨e1, e2⟩ => ⟨e1, ?_⟩
    rw [HStp.out, if_neg (by omega)]
    exact (e2.out.cons h9o h9g).cons o8 g8
  have HRight : Hid (∀ N, x + 1 < c → DGoes p G (s.mark b).step w ((W8.drewN N).setCell ⟨p, 1, none⟩ (.int .i64 ((x : Int) + 1)))) := fun N hN => by
    rw [HStp.out, if_pos hN]
    exact HMk.out.trans fun G' hG' => hG'.xy (x + 1) (s.mark b).y (by rw [HQ.out.2.2.1] at hN; exact hN) hG'.ok.hy (((Only.refl (· = p) W8).drewN N).setCell (p := ⟨p, 1, none⟩) (.inl rfl) _) (fun hb => by
      rw [show ((x + 1 : Nat) : Int) = (x : Int) + 1 from by omega]
      exact (hb.drewN N).setCell 1 _)
  clear h8 o8 g8 hB8 hg8 hO8 HMk hStep HStp hW8 hcv hsA hsB hcA hcB k3 k3' kf3 kf3' d1 d2 hv hfz hHeld HP5 HP5x HCu HO5 HO4 HP4 HP HD H4 K4 HVS HVL HV1 b0 b1 b2 b3 f2 f3
  by_cases hxc : x + 1 = c
  · have m1 := HM1.out hxc
    have HNx := Lib.hid (fun N => HNext.out N hxc)
    clear HNext HRight
    go_quiet (fail)
    go_wp2_with (go_at_call 27; (with_reducible refine (HNx.out _).mono ?_); rintro e w9 ⟨rfl, hgo⟩)
    refine bodyPost_end (results_none rfl _ _ _) rfl ?_
    exact ⟨rfl, hgo⟩
  · have m1 := (HM2.out hxc).1
    have m2 := HM3.out
    have HRt := Lib.hid (fun N => HRight.out N (HM2.out hxc).2)
    clear HNext HRight
    go_quiet (fail)
    go_wp2
    refine bodyPost_end (results_none rfl _ _ _) rfl ?_
    exact ⟨rfl, HRt.out _⟩
theorem rput_any (h : DAt w p G s) (b : UInt8) :
    Calls Tryd.prog 12 #[.pointer (some ⟨p, 0, none⟩), .int .u8 (b.toNat : Int)] w fun e w' => e = .returned (.tuple #[]) ∧ Hid (DGoes p G (s.put b) w w') := by
  by_cases h0 : 32 ≤ b.toNat ∧ b.toNat ≤ 126
  · exact rput_shown h h0.1 h0.2
  by_cases h1 : b.toNat = 8
  · exact rput_left h h1
  by_cases h2 : b.toNat = 9
  · exact rput_tab h h2
  by_cases h3 : b.toNat = 10
  · exact rput_next h h3
  by_cases h4 : b.toNat = 13
  · exact rput_front h h4
  by_cases h5 : b.toNat = 12
  · exact rput_clear h h5
  exact rput_else h h0 h1 h2 h3 h4 h5
end
end Go.Proofs.YtgknhojjnnljkaaDoor
