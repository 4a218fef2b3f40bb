/- The document: another size. -/
import Derived.Test.YtgknhojjnnljkaaDoorCeRefN
import Derived.Deep.RegionHeld3
namespace Go.Proofs.YtgknhojjnnljkaaDoor
open Go Go.RowKit
set_option maxRecDepth 100000
set_option maxHeartbeats 4000000

section
variable {w : World} {G : Nat → Prop} {p : Nat} {s : Sc}
theorem rresize_bad (w : World) (p : Nat) (c r : Int) (h : fitsS c r = false) : Calls Tryd.prog 15 #[.pointer (some ⟨p, 0, none⟩), .int .i64 c, .int .i64 r] w fun e w' => e = .returned (.int .i64 1) ∧ w' = w := by
  have HN := Lib.hid (rnew_bad (w := w) c r h)
  clear h
  go_enter Tryd.func15, Tryd.ntmps15
  go_wp2_with (go_at_call 8; (with_reducible refine HN.out.mono ?_); rintro e w' ⟨rfl, e2⟩; subst w')
  go_ret
  exact ⟨rfl, rfl⟩
theorem map_set8 (l : List (List UInt8)) (rest : List Value) (k : Nat) (z : List UInt8) (h : k < l.length) : (l.map S8 ++ rest).set k (S8 z) = (l.set k z).map S8 ++ rest := by
  rw [List.set_append_left _ _ (by rw [List.length_map]; exact h), List.map_set]
theorem cutRows_len (rows : List (List UInt8)) (c R k : Nat) (h : k ≤ rows.length) (hk : k ≤ R) : (cutRows rows c R k).length = R := by
  unfold cutRows
  rw [List.length_append, List.length_map, List.length_take, List.length_replicate]; omega
theorem rresize_ok (h : DAt w p G s) {c R : Nat} (hc1 : 1 ≤ c) (hc2 : c ≤ 60) (hR1 : 1 ≤ R) (hR2 : R ≤ 60) :
    Calls Tryd.prog 15 #[.pointer (some ⟨p, 0, none⟩), .int .i64 (c : Int), .int .i64 (R : Int)] w fun e w' => e = .returned (.int .i64 0) ∧ Hid (DGoes p G (s.size c R) w w') := by
  have HN := Lib.hid (rnew_ok (w := w) hc1 hc2 hR1 hR2)
  have HBl := Lib.hid (fun W => blanks_any (show c ≤ 200 by omega) W)
  obtain ⟨ad, cap, h1, h2, h3, h4, h5, h6⟩ := h.ex
  have HP := Lib.hid h1
  have H4 := Lib.hid h4
  have hadl : ad.block < w.heap.size := h.lt _ h5
  have hpl := h1.lt
  have Hok := Lib.hid (h.ok.size hc1 hc2 hR1 hR2)
  have Hgp := Lib.hid h.gp
  have Hhr := Lib.hid h.ok.hr
  have hr2 := h.ok.r2
  have hsx : s.x < 60 := by have := h.ok.hx; have := h.ok.c2; omega
  have hsy : s.y < 60 := by have := h.ok.hy; omega
  have hsc := h.ok.c2
  obtain ⟨M, hM⟩ : ∃ M, M = s.rows.length := ⟨_, rfl⟩
  have HM := Lib.hid hM
  rw [← hM] at hr2 h2
  clear h h1 h4 h5 h6 hM
  go_enter Tryd.func15, Tryd.ntmps15
  go_wp2_with (go_at_call 8; (with_reducible refine HN.out.mono ?_); rintro e w1 ⟨p2, g, cap2, rfl, hp2, hb1, hn1, ho1⟩)
  obtain ⟨cur, hcur, hcl, hct, hk1, hk2, hgw⟩ := own_blk hn1.out
  have hgp2 : g ≠ p2 := hcur.ne hb1.out (by decide)
  have HI : Hid (R ≤ cap2 ∧ cap2 ≤ 9223372036854775807 ∧ w.heap.size ≤ g ∧ w.heap.size ≤ p2 ∧ g ≠ p2) := ⟨hk1, hk2, hgw, hp2, hgp2⟩
  have HC1 : Hid (∃ rest, Blk w1 g 9 ((cutRows s.rows c R 0).map S8 ++ rest)) := ⟨cur.drop R, by
    rw [cut_zero]
    have e : cur = (List.replicate R (blank c)).map S8 ++ cur.drop R := by
      have h9 : cur.take (R * 1) = bvs c R := hct
      rw [Nat.mul_one] at h9
      have := List.take_append_drop R cur
      rw [h9] at this
      exact this.symm
    rw [← e]
    exact hcur⟩
  have HB1 := hb1
  have HO1 := ho1
  clear hn1 hcur hcl hct hk1 hk2 hgw hp2 hgp2 hb1 ho1 HN
  go_loopw [9] (fun i W => ∃ k : Nat, k ≤ M ∧ k ≤ R ∧ i = .int .i64 (k : Int) ∧ Hid (Blk W p2 45 [.int .i64 (c : Int), .int .i64 0, .int .i64 0, .slice (some ⟨g, 0, none⟩) R cap2]) ∧ Hid (∃ rest, Blk W g 9 ((cutRows s.rows c R k).map S8 ++ rest)) ∧ Hid (Only (fun _ => False) w W)) (fun i _ => R - (intOf i).toNat)
  case atStart => exact ⟨0, Nat.zero_le _, Nat.zero_le _, rfl, HB1, HC1, HO1⟩
  case round =>
    clear HB1 HC1 HO1
    obtain ⟨k, hkM, hkR, rfl, HB, HC, HO⟩ := hrel
    have a3 : wr.cell? ⟨p, 3, none⟩ = some (.slice (some ad) M cap) := by
      have := (HP.out.only HO.out (fun h => h)).cell 3
      rw [← HM.out] at this
      exact this
    by_cases hin : k < R ∧ k < M
    · obtain ⟨hlt1, hlt2⟩ := hin
      have i1 : (k : Int) < (R : Int) := by omega
      focus
        have i2 : (k : Int) < (M : Int) := by omega
        obtain ⟨r, hr⟩ : ∃ r, s.rows[k]? = some r := ⟨_, List.getElem?_eq_getElem (by have := HM.out; omega)⟩
        have a4 : wr.cell? (ad.add k) = some (.string ⟨r.toArray⟩) := by
          obtain ⟨ad', e, hc⟩ := (H4.out.same HO.out).2 (by have := HM.out; omega)
          injection e with e
          subst e
          exact hc k r hr
        have hrl : r.length = s.c := Hhr.out r (List.mem_of_getElem? hr)
        have b3 : wr.cell? ⟨p2, 3, none⟩ = some (.slice (some ⟨g, 0, none⟩) R cap2) := HB.out.cell 3
        obtain ⟨rest, hbc⟩ := HC.out
        have hlen := cutRows_len s.rows c R k (by have := HM.out; omega) hkR
        obtain ⟨v, hv⟩ : ∃ v, wr.cell? ⟨g, k, none⟩ = some v := ⟨_, by rw [hbc.cell]; exact List.getElem?_eq_getElem (by rw [List.length_append, List.length_map, hlen]; omega)⟩
        have hfz := hbc.frozen k
        have HBc := Lib.hid hbc
        have HSt := Lib.hid (And.intro hr hlen)
        have hsum := fun W => sum_texts (P := Tryd.prog) (w := W) r (blank c) (r ++ blank c) rfl (by rw [blank_len]; omega)
        have hz : (ByteArray.mk (r ++ blank c).toArray).size = r.length + c := by show (r ++ blank c).length = _; rw [List.length_append, blank_len]
        have hcut : (ByteArray.mk (r ++ blank c).toArray).extract 0 c = ⟨(cutTo c r).toArray⟩ := str_take _ _
        have i3 : (c : Int) ≤ ((r.length + c : Nat) : Int) := by omega
        have i4 : (c : Int) ≤ (r.length : Int) + (c : Int) := by omega
        have hgp : g ≠ p := by have := HI.out.2.2.1; omega
        have hgad : g ≠ ad.block := by have := HI.out.2.2.1; omega
        clear hr hrl hbc hlen
        obtain ⟨ct, hct⟩ : ∃ ct, ct = cutTo c r := ⟨_, rfl⟩
        rw [← hct] at hcut
        have HCt := Lib.hid hct
        clear hct
        have HSet : Hid (Only (· = g) wr (wr.setCell ⟨g, k, none⟩ (.string ⟨ct.toArray⟩)).drew) := ((Only.refl (· = g) wr).setCell (p := ⟨g, k, none⟩) (.inl rfl) _).drew
        have HNe : Hid (p2 ≠ g ∧ p ≠ g ∧ (ad.add k).block ≠ g) := ⟨HI.out.2.2.2.2.symm, hgp.symm, by rw [block_add]; exact hgad.symm⟩
        go_wp2
        go_region_held3 (fun W => W.cell? ⟨p2, 3, none⟩ = some (.slice (some ⟨g, 0, none⟩) R cap2) ∧ W.cell? ⟨p, 3, none⟩ = some (.slice (some ad) M cap) ∧ W.cell? (ad.add k) = some (.string ⟨r.toArray⟩))
          (first | exact ⟨b3, a3, a4⟩ | exact ⟨HSet.out.cellv b3 HNe.out.1, HSet.out.cellv a3 HNe.out.2.1, HSet.out.cellv a4 HNe.out.2.2⟩)
          (first
            | (go_at_call 31; (with_reducible refine (HBl.out _).mono ?_); rintro e w' ⟨rfl, e2⟩; subst w'))
        go_wp2
        go_roundw
        case rel =>
          obtain ⟨hr, hlen⟩ := HSt.out
          refine ⟨k + 1, by omega, by omega, by go_num, HB.out.only HSet.out HNe.out.1, ⟨rest, ?_⟩, HO.out.trans HSet.out (fun i hi => .inr (by have := HI.out.2.2.1; omega))⟩
          have h9 := (HBc.out.setCell k (S8 ct)).drew
          rw [map_set8 _ _ _ _ (by rw [hlen]; omega), HCt.out, cut_step hr hlt1] at h9
          rw [HCt.out]
          exact h9
        case measure => simp [intOf]; omega
    · have HX : Hid (k = min s.rows.length R) := by show k = _; rw [← HM.out]; omega
      have x1 : wr.cell? ⟨p, 1, none⟩ = some (.int .i64 (s.x : Int)) := (HP.out.only HO.out (fun h => h)).cell 1
      have x2 : wr.cell? ⟨p, 2, none⟩ = some (.int .i64 (s.y : Int)) := (HP.out.only HO.out (fun h => h)).cell 2
      have hne : p ≠ p2 := by have := HI.out.2.2.2.1; omega
      have KP : Hid (∀ W, Only (· = p2) wr W → W.cell? ⟨p, 1, none⟩ = some (.int .i64 (s.x : Int)) ∧ W.cell? ⟨p, 2, none⟩ = some (.int .i64 (s.y : Int))) := fun W ho => ⟨ho.cellv x1 hne, ho.cellv x2 hne⟩
      have b1 : wr.cell? ⟨p2, 1, none⟩ = some (.int .i64 0) := HB.out.cell 1
      have bf1 := HB.out.frozen 1
      have b2 : ∀ v, (wr.setCell ⟨p2, 1, none⟩ v).cell? ⟨p2, 2, none⟩ = some (.int .i64 0) := fun v => (HB.out.setCell 1 v).cell 2
      have bf2 : ∀ v, (wr.setCell ⟨p2, 1, none⟩ v).frozen? ⟨p2, 2, none⟩ = false := fun v => (HB.out.setCell 1 v).frozen 2
      have hw1 : IntKind.i64.wrap ((c : Int) - 1) = (c : Int) - 1 := IntWalk.i64_in _ (by omega)
      have hw2 : IntKind.i64.wrap ((R : Int) - 1) = (R : Int) - 1 := IntWalk.i64_in _ (by omega)
      have hor : ¬ k < R ∨ (k < R ∧ ¬ k < M) := by omega
      rcases hor with hq | ⟨hq1, hq2⟩
      focus
        have i1 : ¬ (k : Int) < (R : Int) := by omega
        clear hin hq
        go_wp2
      rotate_left
      focus
        have i1 : (k : Int) < (R : Int) := by omega
        have i2 : ¬ (k : Int) < (M : Int) := by omega
        clear hin hq1 hq2
        go_wp2
      all_goals
        go_region_held3 (fun W => W.cell? ⟨p, 1, none⟩ = some (.int .i64 (s.x : Int)) ∧ W.cell? ⟨p, 2, none⟩ = some (.int .i64 (s.y : Int)))
          (first | exact ⟨x1, x2⟩ | exact KP.out _ (((Only.refl (· = p2) wr).setCell (p := ⟨p2, 1, none⟩) (.inl rfl) _).drew) | exact KP.out _ ((((Only.refl (· = p2) wr).setCell (p := ⟨p2, 1, none⟩) (.inl rfl) _).setCell (p := ⟨p2, 2, none⟩) (.inl rfl) _).drew))
          (fail)
      all_goals
        obtain ⟨W8, hW8⟩ : ∃ W8, W8 = ((wr.setCell ⟨p2, 1, none⟩ (.int .i64 (min (s.x : Int) ((c : Int) - 1)))).setCell ⟨p2, 2, none⟩ (.int .i64 (min (s.y : Int) ((R : Int) - 1)))).drew := ⟨_, rfl⟩
        rw [← hW8]
        have hB8 : Hid (Blk W8 p2 45 [.int .i64 (c : Int), .int .i64 (min (s.x : Int) ((c : Int) - 1)), .int .i64 (min (s.y : Int) ((R : Int) - 1)), .slice (some ⟨g, 0, none⟩) R cap2]) := by
          rw [hW8]; exact ((HB.out.setCell 1 _).setCell 2 _).drew
        have hO8 : Hid (Only (· = p2) wr W8) := by
          rw [hW8]; exact ((((Only.refl (· = p2) wr).setCell (p := ⟨p2, 1, none⟩) (.inl rfl) _).setCell (p := ⟨p2, 2, none⟩) (.inl rfl) _).drew)
        have hP8 := Lib.hid ((HP.out.only HO.out (fun h => h)).only hO8.out hne)
        clear hW8
        go_wp2_with (first
          | ((with_reducible show wpList _ _ _ (⟨some 74, _, _, _, _, _⟩ :: _) _ _); refine wpList_load_mid rfl 45 (.tmp 73) rfl p2 0 rfl [.int .i64 (c : Int), .int .i64 (min (s.x : Int) ((c : Int) - 1)), .int .i64 (min (s.y : Int) ((R : Int) - 1)), .slice (some ⟨g, 0, none⟩) R cap2] _ (range_of hB8.out) Tryd.underlying45 rfl info_ref ?_)
          | ((with_reducible show wpList _ _ _ (⟨none, .store 45 _ _, _, _, _, _⟩ :: _) _ _); refine step_store rfl 45 _ _ rfl p rfl [.int .i64 (c : Int), .int .i64 (min (s.x : Int) ((c : Int) - 1)), .int .i64 (min (s.y : Int) ((R : Int) - 1)), .slice (some ⟨g, 0, none⟩) R cap2] rfl _ _ hP8.out info_ref rfl (fun v hv => by simp only [List.mem_cons, List.not_mem_nil, or_false] at hv; rcases hv with rfl | rfl | rfl | rfl <;> rfl) ?_; intro W9 hB9 hz9 ho9)
          | fail)
        go_ret
        refine ⟨rfl, ?_⟩
        obtain ⟨rest, hbc⟩ := HC.out
        obtain ⟨j1, j2, j3, j4, j5⟩ := HI.out
        have hlen : (s.size c R).rows.length = R := size_len s.rows c R
        have hrows : (s.size c R).rows = cutRows s.rows c R k := by rw [← cut_all, ← HX.out]
        have hg9 := (hbc.only hO8.out j5).only ho9 (show g ≠ p by omega)
        refine DGoes.mk Hok.out (((HO.out.mono (fun _ h => h.elim)).trans (T := (· = p2)) hO8.out (fun i hi => .inr (by omega))).trans ho9 (fun i hi => .inl hi)) Hgp.out (ad := ⟨g, 0, none⟩) (cap := cap2) ?_ (by rw [hlen]; exact j1) j2 ?_ (.inr j3) (show g ≠ p by omega)
        · rw [hlen]
          have h9 := hB9.out
          rw [show min (s.x : Int) ((c : Int) - 1) = ((min s.x (c - 1) : Nat) : Int) from by omega, show min (s.y : Int) ((R : Int) - 1) = ((min s.y (R - 1) : Nat) : Int) from by omega] at h9
          exact h9
        · rw [hlen, hrows]
          refine TSrc.of_blk hg9 (by rw [← hrows, hlen]) fun j z hj => ?_
          rw [List.getElem?_append_left (by rw [List.length_map]; exact (List.getElem?_eq_some_iff.1 hj).1), List.getElem?_map, hj]
          rfl
end
end Go.Proofs.YtgknhojjnnljkaaDoor
