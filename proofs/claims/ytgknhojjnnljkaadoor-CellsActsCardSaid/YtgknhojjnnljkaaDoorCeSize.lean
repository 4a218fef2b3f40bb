/- Another size; a new screen. -/
import Derived.Test.YtgknhojjnnljkaaDoorCeShow
import Derived.Test.YtgknhojjnnljkaaDoorCopyR
import Derived.Test.YtgknhojjnnljkaaDoorErrSel
namespace Go.Proofs.YtgknhojjnnljkaaDoor
open Go Go.RowKit
set_option maxRecDepth 100000
set_option maxHeartbeats 4000000
attribute [local go_sem] run_store_complex

/-- So many columns, or rows, as may be. -/
def fitsS (c r : Int) : Bool := (decide (1 ≤ c) && decide (c ≤ 200)) && (decide (1 ≤ r) && decide (r ≤ 200))
/-- A refused size. -/
theorem resize_bad {w : World} {p : Nat} {a : Addr} (he : w.cell? ⟨0, 0, none⟩ = some (errV a)) (c r : Int) (h : fitsS c r = false) :
    Calls Tryd.prog 14 #[.pointer (some ⟨p, 0, none⟩), .int .i64 c, .int .i64 r] w fun e w' => e = .returned (errV a) ∧ w' = w := by
  unfold errV at *
  have HC := Lib.hid (fun W => isSize_any c W)
  have HR := Lib.hid (fun W => isSize_any r W)
  unfold fitsS at h
  generalize (decide (1 ≤ c) && decide (c ≤ 200)) = q1 at *
  generalize (decide (1 ≤ r) && decide (r ≤ 200)) = q2 at *
  cases q1
  · clear h
    go_enter Tryd.func14, Tryd.ntmps14
    go_wp2_with (first
      | (go_at_call 28; (with_reducible refine (HC.out _).mono ?_); rintro e w' ⟨rfl, e2⟩; subst w'))
    go_ret
    exact ⟨rfl, rfl⟩
  · cases q2
    · clear h
      go_enter Tryd.func14, Tryd.ntmps14
      go_wp2_with (first
        | (go_at_call 28; (with_reducible refine (HC.out _).mono ?_); rintro e w' ⟨rfl, e2⟩; subst w')
        | (go_at_call 28; (with_reducible refine (HR.out _).mono ?_); rintro e w' ⟨rfl, e2⟩; subst w'))
      go_ret
      exact ⟨rfl, rfl⟩
    · cases h

/-- What another size reads of a screen, be it new. -/
structure PreAt (w : World) (p : Nat) (s : Sc) : Prop where
  r2 : s.rows.length ≤ 60
  c2 : s.c ≤ 60
  x2 : s.x ≤ 60
  y2 : s.y ≤ 60
  hr : ∀ r ∈ s.rows, r.length = s.c
  ex : ∃ A, Blk w p 62 [.int .i64 (s.c : Int), .slice A s.rows.length s.rows.length, .complex .f64 (fl (s.x : Int)) (fl (s.y : Int))] ∧
    ∀ (k : Nat) (r : List UInt8), s.rows[k]? = some r → ∃ rb g tl, A = some ⟨rb, 0, none⟩ ∧ rb ≠ p ∧ g ≠ p ∧ rb < w.heap.size ∧ w.cell? ⟨rb, k, none⟩ = some (hdr s.c g) ∧ Blk w g 5 (r.map B8 ++ tl)
theorem ScAt.pre {w : World} {p : Nat} {F : Nat → Prop} {s : Sc} (h : ScAt w p F s) : PreAt w p s := by
  obtain ⟨rb, ads, h1, h2, h3, h4⟩ := h.ex
  have hne := h.ne h1 h2 h4
  have hx := h.ok.hx
  have hy := h.ok.hy
  have h5 := h.ok.c2
  have h6 := h.ok.r2
  refine ⟨h6, h5, by omega, by omega, h.ok.hr, some ⟨rb, 0, none⟩, h1, fun k r hk => ?_⟩
  obtain ⟨g, tl, hg, hb⟩ := h4.get hk
  exact ⟨rb, g, tl, rfl, hne.1, (hne.2 g (List.mem_of_getElem? hg)).2, h2.lt, by rw [h2.cell, List.getElem?_map, hg]; rfl, hb⟩
theorem PreAt.zero (w : World) : PreAt (w.alloc (.cells #[.int .i64 0, .slice none 0 0, .complex .f64 0 0] 62)) w.heap.size ⟨0, 0, 0, []⟩ := by
  refine ⟨Nat.zero_le _, Nat.zero_le _, Nat.zero_le _, Nat.zero_le _, (fun r h => nomatch h), none, ?_, fun k r h => by simp at h⟩
  have h := Blk.new w 62 [.int .i64 0, .slice none 0 0, .complex .f64 0 0]
  show Blk _ _ _ [.int .i64 0, .slice none 0 0, .complex .f64 (fl ((0 : Nat) : Int)) (fl ((0 : Nat) : Int))]
  rw [show ((0 : Nat) : Int) = 0 from rfl, fl_zero]
  exact h

/-- Rows, of which the first k have what they had. -/
def cutRows (rows : List (List UInt8)) (c R k : Nat) : List (List UInt8) := (rows.take k).map (cutTo c) ++ List.replicate (R - k) (blank c)
theorem cut_step {rows : List (List UInt8)} {c R k : Nat} {r : List UInt8} (h : rows[k]? = some r) (hk : k < R) : (cutRows rows c R k).set k (cutTo c r) = cutRows rows c R (k + 1) := by
  unfold cutRows
  have hk2 := (List.getElem?_eq_some_iff.1 h).1
  have e2 : List.replicate (R - k) (blank c) = blank c :: List.replicate (R - (k + 1)) (blank c) := by
    rw [show R - k = (R - (k + 1)) + 1 from by omega]
    rfl
  have e3 : ((rows.take k).map (cutTo c)).length = k := by rw [List.length_map, List.length_take]; omega
  rw [List.set_append_right _ _ (by omega), e3, Nat.sub_self, e2, List.take_add_one, h]
  simp
theorem cut_at {rows : List (List UInt8)} {c R k : Nat} (h : k ≤ rows.length) (hk : k < R) : (cutRows rows c R k)[k]? = some (blank c) := by
  unfold cutRows
  have e3 : ((rows.take k).map (cutTo c)).length = k := by rw [List.length_map, List.length_take]; omega
  rw [List.getElem?_append_right (by omega), e3, Nat.sub_self, List.getElem?_replicate, if_pos (by omega)]
theorem cut_zero (rows : List (List UInt8)) (c R : Nat) : cutRows rows c R 0 = List.replicate R (blank c) := by unfold cutRows; simp
theorem cut_all (s : Sc) (c R : Nat) : cutRows s.rows c R (min s.rows.length R) = (s.size c R).rows := by
  unfold cutRows Sc.size
  show _ = (s.rows.take R).map (cutTo c) ++ List.replicate (R - s.rows.length) (blank c)
  rcases Nat.lt_or_ge s.rows.length R with h | h
  · rw [Nat.min_eq_left (by omega), List.take_length, List.take_of_length_le (by omega)]
  · rw [Nat.min_eq_right h, Nat.sub_self, Nat.sub_eq_zero_of_le h]
theorem splice_cut (r : List UInt8) (c : Nat) (tl : List Value) : splice ((blank c).map B8 ++ tl) 0 ((r.take (min r.length c)).map B8) = (cutTo c r).map B8 ++ tl := by
  unfold splice cutTo
  rw [List.take_zero, List.nil_append, Nat.zero_add, List.length_map, List.length_take, List.drop_append_of_le_length (by rw [List.length_map, blank_len]; omega), ← List.append_assoc]
  congr 1
  rw [← List.map_drop, ← List.map_append]
  congr 1
  unfold blank
  rw [List.drop_replicate]
  rcases Nat.lt_or_ge r.length c with h | h
  · rw [Nat.min_eq_left (by omega), Nat.min_self, List.take_length, List.take_append, List.take_of_length_le (by omega), List.take_replicate]
    congr 2
    omega
  · rw [Nat.min_eq_right h, Nat.min_eq_left h, Nat.sub_self, List.take_append_of_le_length h]
    simp

theorem resize_less {w : World} {p : Nat} {s : Sc} (h : PreAt w p s) {c R : Nat} (hc1 : 1 ≤ c) (hc2 : c ≤ 60) (hR1 : 1 ≤ R) (hR2 : R ≤ 60) (hok : (s.size c R).Ok) (hlt0 : R < s.rows.length) :
    Calls Tryd.prog 14 #[.pointer (some ⟨p, 0, none⟩), .int .i64 (c : Int), .int .i64 (R : Int)] w fun e w' => e = .returned .nilIface ∧ Hid (Goes p (· = p) (s.size c R) w w') := by
  obtain ⟨A, h1, h2⟩ := h.ex
  have hx2 := h.x2
  have hy2 := h.y2
  have hr2 := h.r2
  have HC := Lib.hid (fun W => isSize_any (c : Int) W)
  have HR := Lib.hid (fun W => isSize_any (R : Int) W)
  rw [decide_eq_true (show (1 : Int) ≤ (c : Int) by omega), decide_eq_true (show (c : Int) ≤ 200 by omega)] at HC
  rw [decide_eq_true (show (1 : Int) ≤ (R : Int) by omega), decide_eq_true (show (R : Int) ≤ 200 by omega)] at HR
  have HBl := Lib.hid (fun W => blankRows_any hc1 hc2 hR2 W)
  have c1 : w.cell? ⟨p, 1, none⟩ = some (.slice A s.rows.length s.rows.length) := h1.cell 1
  have H1 := Lib.hid h1
  have H2 := Lib.hid h2
  have Hhr := Lib.hid h.hr
  have Hok := Lib.hid hok
  obtain ⟨M, hM⟩ : ∃ M, M = s.rows.length := ⟨_, rfl⟩
  rw [← hM] at c1 hr2 H1
  have HM := Lib.hid hM
  have hpl := h1.lt
  rw [← hM] at hlt0
  have hlt1 : (R : Int) < (M : Int) := by omega
  have hDM : R ≤ M := by omega
  have hDR : R ≤ R := by omega
  have HD := Lib.hid (show R = min M R by omega)
  clear h1 h2 hM h hok
  obtain ⟨fx, hfx⟩ : ∃ z, z = fl (s.x : Int) := ⟨_, rfl⟩
  obtain ⟨fy, hfy⟩ : ∃ z, z = fl (s.y : Int) := ⟨_, rfl⟩
  rw [← hfx, ← hfy] at H1
  have HFX := Lib.hid hfx
  have HFY := Lib.hid hfy
  clear hfx hfy
  go_enter Tryd.func14, Tryd.ntmps14
  go_wp2_with (first
    | (go_at_call 28; (with_reducible refine (HC.out _).mono ?_); rintro e w' ⟨rfl, e2⟩; subst w')
    | (go_at_call 28; (with_reducible refine (HR.out _).mono ?_); rintro e w' ⟨rfl, e2⟩; subst w')
    | (go_at_call 29; (with_reducible refine (HBl.out _).mono ?_); rintro e w5 ⟨rb5, ads5, rfl, hrb5, hb5, hr5, ho5⟩; have HP5 := Lib.hid (H1.out.only ho5.out (fun h => h)); have k0 := HP5.out.cell 0; have g0 := HP5.out.frozen 0; have k1 := (HP5.out.setCell 0 (.int .i64 (c : Int))).cell 1; have g1 := (HP5.out.setCell 0 (.int .i64 (c : Int))).frozen 1))
  obtain ⟨w6, hw6⟩ : ∃ w6, w6 = (w5.setCell ⟨p, 0, none⟩ (.int .i64 (c : Int))).setCell ⟨p, 1, none⟩ (.slice (some ⟨rb5, 0, none⟩) R R) := ⟨_, rfl⟩
  rw [← hw6]
  have hP6 := (HP5.out.setCell 0 (.int .i64 (c : Int))).setCell 1 (.slice (some ⟨rb5, 0, none⟩) R R)
  have hO6 : Only (· = p) w5 ((w5.setCell ⟨p, 0, none⟩ (.int .i64 (c : Int))).setCell ⟨p, 1, none⟩ (.slice (some ⟨rb5, 0, none⟩) R R)) := ((Only.refl (· = p) w5).setCell (p := ⟨p, 0, none⟩) (.inl rfl) _).setCell (p := ⟨p, 1, none⟩) (.inl rfl) _
  rw [← hw6] at hP6 hO6
  have hrbp : rb5 ≠ p := by omega
  have hgp : ∀ g ∈ ads5, ¬ g = p := fun g hg => by have h9 : w.heap.size ≤ g := hr5.out.inF g hg; omega
  have HB6 := Lib.hid (hb5.out.only hO6 hrbp)
  have HR6 := Lib.hid (hr5.out.only hO6 hgp)
  have HP6 : Hid (Blk w6 p 62 [.int .i64 (c : Int), .slice (some ⟨rb5, 0, none⟩) R R, .complex .f64 fx fy]) := hP6
  have HO6 : Hid (Only (· = p) w w6) := (ho5.out.mono (fun _ h => h.elim)).trans hO6 (fun i hi => .inl hi)
  have HQ := Lib.hid (And.intro hrbp (And.intro hgp hrb5))
  clear hP6 hO6 hb5 hr5 ho5 HP5 hw6 k0 g0 k1 g1 hrb5 hrbp hgp HC HR HBl
  go_loopw [8, 36] (fun _ i W => ∃ k : Nat, k ≤ R ∧ i = .int .i64 (k : Int) ∧ Hid (Blk W p 62 [.int .i64 (c : Int), .slice (some ⟨rb5, 0, none⟩) R R, .complex .f64 fx fy]) ∧ Hid (Blk W rb5 34 (ads5.map (hdr c))) ∧ Hid (RowsAt W (fun k => w.heap.size ≤ k) ads5 (cutRows s.rows c R k)) ∧ Hid (Only (· = p) w W)) (fun _ i _ => R - (intOf i).toNat)
  case atStart => exact ⟨0, Nat.zero_le _, rfl, HP6, HB6, by rw [cut_zero]; exact HR6, HO6⟩
  case round =>
    obtain ⟨k, hk, rfl, HP, HB, HR, HO⟩ := hrel
    by_cases hlt : k < R
    · obtain ⟨r, hr⟩ : ∃ r, s.rows[k]? = some r := ⟨_, List.getElem?_eq_getElem (by have := HM.out; omega)⟩
      obtain ⟨rb, g, tl, hA, hrb, hg, hrbl, hcell, hbg⟩ := H2.out k r hr
      subst hA
      have hrl : r.length = s.c := Hhr.out r (List.mem_of_getElem? hr)
      obtain ⟨g2, tl2, hg2, hb2⟩ := HR.out.get (cut_at (c := c) (R := R) (k := k) (by have := HM.out; omega) (by omega))
      have c1 : wr.cell? ⟨p, 1, none⟩ = some (.slice (some ⟨rb5, 0, none⟩) R R) := HP.out.cell 1
      have c2 : wr.cell? ⟨rb5, k, none⟩ = some (.slice (some ⟨g2, 0, none⟩) c c) := by rw [HB.out.cell, List.getElem?_map, hg2]; rfl
      have c3 : wr.cell? ⟨rb, k, none⟩ = some (.slice (some ⟨g, 0, none⟩) s.c s.c) := HO.out.cellv hcell hrb
      have hbg2 := hbg.only HO.out hg
      have HX : Hid (Src wr.drew (some ⟨g, 0, none⟩) (r.take (min r.length c)).length (r.take (min r.length c))) := hbg2.drew.src rfl fun j x hx => by
        rw [List.getElem?_take] at hx
        split at hx
        · rw [Nat.zero_add, List.getElem?_append_left (by rw [List.length_map]; exact (List.getElem?_eq_some_iff.1 hx).1), List.getElem?_map, hx]; rfl
        · cases hx
      have HL : Hid ((r.take (min r.length c)).length = Nat.min s.c c) := by show _ = min _ _; rw [List.length_take, hrl]; omega
      have HFt : Hid (0 + (r.take (min r.length c)).length ≤ ((blank c).map B8 ++ tl2).length) := by show _ ≤ _; rw [HL.out, List.length_append, List.length_map, blank_len]; show 0 + min _ _ ≤ _; omega
      have HB2 := Lib.hid hb2
      have HE := Lib.hid (And.intro hr (And.intro hg2 (HB.out.ne HP.out (by decide))))
      have i1 : (k : Int) < (M : Int) := by omega
      have i2 : (k : Int) < (R : Int) := by omega
      clear hr hrb hg hrbl hcell hbg hrl hg2 hb2 hbg2
      go_wp2
      refine region_tail 11 (by kernel_rfl) (by kernel_rfl) ?_
      simp only [List.take_succ_cons, List.take_zero, List.drop_succ_cons, List.drop_zero]
      repeat still_step
      refine wpStill_nil ?_
      refine step_copy rfl (.tmp 45) (.tmp 49) 34 34 rfl 5 Tryd.underlying34 size_byte _ _ _ _ _ _ rfl rfl g2 0 _ 5 HB2.out.drew (r.take (min r.length c)) HL.out (fun _ => ⟨rfl, HX.out⟩) HFt.out ?_
      intro w7 hB7 hz7 ho7
      have HO7 := Lib.hid (show Only (· = g2) wr w7 from ((Only.refl (· = g2) wr).drew).trans ho7 (fun i hi => .inl hi))
      clear ho7 hz7 c1 c2 c3
      go_wp2
      go_roundw
      case rel =>
        obtain ⟨q1, q2, q3⟩ := HQ.out
        obtain ⟨e1, e2, e3⟩ := HE.out
        have hm := List.mem_of_getElem? e2
        have hgr : g2 ≠ rb5 := fun e => by
          have h8 := HB2.out
          exact h8.ne (e ▸ HB.out) (by decide) rfl
        have h7 := hB7.out
        rw [splice_cut r c tl2] at h7
        refine ⟨k + 1, by omega, by go_num, HP.out.only HO7.out (fun e => q2 g2 hm e.symm), HB.out.only HO7.out (fun e => hgr e.symm), ?_, HO.out.trans HO7.out (fun i hi => .inr (by have h9 : w.heap.size ≤ g2 := HR.out.inF g2 hm; omega))⟩
        rw [← cut_step e1 (by omega)]
        exact HR.out.set e2 HO7.out h7
      case measure => simp [intOf]; omega
    · have hkD : k = R := by omega
      subst k
      obtain ⟨q1, q2, q3⟩ := HQ.out
      have HO9 := HO.out
      have c0 : wr.cell? ⟨p, 0, none⟩ = some (.int .i64 (c : Int)) := HP.out.cell 0
      have c1 : wr.cell? ⟨p, 1, none⟩ = some (.slice (some ⟨rb5, 0, none⟩) R R) := HP.out.cell 1
      have c2 : wr.cell? ⟨p, 2, none⟩ = some (.complex .f64 fx fy) := HP.out.cell 2
      have f2 := HP.out.frozen 2
      have HN := nearest_any (u := (s.x : Int)) (v := (s.y : Int)) (by omega) (by omega) (by omega) (by omega) hc1 (show c ≤ 64 by omega) hR1 (show R ≤ 64 by omega) c0 c1
      rw [show min (max (s.x : Int) 0) ((c : Int) - 1) = ((min s.x (c - 1) : Nat) : Int) from by omega, show min (max (s.y : Int) 0) ((R : Int) - 1) = ((min s.y (R - 1) : Nat) : Int) from by omega, ← HFX.out, ← HFY.out] at HN
      have HNN := Lib.hid HN
      have hP9 : Hid (Blk (wr.setCell ⟨p, 2, none⟩ (.complex .f64 (fl ((min s.x (c - 1) : Nat) : Int)) (fl ((min s.y (R - 1) : Nat) : Int)))) p 62 [.int .i64 (c : Int), .slice (some ⟨rb5, 0, none⟩) R R, .complex .f64 (fl ((min s.x (c - 1) : Nat) : Int)) (fl ((min s.y (R - 1) : Nat) : Int))]) := HP.out.setCell 2 (.complex .f64 (fl ((min s.x (c - 1) : Nat) : Int)) (fl ((min s.y (R - 1) : Nat) : Int)))
      have ho9 : Only (· = p) wr (wr.setCell ⟨p, 2, none⟩ (.complex .f64 (fl ((min s.x (c - 1) : Nat) : Int)) (fl ((min s.y (R - 1) : Nat) : Int)))) := (Only.refl (· = p) wr).setCell (p := ⟨p, 2, none⟩) (.inl rfl) _
      have hrows : (s.size c R).rows = cutRows s.rows c R R := by rw [← cut_all, ← HM.out, ← HD.out]
      have hG : Hid (Goes p (· = p) (s.size c R) w (wr.setCell ⟨p, 2, none⟩ (.complex .f64 (fl ((min s.x (c - 1) : Nat) : Int)) (fl ((min s.y (R - 1) : Nat) : Int))))) := by
        refine Goes.mk Hok.out (HO9.trans ho9 (fun i hi => .inl hi)) rfl (rb := rb5) (ads := ads5) ?_ (HB.out.only ho9 q1) (.inr q3) ?_
        · have hl : (s.size c R).rows.length = R := size_len s.rows c R
          rw [hl]
          exact hP9.out
        · rw [hrows]
          exact (HR.out.only ho9 q2).mono (fun _ _ h => .inr h)
      clear HN hP9 ho9 hrows c0 c1
      generalize fl ((min s.x (c - 1) : Nat) : Int) = z1 at *
      generalize fl ((min s.y (R - 1) : Nat) : Int) = z2 at *
      go_wp2_with (go_at_call 30; (with_reducible refine HNN.out.mono ?_); rintro e w' ⟨rfl, e2⟩; subst w')
      go_ret
      exact ⟨rfl, hG⟩

theorem resize_more {w : World} {p : Nat} {s : Sc} (h : PreAt w p s) {c R : Nat} (hc1 : 1 ≤ c) (hc2 : c ≤ 60) (hR1 : 1 ≤ R) (hR2 : R ≤ 60) (hok : (s.size c R).Ok) (hlt0 : ¬ R < s.rows.length) :
    Calls Tryd.prog 14 #[.pointer (some ⟨p, 0, none⟩), .int .i64 (c : Int), .int .i64 (R : Int)] w fun e w' => e = .returned .nilIface ∧ Hid (Goes p (· = p) (s.size c R) w w') := by
  obtain ⟨A, h1, h2⟩ := h.ex
  have hx2 := h.x2
  have hy2 := h.y2
  have hr2 := h.r2
  have HC := Lib.hid (fun W => isSize_any (c : Int) W)
  have HR := Lib.hid (fun W => isSize_any (R : Int) W)
  rw [decide_eq_true (show (1 : Int) ≤ (c : Int) by omega), decide_eq_true (show (c : Int) ≤ 200 by omega)] at HC
  rw [decide_eq_true (show (1 : Int) ≤ (R : Int) by omega), decide_eq_true (show (R : Int) ≤ 200 by omega)] at HR
  have HBl := Lib.hid (fun W => blankRows_any hc1 hc2 hR2 W)
  have c1 : w.cell? ⟨p, 1, none⟩ = some (.slice A s.rows.length s.rows.length) := h1.cell 1
  have H1 := Lib.hid h1
  have H2 := Lib.hid h2
  have Hhr := Lib.hid h.hr
  have Hok := Lib.hid hok
  obtain ⟨M, hM⟩ : ∃ M, M = s.rows.length := ⟨_, rfl⟩
  rw [← hM] at c1 hr2 H1
  have HM := Lib.hid hM
  have hpl := h1.lt
  rw [← hM] at hlt0
  have hlt1 : ¬ (R : Int) < (M : Int) := by omega
  have hDM : M ≤ M := by omega
  have hDR : M ≤ R := by omega
  have HD := Lib.hid (show M = min M R by omega)
  clear h1 h2 hM h hok
  obtain ⟨fx, hfx⟩ : ∃ z, z = fl (s.x : Int) := ⟨_, rfl⟩
  obtain ⟨fy, hfy⟩ : ∃ z, z = fl (s.y : Int) := ⟨_, rfl⟩
  rw [← hfx, ← hfy] at H1
  have HFX := Lib.hid hfx
  have HFY := Lib.hid hfy
  clear hfx hfy
  go_enter Tryd.func14, Tryd.ntmps14
  go_wp2_with (first
    | (go_at_call 28; (with_reducible refine (HC.out _).mono ?_); rintro e w' ⟨rfl, e2⟩; subst w')
    | (go_at_call 28; (with_reducible refine (HR.out _).mono ?_); rintro e w' ⟨rfl, e2⟩; subst w')
    | (go_at_call 29; (with_reducible refine (HBl.out _).mono ?_); rintro e w5 ⟨rb5, ads5, rfl, hrb5, hb5, hr5, ho5⟩; have HP5 := Lib.hid (H1.out.only ho5.out (fun h => h)); have k0 := HP5.out.cell 0; have g0 := HP5.out.frozen 0; have k1 := (HP5.out.setCell 0 (.int .i64 (c : Int))).cell 1; have g1 := (HP5.out.setCell 0 (.int .i64 (c : Int))).frozen 1))
  obtain ⟨w6, hw6⟩ : ∃ w6, w6 = (w5.setCell ⟨p, 0, none⟩ (.int .i64 (c : Int))).setCell ⟨p, 1, none⟩ (.slice (some ⟨rb5, 0, none⟩) R R) := ⟨_, rfl⟩
  rw [← hw6]
  have hP6 := (HP5.out.setCell 0 (.int .i64 (c : Int))).setCell 1 (.slice (some ⟨rb5, 0, none⟩) R R)
  have hO6 : Only (· = p) w5 ((w5.setCell ⟨p, 0, none⟩ (.int .i64 (c : Int))).setCell ⟨p, 1, none⟩ (.slice (some ⟨rb5, 0, none⟩) R R)) := ((Only.refl (· = p) w5).setCell (p := ⟨p, 0, none⟩) (.inl rfl) _).setCell (p := ⟨p, 1, none⟩) (.inl rfl) _
  rw [← hw6] at hP6 hO6
  have hrbp : rb5 ≠ p := by omega
  have hgp : ∀ g ∈ ads5, ¬ g = p := fun g hg => by have h9 : w.heap.size ≤ g := hr5.out.inF g hg; omega
  have HB6 := Lib.hid (hb5.out.only hO6 hrbp)
  have HR6 := Lib.hid (hr5.out.only hO6 hgp)
  have HP6 : Hid (Blk w6 p 62 [.int .i64 (c : Int), .slice (some ⟨rb5, 0, none⟩) R R, .complex .f64 fx fy]) := hP6
  have HO6 : Hid (Only (· = p) w w6) := (ho5.out.mono (fun _ h => h.elim)).trans hO6 (fun i hi => .inl hi)
  have HQ := Lib.hid (And.intro hrbp (And.intro hgp hrb5))
  clear hP6 hO6 hb5 hr5 ho5 HP5 hw6 k0 g0 k1 g1 hrb5 hrbp hgp HC HR HBl
  go_loopw [8, 36] (fun _ i W => ∃ k : Nat, k ≤ M ∧ i = .int .i64 (k : Int) ∧ Hid (Blk W p 62 [.int .i64 (c : Int), .slice (some ⟨rb5, 0, none⟩) R R, .complex .f64 fx fy]) ∧ Hid (Blk W rb5 34 (ads5.map (hdr c))) ∧ Hid (RowsAt W (fun k => w.heap.size ≤ k) ads5 (cutRows s.rows c R k)) ∧ Hid (Only (· = p) w W)) (fun _ i _ => M - (intOf i).toNat)
  case atStart => exact ⟨0, Nat.zero_le _, rfl, HP6, HB6, by rw [cut_zero]; exact HR6, HO6⟩
  case round =>
    obtain ⟨k, hk, rfl, HP, HB, HR, HO⟩ := hrel
    by_cases hlt : k < M
    · obtain ⟨r, hr⟩ : ∃ r, s.rows[k]? = some r := ⟨_, List.getElem?_eq_getElem (by have := HM.out; omega)⟩
      obtain ⟨rb, g, tl, hA, hrb, hg, hrbl, hcell, hbg⟩ := H2.out k r hr
      subst hA
      have hrl : r.length = s.c := Hhr.out r (List.mem_of_getElem? hr)
      obtain ⟨g2, tl2, hg2, hb2⟩ := HR.out.get (cut_at (c := c) (R := R) (k := k) (by have := HM.out; omega) (by omega))
      have c1 : wr.cell? ⟨p, 1, none⟩ = some (.slice (some ⟨rb5, 0, none⟩) R R) := HP.out.cell 1
      have c2 : wr.cell? ⟨rb5, k, none⟩ = some (.slice (some ⟨g2, 0, none⟩) c c) := by rw [HB.out.cell, List.getElem?_map, hg2]; rfl
      have c3 : wr.cell? ⟨rb, k, none⟩ = some (.slice (some ⟨g, 0, none⟩) s.c s.c) := HO.out.cellv hcell hrb
      have hbg2 := hbg.only HO.out hg
      have HX : Hid (Src wr.drew (some ⟨g, 0, none⟩) (r.take (min r.length c)).length (r.take (min r.length c))) := hbg2.drew.src rfl fun j x hx => by
        rw [List.getElem?_take] at hx
        split at hx
        · rw [Nat.zero_add, List.getElem?_append_left (by rw [List.length_map]; exact (List.getElem?_eq_some_iff.1 hx).1), List.getElem?_map, hx]; rfl
        · cases hx
      have HL : Hid ((r.take (min r.length c)).length = Nat.min s.c c) := by show _ = min _ _; rw [List.length_take, hrl]; omega
      have HFt : Hid (0 + (r.take (min r.length c)).length ≤ ((blank c).map B8 ++ tl2).length) := by show _ ≤ _; rw [HL.out, List.length_append, List.length_map, blank_len]; show 0 + min _ _ ≤ _; omega
      have HB2 := Lib.hid hb2
      have HE := Lib.hid (And.intro hr (And.intro hg2 (HB.out.ne HP.out (by decide))))
      have i1 : (k : Int) < (M : Int) := by omega
      have i2 : (k : Int) < (R : Int) := by omega
      clear hr hrb hg hrbl hcell hbg hrl hg2 hb2 hbg2
      go_wp2
      refine region_tail 11 (by kernel_rfl) (by kernel_rfl) ?_
      simp only [List.take_succ_cons, List.take_zero, List.drop_succ_cons, List.drop_zero]
      repeat still_step
      refine wpStill_nil ?_
      refine step_copy rfl (.tmp 45) (.tmp 49) 34 34 rfl 5 Tryd.underlying34 size_byte _ _ _ _ _ _ rfl rfl g2 0 _ 5 HB2.out.drew (r.take (min r.length c)) HL.out (fun _ => ⟨rfl, HX.out⟩) HFt.out ?_
      intro w7 hB7 hz7 ho7
      have HO7 := Lib.hid (show Only (· = g2) wr w7 from ((Only.refl (· = g2) wr).drew).trans ho7 (fun i hi => .inl hi))
      clear ho7 hz7 c1 c2 c3
      go_wp2
      go_roundw
      case rel =>
        obtain ⟨q1, q2, q3⟩ := HQ.out
        obtain ⟨e1, e2, e3⟩ := HE.out
        have hm := List.mem_of_getElem? e2
        have hgr : g2 ≠ rb5 := fun e => by
          have h8 := HB2.out
          exact h8.ne (e ▸ HB.out) (by decide) rfl
        have h7 := hB7.out
        rw [splice_cut r c tl2] at h7
        refine ⟨k + 1, by omega, by go_num, HP.out.only HO7.out (fun e => q2 g2 hm e.symm), HB.out.only HO7.out (fun e => hgr e.symm), ?_, HO.out.trans HO7.out (fun i hi => .inr (by have h9 : w.heap.size ≤ g2 := HR.out.inF g2 hm; omega))⟩
        rw [← cut_step e1 (by omega)]
        exact HR.out.set e2 HO7.out h7
      case measure => simp [intOf]; omega
    · have hkD : k = M := by omega
      subst k
      obtain ⟨q1, q2, q3⟩ := HQ.out
      have HO9 := HO.out
      have c0 : wr.cell? ⟨p, 0, none⟩ = some (.int .i64 (c : Int)) := HP.out.cell 0
      have c1 : wr.cell? ⟨p, 1, none⟩ = some (.slice (some ⟨rb5, 0, none⟩) R R) := HP.out.cell 1
      have c2 : wr.cell? ⟨p, 2, none⟩ = some (.complex .f64 fx fy) := HP.out.cell 2
      have f2 := HP.out.frozen 2
      have HN := nearest_any (u := (s.x : Int)) (v := (s.y : Int)) (by omega) (by omega) (by omega) (by omega) hc1 (show c ≤ 64 by omega) hR1 (show R ≤ 64 by omega) c0 c1
      rw [show min (max (s.x : Int) 0) ((c : Int) - 1) = ((min s.x (c - 1) : Nat) : Int) from by omega, show min (max (s.y : Int) 0) ((R : Int) - 1) = ((min s.y (R - 1) : Nat) : Int) from by omega, ← HFX.out, ← HFY.out] at HN
      have HNN := Lib.hid HN
      have hP9 : Hid (Blk (wr.setCell ⟨p, 2, none⟩ (.complex .f64 (fl ((min s.x (c - 1) : Nat) : Int)) (fl ((min s.y (R - 1) : Nat) : Int)))) p 62 [.int .i64 (c : Int), .slice (some ⟨rb5, 0, none⟩) R R, .complex .f64 (fl ((min s.x (c - 1) : Nat) : Int)) (fl ((min s.y (R - 1) : Nat) : Int))]) := HP.out.setCell 2 (.complex .f64 (fl ((min s.x (c - 1) : Nat) : Int)) (fl ((min s.y (R - 1) : Nat) : Int)))
      have ho9 : Only (· = p) wr (wr.setCell ⟨p, 2, none⟩ (.complex .f64 (fl ((min s.x (c - 1) : Nat) : Int)) (fl ((min s.y (R - 1) : Nat) : Int)))) := (Only.refl (· = p) wr).setCell (p := ⟨p, 2, none⟩) (.inl rfl) _
      have hrows : (s.size c R).rows = cutRows s.rows c R M := by rw [← cut_all, ← HM.out, ← HD.out]
      have hG : Hid (Goes p (· = p) (s.size c R) w (wr.setCell ⟨p, 2, none⟩ (.complex .f64 (fl ((min s.x (c - 1) : Nat) : Int)) (fl ((min s.y (R - 1) : Nat) : Int))))) := by
        refine Goes.mk Hok.out (HO9.trans ho9 (fun i hi => .inl hi)) rfl (rb := rb5) (ads := ads5) ?_ (HB.out.only ho9 q1) (.inr q3) ?_
        · have hl : (s.size c R).rows.length = R := size_len s.rows c R
          rw [hl]
          exact hP9.out
        · rw [hrows]
          exact (HR.out.only ho9 q2).mono (fun _ _ h => .inr h)
      clear HN hP9 ho9 hrows c0 c1
      generalize fl ((min s.x (c - 1) : Nat) : Int) = z1 at *
      generalize fl ((min s.y (R - 1) : Nat) : Int) = z2 at *
      go_wp2_with (go_at_call 30; (with_reducible refine HNN.out.mono ?_); rintro e w' ⟨rfl, e2⟩; subst w')
      go_ret
      exact ⟨rfl, hG⟩

theorem resize_ok {w : World} {p : Nat} {s : Sc} (h : PreAt w p s) {c R : Nat} (hc1 : 1 ≤ c) (hc2 : c ≤ 60) (hR1 : 1 ≤ R) (hR2 : R ≤ 60) (hok : (s.size c R).Ok) :
    Calls Tryd.prog 14 #[.pointer (some ⟨p, 0, none⟩), .int .i64 (c : Int), .int .i64 (R : Int)] w fun e w' => e = .returned .nilIface ∧ Hid (Goes p (· = p) (s.size c R) w w') := by
  by_cases hlt : R < s.rows.length
  · exact resize_less h hc1 hc2 hR1 hR2 hok hlt
  · exact resize_more h hc1 hc2 hR1 hR2 hok hlt
end Go.Proofs.YtgknhojjnnljkaaDoor
