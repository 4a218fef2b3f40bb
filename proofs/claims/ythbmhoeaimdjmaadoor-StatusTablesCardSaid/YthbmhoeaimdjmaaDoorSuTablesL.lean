/- StatusTables, walked. -/
import Derived.Test.YthbmhoeaimdjmaaDoorSuTab
import Derived.Test.YthbmhoeaimdjmaaDoorSuAlive
import Derived.Test.YthbmhoeaimdjmaaDoorLaidFront
import Derived.Deep.RegionHeld3
import Derived.BigQuiet
namespace Go.Proofs.YthbmhoeaimdjmaaDoor
open Go Go.ChangeShapes Go.WideShapes Go.ChangeAt Go.RowKit
set_option maxRecDepth 100000
set_option maxHeartbeats 4000000

theorem stables_long {W : World} (hC : CdW W) (P : Po) (A : Option Addr) (n c : Nat) (h : 40 < n ∨ 40 < P.n1 ∨ 40 < P.n2) :
    Calls Tryd.prog 4 #[P.val, .slice A n c] W (Fine W) := by
  obtain ⟨a1, n1, c1, a2, n2, c2, us, hims⟩ := P
  simp only [Po.val] at h ⊢
  have HT := Lib.hid hC
  obtain ⟨d0, e0⟩ : ∃ d, decide ((40 : Int) < (n : Int)) = d := ⟨_, rfl⟩
  obtain ⟨d1, e1⟩ : ∃ d, decide ((40 : Int) < (n1 : Int)) = d := ⟨_, rfl⟩
  obtain ⟨d2, e2⟩ : ∃ d, decide ((40 : Int) < (n2 : Int)) = d := ⟨_, rfl⟩
  have hd : d0 = true ∨ (d0 = false ∧ d1 = true) ∨ (d0 = false ∧ d1 = false ∧ d2 = true) := by
    rw [← e0, ← e1, ← e2]
    simp only [decide_eq_true_eq, decide_eq_false_iff_not]
    omega
  clear h hC
  rcases hd with rfl | ⟨rfl, rfl⟩ | ⟨rfl, rfl, rfl⟩
  all_goals
    go_enter Tryd.func4, Tryd.ntmps4
    go_wp2_with (first
      | (go_at_call 5; refine (suAlive_any (HT.out.only (alloc_only _))).mono ?_; rintro e w1 ⟨rfl, ho1⟩; have HB1 := Lib.hid ((Blk.new W 45 [.slice a1 n1 c1, .slice a2 n2 c2]).only ho1 (fun h => h)); have HO1 := Lib.hid ((alloc_only (W := W) _).trans ho1 (fun _ h => h.elim)); have g0 := HB1.out.cell 0; have g1 := HB1.out.cell 1; simp only [List.getElem?_cons_zero, List.getElem?_cons_succ] at g0 g1; clear ho1)
      | fail)
    go_ret
    exact ⟨rfl, HO1.out⟩

theorem stables_ok {W : World} {es : List Addr} (hT : TbW W) (hC : CdW W) (hE : ErrsAt W es) {P : Po} (hP : P.At W) {A : Option Addr} {n c : Nat} {l : List Ac} (hA : AcAt W A n l) (h0 : n ≤ 40) (h1 : P.n1 ≤ 40) (h2 : P.n2 ≤ 40) :
    Calls Tryd.prog 4 #[P.val, .slice A n c] W (Fine W) := by
  obtain ⟨a1, n1, c1, a2, n2, c2, us, hims⟩ := P
  simp only [Po.val] at h1 h2 ⊢
  have d0 : decide ((40 : Int) < (n : Int)) = false := by simp; omega
  have d1 : decide ((40 : Int) < (n1 : Int)) = false := by simp; omega
  have d2 : decide ((40 : Int) < (n2 : Int)) = false := by simp; omega
  have HT := Lib.hid hT
  have HCd := Lib.hid hC
  have HE := Lib.hid hE
  have HA := Lib.hid hA
  have HP := Lib.hid hP
  have HNew : Hid (∀ w, Only (fun _ => False) W w → Calls Tryd.prog 16 #[.agg #[.slice a1 n1 c1, .slice a2 n2 c2]] w fun e w' => ∃ p, e = .returned (.pointer (some ⟨p, 0, none⟩)) ∧ TbAt w' p (agOf us hims) Tb.zero ∧ w.heap.size ≤ p ∧ Only (fun _ => False) w w') := fun w ho =>
    new_any c1 c2 (HP.out.1.same ho) (HP.out.2.same ho) (by omega) (by omega)
  have hn40 := h0
  have HN1 := Lib.hid h1
  have HN2 := Lib.hid h2
  clear hT hC hE hA hP h0 h1 h2
  go_enter Tryd.func4, Tryd.ntmps4
  go_wp2_with (first
    | (go_at_call 5; refine (suAlive_any (HCd.out.only (alloc_only _))).mono ?_; rintro e w1 ⟨rfl, ho1⟩; have HB1 := Lib.hid ((Blk.new W 45 [.slice a1 n1 c1, .slice a2 n2 c2]).only ho1 (fun h => h)); have HO1 := Lib.hid ((alloc_only (W := W) _).trans ho1 (fun _ h => h.elim)); have g0 := HB1.out.cell 0; have g1 := HB1.out.cell 1; simp only [List.getElem?_cons_zero, List.getElem?_cons_succ] at g0 g1; clear ho1)
    | fail)
  obtain ⟨N, hN⟩ : ∃ N, N = W.heap.size := ⟨_, rfl⟩
  rw [← hN] at HB1 g0 g1 ⊢
  have HS : Hid (∀ w, Only (fun _ => False) w1 w → w.cell? ⟨N, 0, none⟩ = some (.slice a1 n1 c1) ∧ w.cell? ⟨N, 1, none⟩ = some (.slice a2 n2 c2)) := fun w ho => ⟨(HB1.out.only ho (fun h => h)).cell 0, (HB1.out.only ho (fun h => h)).cell 1⟩
  have HNW : Hid (W.heap.size = N) := hN.symm
  clear g0 g1 hN
  apply made2 (C := fun p r F => Hid (Jt W F p r ⟨a1, n1, c1, a2, n2, c2, us, hims⟩ 0 Tb.zero []))
  case k =>
    intro key
    go_region_held3 (fun w => w.cell? ⟨N, 0, none⟩ = some (.slice a1 n1 c1) ∧ w.cell? ⟨N, 1, none⟩ = some (.slice a2 n2 c2))
      (first | exact HS.out _ (Only.refl _ _).drew | exact HS.out _ ((Only.refl _ _).alloc _).drew | exact HS.out _ HOa.out | exact HS.out _ (HOa.out.alloc _))
      (first
        | ((with_reducible show Calls _ _ _ (World.drew w1) _); refine (HNew.out _ HO1.out.drew).mono ?_; rintro e w2 ⟨p, rfl, ht2, hp2, ho⟩; have HOa := Lib.hid (((Only.refl (fun _ => False) w1).drew).trans ho (fun _ h => h.elim)); have HT2 := Lib.hid ht2; have hpl := ht2.lt; clear ht2 ho)
        | ((with_reducible show Calls _ _ _ (World.drew (World.alloc _ _)) _); refine (HNew.out _ (HO1.out.alloc _).drew).mono ?_; rintro e w2 ⟨p, rfl, ht2, hp2, ho⟩; have HOa := Lib.hid ((((Only.refl (fun _ => False) w1).alloc _).drew).trans ho (fun _ h => h.elim)); have HR2 := Lib.hid ((Blk.new w1 52 [.slice a1 n1 c1, .slice a2 n2 c2, .slice none 0 0, .int .i64 0, .int .i64 0, .int .i64 0]).drew.only ho (fun h => h)); have HT2 := Lib.hid ht2; have hpl := HR2.out.lt; (try simp at hp2); clear ht2 ho))
    all_goals (first
      | (obtain ⟨F, hF⟩ : ∃ F, F = w2.alloc (.cells #[.slice a1 n1 c1, .slice a2 n2 c2, .slice none 0 0, .int .i64 0, .int .i64 0, .int .i64 0] 52) := ⟨_, rfl⟩
         have H0 : Hid (Jt W F p w2.heap.size ⟨a1, n1, c1, a2, n2, c2, us, hims⟩ 0 Tb.zero []) := by
           rw [hF]
           exact Jt.start ((HO1.out.trans HOa.out (fun _ h => h.elim)).alloc _) (HT2.out.same (alloc_only _)) (Blk.new w2 _ [.slice a1 n1 c1, .slice a2 n2 c2, .slice none 0 0, .int .i64 0, .int .i64 0, .int .i64 0]) (by omega) (Nat.le_trans HO1.out.size hp2) (HO1.out.trans HOa.out (fun _ h => h.elim)).size
         rw [← hF]
         obtain ⟨r, hr⟩ : ∃ r, r = w2.heap.size := ⟨_, rfl⟩
         rw [← hr] at H0 ⊢
         exact key p r F H0)
      | (exact key _ _ _ (Jt.start (HO1.out.trans HOa.out (fun _ h => h.elim)) HT2.out HR2.out (by omega) (by have := HO1.out.size; omega) HO1.out.size)))
  case h =>
    intro p r F H0
    go_wp2
    go_loopw [48] (fun i w => ∃ j : Nat, j ≤ n ∧ i = .int .i64 (j : Int) ∧ Hid (Bothly W w p r ⟨a1, n1, c1, a2, n2, c2, us, hims⟩ j)) (fun i _ => n - (intOf i).toNat)
    case atStart => exact ⟨0, by omega, rfl, _, _, H0.out⟩
    case round =>
      clear H0
      obtain ⟨j, hj, rfl, hrel⟩ := hrel
      by_cases hjn : j < n
      · obtain ⟨x, hx⟩ : ∃ x, l[j]? = some x := ⟨_, List.getElem?_eq_getElem (by rw [HA.out.1]; exact hjn)⟩
        obtain ⟨T, l1, hJ⟩ := hrel.out
        obtain ⟨b, off, rfl, hb, hrange, _⟩ := (HA.out.same hJ.only).2 j x hx
        have hjn2 : (j : Int) < (n : Int) := by omega
        obtain ⟨k, c0, op⟩ := x
        have hrg : wr.rangeAt b (off + j * 3) [.int .i64 k, .int .i64 c0, .int .i64 op] := hrange
        have HRg := Lib.hid hrg
        have HJ := Lib.hid hJ
        have hpl := hJ.t.lt
        have hrl : r < wr.heap.size := by obtain ⟨cs, h⟩ := hJ.f.blk; exact h.lt
        clear hx hrange hrg hJ hrel
        have HAct : Hid (∀ w, Only (fun i => i = p ∨ i = r) (wr.alloc (.cells #[.int .i64 k, .int .i64 c0, .int .i64 op] 54)) w → Blk w wr.heap.size 54 [.int .i64 k, .int .i64 c0, .int .i64 op]) := fun w ho => (Blk.new wr 54 [.int .i64 k, .int .i64 c0, .int .i64 op]).only ho (by omega)
        have hHear := HJ.out.hear HT.out HE.out HP.out (show n1 ≤ 1000 by have := HN1.out; omega) (show n2 ≤ 1000 by have := HN2.out; omega) (by omega) c0 op
        have hAsk := HJ.out.ask HT.out HE.out (by omega) c0 op
        by_cases hk0 : k = 0
        focus
          have e5 : (k == 0) = true := by simpa using hk0
          have e5' : decide (k = 0) = true := by simpa using hk0
          obtain ⟨sd, vb, num, tn, wg, errv, H1, H2⟩ := hHear
          have b1 : (num != num) = false := by simp
          have b2 : (sd != sd) = false := by simp
          have b3 : (vb != vb) = false := by simp
          have b4 : (tn != tn) = false := by simp
          have b5 : (wg != wg) = false := by simp
          clear hAsk hk0
          go_wp2_with (first
            | ((with_reducible show wpList _ _ _ (⟨some 51, _, _, _, _, _⟩ :: _) _ _); refine wpList_load_mid rfl 54 _ rfl b (off + j * 3) rfl [.int .i64 k, .int .i64 c0, .int .i64 op] _ HRg.out Tryd.underlying54 rfl (by kernel_rfl) ?_)
            | (go_at_call 17; refine (H1.out _ (alloc_only _)).mono ?_; rintro e w5 ⟨rfl, ho5, hr5⟩; have HB5 := Lib.hid (HAct.out w5 (ho5.mono (fun _ h => .inl (.inl h)))); have y1 : ∀ ob, (w5.alloc ob).cell? ⟨wr.heap.size, 1, none⟩ = some (.int .i64 c0) := fun ob => (HB5.out.alloc ob).cell 1; have y2 : ∀ ob, (w5.alloc ob).cell? ⟨wr.heap.size, 2, none⟩ = some (.int .i64 op) := fun ob => (HB5.out.alloc ob).cell 2; have hs5 : wr.heap.size < w5.heap.size := HB5.out.lt; clear ho5)
            | (go_at_call 18; refine (hr5.out _ (alloc_only _)).mono ?_; rintro e w6 ⟨rfl, ho6, hb6⟩; have HB6 := Lib.hid ((HB5.out.alloc (.cells #[.int .i64 sd, .int .i64 vb, .bool tn, .bool wg] 56)).only ho6 (by omega)); have HH6 := Lib.hid ((Blk.new w5 56 [.int .i64 sd, .int .i64 vb, .bool tn, .bool wg]).only ho6 (by omega)); have HW6 : Hid (Only (fun _ => False) W w6) := (by obtain ⟨T', l', hJ'⟩ := hb6.out; exact hJ'.only); clear ho6 y1 y2)
            | (go_at_call 9; refine (H2.out _ (HW6.out.alloc _)).mono ?_; rintro e w7 ⟨rfl, ho7⟩; have HH7 := Lib.hid ((HH6.out.alloc (.cells #[.bool tn, .bool wg] 59)).only ho7 (fun h => h)); have HQ7 := Lib.hid ((Blk.new w6 59 [.bool tn, .bool wg]).only ho7 (fun h => h)); have HB7 := Lib.hid ((HB6.out.alloc (.cells #[.bool tn, .bool wg] 59)).only ho7 (fun h => h)); have HW := Lib.hid ((hb6.out.same (alloc_only (.cells #[.bool tn, .bool wg] 59))).same ho7); have z0 := HH7.out.cell 0; have z1 := HH7.out.cell 1; have z2 := HH7.out.cell 2; have z3 := HH7.out.cell 3; have z4 := HQ7.out.cell 0; have z5 := HQ7.out.cell 1; simp only [List.getElem?_cons_zero, List.getElem?_cons_succ] at z0 z1 z2 z3 z4 z5; clear ho7)
            | fail)
          clear z0 z1 z2 z3 z4 z5 b1 b2 b3 b4 b5 hs5 HB5 HB6 HB7 HH6 HH7 HQ7 HW6 H1 H2 hr5 hb6
        rotate_left
        focus
          have e5 : (k == 0) = false := by simpa using hk0
          have e5' : decide (k = 0) = false := by simpa using hk0
          clear hk0 hHear
          obtain ⟨on, e6, e6'⟩ : ∃ on : Bool, (k == 1) = on ∧ decide (k = 1) = on := ⟨_, rfl, by rw [Bool.eq_iff_iff]; simp⟩
          obtain ⟨vb, num, errv, H1, H2⟩ := hAsk on
          have b1 : (num != num) = false := by simp
          go_wp2_with (first
            | ((with_reducible show wpList _ _ _ (⟨some 51, _, _, _, _, _⟩ :: _) _ _); refine wpList_load_mid rfl 54 _ rfl b (off + j * 3) rfl [.int .i64 k, .int .i64 c0, .int .i64 op] _ HRg.out Tryd.underlying54 rfl (by kernel_rfl) ?_)
            | (go_at_call 19; refine (H1.out _ (alloc_only _)).mono ?_; rintro e w5 ⟨rfl, ho5, hr5⟩; have HB5 := Lib.hid (HAct.out w5 (ho5.mono (fun _ h => .inl (.inl h)))); have y0 : w5.cell? ⟨wr.heap.size, 0, none⟩ = some (.int .i64 k) := HB5.out.cell 0; have y1 : w5.cell? ⟨wr.heap.size, 1, none⟩ = some (.int .i64 c0) := HB5.out.cell 1; have y2 : w5.cell? ⟨wr.heap.size, 2, none⟩ = some (.int .i64 op) := HB5.out.cell 2; clear ho5)
            | (go_at_call 20; refine (hr5.out _ (Only.refl _ _)).mono ?_; rintro e w6 ⟨rfl, ho6, hb6⟩; have HB6 := Lib.hid (HB5.out.only ho6 (by omega)); have HW6 : Hid (Only (fun _ => False) W w6) := (by obtain ⟨T', l', hJ'⟩ := hb6.out; exact hJ'.only); clear ho6 y0 y1 y2)
            | (go_at_call 9; refine (H2.out _ HW6.out).mono ?_; rintro e w7 ⟨rfl, ho7⟩; have HW := Lib.hid (hb6.out.same ho7); clear ho7)
            | fail)
          clear b1 HB5 HB6 HW6 H1 H2 hr5 hb6 e6 e6' hAsk
        all_goals
          go_roundw
          case rel => exact ⟨j + 1, by omega, by go_num, HW.out⟩
          case measure => simp [intOf]; omega
      · obtain rfl : j = n := by omega
        obtain ⟨T, l1, hJ⟩ := hrel.out
        have HJ := Lib.hid hJ
        have HP1 := Lib.hid (suTab_any hJ.t)
        have HR1 : Hid (∀ W', Only (fun _ => False) wr W' → Calls Tryd.prog 22 #[.pointer (some ⟨r, 0, none⟩)] W' fun e w' => ∃ A n c, e = .returned (.slice A n c) ∧ EnAt w' A n (tbRep T) ∧ Only (fun _ => False) W' w') := fun W' ho => rsuTab_any (HJ.out.f.same ho) HJ.out.rows
        have HNil := Lib.hid (fun W => suTab_nil W)
        clear hrel hjn hj hJ
        go_wp2_with (first
          | ((with_reducible show Calls _ _ #[.pointer none] _ _); refine (HNil.out _).mono ?_; rintro e w9 ⟨rfl, e9⟩; subst w9)
          | (go_at_call 21; refine HP1.out.mono ?_; rintro e w2 ⟨A1, k1, e1, rfl, hl1, hk1, ho⟩; have HO2 := Lib.hid ho; have HL1 := Lib.hid hl1; have HK1 := Lib.hid hk1; clear ho hl1 hk1)
          | (go_at_call 6; refine (suOf_any HL1.out (by have := HK1.out; omega)).mono ?_; rintro e w3 ⟨A2, c2, rfl, hl2, ho⟩; have HO3 := Lib.hid (HO2.out.trans ho (fun _ h => h.elim)); have HL2 := Lib.hid hl2; clear ho hl2)
          | (go_at_call 22; refine (HR1.out _ HO3.out).mono ?_; rintro e w4 ⟨A3, k3, c3, rfl, hl3, ho⟩; have HO4 := Lib.hid (HO3.out.trans ho (fun _ h => h.elim)); have HL2' := Lib.hid (HL2.out.same ho); obtain rfl : k3 = k1 := (by have h1 := hl3.1; have h2 := HL2.out.1; omega); have HL3 := Lib.hid hl3; clear ho hl3)
          | (go_at_call 13; refine (suSame_any HL2'.out HL3.out (by have := HK1.out; omega)).mono ?_; rintro e w5 ⟨rfl, ho⟩; have HO5 := Lib.hid (HO4.out.trans ho (fun _ h => h.elim)); clear ho)
          | fail)
        go_ret
        exact ⟨rfl, HJ.out.only.trans HO5.out (fun _ h => h.elim)⟩

theorem statusTables_facts {W : World} (h : laidMetH Tryd.prog Rows.statusTablesRow.laid W) : (TbW W ∧ CdW W) ∧ ∃ es, ErrsAt W es := by
  rw [MakeChecks.laidMetH_plain _ _ _ (by kernel_rfl)] at h
  have h : laidMet Tryd.prog Rows.statusTablesRow.laid W := h
  refine ⟨⟨tb_facts (nm1 := "*errors.errorString") (nm2 := "*errors.errorString") (nm3 := "*errors.errorString") (nm4 := "*errors.errorString") h (by simp [Rows.statusTablesRow, Rows.laid_truchman_api_ErrForm]; rfl) (by simp [Rows.statusTablesRow, Rows.laid_truchman_api_ErrState]; rfl) (by simp [Rows.statusTablesRow]) (by simp [Rows.statusTablesRow, Rows.laid_truchman_api_ErrKind]; rfl) (by simp [Rows.statusTablesRow, Rows.laid_truchman_api_ErrRange]; rfl) (by simp [Rows.statusTablesRow]),
    cd_facts h (by simp [Rows.statusTablesRow, Rows.laid_truchman_codes_commandWords, texts, cmdWords]) (by simp [Rows.statusTablesRow, Rows.laid_truchman_codes_optionWords, texts, optWords]) (by simp [Rows.statusTablesRow, Rows.laid_internal_strconv_uint64pow10, Lib.tabData, Lib.pow10Tab]; rfl)⟩, ?_⟩
  exact errs_mid 3 h (by kernel_rfl) (by
    intro x hx
    simp only [Rows.statusTablesRow, List.drop_succ_cons, List.drop_zero, List.take_succ_cons, List.take_zero, List.mem_cons, List.not_mem_nil, or_false] at hx
    rcases hx with rfl | rfl | rfl | rfl | rfl | rfl | rfl | rfl | rfl | rfl | rfl | rfl | rfl | rfl | rfl | rfl <;> exact ⟨_, rfl⟩)

theorem statusTables_walk (W : World) {P : Po} (hP : P.At W) {H : Type} {enc : TypeId × Value → H} {f0 : Nat} {A : Option Addr} {n c : Nat} {x : DataW H × List MemPlace} (hf : DataW.trod enc Tryd.prog W 0 (fun _ => true) true f0 46 [.slice A n c] = some x)
    (hF : (TbW W ∧ CdW W) ∧ ∃ es, ErrsAt W es) : Calls Tryd.prog 4 #[P.val, .slice A n c] W (Fine W) := by
  obtain ⟨⟨hT, hC⟩, es, hE⟩ := hF
  obtain ⟨_, _, l, hl⟩ := open_acts hf
  by_cases h : 40 < n ∨ 40 < P.n1 ∨ 40 < P.n2
  · exact stables_long hC P A n c h
  · exact stables_ok hT hC hE hP hl (by omega) (by omega) (by omega)
end Go.Proofs.YthbmhoeaimdjmaaDoor
