/- TableActs, walked. -/
import Derived.Test.YtpobglejobgmlaaDoorTbTA
import Derived.Deep.RegionHeld3
import Derived.BigQuiet
namespace Go.Proofs.YtpobglejobgmlaaDoor
open Go Go.RowKit
set_option maxRecDepth 100000
set_option maxHeartbeats 4000000

theorem Jt.start {W F : World} {p r : Nat} {P : Po} (ho : Only (fun _ => False) W F) (ht : TbAt F p (agOf P.us P.hims) Tb.zero) (hb : Blk F r 32 [.slice P.a1 P.n1 P.c1, .slice P.a2 P.n2 P.c2, .slice none 0 0, .int .i64 0, .int .i64 0, .int .i64 0]) (hpr : r ≠ p) (hp : W.heap.size ≤ p) (hr : W.heap.size ≤ r) : Jt W F p r P 0 Tb.zero [] :=
  ⟨ht, ⟨none, 0, 0, hb, rfl, own_nil _ _ _ _⟩, rowsAre_nil, hpr, ⟨hp, hr⟩, ho, Nat.le_refl _, Nat.le_refl _, Nat.le_refl _, Nat.le_refl _⟩
theorem made2 {P : Prop} {C G : Nat → Nat → World → Prop} (k : (∀ p r F, C p r F → G p r F) → P) (h : ∀ p r F, C p r F → G p r F) : P := k h

theorem acts_ok {W : World} {es : List Addr} (hT : TbW W) (hE : ErrsAt W es) {P : Po} (hP : P.At W) {A : Option Addr} {n c : Nat} {l : List Ac} (hA : AcAt W A n l) (h0 : n ≤ 40) (h1 : P.n1 ≤ 40) (h2 : P.n2 ≤ 40) :
    Calls Tryd.prog 3 #[P.val, .slice A n c] W (Fine W) := by
  obtain ⟨a1, n1, c1, a2, n2, c2, us, hims⟩ := P
  simp only [Po.val] at h1 h2 ⊢
  have d0 : decide ((40 : Int) < (n : Int)) = false := by simp; omega
  have d1 : decide ((40 : Int) < (n1 : Int)) = false := by simp; omega
  have d2 : decide ((40 : Int) < (n2 : Int)) = false := by simp; omega
  have HT := Lib.hid hT
  have HE := Lib.hid hE
  have HA := Lib.hid hA
  have HP := Lib.hid hP
  have HNew : Hid (∀ w, Only (fun _ => False) W w → Calls Tryd.prog 7 #[.agg #[.slice a1 n1 c1, .slice a2 n2 c2]] w fun e w' => ∃ p, e = .returned (.pointer (some ⟨p, 0, none⟩)) ∧ TbAt w' p (agOf us hims) Tb.zero ∧ w.heap.size ≤ p ∧ Only (fun _ => False) w w') := fun w ho =>
    new_any c1 c2 (HP.out.1.same ho) (HP.out.2.same ho) (by omega) (by omega)
  have hn40 := h0
  have HN1 := Lib.hid h1
  have HN2 := Lib.hid h2
  clear hT hE hA hP h0 h1 h2
  go_enter Tryd.func3, Tryd.ntmps3
  go_wp2_with (first
    | (go_at_call 6; refine (alive_any (HT.out.only (alloc_only _))).mono ?_; rintro e w1 ⟨rfl, ho1⟩; have HB1 := Lib.hid ((Blk.new W 24 [.slice a1 n1 c1, .slice a2 n2 c2]).only ho1 (fun h => h)); have HO1 := Lib.hid ((alloc_only (W := W) _).trans ho1 (fun _ h => h.elim)); have g0 := HB1.out.cell 0; have g1 := HB1.out.cell 1; simp only [List.getElem?_cons_zero, List.getElem?_cons_succ] at g0 g1; clear ho1)
    | fail)
  obtain ⟨N, hN⟩ : ∃ N, N = W.heap.size := ⟨_, rfl⟩
  rw [← hN] at HB1 g0 g1 ⊢
  have HS : Hid (∀ w, Only (fun _ => False) w1 w → w.cell? ⟨N, 0, none⟩ = some (.slice a1 n1 c1) ∧ w.cell? ⟨N, 1, none⟩ = some (.slice a2 n2 c2)) := fun w ho => ⟨(HB1.out.only ho (fun h => h)).cell 0, (HB1.out.only ho (fun h => h)).cell 1⟩
  have HNW : Hid (W.heap.size = N) := hN.symm
  clear g0 g1 hN
  apply made2 (C := fun p r F => Hid (Jt W F p r ⟨a1, n1, c1, a2, n2, c2, us, hims⟩ 0 Tb.zero []))
  case k =>
    intro key
    go_region_held3 (fun w => w.cell? ⟨N, 0, none⟩ = some (.slice a1 n1 c1) ∧ w.cell? ⟨N, 1, none⟩ = some (.slice a2 n2 c2))
      (first | exact HS.out _ (Only.refl _ _).drew | exact HS.out _ ((Only.refl _ _).alloc _).drew | exact HS.out _ HOa.out | exact HS.out _ (HOa.out.alloc _))
      (first
        | ((with_reducible show Calls _ _ _ (World.drew w1) _); refine (HNew.out _ HO1.out.drew).mono ?_; rintro e w2 ⟨p, rfl, ht2, hp2, ho⟩; have HOa := Lib.hid (((Only.refl (fun _ => False) w1).drew).trans ho (fun _ h => h.elim)); have HT2 := Lib.hid ht2; have hpl := ht2.lt; clear ht2 ho)
        | ((with_reducible show Calls _ _ _ (World.drew (World.alloc _ _)) _); refine (HNew.out _ (HO1.out.alloc _).drew).mono ?_; rintro e w2 ⟨p, rfl, ht2, hp2, ho⟩; have HOa := Lib.hid ((((Only.refl (fun _ => False) w1).alloc _).drew).trans ho (fun _ h => h.elim)); have HR2 := Lib.hid ((Blk.new w1 32 [.slice a1 n1 c1, .slice a2 n2 c2, .slice none 0 0, .int .i64 0, .int .i64 0, .int .i64 0]).drew.only ho (fun h => h)); have HT2 := Lib.hid ht2; have hpl := HR2.out.lt; (try simp at hp2); clear ht2 ho))
    all_goals (first
      | (obtain ⟨F, hF⟩ : ∃ F, F = w2.alloc (.cells #[.slice a1 n1 c1, .slice a2 n2 c2, .slice none 0 0, .int .i64 0, .int .i64 0, .int .i64 0] 32) := ⟨_, rfl⟩
         have H0 : Hid (Jt W F p w2.heap.size ⟨a1, n1, c1, a2, n2, c2, us, hims⟩ 0 Tb.zero []) := by
           rw [hF]
           exact Jt.start ((HO1.out.trans HOa.out (fun _ h => h.elim)).alloc _) (HT2.out.same (alloc_only _)) (Blk.new w2 _ [.slice a1 n1 c1, .slice a2 n2 c2, .slice none 0 0, .int .i64 0, .int .i64 0, .int .i64 0]) (by omega) (Nat.le_trans HO1.out.size hp2) (HO1.out.trans HOa.out (fun _ h => h.elim)).size
         rw [← hF]
         obtain ⟨r, hr⟩ : ∃ r, r = w2.heap.size := ⟨_, rfl⟩
         rw [← hr] at H0 ⊢
         exact key p r F H0)
      | (exact key _ _ _ (Jt.start (HO1.out.trans HOa.out (fun _ h => h.elim)) HT2.out HR2.out (by omega) (by have := HO1.out.size; omega) HO1.out.size)))
  case h =>
    intro p r F H0
    go_wp2
    go_loopw [52] (fun i w => ∃ j : Nat, j ≤ n ∧ i = .int .i64 (j : Int) ∧ Hid (Bothly W w p r ⟨a1, n1, c1, a2, n2, c2, us, hims⟩ j)) (fun i _ => n - (intOf i).toNat)
    case atStart => exact ⟨0, by omega, rfl, _, _, H0.out⟩
    case round =>
      clear H0
      obtain ⟨j, hj, rfl, hrel⟩ := hrel
      by_cases hjn : j < n
      · obtain ⟨x, hx⟩ : ∃ x, l[j]? = some x := ⟨_, List.getElem?_eq_getElem (by rw [HA.out.1]; exact hjn)⟩
        obtain ⟨T, l1, hJ⟩ := hrel.out
        obtain ⟨b, off, rfl, hb, hrange, _⟩ := (HA.out.same hJ.only).2 j x hx
        have hjn2 : (j : Int) < (n : Int) := by omega
        obtain ⟨k, c0, op⟩ := x
        have hrg : wr.rangeAt b (off + j * 3) [.int .i64 k, .int .i64 c0, .int .i64 op] := hrange
        have HRg := Lib.hid hrg
        have HJ := Lib.hid hJ
        have hpl := hJ.t.lt
        have hrl : r < wr.heap.size := by obtain ⟨cs, h⟩ := hJ.f.blk; exact h.lt
        clear hx hrange hrg hJ hrel
        have HAct : Hid (∀ w, Only (fun i => i = p ∨ i = r) (wr.alloc (.cells #[.int .i64 k, .int .i64 c0, .int .i64 op] 34)) w → Blk w wr.heap.size 34 [.int .i64 k, .int .i64 c0, .int .i64 op]) := fun w ho => (Blk.new wr 34 [.int .i64 k, .int .i64 c0, .int .i64 op]).only ho (by omega)
        have hHear := HJ.out.hear HT.out HE.out HP.out (show n1 ≤ 1000 by have := HN1.out; omega) (show n2 ≤ 1000 by have := HN2.out; omega) (by omega) c0 op
        have hAsk := HJ.out.ask HT.out HE.out (by omega) c0 op
        by_cases hk0 : k = 0
        focus
          have e5 : (k == 0) = true := by simpa using hk0
          have e5' : decide (k = 0) = true := by simpa using hk0
          obtain ⟨sd, vb, num, tn, wg, errv, H1, H2⟩ := hHear
          have b1 : (num != num) = false := by simp
          have b2 : (sd != sd) = false := by simp
          have b3 : (vb != vb) = false := by simp
          have b4 : (tn != tn) = false := by simp
          have b5 : (wg != wg) = false := by simp
          clear hAsk hk0
          go_wp2_with (first
            | ((with_reducible show wpList _ _ _ (⟨some 55, _, _, _, _, _⟩ :: _) _ _); refine wpList_load_mid rfl 34 _ rfl b (off + j * 3) rfl [.int .i64 k, .int .i64 c0, .int .i64 op] _ HRg.out Tryd.underlying34 rfl (by kernel_rfl) ?_)
            | (go_at_call 8; refine (H1.out _ (alloc_only _)).mono ?_; rintro e w5 ⟨rfl, ho5, hr5⟩; have HB5 := Lib.hid (HAct.out w5 (ho5.mono (fun _ h => .inl (.inl h)))); have y1 : ∀ ob, (w5.alloc ob).cell? ⟨wr.heap.size, 1, none⟩ = some (.int .i64 c0) := fun ob => (HB5.out.alloc ob).cell 1; have y2 : ∀ ob, (w5.alloc ob).cell? ⟨wr.heap.size, 2, none⟩ = some (.int .i64 op) := fun ob => (HB5.out.alloc ob).cell 2; have hs5 : wr.heap.size < w5.heap.size := HB5.out.lt; clear ho5)
            | (go_at_call 9; refine (hr5.out _ (alloc_only _)).mono ?_; rintro e w6 ⟨rfl, ho6, hb6⟩; have HB6 := Lib.hid ((HB5.out.alloc (.cells #[.int .i64 sd, .int .i64 vb, .bool tn, .bool wg] 36)).only ho6 (by omega)); have HH6 := Lib.hid ((Blk.new w5 36 [.int .i64 sd, .int .i64 vb, .bool tn, .bool wg]).only ho6 (by omega)); have HW6 : Hid (Only (fun _ => False) W w6) := (by obtain ⟨T', l', hJ'⟩ := hb6.out; exact hJ'.only); clear ho6 y1 y2)
            | (go_at_call 10; refine (H2.out _ (HW6.out.alloc _)).mono ?_; rintro e w7 ⟨rfl, ho7⟩; have HH7 := Lib.hid ((HH6.out.alloc (.cells #[.bool tn, .bool wg] 41)).only ho7 (fun h => h)); have HQ7 := Lib.hid ((Blk.new w6 41 [.bool tn, .bool wg]).only ho7 (fun h => h)); have HB7 := Lib.hid ((HB6.out.alloc (.cells #[.bool tn, .bool wg] 41)).only ho7 (fun h => h)); have HW := Lib.hid ((hb6.out.same (alloc_only (.cells #[.bool tn, .bool wg] 41))).same ho7); have z0 := HH7.out.cell 0; have z1 := HH7.out.cell 1; have z2 := HH7.out.cell 2; have z3 := HH7.out.cell 3; have z4 := HQ7.out.cell 0; have z5 := HQ7.out.cell 1; simp only [List.getElem?_cons_zero, List.getElem?_cons_succ] at z0 z1 z2 z3 z4 z5; clear ho7)
            | fail)
          have HY : Hid (∀ w, Only (fun _ => False) w7 w → w.cell? ⟨wr.heap.size, 2, none⟩ = some (.int .i64 op)) := fun w ho => (HB7.out.only ho (fun h => h)).cell 2
          clear z0 z1 z2 z3 z4 z5 b1 b2 b3 b4 b5 hs5 HB5 HB6 HB7 HH6 HH7 HQ7 HW6 H1 H2 hr5 hb6
        rotate_left
        focus
          have e5 : (k == 0) = false := by simpa using hk0
          have e5' : decide (k = 0) = false := by simpa using hk0
          clear hk0 hHear
          by_cases hk12 : k = 1 ∨ k = 2
          focus
            obtain ⟨on, e6, e6', e7, e7'⟩ : ∃ on : Bool, (k == 1) = on ∧ decide (k = 1) = on ∧ (k == 2) = !on ∧ decide (k = 2) = !on := by
              rcases hk12 with rfl | rfl
              · exact ⟨true, rfl, rfl, rfl, rfl⟩
              · exact ⟨false, rfl, rfl, rfl, rfl⟩
            clear hk12
            obtain ⟨vb, num, errv, H1, H2⟩ := hAsk on
            have b1 : (num != num) = false := by simp
            have b3 : (vb != vb) = false := by simp
            cases on
            all_goals
              simp only [Bool.not_true, Bool.not_false] at e7 e7'
              go_wp2_with (first
                | ((with_reducible show wpList _ _ _ (⟨some 55, _, _, _, _, _⟩ :: _) _ _); refine wpList_load_mid rfl 34 _ rfl b (off + j * 3) rfl [.int .i64 k, .int .i64 c0, .int .i64 op] _ HRg.out Tryd.underlying34 rfl (by kernel_rfl) ?_)
                | (go_at_call 11; refine (H1.out _ (alloc_only _)).mono ?_; rintro e w5 ⟨rfl, ho5, hr5⟩; have HB5 := Lib.hid (HAct.out w5 (ho5.mono (fun _ h => .inl (.inl h)))); have y0 : w5.cell? ⟨wr.heap.size, 0, none⟩ = some (.int .i64 k) := HB5.out.cell 0; have y1 : w5.cell? ⟨wr.heap.size, 1, none⟩ = some (.int .i64 c0) := HB5.out.cell 1; have y2 : w5.cell? ⟨wr.heap.size, 2, none⟩ = some (.int .i64 op) := HB5.out.cell 2; clear ho5)
                | (go_at_call 12; refine (hr5.out _ (Only.refl _ _)).mono ?_; rintro e w6 ⟨rfl, ho6, hb6⟩; have HB6 := Lib.hid (HB5.out.only ho6 (by omega)); have HW6 : Hid (Only (fun _ => False) W w6) := (by obtain ⟨T', l', hJ'⟩ := hb6.out; exact hJ'.only); clear ho6 y0 y1 y2)
                | (go_at_call 10; refine (H2.out _ HW6.out).mono ?_; rintro e w7 ⟨rfl, ho7⟩; have HB7 := Lib.hid (HB6.out.only ho7 (fun h => h)); have HW := Lib.hid (hb6.out.same ho7); clear ho7)
                | fail)
              have HY : Hid (∀ w, Only (fun _ => False) w7 w → w.cell? ⟨wr.heap.size, 2, none⟩ = some (.int .i64 op)) := fun w ho => (HB7.out.only ho (fun h => h)).cell 2
              clear b1 b3 HB5 HB6 HB7 HW6 H1 H2 hr5 hb6 e6 e6' e7 e7' hAsk
          rotate_left 2
          focus
            have e6 : (k == 1) = false := by simp; omega
            have e6' : decide (k = 1) = false := by simp; omega
            have e7 : (k == 2) = false := by simp; omega
            have e7' : decide (k = 2) = false := by simp; omega
            clear hk12 hAsk
            go_wp2_with (first
              | ((with_reducible show wpList _ _ _ (⟨some 55, _, _, _, _, _⟩ :: _) _ _); refine wpList_load_mid rfl 34 _ rfl b (off + j * 3) rfl [.int .i64 k, .int .i64 c0, .int .i64 op] _ HRg.out Tryd.underlying34 rfl (by kernel_rfl) ?_)
              | fail)
            obtain ⟨w7, hw7⟩ : ∃ w7, w7 = wr.alloc (.cells #[.int .i64 k, .int .i64 c0, .int .i64 op] 34) := ⟨_, rfl⟩
            have HW : Hid (Bothly W w7 p r ⟨a1, n1, c1, a2, n2, c2, us, hims⟩ (j + 1)) := by rw [hw7]; exact (Bothly.same ⟨T, l1, HJ.out⟩ (alloc_only _)).later (by omega)
            have HY : Hid (∀ w, Only (fun _ => False) w7 w → w.cell? ⟨wr.heap.size, 2, none⟩ = some (.int .i64 op)) := fun w ho => by
              rw [hw7] at ho
              exact (HAct.out w (ho.mono (fun _ h => h.elim))).cell 2
            rw [← hw7]
            clear hw7 e6 e6' e7 e7'
        all_goals
          clear HAct HJ HRg
          obtain ⟨T', l', hJ'⟩ := HW.out
          have HJ' := Lib.hid hJ'
          obtain ⟨A', n', c', hf⟩ := hJ'.f
          have HF := Lib.hid hf
          obtain ⟨th, hth⟩ : ∃ x, x = (T'.heard : Int) := ⟨_, rfl⟩
          obtain ⟨ta, hta⟩ : ∃ x, x = (T'.asked : Int) := ⟨_, rfl⟩
          obtain ⟨ts, hts⟩ : ∃ x, x = (T'.sent : Int) := ⟨_, rfl⟩
          have HCn := Lib.hid (counts_any hJ'.t)
          rw [← hth, ← hta, ← hts] at HCn
          have HFc : Hid (∀ w, Only (fun _ => False) w7 w → w.cell? ⟨r, 3, none⟩ = some (.int .i64 th) ∧ w.cell? ⟨r, 4, none⟩ = some (.int .i64 ta) ∧ w.cell? ⟨r, 5, none⟩ = some (.int .i64 ts)) := fun w ho => by
            have hb := HF.out.blk.only ho (fun h => h)
            rw [hth, hta, hts]
            exact ⟨hb.cell 3, hb.cell 4, hb.cell 5⟩
          obtain ⟨cb, hcb⟩ : ∃ x, x = calmT T'.st := ⟨_, rfl⟩
          have K1 : Hid (∀ w, Only (fun _ => False) w7 w → Calls Tryd.prog 14 #[.pointer (some ⟨p, 0, none⟩)] w fun e w' => e = .returned (.bool cb) ∧ Only (fun _ => False) w w') := fun w ho => by
            rw [hcb]; exact tcalm_any (HJ'.out.t.same ho)
          have K2 : Hid (∀ w, Only (fun _ => False) w7 w → Calls Tryd.prog 15 #[.pointer (some ⟨r, 0, none⟩)] w fun e w' => e = .returned (.bool cb) ∧ Only (fun _ => False) w w') := fun w ho => by
            rw [hcb, ← HJ'.out.rows.calmT]; exact rcalm_any (HJ'.out.f.same ho)
          have b1 : (th != th) = false := by simp
          have b2 : (ta != ta) = false := by simp
          have b3 : (ts != ts) = false := by simp
          have b4 : (cb != cb) = false := by simp
          clear hJ' hf hth hta hts hcb HF
          go_wp2_with (first
            | (go_at_call 13; refine HCn.out.mono ?_; rintro e w8 ⟨rfl, ho8⟩; obtain ⟨r3, r4, r5⟩ := HFc.out w8 ho8; have HO8 := Lib.hid ho8; clear ho8)
            | (go_at_call 14; refine (K1.out _ HO8.out).mono ?_; rintro e w9 ⟨rfl, ho9⟩; have HO9 := Lib.hid (HO8.out.trans ho9 (fun _ h => h.elim)); clear ho9)
            | (go_at_call 15; refine (K2.out _ HO9.out).mono ?_; rintro e w10 ⟨rfl, ho10⟩; have HO10 := Lib.hid (HO9.out.trans ho10 (fun _ h => h.elim)); clear ho10)
            | fail)
          clear r3 r4 r5 b1 b2 b3 b4 K1 K2 HCn HFc HO8 HO9
          obtain ⟨N2, hN2⟩ : ∃ N2, N2 = wr.heap.size := ⟨_, rfl⟩
          rw [← hN2] at HY ⊢
          clear hN2 hpl hrl
          obtain ⟨Wb, hWb⟩ : ∃ Wb, Wb = wr := ⟨_, rfl⟩
          subst hWb
          go_loopw [181] (fun kv w => ∃ s : Nat, kv = .int .i64 (s : Int) ∧ s ≤ 2 ∧ Hid (Only (fun _ => False) w7 w)) (fun kv _ => 2 - (intOf kv).toNat)
          case atStart => exact ⟨0, rfl, by omega, HO10.out⟩
          case round =>
            clear HO10
            obtain ⟨s, rfl, hs, hrel⟩ := hrel
            by_cases hs2 : s < 2
            · have hs2' : (s : Int) < 2 := by omega
              obtain ⟨kk, hkk⟩ : ∃ x, x = ((T'.get (s : Int) op).kind : Int) := ⟨_, rfl⟩
              obtain ⟨oo, hoo⟩ : ∃ x, x = (T'.get (s : Int) op).opp := ⟨_, rfl⟩
              obtain ⟨bo, hbo⟩ : ∃ x, x = decide (T'.get (s : Int) op = .yes) := ⟨_, rfl⟩
              have S1 : Hid (∀ w, Only (fun _ => False) w7 w → Calls Tryd.prog 16 #[.pointer (some ⟨p, 0, none⟩), .int .i64 (s : Int), .int .i64 op] w fun e w' => e = .returned (.agg #[.int .i64 kk, .bool oo]) ∧ Only (fun _ => False) w w') := fun w ho => by
                rw [hkk, hoo]; exact state_any (HJ'.out.t.same ho) (s : Int) op
              have S2 : Hid (∀ w, Only (fun _ => False) w7 w → Calls Tryd.prog 17 #[.pointer (some ⟨r, 0, none⟩), .int .i64 (s : Int), .int .i64 op] w fun e w' => e = .returned (.agg #[.int .i64 kk, .bool oo]) ∧ Only (fun _ => False) w w') := fun w ho => by
                rw [hkk, hoo, ← HJ'.out.rows.get]; exact rstate_any (HJ'.out.f.same ho) (s : Int) op
              have S3 : Hid (∀ w, Only (fun _ => False) w7 w → Calls Tryd.prog 18 #[.pointer (some ⟨p, 0, none⟩), .int .i64 (s : Int), .int .i64 op] w fun e w' => e = .returned (.bool bo) ∧ Only (fun _ => False) w w') := fun w ho => by
                rw [hbo]; exact ton_any (HJ'.out.t.same ho) (s : Int) op
              have heq : ∀ W, (Op.equalIn 10000 52 (.agg #[.int .i64 kk, .bool oo]) (.agg #[.int .i64 kk, .bool oo])).run Tryd.prog W = .ok true W := fun W => by
                have := eq_rstate W kk kk oo oo
                rwa [decide_eq_true ⟨rfl, rfl⟩] at this
              have hgr := guard_rstate
              have hfd : ∀ W, (Instr.field 52 (.agg #[.int .i64 kk, .bool oo]) 0).run Tryd.prog W = .ok (.int .i64 kk) W := fun W => by kernel_rfl
              have hk1 : decide (kk = 1) = bo := by rw [hkk, hbo, kind_one]
              have hk2 : (kk == 1) = bo := hk1
              have hb1 : (bo != bo) = false := by simp
              have HYc : Hid (∀ w, Only (fun _ => False) w7 w → w.cell? ⟨N2, 2, none⟩ = some (.int .i64 op)) := HY
              clear hkk hoo hbo
              go_wp2
              go_region_held3 (fun w => w.cell? ⟨N2, 2, none⟩ = some (.int .i64 op))
                (first | exact HYc.out _ hrel.out.drew | exact HYc.out _ ho12.out | exact HYc.out _ ho13.out | exact HYc.out _ ho14.out | exact HYc.out _ ho15.out)
                (first
                  | (go_at_call 16; refine (S1.out _ hrel.out.drew).mono ?_; rintro e w12 ⟨rfl, ho⟩; have ho12 := Lib.hid (hrel.out.drew.trans ho (fun _ h => h.elim)); clear ho)
                  | (go_at_call 18; refine (S3.out _ ho13.out).mono ?_; rintro e w14 ⟨rfl, ho⟩; have ho14 := Lib.hid (ho13.out.trans ho (fun _ h => h.elim)); clear ho)
                  | (go_at_call 17; refine (S2.out _ ho14.out).mono ?_; rintro e w15 ⟨rfl, ho⟩; have ho15 := Lib.hid (ho14.out.trans ho (fun _ h => h.elim)); clear ho)
                  | (go_at_call 17; refine (S2.out _ ho12.out).mono ?_; rintro e w13 ⟨rfl, ho⟩; have ho13 := Lib.hid (ho12.out.trans ho (fun _ h => h.elim)); clear ho))
              go_wp2
              go_roundw
              case rel => exact ⟨s + 1, by go_num, by omega, ho15.out⟩
              case measure => simp [intOf]; omega
            · obtain rfl : s = 2 := by omega
              go_wp2
              go_roundw
              case rel => exact ⟨j + 1, by omega, by go_num, HW.out.same hrel.out⟩
              case measure => simp [intOf]; omega
      · obtain rfl : j = n := by omega
        obtain ⟨T, l1, hJ⟩ := hrel.out
        have HJ := Lib.hid hJ
        clear hrel hjn hj hJ
        have L1 : Hid (∀ s w, Only (fun _ => False) wr w → Calls Tryd.prog 20 #[.pointer (some ⟨p, 0, none⟩), .int .i64 s] w fun e w' => ∃ A n c, e = .returned (.slice A n c) ∧ n = (onL T s 256).length ∧ w'.ownsRow w.heap.size 3 1 (.slice A n c) n ((onL T s 256).map iv) ∧ Only (fun _ => False) w w') := fun s w ho => tlist_any (HJ.out.t.same ho) s
        have L2 : Hid (∀ s w, Only (fun _ => False) wr w → Calls Tryd.prog 21 #[.pointer (some ⟨r, 0, none⟩), .int .i64 s] w fun e w' => ∃ A n c, e = .returned (.slice A n c) ∧ n = (onL T s 256).length ∧ w'.ownsRow w.heap.size 3 1 (.slice A n c) n ((onL T s 256).map iv) ∧ Only (fun _ => False) w w') := fun s w ho => rlist_any (HJ.out.f.same ho) HJ.out.rows s
        have hl2 : (onL T 2 256).length = 0 := by
          have : onL T 2 256 = [] := by
            unfold onL
            rw [List.filter_eq_nil_iff.2 (fun o _ => by rw [Tb.get_no _ (by omega)]; decide)]
            rfl
          rw [this]; rfl
        have HL2 := Lib.hid hl2
        clear hl2
        go_wp2_with (first
          | ((with_reducible show Calls _ _ #[.pointer (some ⟨p, 0, none⟩), .int .i64 0] _ _); refine (L1.out 0 _ (Only.refl _ _)).mono ?_; rintro e w2 ⟨A1, k1, e1, rfl, hk1, hr1, ho⟩; have HO2 := Lib.hid ho; have HR1 := Lib.hid hr1; have HK1 := Lib.hid hk1; clear ho hr1 hk1)
          | ((with_reducible show Calls _ _ #[.pointer (some ⟨r, 0, none⟩), .int .i64 0] _ _); refine (L2.out 0 _ HO2.out).mono ?_; rintro e w3 ⟨A2, k2, e2, rfl, hk2, hr2, ho⟩; have HO3 := Lib.hid (HO2.out.trans ho (fun _ h => h.elim)); have HR1' := Lib.hid (own_same HR1.out ho); have HR2 := Lib.hid hr2; obtain rfl : k2 = k1 := hk2.trans HK1.out.symm; clear ho hr2 hk2)
          | ((with_reducible show Calls _ _ #[.slice A1 _ _, .slice A2 _ _] _ _); refine (same_any HR1'.out HR2.out).mono ?_; rintro e w4 ⟨rfl, ho⟩; have HO4 := Lib.hid (HO3.out.trans ho (fun _ h => h.elim)); clear ho)
          | ((with_reducible show Calls _ _ #[.pointer (some ⟨p, 0, none⟩), .int .i64 1] _ _); refine (L1.out 1 _ HO4.out).mono ?_; rintro e w5 ⟨A3, k3, e3, rfl, hk3, hr3, ho⟩; have HO5 := Lib.hid (HO4.out.trans ho (fun _ h => h.elim)); have HR3 := Lib.hid hr3; have HK3 := Lib.hid hk3; clear ho hr3 hk3)
          | ((with_reducible show Calls _ _ #[.pointer (some ⟨r, 0, none⟩), .int .i64 1] _ _); refine (L2.out 1 _ HO5.out).mono ?_; rintro e w6 ⟨A4, k4, e4, rfl, hk4, hr4, ho⟩; have HO6 := Lib.hid (HO5.out.trans ho (fun _ h => h.elim)); have HR3' := Lib.hid (own_same HR3.out ho); have HR4 := Lib.hid hr4; obtain rfl : k4 = k3 := hk4.trans HK3.out.symm; clear ho hr4 hk4)
          | ((with_reducible show Calls _ _ #[.slice A3 _ _, .slice A4 _ _] _ _); refine (same_any HR3'.out HR4.out).mono ?_; rintro e w8 ⟨rfl, ho⟩; have HO8 := Lib.hid (HO6.out.trans ho (fun _ h => h.elim)); clear ho)
          | ((with_reducible show Calls _ _ #[.pointer (some ⟨p, 0, none⟩), .int .i64 2] _ _); refine (L1.out 2 _ HO8.out).mono ?_; rintro e w9 ⟨A5, k5, e5, rfl, hk5, hr5, ho⟩; have HO9 := Lib.hid (HO8.out.trans ho (fun _ h => h.elim)); obtain rfl : k5 = 0 := hk5.trans HL2.out; clear ho hr5 hk5)
          | fail)
        go_ret
        exact ⟨rfl, HJ.out.only.trans HO9.out (fun _ h => h.elim)⟩
end Go.Proofs.YtpobglejobgmlaaDoor
