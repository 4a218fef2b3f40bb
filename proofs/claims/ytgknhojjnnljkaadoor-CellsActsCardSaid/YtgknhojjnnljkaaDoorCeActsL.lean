/- CellsActs, walked: where both screens stand. -/
import Derived.Test.YtgknhojjnnljkaaDoorCeActsT
import Derived.Deep.RegionHeld3
import Derived.Deep.CutRange
import Derived.Deep.CutBlock
namespace Go.Proofs.YtgknhojjnnljkaaDoor
open Go Go.ChangeShapes Go.WideShapes Go.ChangeAt Go.RowKit
set_option maxRecDepth 100000
set_option maxHeartbeats 4000000

theorem acts_ok {w : World} {es : List Addr} (hes : ErrsAt w es) {c R : Nat} (hc1 : 1 ≤ c) (hc2 : c ≤ 40) (hR1 : 1 ≤ R) (hR2 : R ≤ 40) {A : Option Addr} {n : Nat} (cap : Nat) {l : List CAc} (hl : CAcAt w A n l) (hn : n ≤ 20) (f0 f1 : Int) (hf0 : In64 f0) (hf1 : In64 f1) :
    Calls Tryd.prog 3 #[pairV (c : Int) (R : Int), .slice A n cap, pairV f0 f1] w (Fine w) := by
  have HC := two_pairs w (c : Int) (R : Int) f0 f1
  have HO := Lib.hid (two_only w (c : Int) (R : Int) f0 f1)
  have hsz : ((w.alloc (.cells #[.int .i64 (c : Int), .int .i64 (R : Int)] 22)).alloc (.cells #[.int .i64 f0, .int .i64 f1] 22)).heap.size = w.heap.size + 2 := by simp
  have HSz := Lib.hid hsz
  have HBk : Hid (Blk ((w.alloc (.cells #[.int .i64 (c : Int), .int .i64 (R : Int)] 22)).alloc (.cells #[.int .i64 f0, .int .i64 f1] 22)) (w.heap.size + 1) 22 [.int .i64 f0, .int .i64 f1]) := Blk.new' _ _ [.int .i64 f0, .int .i64 f1] (by simp)
  have HA := Lib.hid (fun W => ce_alive W)
  have HN := Lib.hid (fun W => new_ok (w := W) hc1 (show c ≤ 60 by omega) hR1 (show R ≤ 60 by omega))
  have HRn := Lib.hid (fun W => rnew_ok (w := W) hc1 (show c ≤ 60 by omega) hR1 (show R ≤ 60 by omega))
  have HNil := Lib.hid (fun W => num_nil W)
  have HE := Lib.hid hes
  have HL := Lib.hid hl
  have HF0 := Lib.hid hf0
  have HF1 := Lib.hid hf1
  have i1 : ¬ (20 : Int) < (n : Int) := by omega
  have i3 : ¬ (40 : Int) < (c : Int) := by omega
  have i4 : ¬ (40 : Int) < (R : Int) := by omega
  clear hsz hes hl hf0 hf1
  go_enter Tryd.func3, Tryd.ntmps3
  go_wp2_with (first
    | (go_at_call 6; (with_reducible refine (HA.out _).mono ?_); rintro e w1 ⟨rfl, ho1⟩; obtain ⟨c0, c1⟩ := HC.out w1 ho1.out; have HO1 := Lib.hid (HO.out.trans ho1.out (fun _ h => h.elim)); have HB1 := Lib.hid (HBk.out.only ho1.out (fun h => h)); clear HA)
    | (go_at_call 7; (with_reducible refine (HN.out _).mono ?_); rintro e w2 ⟨p, F, rfl, hs2, hF2, ho2⟩; obtain ⟨c2, c3⟩ := HC.out w2 (ho1.out.trans ho2.out (fun _ h => h.elim)); have HB2 := Lib.hid (HB1.out.only ho2.out (fun h => h)); clear HN)
    | (go_at_call 8; (with_reducible refine (HRn.out _).mono ?_); rintro e w3 ⟨p2, g, cp, rfl, hp2, hb3, hn3, ho3⟩; have HB3 := Lib.hid (HB2.out.only ho3.out (fun h => h)); have HP2 := Lib.hid hp2; clear HRn hp2)
    | (go_at_call 9; (with_reducible refine (HNil.out _).mono ?_); rintro e w' ⟨rfl, e2⟩; subst w')
    | fail)
  have H0 : Hid (ARnd w p p2 f0 f1 w3) := ⟨⟨_, ar_new hc1 (by omega) hR1 (by omega) HO1.out (by have := HSz.out; have := ho1.out.size; omega) hs2.out hF2.out ho2.out HP2.out hb3.out hn3.out ho3.out, hc2, by show (List.replicate R (blank c)).length ≤ 40; rw [List.length_replicate]; exact hR2⟩, HB3.out⟩
  clear HC HO HSz HBk HO1 HB1 HB2 HB3 HP2 ho1 hs2 hF2 ho2 hb3 hn3 ho3 c0 c1 c2 c3 HNil i3 i4
  go_loopw [77] (fun i W => ∃ k : Nat, k ≤ n ∧ i = .int .i64 (k : Int) ∧ Hid (ARnd w p p2 f0 f1 W)) (fun i _ => n - (intOf i).toNat)
  case atStart => exact ⟨0, Nat.zero_le _, rfl, H0⟩
  case round =>
    clear H0
    obtain ⟨j, hj, rfl, HM⟩ := hrel
    by_cases hlt : j < n
    · have hlt2 : (j : Int) < (n : Int) := by omega
      obtain ⟨S, ha0, hS1, hS2⟩ := HM.out.ar
      obtain ⟨x, hx⟩ : ∃ x, l[j]? = some x := ⟨_, List.getElem?_eq_getElem (by rw [HL.out.1]; exact hlt)⟩
      have hok0 := (HL.out.2 j x hx).2.src
      obtain ⟨⟨bb, off, rfl, hbl, hrg⟩, hok⟩ := (HL.out.same ha0.o).2 j x hx
      have HRg := Lib.hid hrg
      obtain ⟨ak, an, am, aA, al, acp, xs⟩ := x
      have hn64 : In64 an := hok.i1
      have hm64 : In64 am := hok.i2
      have HSrc : Hid (Src w aA al xs) := hok0
      have HT0 := Lib.hid (ATail.new ha0 hS1 hS2 HM.out.b ⟨ak, an, am, aA, al, acp, xs⟩)
      clear hrg hx hok hok0 hbl ha0 HM hS1 hS2
      go_upto_region 14 with (first
        | ((with_reducible show wpList _ _ _ (⟨some 80, _, _, _, _, _⟩ :: _) _ _); refine wpList_load_mid rfl 36 _ rfl bb (off + j * 4) rfl (CAc.cs ⟨ak, an, am, aA, al, acp, xs⟩) _ HRg.out Tryd.underlying36 rfl size_cact ?_)
        | fail)
      generalize wr.alloc (.cells #[.int .i64 ak, .int .i64 an, .int .i64 am, .slice aA al acp] 36) = W0 at *
      generalize wr.heap.size = g at *
      clear HRg
      have a0 : W0.cell? ⟨g, 0, none⟩ = some (.int .i64 ak) := HT0.out.x.cell 0
      have a1 : W0.cell? ⟨g, 1, none⟩ = some (.int .i64 an) := HT0.out.x.cell 1
      have a2 : W0.cell? ⟨g, 2, none⟩ = some (.int .i64 am) := HT0.out.x.cell 2
      have a3 : W0.cell? ⟨g, 3, none⟩ = some (.slice aA al acp) := HT0.out.x.cell 3
      obtain ⟨E, hE⟩ : ∃ E, E = decide (early ⟨ak, an, am, aA, al, acp, xs⟩) := ⟨_, rfl⟩
      have HEd := Lib.hid hE
      clear hE hlt2
      go_cut [109] from 81 to 108 (fun v W => v = .bool E ∧ W = W0)
      case first =>
        by_cases hlong : 200 < al
        · have hl2 : decide ((200 : Int) < (al : Int)) = true := by simp; omega
          obtain rfl : E = true := by rw [HEd.out]; exact decide_eq_true (by unfold early; dsimp only; omega)
          go_wp2_with fail
          go_meet
          case rel => exact ⟨rfl, rfl⟩
        have hl2 : decide ((200 : Int) < (al : Int)) = false := by simp; omega
        by_cases hk1 : ak = 1
        · subst hk1
          by_cases n1 : 40 < an ∧ an ≤ 200
          · have k0 : (40 : Int) < an := by omega
            have k1 : an ≤ 200 := by omega
            obtain rfl : E = true := by rw [HEd.out]; exact decide_eq_true (by unfold early; dsimp only; omega)
            go_wp2_with fail
            go_meet
            case rel => exact ⟨rfl, rfl⟩
          by_cases n2lo : an ≤ 40
          · by_cases m1 : 40 < am ∧ am ≤ 200
            · have k0 : ¬ (40 : Int) < an := by omega
              have k1 : (40 : Int) < am := by omega
              have k2 : am ≤ 200 := by omega
              obtain rfl : E = true := by rw [HEd.out]; exact decide_eq_true (by unfold early; dsimp only; omega)
              go_wp2_with fail
              go_meet
              case rel => exact ⟨rfl, rfl⟩
            by_cases m2 : am ≤ 40
            · have k0 : ¬ (40 : Int) < an := by omega
              have k1 : ¬ (40 : Int) < am := by omega
              obtain rfl : E = false := by rw [HEd.out]; exact decide_eq_false (by unfold early; dsimp only; omega)
              go_wp2_with fail
              go_meet
              case rel => exact ⟨rfl, rfl⟩
            have k0 : ¬ (40 : Int) < an := by omega
            have k1 : (40 : Int) < am := by omega
            have k2 : ¬ am ≤ 200 := by omega
            obtain rfl : E = false := by rw [HEd.out]; exact decide_eq_false (by unfold early; dsimp only; omega)
            go_wp2_with fail
            go_meet
            case rel => exact ⟨rfl, rfl⟩
          by_cases n2hi : 200 < an
          · by_cases m1 : 40 < am ∧ am ≤ 200
            · have k0 : (40 : Int) < an := by omega
              have k1 : ¬ an ≤ 200 := by omega
              have k2 : (40 : Int) < am := by omega
              have k3 : am ≤ 200 := by omega
              obtain rfl : E = true := by rw [HEd.out]; exact decide_eq_true (by unfold early; dsimp only; omega)
              go_wp2_with fail
              go_meet
              case rel => exact ⟨rfl, rfl⟩
            by_cases m2 : am ≤ 40
            · have k0 : (40 : Int) < an := by omega
              have k1 : ¬ an ≤ 200 := by omega
              have k2 : ¬ (40 : Int) < am := by omega
              obtain rfl : E = false := by rw [HEd.out]; exact decide_eq_false (by unfold early; dsimp only; omega)
              go_wp2_with fail
              go_meet
              case rel => exact ⟨rfl, rfl⟩
            have k0 : (40 : Int) < an := by omega
            have k1 : ¬ an ≤ 200 := by omega
            have k2 : (40 : Int) < am := by omega
            have k3 : ¬ am ≤ 200 := by omega
            obtain rfl : E = false := by rw [HEd.out]; exact decide_eq_false (by unfold early; dsimp only; omega)
            go_wp2_with fail
            go_meet
            case rel => exact ⟨rfl, rfl⟩
          exact absurd n1 (by omega)
        have hz1 : (ak == 1) = false := by simp [hk1]
        obtain rfl : E = false := by rw [HEd.out]; exact decide_eq_false (by unfold early; dsimp only; omega)
        go_wp2_with fail
        go_meet
        case rel => exact ⟨rfl, rfl⟩
      case rest =>
        obtain ⟨rfl, hcw⟩ := hcut
        obtain rfl : W0 = wc := hcw.symm
        cases E with
        | true =>
          go_wp2_with fail
          go_ret
          exact ⟨rfl, HT0.out.ar.o⟩
        | false =>
          have hEf : ¬ early ⟨ak, an, am, aA, al, acp, xs⟩ := of_decide_eq_false HEd.out.symm
          unfold early at hEf
          have HEf := Lib.hid hEf
          clear hEf HEd
          go_upto_block 2 with fail
          go_cut [13] from 110 to 151 (fun _ W => ∃ S, Hid (ATail w p p2 f0 f1 g ⟨ak, an, am, aA, al, acp, xs⟩ S W))
          case first =>
            by_cases hk0 : ak = 0
            focus
              subst hk0
              obtain ⟨N, hN⟩ : ∃ N, N = W0.heap.size := ⟨_, rfl⟩
              have hal : al ≤ 200 := by have := HEf.out; dsimp only at this; omega
              have hByt := bytes_any (HSrc.out.only HT0.out.ar.o (fun _ _ _ h => h)) acp (by omega)
              rw [← hN] at hByt
              have HByt := Lib.hid hByt
              have HN := Lib.hid hN
              have HS0 := HT0
              clear hN hByt
              go_wp2_with (first
                | (go_at_call 10; (with_reducible refine HByt.out.mono ?_); rintro e w5 ⟨rfl, hb5, ho5⟩; have HA5 : Hid (AR w (fun k => (k = w.heap.size + 1 ∨ k = g) ∨ k = N) p p2 S S w5) := (HT0.out.ar.more ho5 (by have := HN.out; omega) hb5.lt); have HX5 := Lib.hid (HT0.out.x.only ho5 (fun h => h)); have HB5 := Lib.hid (HT0.out.b.only ho5 (fun h => h)); have HC5 := Lib.hid hb5; have HW5 := Lib.hid (ar_write HA5.out (al + 5) (src_copy hb5 HSrc.out.1) (by omega) (fun ad e => by injection e with e; subst e; exact .inr rfl)); clear hb5 ho5)
                | (go_at_call 11; (with_reducible refine HW5.out.mono ?_); rintro e w6 ⟨rfl, h6⟩; have HA6 := Lib.hid h6.out.1; have HX6 := Lib.hid (h6.out.2 _ _ _ (.inl (.inr rfl)) HX5.out); have HB6 := Lib.hid (h6.out.2 _ _ _ (.inl (.inl rfl)) HB5.out); have HC6 := Lib.hid (h6.out.2 _ _ _ (.inr rfl) HC5.out); have b3 : w6.cell? ⟨g, 3, none⟩ = some (.slice aA al acp) := HX6.out.cell 3; clear h6)
                | fail)
              have HXs : Hid (∀ W, Only (fun _ => False) w W → Src W aA al xs) := fun W ho => HSrc.out.only ho (fun _ _ _ h => h)
              clear HT0 HEf HByt HA5 HX5 HB5 HC5 HW5 a0 a1 a2 a3 b3
              go_loopw [123] (fun i W => ∃ k : Nat, k ≤ al ∧ i = .int .i64 (k : Int) ∧ Hid (AR w (fun k => (k = w.heap.size + 1 ∨ k = g) ∨ k = N) p p2 (S.puts xs) (S.puts (xs.take k)) W) ∧ Hid (Blk W g 36 (CAc.cs ⟨0, an, am, aA, al, acp, xs⟩) ∧ Blk W (w.heap.size + 1) 22 [.int .i64 f0, .int .i64 f1] ∧ Blk W N 5 (xs.map B8 ++ marks 5))) (fun i _ => al - (intOf i).toNat)
              case atStart => exact ⟨0, Nat.zero_le _, rfl, HA6, HX6.out, HB6.out, HC6.out⟩
              case round =>
                clear HA6 HX6 HB6 HC6
                obtain ⟨k, hk, rfl, HAk, HBk⟩ := hrel
                by_cases hlt4 : k < al
                · have hlt5 : (k : Int) < (al : Int) := by omega
                  obtain ⟨y, hy⟩ : ∃ y, xs[k]? = some y := ⟨_, List.getElem?_eq_getElem (by rw [HSrc.out.1]; exact hlt4)⟩
                  have HTk := Lib.hid (take_snoc hy)
                  obtain ⟨ad, rfl, hc⟩ := (HXs.out _ HAk.out.o).2 (by omega)
                  have c1 : wr.cell? (ad.add k) = some (.int .u8 (y.toNat : Int)) := hc k y hy
                  have HPu := Lib.hid (ar_rput HAk.out y)
                  rw [← puts_snoc] at HPu
                  clear hy hc
                  go_wp2_with (first
                    | (go_at_call 12; (with_reducible refine HPu.out.mono ?_); rintro e w7 ⟨rfl, h7⟩)
                    | fail)
                  go_roundw
                  case rel => exact ⟨k + 1, by omega, by go_num, by rw [HTk.out]; exact h7.out.1, h7.out.2 _ _ _ (.inl (.inr rfl)) HBk.out.1, h7.out.2 _ _ _ (.inl (.inl rfl)) HBk.out.2.1, h7.out.2 _ _ _ (.inr rfl) HBk.out.2.2⟩
                  case measure => simp [intOf]; omega
                · obtain rfl : k = al := by omega
                  have HKp := Lib.hid (kept_any (HXs.out _ HAk.out.o) acp (by omega) HBk.out.2.2)
                  have b3 : wr.cell? ⟨g, 3, none⟩ = some (.slice aA k acp) := HBk.out.1.cell 3
                  have hAk := HAk.out
                  rw [List.take_of_length_le (by rw [HSrc.out.1]; exact Nat.le_refl _)] at hAk
                  obtain ⟨F, G, hsc, _⟩ := HS0.out.ar.ex
                  have hdm := puts_dim hsc.ok xs
                  have HT7 : Hid (ATail w p p2 f0 f1 g ⟨0, an, am, aA, k, acp, xs⟩ (S.puts xs) wr) := ⟨hAk.weaken (fun _ h => .inl h), by rw [hdm.1]; exact HS0.out.s1, by rw [hdm.2]; exact HS0.out.s2, HBk.out.2.1, HBk.out.1⟩
                  clear hAk hdm hsc
                  go_wp2_with (first
                    | (go_at_call 13; (with_reducible refine HKp.out.mono ?_); rintro e w7 ⟨rfl, e2⟩; subst w7)
                    | fail)
                  go_meet
                  case rel => exact ⟨_, HT7⟩
            by_cases hk1 : ak = 1
            focus
              subst hk1
              have Q0 : Hid (W0.drew.cell? ⟨g, 1, none⟩ = some (.int .i64 an) ∧ W0.drew.cell? ⟨g, 2, none⟩ = some (.int .i64 am)) := ⟨a1, a2⟩
              have HTd := Lib.hid (HT0.out.same (Only.refl (fun _ => False) W0).drew)
              have HNl := Lib.hid (fun W => num_nil W)
              clear a0 a3
              cases hf : fitsS an am with
              | false =>
                obtain ⟨ea, hea, hec⟩ := (HE.out.of [0]).get 0 0 (by decide) rfl
                have HRz : Hid (∀ W, Only (fun _ => False) w W → Calls Tryd.prog 14 #[.pointer (some ⟨p, 0, none⟩), .int .i64 an, .int .i64 am] W fun e w' => e = .returned (errV ea) ∧ w' = W) := fun W ho => resize_bad (ho.cellv hec (fun h => h)) an am hf
                have HNu : Hid (∀ W, Only (fun _ => False) w W → Calls Tryd.prog 9 #[errV ea] W fun e w' => e = .returned (.int .i64 1) ∧ Only (fun _ => False) W w') := fun W ho => num_is HE.out (ErrV.err hea 1 rfl) W ho
                have HRr := Lib.hid (fun W => rresize_bad W p2 an am hf)
                have HOd := Lib.hid HTd.out.ar.o
                clear hea hec hf HNl
                unfold errV at HRz HNu
                go_upto_region 28 with (fail)
                clear a1 a2
                go_region_held3 (fun W => W.cell? ⟨g, 1, none⟩ = some (.int .i64 an) ∧ W.cell? ⟨g, 2, none⟩ = some (.int .i64 am)) (first | exact Q0.out | exact Q6.out)
                  (first
                    | (go_at_call 14; (with_reducible refine (HRz.out _ HOd.out).mono ?_); rintro e w5 ⟨rfl, e2⟩; subst w5)
                    | (go_at_call 9; (with_reducible refine (HNu.out _ HOd.out).mono ?_); rintro e w6 ⟨rfl, ho6⟩; have HO6 := Lib.hid ho6; have Q6 : Hid (w6.cell? ⟨g, 1, none⟩ = some (.int .i64 an) ∧ w6.cell? ⟨g, 2, none⟩ = some (.int .i64 am)) := ⟨ho6.cellv Q0.out.1 (fun h => h), ho6.cellv Q0.out.2 (fun h => h)⟩; clear ho6)
                    | (go_at_call 15; (with_reducible refine (HRr.out _).mono ?_); rintro e w7 ⟨rfl, e2⟩; subst w7))
                all_goals
                  have HT6 := Lib.hid (HTd.out.same HO6.out)
                  clear Q0 Q6 HRz HNu HRr HOd HTd HO6
                  go_wp2_with fail
                  go_meet
                  case rel => exact ⟨_, HT6⟩
              | true =>
                unfold fitsS at hf
                simp only [Bool.and_eq_true, decide_eq_true_eq] at hf
                have hee := HEf.out
                dsimp only at hee
                obtain ⟨cc, rfl⟩ : ∃ k : Nat, an = (k : Int) := ⟨an.toNat, by omega⟩
                obtain ⟨rr, rfl⟩ : ∃ k : Nat, am = (k : Int) := ⟨am.toNat, by omega⟩
                have y1 : 1 ≤ cc := by omega
                have y2 : cc ≤ 40 := by omega
                have y3 : 1 ≤ rr := by omega
                have y4 : rr ≤ 40 := by omega
                have HRz := Lib.hid (ar_resize HTd.out.ar y1 (show cc ≤ 60 by omega) y3 (show rr ≤ 60 by omega))
                have Hz1 := Lib.hid (show cc ≤ 60 by omega)
                have Hz2 := Lib.hid (show rr ≤ 60 by omega)
                have Hy := Lib.hid (And.intro (And.intro y1 y2) (And.intro y3 y4))
                clear hf hee y1 y2 y3 y4
                go_upto_region 28 with (fail)
                clear a1 a2
                go_region_held3 (fun W => W.cell? ⟨g, 1, none⟩ = some (.int .i64 (cc : Int)) ∧ W.cell? ⟨g, 2, none⟩ = some (.int .i64 (rr : Int))) (first | exact Q0.out | exact Q5.out | exact Q7.out)
                  (first
                    | (go_at_call 14; (with_reducible refine HRz.out.mono ?_); rintro e w5 ⟨rfl, h5⟩; have HX5 := Lib.hid (h5.out.2 _ _ _ (.inr rfl) HTd.out.x); have HB5 := Lib.hid (h5.out.2 _ _ _ (.inl rfl) HTd.out.b); have HRr := Lib.hid (ar_rresize h5.out.1 Hy.out.1.1 Hz1.out Hy.out.2.1 Hz2.out); have Q5 : Hid (w5.cell? ⟨g, 1, none⟩ = some (.int .i64 (cc : Int)) ∧ w5.cell? ⟨g, 2, none⟩ = some (.int .i64 (rr : Int))) := ⟨HX5.out.cell 1, HX5.out.cell 2⟩; clear h5)
                    | (go_at_call 9; (with_reducible refine (HNl.out _).mono ?_); rintro e w6 ⟨rfl, e2⟩; subst w6)
                    | (go_at_call 15; (with_reducible refine HRr.out.mono ?_); rintro e w7 ⟨rfl, h7⟩; have HA7 := Lib.hid h7.out.1; have HX7 := Lib.hid (h7.out.2 _ _ _ (.inr rfl) HX5.out); have HB7 := Lib.hid (h7.out.2 _ _ _ (.inl rfl) HB5.out); have Q7 : Hid (w7.cell? ⟨g, 1, none⟩ = some (.int .i64 (cc : Int)) ∧ w7.cell? ⟨g, 2, none⟩ = some (.int .i64 (rr : Int))) := ⟨HX7.out.cell 1, HX7.out.cell 2⟩; clear h7))
                all_goals
                  have HT7 : Hid (ATail w p p2 f0 f1 g ⟨1, (cc : Int), (rr : Int), aA, al, acp, xs⟩ (S.size cc rr) w7) := ⟨HA7.out, Hy.out.1.2, by unfold Sc.size; rw [size_len]; exact Hy.out.2.2, HB7.out, HX7.out⟩
                  clear Q0 Q5 Q7 HRz HRr HTd HX5 HB5 HX7 HB7 HA7
                  go_wp2_with fail
                  go_meet
                  case rel => exact ⟨_, HT7⟩
            focus
              have hz0 : (ak == 0) = false := by simp [hk0]
              have hz1 : (ak == 1) = false := by simp [hk1]
              go_wp2_with fail
              go_meet
              case rel => exact ⟨S, HT0⟩
          case rest =>
            clear HT0 HEf a0 a1 a2 a3 HSrc hn64 hm64
            clear S
            obtain ⟨S, HT⟩ := hcut
            generalize wc = Wt at *
            have hlt2 : (j : Int) < (n : Int) := by omega
            have HT1 := Lib.hid (HT.out.same ((Only.refl (fun _ => False) Wt).alloc (.cells #[] 9)))
            have HRow0 : Hid ((Wt.alloc (.cells #[] 9)).ownsRow Wt.heap.size 9 1 (.slice (some ⟨Wt.heap.size, 0, none⟩) 0 0) 0 []) := own_of_blk (cur := []) (Blk.new Wt _ []) rfl rfl (by omega) (by omega) (Nat.le_refl _)
            have HO1 := Lib.hid ((Only.refl (fun _ => False) Wt).alloc (.cells #[] 9))
            obtain ⟨A2, cap2, _, _, _, d3, _⟩ := HT1.out.doc.elim fun G h => h.cells
            have hll := lines_len S
            have HLs := Lib.hid (fun (i : Nat) (hi : i < S.rows.length) => line_of_lines (s := S) hi)
            have hr60 : S.rows.length ≤ 40 := HT1.out.s2
            obtain ⟨Rn, hRn⟩ : ∃ Rn, Rn = S.rows.length := ⟨_, rfl⟩
            rw [← hRn] at d3 hll HLs hr60
            have HRn := Lib.hid hRn
            clear hRn
            go_wp2_with fail
            generalize Wt.alloc (.cells #[] 9) = W1 at *
            go_loopw [16, 158] (fun v i W => ∃ (k : Nat) (A' : Option Addr) (c' : Nat), k ≤ Rn ∧ v = .slice A' k c' ∧ i = .int .i64 (k : Int) ∧ Hid (W.ownsRow Wt.heap.size 9 1 (.slice A' k c') k ((S.lines.take k).map S8)) ∧ Hid (Only (fun _ => False) Wt W)) (fun _ i _ => Rn - (intOf i).toNat)
            case atStart => exact ⟨0, some ⟨Wt.heap.size, 0, none⟩, 0, Nat.zero_le _, rfl, rfl, HRow0, HO1⟩
            case round =>
              obtain ⟨q, A', c', hq, rfl, rfl, HRow, HOn⟩ := hrel
              by_cases hlt3 : q < Rn
              · have hlt4 : (q : Int) < (Rn : Int) := by omega
                obtain ⟨G, hG⟩ := (HT.out.same HOn.out).doc
                have HRl := Lib.hid (rline_any hG (q : Int))
                have HTk := Lib.hid (take_snoc (HLs.out q hlt3))
                obtain ⟨vs, hvs⟩ : ∃ vs, vs = (S.lines.take q).map S8 := ⟨_, rfl⟩
                rw [← hvs] at HRow
                have HV := Lib.hid hvs
                clear hG hvs
                generalize S.line (q : Int) = s at *
                go_wp2_with (first
                  | (go_at_call 16; (with_reducible refine HRl.out.mono ?_); rintro e w5 ⟨rfl, e2⟩; subst w5)
                  | (at_builtin; refine step_one rfl _ _ 43 rfl 9 _ 16 Tryd.underlying43 info_str rfl (by omega) Wt.heap.size A' q c' vs rfl (own_same HRow.out ((Only.refl _ _).alloc _)) wr.heap.size _ rfl ((Blk.new wr 9 [S8 s]).cell 0) rfl (by omega) (by have := HOn.out.size; simp; omega) ?_; intro A6 c6 w6 hR6 hG6 hN6)
                  | fail)
                go_roundw
                case rel =>
                  refine ⟨q + 1, A6, c6, by omega, rfl, by go_num, ?_, (HOn.out.alloc _).grown hG6.out (fun k hk => .inr (own_lt HRow.out k hk).1)⟩
                  have := hR6.out
                  rw [HTk.out, List.map_append, ← HV.out]
                  exact this
                case measure => simp [intOf]; omega
              · obtain rfl : q = Rn := by omega
                have hlt4 : ¬ (q : Int) < (q : Int) := by omega
                have hTS := TSrc.of_own HRow.out
                rw [List.take_of_length_le (by omega)] at hTS
                have HTS := Lib.hid hTS
                have hT2 := HT.out.same HOn.out
                obtain ⟨F, hF⟩ := hT2.scr
                obtain ⟨G, hG⟩ := hT2.doc
                have HSz := Lib.hid (size_any hF)
                obtain ⟨e1, e2⟩ := eq_facts hF.ok
                have HT2 := Lib.hid hT2
                clear hTS hT2 hF hG HRow HT1 HRow0 HO1
                rw [← HRn.out] at HSz
                go_wp2_with (first
                  | (go_at_call 17; (with_reducible refine HSz.out.mono ?_); rintro e w5 ⟨rfl, nn, hw5⟩; have HO5 : Hid (Only (fun _ => False) wr w5) := (by rw [hw5]; exact (Only.refl _ _).drewN nn); clear hw5)
                  | fail)
                have HT5 := Lib.hid ((HT2.out.same HO5.out).same (Only.refl (fun _ => False) w5).drew)
                obtain ⟨F5, hF5⟩ := HT5.out.scr
                obtain ⟨G5, hG5⟩ := HT5.out.doc
                obtain ⟨A5, cap5, b0, b1, b2, b3, _⟩ := hG5.cells
                rw [← HRn.out] at b3
                have b4 : w5.drew.cell? ⟨g, 1, none⟩ = some (.int .i64 an) := HT5.out.x.cell 1
                have Q0 : Hid ((w5.drew.cell? ⟨p2, 0, none⟩ = some (.int .i64 (S.c : Int)) ∧ w5.drew.cell? ⟨p2, 1, none⟩ = some (.int .i64 (S.x : Int)) ∧ w5.drew.cell? ⟨p2, 2, none⟩ = some (.int .i64 (S.y : Int)) ∧ w5.drew.cell? ⟨p2, 3, none⟩ = some (.slice A5 q cap5)) ∧ w5.drew.cell? ⟨g, 1, none⟩ = some (.int .i64 an)) := ⟨⟨b0, b1, b2, b3⟩, b4⟩
                have hLn := lines_any hF5
                rw [← HRn.out] at hLn
                have HLn := Lib.hid hLn
                have HCu : Hid (∀ W, Only (fun _ => False) w5.drew W → Calls Tryd.prog 20 #[.pointer (some ⟨p, 0, none⟩)] W fun e w' => e = .returned (.complex .f64 (fl (S.x : Int)) (fl (S.y : Int))) ∧ w' = W) := fun W ho => by
                  obtain ⟨F, h⟩ := (HT5.out.same ho).scr
                  exact cursor_any h
                have HLi : Hid (∀ W, Only (fun _ => False) w5.drew W → Calls Tryd.prog 21 #[.pointer (some ⟨p, 0, none⟩), .int .i64 an] W fun e w' => e = .returned (S8 (S.line an)) ∧ w' = W) := fun W ho => by
                  obtain ⟨F, h⟩ := (HT5.out.same ho).scr
                  exact line_any h an
                have HRi : Hid (∀ W, Only (fun _ => False) w5.drew W → Calls Tryd.prog 16 #[.pointer (some ⟨p2, 0, none⟩), .int .i64 an] W fun e w' => e = .returned (S8 (S.line an)) ∧ w' = W) := fun W ho => by
                  obtain ⟨F, h⟩ := (HT5.out.same ho).doc
                  exact rline_any h an
                have HTd := Lib.hid ((HTS.out.same HO5.out).same (Only.refl (fun _ => False) w5).drew)
                have hq : q ≤ 9223372036854775807 := by omega
                obtain ⟨s, hs⟩ : ∃ s, s = S.line an := ⟨_, rfl⟩
                rw [← hs] at HLi HRi
                have q1 : (s == s) = true := by simp
                have q2 : (s != s) = false := by simp
                generalize (S.x : Int) = sx at *
                generalize (S.y : Int) = sy at *
                generalize (S.c : Int) = sc at *
                clear hs hLn hF5 hG5 b0 b1 b2 b3 b4 HSz HT2 HTS HO5 hll d3
                go_region_held3 (fun W => (W.cell? ⟨p2, 0, none⟩ = some (.int .i64 sc) ∧ W.cell? ⟨p2, 1, none⟩ = some (.int .i64 sx) ∧ W.cell? ⟨p2, 2, none⟩ = some (.int .i64 sy) ∧ W.cell? ⟨p2, 3, none⟩ = some (.slice A5 q cap5)) ∧ W.cell? ⟨g, 1, none⟩ = some (.int .i64 an)) (first | exact Q0.out | exact Q6.out)
                  (first
                    | (go_at_call 19; (with_reducible refine HLn.out.mono ?_); rintro e w6 ⟨N6, rfl, ht6, ho6⟩; have Q6 : Hid ((w6.cell? ⟨p2, 0, none⟩ = some (.int .i64 sc) ∧ w6.cell? ⟨p2, 1, none⟩ = some (.int .i64 sx) ∧ w6.cell? ⟨p2, 2, none⟩ = some (.int .i64 sy) ∧ w6.cell? ⟨p2, 3, none⟩ = some (.slice A5 q cap5)) ∧ w6.cell? ⟨g, 1, none⟩ = some (.int .i64 an)) := ⟨⟨ho6.out.cellv Q0.out.1.1 (fun h => h), ho6.out.cellv Q0.out.1.2.1 (fun h => h), ho6.out.cellv Q0.out.1.2.2.1 (fun h => h), ho6.out.cellv Q0.out.1.2.2.2 (fun h => h)⟩, ho6.out.cellv Q0.out.2 (fun h => h)⟩; have hST := Lib.hid (sameTexts_any (ca := q) (cb := c') ht6.out (HTd.out.same ho6.out) hq); rw [decide_eq_true rfl] at hST)
                    | (go_at_call 18; (with_reducible refine hST.out.mono ?_); rintro e w7 ⟨rfl, e3⟩; subst w7)
                    | (go_at_call 20; (with_reducible refine (HCu.out _ ho6.out).mono ?_); rintro e w7 ⟨rfl, e3⟩; subst w7)
                    | (go_at_call 21; (with_reducible refine (HLi.out _ ho6.out).mono ?_); rintro e w7 ⟨rfl, e3⟩; subst w7)
                    | (go_at_call 16; (with_reducible refine (HRi.out _ ho6.out).mono ?_); rintro e w7 ⟨rfl, e3⟩; subst w7))
                all_goals
                  have HT6 := Lib.hid (HT5.out.same ho6.out).rnd
                  clear Q0 HLn HCu HLi HRi HTd HT5
                  go_wp2_with fail
                  go_roundw
                  case rel => exact ⟨j + 1, by omega, by go_num, HT6⟩
                  case measure => simp [intOf]; omega
    · obtain rfl : j = n := by omega
      go_wp2_with fail
      obtain ⟨S, ha, hS1, hS2⟩ := HM.out.ar
      obtain ⟨F, G, hsc, hdc, _⟩ := ha.ex
      obtain ⟨A2, cp2, d0, d1, d2, d3, _⟩ := hdc.cells
      have b0 : wr.cell? ⟨w.heap.size + 1, 0, none⟩ = some (.int .i64 f0) := HM.out.b.cell 0
      have b1 : wr.cell? ⟨w.heap.size + 1, 1, none⟩ = some (.int .i64 f1) := HM.out.b.cell 1
      have hx := hsc.ok.hx
      have hy := hsc.ok.hy
      have HOw := Lib.hid ha.o
      have HFh : Hid (∀ W, Only (fun _ => False) wr W → Calls Tryd.prog 22 #[.pointer (some ⟨p, 0, none⟩), .complex .f64 4602678819172646912 0] W fun e w' => e = .returned (.int .i64 (-1)) ∧ w' = W) := fun W ho => far_half (hsc.same ho) 0
      have HOut : Hid (¬ (0 ≤ f0 ∧ f0 < S.c ∧ 0 ≤ f1 ∧ f1 < S.rows.length) → ∀ W, Only (fun _ => False) wr W → Calls Tryd.prog 22 #[.pointer (some ⟨p, 0, none⟩), .complex .f64 (fl f0) (fl f1)] W fun e w' => e = .returned (.int .i64 (-1)) ∧ w' = W) := fun hn W ho => far_out (hsc.same ho) HF0.out.1 HF0.out.2 HF1.out.1 HF1.out.2 hn
      have HIn : Hid (∀ a b : Nat, a < S.c → b < S.rows.length → ∀ W, Only (fun _ => False) wr W → Calls Tryd.prog 22 #[.pointer (some ⟨p, 0, none⟩), .complex .f64 (fl (a : Int)) (fl (b : Int))] W fun e w' => e = .returned (.int .i64 (((a : Int) - (S.x : Int)).natAbs + ((b : Int) - (S.y : Int)).natAbs : Int)) ∧ w' = W) := fun a b h1 h2 W ho => far_in (hsc.same ho) h1 h2 (.inr hS1) (.inr hS2)
      generalize S.rows.length = R0 at *
      generalize S.c = c0 at *
      generalize S.x = x0 at *
      generalize S.y = y0 at *
      clear ha hsc hdc HM HL HE
      by_cases hin : 0 ≤ f0 ∧ f0 < c0 ∧ 0 ≤ f1 ∧ f1 < R0
      · obtain ⟨a, rfl⟩ : ∃ a : Nat, f0 = (a : Int) := ⟨f0.toNat, by omega⟩
        obtain ⟨b, rfl⟩ : ∃ b : Nat, f1 = (b : Int) := ⟨f1.toNat, by omega⟩
        have HFa := Lib.hid (HIn.out a b (by omega) (by omega))
        have g1 : decide ((0 : Int) ≤ (a : Int)) = true := by simp
        have g2 : decide ((a : Int) < (c0 : Int)) = true := by simp; omega
        have g3 : decide ((0 : Int) ≤ (b : Int)) = true := by simp
        have g4 : decide ((b : Int) < (R0 : Int)) = true := by simp; omega
        clear HIn HOut
        obtain ⟨m1, hm1⟩ : ∃ m, m = ((a : Int) - (x0 : Int)).natAbs := ⟨_, rfl⟩
        obtain ⟨m2, hm2⟩ : ∃ m, m = ((b : Int) - (y0 : Int)).natAbs := ⟨_, rfl⟩
        rw [← hm1, ← hm2] at HFa
        have e1 : max ((a : Int) - (x0 : Int)) ((x0 : Int) - (a : Int)) = (m1 : Int) := by omega
        have e2 : max ((b : Int) - (y0 : Int)) ((y0 : Int) - (b : Int)) = (m2 : Int) := by omega
        have j1 : (a : Int) < 40 := by omega
        have j2 : (b : Int) < 40 := by omega
        have j3 : (x0 : Int) < 40 := by omega
        have j4 : (y0 : Int) < 40 := by omega
        have j5 : m1 < 40 := by omega
        have j6 : m2 < 40 := by omega
        have n1 : a < c0 := by omega
        have n2 : b < R0 := by omega
        have n3 : (a : Int) < (c0 : Int) := by omega
        have n4 : (b : Int) < (R0 : Int) := by omega
        clear hm1 hm2 hin g1 g2 g3 g4
        go_quiet (fail)
        go_wp2_with fail
        go_quiet (fail)
        go_wp2_with (first
          | (go_at_call 22; (with_reducible refine (HFa.out _ ((Only.refl _ _).drewN _)).mono ?_); rintro e w5 ⟨rfl, e3⟩; subst w5)
          | (go_at_call 22; (with_reducible refine (HFh.out _ ((Only.refl _ _).drewN _)).mono ?_); rintro e w5 ⟨rfl, e3⟩; subst w5)
          | fail)
        go_ret
        exact ⟨rfl, HOw.out.drewN _⟩
      · have HFo := Lib.hid (HOut.out hin)
        clear HIn HOut
        by_cases q1 : f0 < 0
        · have g1 : decide ((0 : Int) ≤ f0) = false := by simp; omega
          clear hin
          go_quiet (fail)
          go_wp2_with (first
            | (go_at_call 22; (with_reducible refine (HFo.out _ ((Only.refl _ _).drewN _)).mono ?_); rintro e w5 ⟨rfl, e3⟩; subst w5)
            | (go_at_call 22; (with_reducible refine (HFh.out _ ((Only.refl _ _).drewN _)).mono ?_); rintro e w5 ⟨rfl, e3⟩; subst w5)
            | fail)
          go_ret
          exact ⟨rfl, HOw.out.drewN _⟩
        have g1 : decide ((0 : Int) ≤ f0) = true := by simp; omega
        by_cases q2 : (c0 : Int) ≤ f0
        · have g2 : decide (f0 < (c0 : Int)) = false := by simp; omega
          clear hin
          go_quiet (fail)
          go_wp2_with (first
            | (go_at_call 22; (with_reducible refine (HFo.out _ ((Only.refl _ _).drewN _)).mono ?_); rintro e w5 ⟨rfl, e3⟩; subst w5)
            | (go_at_call 22; (with_reducible refine (HFh.out _ ((Only.refl _ _).drewN _)).mono ?_); rintro e w5 ⟨rfl, e3⟩; subst w5)
            | fail)
          go_ret
          exact ⟨rfl, HOw.out.drewN _⟩
        have g2 : decide (f0 < (c0 : Int)) = true := by simp; omega
        by_cases q3 : f1 < 0
        · have g3 : decide ((0 : Int) ≤ f1) = false := by simp; omega
          clear hin
          go_quiet (fail)
          go_wp2_with (first
            | (go_at_call 22; (with_reducible refine (HFo.out _ ((Only.refl _ _).drewN _)).mono ?_); rintro e w5 ⟨rfl, e3⟩; subst w5)
            | (go_at_call 22; (with_reducible refine (HFh.out _ ((Only.refl _ _).drewN _)).mono ?_); rintro e w5 ⟨rfl, e3⟩; subst w5)
            | fail)
          go_ret
          exact ⟨rfl, HOw.out.drewN _⟩
        have g3 : decide ((0 : Int) ≤ f1) = true := by simp; omega
        have g4 : decide (f1 < (R0 : Int)) = false := by simp; omega
        clear hin
        go_quiet (fail)
        go_wp2_with (first
          | (go_at_call 22; (with_reducible refine (HFo.out _ ((Only.refl _ _).drewN _)).mono ?_); rintro e w5 ⟨rfl, e3⟩; subst w5)
          | (go_at_call 22; (with_reducible refine (HFh.out _ ((Only.refl _ _).drewN _)).mono ?_); rintro e w5 ⟨rfl, e3⟩; subst w5)
          | fail)
        go_ret
        exact ⟨rfl, HOw.out.drewN _⟩
end Go.Proofs.YtgknhojjnnljkaaDoor
