/- ModeActs, walked. -/
import Derived.Test.YtefcgbkbgkllaaaDoorMdAlive
import Derived.Test.YtefcgbkbgkllaaaDoorMdBoth
import Derived.Test.YtefcgbkbgkllaaaDoorMdOpen
import Derived.Test.YtefcgbkbgkllaaaDoorNumIs
import Derived.Test.YtefcgbkbgkllaaaDoorMdFacts
namespace Go.Proofs.YtefcgbkbgkllaaaDoor
open Go Go.ChangeShapes Go.WideShapes Go.ChangeAt Go.RowKit
set_option maxRecDepth 100000
set_option maxHeartbeats 4000000

theorem size_mact : (Tryd.prog.info? 40).map (·.size) = some 3 := by kernel_rfl
/-- string([]byte{1, m}). -/
theorem body_text (w : World) {m : Int} (h0 : 0 ≤ m) (h1 : m ≤ 255) : (convert 22 9 (.slice (some ⟨w.heap.size, 0, none⟩) 2 2)).run Tryd.prog (w.alloc (.cells #[.int .u8 1, .int .u8 m] 5)) = .ok (.string ⟨(bodyM m).toArray⟩) (w.alloc (.cells #[.int .u8 1, .int .u8 m] 5)) := by
  refine text_new w (bodyM m) 2 rfl _ ?_ _ rfl
  simp only [bodyM, List.map_cons, List.map_nil, B8, b8_int h0 h1]
  rfl
/-- A head and a tail, in memory. -/
structure MAt (w W : World) (p q : Nat) (hm : Int) (b : Bool) (T tm : Int) : Prop where
  hd : HdAt W p hm b
  tl : TlAt W q T tm
  only : Only (fun _ => False) w W
theorem MAt.same {w W W' : World} {p q : Nat} {hm T tm : Int} {b : Bool} (h : MAt w W p q hm b T tm) (ho : Only (fun _ => False) W W') : MAt w W' p q hm b T tm := ⟨h.hd.same ho, h.tl.same ho, h.only.trans ho (fun _ h => h.elim)⟩

theorem macts_long {w : World} {es : List Addr} (hW : MdW w es) (can : Int) (A : Option Addr) (n cap : Nat) (h : 60 < n) : Calls Tryd.prog 4 #[.int .i64 can, .slice A n cap] w (Fine w) := by
  have HA := Lib.hid (mdAlive hW)
  have hd : decide ((60 : Int) < (n : Int)) = true := by simp; omega
  clear h hW
  go_enter Tryd.func4, Tryd.ntmps4
  go_wp2_with (go_at_call 6; refine HA.out.mono ?_; rintro e w1 ⟨rfl, ho1⟩)
  go_ret
  exact ⟨rfl, ho1⟩

theorem macts_ok {w : World} {es : List Addr} (hes : ErrsAt w es) (hB : BitsAt w) (can : Int) {A : Option Addr} {n : Nat} (cap : Nat) {acs : List Ma} (ha : MaAt w A n acs) (hn : n ≤ 60) :
    Calls Tryd.prog 4 #[.int .i64 can, .slice A n cap] w (Fine w) := by
  have hW : MdW w es := ⟨hes.of _, hB⟩
  have HA := Lib.hid (mdAlive hW)
  have HW := Lib.hid hW.errs
  have HE := Lib.hid hes
  have HAc := Lib.hid ha
  have HNh := Lib.hid (fun W => mdNewHead_any W)
  have HNt := Lib.hid (fun W => mdNewTail_any W can)
  have HT : Hid (isMask (canOf can) = true) := canOf_mask can
  have HBo := Lib.hid (fun W (x : Int) (h : isMask x = true) => mrBoth_any W (a := x) can h)
  generalize canOf can = T at *
  have hd : decide ((60 : Int) < (n : Int)) = false := by simp; omega
  clear hes hB hW ha
  go_enter Tryd.func4, Tryd.ntmps4
  go_wp2_with (first
    | (go_at_call 6; refine HA.out.mono ?_; rintro e w1 ⟨rfl, ho1⟩; have HO1 := Lib.hid ho1; clear ho1)
    | (go_at_call 14; (with_reducible refine (HNh.out _).mono ?_); rintro e w2 ⟨rfl, hd2, hz2, ho2⟩)
    | (go_at_call 15; (with_reducible refine (HNt.out _).mono ?_); rintro e w3 ⟨rfl, ht3, hz3, ho3⟩)
    | fail)
  have HM3 : Hid (MAt w w3 w1.heap.size w2.heap.size 0 false T 0) := ⟨hd2.out.same ho3.out, ht3.out, (HO1.out.trans ho2.out (fun _ h => h.elim)).trans ho3.out (fun _ h => h.elim)⟩
  have hpq : w1.heap.size ≠ w2.heap.size := by have := hz2.out; omega
  have HP : Hid (w.heap.size ≤ w1.heap.size) := HO1.out.size
  have HQ : Hid (w.heap.size ≤ w2.heap.size) := Nat.le_trans HO1.out.size ho2.out.size
  clear HA HNh HNt HO1 hd2 hz2 ho2 ht3 hz3 ho3
  generalize w1.heap.size = p at *
  generalize w2.heap.size = q at *
  go_loopw [7, 8, 9, 36] (fun hv bv tv i W => ∃ (k : Nat) (hm : Int) (b : Bool) (tm : Int), k ≤ n ∧ hv = .int .i64 hm ∧ bv = .bool b ∧ tv = .int .i64 tm ∧ i = .int .i64 (k : Int) ∧ Hid (MAt w W p q hm b T tm)) (fun _ _ _ i _ => n - (intOf i).toNat)
  case atStart => exact ⟨0, 0, false, 0, Nat.zero_le _, rfl, rfl, rfl, rfl, HM3.out⟩
  case round =>
    clear HM3
    obtain ⟨j, hm, b, tm, hj, rfl, rfl, rfl, rfl, HM⟩ := hrel
    by_cases hlt : j < n
    · have hlt2 : (j : Int) < (n : Int) := by omega
      obtain ⟨x, hx⟩ : ∃ x, acs[j]? = some x := ⟨_, List.getElem?_eq_getElem (by rw [HAc.out.1]; exact hlt)⟩
      obtain ⟨⟨bb, off, rfl, hbl, hrg⟩, hok⟩ := (HAc.out.same HM.out.only).2 j x hx
      have HRg := Lib.hid hrg
      obtain ⟨ak, an, aA, al, acp, xs⟩ := x
      have h64 : In64 an := hok.in64
      have hsrc : Src wr aA al xs := hok.src
      clear hrg hx hok hbl
      by_cases hlong : 20 < al
      · have hl2 : decide ((20 : Int) < (al : Int)) = true := by simp; omega
        clear hlong hsrc
        go_wp2_with (first
          | ((with_reducible show wpList _ _ _ (⟨some 39, _, _, _, _, _⟩ :: _) _ _); refine wpList_load_mid rfl 40 _ rfl bb (off + j * 3) rfl (Ma.cs ⟨ak, an, aA, al, acp, xs⟩) _ HRg.out Tryd.underlying40 rfl size_mact ?_)
          | fail)
        go_ret
        exact ⟨rfl, HM.out.only.alloc _⟩
      · have hl2 : decide ((20 : Int) < (al : Int)) = false := by simp; omega
        have HS := Lib.hid hsrc
        have hcx : ∀ ob, (convert 22 9 (.slice aA al acp)).run Tryd.prog (wr.alloc ob) = .ok (.string ⟨xs.toArray⟩) (wr.alloc ob) := fun ob => hsrc.texts acp _ ((Only.refl _ _).alloc ob)
        have HRp := Lib.hid (fun W => mrParse_any W xs (by rw [hsrc.1]; omega))
        have HMk : Hid ((saysM xs).2.2 = 0 → isMask (saysM xs).1 = true) := fun h => saysM_mask h
        have HMa := Lib.hid (HM.out.same ((Only.refl _ _).alloc (.cells #[.int .i64 ak, .int .i64 an, .slice aA al acp] 40)))
        have HX := Lib.hid (Blk.new wr 40 [.int .i64 ak, .int .i64 an, .slice aA al acp])
        have HSa := Lib.hid (hsrc.only ((Only.refl (fun _ => False) wr).alloc (.cells #[.int .i64 ak, .int .i64 an, .slice aA al acp] 40)) (fun _ _ _ h => h))
        clear hlong hsrc
        by_cases hk0 : ak = 0
        · subst hk0
          have HRr := Lib.hid (fun W => mrRight_any W an)
          by_cases hN : setNum an hm b = 0
          · have HSe : Hid (∀ W, HdAt W p hm b → _) := fun W (h : HdAt W p hm b) => mdSet_ok h h64 hN
            have hmk : isMask an = true ∧ b = false ∧ hm ≠ an := by
              unfold setNum at hN
              cases h1 : isMask an with
              | false => rw [h1] at hN; simp at hN
              | true =>
                rw [h1] at hN
                cases b with
                | true => simp at hN
                | false => exact ⟨rfl, rfl, fun h => by simp [h] at hN⟩
            obtain ⟨hmk, rfl, hne⟩ := hmk
            rw [hmk] at HRr
            have hna : (hm == an) = false := by simp [hne]
            have hbd := isMask_iff.1 hmk
            have ha0 : 0 ≤ an := hbd.1
            have ha1 : an ≤ 31 := by omega
            have hT2 : ∀ W : World, _ := fun W => body_text W (m := an) (by omega) (by omega)
            have HN0 := Lib.hid (num_is HE.out (ErrV.nil es))
            clear hN hmk hne hbd
            as_aux_lemma =>
              generalize bodyM an = tx at *
              have htt : (tx == tx) = true := by simp
              have htn : (tx != tx) = false := by simp
              go_wp2_with (first
                | ((with_reducible show wpList _ _ _ (⟨some 39, _, _, _, _, _⟩ :: _) _ _); refine wpList_load_mid rfl 40 _ rfl bb (off + j * 3) rfl (Ma.cs ⟨0, an, aA, al, acp, xs⟩) _ HRg.out Tryd.underlying40 rfl size_mact ?_)
                | (go_at_call 8; (with_reducible refine (HRp.out _).mono ?_); rintro e w' ⟨rfl, e1⟩; subst w'; clear hcx)
                | (go_at_call 16; (with_reducible refine (HSe.out _ HMa.out.hd).mono ?_); rintro e w5 ⟨N, rfl, hN5, hs5, hd5, ho5⟩; have hXp : wr.heap.size ≠ p := (by have := HM.out.hd.lt; omega); have HX5 := Lib.hid (HX.out.only ho5.out hXp); have x1 : w5.cell? ⟨wr.heap.size, 1, none⟩ = some (.int .i64 an) := HX5.out.cell 1; have HM5 : Hid (MAt w w5 p q an true T tm) := ⟨hd5.out, HMa.out.tl.far ho5.out hpq.symm, HMa.out.only.trans ho5.out (fun i hi => .inr (by have := HP.out; omega))⟩)
                | (go_at_call 9; (with_reducible refine (HRr.out _).mono ?_); rintro e w' ⟨rfl, e1⟩; subst w')
                | (go_at_call 11; (with_reducible refine (HN0.out _ HM5.out.only).mono ?_); rintro e w6 ⟨rfl, ho6⟩; have HM6 := Lib.hid (HM5.out.same ho6); have HX6 := Lib.hid (HX5.out.only ho6 (fun h => h)); have y1 : w6.cell? ⟨wr.heap.size, 1, none⟩ = some (.int .i64 an) := HX6.out.cell 1; have z1 : ∀ ob, (w6.alloc ob).cell? ⟨wr.heap.size, 1, none⟩ = some (.int .i64 an) := (fun ob => (HX6.out.alloc ob).cell 1); have hc6 := hs5.out.texts 2 _ ho6; have HM7 : Hid (MAt w (w6.alloc (.cells #[.int .u8 1, .int .u8 an] 5)) p q an true T tm) := HM6.out.same ((Only.refl _ _).alloc _); clear x1)
                | (go_at_call 20; (with_reducible refine (mdMask_any HM7.out.hd).mono ?_); rintro e w' ⟨rfl, e1⟩; subst w')
                | (go_at_call 21; (with_reducible refine (mdWaits_any HM7.out.hd).mono ?_); rintro e w' ⟨rfl, e1⟩; subst w')
                | (go_at_call 22; (with_reducible refine (mdTMask_any HM7.out.tl).mono ?_); rintro e w' ⟨rfl, e1⟩; subst w')
                | fail)
              go_roundw
              case rel => exact ⟨j + 1, an, true, tm, by omega, rfl, rfl, rfl, by go_num, HM7.out⟩
              case measure => simp [intOf]; omega
          · have HSe : Hid (∀ W, Only (fun _ => False) w W → HdAt W p hm b → _) := fun W ho (h : HdAt W p hm b) => mdSet_bad (HW.out.only ho) h h64 hN
            have HN5 : Hid (∀ E z, ErrV es E z → NumIs w E (z : Int)) := fun E z h => num_is HE.out h
            obtain ⟨e0, he0⟩ : ∃ e0, e0 = (hm == an) := ⟨_, rfl⟩
            have he := he0.symm
            have hv : setNum an hm b = if isMask an then (if b then 10 else if e0 then 8 else 0) else 5 := by
              unfold setNum
              rw [he0]
              simp only [beq_iff_eq]
            rw [hv] at HSe hN
            generalize isMask an = im at HSe hN HRr
            clear hv he0
            cases im <;> cases b <;> cases e0
            case true.false.false => exact absurd rfl hN
            all_goals
              simp only [Bool.false_eq_true, if_true, if_false] at HSe
              clear hN
              as_aux_lemma =>
                go_wp2_with (first
                  | ((with_reducible show wpList _ _ _ (⟨some 39, _, _, _, _, _⟩ :: _) _ _); refine wpList_load_mid rfl 40 _ rfl bb (off + j * 3) rfl (Ma.cs ⟨0, an, aA, al, acp, xs⟩) _ HRg.out Tryd.underlying40 rfl size_mact ?_)
                  | (go_at_call 8; (with_reducible refine (HRp.out _).mono ?_); rintro e w' ⟨rfl, e1⟩; subst w'; clear hcx)
                  | (go_at_call 16; (with_reducible refine (HSe.out _ HMa.out.only HMa.out.hd).mono ?_); rintro e w5 ⟨E, hE, rfl, ho5⟩; have HX5 := Lib.hid (HX.out.only ho5 (fun h => h)); have x1 : w5.cell? ⟨wr.heap.size, 1, none⟩ = some (.int .i64 an) := HX5.out.cell 1; have HM5 := Lib.hid (HMa.out.same ho5); have HNe := Lib.hid (HN5.out _ _ hE); clear hE ho5)
                  | (go_at_call 9; (with_reducible refine (HRr.out _).mono ?_); rintro e w' ⟨rfl, e1⟩; subst w')
                  | (go_at_call 11; (with_reducible refine (HNe.out _ HM5.out.only).mono ?_); rintro e w6 ⟨rfl, ho6⟩; have HM6 := Lib.hid (HM5.out.same ho6); clear x1)
                  | (go_at_call 20; (with_reducible refine (mdMask_any HM6.out.hd).mono ?_); rintro e w' ⟨rfl, e1⟩; subst w')
                  | (go_at_call 21; (with_reducible refine (mdWaits_any HM6.out.hd).mono ?_); rintro e w' ⟨rfl, e1⟩; subst w')
                  | (go_at_call 22; (with_reducible refine (mdTMask_any HM6.out.tl).mono ?_); rintro e w' ⟨rfl, e1⟩; subst w')
                  | fail)
                go_roundw
                case rel => exact ⟨j + 1, hm, _, tm, by omega, rfl, rfl, rfl, by go_num, HM6.out⟩
                case measure => simp [intOf]; omega
        · have hz0 : (ak == 0) = false := by simp [hk0]
          by_cases hk1 : ak = 1
          · subst hk1
            clear hk0
            by_cases hN : hearNum xs b = 0
            · have HHe : Hid (∀ W, Only (fun _ => False) w W → HdAt W p hm b → Src W aA al xs → _) := fun W ho (h : HdAt W p hm b) hs => mdHear_ok (HW.out.only ho) h acp hs hN
              have HN0 := Lib.hid (num_is HE.out (ErrV.nil es))
              unfold hearNum at hN
              generalize (saysM xs).1 = x at *
              generalize (saysM xs).2.1 = kk at *
              generalize (saysM xs).2.2 = z at *
              have hall : z = 0 ∧ kk = true ∧ b = true := by
                by_cases h : z = 0
                · rw [if_pos h] at hN
                  cases kk <;> cases b <;> simp at hN ⊢
                  exact h
                · rw [if_neg h] at hN
                  exact absurd hN h
              obtain ⟨rfl, rfl, rfl⟩ := hall
              clear hN
              as_aux_lemma =>
                go_wp2_with (first
                  | ((with_reducible show wpList _ _ _ (⟨some 39, _, _, _, _, _⟩ :: _) _ _); refine wpList_load_mid rfl 40 _ rfl bb (off + j * 3) rfl (Ma.cs ⟨1, an, aA, al, acp, xs⟩) _ HRg.out Tryd.underlying40 rfl size_mact ?_)
                  | (go_at_call 8; (with_reducible refine (HRp.out _).mono ?_); rintro e w' ⟨rfl, e1⟩; subst w'; clear hcx)
                  | (go_at_call 17; (with_reducible refine (HHe.out _ HMa.out.only HMa.out.hd HSa.out).mono ?_); rintro e w5 ⟨rfl, hd5, ho5⟩; have HM5 : Hid (MAt w w5 p q x false T tm) := ⟨hd5.out, HMa.out.tl.far ho5.out hpq.symm, HMa.out.only.trans ho5.out (fun i hi => .inr (by have := HP.out; omega))⟩)
                  | (go_at_call 11; (with_reducible refine (HN0.out _ HM5.out.only).mono ?_); rintro e w6 ⟨rfl, ho6⟩; have HM6 := Lib.hid (HM5.out.same ho6))
                  | (go_at_call 20; (with_reducible refine (mdMask_any HM6.out.hd).mono ?_); rintro e w' ⟨rfl, e1⟩; subst w')
                  | (go_at_call 21; (with_reducible refine (mdWaits_any HM6.out.hd).mono ?_); rintro e w' ⟨rfl, e1⟩; subst w')
                  | (go_at_call 22; (with_reducible refine (mdTMask_any HM6.out.tl).mono ?_); rintro e w' ⟨rfl, e1⟩; subst w')
                  | fail)
                go_roundw
                case rel => exact ⟨j + 1, x, false, tm, by omega, rfl, rfl, rfl, by go_num, HM6.out⟩
                case measure => simp [intOf]; omega
            · have HHe : Hid (∀ W, Only (fun _ => False) w W → HdAt W p hm b → Src W aA al xs → _) := fun W ho (h : HdAt W p hm b) hs => mdHear_bad (HW.out.only ho) h acp hs hN
              have HN5 : Hid (∀ E z, ErrV es E z → NumIs w E (z : Int)) := fun E z h => num_is HE.out h
              unfold hearNum at hN HHe
              generalize (saysM xs).1 = x at *
              generalize (saysM xs).2.1 = kk at *
              generalize (saysM xs).2.2 = z at *
              by_cases h : z = 0
              · subst h
                simp only [if_true] at HHe hN
                have hkb : (kk && b) = false := by
                  cases hkb : (kk && b) with
                  | false => rfl
                  | true => rw [hkb] at hN; simp at hN
                rw [hkb] at HHe
                simp only [Bool.false_eq_true, if_false] at HHe
                clear hN
                cases kk <;> cases b
                case true.true => cases hkb
                all_goals
                  clear hkb
                  as_aux_lemma =>
                    go_wp2_with (first
                      | ((with_reducible show wpList _ _ _ (⟨some 39, _, _, _, _, _⟩ :: _) _ _); refine wpList_load_mid rfl 40 _ rfl bb (off + j * 3) rfl (Ma.cs ⟨1, an, aA, al, acp, xs⟩) _ HRg.out Tryd.underlying40 rfl size_mact ?_)
                      | (go_at_call 8; (with_reducible refine (HRp.out _).mono ?_); rintro e w' ⟨rfl, e1⟩; subst w'; clear hcx)
                      | (go_at_call 17; (with_reducible refine (HHe.out _ HMa.out.only HMa.out.hd HSa.out).mono ?_); rintro e w5 ⟨E, hE, rfl, ho5⟩; have HM5 := Lib.hid (HMa.out.same ho5); have HNe := Lib.hid (HN5.out _ _ hE); clear hE ho5)
                      | (go_at_call 11; (with_reducible refine (HNe.out _ HM5.out.only).mono ?_); rintro e w6 ⟨rfl, ho6⟩; have HM6 := Lib.hid (HM5.out.same ho6))
                      | (go_at_call 20; (with_reducible refine (mdMask_any HM6.out.hd).mono ?_); rintro e w' ⟨rfl, e1⟩; subst w')
                      | (go_at_call 21; (with_reducible refine (mdWaits_any HM6.out.hd).mono ?_); rintro e w' ⟨rfl, e1⟩; subst w')
                      | (go_at_call 22; (with_reducible refine (mdTMask_any HM6.out.tl).mono ?_); rintro e w' ⟨rfl, e1⟩; subst w')
                      | fail)
                    go_roundw
                    case rel => exact ⟨j + 1, hm, _, tm, by omega, rfl, rfl, rfl, by go_num, HM6.out⟩
                    case measure => simp [intOf]; omega
              · have hz1 : ((z : Int) == 0) = false := by simp [h]
                have hzz : ((z : Int) == (z : Int)) = true := by simp
                rw [if_neg h] at HHe
                clear hN h
                as_aux_lemma =>
                  go_wp2_with (first
                    | ((with_reducible show wpList _ _ _ (⟨some 39, _, _, _, _, _⟩ :: _) _ _); refine wpList_load_mid rfl 40 _ rfl bb (off + j * 3) rfl (Ma.cs ⟨1, an, aA, al, acp, xs⟩) _ HRg.out Tryd.underlying40 rfl size_mact ?_)
                    | (go_at_call 8; (with_reducible refine (HRp.out _).mono ?_); rintro e w' ⟨rfl, e1⟩; subst w'; clear hcx)
                    | (go_at_call 17; (with_reducible refine (HHe.out _ HMa.out.only HMa.out.hd HSa.out).mono ?_); rintro e w5 ⟨E, hE, rfl, ho5⟩; have HM5 := Lib.hid (HMa.out.same ho5); have HNe := Lib.hid (HN5.out _ _ hE); clear hE ho5)
                    | (go_at_call 11; (with_reducible refine (HNe.out _ HM5.out.only).mono ?_); rintro e w6 ⟨rfl, ho6⟩; have HM6 := Lib.hid (HM5.out.same ho6))
                    | (go_at_call 20; (with_reducible refine (mdMask_any HM6.out.hd).mono ?_); rintro e w' ⟨rfl, e1⟩; subst w')
                    | (go_at_call 21; (with_reducible refine (mdWaits_any HM6.out.hd).mono ?_); rintro e w' ⟨rfl, e1⟩; subst w')
                    | (go_at_call 22; (with_reducible refine (mdTMask_any HM6.out.tl).mono ?_); rintro e w' ⟨rfl, e1⟩; subst w')
                    | fail)
                  go_roundw
                  case rel => exact ⟨j + 1, hm, _, tm, by omega, rfl, rfl, rfl, by go_num, HM6.out⟩
                  case measure => simp [intOf]; omega
          · have hz1 : (ak == 1) = false := by simp [hk1]
            by_cases hk2 : ak = 2
            · subst hk2
              clear hk0 hk1
              by_cases hN : takeNum xs = 0
              · have HHe : Hid (∀ W, Only (fun _ => False) w W → TlAt W q T tm → Src W aA al xs → _) := fun W ho (h : TlAt W q T tm) hs => mdTake_ok (HW.out.only ho) h HT.out acp hs hN
                have HN0 := Lib.hid (num_is HE.out (ErrV.nil es))
                unfold takeNum at hN
                generalize (saysM xs).1 = x at *
                generalize (saysM xs).2.1 = kk at *
                generalize (saysM xs).2.2 = z at *
                have hall : z = 0 ∧ kk = false := by
                  by_cases h : z = 0
                  · rw [if_pos h] at hN
                    cases kk <;> simp at hN ⊢
                    exact h
                  · rw [if_neg h] at hN
                    exact absurd hN h
                obtain ⟨rfl, rfl⟩ := hall
                have hmk := HMk.out rfl
                have HRb := Lib.hid (fun W => HBo.out W x hmk)
                have hbm := isMask_iff.1 (both_mask hmk HT.out)
                clear hN hmk
                generalize both x T = y at *
                have hy0 : 0 ≤ y := hbm.1
                have hy1 : y ≤ 31 := by omega
                have hT2 : ∀ W : World, _ := fun W => body_text W (m := y + 4) (by omega) (by omega)
                clear hbm
                generalize bodyM (y + 4) = tx at *
                have htt : (tx == tx) = true := by simp
                have htn : (tx != tx) = false := by simp
                as_aux_lemma =>
                  go_wp2_with (first
                    | ((with_reducible show wpList _ _ _ (⟨some 39, _, _, _, _, _⟩ :: _) _ _); refine wpList_load_mid rfl 40 _ rfl bb (off + j * 3) rfl (Ma.cs ⟨2, an, aA, al, acp, xs⟩) _ HRg.out Tryd.underlying40 rfl size_mact ?_)
                    | (go_at_call 8; (with_reducible refine (HRp.out _).mono ?_); rintro e w' ⟨rfl, e1⟩; subst w'; clear hcx)
                    | (go_at_call 18; (with_reducible refine (HHe.out _ HMa.out.only HMa.out.tl HSa.out).mono ?_); rintro e w5 ⟨N, rfl, hN5, hs5, ht5, ho5⟩; have HM5 : Hid (MAt w w5 p q hm b T y) := ⟨HMa.out.hd.far ho5.out hpq, ht5.out, HMa.out.only.trans ho5.out (fun i hi => .inr (by have := HQ.out; omega))⟩)
                    | (go_at_call 19; (with_reducible refine (HRb.out _).mono ?_); rintro e w6 ⟨rfl, ho6⟩; have HM6 := Lib.hid (HM5.out.same ho6.out); have HS6 := Lib.hid (hs5.out.only ho6.out (fun _ _ _ h => h)))
                    | (go_at_call 11; (with_reducible refine (HN0.out _ HM6.out.only).mono ?_); rintro e w7 ⟨rfl, ho7⟩; have HM7 := Lib.hid (HM6.out.same ho7); have hc7 := HS6.out.texts 2 _ ho7; have HM8 : Hid (MAt w (w7.alloc (.cells #[.int .u8 1, .int .u8 (y + 4)] 5)) p q hm b T y) := HM7.out.same ((Only.refl _ _).alloc _))
                    | (go_at_call 20; (with_reducible refine (mdMask_any HM8.out.hd).mono ?_); rintro e w' ⟨rfl, e1⟩; subst w')
                    | (go_at_call 21; (with_reducible refine (mdWaits_any HM8.out.hd).mono ?_); rintro e w' ⟨rfl, e1⟩; subst w')
                    | (go_at_call 22; (with_reducible refine (mdTMask_any HM8.out.tl).mono ?_); rintro e w' ⟨rfl, e1⟩; subst w')
                    | fail)
                  go_roundw
                  case rel => exact ⟨j + 1, hm, b, y, by omega, rfl, rfl, rfl, by go_num, HM8.out⟩
                  case measure => simp [intOf]; omega
              · have HHe : Hid (∀ W, Only (fun _ => False) w W → Src W aA al xs → _) := fun W ho hs => mdTake_bad (q := q) (HW.out.only ho) acp hs hN
                have HN5 : Hid (∀ E z, ErrV es E z → NumIs w E (z : Int)) := fun E z h => num_is HE.out h
                unfold takeNum at hN HHe
                generalize (saysM xs).1 = x at *
                generalize (saysM xs).2.1 = kk at *
                generalize (saysM xs).2.2 = z at *
                by_cases h : z = 0
                · subst h
                  simp only [if_true] at HHe hN
                  obtain rfl : kk = true := by
                    cases kk <;> simp at hN ⊢
                  simp only [if_true] at HHe
                  clear hN
                  as_aux_lemma =>
                    go_wp2_with (first
                      | ((with_reducible show wpList _ _ _ (⟨some 39, _, _, _, _, _⟩ :: _) _ _); refine wpList_load_mid rfl 40 _ rfl bb (off + j * 3) rfl (Ma.cs ⟨2, an, aA, al, acp, xs⟩) _ HRg.out Tryd.underlying40 rfl size_mact ?_)
                      | (go_at_call 8; (with_reducible refine (HRp.out _).mono ?_); rintro e w' ⟨rfl, e1⟩; subst w'; clear hcx)
                      | (go_at_call 18; (with_reducible refine (HHe.out _ HMa.out.only HSa.out).mono ?_); rintro e w5 ⟨E, hE, rfl, ho5⟩; have HM5 := Lib.hid (HMa.out.same ho5); have HNe := Lib.hid (HN5.out _ _ hE); clear hE ho5)
                      | (go_at_call 11; (with_reducible refine (HNe.out _ HM5.out.only).mono ?_); rintro e w6 ⟨rfl, ho6⟩; have HM6 := Lib.hid (HM5.out.same ho6))
                      | (go_at_call 20; (with_reducible refine (mdMask_any HM6.out.hd).mono ?_); rintro e w' ⟨rfl, e1⟩; subst w')
                      | (go_at_call 21; (with_reducible refine (mdWaits_any HM6.out.hd).mono ?_); rintro e w' ⟨rfl, e1⟩; subst w')
                      | (go_at_call 22; (with_reducible refine (mdTMask_any HM6.out.tl).mono ?_); rintro e w' ⟨rfl, e1⟩; subst w')
                      | fail)
                    go_roundw
                    case rel => exact ⟨j + 1, hm, b, tm, by omega, rfl, rfl, rfl, by go_num, HM6.out⟩
                    case measure => simp [intOf]; omega
                · have hz2 : ((z : Int) == 0) = false := by simp [h]
                  have hz3 : ((z : Int) != 0) = true := by simp [h]
                  have hzz : ((z : Int) == (z : Int)) = true := by simp
                  rw [if_neg h] at HHe
                  clear hN h
                  as_aux_lemma =>
                    go_wp2_with (first
                      | ((with_reducible show wpList _ _ _ (⟨some 39, _, _, _, _, _⟩ :: _) _ _); refine wpList_load_mid rfl 40 _ rfl bb (off + j * 3) rfl (Ma.cs ⟨2, an, aA, al, acp, xs⟩) _ HRg.out Tryd.underlying40 rfl size_mact ?_)
                      | (go_at_call 8; (with_reducible refine (HRp.out _).mono ?_); rintro e w' ⟨rfl, e1⟩; subst w'; clear hcx)
                      | (go_at_call 18; (with_reducible refine (HHe.out _ HMa.out.only HSa.out).mono ?_); rintro e w5 ⟨E, hE, rfl, ho5⟩; have HM5 := Lib.hid (HMa.out.same ho5); have HNe := Lib.hid (HN5.out _ _ hE); clear hE ho5)
                      | (go_at_call 11; (with_reducible refine (HNe.out _ HM5.out.only).mono ?_); rintro e w6 ⟨rfl, ho6⟩; have HM6 := Lib.hid (HM5.out.same ho6))
                      | (go_at_call 20; (with_reducible refine (mdMask_any HM6.out.hd).mono ?_); rintro e w' ⟨rfl, e1⟩; subst w')
                      | (go_at_call 21; (with_reducible refine (mdWaits_any HM6.out.hd).mono ?_); rintro e w' ⟨rfl, e1⟩; subst w')
                      | (go_at_call 22; (with_reducible refine (mdTMask_any HM6.out.tl).mono ?_); rintro e w' ⟨rfl, e1⟩; subst w')
                      | fail)
                    go_roundw
                    case rel => exact ⟨j + 1, hm, b, tm, by omega, rfl, rfl, rfl, by go_num, HM6.out⟩
                    case measure => simp [intOf]; omega
            · have hz2 : (ak == 2) = false := by simp [hk2]
              generalize (saysM xs).1 = x at *
              generalize (saysM xs).2.1 = kk at *
              generalize (saysM xs).2.2 = z at *
              clear hk0 hk1 hk2
              as_aux_lemma =>
                go_wp2_with (first
                  | ((with_reducible show wpList _ _ _ (⟨some 39, _, _, _, _, _⟩ :: _) _ _); refine wpList_load_mid rfl 40 _ rfl bb (off + j * 3) rfl (Ma.cs ⟨ak, an, aA, al, acp, xs⟩) _ HRg.out Tryd.underlying40 rfl size_mact ?_)
                  | (go_at_call 8; (with_reducible refine (HRp.out _).mono ?_); rintro e w' ⟨rfl, e1⟩; subst w'; clear hcx)
                  | (go_at_call 20; (with_reducible refine (mdMask_any HMa.out.hd).mono ?_); rintro e w' ⟨rfl, e1⟩; subst w')
                  | (go_at_call 21; (with_reducible refine (mdWaits_any HMa.out.hd).mono ?_); rintro e w' ⟨rfl, e1⟩; subst w')
                  | (go_at_call 22; (with_reducible refine (mdTMask_any HMa.out.tl).mono ?_); rintro e w' ⟨rfl, e1⟩; subst w')
                  | fail)
                go_roundw
                case rel => exact ⟨j + 1, hm, b, tm, by omega, rfl, rfl, rfl, by go_num, HMa.out⟩
                case measure => simp [intOf]; omega
    · obtain rfl : j = n := by omega
      go_wp2_with fail
      go_ret
      exact ⟨rfl, HM.out.only⟩

theorem modeActs_facts {W : World} (h : laidMetH Tryd.prog Rows.modeActsRow.laid W) : BitsAt W ∧ ∃ es, ErrsAt W es := by
  rw [MakeChecks.laidMetH_plain _ _ _ (by kernel_rfl)] at h
  exact ⟨bits_fact h (by simp [Rows.modeActsRow]), errs_front (l := Rows.modeActsRow.laid) h (by kernel_rfl) (by
    intro x hx
    simp only [Rows.modeActsRow, List.take_succ_cons, List.take_zero, List.mem_cons, List.not_mem_nil, or_false] at hx
    rcases hx with rfl | rfl | rfl | rfl | rfl | rfl | rfl | rfl | rfl | rfl | rfl | rfl | rfl | rfl | rfl | rfl <;> exact ⟨_, rfl⟩)⟩

theorem modeActs_walk (W : World) (can : Int) {A : Option Addr} {n cap fuel : Nat} {H : Type} {enc : TypeId × Value → H} {x : DataW H × List MemPlace} (hf : DataW.trod enc Tryd.prog W 0 (fun _ => true) true fuel 34 [.slice A n cap] = some x)
    (hF : BitsAt W ∧ ∃ es, ErrsAt W es) : Calls Tryd.prog 4 #[.int .i64 can, .slice A n cap] W (Fine W) := by
  obtain ⟨hB, es, hes⟩ := hF
  obtain ⟨_, _, l, hl⟩ := open_macts hf
  by_cases h : 60 < n
  · exact macts_long (es := es) ⟨hes.of _, hB⟩ can A n cap h
  · exact macts_ok hes hB can cap hl (by omega)
end Go.Proofs.YtefcgbkbgkllaaaDoor
