/- MaskBodies, walked. -/
import Derived.Test.YtedaldkfflogkaaDoorMkAlive
import Derived.Test.YtedaldkfflogkaaDoorMkParseOk
import Derived.Test.YtedaldkfflogkaaDoorMkRefParse
import Derived.Test.YtedaldkfflogkaaDoorMkEq
namespace Go.Proofs.YtedaldkfflogkaaDoor
open Go Go.ChangeShapes Go.WideShapes Go.ChangeAt Go.RowKit
set_option maxRecDepth 100000
set_option maxHeartbeats 4000000

theorem mbodies_long (w : World) (A : Option Addr) (n cap : Nat) (vb : Int) (m : List UInt8) (h : 100 < n) : Calls Tryd.prog 3 #[.slice A n cap, .int .i64 vb, mkV m] w (Fine w) := by
  have hd : decide ((100 : Int) < (n : Int)) = true := by simp; omega
  have HA := Lib.hid (fun W => mkalive_any W)
  clear h
  unfold mkV
  obtain ⟨cs, hcs⟩ : ∃ cs, cs = m.map B8 := ⟨_, rfl⟩
  rw [← hcs]
  clear hcs
  go_enter Tryd.func3, Tryd.ntmps3
  go_wp2_with (go_at_call 5; refine (HA.out _).mono ?_; rintro e w1 ⟨rfl, ho1⟩)
  go_ret
  exact ⟨rfl, ((Only.refl _ _).alloc _).trans ho1 (fun _ h => h.elim)⟩

/-- What a body says, by program and by document. -/
theorem mk_parses {w : World} {es : List Addr} (hes : ErrsAt w es) {A : Option Addr} {n cap : Nat} {xs : List UInt8} (hs : Src w A n xs) (hnc : n ≤ cap) : ∃ (v z : Int) (p : List UInt8) (E : Value), p.length = 32 ∧ NumIs w E z ∧
    (∀ W, Only (fun _ => False) w W → Calls Tryd.prog 6 #[.slice A n cap] W fun e w' => e = .returned (.tuple #[.int .i64 v, mkV p, E]) ∧ Only (fun _ => False) W w') ∧
    (∀ W, Calls Tryd.prog 7 #[.string ⟨xs.toArray⟩] W fun e w' => e = .returned (.tuple #[.int .i64 v, .string ⟨(mkCut p).toArray⟩, .int .i64 z]) ∧ Only (fun _ => False) W w') := by
  have hl := hs.1
  have hz : mkCut mkZ = [] := by decide +kernel
  have hzl : mkZ.length = 32 := by simp
  by_cases h2 : n < 2
  · obtain ⟨a, ha, _⟩ := (hes.of [2, 3, 8]).get 2 0 (by decide) rfl
    refine ⟨0, 3, mkZ, errV a, hzl, num_is hes (ErrV.err ha 3 rfl), fun W ho => ?_, fun W => by rw [hz]; exact rparse_short W xs (by omega)⟩
    refine (mparse_short ((hes.of [2, 3, 8]).only ho) A n cap h2).mono ?_
    rintro e w' ⟨a', ha', rfl, ho'⟩
    rw [ha] at ha'
    injection ha' with ha'
    subst ha'
    exact ⟨rfl, ho'⟩
  · match xs, hl with
    | [], hl => exact absurd hl (by simp; omega)
    | [_], hl => exact absurd hl (by simp; omega)
    | x :: y :: r, hl =>
      simp only [List.length_cons] at hl
      by_cases hb : (251 ≤ x.toNat ∧ x.toNat ≤ 254) ∧ y.toNat = 2
      · obtain ⟨hv, hy⟩ := hb
        by_cases hlong : mostOf (x.toNat : Int) < (n : Int) - 2
        · obtain ⟨a, ha, _⟩ := (hes.of [2, 3, 8]).get 3 2 (by decide) rfl
          refine ⟨0, 4, mkZ, errV a, hzl, num_is hes (ErrV.err ha 4 rfl), fun W ho => ?_, fun W => ?_⟩
          · refine (mparse_long ((hes.of [2, 3, 8]).only ho) cap (hs.only ho (fun _ _ _ h => h)) rfl hv hy hlong).mono ?_
            rintro e w' ⟨a', ha', rfl, ho'⟩
            rw [ha] at ha'
            injection ha' with ha'
            subst ha'
            exact ⟨rfl, ho'⟩
          · rw [hz]
            refine rparse_long W _ rfl hv hy ?_
            simp only [List.length_cons]
            unfold mostOf at hlong
            split at hlong <;> omega
        · have hfit : (n : Int) - 2 ≤ mostOf (x.toNat : Int) := by omega
          have hr32 : r.length ≤ 32 := by unfold mostOf at hfit; split at hfit <;> omega
          refine ⟨x.toNat, 0, r ++ List.replicate (32 - r.length) 0, .nilIface, by simp; omega, num_is hes (ErrV.nil es), fun W ho => mparse_ok hnc (hs.only ho (fun _ _ _ h => h)) rfl hv hy hfit, fun W => ?_⟩
          rw [mkCut_zeros]
          refine rparse_ok W _ rfl hv hy ?_
          simp only [List.length_cons]
          unfold mostOf at hfit
          split at hfit <;> omega
      · obtain ⟨a, ha, _⟩ := (hes.of [2, 3, 8]).get 8 1 (by decide) rfl
        refine ⟨0, 9, mkZ, errV a, hzl, num_is hes (ErrV.err ha 9 rfl), fun W ho => ?_, fun W => by rw [hz]; exact rparse_kind W _ rfl hb⟩
        refine (mparse_kind ((hes.of [2, 3, 8]).only ho) cap (hs.only ho (fun _ _ _ h => h)) rfl hb).mono ?_
        rintro e w' ⟨a', ha', rfl, ho'⟩
        rw [ha] at ha'
        injection ha' with ha'
        subst ha'
        exact ⟨rfl, ho'⟩

theorem mbodies_ok {w : World} {es : List Addr} (hes : ErrsAt w es) {A : Option Addr} {n cap : Nat} {xs : List UInt8} (hs : Src w A n xs) (hnc : n ≤ cap) (hn : n ≤ 100) (vb : Int) {m : List UInt8} (hl : m.length = 32) :
    Calls Tryd.prog 3 #[.slice A n cap, .int .i64 vb, mkV m] w (Fine w) := by
  have hd : decide ((100 : Int) < (n : Int)) = false := by simp; omega
  have HA := Lib.hid (fun W => mkalive_any W)
  obtain ⟨v, z, p, E, hpl, hN, hP, hR⟩ := mk_parses hes hs hnc
  have HN1 := Lib.hid hN
  have HP := Lib.hid hP
  have HR := Lib.hid hR
  have HRow := Lib.hid (fun W => mrow_any W hpl)
  have HT := Lib.hid (hs.texts cap)
  have HBo := Lib.hid (fun (hv : 251 ≤ vb ∧ vb ≤ 254) W => mbody_ok (w := W) hv hl)
  have HBb : Hid (¬ (251 ≤ vb ∧ vb ≤ 254) → ∃ E2, NumIs w E2 9 ∧ ∀ W, Only (fun _ => False) w W → Calls Tryd.prog 10 #[.int .i64 vb, mkV m] W fun e w' => e = .returned (.tuple #[.slice none 0 0, E2]) ∧ Only (fun _ => False) W w') := fun hv => by
    obtain ⟨a, ha, _⟩ := (hes.of [2, 3, 8]).get 8 1 (by decide) rfl
    refine ⟨errV a, num_is hes (ErrV.err ha 9 rfl), fun W ho => ?_⟩
    refine (mbody_bad ((hes.of [2, 3, 8]).only ho) hv m).mono ?_
    rintro e w' ⟨a', ha', rfl, ho'⟩
    rw [ha] at ha'
    injection ha' with ha'
    subst ha'
    exact ⟨rfl, ho'⟩
  have HC := Lib.hid (fun W => rcut_any W m (by omega))
  have HCp := Lib.hid (mkV_one p)
  have HZ := Lib.hid zero_mask
  have HCz := Lib.hid (show ((List.replicate 32 0).map B8).length = 32 by simp)
  have hal := all_mask
  unfold mkV at *
  obtain ⟨cs, hcs⟩ : ∃ cs, cs = m.map B8 := ⟨_, rfl⟩
  obtain ⟨ps, hps⟩ : ∃ ps, ps = p.map B8 := ⟨_, rfl⟩
  obtain ⟨zs, hzs⟩ : ∃ zs : List Value, zs = (List.replicate 32 0).map B8 := ⟨_, rfl⟩
  have hcl : cs.length = 32 := by rw [hcs, List.length_map, hl]
  have hpsl : ps.length = 32 := by rw [hps, List.length_map, hpl]
  rw [← hcs] at HBo HBb ⊢
  rw [← hps] at HP HRow HCp
  rw [← hzs] at HZ HCz
  obtain ⟨q, hq⟩ : ∃ q, q = mkCut p := ⟨_, rfl⟩
  rw [← hq] at HR HRow
  have hsz := size_mask
  rw [← hcl] at hsz
  have HSz := Lib.hid hsz
  have hsz2 := size_mask
  rw [← hpsl] at hsz2
  have HSp := Lib.hid hsz2
  have HLp := Lib.hid hpsl
  have HSm : Hid (∀ W, Blk W w.heap.size 24 cs → Src W (some ⟨w.heap.size, 0, none⟩) 32 m) := fun W hb => hb.src hl (fun j x hj => by rw [Nat.zero_add, hcs, List.getElem?_map, hj]; rfl)
  clear hs hcs hps hzs hcl hpsl hq hN hP hR hsz hsz2 hes hpl
  have hqq : (q == q) = true := by simp
  have hqn : (q != q) = false := by simp
  have hvv : (v == v) = true := by simp
  have hvn : (v != v) = false := by simp
  have hzz : (z == z) = true := by simp
  have hzn : (z != z) = false := by simp
  go_enter Tryd.func3, Tryd.ntmps3
  go_wp2_with (first
    | (go_at_call 5; (with_reducible refine (HA.out _).mono ?_); rintro e w1 ⟨rfl, ho1⟩; have HO1 : Hid (Only (fun _ => False) w w1) := ((Only.refl _ w).alloc _).trans ho1 (fun _ h => h.elim); have HN : Hid (∀ W, Only (fun _ => False) w1 W → Blk W w.heap.size 24 cs) := (fun W ho => ((Blk.new w _ cs).only ho1 (fun h => h)).only ho (fun h => h)); clear ho1)
    | (go_at_call 6; (with_reducible refine (HP.out _ HO1.out).mono ?_); rintro e w2 ⟨rfl, ho2⟩; have HO2 := Lib.hid ho2; clear ho2; have HB2 : Hid (Blk (w2.alloc (.cells zs.toArray 24)) w2.heap.size 24 zs) := Blk.new _ _ _)
    | ((with_reducible show wpList _ _ _ (⟨some 8, .alloc _, _, _, _, _⟩ :: _) _ _); refine step_alloc rfl 24 rfl zs 32 HZ.out ?_)
    | ((with_reducible show wpList _ _ _ (⟨none, .store _ _ _, _, _, _, _⟩ :: _) _ _); refine step_store rfl 24 _ _ rfl w2.heap.size rfl ps rfl 24 zs HB2.out HSp.out (by rw [HLp.out]; exact HCz.out) HCp.out ?_; intro w3 hb3 hz3 ho3; have HO3 : Hid (Only (fun _ => False) w1 w3) := (HO2.out.alloc _).trans ho3 (fun i hi => .inr (by have := HO2.out.size; omega)); clear ho3 HB2; generalize w2.heap.size = M at *; have hcx := HT.out w3 (HO1.out.trans HO3.out (fun _ h => h.elim)))
    | (go_at_call 7; (with_reducible refine (HR.out _).mono ?_); rintro e w4 ⟨rfl, ho4⟩; have HO4 := Lib.hid ho4; clear ho4 hcx; have HB4 := Lib.hid (hb3.out.only HO4.out (fun h => h)))
    | ((with_reducible show wpList _ _ _ (⟨some 37, .load _ _, _, _, _, _⟩ :: _) _ _); refine wpList_load_g rfl 24 _ rfl M rfl ps _ (range_of HB4.out) Tryd.underlying24 rfl HSp.out ?_)
    | (go_at_call 8; (with_reducible refine (HRow.out _).mono ?_); rintro e w5 ⟨A5, c5, rfl, hs5, ho5⟩; have hcv5 := hs5.out.texts c5 w5 (Only.refl _ _); have HO5 : Hid (Only (fun _ => False) w1 w5) := (HO3.out.trans HO4.out (fun _ h => h.elim)).trans ho5.out (fun _ h => h.elim))
    | (go_at_call 9; (with_reducible refine (HN1.out _ (HO1.out.trans HO5.out (fun _ h => h.elim))).mono ?_); rintro e w6 ⟨rfl, ho6⟩; have HO6 : Hid (Only (fun _ => False) w1 w6) := HO5.out.trans ho6 (fun _ h => h.elim); clear ho6 hcv5)
    | ((with_reducible show wpList _ _ _ (⟨some 51, .load _ _, _, _, _, _⟩ :: _) _ _); refine wpList_load_mid rfl 24 _ rfl w.heap.size 0 rfl cs _ (range_of (HN.out w6 HO6.out)) Tryd.underlying24 rfl HSz.out ?_)
    | fail)
  have HW6 : Hid (Only (fun _ => False) w w6) := HO1.out.trans HO6.out (fun _ h => h.elim)
  have HN6 : Hid (∀ W, Only (fun _ => False) w6 W → Blk W w.heap.size 24 cs) := fun W ho => HN.out W (HO6.out.trans ho (fun _ h => h.elim))
  clear HN HO6 HO5 HO4 HB4 hs5 ho5 hb3 hz3 HO3 HO2 HO1 HA HP HR HRow HN1 hqq hqn hvv hvn hzz hzn
  by_cases hv : 251 ≤ vb ∧ vb ≤ 254
  · have HB := Lib.hid (HBo.out hv)
    have e1 : decide (vb < 251) = false := by simp; omega
    have e2 : decide ((254 : Int) < vb) = false := by simp; omega
    have hw8 : IntKind.u8.wrap vb = vb := IntWalk.u8_in _ (by omega)
    have hb8 : B8 (b8 vb) = .int .u8 vb := by unfold B8; rw [b8_int (by omega) (by omega)]
    have HTn : Hid (∀ (W : World) (N : Nat), W.heap.size = N → (convert 22 9 (.slice (some ⟨N, 0, none⟩) 2 2)).run Tryd.prog (W.alloc (.cells #[.int .u8 vb, .int .u8 2] 5)) = .ok (.string ⟨([b8 vb, 2] : List UInt8).toArray⟩) (W.alloc (.cells #[.int .u8 vb, .int .u8 2] 5))) := fun W N hN =>
      text_new W [b8 vb, 2] 2 rfl _ (by rw [List.map_cons, List.map_cons, List.map_nil, hb8]; rfl) N hN
    refine (HB.out w6).mono ?_
    rintro e w7 ⟨A7, n7, c7, rfl, _, h34, hs7, ho7⟩
    have hcn := HTn.out w7 w7.heap.size rfl
    have HO8 : Hid (Only (fun _ => False) w7 (w7.alloc (.cells #[.int .u8 vb, .int .u8 2] 5))) := (Only.refl _ _).alloc _
    have hcy := hs7.out.texts c7 _ HO8.out
    by_cases h3 : vb = 253
    · have hb : mkBody vb m = [b8 vb, 2] ++ mkCut m := by rw [mkBody, if_pos h3]
      have e3 : (vb == 253) = true := by simp [h3]
      have HM : Hid (Src (w7.alloc (.cells #[.int .u8 vb, .int .u8 2] 5)) (some ⟨w.heap.size, 0, none⟩) 32 m) := HSm.out _ (HN6.out _ (ho7.out.trans HO8.out (fun _ h => h.elim)))
      have hcm := HM.out.texts 32 _ (Only.refl _ _)
      have hadd := fun W => sum_texts (P := Tryd.prog) (w := W) [b8 vb, 2] (mkCut m) (mkBody vb m) hb.symm (by have := mkCut_le m; simp; omega)
      obtain ⟨r, hr⟩ : ∃ r, r = mkCut m := ⟨_, rfl⟩
      obtain ⟨bs, hbs⟩ : ∃ bs, bs = mkBody vb m := ⟨_, rfl⟩
      rw [← hr] at HC hadd
      rw [← hbs] at hcy hadd
      have hbb : (bs == bs) = true := by simp
      have HCx := HC.out (w7.alloc (.cells #[.int .u8 vb, .int .u8 2] 5))
      obtain ⟨ab, hab⟩ : ∃ ab, ab = ([b8 vb, 2] : List UInt8) := ⟨_, rfl⟩
      rw [← hab] at hcn hadd
      clear hv hb hb8 hr hbs hab HTn h3 HB HBo HBb HM hs7
      go_wp2_with (first
        | (go_at_call 11; (with_reducible refine HCx.mono ?_); rintro e w9 ⟨rfl, e9⟩; subst w9)
        | fail)
      go_ret
      exact ⟨rfl, (HW6.out.trans ho7.out (fun _ h => h.elim)).alloc _⟩
    · have hb : mkBody vb m = [b8 vb, 2] := by rw [mkBody, if_neg h3, List.append_nil]
      have e3 : (vb == 253) = false := by simp [h3]
      rw [hb] at hcy
      obtain ⟨ab, hab⟩ : ∃ ab, ab = ([b8 vb, 2] : List UInt8) := ⟨_, rfl⟩
      rw [← hab] at hcn hcy
      have hbb : (ab == ab) = true := by simp
      clear hv hb hb8 hab HTn h3 HB HBo HBb hs7
      go_wp2_with fail
      go_ret
      exact ⟨rfl, (HW6.out.trans ho7.out (fun _ h => h.elim)).alloc _⟩
  · obtain ⟨E2, hN2, hB⟩ := HBb.out hv
    have HN2 := Lib.hid hN2
    have HB := Lib.hid hB
    clear hN2 hB HBb HBo
    refine (HB.out w6 HW6.out).mono ?_
    rintro e w7 ⟨rfl, ho7⟩
    have HO7 : Hid (Only (fun _ => False) w w7) := HW6.out.trans ho7 (fun _ h => h.elim)
    clear ho7
    rcases (show vb < 251 ∨ (¬ vb < 251 ∧ 254 < vb) by omega) with h0 | ⟨h0, h1⟩
    · have e0 : decide (vb < 251) = true := by simpa using h0
      clear hv h0
      go_wp2_with (go_at_call 9; (with_reducible refine (HN2.out _ HO7.out).mono ?_); rintro e w8 ⟨rfl, ho8⟩)
      go_ret
      exact ⟨rfl, HO7.out.trans ho8 (fun _ h => h.elim)⟩
    · have e0 : decide (vb < 251) = false := by simpa using h0
      have e1 : decide ((254 : Int) < vb) = true := by simpa using h1
      clear hv h0 h1
      go_wp2_with (go_at_call 9; (with_reducible refine (HN2.out _ HO7.out).mono ?_); rintro e w8 ⟨rfl, ho8⟩)
      go_ret
      exact ⟨rfl, HO7.out.trans ho8 (fun _ h => h.elim)⟩

theorem maskBodies_walk (W : World) {H : Type} {enc : TypeId × Value → H} {fuel : Nat} {A : Option Addr} {n cap : Nat} {x : DataW H × List MemPlace} (hf : DataW.trod enc Tryd.prog W 0 (fun _ => true) true fuel 22 [.slice A n cap] = some x)
    (vb : Int) {m : List UInt8} (hl : m.length = 32) {es : List Addr} (hes : ErrsAt W es) : Calls Tryd.prog 3 #[.slice A n cap, .int .i64 vb, mkV m] W (Fine W) := by
  obtain ⟨A', n', c', xs, e1, h1, h2, h3⟩ := opened_cell hf
  injection e1 with e1 e2 e3
  subst e1 e2 e3
  by_cases h : 100 < n
  · exact mbodies_long W A n cap vb m h
  · exact mbodies_ok hes h1 h2 (by omega) vb hl
end Go.Proofs.YtedaldkfflogkaaDoor
