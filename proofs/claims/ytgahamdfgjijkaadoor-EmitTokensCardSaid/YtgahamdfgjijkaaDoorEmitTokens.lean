/- EmitTokens, walked. -/
import Derived.Test.YtgahamdfgjijkaaDoorEmitAlive
import Derived.Test.YtgahamdfgjijkaaDoorEmitRefT
import Derived.Test.YtgahamdfgjijkaaDoorTkOf
import Derived.Test.YtgahamdfgjijkaaDoorTkOpen
namespace Go.Proofs.YtgahamdfgjijkaaDoor
open Go Go.RowKit
set_option maxRecDepth 100000
set_option maxHeartbeats 4000000

/-- string(b) of bytes that were told. -/
theorem told_text {w : World} {B : Nat} {A : Option Addr} {n c : Nat} {b : List UInt8} (h : Body w B (.slice A n c) b) (hn : n = b.length) :
    (convert 24 9 (.slice A n c)).run Tryd.prog w = .ok (.string ⟨b.toArray⟩) w :=
  text_of (P := Tryd.prog) (h.src hn) c 24 9 5 Tryd.underlying24 Tryd.underlying5 Tryd.underlying9
/-- .. the world's draws apart. -/
theorem errs_sel {w : World} {es : List Addr} (h : ErrsAt w es) : ErrsOf w [0, 3, 8] es := h.of _

theorem etokens_long {w : World} {es : List Addr} (hes : ErrsAt w es) (A : Option Addr) (n c : Nat) (h : 30 < n) : Calls Tryd.prog 3 #[.slice A n c] w (Fine w) := by
  have hd : decide ((30 : Int) < (n : Int)) = true := by simp; omega
  have HA := Lib.hid (ealive_any (errs_sel hes))
  clear hes
  go_enter Tryd.func3, Tryd.ntmps3
  go_wp2_with (go_at_call 6; refine HA.out.mono ?_; rintro e w1 ⟨rfl, ho1⟩)
  go_ret
  exact ⟨rfl, ho1⟩

theorem etokens_ok {w : World} {es : List Addr} (hes : ErrsAt w es) (A : Option Addr) (n c : Nat) (ps : List TkP) (hr : RdTk w A n ps) (hn : n ≤ 30) : Calls Tryd.prog 3 #[.slice A n c] w (Fine w) := by
  have hd : decide ((30 : Int) < (n : Int)) = false := by simp; omega
  have HA := Lib.hid (ealive_any (errs_sel hes))
  have HE := Lib.hid hes
  have HR := Lib.hid hr
  obtain ⟨ts, hts⟩ : ∃ ts, ts = ps.map TkP.t := ⟨_, rfl⟩
  have HT := Lib.hid hts
  have HTl : Hid (ts.length = n) := by rw [hts, List.length_map]; exact hr.len
  obtain ⟨T, hT⟩ : ∃ T, T = allB ts := ⟨_, rfl⟩
  obtain ⟨zz, hzz⟩ : ∃ zz, zz = numL ts := ⟨_, rfl⟩
  obtain ⟨M, hM⟩ : ∃ M, M = T.length := ⟨_, rfl⟩
  have HAll : Hid (∀ W, Only (fun _ => False) w W → Calls Tryd.prog 11 #[.slice A n c] W fun e w' => ∃ A1 c1 E, e = .returned (.tuple #[.slice A1 M c1, E]) ∧ (convert 24 9 (.slice A1 M c1)).run Tryd.prog w' = .ok (.string ⟨T.toArray⟩) w' ∧ Hid (ErrV es E zz) ∧ Hid (Only (fun _ => False) W w')) := fun W ho => by
    refine (eall_any (c := c) ((errs_sel hes).only ho) (hr.same ho) (by omega)).mono ?_
    rintro e w' ⟨A1, c1, E, rfl, hb, hE, ho1⟩
    rw [← hts] at hb hE
    rw [← hts, hM, hT, hzz]
    exact ⟨A1, c1, E, rfl, told_text hb.out rfl, hE, ho1⟩
  have HNum : Hid (∀ (W : World) (E : Value) (num : Nat), Only (fun _ => False) w W → ErrV es E num → Calls Tryd.prog 10 #[E] W fun e w' => e = .returned (.int .i64 (num : Int)) ∧ Only (fun _ => False) W w') := fun W E num ho hE => num_any (hes.only ho) hE
  have HTT := Lib.hid hT
  have HZZ := Lib.hid hzz
  clear hes hr hts hT hzz hM
  go_enter Tryd.func3, Tryd.ntmps3
  go_wp2_with (go_at_call 6; refine HA.out.mono ?_; rintro e w1 ⟨rfl, ho1⟩; have HO1 := Lib.hid ho1; clear ho1)
  go_loopw [3, 4, 20] (fun s b i W => ∃ (k : Nat) (f : List UInt8) (z : Int), k ≤ n ∧ i = .int .i64 (k : Int) ∧ s = .string ⟨f.toArray⟩ ∧ b = .int .i64 z ∧ f.length ≤ 600 * k ∧ Hid (f = accB (ts.take k) ∧ z = (numL (ts.take k) : Int)) ∧ Hid (Only (fun _ => False) w W)) (fun _ _ i _ => n - (intOf i).toNat)
  case atStart => exact ⟨0, [], 0, Nat.zero_le _, rfl, rfl, rfl, by simp, ⟨rfl, rfl⟩, HO1.out⟩
  case round =>
    obtain ⟨k, f, z, hk, rfl, rfl, rfl, hfl, HF, HO⟩ := hrel
    by_cases hlt : k < n
    · obtain ⟨x, hx⟩ : ∃ x, ps[k]? = some x := ⟨_, List.getElem?_eq_getElem (by rw [HR.out.len]; exact hlt)⟩
      have htx : ts[k]? = some x.t := by rw [HT.out, List.getElem?_map, hx]; rfl
      have HS := Lib.hid (take_snoc htx)
      obtain ⟨g, off, rfl, hra, hrd⟩ := (HR.out.same HO.out).at_ k x hx
      obtain ⟨cs, hcs⟩ : ∃ cs, cs = x.cells := ⟨_, rfl⟩
      obtain ⟨rs, hrs⟩ : ∃ rs, rs = rkCells x.t := ⟨_, rfl⟩
      obtain ⟨B, hB⟩ : ∃ B, B = tkBytes x.t := ⟨_, rfl⟩
      obtain ⟨MB, hMB⟩ : ∃ MB, MB = B.length := ⟨_, rfl⟩
      obtain ⟨num, hnum⟩ : ∃ num, num = tkNum x.t := ⟨_, rfl⟩
      obtain ⟨nz, hnz⟩ : ∃ nz : Int, nz = (num : Int) := ⟨_, rfl⟩
      obtain ⟨xn, hxn⟩ : ∃ xn, xn = x.t.body.length := ⟨_, rfl⟩
      have hBl : B.length ≤ 600 := by rw [hB]; exact tkBytes_length _
      have hrd' : x.val = .slice x.ad xn x.cap := by rw [hxn]; rfl
      have hsrc : Src wr x.ad xn x.t.body := by
        obtain ⟨A2, c2, e2, hs2, _⟩ := hrd
        unfold TkP.val at e2
        injection e2 with e3 _ e4
        rw [e3, hxn]
        exact hs2
      have HTok : Hid (∀ W, Only (fun _ => False) wr W → Calls Tryd.prog 9 #[.agg cs.toArray] W fun e w' => ∃ A1 c1 E, e = .returned (.tuple #[.slice A1 MB c1, E]) ∧ (convert 24 9 (.slice A1 MB c1)).run Tryd.prog w' = .ok (.string ⟨B.toArray⟩) w' ∧ Hid (ErrV es E num) ∧ Hid (Only (fun _ => False) W w')) := fun W ho => by
        have := token_any (cap := x.cap) (((errs_sel HE.out).only HO.out).only ho) x.t.kind x.t.code x.t.opt x.t.body x.t.cut (hsrc.only ho (fun _ _ _ h => h))
        rw [hcs, hMB, hB, hnum]
        rw [hxn] at this
        refine this.mono ?_
        rintro e w' ⟨A1, c1, E, rfl, hb, hE, ho1⟩
        exact ⟨A1, c1, E, rfl, told_text hb.out rfl, hE, ho1⟩
      have HOf : Hid (∀ W, Only (fun _ => False) wr W → Calls Tryd.prog 8 #[.agg cs.toArray] W fun e w' => e = .returned (.agg rs.toArray) ∧ Only (fun _ => False) W w') := fun W ho => by
        rw [hcs, hrs]
        exact of_any x.t x.val (hrd.same ho)
      by_cases hlong : 400 < xn
      · have d4 : decide ((400 : Int) < (xn : Int)) = true := by simp; omega
        have HRA : Hid (wr.rangeAt g (off + k * 5) cs) := by rw [hcs]; exact hra
        have hcl : cs.length = 5 := by rw [hcs]; rfl
        have HCL := Lib.hid hcl
        have HCO := Lib.hid (show ∀ v ∈ cs, v.oneCell' = true by rw [hcs]; exact x.cells_one)
        have HC3 : Hid (cs[3]? = some (.slice x.ad xn x.cap)) := by rw [hcs, ← hrd']; rfl
        clear hra hrd hcs hrs hB hnum hcl htx hMB hnz hxn hrd' hsrc hBl HTok HOf
        go_wp2_with (first
          | ((with_reducible show wpList _ _ _ (⟨some 23, _, _, _, _, _⟩ :: _) _ _); refine wpList_load_mid rfl 26 (.tmp 22) rfl g (off + k * 5) rfl cs _ HRA.out Tryd.underlying26 rfl (by rw [HCL.out]; exact size_tok) ?_)
          | ((with_reducible show wpList _ _ _ (⟨none, .store 26 _ _, _, _, _, _⟩ :: _) _ _); refine step_store rfl 26 _ _ rfl wr.heap.size rfl cs rfl _ (tkCells Tk.none (.slice none 0 0)) (Blk.new _ _ _) (by rw [HCL.out]; exact size_tok) HCL.out.symm HCO.out ?_; intro w4 hB4 hz4 ho4; have HO4 : Hid (Only (fun i => wr.heap.size ≤ i) wr w4) := (((Only.refl (fun i => wr.heap.size ≤ i) wr).alloc _).trans ho4 (fun i hi => .inl (by omega))); have q3 : w4.cell? ⟨wr.heap.size, 3, none⟩ = some (.slice x.ad xn x.cap) := (by rw [hB4.out.cell]; exact HC3.out)))
        go_ret
        exact ⟨rfl, HO.out.trans HO4.out (fun i hi => .inr (by have := HO.out.size; omega))⟩
      · have d4 : decide ((400 : Int) < (xn : Int)) = false := by simp; omega
        have HRA : Hid (wr.rangeAt g (off + k * 5) cs) := by rw [hcs]; exact hra
        have hcl : cs.length = 5 := by rw [hcs]; rfl
        have HCL := Lib.hid hcl
        have HCO := Lib.hid (show ∀ v ∈ cs, v.oneCell' = true by rw [hcs]; exact x.cells_one)
        have HC3 : Hid (cs[3]? = some (.slice x.ad xn x.cap)) := by rw [hcs, ← hrd']; rfl
        have HRT : Hid (∀ W, Calls Tryd.prog 7 #[.agg rs.toArray] W fun e w' => e = .returned (.tuple #[.string ⟨B.toArray⟩, .int .i64 nz]) ∧ Only (fun _ => False) W w') := fun W => by
          rw [hrs, hB, hnz, hnum]
          exact tokenRef_any W x.t.kind x.t.code x.t.opt x.t.body x.t.cut (by omega)
        obtain ⟨R, hR⟩ : ∃ R, R = f ++ B := ⟨_, rfl⟩
        have hadd : ∀ W, (Op.stringOp .add ⟨f.toArray⟩ ⟨B.toArray⟩).run Tryd.prog W = .ok (.string ⟨R.toArray⟩) W := fun W => sum_texts f B R hR.symm (by omega)
        have hRl : R.length ≤ 600 * (k + 1) := by rw [hR, List.length_append]; omega
        have HNum' : Hid (∀ (W : World) (E : Value), Only (fun _ => False) w W → ErrV es E num → Calls Tryd.prog 10 #[E] W fun e w' => e = .returned (.int .i64 nz) ∧ Only (fun _ => False) W w') := fun W E ho hE => by rw [hnz]; exact HNum.out W E num ho hE
        have hacc : accB (ts.take (k + 1)) = (if z = 0 then R else f) ∧ ((numL (ts.take (k + 1)) : Nat) : Int) = (if z = 0 then nz else z) := by
          rw [HS.out, accB_snoc, numL_snoc, ← HF.out.1, hR, hB, hnz, hnum, HF.out.2]
          by_cases h0 : numL (ts.take k) = 0
          · simp [h0]
          · simp [h0]
        have HAcc := Lib.hid hacc
        have hne : (nz != nz) = false := by simp
        have HBl := Lib.hid hBl
        clear hra hrd hcs hrs hB hnum hcl htx hMB hnz hxn hrd' hsrc hBl hR hacc
        by_cases hz0 : z = 0
        · have dz : (z == 0) = true := by simpa using hz0
          have HZ0 := Lib.hid hz0
          clear hz0
          go_wp2_with (first
            | ((with_reducible show wpList _ _ _ (⟨some 23, _, _, _, _, _⟩ :: _) _ _); refine wpList_load_mid rfl 26 (.tmp 22) rfl g (off + k * 5) rfl cs _ HRA.out Tryd.underlying26 rfl (by rw [HCL.out]; exact size_tok) ?_)
            | ((with_reducible show wpList _ _ _ (⟨none, .store 26 _ _, _, _, _, _⟩ :: _) _ _); refine step_store rfl 26 _ _ rfl wr.heap.size rfl cs rfl _ (tkCells Tk.none (.slice none 0 0)) (Blk.new _ _ _) (by rw [HCL.out]; exact size_tok) HCL.out.symm HCO.out ?_; intro w4 hB4 hz4 ho4; have HO4 : Hid (Only (fun _ => False) wr w4) := (((Only.refl (fun _ => False) wr).alloc _).trans ho4 (fun i hi => .inr (by omega))); have q3 : w4.cell? ⟨wr.heap.size, 3, none⟩ = some (.slice x.ad xn x.cap) := (by rw [hB4.out.cell]; exact HC3.out); clear ho4)
            | ((with_reducible show wpList _ _ _ (⟨some 29, _, _, _, _, _⟩ :: _) _ _); refine wpList_load_mid rfl 26 (.tmp 6) rfl wr.heap.size 0 rfl cs _ (range_of hB4.out) Tryd.underlying26 rfl (by rw [HCL.out]; exact size_tok) ?_)
            | (go_at_call 8; refine (HOf.out w4 HO4.out).mono ?_; rintro e w5 ⟨rfl, ho5⟩; have HO5 := Lib.hid ho5; clear ho5)
            | (go_at_call 7; refine (HRT.out w5).mono ?_; rintro e w6 ⟨rfl, ho6⟩; have HO6 : Hid (Only (fun _ => False) wr w6) := ((HO4.out.trans HO5.out (fun _ h => h.elim)).trans ho6 (fun _ h => h.elim)); have hB6 := Lib.hid ((hB4.out.only HO5.out (fun h => h)).only ho6 (fun h => h)); clear ho6)
            | ((with_reducible show wpList _ _ _ (⟨some 35, _, _, _, _, _⟩ :: _) _ _); refine wpList_load_mid rfl 26 (.tmp 6) rfl wr.heap.size 0 rfl cs _ (range_of hB6.out) Tryd.underlying26 rfl (by rw [HCL.out]; exact size_tok) ?_)
            | (go_at_call 9; refine (HTok.out w6 HO6.out).mono ?_; rintro e w7 ⟨A1, c1, E1, rfl, hcv, hE1, ho7⟩)
            | (go_at_call 10; refine (HNum'.out w7 E1 ((HO.out.trans HO6.out (fun _ h => h.elim)).trans ho7.out (fun _ h => h.elim)) hE1.out).mono ?_; rintro e w8 ⟨rfl, ho8⟩; have HO8 := Lib.hid ho8; clear ho8))
          go_roundw
          case rel =>
            refine ⟨k + 1, R, nz, by omega, by go_num, rfl, rfl, hRl, ?_, ((HO.out.trans HO6.out (fun _ h => h.elim)).trans ho7.out (fun _ h => h.elim)).trans HO8.out (fun _ h => h.elim)⟩
            have := HAcc.out
            rw [if_pos HZ0.out, if_pos HZ0.out] at this
            exact ⟨this.1.symm, this.2.symm⟩
          case measure => simp [intOf]; omega
        · have dz : (z == 0) = false := by simpa using hz0
          have HZ0 := Lib.hid hz0
          clear hz0
          go_wp2_with (first
            | ((with_reducible show wpList _ _ _ (⟨some 23, _, _, _, _, _⟩ :: _) _ _); refine wpList_load_mid rfl 26 (.tmp 22) rfl g (off + k * 5) rfl cs _ HRA.out Tryd.underlying26 rfl (by rw [HCL.out]; exact size_tok) ?_)
            | ((with_reducible show wpList _ _ _ (⟨none, .store 26 _ _, _, _, _, _⟩ :: _) _ _); refine step_store rfl 26 _ _ rfl wr.heap.size rfl cs rfl _ (tkCells Tk.none (.slice none 0 0)) (Blk.new _ _ _) (by rw [HCL.out]; exact size_tok) HCL.out.symm HCO.out ?_; intro w4 hB4 hz4 ho4; have HO4 : Hid (Only (fun _ => False) wr w4) := (((Only.refl (fun _ => False) wr).alloc _).trans ho4 (fun i hi => .inr (by omega))); have q3 : w4.cell? ⟨wr.heap.size, 3, none⟩ = some (.slice x.ad xn x.cap) := (by rw [hB4.out.cell]; exact HC3.out); clear ho4)
            | ((with_reducible show wpList _ _ _ (⟨some 29, _, _, _, _, _⟩ :: _) _ _); refine wpList_load_mid rfl 26 (.tmp 6) rfl wr.heap.size 0 rfl cs _ (range_of hB4.out) Tryd.underlying26 rfl (by rw [HCL.out]; exact size_tok) ?_)
            | (go_at_call 8; refine (HOf.out w4 HO4.out).mono ?_; rintro e w5 ⟨rfl, ho5⟩; have HO5 := Lib.hid ho5; clear ho5)
            | (go_at_call 7; refine (HRT.out w5).mono ?_; rintro e w6 ⟨rfl, ho6⟩; have HO6 : Hid (Only (fun _ => False) wr w6) := ((HO4.out.trans HO5.out (fun _ h => h.elim)).trans ho6 (fun _ h => h.elim)); have hB6 := Lib.hid ((hB4.out.only HO5.out (fun h => h)).only ho6 (fun h => h)); clear ho6)
            | ((with_reducible show wpList _ _ _ (⟨some 35, _, _, _, _, _⟩ :: _) _ _); refine wpList_load_mid rfl 26 (.tmp 6) rfl wr.heap.size 0 rfl cs _ (range_of hB6.out) Tryd.underlying26 rfl (by rw [HCL.out]; exact size_tok) ?_)
            | (go_at_call 9; refine (HTok.out w6 HO6.out).mono ?_; rintro e w7 ⟨A1, c1, E1, rfl, hcv, hE1, ho7⟩)
            | (go_at_call 10; refine (HNum'.out w7 E1 ((HO.out.trans HO6.out (fun _ h => h.elim)).trans ho7.out (fun _ h => h.elim)) hE1.out).mono ?_; rintro e w8 ⟨rfl, ho8⟩; have HO8 := Lib.hid ho8; clear ho8))
          go_roundw
          case rel =>
            refine ⟨k + 1, f, z, by omega, by go_num, rfl, rfl, by omega, ?_, ((HO.out.trans HO6.out (fun _ h => h.elim)).trans ho7.out (fun _ h => h.elim)).trans HO8.out (fun _ h => h.elim)⟩
            have := HAcc.out
            rw [if_neg HZ0.out, if_neg HZ0.out] at this
            exact ⟨this.1.symm, this.2.symm⟩
          case measure => simp [intOf]; omega
    · obtain rfl : k = n := by omega
      have e : ts.take k = ts := List.take_of_length_le (by rw [HTl.out]; omega)
      have hF := HF.out
      rw [e, ← HZZ.out] at hF
      obtain ⟨hF1, hF2⟩ := hF
      by_cases h0 : zz = 0
      · have hz : z = 0 := by rw [hF2, h0]; rfl
        have hTf : T = f := by rw [HTT.out, allB, ← HZZ.out, if_pos h0, hF1]
        subst hz hTf
        have HZ := Lib.hid h0
        clear hF1 hF2 h0 e
        go_wp2_with (first
          | (go_at_call 11; refine (HAll.out wr HO.out).mono ?_; rintro e w7 ⟨A1, c1, E1, rfl, hcv, hE1, ho7⟩)
          | (go_at_call 10; refine (HNum.out w7 E1 zz (HO.out.trans ho7.out (fun _ h => h.elim)) hE1.out).mono ?_; rintro e w8 ⟨rfl, ho8⟩; (rw [HZ.out]); have HO8 := Lib.hid ho8; clear ho8))
        go_ret
        exact ⟨rfl, (HO.out.trans ho7.out (fun _ h => h.elim)).trans HO8.out (fun _ h => h.elim)⟩
      · have hz : (z != 0) = true := by rw [hF2]; simp; omega
        have hTf : T = [] := by rw [HTT.out, allB, ← HZZ.out, if_neg h0]
        subst hTf
        have HZ := Lib.hid hF2
        clear hF1 hF2 h0 e
        go_wp2_with (first
          | (go_at_call 11; refine (HAll.out wr HO.out).mono ?_; rintro e w7 ⟨A1, c1, E1, rfl, hcv, hE1, ho7⟩)
          | (go_at_call 10; refine (HNum.out w7 E1 zz (HO.out.trans ho7.out (fun _ h => h.elim)) hE1.out).mono ?_; rintro e w8 ⟨rfl, ho8⟩; (rw [← HZ.out]); have HO8 := Lib.hid ho8; clear ho8))
        go_ret
        exact ⟨rfl, (HO.out.trans ho7.out (fun _ h => h.elim)).trans HO8.out (fun _ h => h.elim)⟩

theorem emitTokens_walk (W : World) {H : Type} {enc : TypeId × Value → H} {fuel : Nat} {A : Option Addr} {n c : Nat} {x : DataW H × List MemPlace} (hf : DataW.trod enc Tryd.prog W 0 (fun _ => true) true fuel 22 [.slice A n c] = some x) {es : List Addr} (hes : ErrsAt W es) :
    Calls Tryd.prog 3 #[.slice A n c] W (Fine W) := by
  obtain ⟨_, _, ps, hr⟩ := opened_toks hf
  by_cases h : 30 < n
  · exact etokens_long hes A n c h
  · exact etokens_ok hes A n c ps hr (by omega)
end Go.Proofs.YtgahamdfgjijkaaDoor
