/- GramParses answers true of bytes of the grammar. -/
import Derived.Test.YtbjabjkmagekfaaDoorGramParses
namespace Go.Proofs.YtbjabjkmagekfaaDoor
open Go Go.RowKit
set_option maxRecDepth 100000
set_option maxHeartbeats 8000000

theorem parses_ok {w : World} {es : List Addr} (hes : ErrsAt w es) (A : Option Addr) (n c : Nat) (xs : List UInt8) (hs : Src w A n xs) (raw : Bool) (at_ : Int) (hn : n ≤ 900) (l : List Pl) (r : Nat) (hp : parseFrom raw 0 xs = some (l, r)) :
    Calls Tryd.prog 3 #[.slice A n c, .bool raw, .int .i64 at_] w (Fine w) := by
  have HA := Lib.hid (galive_any (hes.is_ [2, 4]))
  have d : decide ((900 : Int) < (n : Int)) = false := by simp; omega
  have HE := Lib.hid hes
  have HS := Lib.hid hs
  have HPF := Lib.hid hp
  have hbd := border_is hp at_
  rw [hs.1] at hbd
  obtain ⟨m, hm⟩ : ∃ m, m = l.length := ⟨_, rfl⟩
  have hm9 : m ≤ 900 := by have := (parse_rest hp).2; have := hs.1; omega
  have HM := Lib.hid hm
  obtain ⟨T, hT⟩ : ∃ T, T = says l := ⟨_, rfl⟩
  have HTs := Lib.hid hT
  obtain ⟨MT, hMT⟩ : ∃ MT, MT = T.length := ⟨_, rfl⟩
  have HMT := Lib.hid hMT
  obtain ⟨bd, hbe⟩ : ∃ bd, bd = borderOf raw xs at_ := ⟨_, rfl⟩
  have HBe := Lib.hid hbe
  have key : (decide ((0 : Int) ≤ at_) = false ∧ bd = false) ∨ (decide ((0 : Int) ≤ at_) = true ∧ decide (at_ ≤ (n : Int)) = false ∧ bd = false) ∨ (decide ((0 : Int) ≤ at_) = true ∧ decide (at_ ≤ (n : Int)) = true ∧ Hid (bd = (decide (at_ = 0) || decide (at_ = (n : Int)) || edge l at_))) := by
    rw [hbe, hbd]
    cases decide ((0 : Int) ≤ at_) with
    | false => exact .inl ⟨rfl, rfl⟩
    | true => cases decide (at_ ≤ (n : Int)) with
      | false => exact .inr (.inl ⟨rfl, rfl, rfl⟩)
      | true => exact .inr (.inr ⟨rfl, rfl, Lib.hid (by rw [Bool.true_and, Bool.true_and])⟩)
  clear hes hs hp hbd hm hT hMT hbe
  go_enter Tryd.func3, Tryd.ntmps3
  go_wp2_with (first
    | (go_at_call 7; refine HA.out.mono ?_; rintro e w1 ⟨rfl, ho1⟩; have HO1 := Lib.hid ho1; clear ho1)
    | (go_at_call 8; refine (bytes_any (HS.out.only HO1.out (fun _ _ _ h => h)) c (by omega)).mono ?_; rintro e w2 ⟨rfl, hB2, ho2⟩; have HB2 := Lib.hid hB2; have HO2 : Hid (Only (fun _ => False) w w2) := HO1.out.trans ho2 (fun _ h => h.elim); clear hB2 ho2))
  obtain ⟨N, hN⟩ : ∃ N, N = w1.heap.size := ⟨_, rfl⟩
  rw [← hN] at HB2 ⊢
  have HBk : Hid (∀ W, Only (fun _ => False) w2 W → Blk W N 5 (xs.map B8 ++ marks 5)) := fun W ho => HB2.out.only ho (fun h => h)
  have HIn : Hid (∀ W, Only (fun _ => False) w2 W → Src W (some ⟨N, 0, none⟩) n xs) := fun W ho => by
    refine (HBk.out W ho).src HS.out.1 (fun j x hj => ?_)
    rw [Nat.zero_add, List.getElem?_append_left (by rw [List.length_map]; exact (List.getElem?_eq_some_iff.1 hj).1), List.getElem?_map, hj]
    rfl
  have HSw : Hid (∀ W, Only (fun _ => False) w2 W → Src W A n xs) := fun W ho => HS.out.only (HO2.out.trans ho (fun _ h => h.elim)) (fun _ _ _ h => h)
  have HEw : Hid (∀ W, Only (fun _ => False) w2 W → ErrsAt W es) := fun W ho => HE.out.only (HO2.out.trans ho (fun _ h => h.elim))
  have HP : Hid (∀ W, Only (fun _ => False) w2 W → Calls Tryd.prog 9 #[.slice (some ⟨N, 0, none⟩) n (n + 5), .bool raw] W fun e w' => ∃ A' c' ps, e = .returned (.tuple #[.slice A' m c', .nilIface]) ∧ Hid (List.length ps = m ∧ ps.map PlP.p = l ∧ Items w' W.heap.size (.slice A' m c') ps) ∧ Hid (Only (fun _ => False) W w')) := fun W ho => parse_good ((HEw.out W ho).is_ [2, 4]) (HIn.out W ho) (n + 5) raw (by omega) (by omega) HPF.out m HM.out
  have HT : Hid (∀ W, Only (fun _ => False) w2 W → Calls Tryd.prog 10 #[.slice (some ⟨N, 0, none⟩) n (n + 5), .bool raw] W fun e w' => ∃ A' c', e = .returned (.tuple #[.slice A' MT c', .nilIface]) ∧ Hid (Saids w' A' MT c' T) ∧ Hid (Only (fun _ => False) W w')) := fun W ho => by
    refine (text_any (c := n + 5) ((HEw.out W ho).is_ [2, 4]) (HIn.out W ho) raw (by omega) (by omega)).mono ?_
    rintro e w' ⟨A', c', E, rfl, hE, hb, ho'⟩
    have e1 : textOf raw xs = T := by unfold textOf; rw [HPF.out]; exact HTs.out.symm
    have e2 : gramOk raw xs = true := by unfold gramOk; rw [HPF.out]; rfl
    obtain rfl := hE.nil e2
    rw [e1, ← HMT.out] at hb ⊢
    exact ⟨A', c', rfl, (hb.out.src HMT.out).saids c', ho'⟩
  have HRP : Hid (∀ W, Calls Tryd.prog 11 #[.string ⟨xs.toArray⟩, .bool raw] W fun e w' => ∃ A c, e = .returned (.tuple #[.slice A m c, .int .i64 (r : Int), .bool true]) ∧ Hid (RiRow w' W.heap.size (.slice A m c) l) ∧ Hid (Only (fun _ => False) W w')) := fun W => by
    have := gparse_ref W xs raw (by rw [HS.out.1]; omega)
    unfold RpSays at this
    rw [HPF.out] at this
    simp only [← HM.out] at this
    exact this
  have HR : Hid (∀ W, Only (fun _ => False) w2 W → Calls Tryd.prog 13 #[.slice (some ⟨N, 0, none⟩) n (n + 5), .bool raw] W fun e w' => e = .returned (.int .i64 (r : Int)) ∧ Hid (Only (fun _ => False) W w')) := fun W ho => by
    have := rest_any (c := n + 5) ((HEw.out W ho).is_ [2, 4]) (HIn.out W ho) raw (by omega) (by omega)
    rw [rest_good HPF.out] at this
    exact this
  have HB : Hid (∀ W, Only (fun _ => False) w2 W → Calls Tryd.prog 14 #[.slice (some ⟨N, 0, none⟩) n (n + 5), .bool raw, .int .i64 at_] W fun e w' => e = .returned (.bool bd) ∧ Hid (Only (fun _ => False) W w')) := fun W ho => by
    have := border_any (c := n + 5) ((HEw.out W ho).is_ [2, 4]) (HIn.out W ho) raw (by omega) (by omega) at_
    rw [← HBe.out] at this
    exact this
  have HBR : Hid (Hid (bd = (decide (at_ = 0) || decide (at_ = (n : Int)) || edge l at_)) → ∀ (W : World) (B : Nat) (A : Option Addr) (c : Nat), RiRow W B (.slice A m c) l → Calls Tryd.prog 12 #[.slice A m c, .int .i64 (n : Int), .int .i64 at_] W fun e w' => e = .returned (.bool bd) ∧ Hid (Only (fun _ => False) W w')) := fun hb W B A c hr => by
    have := gborder_ref hr HM.out (by omega) (n : Int) at_
    rw [← hb.out] at this
    exact this
  have HTR : Hid (∀ (W : World) (B : Nat) (A : Option Addr) (c : Nat), RiRow W B (.slice A m c) l → Calls Tryd.prog 17 #[.slice A m c] W fun e w' => e = .returned (.string ⟨T.toArray⟩) ∧ Hid (Only (fun _ => False) W w')) := fun W B A c hr => by
    have := gtext_ref hr HM.out (by omega) (parse_codes HPF.out)
    rw [← HTs.out] at this
    exact this
  have nb : (bd != bd) = false := by simp
  have nm : ((m : Int) != (m : Int)) = false := by simp
  have nr : ((r : Int) != (r : Int)) = false := by simp
  clear hN HA
  rcases key with ⟨g0, e0⟩ | ⟨g0, g1, e0⟩ | ⟨g0, g1, hb⟩
  case' inl => subst e0
  case' inr.inl => subst e0
  all_goals
    go_wp2_with (first
      | (go_at_call 9; refine (HP.out w2 (Only.refl _ _)).mono ?_; rintro e w3 ⟨A3, c3, ps3, rfl, hI3, ho3⟩; have HC3 : Hid (Only (fun _ => False) w2 w3) := ho3)
      | (go_at_call 10; refine (HT.out w3 HC3.out).mono ?_; rintro e w4 ⟨A4, c4, rfl, ht4, ho4⟩; have HC4 : Hid (Only (fun _ => False) w2 w4) := HC3.out.trans ho4.out (fun _ h => h.elim); have hcx := (HSw.out w2 (Only.refl _ _)).saids c w4 HC4.out)
      | (go_at_call 11; refine (HRP.out w4).mono ?_; rintro e w5 ⟨A5, c5, rfl, hr5, ho5⟩; have HC5 : Hid (Only (fun _ => False) w2 w5) := HC4.out.trans ho5.out (fun _ h => h.elim))
      | (go_at_call 12; refine (HBR.out hb w5 _ A5 c5 hr5.out).mono ?_; rintro e w6 ⟨rfl, ho6⟩; have HG6 : Hid (Only (fun _ => False) w5 w6) := ho6))
  iterate 2 (have HG6 : Hid (Only (fun _ => False) w5 w5) := Only.refl _ _; rotate_left)
  all_goals
    go_wp2_with (first
      | (go_at_call 13; refine (HR.out _ (HC5.out.trans HG6.out (fun _ h => h.elim))).mono ?_; rintro e w7 ⟨rfl, ho7⟩; have HG7 : Hid (Only (fun _ => False) w5 w7) := HG6.out.trans ho7.out (fun _ h => h.elim))
      | (go_at_call 14; refine (HB.out w7 (HC5.out.trans HG7.out (fun _ h => h.elim))).mono ?_; rintro e w8 ⟨rfl, ho8⟩; have HG8 : Hid (Only (fun _ => False) w5 w8) := HG7.out.trans ho8.out (fun _ h => h.elim))
      | (go_at_call 15; refine (kept_any (HSw.out w8 (HC5.out.trans HG8.out (fun _ h => h.elim))) c (by omega) (HBk.out w8 (HC5.out.trans HG8.out (fun _ h => h.elim)))).mono ?_; rintro e w9 ⟨rfl, e9⟩; subst w9))
  all_goals
    have HD8 : Hid (Only (fun _ => False) w8 w8.drew) := (Only.refl _ w8).drew
    have H48 : Hid (Only (fun _ => False) w4 w8) := ho5.out.trans HG8.out (fun _ h => h.elim)
    have Q0 : Hid ((convert 22 9 (.slice A4 MT c4)).run Tryd.prog w8.drew = .ok (.string ⟨T.toArray⟩) w8.drew) := ht4.out _ H48.out.drew
    have HR8 : Hid (RiRow w8.drew w4.heap.size (.slice A5 m c5) l) := own_same hr5.out HG8.out.drew
    go_region_held_law (fun W => (convert 22 9 (.slice A4 MT c4)).run Tryd.prog W = .ok (.string ⟨T.toArray⟩) W)
      (first | exact Q3.out | exact Q0.out)
      (first
        | (go_at_call 17; (with_reducible refine (HTR.out _ _ A5 c5 HR8.out).mono ?_); rintro e w9 ⟨rfl, ho9⟩; have HO9 : Hid (Only (fun _ => False) w8 w9) := HD8.out.trans ho9.out (fun _ h => h.elim); have Q3 : Hid ((convert 22 9 (.slice A4 MT c4)).run Tryd.prog w9 = .ok (.string ⟨T.toArray⟩) w9) := ht4.out _ (H48.out.trans HO9.out (fun _ h => h.elim))))
  all_goals
    have HF9 : Hid (Only (fun _ => False) w w9) := (HO2.out.trans HC5.out (fun _ h => h.elim)).trans (HG8.out.trans HO9.out (fun _ h => h.elim)) (fun _ h => h.elim)
    have HI9 : Hid (Items w9 w2.heap.size (.slice A3 m c3) ps3) := hI3.out.2.2.same ((ho4.out.trans H48.out (fun _ h => h.elim)).trans HO9.out (fun _ h => h.elim))
    have HPs : Hid (ps3.map PlP.p = l) := hI3.out.2.1
    have HR9 : Hid (RiRow w9 w4.heap.size (.slice A5 m c5) l) := own_same HR8.out ho9.out
    clear HP HT HRP HR HB HBR HTR HIn HSw HEw HBk HB2 HC3 HC4 HC5 HG6 HG7 HG8 HD8 H48 HR8 Q0 Q3 ho3 ho4 ho5 ho7 ho8 ho9 hI3 hr5 ht4 hcx HO1 HS HE
    go_wp2
    go_loopw [125] (fun i W => ∃ k : Nat, k ≤ m ∧ i = .int .i64 (k : Int) ∧ Hid (Only (fun _ => False) w9 W)) (fun i _ => m - (intOf i).toNat)
    case atStart => exact ⟨0, Nat.zero_le _, rfl, Only.refl _ _⟩
    case round =>
      obtain ⟨k, hk, rfl, HO⟩ := hrel
      by_cases hlt : k < m
      · obtain ⟨x, hx⟩ : ∃ x, l[k]? = some x := ⟨_, List.getElem?_eq_getElem (by rw [← HM.out]; exact hlt)⟩
        obtain ⟨y, hy, hyp⟩ := item_of HPs.out hx
        obtain ⟨g2, rfl, _, hg2, hr2, hb2⟩ := (HI9.out.same HO.out).at_ hy
        obtain ⟨g5, rfl, hr3⟩ := ri_at (own_same HR9.out HO.out) HM.out hx
        obtain ⟨⟨fk, fc, fo, fb⟩, F, T'⟩ := x
        obtain ⟨yp, yad, ycap⟩ := y
        simp only at hyp
        subst hyp
        obtain ⟨L, hL⟩ : ∃ L, L = fb.length := ⟨_, rfl⟩
        obtain ⟨cs, hcs⟩ : ∃ cs, cs = [Value.int .i64 fk, .int .i64 (F : Int), .int .i64 (T' : Int), .int .i64 fc, .int .i64 fo, .slice yad L ycap] := ⟨_, rfl⟩
        obtain ⟨ds, hds⟩ : ∃ ds, ds = [Value.int .i64 fk, .int .i64 (F : Int), .int .i64 (T' : Int), .int .i64 fc, .int .i64 fo, .string ⟨fb.toArray⟩] := ⟨_, rfl⟩
        have HRA : Hid (wr.rangeAt g2 (k * 6) cs) := by rw [hcs, hL]; exact hr2
        have HRD : Hid (wr.rangeAt g5 (k * 6) ds) := by rw [hds]; exact hr3
        have HCL : Hid (cs.length = 6) := by rw [hcs]; rfl
        have HDL : Hid (ds.length = 6) := by rw [hds]; rfl
        have HCO : Hid (∀ v ∈ cs, v.oneCell' = true) := by rw [hcs]; exact it_one ⟨fk, fc, fo, fb⟩ _ _ _ _ _
        have HDO : Hid (∀ v ∈ ds, v.oneCell' = true) := by rw [hds]; exact ri_one ⟨fk, fc, fo, fb⟩ _ _
        have HCS := Lib.hid hcs
        have HDS := Lib.hid hds
        have HBy : Hid (Saids wr yad L ycap fb) := by
          have := hb2.src (A := yad) (n := fb.length) (c := ycap) rfl
          rw [← hL] at this
          exact this.saids ycap
        have hkm : (k : Int) < (m : Int) := by omega
        have n0 : (fk != fk) = false := by simp
        have n1 : (fc != fc) = false := by simp
        have n2 : (fo != fo) = false := by simp
        have n3 : ((F : Int) != (F : Int)) = false := by simp
        have n4 : ((T' : Int) != (T' : Int)) = false := by simp
        clear hx hy hr2 hr3 hb2 hL hcs hds
        go_wp2_with (first
          | ((with_reducible show wpList _ _ _ (⟨some 129, _, _, _, _, _⟩ :: _) _ _); refine wpList_load_mid rfl 42 (.tmp 128) rfl g2 (k * 6) rfl cs _ HRA.out Tryd.underlying42 rfl (by rw [HCL.out]; exact size_item) ?_)
          | ((with_reducible show wpList _ _ _ (⟨none, .store 42 _ _, _, _, _, _⟩ :: _) _ _); refine step_store rfl 42 _ _ rfl wr.heap.size rfl cs rfl _ (itCells It.none 0 0 (.slice none 0 0)) (Blk.new _ _ _) (by rw [HCL.out]; exact size_item) HCL.out.symm HCO.out ?_; intro w10 hB10 hz10 ho10; have HO10 : Hid (Only (fun _ => False) wr w10) := (((Only.refl (fun _ => False) wr).alloc _).trans ho10 (fun i hi => .inr (by omega))); have HB10 : Hid (Blk w10 wr.heap.size 42 [Value.int .i64 fk, .int .i64 (F : Int), .int .i64 (T' : Int), .int .i64 fc, .int .i64 fo, .slice yad L ycap]) := (by rw [← HCS.out]; exact hB10.out); have HRD10 : Hid (w10.rangeAt g5 (k * 6) ds) := fun j u hj => HO10.out.cellv (HRD.out j u hj) (fun h => h))
          | ((with_reducible show wpList _ _ _ (⟨some 133, _, _, _, _, _⟩ :: _) _ _); refine wpList_load_mid rfl 44 (.tmp 132) rfl g5 (k * 6) rfl ds _ HRD10.out Tryd.underlying44 rfl (by rw [HDL.out]; exact size_ritem) ?_)
          | ((with_reducible show wpList _ _ _ (⟨none, .store 44 _ _, _, _, _, _⟩ :: _) _ _); refine step_store rfl 44 _ _ rfl w10.heap.size rfl ds rfl _ (riCells .none 0 0) (Blk.new _ _ _) (by rw [HDL.out]; exact size_ritem) HDL.out.symm HDO.out ?_; intro w11 hB11 hz11 ho11; have HO11 : Hid (Only (fun _ => False) w10 w11) := (((Only.refl (fun _ => False) w10).alloc _).trans ho11 (fun i hi => .inr (by omega))); have HB11 : Hid (Blk w11 w10.heap.size 44 [Value.int .i64 fk, .int .i64 (F : Int), .int .i64 (T' : Int), .int .i64 fc, .int .i64 fo, .string ⟨fb.toArray⟩]) := (by rw [← HDS.out]; exact hB11.out); have hBx := HB10.out.only HO11.out (fun h => h); have p0 : w11.cell? ⟨wr.heap.size, 0, none⟩ = some (.int .i64 fk) := hBx.cell 0; have p1 : w11.cell? ⟨wr.heap.size, 1, none⟩ = some (.int .i64 (F : Int)) := hBx.cell 1; have p2 : w11.cell? ⟨wr.heap.size, 2, none⟩ = some (.int .i64 (T' : Int)) := hBx.cell 2; have p3 : w11.cell? ⟨wr.heap.size, 3, none⟩ = some (.int .i64 fc) := hBx.cell 3; have p4 : w11.cell? ⟨wr.heap.size, 4, none⟩ = some (.int .i64 fo) := hBx.cell 4; have p5 : w11.cell? ⟨wr.heap.size, 5, none⟩ = some (.slice yad L ycap) := hBx.cell 5; have s0 : w11.cell? ⟨w10.heap.size, 0, none⟩ = some (.int .i64 fk) := HB11.out.cell 0; have s1 : w11.cell? ⟨w10.heap.size, 1, none⟩ = some (.int .i64 (F : Int)) := HB11.out.cell 1; have s2 : w11.cell? ⟨w10.heap.size, 2, none⟩ = some (.int .i64 (T' : Int)) := HB11.out.cell 2; have s3 : w11.cell? ⟨w10.heap.size, 3, none⟩ = some (.int .i64 fc) := HB11.out.cell 3; have s4 : w11.cell? ⟨w10.heap.size, 4, none⟩ = some (.int .i64 fo) := HB11.out.cell 4; have s5 : w11.cell? ⟨w10.heap.size, 5, none⟩ = some (.string ⟨fb.toArray⟩) := HB11.out.cell 5; have hcw := HBy.out w11 (HO10.out.trans HO11.out (fun _ h => h.elim))))
        go_roundw
        case rel => exact ⟨k + 1, by omega, by go_num, (HO.out.trans HO10.out (fun _ h => h.elim)).trans HO11.out (fun _ h => h.elim)⟩
        case measure => simp [intOf]; omega
      · go_wp2
        go_ret
        exact ⟨rfl, HF9.out.trans HO.out (fun _ h => h.elim)⟩

theorem gramParses_walk (W : World) {H : Type} {enc : TypeId × Value → H} {fuel : Nat} {A : Option Addr} {n c : Nat} {x : DataW H × List MemPlace} (hf : DataW.trod enc Tryd.prog W 0 (fun _ => true) true fuel 22 [.slice A n c] = some x) (raw : Bool) (at_ : Int) {es : List Addr} (hes : ErrsAt W es) :
    Calls Tryd.prog 3 #[.slice A n c, .bool raw, .int .i64 at_] W (Fine W) := by
  obtain ⟨A', n', c', xs, e, h1, h2, h3⟩ := opened_cell hf
  injection e with e1 e2 e3
  subst e1 e2 e3
  by_cases h : 900 < n
  · exact parses_long hes A n c raw at_ h
  · cases hp : parseFrom raw 0 xs with
    | none => exact parses_wrong hes A n c xs h1 raw at_ (by omega) hp
    | some q => exact parses_ok hes A n c xs h1 raw at_ (by omega) q.1 q.2 hp
end Go.Proofs.YtbjabjkmagekfaaDoor
