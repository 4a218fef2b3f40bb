/- GramEmits answers true, whatever it is called with. -/
import Derived.Test.YtbjabjkmagekfaaDoorGramLaw
import Derived.Test.YtbjabjkmagekfaaDoorGramEmitSay
import Derived.Test.YtbjabjkmagekfaaDoorTkOpen
namespace Go.Proofs.YtbjabjkmagekfaaDoor
open Go Go.RowKit
set_option maxRecDepth 100000
set_option maxHeartbeats 8000000

theorem emits_long {w : World} {es : List Addr} (hes : ErrsIs w [0, 2, 3, 4, 8] es) (A : Option Addr) (n c : Nat) (h : 30 < n) :
    Calls Tryd.prog 5 #[.slice A n c] w (Fine w) := by
  have HA := Lib.hid (galive_any (hes.le (sel' := [2, 4]) (by decide)))
  have d : decide ((30 : Int) < (n : Int)) = true := by simp; omega
  clear hes
  go_enter Tryd.func5, Tryd.ntmps5
  go_wp2_with (first | (go_at_call 7; refine HA.out.mono ?_; rintro e w1 ⟨rfl, ho1⟩))
  go_ret
  exact ⟨rfl, ho1⟩

theorem emits_ok {w : World} {es : List Addr} (hes : ErrsIs w [0, 2, 3, 4, 8] es) (A : Option Addr) (n c : Nat) (ps : List TkP) (hr : RdTk w A n ps) (hn : n ≤ 30) :
    Calls Tryd.prog 5 #[.slice A n c] w (Fine w) := by
  have HA := Lib.hid (galive_any (hes.le (sel' := [2, 4]) (by decide)))
  have HE := Lib.hid hes
  have HR := Lib.hid hr
  have d : decide ((30 : Int) < (n : Int)) = false := by simp; omega
  obtain ⟨ts, hts⟩ : ∃ ts, ts = ps.map TkP.t := ⟨_, rfl⟩
  have HT := Lib.hid hts
  have HTl : Hid (ts.length = n) := by rw [hts, List.length_map]; exact hr.len
  obtain ⟨M, hM⟩ : ∃ M, M = (allB ts).length := ⟨_, rfl⟩
  have HM := Lib.hid hM
  obtain ⟨num, hnum⟩ : ∃ num, num = numL ts := ⟨_, rfl⟩
  have HNum := Lib.hid hnum
  have HEm : Hid (∀ W, Only (fun _ => False) w W → Calls Tryd.prog 18 #[.slice A n c] W fun e w' => ∃ A1 c1 E, e = .returned (.tuple #[.slice A1 M c1, E]) ∧ Hid (Body w' W.heap.size (.slice A1 M c1) (allB ts)) ∧ ErrV es E num ∧ Hid (Only (fun _ => False) W w')) := fun W ho => by
    refine (eall_any (c := c) ((hes.only ho).of.le (by decide)) (hr.same ho) (by omega)).mono ?_
    rintro e w' ⟨A1, c1, E, rfl, hb, hE, ho'⟩
    rw [← hts] at hb hE
    rw [hM, hnum, ← hts]
    exact ⟨A1, c1, E, rfl, hb, hE, ho'⟩
  have hM4 : M ≤ 30000 := by
    rw [hM]
    unfold allB
    have h1 := accB_length ts
    have h2 := HTl.out
    split
    · omega
    · simp
  clear hes hr hts hM hnum
  go_enter Tryd.func5, Tryd.ntmps5
  go_wp2_with (first
    | (go_at_call 7; refine HA.out.mono ?_; rintro e w1 ⟨rfl, ho1⟩; have HO1 := Lib.hid ho1; clear ho1))
  go_loopw [18] (fun i W => ∃ k : Nat, k ≤ n ∧ i = .int .i64 (k : Int) ∧ Hid (Only (fun _ => False) w W)) (fun i _ => n - (intOf i).toNat)
  case atStart => exact ⟨0, Nat.zero_le _, rfl, HO1.out⟩
  case round =>
    obtain ⟨k, hk, rfl, HO⟩ := hrel
    by_cases hlt : k < n
    · obtain ⟨x, hx⟩ : ∃ x, ps[k]? = some x := ⟨_, List.getElem?_eq_getElem (by rw [HR.out.len]; exact hlt)⟩
      obtain ⟨g, off, rfl, hra, _⟩ := (HR.out.same HO.out).at_ k x hx
      obtain ⟨⟨tk, tc, to_, tb, tcut⟩, xad, xcap⟩ := x
      obtain ⟨xn, hxn⟩ : ∃ xn, xn = tb.length := ⟨_, rfl⟩
      obtain ⟨cs, hcs⟩ : ∃ cs, cs = tkCells ⟨tk, tc, to_, tb, tcut⟩ (.slice xad xn xcap) := ⟨_, rfl⟩
      have HRA : Hid (wr.rangeAt g (off + k * 5) cs) := by rw [hcs, hxn]; exact hra
      have HCL : Hid (cs.length = 5) := by rw [hcs]; rfl
      have HCO := Lib.hid (show ∀ v ∈ cs, v.oneCell' = true by rw [hcs]; exact tk_one _ _ _ _)
      have HCS : Hid (cs[3]? = some (.slice xad xn xcap)) := by rw [hcs]; rfl
      clear hra hcs hx hxn
      by_cases h3 : 300 < xn
      · have d3 : decide (300 < xn) = true := decide_eq_true h3
        have d3' : decide ((300 : Int) < (xn : Int)) = true := by simp; omega
        go_wp2_with (first
          | ((with_reducible show wpList _ _ _ (⟨some 21, _, _, _, _, _⟩ :: _) _ _); refine wpList_load_mid rfl 48 (.tmp 20) rfl g (off + k * 5) rfl cs _ HRA.out Tryd.underlying48 rfl (by rw [HCL.out]; exact size_tok) ?_)
          | ((with_reducible show wpList _ _ _ (⟨none, .store 48 _ _, _, _, _, _⟩ :: _) _ _); refine step_store rfl 48 _ _ rfl wr.heap.size rfl cs rfl _ (tkCells Tk.none (.slice none 0 0)) (Blk.new _ _ _) (by rw [HCL.out]; exact size_tok) HCL.out.symm HCO.out ?_; intro w4 hB4 hz4 ho4; have HO4 : Hid (Only (fun _ => False) wr w4) := (((Only.refl (fun _ => False) wr).alloc _).trans ho4 (fun i hi => .inr (by omega))); have q3 : w4.cell? ⟨wr.heap.size, 3, none⟩ = some (.slice xad xn xcap) := (by rw [hB4.out.cell]; exact HCS.out)))
        go_ret
        exact ⟨rfl, HO.out.trans HO4.out (fun _ h => h.elim)⟩
      · have d3 : decide (300 < xn) = false := decide_eq_false h3
        have d3' : decide ((300 : Int) < (xn : Int)) = false := by simp; omega
        go_wp2_with (first
          | ((with_reducible show wpList _ _ _ (⟨some 21, _, _, _, _, _⟩ :: _) _ _); refine wpList_load_mid rfl 48 (.tmp 20) rfl g (off + k * 5) rfl cs _ HRA.out Tryd.underlying48 rfl (by rw [HCL.out]; exact size_tok) ?_)
          | ((with_reducible show wpList _ _ _ (⟨none, .store 48 _ _, _, _, _, _⟩ :: _) _ _); refine step_store rfl 48 _ _ rfl wr.heap.size rfl cs rfl _ (tkCells Tk.none (.slice none 0 0)) (Blk.new _ _ _) (by rw [HCL.out]; exact size_tok) HCL.out.symm HCO.out ?_; intro w4 hB4 hz4 ho4; have HO4 : Hid (Only (fun _ => False) wr w4) := (((Only.refl (fun _ => False) wr).alloc _).trans ho4 (fun i hi => .inr (by omega))); have q3 : w4.cell? ⟨wr.heap.size, 3, none⟩ = some (.slice xad xn xcap) := (by rw [hB4.out.cell]; exact HCS.out)))
        go_roundw
        case rel => exact ⟨k + 1, by omega, by go_num, HO.out.trans HO4.out (fun _ h => h.elim)⟩
        case measure => simp [intOf]; omega
    · obtain ⟨W0, hW0⟩ : ∃ W0, W0 = wr := ⟨_, rfl⟩
      subst hW0
      rcases Nat.eq_zero_or_pos num with h0 | h0
      · have hg : numL ts = 0 := by rw [← HNum.out]; exact h0
        have HG := Lib.hid hg
        have hall : allB ts = accB ts := by unfold allB; rw [if_pos hg]
        obtain ⟨l, hl1, hl2, hl3⟩ := parse_emits ts 0 hg
        have HL3 := Lib.hid hl3
        have HL2 : Hid (l.length = n) := by rw [hl2]; exact HTl.out
        have HPa : Hid (∀ (W : World) (A1 : Option Addr) (c1 B : Nat), Only (fun _ => False) w W → Body W B (.slice A1 M c1) (allB ts) → Calls Tryd.prog 9 #[.slice A1 M c1, .bool true] W fun e w' => ∃ A' c' qs, e = .returned (.tuple #[.slice A' n c', .nilIface]) ∧ Hid (List.length qs = n ∧ qs.map PlP.p = l ∧ Items w' W.heap.size (.slice A' n c') qs) ∧ Hid (Only (fun _ => False) W w')) := fun W A1 c1 B ho hb => by
          obtain ⟨A2, c2, e2, h2, _⟩ := hb.form
          rw [← HM.out] at e2 h2
          injection e2 with _ _ e2
          subst e2
          exact parse_good ((HE.out.only ho).le (by decide)) (hb.src HM.out) c1 true (by omega) h2 (by rw [hall]; exact hl1) n HL2.out.symm
        have HRe : Hid (∀ (W : World) (A1 : Option Addr) (c1 B : Nat), Only (fun _ => False) w W → Body W B (.slice A1 M c1) (allB ts) → Calls Tryd.prog 13 #[.slice A1 M c1, .bool true] W fun e w' => e = .returned (.int .i64 0) ∧ Hid (Only (fun _ => False) W w')) := fun W A1 c1 B ho hb => by
          obtain ⟨A2, c2, e2, h2, _⟩ := hb.form
          rw [← HM.out] at e2 h2
          injection e2 with _ _ e2
          subst e2
          have := rest_any (c := c1) ((HE.out.only ho).le (sel' := [2, 4]) (by decide)) (hb.src HM.out) true (by omega) h2
          rw [rest_good (by rw [hall]; exact hl1)] at this
          exact this
        have nn : ((n : Int) != (n : Int)) = false := by simp
        clear hg hall hl1 hl2 hl3
        go_wp2_with (first
          | (go_at_call 18; (with_reducible refine (HEm.out W0 HO.out).mono ?_); rintro e w2 ⟨A2, c2, E2, rfl, hb2, hE2, ho2⟩; obtain rfl : E2 = .nilIface := (by rcases hE2 with ⟨_, h⟩ | ⟨i, a, h, _⟩; exact h; omega); clear hE2; have HO2 : Hid (Only (fun _ => False) w w2) := HO.out.trans ho2.out (fun _ h => h.elim))
          | (go_at_call 9; (with_reducible refine (HPa.out w2 A2 c2 _ HO2.out hb2.out).mono ?_); rintro e w3 ⟨A3, c3, qs, rfl, hI3, ho3⟩; have HO3 : Hid (Only (fun _ => False) w w3) := HO2.out.trans ho3.out (fun _ h => h.elim))
          | (go_at_call 13; (with_reducible refine (HRe.out w3 A2 c2 _ HO3.out (hb2.out.same ho3.out)).mono ?_); rintro e w4 ⟨rfl, ho4⟩; have HO4 : Hid (Only (fun _ => False) w w4) := HO3.out.trans ho4.out (fun _ h => h.elim)))
        go_loopw [55] (fun i W => ∃ k : Nat, k ≤ n ∧ i = .int .i64 (k : Int) ∧ Hid (Only (fun _ => False) w4 W)) (fun i _ => n - (intOf i).toNat)
        case atStart => exact ⟨0, Nat.zero_le _, rfl, Only.refl _ _⟩
        case round =>
          obtain ⟨j, hj, rfl, HOj⟩ := hrel
          by_cases hjn : j < n
          · obtain ⟨x, hx⟩ : ∃ x, ps[j]? = some x := ⟨_, List.getElem?_eq_getElem (by rw [HR.out.len]; exact hjn)⟩
            have htx : ts[j]? = some x.t := by rw [HT.out, List.getElem?_map, hx]; rfl
            obtain ⟨y, hy⟩ : ∃ y, l[j]? = some y := ⟨_, List.getElem?_eq_getElem (by rw [HL2.out]; exact hjn)⟩
            have hyk := HL3.out j x.t y htx hy
            have hkk := tk_kinds (numL_all HG.out _ (List.mem_of_getElem? htx))
            obtain ⟨z, hz, hzp⟩ := item_of hI3.out.2.1 hy
            obtain ⟨g, off, rfl, hra, _⟩ := (HR.out.same (HO4.out.trans HOj.out (fun _ h => h.elim))).at_ j x hx
            obtain ⟨g3, rfl, _, hg3, hr3, _⟩ := (hI3.out.2.2.same (ho4.out.trans HOj.out (fun _ h => h.elim))).at_ hz
            obtain ⟨⟨tk, tc, to_, tb, tcut⟩, xad, xcap⟩ := x
            simp only at hyk hkk
            obtain ⟨K, hK⟩ : ∃ K, K = kindOf ⟨tk, tc, to_, tb, tcut⟩ := ⟨_, rfl⟩
            have z0 : wr.cell? ⟨g3, j * 6, none⟩ = some (.int .i64 K) := hr3 0 _ (by unfold PlP.cells; rw [hzp, hK, ← hyk]; rfl)
            obtain ⟨xn, hxn⟩ : ∃ xn, xn = tb.length := ⟨_, rfl⟩
            obtain ⟨cs, hcs⟩ : ∃ cs, cs = tkCells ⟨tk, tc, to_, tb, tcut⟩ (.slice xad xn xcap) := ⟨_, rfl⟩
            have HRA : Hid (wr.rangeAt g (off + j * 5) cs) := by rw [hcs, hxn]; exact hra
            have HCL : Hid (cs.length = 5) := by rw [hcs]; rfl
            have HCO := Lib.hid (show ∀ v ∈ cs, v.oneCell' = true by rw [hcs]; exact tk_one _ _ _ _)
            have HCS : Hid (cs[0]? = some (.int .i64 tk)) := by rw [hcs]; rfl
            have hjn' : (j : Int) < (n : Int) := by omega
            have nK : (K != K) = false := by simp
            clear hra hcs hx hxn htx hy hyk hz hzp hr3
            by_cases h1 : tk = 1
            · have k1 : (tk != 1) = false := by simp [h1]
              have eK : K = 1 := by rw [hK]; simp [kindOf, h1]
              subst eK
              have k1' : decide (tk = 1) = true := decide_eq_true h1
              clear h1 hK hkk
              go_wp2_with (first
                | ((with_reducible show wpList _ _ _ (⟨some 59, _, _, _, _, _⟩ :: _) _ _); refine wpList_load_mid rfl 48 (.tmp 58) rfl g (off + j * 5) rfl cs _ HRA.out Tryd.underlying48 rfl (by rw [HCL.out]; exact size_tok) ?_)
                | ((with_reducible show wpList _ _ _ (⟨none, .store 48 _ _, _, _, _, _⟩ :: _) _ _); refine step_store rfl 48 _ _ rfl wr.heap.size rfl cs rfl _ (tkCells Tk.none (.slice none 0 0)) (Blk.new _ _ _) (by rw [HCL.out]; exact size_tok) HCL.out.symm HCO.out ?_; intro w5 hB5 hz5 ho5; have HO5 : Hid (Only (fun _ => False) wr w5) := (((Only.refl (fun _ => False) wr).alloc _).trans ho5 (fun i hi => .inr (by omega))); have q0 : w5.cell? ⟨wr.heap.size, 0, none⟩ = some (.int .i64 tk) := (by rw [hB5.out.cell]; exact HCS.out); have z5 := HO5.out.cellv z0 (fun h => h)))
              go_roundw
              case rel => exact ⟨j + 1, by omega, by go_num, HOj.out.trans HO5.out (fun _ h => h.elim)⟩
              case measure => simp [intOf]; omega
            · have k1 : (tk != 1) = true := by simp [h1]
              have eK : K = tk + 1 := by rw [hK]; simp [kindOf, h1]
              subst eK
              have k1' : decide (tk = 1) = false := decide_eq_false h1
              have hkr : 0 ≤ tk ∧ tk ≤ 10 := by omega
              clear h1 hK hkk
              go_wp2_with (first
                | ((with_reducible show wpList _ _ _ (⟨some 59, _, _, _, _, _⟩ :: _) _ _); refine wpList_load_mid rfl 48 (.tmp 58) rfl g (off + j * 5) rfl cs _ HRA.out Tryd.underlying48 rfl (by rw [HCL.out]; exact size_tok) ?_)
                | ((with_reducible show wpList _ _ _ (⟨none, .store 48 _ _, _, _, _, _⟩ :: _) _ _); refine step_store rfl 48 _ _ rfl wr.heap.size rfl cs rfl _ (tkCells Tk.none (.slice none 0 0)) (Blk.new _ _ _) (by rw [HCL.out]; exact size_tok) HCL.out.symm HCO.out ?_; intro w5 hB5 hz5 ho5; have HO5 : Hid (Only (fun _ => False) wr w5) := (((Only.refl (fun _ => False) wr).alloc _).trans ho5 (fun i hi => .inr (by omega))); have q0 : w5.cell? ⟨wr.heap.size, 0, none⟩ = some (.int .i64 tk) := (by rw [hB5.out.cell]; exact HCS.out); have z5 := HO5.out.cellv z0 (fun h => h)))
              go_roundw
              case rel => exact ⟨j + 1, by omega, by go_num, HOj.out.trans HO5.out (fun _ h => h.elim)⟩
              case measure => simp [intOf]; omega
          · go_wp2
            go_ret
            exact ⟨rfl, HO4.out.trans HOj.out (fun _ h => h.elim)⟩
      · go_wp2_with (first
          | (go_at_call 18; (with_reducible refine (HEm.out W0 HO.out).mono ?_); rintro e w2 ⟨A2, c2, E2, rfl, hb2, hE2, ho2⟩; obtain ⟨i, a1, _, ha1, rfl⟩ : ∃ i a1, num = i + 1 ∧ es[i]? = some a1 ∧ E2 = .iface 88 (.pointer (some a1)) := (by rcases hE2 with ⟨h, _⟩ | h; omega; exact h); clear hE2))
        go_ret
        exact ⟨rfl, HO.out.trans ho2.out (fun _ h => h.elim)⟩

theorem gramEmits_walk (W : World) {H : Type} {enc : TypeId × Value → H} {fuel : Nat} {A : Option Addr} {n c : Nat} {x : DataW H × List MemPlace} (hf : DataW.trod enc Tryd.prog W 0 (fun _ => true) true fuel 46 [.slice A n c] = some x) {es : List Addr} (hes : ErrsIs W [0, 2, 3, 4, 8] es) :
    Calls Tryd.prog 5 #[.slice A n c] W (Fine W) := by
  obtain ⟨_, _, ps, hr⟩ := opened_toks hf
  by_cases h : 30 < n
  · exact emits_long hes A n c h
  · exact emits_ok hes A n c ps hr (by omega)
end Go.Proofs.YtbjabjkmagekfaaDoor
