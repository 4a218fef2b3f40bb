/- EmitBack, walked. -/
import Derived.Test.YtgahamdfgjijkaaDoorEmitBackB
namespace Go.Proofs.YtgahamdfgjijkaaDoor
open Go Go.RowKit
set_option maxRecDepth 100000
set_option maxHeartbeats 4000000

theorem eback_long {w : World} {es : List Addr} (hes : ErrsOf w [0, 3, 8] es) (A : Option Addr) (n c : Nat) (B : Option Addr) (m d : Nat) (h : 30 < n ∨ 600 < m) : Calls Tryd.prog 5 #[.slice A n c, .slice B m d] w (Fine w) := by
  have HA := Lib.hid (ealive_any hes)
  clear hes
  by_cases h1 : 30 < n
  · have d1 : decide ((30 : Int) < (n : Int)) = true := by simp; omega
    clear h
    go_enter Tryd.func5, Tryd.ntmps5
    go_wp2_with (go_at_call 6; refine HA.out.mono ?_; rintro e w1 ⟨rfl, ho1⟩)
    go_ret
    exact ⟨rfl, ho1⟩
  · have d1 : decide ((30 : Int) < (n : Int)) = false := by simp; omega
    have d2 : decide ((600 : Int) < (m : Int)) = true := by simp; omega
    clear h
    go_enter Tryd.func5, Tryd.ntmps5
    go_wp2_with (go_at_call 6; refine HA.out.mono ?_; rintro e w1 ⟨rfl, ho1⟩)
    go_ret
    exact ⟨rfl, ho1⟩

theorem eback_ok {w : World} {es : List Addr} (hes : ErrsOf w [0, 3, 8] es) (A : Option Addr) (n c : Nat) (ps : List TkP) (hr : RdTk w A n ps) (B : Option Addr) (m d : Nat) (xs : List UInt8) (hs : Src w B m xs) (hmd : m ≤ d) (hd63 : d ≤ 9223372036854775807) (hn : n ≤ 30) (hm : m ≤ 600) :
    Calls Tryd.prog 5 #[.slice A n c, .slice B m d] w (Fine w) := by
  have d1 : decide ((30 : Int) < (n : Int)) = false := by simp; omega
  have d2 : decide ((600 : Int) < (m : Int)) = false := by simp; omega
  have HA := Lib.hid (ealive_any hes)
  have HR := Lib.hid hr
  have HAl : Hid (∀ W, Only (fun _ => False) w W → Calls Tryd.prog 19 #[.slice B m d] W fun e w' => ∃ A2 k2 c2 qs b, e = .returned (.tuple #[.slice A2 k2 c2, .bool b]) ∧ k2 ≤ 600 ∧ Hid (RdTk w' A2 k2 qs) ∧ Hid (Only (fun _ => False) W w')) := fun W ho => by
    refine (all_any (hs.only ho (fun _ _ _ h => h)) hmd hd63 (by omega)).mono ?_
    rintro e w' ⟨v, qs, rfl, ht, hmm, ho1⟩
    obtain ⟨A2, c2, rfl, h3, h4⟩ := ht.form
    have hl : qs.length ≤ 600 := by
      have h1 := congrArg List.length hmm
      have h2 := feeds_length .zero xs
      rw [List.length_map] at h1
      have := hs.1
      omega
    exact ⟨A2, _, c2, qs, _, rfl, hl, ht.rd rfl, ho1⟩
  have HB1 : Hid (∀ W, Only (fun _ => False) w W → Calls Tryd.prog 20 #[.slice A n c] W fun e w' => e = .returned (.bool true) ∧ Only (fun _ => False) W w') := fun W ho => back_any (hes.only ho) A n c ps (hr.same ho) (by omega)
  have HB2 : Hid (∀ (W : World) (A2 : Option Addr) (k2 c2 : Nat) (qs : List TkP), Only (fun _ => False) w W → RdTk W A2 k2 qs → k2 ≤ 600 → Calls Tryd.prog 20 #[.slice A2 k2 c2] W fun e w' => e = .returned (.bool true) ∧ Only (fun _ => False) W w') := fun W A2 k2 c2 qs ho hq hk => back_any (hes.only ho) A2 k2 c2 qs hq hk
  clear hes hr hs
  go_enter Tryd.func5, Tryd.ntmps5
  go_wp2_with (go_at_call 6; refine HA.out.mono ?_; rintro e w1 ⟨rfl, ho1⟩; have HO1 := Lib.hid ho1; clear ho1)
  go_loopw [21] (fun i W => ∃ k : Nat, k ≤ n ∧ i = .int .i64 (k : Int) ∧ Hid (Only (fun _ => False) w W)) (fun i _ => n - (intOf i).toNat)
  case atStart => exact ⟨0, Nat.zero_le _, rfl, HO1.out⟩
  case round =>
    obtain ⟨k, hk, rfl, HO⟩ := hrel
    by_cases hlt : k < n
    · obtain ⟨x, hx⟩ : ∃ x, ps[k]? = some x := ⟨_, List.getElem?_eq_getElem (by rw [HR.out.len]; exact hlt)⟩
      obtain ⟨g, off, rfl, hra, _⟩ := (HR.out.same HO.out).at_ k x hx
      obtain ⟨cs, hcs⟩ : ∃ cs, cs = x.cells := ⟨_, rfl⟩
      obtain ⟨xn, hxn⟩ : ∃ xn, xn = x.t.body.length := ⟨_, rfl⟩
      have HRA : Hid (wr.rangeAt g (off + k * 5) cs) := by rw [hcs]; exact hra
      have hcl : cs.length = 5 := by rw [hcs]; rfl
      have HCL := Lib.hid hcl
      have HCO := Lib.hid (show ∀ v ∈ cs, v.oneCell' = true by rw [hcs]; exact x.cells_one)
      have HC3 : Hid (cs[3]? = some (.slice x.ad xn x.cap)) := by rw [hcs, hxn]; rfl
      clear hra hcs hcl hx hxn
      by_cases hlong : 400 < xn
      · have d4 : decide ((400 : Int) < (xn : Int)) = true := by simp; omega
        go_wp2_with (first
          | ((with_reducible show wpList _ _ _ (⟨some 24, _, _, _, _, _⟩ :: _) _ _); refine wpList_load_mid rfl 26 (.tmp 23) rfl g (off + k * 5) rfl cs _ HRA.out Tryd.underlying26 rfl (by rw [HCL.out]; exact size_tok) ?_)
          | ((with_reducible show wpList _ _ _ (⟨none, .store 26 _ _, _, _, _, _⟩ :: _) _ _); refine step_store rfl 26 _ _ rfl wr.heap.size rfl cs rfl _ (tkCells Tk.none (.slice none 0 0)) (Blk.new _ _ _) (by rw [HCL.out]; exact size_tok) HCL.out.symm HCO.out ?_; intro w4 hB4 hz4 ho4; have HO4 : Hid (Only (fun _ => False) wr w4) := (((Only.refl (fun _ => False) wr).alloc _).trans ho4 (fun i hi => .inr (by omega))); have q3 : w4.cell? ⟨wr.heap.size, 3, none⟩ = some (.slice x.ad xn x.cap) := (by rw [hB4.out.cell]; exact HC3.out)))
        go_ret
        exact ⟨rfl, HO.out.trans HO4.out (fun _ h => h.elim)⟩
      · have d4 : decide ((400 : Int) < (xn : Int)) = false := by simp; omega
        go_wp2_with (first
          | ((with_reducible show wpList _ _ _ (⟨some 24, _, _, _, _, _⟩ :: _) _ _); refine wpList_load_mid rfl 26 (.tmp 23) rfl g (off + k * 5) rfl cs _ HRA.out Tryd.underlying26 rfl (by rw [HCL.out]; exact size_tok) ?_)
          | ((with_reducible show wpList _ _ _ (⟨none, .store 26 _ _, _, _, _, _⟩ :: _) _ _); refine step_store rfl 26 _ _ rfl wr.heap.size rfl cs rfl _ (tkCells Tk.none (.slice none 0 0)) (Blk.new _ _ _) (by rw [HCL.out]; exact size_tok) HCL.out.symm HCO.out ?_; intro w4 hB4 hz4 ho4; have HO4 : Hid (Only (fun _ => False) wr w4) := (((Only.refl (fun _ => False) wr).alloc _).trans ho4 (fun i hi => .inr (by omega))); have q3 : w4.cell? ⟨wr.heap.size, 3, none⟩ = some (.slice x.ad xn x.cap) := (by rw [hB4.out.cell]; exact HC3.out)))
        go_roundw
        case rel => exact ⟨k + 1, by omega, by go_num, HO.out.trans HO4.out (fun _ h => h.elim)⟩
        case measure => simp [intOf]; omega
    · go_wp2_with (first
        | (go_at_call 19; refine (HAl.out wr HO.out).mono ?_; rintro e w2 ⟨A2, k2, c2, qs, b, rfl, hk2, hq2, ho2⟩; have HO2 : Hid (Only (fun _ => False) w w2) := HO.out.trans ho2.out (fun _ h => h.elim))
        | (go_at_call 20; (with_reducible refine (HB1.out w2 HO2.out).mono ?_); rintro e w3 ⟨rfl, ho3⟩; have HO3 : Hid (Only (fun _ => False) w w3) := HO2.out.trans ho3 (fun _ h => h.elim); have hq3 := Lib.hid (hq2.out.same ho3); clear ho3)
        | (go_at_call 20; (with_reducible refine (HB2.out w3 A2 k2 c2 qs HO3.out hq3.out hk2).mono ?_); rintro e w4 ⟨rfl, ho4⟩; have HO4 : Hid (Only (fun _ => False) w w4) := HO3.out.trans ho4 (fun _ h => h.elim); clear ho4))
      go_ret
      exact ⟨rfl, HO4.out⟩

theorem emitBack_walk (W : World) {H : Type} {enc : TypeId × Value → H} {fuel : Nat} {A : Option Addr} {n c : Nat} {x : DataW H × List MemPlace} (hf : DataW.trod enc Tryd.prog W 0 (fun _ => true) true fuel 22 [.slice A n c] = some x)
    {fuel' : Nat} {B : Option Addr} {m d : Nat} {y : DataW H × List MemPlace} (hg : DataW.trod enc Tryd.prog W 0 (fun _ => true) true fuel' 24 [.slice B m d] = some y) {es : List Addr} (hes : ErrsOf W [0, 3, 8] es) :
    Calls Tryd.prog 5 #[.slice A n c, .slice B m d] W (Fine W) := by
  obtain ⟨_, _, ps, hr⟩ := opened_toks hf
  obtain ⟨A', n', c', xs, e, h1, h2, h3⟩ := opened_cell hg
  injection e with e1 e2 e3
  subst e1 e2 e3
  by_cases h : 30 < n ∨ 600 < m
  · exact eback_long hes A n c B m d h
  · exact eback_ok hes A n c ps hr B m d xs h1 h2 h3 (by omega) (by omega)
end Go.Proofs.YtgahamdfgjijkaaDoor
