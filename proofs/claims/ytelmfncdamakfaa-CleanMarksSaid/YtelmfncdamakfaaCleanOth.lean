/- CleanMarks: how many tokens aren't data. -/
import Derived.Test.YtelmfncdamakfaaCleanMk
import Derived.Test.YtelmfncdamakfaaCleanAlive
namespace Go.Proofs.Ytelmfncdamakfaa
open Go Go.RowKit
set_option maxRecDepth 100000
set_option maxHeartbeats 4000000

theorem othersN_cons (t : Tk) (ts : List Tk) : othersN (t :: ts) = (if isData t then 0 else 1) + othersN ts := by
  unfold othersN
  cases h : isData t <;> simp [h]
  omega
theorem others_any {w : World} {B0 : Nat} {A : Option Addr} {n c : Nat} {ps : List TkP} (h : Toks w B0 (.slice A n c) ps) (hn : ps.length = n) (hn2 : n ≤ 100000) :
    Calls Try.prog 21 #[.slice A n c] w fun e w' => e = .returned (.int .i64 (othersN (ps.map TkP.t) : Int)) ∧ Hid (Only (fun _ => False) w w') := by
  have HT := Lib.hid h
  have HN := Lib.hid hn
  obtain ⟨O, hO⟩ : ∃ O, O = othersN (ps.map TkP.t) := ⟨_, rfl⟩
  have HO' := Lib.hid hO
  rw [← hO]
  clear h hn hO
  go_enter Try.func21, Try.ntmps21
  go_wp2
  go_loopw [3, 8] (fun v i W => ∃ (k z : Nat), k ≤ n ∧ z ≤ k ∧ i = .int .i64 (k : Int) ∧ v = .int .i64 (z : Int) ∧ Hid (z + othersN ((ps.drop k).map TkP.t) = O) ∧ Hid (Only (fun _ => False) w W)) (fun _ i _ => n - (intOf i).toNat)
  case atStart => exact ⟨0, 0, Nat.zero_le _, Nat.le_refl _, rfl, rfl, by rw [List.drop_zero, Nat.zero_add]; exact HO'.out.symm, Only.refl _ _⟩
  case round =>
    obtain ⟨k, z, hk, hzk, rfl, rfl, hz, ho⟩ := hrel
    by_cases hlt : k < n
    · obtain ⟨x, hx⟩ : ∃ x, ps[k]? = some x := ⟨_, List.getElem?_eq_getElem (by rw [HN.out]; exact hlt)⟩
      obtain ⟨g, rfl, _, hgl, hra, _⟩ := (HT.out.same ho.out).at_ hx
      have hz' := hz.out
      rw [at_drop hx, List.map_cons, othersN_cons] at hz'
      have HZ := Lib.hid hz'
      obtain ⟨⟨tk, tc, to_, tb, tcut⟩, aad, acap⟩ := x
      obtain ⟨cs, hcs⟩ : ∃ cs, cs = TkP.cells ⟨⟨tk, tc, to_, tb, tcut⟩, aad, acap⟩ := ⟨_, rfl⟩
      rw [← hcs] at hra
      have HRg := Lib.hid hra
      have HL : Hid (cs.length = 5) := by rw [hcs]; rfl
      have HCo : Hid (∀ v ∈ cs, v.oneCell' = true) := by rw [hcs]; exact TkP.cells_one _
      have HCS := Lib.hid hcs
      clear hra hx hz hz' hcs
      by_cases h1 : tk = 1
      · subst h1
        go_wp2_with (first
          | ((with_reducible show wpList _ _ _ (⟨some 11, _, _, _, _, _⟩ :: _) _ _); refine wpList_load_mid rfl 52 (.tmp 10) rfl g (k * 5) rfl cs _ HRg.out Try.underlying52 rfl (by rw [HL.out]; exact size_tok) ?_)
          | ((with_reducible show wpList _ _ _ (⟨none, .store 52 _ _, _, _, _, _⟩ :: _) _ _); refine step_store rfl 52 _ _ rfl wr.heap.size rfl cs rfl _ (tkCells Tk.none (.slice none 0 0)) (Blk.new _ _ _) (by rw [HL.out]; exact size_tok) HL.out.symm HCo.out ?_; intro w2 hB2 hz2 ho2; have hO2 : Hid (Only (fun _ => False) w w2) := (ho.out.alloc _).trans ho2 (fun i hi => .inr (by have := ho.out.size; omega)); have q0 : w2.cell? ⟨wr.heap.size, 0, none⟩ = some (.int .i64 1) := (by rw [hB2.out.cell, HCS.out]; rfl)))
        go_roundw
        case rel => exact ⟨k + 1, z, by omega, by omega, by go_num, rfl, Lib.hid (by simpa [isData] using HZ.out), hO2⟩
        case measure => simp [intOf]; omega
      · have e1 : (tk != 1) = true := by simpa using h1
        have e1' : decide (tk = 1) = false := by simpa using h1
        have HE := Lib.hid e1'
        clear h1
        go_wp2_with (first
          | ((with_reducible show wpList _ _ _ (⟨some 11, _, _, _, _, _⟩ :: _) _ _); refine wpList_load_mid rfl 52 (.tmp 10) rfl g (k * 5) rfl cs _ HRg.out Try.underlying52 rfl (by rw [HL.out]; exact size_tok) ?_)
          | ((with_reducible show wpList _ _ _ (⟨none, .store 52 _ _, _, _, _, _⟩ :: _) _ _); refine step_store rfl 52 _ _ rfl wr.heap.size rfl cs rfl _ (tkCells Tk.none (.slice none 0 0)) (Blk.new _ _ _) (by rw [HL.out]; exact size_tok) HL.out.symm HCo.out ?_; intro w2 hB2 hz2 ho2; have hO2 : Hid (Only (fun _ => False) w w2) := (ho.out.alloc _).trans ho2 (fun i hi => .inr (by have := ho.out.size; omega)); have q0 : w2.cell? ⟨wr.heap.size, 0, none⟩ = some (.int .i64 tk) := (by rw [hB2.out.cell, HCS.out]; rfl)))
        go_roundw
        case rel =>
          refine ⟨k + 1, z + 1, by omega, by omega, by go_num, by go_num, ?_, hO2⟩
          have := HZ.out
          simp only [isData, HE.out, Bool.false_eq_true, if_false] at this
          show _ = _
          omega
        case measure => simp [intOf]; omega
    · obtain rfl : k = n := by omega
      have hz' := hz.out
      rw [List.drop_eq_nil_of_le (by rw [HN.out]; exact Nat.le_refl _)] at hz'
      have e : z = O := by simpa [othersN] using hz'
      clear hz hz'
      subst e
      go_wp2
      go_ret
      exact ⟨rfl, ho⟩
end Go.Proofs.Ytelmfncdamakfaa
