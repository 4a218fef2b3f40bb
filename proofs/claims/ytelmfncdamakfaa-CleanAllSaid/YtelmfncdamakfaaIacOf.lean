/- The law's Of and Same: tokens as the document has them. -/
import Derived.Test.YtelmfncdamakfaaRTk
import Derived.Test.YtelmfncdamakfaaTkOf
import Derived.Deep.RegionHeld3
namespace Go.Proofs.Ytelmfncdamakfaa
open Go Go.RowKit
set_option maxRecDepth 100000
set_option maxHeartbeats 4000000

theorem lsame_any {w : World} {A B : Option Addr} {n c d B1 B2 : Nat} {ps : List TkP} {ts : List Tk} (hp : Toks w B1 (.slice A n c) ps) (hr : RRow w B2 (.slice B n d) ts) (hn : ps.length = n) (hm : ps.map TkP.t = ts) :
    Calls Try.prog 11 #[.slice A n c, .slice B n d] w fun e w' => e = .returned (.bool true) ∧ Only (fun _ => False) w w' := by
  have HP := Lib.hid hp
  have htl : ts.length = n := by rw [← hm, List.length_map, hn]
  unfold RRow at hr
  rw [htl] at hr
  have HR := Lib.hid hr
  have HM := Lib.hid hm
  have HN := Lib.hid hn
  obtain ⟨hnd, htop⟩ := own_le hr
  have hnn : ((n : Int) != (n : Int)) = false := by simp
  clear hp hr hn hm htl
  go_enter Try.func11, Try.ntmps11
  go_wp2
  go_loopw [14] (fun i W => ∃ q : Nat, q ≤ n ∧ i = .int .i64 (q : Int) ∧ Hid (Only (fun _ => False) w W)) (fun i _ => n - (intOf i).toNat)
  case atStart => exact ⟨0, Nat.zero_le _, rfl, Only.refl _ _⟩
  case round =>
    obtain ⟨q, hq, rfl, ho⟩ := hrel
    by_cases hlt : q < n
    · obtain ⟨a, ha⟩ : ∃ a, ps[q]? = some a := ⟨_, List.getElem?_eq_getElem (by rw [HN.out]; exact hlt)⟩
      have hb : ts[q]? = some a.t := by rw [← HM.out, List.getElem?_map, ha]; rfl
      obtain ⟨ga, rfl, _, hga, hra, hba⟩ := (HP.out.same ho.out).at_ ha
      obtain ⟨gb, rfl, _, hgb, hrb⟩ := own_at (own_same HR.out ho.out) (by omega)
      have hfb : ∀ (j : Nat) (u : Value), (rkCells a.t)[j]? = some u → wr.cell? ⟨gb, q * 5 + j, none⟩ = some u := fun j u hj => hrb _ _ (flatR_get hb j u hj)
      obtain ⟨⟨tk, tc, to_, tb, tcut⟩, aad, acap⟩ := a
      have HRA := Lib.hid hba.reads
      have HRng := Lib.hid hra
      have HFb := Lib.hid hfb
      obtain ⟨tn, htn⟩ : ∃ tn, tn = tb.length := ⟨_, rfl⟩
      have HTN := Lib.hid htn
      obtain ⟨cs, hcs⟩ : ∃ cs, cs = tkCells ⟨tk, tc, to_, tb, tcut⟩ (.slice aad tn acap) := ⟨_, rfl⟩
      have HCS := Lib.hid hcs
      have HR' : Hid (wr.rangeAt ga (q * 5) cs) := by
        rw [hcs, htn]
        exact HRng.out
      have hcl : cs.length = 5 := by rw [hcs]; rfl
      have HCL' := Lib.hid hcl
      have HCO := Lib.hid (show ∀ v ∈ cs, v.oneCell' = true by rw [hcs]; exact tk_one _ _ _ _)
      clear hra hrb hba ha hb htn hcs hcl hfb
      go_wp2_with (first
        | ((with_reducible show wpList _ _ _ (⟨some 18, _, _, _, _, _⟩ :: _) _ _); refine wpList_load_mid rfl 52 (.tmp 17) rfl ga (q * 5) rfl cs _ HR'.out Try.underlying52 rfl (by rw [HCL'.out]; exact size_tok) ?_)
        | ((with_reducible show wpList _ _ _ (⟨none, .store 52 _ _, _, _, _, _⟩ :: _) _ _); refine step_store rfl 52 _ _ rfl wr.heap.size rfl cs rfl _ (tkCells Tk.none (.slice none 0 0)) (Blk.new _ _ _) (by rw [HCL'.out]; exact size_tok) HCL'.out.symm HCO.out ?_; intro w4 hB4 hz4 ho4))
      have ho4' : Only (fun i => wr.heap.size ≤ i) wr w4 := ((Only.refl (fun i => wr.heap.size ≤ i) wr).alloc _).trans ho4 (fun i hi => .inl (by omega))
      have hx4 : FiveAt w4 wr.heap.size 0 ⟨tk, tc, to_, tb, tcut⟩ aad tn acap := by
        have h := hB4.out
        rw [HCS.out] at h
        exact ⟨by rw [h.cell]; rfl, by rw [h.cell]; rfl, by rw [h.cell]; rfl, by rw [h.cell]; rfl, by rw [h.cell]; rfl⟩
      have hy4 : ∀ (j : Nat) (u : Value), (rkCells ⟨tk, tc, to_, tb, tcut⟩)[j]? = some u → w4.cell? ⟨gb, q * 5 + j, none⟩ = some u := fun j u hj => ho4'.cellv (HFb.out j u hj) (by show ¬ wr.heap.size ≤ gb; omega)
      have HOf : Hid (Calls Try.prog 17 #[.agg #[.int .i64 tk, .int .i64 tc, .int .i64 to_, .slice aad tn acap, .bool tcut]] w4.drew fun e w' => e = .returned (.agg #[.int .i64 tk, .int .i64 tc, .int .i64 to_, .string ⟨tb.toArray⟩, .bool tcut]) ∧ Only (fun _ => False) w4.drew w') := of_flat tk tc to_ tb tcut aad tn acap HTN.out (by rw [HTN.out]; obtain ⟨A', c', e, h1, h2⟩ := HRA.out; exact ⟨A', c', e, h1.only ho4'.drew (fun hn ad hA => by have := h1.lt hn ad hA; omega), h2⟩)
      have HO4 := Lib.hid (ho.out.trans (ho4'.mono (T := fun i => wr.heap.size ≤ i) (fun i hi => .inl hi)) (fun i hi => .inr (by have := ho.out.size; omega)))
      have heq : ∀ W, (Op.equalIn 10000 56 (.agg #[.int .i64 tk, .int .i64 tc, .int .i64 to_, .string ⟨tb.toArray⟩, .bool tcut]) (.agg #[.int .i64 tk, .int .i64 tc, .int .i64 to_, .string ⟨tb.toArray⟩, .bool tcut])).run Try.prog W = .ok true W := fun W => by
        have := eq_rtok W ⟨tk, tc, to_, tb, tcut⟩ ⟨tk, tc, to_, tb, tcut⟩
        rw [decide_eq_true rfl] at this
        exact this
      have hgr := guard_rtok
      obtain ⟨N, hN⟩ : ∃ N, N = wr.heap.size := ⟨_, rfl⟩
      rw [← hN] at hx4 ⊢
      clear HRng HFb HRA ho4 hz4 hB4 HR' hN ho4'
      obtain ⟨x0, x1, x2, x3, x4⟩ := hx4
      have Q0 : Hid ((w4.drew.cell? ⟨N, 0, none⟩ = some (.int .i64 tk) ∧ w4.drew.cell? ⟨N, 1, none⟩ = some (.int .i64 tc) ∧ w4.drew.cell? ⟨N, 2, none⟩ = some (.int .i64 to_) ∧ w4.drew.cell? ⟨N, 3, none⟩ = some (.slice aad tn acap) ∧ w4.drew.cell? ⟨N, 4, none⟩ = some (.bool tcut)) ∧
        w4.drew.cell? ⟨gb, q * 5, none⟩ = some (.int .i64 tk) ∧ w4.drew.cell? ⟨gb, q * 5 + 1, none⟩ = some (.int .i64 tc) ∧ w4.drew.cell? ⟨gb, q * 5 + 2, none⟩ = some (.int .i64 to_) ∧ w4.drew.cell? ⟨gb, q * 5 + 3, none⟩ = some (.string ⟨tb.toArray⟩) ∧ w4.drew.cell? ⟨gb, q * 5 + 4, none⟩ = some (.bool tcut)) := ⟨⟨x0, x1, x2, x3, x4⟩, hy4 0 _ rfl, hy4 1 _ rfl, hy4 2 _ rfl, hy4 3 _ rfl, hy4 4 _ rfl⟩
      clear x0 x1 x2 x3 x4 hy4
      go_region_held3 (fun W => (W.cell? ⟨N, 0, none⟩ = some (.int .i64 tk) ∧ W.cell? ⟨N, 1, none⟩ = some (.int .i64 tc) ∧ W.cell? ⟨N, 2, none⟩ = some (.int .i64 to_) ∧ W.cell? ⟨N, 3, none⟩ = some (.slice aad tn acap) ∧ W.cell? ⟨N, 4, none⟩ = some (.bool tcut)) ∧
        W.cell? ⟨gb, q * 5, none⟩ = some (.int .i64 tk) ∧ W.cell? ⟨gb, q * 5 + 1, none⟩ = some (.int .i64 tc) ∧ W.cell? ⟨gb, q * 5 + 2, none⟩ = some (.int .i64 to_) ∧ W.cell? ⟨gb, q * 5 + 3, none⟩ = some (.string ⟨tb.toArray⟩) ∧ W.cell? ⟨gb, q * 5 + 4, none⟩ = some (.bool tcut))
        (first | exact Q0.out | exact Q5.out)
        (first
          | (go_at_call 17; (with_reducible refine HOf.out.mono ?_); rintro e w5 ⟨rfl, ho5⟩; have Q5 : Hid ((w5.cell? ⟨N, 0, none⟩ = some (.int .i64 tk) ∧ w5.cell? ⟨N, 1, none⟩ = some (.int .i64 tc) ∧ w5.cell? ⟨N, 2, none⟩ = some (.int .i64 to_) ∧ w5.cell? ⟨N, 3, none⟩ = some (.slice aad tn acap) ∧ w5.cell? ⟨N, 4, none⟩ = some (.bool tcut)) ∧ w5.cell? ⟨gb, q * 5, none⟩ = some (.int .i64 tk) ∧ w5.cell? ⟨gb, q * 5 + 1, none⟩ = some (.int .i64 tc) ∧ w5.cell? ⟨gb, q * 5 + 2, none⟩ = some (.int .i64 to_) ∧ w5.cell? ⟨gb, q * 5 + 3, none⟩ = some (.string ⟨tb.toArray⟩) ∧ w5.cell? ⟨gb, q * 5 + 4, none⟩ = some (.bool tcut)) := ⟨⟨ho5.cellv Q0.out.1.1 (fun h => h), ho5.cellv Q0.out.1.2.1 (fun h => h), ho5.cellv Q0.out.1.2.2.1 (fun h => h), ho5.cellv Q0.out.1.2.2.2.1 (fun h => h), ho5.cellv Q0.out.1.2.2.2.2 (fun h => h)⟩, ho5.cellv Q0.out.2.1 (fun h => h), ho5.cellv Q0.out.2.2.1 (fun h => h), ho5.cellv Q0.out.2.2.2.1 (fun h => h), ho5.cellv Q0.out.2.2.2.2.1 (fun h => h), ho5.cellv Q0.out.2.2.2.2.2 (fun h => h)⟩; have HO5 := Lib.hid ho5; clear ho5))
      clear Q0 Q5
      go_wp2
      go_roundw
      case rel => exact ⟨q + 1, by omega, by go_num, HO4.out.drew.trans HO5.out (fun _ h => h.elim)⟩
      case measure => simp [intOf]; omega
    · go_wp2
      go_ret
      exact ⟨rfl, ho.out⟩
end Go.Proofs.Ytelmfncdamakfaa
