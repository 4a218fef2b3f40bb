/- The document's Data of layer 9. -/
import Derived.Test.YtelmfncdamakfaaCleanTok
namespace Go.Proofs.Ytelmfncdamakfaa
open Go Go.RowKit
set_option maxRecDepth 100000
set_option maxHeartbeats 4000000

/-- Where Data stands. -/
structure DAt (w : World) (ts : List Tk) (W : World) (k : Nat) (V : Value) (m : Nat) (ys : List UInt8) : Prop where
  len : m = ys.length
  le : ys.length ≤ k
  row : Body W w.heap.size V ys
  told : ys ++ data9 (ts.drop k) = data9 ts
  only : Only (fun _ => False) w W
theorem data9_cons (t : Tk) (ts : List Tk) : data9 (t :: ts) = (if isData t then [b8 t.code] else []) ++ data9 ts := by
  unfold data9
  cases h : isData t <;> simp [h]

theorem refData_any {w : World} {B0 : Nat} {A : Option Addr} {n c : Nat} {ts : List Tk} (hr : RRow w B0 (.slice A n c) ts) (hn : n = ts.length) (hn2 : n ≤ 100000) (hby : ∀ t ∈ ts, isData t = true → ∃ x : UInt8, t.code = (x.toNat : Int)) :
    Calls Try.prog 14 #[.slice A n c] w fun e w' => e = .returned (.string ⟨(data9 ts).toArray⟩) ∧ Only (fun _ => False) w w' := by
  have HR : Hid (w.ownsRow B0 56 5 (.slice A n c) n (flatR ts)) := by unfold RRow at hr; rw [← hn] at hr; exact hr
  have HBy := Lib.hid hby
  have HN := Lib.hid hn
  have H0 : Hid (DAt w ts (w.alloc (.cells #[] 5)) 0 (.slice (some ⟨w.heap.size, 0, none⟩) 0 0) 0 []) := ⟨rfl, Nat.le_refl _, own_of_blk (cur := []) (Blk.new w _ []) rfl rfl (Nat.le_refl _) (by omega) (Nat.le_refl _), rfl, (Only.refl _ _).alloc _⟩
  clear hr hby hn
  go_enter Try.func14, Try.ntmps14
  go_wp2
  go_loopw [3, 9] (fun v i W => ∃ (k m : Nat) (A' : Option Addr) (c' : Nat), k ≤ n ∧ i = .int .i64 (k : Int) ∧ v = .slice A' m c' ∧ m ≤ k ∧ Hid (∃ ys, DAt w ts W k (.slice A' m c') m ys)) (fun _ i _ => n - (intOf i).toNat)
  case atStart => exact ⟨0, 0, _, _, Nat.zero_le _, rfl, rfl, Nat.le_refl _, [], H0.out⟩
  case round =>
    clear H0
    obtain ⟨k, m, A', c', hk, rfl, rfl, hmk, hr⟩ := hrel
    obtain ⟨ys, hD⟩ := hr.out
    have HD := Lib.hid hD
    by_cases hlt : k < n
    · obtain ⟨t, ht⟩ : ∃ t, ts[k]? = some t := ⟨_, List.getElem?_eq_getElem (by rw [← HN.out]; exact hlt)⟩
      obtain ⟨g, rfl, _, hgl, hcell⟩ := own_at (own_same HR.out hD.only) (by omega)
      have hrng : wr.rangeAt g (k * 5) (rkCells t) := fun j u hj => hcell _ _ (flatR_get ht j u hj)
      have htold := hD.told
      rw [List.drop_eq_getElem_cons (by rw [← HN.out]; exact hlt), (List.getElem?_eq_some_iff.1 ht).2, data9_cons] at htold
      have HTo := Lib.hid htold
      have hbt := HBy.out t (List.mem_of_getElem? ht)
      obtain ⟨tk, tc, to_, tb, tcut⟩ := t
      obtain ⟨cs, hcs⟩ : ∃ cs, cs = rkCells ⟨tk, tc, to_, tb, tcut⟩ := ⟨_, rfl⟩
      rw [← hcs] at hrng
      have HRg := Lib.hid hrng
      have HL : Hid (cs.length = 5) := by rw [hcs]; rfl
      have HO : Hid (∀ v ∈ cs, v.oneCell' = true) := by rw [hcs]; exact rk_one _
      have HCS := Lib.hid hcs
      have HSz := Lib.hid hD.only.size
      have HRow := Lib.hid hD.row
      have HLen := Lib.hid hD.len
      clear hcell hrng hcs ht htold hr hD
      by_cases h1 : tk = 1
      · subst h1
        obtain ⟨y, hy⟩ := hbt rfl
        simp only at hy
        subst hy
        have hyb := y.toNat_lt
        have hw : IntKind.u8.wrap ((y.toNat : Nat) : Int) = (y.toNat : Int) := by rw [IntKind.wrap_u8]; omega
        go_wp2_with (first
          | ((with_reducible show wpList _ _ _ (⟨some 12, _, _, _, _, _⟩ :: _) _ _); refine wpList_load_mid rfl 56 (.tmp 11) rfl g (k * 5) rfl cs _ HRg.out Try.underlying56 rfl (by rw [HL.out]; exact size_rtok) ?_)
          | ((with_reducible show wpList _ _ _ (⟨none, .store 56 _ _, _, _, _, _⟩ :: _) _ _); refine step_store rfl 56 _ _ rfl wr.heap.size rfl cs rfl _ (rkCells Tk.none) (Blk.new _ _ _) (by rw [HL.out]; exact size_rtok) HL.out.symm HO.out ?_; intro w2 hB2 hz2 ho2; have hO2 : Hid (Only (fun i => wr.heap.size ≤ i) wr w2) := ((Only.refl (fun i => wr.heap.size ≤ i) wr).alloc _).trans ho2 (fun i hi => .inl (by omega)); have hs2 := hO2.out.size; have q0 : w2.cell? ⟨wr.heap.size, 0, none⟩ = some (.int .i64 1) := (by rw [hB2.out.cell, HCS.out]; rfl); have q1 : w2.cell? ⟨wr.heap.size, 1, none⟩ = some (.int .i64 (y.toNat : Int)) := (by rw [hB2.out.cell, HCS.out]; rfl); have HRow2 : Hid (Body w2 w.heap.size (.slice A' m c') ys) := own_only HRow.out hO2.out (fun q hq => by have := (own_lt HRow.out q hq).2; omega))
          | (at_builtin; refine step_bytesG rfl (.tmp 16) (.tmp 20) rfl w.heap.size _ _ _ ys rfl (own_same HRow2.out ((Only.refl _ w2).alloc _)) HLen.out (some ⟨w2.heap.size, 0, none⟩) 1 1 [y] rfl (src_new w2 [y] _ _ (0, 0) 1 rfl rfl) (by omega) (by have := HSz.out; show _ ≤ (w2.alloc _).heap.size; simp; omega) ?_; intro A3 c3 w3 hb3 hg3))
        go_roundw
        case rel =>
          refine ⟨k + 1, m + 1, _, _, by omega, by go_num, rfl, by omega, ys ++ [y], ?_, ?_, hb3.out, ?_, ?_⟩
          · simp [HLen.out]
          · have := HD.out.le
            simp
            omega
          · rw [← HTo.out]
            simp [isData, b8_of]
          · exact ((HD.out.only.trans hO2.out (fun i hi => .inr (by have := HSz.out; omega))).alloc _).grown hg3.out (fun k hk => .inr (own_lt HRow2.out k hk).1)
        case measure => simp [intOf]; omega
      · have e1 : (tk == 1) = false := by simpa using h1
        have e1' : decide (tk = 1) = false := by simpa using h1
        have HE := Lib.hid e1'
        clear h1 hbt
        go_wp2_with (first
          | ((with_reducible show wpList _ _ _ (⟨some 12, _, _, _, _, _⟩ :: _) _ _); refine wpList_load_mid rfl 56 (.tmp 11) rfl g (k * 5) rfl cs _ HRg.out Try.underlying56 rfl (by rw [HL.out]; exact size_rtok) ?_)
          | ((with_reducible show wpList _ _ _ (⟨none, .store 56 _ _, _, _, _, _⟩ :: _) _ _); refine step_store rfl 56 _ _ rfl wr.heap.size rfl cs rfl _ (rkCells Tk.none) (Blk.new _ _ _) (by rw [HL.out]; exact size_rtok) HL.out.symm HO.out ?_; intro w2 hB2 hz2 ho2; have hO2 : Hid (Only (fun i => wr.heap.size ≤ i) wr w2) := ((Only.refl (fun i => wr.heap.size ≤ i) wr).alloc _).trans ho2 (fun i hi => .inl (by omega)); have hs2 := hO2.out.size; have q0 : w2.cell? ⟨wr.heap.size, 0, none⟩ = some (.int .i64 tk) := (by rw [hB2.out.cell, HCS.out]; rfl); have HRow2 : Hid (Body w2 w.heap.size (.slice A' m c') ys) := own_only HRow.out hO2.out (fun q hq => by have := (own_lt HRow.out q hq).2; omega)))
        go_roundw
        case rel =>
          refine ⟨k + 1, m, _, _, by omega, by go_num, rfl, by omega, ys, HLen.out, by have := HD.out.le; omega, HRow2.out, ?_, HD.out.only.trans hO2.out (fun i hi => .inr (by have := HSz.out; omega))⟩
          rw [← HTo.out]
          simp [isData, HE.out]
        case measure => simp [intOf]; omega
    · obtain rfl : k = n := by omega
      have htold := hD.told
      rw [List.drop_eq_nil_of_le (by rw [← HN.out]; exact Nat.le_refl _)] at htold
      simp only [data9, List.filter_nil, List.map_nil, List.append_nil] at htold
      have hcv := text_of (P := Try.prog) (hD.row.src hD.len) c' 22 9 5 Try.underlying22 Try.underlying5 Try.underlying9
      have HTo := Lib.hid htold
      clear hr hD htold
      go_wp2
      go_ret
      exact ⟨by rw [show data9 ts = ys from HTo.out.symm]; rfl, HD.out.only⟩
end Go.Proofs.Ytelmfncdamakfaa
