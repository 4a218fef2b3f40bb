/- Layer 11's document, walked: set, Has, Calm. -/
import Derived.Test.YthbmhoeaimdjmaaDoorTbRef
import Derived.Test.YthbmhoeaimdjmaaDoorRow1
namespace Go.Proofs.YthbmhoeaimdjmaaDoor
open Go Go.RowKit
set_option maxRecDepth 100000
set_option maxHeartbeats 4000000

theorem dropR_take {l : List Rq} {k : Nat} {x : Rq} (hx : l[k]? = some x) (s o : Int) : dropR (l.take (k + 1)) s o = dropR (l.take k) s o ++ (bif keyR x s o then [] else [x]) := by
  unfold dropR
  rw [List.take_add_one, hx, List.filter_append]
  congr 1
  cases h : keyR x s o <;> simp [h]
theorem dropR_length (l : List Rq) (s o : Int) : (dropR l s o).length ≤ l.length := List.length_filter_le _ _

theorem rset_any {w : World} {B r : Nat} {P : Po} {l : List Rq} {T : Tb} (h : RfAt w B r P l T) (hB : B ≤ w.heap.size) (hn : l.length ≤ 1000) (s o : Nat) (q : Qs) : Calls Tryd.prog 44 #[.pointer (some ⟨r, 0, none⟩), .int .i64 (s : Int), .int .i64 (o : Int), .agg #[.int .i64 (q.kind : Int), .bool q.opp]] w fun e w' =>
    e = .returned (.tuple #[]) ∧ RfAt w' B r P (dropR l s o ++ [⟨s, o, q⟩]) T ∧ Only (· = r) w w' := by
  obtain ⟨A, n, c, h⟩ := h
  have hc := own_le h.row
  have H := Lib.hid h
  have hn63 : (n : Int) ≤ 9223372036854775807 := by omega
  have hn1000 : n ≤ 1000 := by rw [← h.len]; exact hn
  have hrl := h.blk.lt
  obtain ⟨i0, hi0, iz0, iz1, iz2⟩ := info_parts info_rrow
  have HI := Lib.hid hi0
  obtain ⟨qk, hqk⟩ : ∃ x, x = (q.kind : Int) := ⟨_, rfl⟩
  obtain ⟨qo, hqo⟩ : ∃ x, x = q.opp := ⟨_, rfl⟩
  have HQk := Lib.hid hqk
  have HQo := Lib.hid hqo
  rw [← hqk, ← hqo]
  obtain ⟨N, hN⟩ : ∃ N, N = w.heap.size := ⟨_, rfl⟩
  obtain ⟨W0, hW0⟩ : ∃ W0, W0 = (w.alloc (.cells #[.int .i64 qk, .bool qo] 103)).alloc (.cells #[] 130) := ⟨_, rfl⟩
  have HB0 : Hid (Blk W0 N 103 [.int .i64 qk, .bool qo]) := by rw [hW0, hN]; exact (Blk.new w _ [.int .i64 qk, .bool qo]).alloc _
  have HO0 : Hid (Only (fun _ => False) w W0) := by rw [hW0]; exact ((Only.refl _ _).alloc _).alloc _
  have HRow0 : Hid (W0.ownsRow (N + 1) 130 4 (.slice (some ⟨N + 1, 0, none⟩) (0 : Nat) 0) 0 (rowsC [])) := by
    rw [hW0, hN]
    exact own_of_blk (cur := []) (Blk.new' (n := w.heap.size + 1) (w.alloc (.cells #[.int .i64 qk, .bool qo] 103)) 130 [] (by simp)) rfl rfl (Nat.le_refl _) (by omega) (Nat.le_refl _)
  have HZ : Hid (W0.heap.size = N + 2) := by rw [hW0, hN]; simp [Hid]
  have HNw : Hid (w.heap.size = N) := hN.symm
  have c2 : ∀ ob ob', ((w.alloc ob).alloc ob').cell? ⟨r, 2, none⟩ = some (.slice A n c) := fun ob ob' => ((h.blk.alloc ob).alloc ob').cell 2
  have HHB := Lib.hid hB
  clear h hqk hqo hi0 hn hB
  go_enter Tryd.func44, Tryd.ntmps44
  go_wp2
  rw [← hN, ← hW0]
  clear hN hW0 c2
  go_loopw [8, 17] (fun v i W => ∃ (k : Nat) (A' : Option Addr) (n' c' : Nat), k ≤ n ∧ n' ≤ k ∧ v = .slice A' n' c' ∧ i = .int .i64 (k : Int) ∧ Hid (n' = (dropR (l.take k) s o).length ∧ Only (fun i => i = N + 1) W0 W ∧ W.ownsRow (N + 1) 130 4 (.slice A' n' c') n' (rowsC (dropR (l.take k) s o)))) (fun _ i _ => n - (intOf i).toNat)
  case atStart => exact ⟨0, some ⟨N + 1, 0, none⟩, 0, 0, Nat.zero_le _, Nat.le_refl _, rfl, rfl, rfl, Only.refl _ _, HRow0.out⟩
  case round =>
    clear HRow0
    obtain ⟨k, A', n', c', hk, hnk, rfl, rfl, hrel⟩ := hrel
    by_cases hlt : k < n
    · have hlt2 : (k : Int) < (n : Int) := by omega
      obtain ⟨x, hx⟩ : ∃ x, l[k]? = some x := ⟨_, List.getElem?_eq_getElem (by rw [H.out.len]; exact hlt)⟩
      obtain ⟨g, rfl, hrg⟩ := H.out.at_ hx (HO0.out.trans hrel.out.2.1 (fun i hi => .inr (by have := HNw.out; omega)))
      have HD := Lib.hid (dropR_take hx s o)
      have HRg := Lib.hid hrg
      obtain ⟨p1, hp1⟩ : ∃ p1, decide ((x.s : Int) = (s : Int)) = p1 := ⟨_, rfl⟩
      obtain ⟨p2, hp2⟩ : ∃ p2, decide ((x.o : Int) = (o : Int)) = p2 := ⟨_, rfl⟩
      have hkey : keyR x s o = (p1 && p2) := by unfold keyR; rw [hp1, hp2]
      rw [hkey] at HD
      obtain ⟨zs, hzs⟩ : ∃ z, z = (x.s : Int) := ⟨_, rfl⟩
      obtain ⟨zo, hzo⟩ : ∃ z, z = (x.o : Int) := ⟨_, rfl⟩
      obtain ⟨zk, hzk⟩ : ∃ z, z = (x.q.kind : Int) := ⟨_, rfl⟩
      obtain ⟨zp, hzp⟩ : ∃ z, z = x.q.opp := ⟨_, rfl⟩
      have hX : rqC x = [.int .i64 zs, .int .i64 zo, .int .i64 zk, .bool zp] := by rw [hzs, hzo, hzk, hzp]; rfl
      rw [← hzs] at hp1
      rw [← hzo] at hp2
      have hq1 : (zs == (s : Int)) = p1 := by rw [← hp1]; rfl
      have hq2 : (zo == (o : Int)) = p2 := by rw [← hp2]; rfl
      have hr1 : (zs != (s : Int)) = !p1 := by rw [← hq1]; rfl
      have hr2 : (zo != (o : Int)) = !p2 := by rw [← hq2]; rfl
      have HX := Lib.hid hX
      rw [hX] at HRg
      have HWr := Lib.hid hrel.out.2.1
      clear hx hrg hkey hzs hzo hzk hzp hX
      by_cases hpp : p1 = true ∧ p2 = true
      · obtain ⟨rfl, rfl⟩ := hpp
        rw [Bool.and_true, cond_true, List.append_nil] at HD
        go_wp2_with (first
          | ((with_reducible show wpList _ _ _ (⟨some 20, _, _, _, _, _⟩ :: _) _ _); refine wpList_load_mid rfl 130 _ rfl g (k * 4) rfl [.int .i64 zs, .int .i64 zo, .int .i64 zk, .bool zp] _ HRg.out Tryd.underlying130 rfl size_rrow ?_)
          | fail)
        go_roundw
        case rel => exact ⟨k + 1, A', n', c', by omega, by omega, rfl, by go_num, by rw [HD.out]; exact hrel.out.1, HWr.out.alloc _, by rw [HD.out]; exact own_same hrel.out.2.2 (alloc_only _)⟩
        case measure => simp [intOf]; omega
      · have hpp2 : (p1 && p2) = false := by cases p1 <;> cases p2 <;> simp_all
        rw [hpp2, cond_false] at HD
        obtain ⟨vs, hvs⟩ : ∃ vs, vs = rowsC (dropR (l.take k) s o) := ⟨_, rfl⟩
        have HVs := Lib.hid hvs
        have HRw := Lib.hid hrel.out.2.2
        rw [← hvs] at HRw
        have hsz := HWr.out.size
        have hsz0 := HZ.out
        rcases (show p1 = false ∨ (p1 = true ∧ p2 = false) by cases p1 <;> cases p2 <;> simp_all) with rfl | ⟨rfl, rfl⟩
        all_goals
          clear hpp hpp2 hvs
          simp only [Bool.not_false, Bool.not_true] at hr1 hr2
          go_wp2_with (first
            | ((with_reducible show wpList _ _ _ (⟨some 20, _, _, _, _, _⟩ :: _) _ _); refine wpList_load_mid rfl 130 _ rfl g (k * 4) rfl [.int .i64 zs, .int .i64 zo, .int .i64 zk, .bool zp] _ HRg.out Tryd.underlying130 rfl size_rrow ?_)
            | ((with_reducible show wpList _ _ _ (⟨some 34, _, _, _, _, _⟩ :: _) _ _); refine step_append_own rfl _ _ 50 rfl (N + 1) 130 i0 _ 4 32 Tryd.underlying50 HI.out iz0 iz1 iz2 rfl (by omega) _ n' vs rfl (own_same HRw.out (((Only.refl _ _).alloc _).alloc _)) (some ⟨wr.heap.size + 1, 0, none⟩) 1 1 [.int .i64 zs, .int .i64 zo, .int .i64 zk, .bool zp] rfl rfl (fun _ => ⟨_, rfl, fun j u hj => by rw [at_add, (Blk.new' (wr.alloc (.cells #[.int .i64 zs, .int .i64 zo, .int .i64 zk, .bool zp] 130)) 130 [.int .i64 zs, .int .i64 zo, .int .i64 zk, .bool zp] (n := wr.heap.size + 1) (by simp)).cell]; exact hj⟩) (fun u hu => by simp only [List.mem_cons, List.not_mem_nil, or_false] at hu; rcases hu with rfl | rfl | rfl | rfl <;> rfl) (by omega) (by omega) (by simp; omega) ?_; intro A2 c2 w5 hle hcap hq; have HQ := hq; clear hq hle hcap)
            | fail)
          go_roundw
          case rel =>
            refine ⟨k + 1, A2, n' + 1, c2, by omega, by omega, rfl, by go_num, ?_, ?_, ?_⟩
            · rw [HD.out, List.length_append, ← hrel.out.1]; rfl
            · exact ((HWr.out.alloc _).alloc _).grown HQ.out.2.1 (fun k hk => by
                have h1 := (own_lt HRw.out k hk).1
                rcases Nat.lt_or_ge k (N + 2) with h2 | h2
                · exact .inl (by omega)
                · exact .inr (by have := HZ.out; omega))
            · rw [HD.out, rowsC_append, ← HVs.out]
              have := HQ.out.1
              rw [← HX.out] at this
              simpa [rowsC] using this
          case measure => simp [intOf]; omega
    · obtain rfl : k = n := by omega
      have e0 := hrel.out.1
      rw [List.take_of_length_le (Nat.le_of_eq H.out.len)] at e0
      have HE := Lib.hid e0
      have HRw : Hid (wr.ownsRow (N + 1) 130 4 (.slice A' n' c') n' (rowsC (dropR l s o))) := by
        have := hrel.out.2.2
        rwa [List.take_of_length_le (Nat.le_of_eq H.out.len)] at this
      have HWr := Lib.hid hrel.out.2.1
      have HBr := Lib.hid (HB0.out.only hrel.out.2.1 (by omega))
      have HBt := Lib.hid ((H.out.blk.only HO0.out (fun h => h)).only hrel.out.2.1 (by have := HNw.out; omega))
      obtain ⟨vs, hvs⟩ : ∃ vs, vs = rowsC (dropR l s o) := ⟨_, rfl⟩
      have HVs := Lib.hid hvs
      rw [← hvs] at HRw
      have hsz := HWr.out.size
      have hsz0 := HZ.out
      have z0 := HBr.out.cell 0
      have z1 := HBr.out.cell 1
      simp only [List.getElem?_cons_zero, List.getElem?_cons_succ] at z0 z1
      have hnr : r ≠ N + 1 := by have := HNw.out; omega
      clear hvs e0 hrel hlt
      go_wp2_with (first
        | ((with_reducible show wpList _ _ _ (⟨some 43, _, _, _, _, _⟩ :: _) _ _); refine step_append_own rfl _ _ 50 rfl (N + 1) 130 i0 _ 4 32 Tryd.underlying50 HI.out iz0 iz1 iz2 rfl (by omega) _ n' vs rfl (own_same HRw.out ((Only.refl _ _).alloc _)) (some ⟨wr.heap.size, 0, none⟩) 1 1 [.int .i64 (s : Int), .int .i64 (o : Int), .int .i64 qk, .bool qo] rfl rfl (fun _ => ⟨_, rfl, fun j u hj => by rw [at_add, (Blk.new wr 130 [.int .i64 (s : Int), .int .i64 (o : Int), .int .i64 qk, .bool qo]).cell]; exact hj⟩) (fun u hu => by simp only [List.mem_cons, List.not_mem_nil, or_false] at hu; rcases hu with rfl | rfl | rfl | rfl <;> rfl) (by omega) (by omega) (by simp; omega) ?_; intro A2 c2 w5 hle hcap hq; have HQ := hq; have hb5 := rblk_grown (HBt.out.alloc (.cells #[.int .i64 (s : Int), .int .i64 (o : Int), .int .i64 qk, .bool qo] 130)) hq.out.2.1 (fun e => own_ne HRw.out HBt.out (by decide) _ e rfl); have b2 : w5.cell? ⟨r, 2, none⟩ = some (.slice A k c) := hb5.cell 2; have f2 := hb5.frozen 2; have HB5 := Lib.hid hb5; clear hq hle hcap hb5)
        | fail)
      refine bodyPost_end (v := .tuple #[]) (by simp [results, go_sem]) rfl ?_
      have ho5 : Only (fun _ => False) w w5 := ((HO0.out.trans HWr.out (fun i hi => .inr (by have := HNw.out; omega))).alloc _).grown HQ.out.2.1 (fun k hk => .inr (by have h1 := (own_lt HRw.out k hk).1; have := HNw.out; omega))
      have ho6 := (Only.refl (· = r) w5).setCell (p := ⟨r, 2, none⟩) (.inl rfl) (.slice A2 (n' + 1) c2)
      have hb6 := HB5.out.setCell 2 (.slice A2 (n' + 1) c2)
      refine ⟨rfl, ⟨A2, n' + 1, c2, hb6, ?_, ?_⟩, (ho5.mono (T := (· = r)) (fun _ h => h.elim)).trans ho6 (fun i hi => .inl hi)⟩
      · rw [List.length_append, ← HE.out]; rfl
      · have h7 := HQ.out.1
        rw [HVs.out, HQk.out, HQo.out] at h7
        have h8 := own_only h7 ho6 (fun j hj => own_ne h7 HB5.out (by decide) j hj)
        have h9 := own_mono h8 (B' := B) (by have := HHB.out; have := HNw.out; omega)
        rw [rowsC_append]
        exact h9
end Go.Proofs.YthbmhoeaimdjmaaDoor
