/- The law's own: reports as the document's, and two of these. -/
import Derived.Test.YthbmhoeaimdjmaaDoorSuSay
import Derived.Test.YthbmhoeaimdjmaaDoorRowK
import Derived.BigQuiet
namespace Go.Proofs.YthbmhoeaimdjmaaDoor
open Go Go.RowKit
set_option maxRecDepth 100000
set_option maxHeartbeats 4000000

theorem size_en : (Tryd.prog.info? 70).map (·.size) = some 2 := by kernel_rfl
theorem size_ren : (Tryd.prog.info? 71).map (·.size) = some 2 := by kernel_rfl
theorem info_en : (Tryd.prog.info? 70).map (fun i => (i.zero, i.size, i.bytes)) = some (some (.agg (En.cs ⟨0, 0⟩).toArray), 2, 16) := by kernel_rfl
theorem info_ren : (Tryd.prog.info? 71).map (fun i => (i.zero, i.size, i.bytes)) = some (some (.agg (En.cs ⟨0, 0⟩).toArray), 2, 16) := by kernel_rfl
theorem same_ren (W : World) (a b : Int) : (Op.equalIn 10000 71 (.agg #[.int .i64 a, .int .i64 b]) (.agg #[.int .i64 a, .int .i64 b])).run Tryd.prog W = .ok true W := by
  rw [show (10000 : Nat) = 9999 + 1 from rfl, run_equalIn_struct W 9999 _ _ _ (by kernel_rfl) (by kernel_rfl)]
  have u3 : Tryd.prog.underlying 3 = some (.int .i64) := Tryd.underlying3
  simp only [Program.fieldsOf, Tryd.underlying71, Op.eqFields]
  simp [go_sem, u3, Result.andThen]
theorem guard_ren : Tryd.prog.eqGuardType Tryd.prog.depth 71 = false := by kernel_rfl

theorem suOf_any {w : World} {A : Option Addr} {n c : Nat} {l : List En} (h : EnAt w A n l) (hn : n ≤ 1000) :
    Calls Tryd.prog 6 #[.slice A n c] w fun e w' => ∃ A' c', e = .returned (.slice A' n c') ∧ EnAt w' A' n l ∧ Only (fun _ => False) w w' := by
  have H := Lib.hid h
  obtain ⟨i, hi, hz, h1, h2⟩ := infoK info_ren
  have HI := Lib.hid hi
  have HZ := Lib.hid hz
  have HI1 := Lib.hid h1
  have HI2 := Lib.hid h2
  clear h hi hz h1 h2
  go_enter Tryd.func6, Tryd.ntmps6
  go_wp2
  have HB0 : Hid ((w.alloc (.cells #[] 71)).ownsRow w.heap.size 71 2 (.slice (some ⟨w.heap.size, 0, none⟩) (0 : Nat) 0) 0 (csE [])) := own_of_blk (cur := []) (Blk.new w _ []) rfl rfl (by omega) (by omega) (Nat.le_refl _)
  have HO0 : Hid (Only (fun _ => False) w (w.alloc (.cells #[] 71))) := (Only.refl _ _).alloc _
  generalize w.alloc (.cells #[] 71) = w0 at *
  go_loopw [3, 9] (fun a i W => ∃ (k : Nat) (B : Option Addr) (cb : Nat), k ≤ n ∧ a = .slice B k cb ∧ i = .int .i64 (k : Int) ∧ Hid (W.ownsRow w.heap.size 71 2 (.slice B k cb) k (csE (l.take k)) ∧ Only (fun _ => False) w W)) (fun _ i _ => n - (intOf i).toNat)
  case atStart => exact ⟨0, _, 0, Nat.zero_le _, rfl, rfl, HB0.out, HO0.out⟩
  case round =>
    obtain ⟨k, B, cb, hk, rfl, rfl, hrel⟩ := hrel
    by_cases hlt : k < n
    · have hlt2 : (k : Int) < (n : Int) := by omega
      obtain ⟨x, hx⟩ : ∃ x, l[k]? = some x := ⟨_, List.getElem?_eq_getElem (by rw [H.out.1]; omega)⟩
      obtain ⟨b, off, rfl, hbl, hrg⟩ := (H.out.same hrel.out.2).2 k x hx
      have HTk : Hid (csE (l.take (k + 1)) = csE (l.take k) ++ x.cs) := by
        show csE (l.take (k + 1)) = _
        rw [take_snoc hx, csE_append, csE_one]
      have HRg := Lib.hid hrg
      obtain ⟨xl, xv⟩ := x
      clear hx hrg
      go_wp2_with (first
        | ((with_reducible show wpList _ _ _ (⟨some 12, _, _, _, _, _⟩ :: _) _ _); refine wpList_load_mid rfl 70 _ rfl b (off + k * 2) rfl [.int .i64 xl, .int .i64 xv] _ HRg.out Tryd.underlying70 rfl size_en ?_)
        | ((with_reducible show wpList _ _ _ (⟨some 16, _, _, _, _, _⟩ :: _) _ _); refine step_append_own rfl (.tmp 13) (.tmp 15) 25 rfl w.heap.size 71 i _ 2 16 Tryd.underlying25 HI.out HZ.out HI1.out HI2.out rfl (by omega) (.slice B k cb) k (csE (l.take k)) rfl (own_same hrel.out.1 (((Only.refl _ _).alloc _).alloc _)) (some ⟨wr.heap.size + 1, 0, none⟩) 1 1 [.int .i64 xl, .int .i64 xv] rfl rfl (fun _ => ⟨_, rfl, fun j u hj => by rw [at_add]; exact ((Blk.new' _ _ [.int .i64 xl, .int .i64 xv] (by simp)).cell j).trans hj⟩) (En.cs_one ⟨xl, xv⟩) (by omega) (by omega) (Nat.le_trans hrel.out.2.size (by simp; try omega)) ?_; intro A7 c7 w7 hq1 hq2 hq3; have HOw7 := Lib.hid hq3.out.1; have HOn7 : Hid (Only (fun _ => False) w w7) := Only.grown ((hrel.out.2.alloc _).alloc _) hq3.out.2.1 (fun k hk => .inr (own_lt hrel.out.1 k hk).1); clear hq1 hq2 hq3)
        | fail)
      go_roundw
      case rel => exact ⟨k + 1, A7, c7, by omega, rfl, by go_num, by rw [HTk.out]; exact HOw7.out, HOn7.out⟩
      case measure => simp [intOf]; omega
    · obtain rfl : k = n := by omega
      go_wp2
      go_ret
      have hl := H.out.1
      have ho := hrel.out.1
      rw [List.take_of_length_le (by omega)] at ho
      exact ⟨B, cb, rfl, LsOf.of_own (cs := En.cs) (m := 2) (fun _ => rfl) ho hl, hrel.out.2⟩

theorem suSame_any {w : World} {A B : Option Addr} {n c d : Nat} {l : List En} (h : EnAt w A n l) (h' : EnAt w B n l) (hn : n ≤ 1000) :
    Calls Tryd.prog 13 #[.slice A n c, .slice B n d] w fun e w' => e = .returned (.bool true) ∧ Only (fun _ => False) w w' := by
  have H := Lib.hid h
  have H' := Lib.hid h'
  have hnn : ((n : Int) != (n : Int)) = false := by simp
  clear h h'
  go_enter Tryd.func13, Tryd.ntmps13
  go_wp2
  go_loopw [13] (fun i W => ∃ k : Nat, k ≤ n ∧ i = .int .i64 (k : Int) ∧ Hid (Only (fun _ => False) w W)) (fun i _ => n - (intOf i).toNat)
  case atStart => exact ⟨0, Nat.zero_le _, rfl, Only.refl _ _⟩
  case round =>
    obtain ⟨k, hk, rfl, hrel⟩ := hrel
    by_cases hlt : k < n
    · have hlt2 : (k : Int) < (n : Int) := by omega
      obtain ⟨x, hx⟩ : ∃ x, l[k]? = some x := ⟨_, List.getElem?_eq_getElem (by rw [H.out.1]; omega)⟩
      obtain ⟨b, off, rfl, _, hrg⟩ := (H.out.same hrel.out).2 k x hx
      obtain ⟨b', off', rfl, _, hrg'⟩ := (H'.out.same hrel.out).2 k x hx
      obtain ⟨xl, xv⟩ := x
      have c0 : wr.cell? ⟨b, off + k * 2, none⟩ = some (.int .i64 xl) := hrg 0 _ rfl
      have c1 : wr.cell? ⟨b, off + k * 2 + 1, none⟩ = some (.int .i64 xv) := hrg 1 _ rfl
      have d0 : wr.cell? ⟨b', off' + k * 2, none⟩ = some (.int .i64 xl) := hrg' 0 _ rfl
      have d1 : wr.cell? ⟨b', off' + k * 2 + 1, none⟩ = some (.int .i64 xv) := hrg' 1 _ rfl
      have heq := fun W => same_ren W xl xv
      have hgr := guard_ren
      clear hx hrg hrg'
      go_wp2
      go_quiet (fail)
      go_wp2
      go_roundw
      case rel => exact ⟨k + 1, by omega, by go_num, hrel.out.drewN _⟩
      case measure => simp [intOf]; omega
    · obtain rfl : k = n := by omega
      go_wp2
      go_ret
      exact ⟨rfl, hrel.out⟩
end Go.Proofs.YthbmhoeaimdjmaaDoor
