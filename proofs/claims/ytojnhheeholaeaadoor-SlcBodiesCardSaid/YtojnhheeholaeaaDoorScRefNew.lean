/- Layer 14's document, walked: settings, New. -/
import Derived.Test.YtojnhheeholaeaaDoorScRef
import Derived.Test.YtojnhheeholaeaaDoorScNew
import Derived.Test.YtojnhheeholaeaaDoorRowK
import Derived.Test.YtojnhheeholaeaaDoorText
namespace Go.Proofs.YtojnhheeholaeaaDoor
open Go Go.RowKit
set_option maxRecDepth 100000
set_option maxHeartbeats 4000000

theorem info_rset : (Tryd.prog.info? 39).map (fun i => (i.zero, i.size, i.bytes)) = some (some (.agg (Se.cs ⟨0, 0⟩).toArray), 2, 16) := by kernel_rfl
def csS (l : List Se) : List Value := l.flatMap Se.cs
theorem csS_append (l m : List Se) : csS (l ++ m) = csS l ++ csS m := by simp [csS]
theorem csS_one (x : Se) : csS [x] = x.cs := by simp [csS]
theorem flat_at {α : Type} {cs : α → List Value} {m : Nat} (hm : ∀ x, (cs x).length = m) {x : α} {i : Nat} {v : Value} (hv : (cs x)[i]? = some v) : ∀ {l : List α} {k : Nat}, l[k]? = some x → (l.flatMap cs)[k * m + i]? = some v
  | [], k, h => by simp at h
  | r :: l, 0, h => by
    simp only [List.getElem?_cons_zero, Option.some.injEq] at h
    subst h
    rw [List.flatMap_cons, Nat.zero_mul, Nat.zero_add, List.getElem?_append_left (List.getElem?_eq_some_iff.1 hv).1]
    exact hv
  | r :: l, k + 1, h => by
    simp only [List.getElem?_cons_succ] at h
    have := flat_at hm hv h
    rw [List.flatMap_cons, List.getElem?_append_right (by rw [hm, Nat.add_mul]; omega), hm, ← this]
    congr 1
    rw [Nat.add_mul]
    omega
theorem st_own {w : World} {B n c : Nat} {A : Option Addr} {l : List Se} {e : TypeId} (h : w.ownsRow B e 2 (.slice A n c) n (csS l)) (hl : l.length = n) : StAt w A n l :=
  ⟨hl, fun i x hx => by
    have hi := (List.getElem?_eq_some_iff.1 hx).1
    obtain ⟨g, e, _, hg, hc⟩ := own_at h (by omega)
    refine ⟨g, 0, e, hg, fun j v hv => ?_⟩
    rw [Nat.zero_add]
    exact hc _ v (flat_at (cs := Se.cs) (m := 2) (fun _ => rfl) hv hx)⟩

theorem settings_any {w : World} {A : Option Addr} {n c : Nat} {l : List Se} (h : StAt w A n l) (hn : n ≤ 1000) :
    Calls Tryd.prog 9 #[.slice A n c] w fun e w' => ∃ A' c', e = .returned (.slice A' n c') ∧ StAt w' A' n l ∧ n ≤ c' ∧ c' ≤ 9223372036854775807 ∧ Only (fun _ => False) w w' := by
  have H := Lib.hid h
  obtain ⟨i, hi, hz, h1, h2⟩ := infoK info_rset
  have HI := Lib.hid hi
  have HZ := Lib.hid hz
  have HI1 := Lib.hid h1
  have HI2 := Lib.hid h2
  clear h hi hz h1 h2
  go_enter Tryd.func9, Tryd.ntmps9
  go_wp2
  have HB0 : Hid ((w.alloc (.cells #[] 39)).ownsRow w.heap.size 39 2 (.slice (some ⟨w.heap.size, 0, none⟩) (0 : Nat) 0) 0 (csS [])) := own_of_blk (cur := []) (Blk.new w _ []) rfl rfl (by omega) (by omega) (Nat.le_refl _)
  have HO0 : Hid (Only (fun _ => False) w (w.alloc (.cells #[] 39))) := (Only.refl _ _).alloc _
  generalize w.alloc (.cells #[] 39) = w0 at *
  go_loopw [3, 9] (fun a i W => ∃ (k : Nat) (B : Option Addr) (cb : Nat), k ≤ n ∧ a = .slice B k cb ∧ i = .int .i64 (k : Int) ∧ Hid (W.ownsRow w.heap.size 39 2 (.slice B k cb) k (csS (l.take k)) ∧ Only (fun _ => False) w W)) (fun _ i _ => n - (intOf i).toNat)
  case atStart => exact ⟨0, _, 0, Nat.zero_le _, rfl, rfl, HB0.out, HO0.out⟩
  case round =>
    obtain ⟨k, B, cb, hk, rfl, rfl, hrel⟩ := hrel
    by_cases hlt : k < n
    · have hlt2 : (k : Int) < (n : Int) := by omega
      obtain ⟨x, hx⟩ : ∃ x, l[k]? = some x := ⟨_, List.getElem?_eq_getElem (by rw [H.out.1]; omega)⟩
      obtain ⟨b, off, rfl, hbl, hrg⟩ := (H.out.same hrel.out.2).2 k x hx
      have HTk : Hid (csS (l.take (k + 1)) = csS (l.take k) ++ x.cs) := by
        show csS (l.take (k + 1)) = _
        rw [take_snoc hx, csS_append, csS_one]
      have HRg := Lib.hid hrg
      obtain ⟨xl, xv⟩ := x
      clear hx hrg
      go_wp2_with (first
        | ((with_reducible show wpList _ _ _ (⟨some 12, _, _, _, _, _⟩ :: _) _ _); refine wpList_load_mid rfl 32 _ rfl b (off + k * 2) rfl [.int .i64 xl, .int .i64 xv] _ HRg.out Tryd.underlying32 rfl size_set ?_)
        | ((with_reducible show wpList _ _ _ (⟨some 16, _, _, _, _, _⟩ :: _) _ _); refine step_append_own rfl (.tmp 13) (.tmp 15) 29 rfl w.heap.size 39 i _ 2 16 Tryd.underlying29 HI.out HZ.out HI1.out HI2.out rfl (by omega) (.slice B k cb) k (csS (l.take k)) rfl (own_same hrel.out.1 (((Only.refl _ _).alloc _).alloc _)) (some ⟨wr.heap.size + 1, 0, none⟩) 1 1 [.int .i64 xl, .int .i64 xv] rfl rfl (fun _ => ⟨_, rfl, fun j u hj => by rw [at_add]; exact ((Blk.new' _ _ [.int .i64 xl, .int .i64 xv] (by simp)).cell j).trans hj⟩) (Se.cs_one ⟨xl, xv⟩) (by omega) (by omega) (Nat.le_trans hrel.out.2.size (by simp; try omega)) ?_; intro A7 c7 w7 hq1 hq2 hq3; have HOw7 := Lib.hid hq3.out.1; have HOn7 : Hid (Only (fun _ => False) w w7) := Only.grown ((hrel.out.2.alloc _).alloc _) hq3.out.2.1 (fun k hk => .inr (own_lt hrel.out.1 k hk).1); clear hq1 hq2 hq3)
        | fail)
      go_roundw
      case rel => exact ⟨k + 1, A7, c7, by omega, rfl, by go_num, by rw [HTk.out]; exact HOw7.out, HOn7.out⟩
      case measure => simp [intOf]; omega
    · obtain rfl : k = n := by omega
      go_wp2
      go_ret
      have hl := H.out.1
      have ho := hrel.out.1
      rw [List.take_of_length_le (by omega)] at ho
      exact ⟨B, cb, rfl, st_own ho hl, (own_le ho).1, (own_le ho).2, hrel.out.2⟩
theorem zero_rside : (Tryd.prog.info? 55).map (fun i => (i.zero, i.size)) = some (some (.agg rf0.toArray), 95) := by kernel_rfl
theorem built_rside : Tryd.prog.built 55 [] = some rf0.toArray := by
  unfold Program.built
  have h := zero_rside
  cases hi : Tryd.prog.info? 55 with
  | none => rw [hi] at h; cases h
  | some i =>
    rw [hi] at h
    simp only [Option.map_some, Option.some.injEq, Prod.mk.injEq] at h
    simp only [Tryd.underlying55, h.1]
    rfl


theorem rzero_of_side (W : World) : (zeroValue 55).run Tryd.prog W = .ok (.agg rf0.toArray) W := by kernel_rfl
theorem rf0_ne : ¬ rf0 = [] := by decide
theorem rnew_any {w : World} {A : Option Addr} {n c : Nat} {l : List Se} (h : StAt w A n l) (hn : n ≤ c) (hc : c ≤ 9223372036854775807) :
    Calls Tryd.prog 8 #[.slice A n c] w fun e w' => ∃ p, e = .returned (.pointer (some ⟨p, 0, none⟩)) ∧ RfAt w' p (newS l) ∧ w.heap.size ≤ p ∧ Only (fun _ => False) w w' := by
  have H := Lib.hid h
  have HS := Lib.hid (fun W (x : Se) => rfine_any W x.l x.v)
  clear h
  obtain ⟨m, hm⟩ : ∃ m, m = min n 18 := ⟨_, rfl⟩
  have hmn : m ≤ n := by omega
  have hm18 : m ≤ 18 := by omega
  have HM := Lib.hid hm
  have HN : Hid (newTo l m = newS l) := newTo_all (l := l) (m := m) (by rw [H.out.1]; exact hm)
  have hzv := rzero_of_side
  have hzn := rf0_ne
  clear hm
  go_enter Tryd.func8, Tryd.ntmps8
  go_wp2_with (first
    | ((with_reducible show wpList _ _ _ (⟨some 5, _, _, _, _, _⟩ :: _) _ _); refine step_build rfl 55 _ rfl rf0 built_rside ?_)
    | ((with_reducible show wpList _ _ _ (⟨some 6, _, _, _, _, _⟩ :: _) _ _); refine step_box rfl 55 _ rfl rf0 rfl ?_)
    | fail)
  have HB0 : Hid (RfAt (w.alloc (.cells rf0.toArray 55)) w.heap.size (newTo l 0)) := ⟨rf0, Blk.new w _ rf0, rf0_c⟩
  have HO0 : Hid (Only (fun _ => False) w (w.alloc (.cells rf0.toArray 55))) := (Only.refl _ _).alloc _
  generalize w.alloc (.cells rf0.toArray 55) = w0 at *
  obtain ⟨q, hq⟩ : ∃ q, q = w.heap.size := ⟨_, rfl⟩
  rw [← hq] at HB0 ⊢
  have HQ := Lib.hid hq
  clear hq hzv hzn
  go_loopw [4] (fun i W => ∃ k : Nat, k ≤ m ∧ i = .int .i64 (k : Int) ∧ Hid (RfAt W q (newTo l k) ∧ Only (fun _ => False) w W)) (fun i _ => m - (intOf i).toNat)
  case atStart => exact ⟨0, Nat.zero_le _, rfl, HB0.out, HO0.out⟩
  case round =>
    obtain ⟨k, hk, rfl, hrel⟩ := hrel
    by_cases hlt : k < m
    · have hlt2 : (k : Int) < (n : Int) := by omega
      have hk18 : (k : Int) < 18 := by omega
      have hk18' : k < 18 := by omega
      obtain ⟨x, hx⟩ : ∃ x, l[k]? = some x := ⟨_, List.getElem?_eq_getElem (by rw [H.out.1]; omega)⟩
      obtain ⟨b, off, rfl, hbl, hrg⟩ := (H.out.same hrel.out.2).2 k x hx
      have HX := Lib.hid hx
      have HRg := Lib.hid hrg
      obtain ⟨xl, xv⟩ := x
      have HSx := Lib.hid (fun W => HS.out W ⟨xl, xv⟩)
      have HG : Hid (∀ g, Se.fine ⟨xl, xv⟩ = g → (g = false ∨ (g = true ∧ decide (xl < 3) = false) → holdOf ⟨xl, xv⟩ = ⟨0, 0⟩) ∧ (g = true → decide (xl < 3) = true → holdOf ⟨xl, xv⟩ = ⟨xl, xv⟩)) := by
        intro g hg
        unfold holdOf
        refine ⟨fun h => ?_, fun h h3 => ?_⟩
        · rw [if_neg]
          rintro ⟨h1, h2⟩
          rcases h with h | ⟨_, h⟩
          · rw [hg, h] at h1; cases h1
          · have := Se.l_of h1
            simp at h h2 this
            omega
        · rw [if_pos ⟨hg.trans h, by simp at h3 ⊢; omega⟩]
      obtain ⟨g, hg⟩ : ∃ g, Se.fine ⟨xl, xv⟩ = g := ⟨_, rfl⟩
      have HG1 := Lib.hid (HG.out g hg).1
      have HG2 := Lib.hid (HG.out g hg).2
      simp only at HSx
      rw [hg] at HSx
      have hM := hbl
      clear HG hx hrg hg hbl
      obtain ⟨d, hd⟩ : ∃ d, decide (xl < 3) = d := ⟨_, rfl⟩
      rw [hd] at HG1 HG2
      have hgd : (g = true ∧ d = true) ∨ g = false ∨ (g = true ∧ d = false) := by cases g <;> cases d <;> simp
      rcases hgd with ⟨rfl, rfl⟩ | hgd
      · have HH := Lib.hid (HG2.out rfl rfl)
        obtain ⟨⟨cs, hbs, hcs⟩, hon⟩ := hrel.out
        have HBs := Lib.hid hbs
        have HCs := Lib.hid hcs
        have HOn := Lib.hid hon
        have hqW := hbs.lt
        clear hbs hcs hon HG1 HG2 hrel
        go_wp2_with (first
          | ((with_reducible show wpList _ _ _ (⟨some 20, _, _, _, _, _⟩ :: _) _ _); refine wpList_load_mid rfl 39 _ rfl b (off + k * 2) rfl [.int .i64 xl, .int .i64 xv] _ HRg.out Tryd.underlying39 rfl size_rset ?_)
          | (go_at_call 27; refine (HSx.out _).mono ?_; rintro e w2 ⟨rfl, ho2⟩; have HO2 := Lib.hid ho2; have b0 : w2.cell? ⟨b, off + k * 2, none⟩ = some (.int .i64 xl) := ho2.cellv (HRg.out 0 _ rfl) (fun h => h); clear ho2)
          | fail)
        have HBs2 := Lib.hid (HBs.out.only HO2.out (fun h => h))
        have b1 : w2.cell? ⟨b, off + k * 2 + 1, none⟩ = some (.int .i64 xv) := HO2.out.cellv (HRg.out 1 _ rfl) (fun h => h)
        have c2 : w2.cell? ⟨q, 38 + (k + 1) * 2, none⟩ = some (.int .i64 (newTo l k k).holds.l) := (HBs2.out.cell _).trans (HCs.out.holl k hk18')
        have c3 : w2.cell? ⟨q, 38 + (k + 1) * 2 + 1, none⟩ = some (.int .i64 (newTo l k k).holds.v) := (HBs2.out.cell _).trans (HCs.out.holv k hk18')
        have f2 := HBs2.out.frozen (38 + (k + 1) * 2)
        have f3 := HBs2.out.frozen (38 + (k + 1) * 2 + 1)
        have hk19 : (k : Int) + 1 < 19 := by omega
        go_region
        have HB9 : Hid (RfAt (((w2.setCell ⟨q, 38 + (k + 1) * 2, none⟩ (.int .i64 xl)).setCell ⟨q, 38 + (k + 1) * 2 + 1, none⟩ (.int .i64 xv)).drew) q (newTo l (k + 1))) := ⟨_, ((HBs2.out.setCell (38 + (k + 1) * 2) _).setCell (38 + (k + 1) * 2 + 1) _).drew, by
          rw [newTo_succ HX.out, HH.out]
          exact HCs.out.setHolds hk18' ⟨xl, xv⟩⟩
        have HO9 : Hid (Only (fun _ => False) w (((w2.setCell ⟨q, 38 + (k + 1) * 2, none⟩ (.int .i64 xl)).setCell ⟨q, 38 + (k + 1) * 2 + 1, none⟩ (.int .i64 xv)).drew)) := (((HOn.out.trans HO2.out (fun _ h => h.elim)).setCell (p := ⟨q, 38 + (k + 1) * 2, none⟩) (.inr (by have := HQ.out; show w.heap.size ≤ q; omega)) _).setCell (p := ⟨q, 38 + (k + 1) * 2 + 1, none⟩) (.inr (by have := HQ.out; show w.heap.size ≤ q; omega)) _).drew
        clear c2 c3 f2 f3 b0 b1
        generalize (((w2.setCell ⟨q, 38 + (k + 1) * 2, none⟩ (.int .i64 xl)).setCell ⟨q, 38 + (k + 1) * 2 + 1, none⟩ (.int .i64 xv)).drew) = w9 at *
        go_wp2
        go_roundw
        case rel => exact ⟨k + 1, by omega, by go_num, HB9.out, HO9.out⟩
        case measure => simp [intOf]; omega
      · have hh : holdOf ⟨xl, xv⟩ = ⟨0, 0⟩ := HG1.out hgd
        have HT := Lib.hid (newTo_skip HX.out hh)
        clear hh HG1 HG2
        rcases hgd with rfl | ⟨rfl, rfl⟩
        all_goals
          go_wp2_with (first
            | ((with_reducible show wpList _ _ _ (⟨some 20, _, _, _, _, _⟩ :: _) _ _); refine wpList_load_mid rfl 39 _ rfl b (off + k * 2) rfl [.int .i64 xl, .int .i64 xv] _ HRg.out Tryd.underlying39 rfl size_rset ?_)
            | (go_at_call 27; refine (HSx.out _).mono ?_; rintro e w2 ⟨rfl, ho2⟩; have HO2 := Lib.hid ho2; have b0 : w2.cell? ⟨b, off + k * 2, none⟩ = some (.int .i64 xl) := ho2.cellv (HRg.out 0 _ rfl) (fun h => h); clear ho2)
            | fail)
          go_roundw
          case rel => exact ⟨k + 1, by omega, by go_num, by rw [HT.out]; exact hrel.out.1.same HO2.out, hrel.out.2.trans HO2.out (fun _ h => h.elim)⟩
          case measure => simp [intOf]; omega
    · obtain rfl : k = m := by omega
      have HN' := HN.out
      have hM := HM.out
      clear hlt HM HN
      have hend : k = n ∨ (k = 18 ∧ 18 < n) := by omega
      rcases hend with rfl | ⟨rfl, h18⟩
      · have HN := Lib.hid HN'
        clear HN' hM
        go_wp2
        go_ret
        exact ⟨q, rfl, by rw [← HN.out]; exact hrel.out.1, by rw [HQ.out]; exact Nat.le_refl _, hrel.out.2⟩
      · have HN := Lib.hid HN'
        have h18' : (18 : Int) < (n : Int) := by omega
        clear HN' hM
        go_wp2
        go_ret
        exact ⟨q, rfl, by rw [← HN.out]; exact hrel.out.1, by rw [HQ.out]; exact Nat.le_refl _, hrel.out.2⟩
end Go.Proofs.YtojnhheeholaeaaDoor
