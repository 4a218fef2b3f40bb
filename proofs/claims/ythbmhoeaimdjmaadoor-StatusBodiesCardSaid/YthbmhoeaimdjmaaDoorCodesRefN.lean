/- The document's own words of layer 4: a command's word, an option's name. -/
import Derived.Test.YthbmhoeaimdjmaaDoorFigures
import Derived.Test.YthbmhoeaimdjmaaDoorCodesSay
import Derived.Test.YthbmhoeaimdjmaaDoorTabs
namespace Go.Proofs.YthbmhoeaimdjmaaDoor
open Go Go.RowKit

/-- Texts, one a cell. -/
def textCells (ws : List (List UInt8)) : List Value := ws.map fun s => .string ⟨s.toArray⟩
theorem textsAt_of {W : World} {g : Nat} {t : TypeId} {ws : List (List UInt8)} (h : Blk W g t (textCells ws)) : TextsAt W g ws := fun i s hs => by
  rw [h.cell i, textCells, List.getElem?_map, hs]
  rfl

theorem rWords (W : World) : Calls Tryd.prog 57 #[] W fun e w' => ∃ N, e = .returned (.slice (some ⟨N, 0, none⟩) 16 16) ∧ W.heap.size ≤ N ∧ Blk w' N 9 (textCells cmdWords) ∧ Only (fun _ => False) W w' := by
  go_enter Tryd.func57, Tryd.ntmps57
  go_wp2
  go_ret
  exact ⟨_, rfl, Nat.le_refl _, Blk.new W 9 (textCells cmdWords), (Only.refl _ _).alloc _⟩

theorem rWord (W : World) (c : Int) : Calls Tryd.prog 32 #[.int .i64 c] W fun e w' => e = .returned (.string ⟨(wordOf c).toArray⟩) ∧ Only (fun _ => False) W w' := by
  go_enter Tryd.func32, Tryd.ntmps32
  go_wp2_with (go_at_call 57; refine (rWords _).mono ?_; rintro e w1 ⟨N, rfl, hN, hb, ho⟩)
  have ht := textsAt_of hb
  go_loopw [7] (fun i w => ∃ k : Nat, k ≤ 16 ∧ i = .int .i64 (k : Int) ∧ (∀ j : Nat, j < k → (j : Int) + 240 ≠ c) ∧ w = w1) (fun i _ => 16 - (intOf i).toNat)
  case atStart => exact ⟨0, Nat.zero_le _, rfl, (fun j hj => absurd hj (by omega)), rfl⟩
  case round =>
    obtain ⟨k, hk, rfl, hno, rfl⟩ := hrel
    by_cases hlt : k < 16
    · obtain ⟨x, hx⟩ : ∃ x, cmdWords[k]? = some x := ⟨_, List.getElem?_eq_getElem (by exact hlt)⟩
      have hcell := ht k x hx
      have HX := Lib.hid hx
      have HT := Lib.hid ht
      have HN := Lib.hid hno
      clear ht hx hb hno
      by_cases he : (k : Int) + 240 = c
      · have hbe : ((k : Int) + 240 == c) = true := by simpa using he
        have HE := Lib.hid he
        clear he
        go_wp2
        go_ret
        have e : wordOf c = x := by
          rw [← HE.out]
          unfold wordOf
          rw [if_pos (by omega), show ((k : Int) + 240 - 240).toNat = k by omega]
          simp [List.getD, HX.out]
        rw [e]
        exact ⟨rfl, ho⟩
      · have hbe : ((k : Int) + 240 == c) = false := by simpa using he
        have HE := Lib.hid he
        clear he
        go_wp2
        go_roundw
        case rel =>
          refine ⟨k + 1, by omega, by go_num, fun j hj => ?_, trivial⟩
          rcases Nat.lt_or_ge j k with h1 | h1
          · exact HN.out j h1
          · obtain rfl : j = k := by omega
            exact HE.out
        case measure => simp [intOf]; omega
    · have HN := Lib.hid hno
      clear hno
      go_wp2
      go_ret
      have e : wordOf c = [] := by
        unfold wordOf
        rw [if_neg]
        intro h
        exact HN.out (c - 240).toNat (by omega) (by omega)
      rw [e]
      exact ⟨rfl, ho⟩

/-- The options that have a word, and these. -/
def optNums : List Nat := [0, 1, 3, 5, 6, 24, 31, 34]
theorem no_word : ∀ n : Fin 256, n.val ∉ optNums → optWords.getD n.val [] = [] := by decide +kernel

set_option maxHeartbeats 1000000 in
theorem rName (W : World) (c : Int) : Calls Tryd.prog 33 #[.int .i64 c] W fun e w' => e = .returned (.string ⟨(nameOf c).toArray⟩) ∧ Only (fun _ => False) W w' := by
  by_cases hc : 0 ≤ c ∧ c ≤ 255
  · obtain ⟨n, rfl⟩ : ∃ n : Nat, c = n := ⟨c.toNat, by omega⟩
    have hn : n ≤ 255 := by omega
    have hb1 : decide ((n : Int) < 0) = false := by simp
    have hb2 : decide (255 < (n : Int)) = false := by simp; omega
    clear hc
    go_enter Tryd.func33, Tryd.ntmps33
    go_wp2
    go_loopw [13] (fun i w => ∃ k : Nat, k ≤ 8 ∧ i = .int .i64 (k : Int) ∧ Hid (∀ j : Nat, j < k → optNums.getD j 0 ≠ n) ∧ Hid (Blk w W.heap.size 3 (optNums.map fun (m : Nat) => .int .i64 (m : Int))) ∧ Only (fun _ => False) W w) (fun i _ => 8 - (intOf i).toNat)
    case atStart => exact ⟨0, Nat.zero_le _, rfl, (fun j hj => absurd hj (by omega)), Blk.new W 3 (optNums.map fun (m : Nat) => .int .i64 (m : Int)), (Only.refl _ _).alloc _⟩
    case round =>
      obtain ⟨k, hk, rfl, hno, hb, ho⟩ := hrel
      by_cases hlt : k < 8
      · obtain ⟨m, hm⟩ : ∃ m, optNums[k]? = some m := ⟨_, List.getElem?_eq_getElem (by exact hlt)⟩
        have hcell : wr.cell? ⟨W.heap.size, k, none⟩ = some (.int .i64 (m : Int)) := by rw [hb.out.cell k, List.getElem?_map, hm]; rfl
        by_cases he : m = n
        · subst he
          have hbe : ((m : Int) == (m : Int)) = true := by simp
          have hk8 : k = 0 ∨ k = 1 ∨ k = 2 ∨ k = 3 ∨ k = 4 ∨ k = 5 ∨ k = 6 ∨ k = 7 := by omega
          rcases hk8 with rfl | rfl | rfl | rfl | rfl | rfl | rfl | rfl
          all_goals
            simp only [optNums, List.getElem?_cons_zero, List.getElem?_cons_succ, Option.some.injEq] at hm
            subst hm
            go_wp2
            go_ret
            exact ⟨rfl, ho.alloc _⟩
        · have hbe : ((m : Int) == (n : Int)) = false := by simp; omega
          have HE := Lib.hid he
          have HM := Lib.hid hm
          clear he hm
          go_wp2
          go_roundw
          case rel =>
            refine ⟨k + 1, by omega, by go_num, fun j hj => ?_, hb, ho⟩
            rcases Nat.lt_or_ge j k with h1 | h1
            · exact hno.out j h1
            · obtain rfl : j = k := by omega
              simpa [List.getD, HM.out] using HE.out
          case measure => simp [intOf]; omega
      · have ea : nameOf (n : Int) = Lib.itoa n := by
          unfold nameOf nameAt
          rw [if_pos (by omega), Int.toNat_natCast, no_word ⟨n, by omega⟩ (by
            intro h
            obtain ⟨j, hj, e⟩ := List.getElem_of_mem h
            refine hno.out j (by have : j < 8 := hj; omega) ?_
            simpa [List.getD, List.getElem?_eq_getElem hj] using e), if_pos rfl]
        have EA := Lib.hid ea
        clear ea
        go_wp2_with (go_at_call 58; refine (figuresOf_any _ _ (by omega) (by omega)).mono ?_; rintro e w' ⟨rfl, rfl⟩)
        go_ret
        rw [EA.out]
        exact ⟨rfl, ho⟩
  · have en : nameOf c = [] := by unfold nameOf; rw [if_neg hc]
    rw [en]
    clear en
    by_cases h1 : c < 0
    · go_enter Tryd.func33, Tryd.ntmps33
      go_wp2
      go_ret
      exact ⟨rfl, Only.refl _ _⟩
    · have h2 : 255 < c := by omega
      go_enter Tryd.func33, Tryd.ntmps33
      go_wp2
      go_ret
      exact ⟨rfl, Only.refl _ _⟩
end Go.Proofs.YthbmhoeaimdjmaaDoor
