/- The document's own ring (package truchmanref01): one contract for each of its calls. -/
import Derived.Test.YtolengbnoenkiaaDoorNum
import Derived.Test.YtolengbnoenkiaaDoorActs
namespace Go.Proofs.YtolengbnoenkiaaDoor
open Go Go.RowKit

/-- Block m is the document's ring: all that ever came, and how much of it went. -/
structure IsRef (W : World) (m most : Nat) (all : List UInt8) (went : Nat) : Prop where
  head : Blk W m 33 [.int .i64 (most : Int), .string ⟨all.toArray⟩, .int .i64 (went : Int)]
  back : went ≤ all.length
  far : all.length ≤ 1048576
  top : most ≤ 4096
  fits : all.length ≤ went + most

section
variable {W W' : World} {m most went : Nat} {all : List UInt8}
theorem IsRef.only {S : Nat → Prop} (h : IsRef W m most all went) (ho : Only S W W') (hS : ¬ S m) : IsRef W' m most all went := ⟨h.head.only ho hS, h.back, h.far, h.top, h.fits⟩
theorem IsRef.c0 (h : IsRef W m most all went) : W.cell? ⟨m, 0, none⟩ = some (.int .i64 (most : Int)) := by rw [h.head.cell 0]; rfl
theorem IsRef.c1 (h : IsRef W m most all went) : W.cell? ⟨m, 1, none⟩ = some (.string ⟨all.toArray⟩) := by rw [h.head.cell 1]; rfl
theorem IsRef.c2 (h : IsRef W m most all went) : W.cell? ⟨m, 2, none⟩ = some (.int .i64 (went : Int)) := by rw [h.head.cell 2]; rfl
end

theorem text_from (l : List UInt8) (k : Nat) : (ByteArray.mk l.toArray).extract k l.length = ByteArray.mk (l.drop k).toArray := by
  rw [ByteArray.extract_mk]
  congr 2
  exact List.take_of_length_le (by simp)

theorem first_all (all : List UInt8) (went k : Nat) (h : k = all.length - went) : first all went k = all.drop went := by
  unfold first
  exact List.take_of_length_le (by rw [List.length_drop]; omega)

theorem refPeek {W : World} {m most went : Nat} {all : List UInt8} (h : IsRef W m most all went) (n : Int) :
    Calls Tryd.prog 15 #[.pointer (some ⟨m, 0, none⟩), .int .i64 n] W fun e w' =>
      e = .returned (.string ⟨(first all went (asked n (all.length - went))).toArray⟩) ∧ ∃ q, w' = W.drewN q := by
  have c1 := h.c1
  have c2 := h.c2
  have hb := h.back
  have hf := h.far
  have hbi : (went : Int) ≤ (all.length : Int) := by omega
  clear h
  have hcases : n < 0 ∨ (0 ≤ n ∧ n < ((all.length - went : Nat) : Int)) ∨ (0 ≤ n ∧ ((all.length - went : Nat) : Int) ≤ n) := by omega
  rcases hcases with hn | ⟨h0, hn⟩ | ⟨h0, hn⟩
  all_goals
    go_enter Tryd.func15, Tryd.ntmps15
    go_wp2_with fail
    go_quiet (fail)
    go_wp2
  all_goals
    go_ret
    refine ⟨congrArg (fun b => Ending.returned (Value.string b)) ?_, _, rfl⟩
    first
      | (rw [text_from, first_all _ _ _ (by unfold asked; omega)]; done)
      | (rw [text_from, ByteArray.extract_mk, show asked n (all.length - went) = n.toNat from by unfold asked; omega]; simp [first]; done)
      | (rw [show asked n (all.length - went) = 0 from by unfold asked; omega, first_zero]; rfl)

theorem refDrop {W : World} {m most went : Nat} {all : List UInt8} (h : IsRef W m most all went) (n : Int) :
    Calls Tryd.prog 16 #[.pointer (some ⟨m, 0, none⟩), .int .i64 n] W fun e w' =>
      e = .returned (.int .i64 ((asked n (all.length - went) : Nat) : Int)) ∧ IsRef w' m most all (went + asked n (all.length - went)) ∧ Only (· = m) W w' := by
  have C := refPeek h n
  have hle := asked_le n (all.length - went)
  have hlen := length_first all went (asked n (all.length - went)) (by have := h.back; omega)
  generalize asked n (all.length - went) = k at *
  obtain ⟨t, ht⟩ : ∃ t, t = first all went k := ⟨_, rfl⟩
  rw [← ht] at C hlen
  have hb := h.back
  have hf := h.far
  have HC := Lib.hid C
  have hIs := Lib.hid h
  have HL := Lib.hid hlen
  have hkk : (t.length : Int) ≤ 1048576 := by omega
  have c2 := h.c2
  have hfz := h.head.frozen 2
  clear C h ht hlen
  go_enter Tryd.func16, Tryd.ntmps16
  go_wp2_with (go_at_call 15; refine HC.out.mono ?_; rintro e w' ⟨rfl, q, rfl⟩)
  go_ret
  have h := hIs.out
  have hl := HL.out
  subst hl
  refine ⟨rfl, ⟨?_, by omega, hf, h.top, by have := h.fits; omega⟩, ((Only.refl (· = m) W).drewN q).setCell (p := ⟨m, 2, none⟩) (.inl rfl) _⟩
  have := (h.head.drewN q).setCell 2 (.int .i64 ((went : Int) + (t.length : Int)))
  rw [show ((went + t.length : Nat) : Int) = (went : Int) + (t.length : Int) from by omega]
  exact this

set_option maxHeartbeats 1000000 in
theorem refPut {W : World} {m most went : Nat} {all : List UInt8} (h : IsRef W m most all went) (bs : List UInt8) (hl : bs.length ≤ 100) (hfar : all.length + bs.length ≤ 1048576) :
    Calls Tryd.prog 12 #[.pointer (some ⟨m, 0, none⟩), .string ⟨bs.toArray⟩] W fun e w' =>
      e = .returned (.int .i64 ((fitting bs.length most (all.length - went) : Nat) : Int)) ∧ IsRef w' m most (all ++ bs.take (fitting bs.length most (all.length - went))) went ∧ Only (· = m) W w' := by
  go_enter Tryd.func12, Tryd.ntmps12
  go_wp2_with fail
  go_loopw [5] (fun i w => ∃ k : Nat, k ≤ bs.length ∧ i = .int .i64 (k : Int) ∧ Hid (IsRef w m most (all ++ bs.take k) went ∧ Only (· = m) W w)) (fun i _ => bs.length - (intOf i).toNat)
  case atStart => exact ⟨0, Nat.zero_le _, rfl, by rw [List.take_zero, List.append_nil]; exact h, Only.refl _ _⟩
  case round =>
    obtain ⟨k, hk, rfl, hrel⟩ := hrel
    obtain ⟨hr, ho⟩ := hrel.out
    have HR := Lib.hid hr
    have HO := Lib.hid ho
    have c0 := hr.c0
    have c1 := hr.c1
    have c2 := hr.c2
    have hfz := hr.head.frozen 1
    have hb := hr.back
    have hf := hr.far
    have ht := hr.top
    have hx := hr.fits
    have hal : (all ++ bs.take k).length = all.length + k := by rw [List.length_append, List.length_take]; omega
    generalize hat : all ++ bs.take k = alt at *
    have hlk : alt.length = all.length + k := hal
    have Hal := Lib.hid hlk
    have Hat := Lib.hid hat
    have hbk := h.back
    have hfits := h.fits
    clear hrel hr ho hal hlk hat
    by_cases h1 : k < bs.length
    · have b1 : decide ((k : Int) < (bs.length : Int)) = true := by simp; omega
      by_cases h2 : alt.length - went < most
      · have b2 : decide ((alt.length : Int) - (went : Int) < (most : Int)) = true := by simp; omega
        go_wp2_with fail
        go_quiet (fail)
        go_wp2_with fail
        obtain ⟨x, hxk⟩ : ∃ x, bs[k]? = some x := ⟨_, List.getElem?_eq_getElem h1⟩
        obtain ⟨bx, hbx⟩ : ∃ bx, bx = ByteArray.mk [x].toArray := ⟨_, rfl⟩
        obtain ⟨alt', halt'⟩ : ∃ alt', alt' = alt ++ [x] := ⟨_, rfl⟩
        have hex : (ByteArray.mk bs.toArray).extract k (k + 1) = bx := by
          rw [ByteArray.extract_mk, hbx, Nat.add_sub_cancel_left, List.drop_eq_getElem_cons h1, (List.getElem?_eq_some_iff.1 hxk).2]
          rfl
        have hsum : ∀ w, (Op.stringOp .add (ByteArray.mk alt.toArray) bx).run Tryd.prog w = .ok (.string (ByteArray.mk alt'.toArray)) w := fun w => by
          rw [hbx]
          exact add_texts _ _ _ halt'.symm (by simp; omega)
        have Halt := Lib.hid (show alt' = all ++ bs.take (k + 1) by rw [halt', ← Hat.out, List.take_add_one, hxk, List.append_assoc]; rfl)
        have Hl' := Lib.hid (show alt'.length = alt.length + 1 by rw [halt']; simp)
        have ew : IntKind.i64.wrap ((k : Int) + 1) = (k : Int) + 1 := IntWalk.i64_in _ (by omega)
        have ez : ((k : Int) + 1).toNat = k + 1 := by omega
        have e0 : (0 : Int) ≤ (k : Int) + 1 := by omega
        have e1 : (k : Int) ≤ (k : Int) + 1 := by omega
        have e2 : (k : Int) + 1 ≤ (bs.length : Int) := by omega
        clear hxk hbx halt'
        refine region_tail 12 (by kernel_rfl) (by kernel_rfl) ?_
        simp only [List.take_succ_cons, List.take_zero, List.drop_succ_cons, List.drop_zero]
        repeat still_step
        refine wpStill_nil ?_
        go_wp2
        go_roundw
        case rel =>
          refine ⟨k + 1, by omega, by go_num, ?_⟩
          have hl1 := Hl'.out
          have hl2 := Hal.out
          have hh := (HR.out.head.drewN (nq + 1)).setCell 1 (.string ⟨alt'.toArray⟩)
          rw [← Halt.out]
          exact ⟨⟨hh, by omega, by omega, ht, by omega⟩, (HO.out.drewN (nq + 1)).setCell (p := ⟨m, 1, none⟩) (.inl rfl) _⟩
        case measure => simp [intOf]; omega
      · have b2 : decide ((alt.length : Int) - (went : Int) < (most : Int)) = false := by simp; omega
        go_wp2_with fail
        go_quiet (fail)
        go_wp2
        go_ret
        have hl' := Hal.out
        have hkk : fitting bs.length most (all.length - went) = k := by unfold fitting; omega
        rw [hkk]
        have HR' := HR.out
        rw [← Hat.out] at HR'
        exact ⟨rfl, ⟨HR'.head, HR'.back, HR'.far, HR'.top, HR'.fits⟩, HO.out.drewN _⟩
    · have b1 : decide ((k : Int) < (bs.length : Int)) = false := by simp; omega
      go_wp2_with fail
      go_quiet (fail)
      go_wp2
      go_ret
      have hl' := Hal.out
      have hkk : fitting bs.length most (all.length - went) = k := by unfold fitting; omega
      rw [hkk]
      have HR' := HR.out
      rw [← Hat.out] at HR'
      exact ⟨rfl, ⟨HR'.head, HR'.back, HR'.far, HR'.top, HR'.fits⟩, HO.out.drewN _⟩
end Go.Proofs.YtolengbnoenkiaaDoor
