/- Package iac: Word; the chapter's example of layer 5, as its statements ask it first, comes out as told. -/
import Derived.Test.YtpkmndhefadopaaIacSame
namespace Go.Proofs.Ytpkmndhefadopaa
open Go Go.RowKit
set_option maxRecDepth 100000
set_option maxHeartbeats 1000000

def wordOf (z : Int) : List UInt8 := if z = 1 then [100, 97, 116, 97] else if z = 2 then [112, 108, 97, 105, 110] else if z = 3 then [118, 101, 114, 98] else if z = 4 then [115, 117, 98] else if z = 5 then [98, 97, 100] else []
theorem word_any (W : World) (z : Int) : Calls Try.prog 18 #[.int .i64 z] W fun e w' => e = .returned (.string ⟨(wordOf z).toArray⟩) ∧ w' = W := by
  by_cases h1 : z = 1
  · subst h1
    go_enter Try.func18, Try.ntmps18
    go_wp2
    go_ret
    exact ⟨rfl, rfl⟩
  · by_cases h2 : z = 2
    · subst h2
      go_enter Try.func18, Try.ntmps18
      go_wp2
      go_ret
      exact ⟨rfl, rfl⟩
    · by_cases h3 : z = 3
      · subst h3
        go_enter Try.func18, Try.ntmps18
        go_wp2
        go_ret
        exact ⟨rfl, rfl⟩
      · by_cases h4 : z = 4
        · subst h4
          go_enter Try.func18, Try.ntmps18
          go_wp2
          go_ret
          exact ⟨rfl, rfl⟩
        · by_cases h5 : z = 5
          · subst h5
            go_enter Try.func18, Try.ntmps18
            go_wp2
            go_ret
            exact ⟨rfl, rfl⟩
          · have e : wordOf z = [] := by simp [wordOf, h1, h2, h3, h4, h5]
            rw [e]
            have d1 : (z == 1) = false := by simpa using h1
            have d2 : (z == 2) = false := by simpa using h2
            have d3 : (z == 3) = false := by simpa using h3
            have d4 : (z == 4) = false := by simpa using h4
            have d5 : (z == 5) = false := by simpa using h5
            clear e h1 h2 h3 h4 h5
            go_enter Try.func18, Try.ntmps18
            go_wp2
            go_ret
            exact ⟨rfl, rfl⟩

theorem feeds_example : feeds .zero [255, 253, 1] = ([⟨3, 253, 1, [], false⟩], .zero) := by decide +kernel

theorem alive_any (W : World) : Calls Try.prog 7 #[] W fun e w' => e = .returned (.bool true) ∧ Only (fun _ => False) W w' := by
  have HA : Hid (Calls Try.prog 9 #[.slice (some ⟨W.heap.size, 0, none⟩) 3 3] (W.alloc (.cells #[.int .u8 255, .int .u8 253, .int .u8 1] 5)) fun e w' =>
      ∃ g c, e = .returned (.tuple #[.slice (some ⟨g, 0, none⟩) 1 c, .bool true]) ∧ w'.cell? ⟨g, 0, none⟩ = some (.int .i64 3) ∧ w'.cell? ⟨g, 1, none⟩ = some (.int .i64 253) ∧ w'.cell? ⟨g, 2, none⟩ = some (.int .i64 1) ∧ 1 ≤ c ∧ c ≤ 9223372036854775807 ∧ Only (fun _ => False) W w') := by
    refine (all_any (xs := [255, 253, 1]) (src_new W [255, 253, 1] _ _ _ 3 rfl rfl) (by omega) (by omega) (by omega)).mono ?_
    rintro e w' ⟨v, ps, rfl, ht, hm, ho⟩
    rw [feeds_example] at hm
    obtain ⟨x, rfl⟩ : ∃ x, ps = [x] := List.length_eq_one_iff.1 (by simpa using congrArg List.length hm)
    obtain ⟨A, c, rfl, h1, h2⟩ := ht.form
    obtain ⟨g, rfl, _, _, hr, _⟩ := ht.at_ (i := 0) (x := x) rfl
    have hx : x.t = ⟨3, 253, 1, [], false⟩ := by simpa using hm
    have r0 := hr 0 (.int .i64 3) (by simp [TkP.cells, tkCells, hx])
    have r1 := hr 1 (.int .i64 253) (by simp [TkP.cells, tkCells, hx])
    have r2 := hr 2 (.int .i64 1) (by simp [TkP.cells, tkCells, hx])
    exact ⟨g, c, by rw [feeds_example]; rfl, r0, r1, r2, h1, h2, ((Only.refl _ W).alloc _).trans ho (fun _ h => h.elim)⟩
  have HW := Lib.hid (fun w => word_any w 4)
  go_enter Try.func7, Try.ntmps7
  go_wp2_with (first
    | (go_at_call 9; refine HA.out.mono ?_; rintro e w' ⟨g, c, rfl, r0, r1, r2, hc1, hc2, ho⟩)
    | (go_at_call 18; refine (HW.out _).mono ?_; rintro e w2 ⟨rfl, rfl⟩))
  go_ret
  exact ⟨rfl, ho⟩
end Go.Proofs.Ytpkmndhefadopaa
