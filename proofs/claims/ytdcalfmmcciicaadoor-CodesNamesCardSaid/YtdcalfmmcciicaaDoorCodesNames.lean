/- CodesNames: every option's name, and which option every text names. -/
import Derived.Test.YtdcalfmmcciicaaDoorCodesAlive
import Derived.Test.YtdcalfmmcciicaaDoorCodesRef
namespace Go.Proofs.YtdcalfmmcciicaaDoor
open Go Go.RowKit

/-- What CodesNames' calls read at package level. -/
structure NamesAt (W : World) : Prop where
  ow : TextsAt W 1 optWords
  pow : Pow W
  syn : ErrAt Tryd.prog W "strconv.ErrSyntax"
  rng : ErrAt Tryd.prog W "strconv.ErrRange"
theorem NamesAt.only {W W' : World} (h : NamesAt W) (ho : Only (fun _ => False) W W') : NamesAt W' := ⟨h.ow.only ho, h.pow.only ho, h.syn.only ho, h.rng.only ho⟩

theorem codesNames_walk (W : World) (c : Int) (hc : -9223372036854775808 ≤ c ∧ c ≤ 9223372036854775807) (s : List UInt8) (h : NamesAt W) :
    Calls Tryd.prog 4 #[.int .i64 c, .string ⟨s.toArray⟩] W (Fine W) := by
  have hal := Lib.hid (alive_any h.ow h.pow)
  rcases Nat.lt_or_ge 100 s.length with hl | hl
  · clear h
    go_enter Tryd.func4, Tryd.ntmps4
    go_wp2_with (go_at_call 6; refine hal.out.mono ?_; rintro e w1 ⟨rfl, ho1⟩)
    go_ret
    exact ⟨rfl, ho1⟩
  · obtain ⟨N, hN⟩ : ∃ N, nameOf c = N := ⟨_, rfl⟩
    have op := fun w (ho : Only (fun _ => False) W w) => option_any (h.ow.only ho) (h.pow.only ho) (h.syn.only ho) (h.rng.only ho) s hl
    have op' := fun w => rOption w s
    have nm : Hid (∀ w, Only (fun _ => False) W w → Calls Tryd.prog 19 #[.int .i64 c] w fun e w' => e = .returned (.string ⟨N.toArray⟩) ∧ Only (fun _ => False) W w') := fun w ho => by
      rw [← hN]
      exact (name_any (h.ow.only ho) (h.pow.only ho) c hc.1 hc.2).mono fun e w' ⟨he, hw⟩ => ⟨he, ho.trans hw (fun _ h => h.elim)⟩
    have nm' : Hid (∀ w, Only (fun _ => False) W w → Calls Tryd.prog 20 #[.int .i64 c] w fun e w' => e = .returned (.string ⟨N.toArray⟩) ∧ Only (fun _ => False) W w') := fun w ho => by
      rw [← hN]
      exact (rName w c).mono fun e w' ⟨he, hw⟩ => ⟨he, ho.trans hw (fun _ h => h.elim)⟩
    have hb : (N == N) = true := by simp
    clear hN hc h
    have key : ∀ (n w : Int) (b : Bool), (∀ W', Only (fun _ => False) W W' → Calls Tryd.prog 17 #[.string ⟨s.toArray⟩] W' fun e w' => e = .returned (.tuple #[.int .i64 n, .bool b]) ∧ Only (fun _ => False) W' w') →
        (∀ W', Calls Tryd.prog 18 #[.string ⟨s.toArray⟩] W' fun e w' => e = .returned (.int .i64 w) ∧ Only (fun _ => False) W' w') → ((b = true ∧ n = w ∧ 0 ≤ w ∧ w ≤ 255) ∨ (b = false ∧ n = 0 ∧ w = -1)) →
        Calls Tryd.prog 4 #[.int .i64 c, .string ⟨s.toArray⟩] W (Fine W) := by
      intro n w b ho hr hk
      have HO := Lib.hid ho
      have HR := Lib.hid hr
      clear ho hr op op'
      rcases hk with ⟨rfl, rfl, h0, h1⟩ | ⟨rfl, rfl, rfl⟩
      all_goals
        try have e1 : max n 0 = n := by omega
        try have e2 : (n == n) = true := by simp
        go_enter Tryd.func4, Tryd.ntmps4
        go_wp2_with (first
          | (go_at_call 6; refine hal.out.mono ?_; rintro e w1 ⟨rfl, ho1⟩)
          | (go_at_call 17; refine (HO.out _ (by assumption)).mono ?_; rintro e w2 ⟨rfl, ho2⟩)
          | (go_at_call 18; refine (HR.out _).mono ?_; rintro e w3 ⟨rfl, ho3⟩)
          | (go_at_call 19; refine (nm.out _ ((ho1.trans ho2 (fun _ h => h.elim)).trans ho3 (fun _ h => h.elim))).mono ?_; rintro e w4 ⟨rfl, ho4⟩)
          | (go_at_call 20; refine (nm'.out _ (by assumption)).mono ?_; rintro e w5 ⟨rfl, ho5⟩))
        go_ret
        exact ⟨rfl, ho5⟩
    refine key _ _ _ op op' ?_
    cases ho : optAt s with
    | none => exact .inr ⟨rfl, rfl, rfl⟩
    | some k =>
      have := ((optAt_iff s k).1 ho).1
      exact .inl ⟨rfl, rfl, by show (0 : Int) ≤ (k : Int); omega, by show (k : Int) ≤ 255; omega⟩

/-- What the row lists gives what the calls read. -/
theorem codesNames_facts {W : World} (h : laidMetH Tryd.prog Rows.codesNamesRow.laid W) : NamesAt W := by
  rw [MakeChecks.laidMetH_plain _ _ _ (by kernel_rfl)] at h
  have h : laidMet Tryd.prog Rows.codesNamesRow.laid W := h
  refine ⟨?_, ?_, ?_, ?_⟩
  · exact texts_of h (n := "truchman/codes.optionWords") (ws := optWords) (by simp [Rows.codesNamesRow, Rows.laid_truchman_codes_optionWords, texts, optWords]) (by kernel_rfl) (by kernel_rfl) Tryd.underlying36 Tryd.underlying9 (by kernel_rfl)
  · exact tab_of h (g := 4) (n := "internal/strconv.uint64pow10") (by simp [Rows.codesNamesRow, Rows.laid_internal_strconv_uint64pow10, Lib.tabData, Lib.pow10Tab]; rfl) (by kernel_rfl) (by kernel_rfl) Tryd.underlying66 Tryd.underlying52 (by kernel_rfl) (by kernel_rfl)
  · exact err_of h (g := 2) (n := "strconv.ErrSyntax") (nm := "*errors.errorString") (by simp [Rows.codesNamesRow, Rows.laid_strconv_ErrSyntax]; rfl) (by kernel_rfl) (by kernel_rfl) Tryd.underlying39
  · exact err_of h (g := 3) (n := "strconv.ErrRange") (nm := "*errors.errorString") (by simp [Rows.codesNamesRow, Rows.laid_strconv_ErrRange]; rfl) (by kernel_rfl) (by kernel_rfl) Tryd.underlying39
end Go.Proofs.YtdcalfmmcciicaaDoor
