/- CodesOwn, walked whole. -/
import Derived.Test.YtdcalfmmcciicaaDoorCodesOwn
namespace Go.Proofs.YtdcalfmmcciicaaDoor
open Go Go.RowKit

theorem apart_of (a b : Int) : Apart a b (nameOf a) (nameOf b) := by
  by_cases h1 : a = b
  · exact .inl h1
  · by_cases h2 : nameOf a = []
    · exact .inr (.inl ⟨by simpa using h1, by simpa using h1, by simpa using h2, by simpa using h2⟩)
    · refine .inr (.inr ⟨by simpa using h1, by simpa using h1, by simpa using h2, by simpa using h2, ?_⟩)
      simp only [beq_eq_false_iff_ne, ne_eq]
      intro he
      exact h1 (name_own a b h2 he)

theorem stands_of (a : Int) : Stands a (orNone (optAt (nameOf a))) (codeOf (wordOf a)) (optAt (nameOf a)).isSome (codeAt (wordOf a)).isSome := by
  by_cases h1 : 0 ≤ a ∧ a ≤ 255
  · rw [opt_of_name a h1]
    have e : orNone (some a.toNat) = a := by show ((a.toNat : Nat) : Int) = a; omega
    by_cases h2 : 240 ≤ a ∧ a ≤ 255
    · rw [(code_of_word a h2).1, (code_of_word a h2).2]
      exact .inr (.inr (.inr ⟨h2.1, h2.2, rfl, rfl, e.symm, rfl⟩))
    · rw [wordOf_none a h2, code_of_none.1]
      exact .inr (.inr (.inl ⟨h1.1, by omega, rfl, rfl, e.symm⟩))
  · rw [nameOf_none a h1, opt_of_none, wordOf_none a (by omega), code_of_none.1]
    by_cases h2 : a < 0
    · exact .inl ⟨h2, rfl, rfl⟩
    · exact .inr (.inl ⟨by omega, rfl, rfl⟩)

theorem codesOwn_walk (W : World) (a : Int) (ha : -9223372036854775808 ≤ a ∧ a ≤ 9223372036854775807) (b : Int) (hb : -9223372036854775808 ≤ b ∧ b ≤ 9223372036854775807) (agree : Bool) (h : CodesAt W) :
    Calls Tryd.prog 5 #[.int .i64 a, .int .i64 b, .bool agree] W (Fine W) := by
  have hal := Lib.hid (says_alive h)
  have na := Lib.hid (says_name h a ha.1 ha.2 rfl)
  have nb := Lib.hid (says_name h b hb.1 hb.2 rfl)
  have oa := Lib.hid (says_option h (nameOf a) (nameOf_short a))
  have wa := Lib.hid (says_word h a rfl)
  have ca := Lib.hid (says_code h (wordOf a))
  by_cases hv : 251 ≤ a ∧ a ≤ 254
  · have hs := stands_of a
    have h240 : 240 ≤ a ∧ a ≤ 255 := by omega
    have e1 := code_of_word a h240
    have e2 := opt_of_name a (by omega)
    have e3 : orNone (some a.toNat) = a := by show ((a.toNat : Nat) : Int) = a; omega
    have hx : ∃ (x : Int) (f u : Bool), answerOf a agree = x ∧ decide (251 ≤ a ∧ a ≤ 254) = true ∧ answerOf x f = a ∧ decide (251 ≤ x ∧ x ≤ 254) = true ∧ decide (a = 251 ∨ a = 253) = f ∧ decide (x = 251 ∨ x = 253) = agree ∧
        decide (a = 251 ∨ a = 252) = u ∧ decide (x = 251 ∨ x = 252) = !u := by
      have hc : a = 251 ∨ a = 252 ∨ a = 253 ∨ a = 254 := by omega
      rcases hc with rfl | rfl | rfl | rfl <;> cases agree <;> exact ⟨_, _, _, rfl, rfl, rfl, rfl, rfl, rfl, rfl, rfl⟩
    obtain ⟨x, f, u, x1, x2, x3, x4, x5, x6, x7, x8⟩ := hx
    refine own_verb W a b agree _ _ _ _ _ _ _ hal na nb oa wa ca x f u (Lib.hid (says_answer W a agree x1 x2)) (Lib.hid (says_answer W x f x3 x4)) (Lib.hid (says_for W a x5)) (Lib.hid (says_for W x x6))
      (Lib.hid (says_own W a x7)) (Lib.hid (says_own W x x8)) h240.1 h240.2 (by rw [e2]; rfl) (by rw [e1.1]; rfl) (by rw [e2, e3]) (by rw [e1.2]) (apart_of a b)
  · exact own_other W a b agree _ _ _ _ _ _ _ hal na nb oa wa ca (Lib.hid (says_answer W a agree (by unfold answerOf; rw [if_pos (by omega)]) (by simp; omega))) (stands_of a) (apart_of a b)

/-- What the row lists gives what the calls read. -/
theorem codesOwn_facts {W : World} (h : laidMetH Tryd.prog Rows.codesOwnRow.laid W) : CodesAt W := by
  rw [MakeChecks.laidMetH_plain _ _ _ (by kernel_rfl)] at h
  have h : laidMet Tryd.prog Rows.codesOwnRow.laid W := h
  refine ⟨?_, ?_, ?_, ?_, ?_⟩
  · exact texts_of h (n := "truchman/codes.commandWords") (ws := cmdWords) (by simp [Rows.codesOwnRow, Rows.laid_truchman_codes_commandWords, texts, cmdWords]) (by kernel_rfl) (by kernel_rfl) Tryd.underlying35 Tryd.underlying9 (by kernel_rfl)
  · exact texts_of h (n := "truchman/codes.optionWords") (ws := optWords) (by simp [Rows.codesOwnRow, Rows.laid_truchman_codes_optionWords, texts, optWords]) (by kernel_rfl) (by kernel_rfl) Tryd.underlying36 Tryd.underlying9 (by kernel_rfl)
  · exact tab_of h (g := 4) (n := "internal/strconv.uint64pow10") (by simp [Rows.codesOwnRow, Rows.laid_internal_strconv_uint64pow10, Lib.tabData, Lib.pow10Tab]; rfl) (by kernel_rfl) (by kernel_rfl) Tryd.underlying66 Tryd.underlying52 (by kernel_rfl) (by kernel_rfl)
  · exact err_of h (g := 2) (n := "strconv.ErrSyntax") (nm := "*errors.errorString") (by simp [Rows.codesOwnRow, Rows.laid_strconv_ErrSyntax]; rfl) (by kernel_rfl) (by kernel_rfl) Tryd.underlying39
  · exact err_of h (g := 3) (n := "strconv.ErrRange") (nm := "*errors.errorString") (by simp [Rows.codesOwnRow, Rows.laid_strconv_ErrRange]; rfl) (by kernel_rfl) (by kernel_rfl) Tryd.underlying39
end Go.Proofs.YtdcalfmmcciicaaDoor
