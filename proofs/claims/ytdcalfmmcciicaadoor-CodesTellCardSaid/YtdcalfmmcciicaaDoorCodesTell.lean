/- CodesTell: what every number is as a command, and how it is answered. -/
import Derived.Test.YtdcalfmmcciicaaDoorCodesAlive
import Derived.Test.YtdcalfmmcciicaaDoorCodesRef
namespace Go.Proofs.YtdcalfmmcciicaaDoor
open Go Go.RowKit

/-- What CodesTell's calls read at package level. -/
structure TellAt (W : World) : Prop where
  cw : TextsAt W 0 cmdWords
  ow : TextsAt W 1 optWords
  pow : Pow W
theorem TellAt.only {W W' : World} (h : TellAt W) (ho : Only (fun _ => False) W W') : TellAt W' := ⟨h.cw.only ho, h.ow.only ho, h.pow.only ho⟩

/-- How a number stands: is it plain, a verb, for, of one's own? -/
def Kind (c : Int) (pb vb fb ub : Bool) : Prop :=
  (c ≤ 240 ∧ pb = false ∧ vb = false ∧ fb = false ∧ ub = false) ∨ (241 ≤ c ∧ c ≤ 249 ∧ pb = true ∧ vb = false ∧ fb = false ∧ ub = false) ∨ (c = 250 ∧ pb = false ∧ vb = false ∧ fb = false ∧ ub = false) ∨
  (c = 251 ∧ pb = false ∧ vb = true ∧ fb = true ∧ ub = true) ∨ (c = 252 ∧ pb = false ∧ vb = true ∧ fb = false ∧ ub = true) ∨ (c = 253 ∧ pb = false ∧ vb = true ∧ fb = true ∧ ub = false) ∨
  (c = 254 ∧ pb = false ∧ vb = true ∧ fb = false ∧ ub = false) ∨ (255 ≤ c ∧ pb = false ∧ vb = false ∧ fb = false ∧ ub = false)
theorem kind_of (c : Int) : Kind c (decide (241 ≤ c ∧ c ≤ 249)) (decide (251 ≤ c ∧ c ≤ 254)) (decide (c = 251 ∨ c = 253)) (decide (c = 251 ∨ c = 252)) := by
  have h : c ≤ 240 ∨ (241 ≤ c ∧ c ≤ 249) ∨ c = 250 ∨ c = 251 ∨ c = 252 ∨ c = 253 ∨ c = 254 ∨ 255 ≤ c := by omega
  unfold Kind
  rcases h with h | h | rfl | rfl | rfl | rfl | rfl | h
  · exact .inl ⟨h, by simp; omega, by simp; omega, by simp; omega, by simp; omega⟩
  · exact .inr (.inl ⟨h.1, h.2, by simp; omega, by simp; omega, by simp; omega, by simp; omega⟩)
  · simp
  · simp
  · simp
  · simp
  · simp
  · exact .inr (.inr (.inr (.inr (.inr (.inr (.inr ⟨h, by simp; omega, by simp; omega, by simp; omega, by simp; omega⟩))))))

/-- The word's command among the first k. -/
def wantIn (s : List UInt8) (k : Nat) : Int := match codeAt s with | some i => if i < k then 240 + (i : Int) else 0 | none => 0
theorem wantIn_zero (s : List UInt8) : wantIn s 0 = 0 := by unfold wantIn; split <;> simp
theorem wantIn_all (s : List UInt8) : wantIn s 16 = codeOf s := by
  unfold wantIn codeOf
  cases h : codeAt s with
  | none => rfl
  | some i =>
    have := ((codeAt_iff s i).1 h).1
    simp [this]
theorem wantIn_hit (s : List UInt8) (k : Nat) (hk : k < 16) (h : cmdWords[k]? = some s) : wantIn s (k + 1) = 240 + (k : Int) := by
  have := (codeAt_iff s k).2 ⟨hk, by simp [List.getD, h]⟩
  unfold wantIn
  rw [this]
  simp
theorem wantIn_miss (s x : List UInt8) (k : Nat) (h : cmdWords[k]? = some x) (hne : x ≠ s) : wantIn s (k + 1) = wantIn s k := by
  unfold wantIn
  cases hc : codeAt s with
  | none => rfl
  | some i =>
    have h1 := ((codeAt_iff s i).1 hc).2
    have : i ≠ k := by
      rintro rfl
      rw [List.getD, h] at h1
      exact hne h1
    simp only
    by_cases hl : i < k
    · rw [if_pos hl, if_pos (by omega)]
    · rw [if_neg hl, if_neg (by omega)]
theorem code_some (s : List UInt8) : (codeOf s != 0) = (codeAt s).isSome := by
  unfold codeOf
  cases codeAt s with
  | none => rfl
  | some i => simp; omega

theorem tell_long (W : World) (c : Int) (agree : Bool) (s : List UInt8) (h : TellAt W) (hl : 100 < s.length) :
    Calls Tryd.prog 3 #[.int .i64 c, .bool agree, .string ⟨s.toArray⟩] W (Fine W) := by
  have hal := Lib.hid (alive_any h.ow h.pow)
  clear h
  go_enter Tryd.func3, Tryd.ntmps3
  go_wp2_with (go_at_call 6; refine hal.out.mono ?_; rintro e w1 ⟨rfl, ho1⟩)
  go_ret
  exact ⟨rfl, ho1⟩

theorem answer_verb (c : Int) (agree : Bool) : (answerOf c agree != 0) = decide (251 ≤ c ∧ c ≤ 254) := by
  have h : c < 251 ∨ 254 < c ∨ c = 251 ∨ c = 252 ∨ c = 253 ∨ c = 254 := by omega
  rcases h with h | h | rfl | rfl | rfl | rfl
  · rw [show answerOf c agree = 0 by unfold answerOf; rw [if_pos (by omega)], decide_eq_false (by omega)]
    rfl
  · rw [show answerOf c agree = 0 by unfold answerOf; rw [if_pos (by omega)], decide_eq_false (by omega)]
    rfl
  all_goals cases agree <;> rfl

set_option maxHeartbeats 4000000 in
theorem tell_short (W : World) (c : Int) (agree : Bool) (s : List UInt8) (h : TellAt W) (hl : s.length ≤ 100) (pb vb fb ub : Bool) (hk : Kind c pb vb fb ub)
    (hp : decide (241 ≤ c ∧ c ≤ 249) = pb) (hv : decide (251 ≤ c ∧ c ≤ 254) = vb) (hf : decide (c = 251 ∨ c = 253) = fb) (hu : decide (c = 251 ∨ c = 252) = ub) :
    Calls Tryd.prog 3 #[.int .i64 c, .bool agree, .string ⟨s.toArray⟩] W (Fine W) := by
  have hal := Lib.hid (alive_any h.ow h.pow)
  obtain ⟨x, hx⟩ : ∃ x, answerOf c agree = x := ⟨_, rfl⟩
  obtain ⟨K, hK⟩ : ∃ K, wordOf c = K := ⟨_, rfl⟩
  obtain ⟨m, hm⟩ : ∃ m, codeOf s = m := ⟨_, rfl⟩
  obtain ⟨tb, ht⟩ : ∃ tb, (codeAt s).isSome = tb := ⟨_, rfl⟩
  have ans : Hid (∀ w, Calls Tryd.prog 7 #[.int .i64 c, .bool agree] w fun e w' => e = .returned (.tuple #[.int .i64 x, .bool vb]) ∧ w' = w) := fun w => by rw [← hx, ← hv]; exact answer_any w c agree
  have ans' : Hid (∀ w, Calls Tryd.prog 8 #[.int .i64 c, .bool agree] w fun e w' => e = .returned (.int .i64 x) ∧ w' = w) := fun w => by rw [← hx]; exact rAnswer w c agree
  have wd : Hid (∀ w, Only (fun _ => False) W w → Calls Tryd.prog 9 #[.int .i64 c] w fun e w' => e = .returned (.string ⟨K.toArray⟩) ∧ w' = w) := fun w ho => by rw [← hK]; exact word_any (h.cw.only ho) c
  have wd' : Hid (∀ w, Calls Tryd.prog 10 #[.int .i64 c] w fun e w' => e = .returned (.string ⟨K.toArray⟩) ∧ Only (fun _ => False) w w') := fun w => by rw [← hK]; exact rWord w c
  have pl : Hid (∀ w, Calls Tryd.prog 11 #[.int .i64 c] w fun e w' => e = .returned (.bool pb) ∧ w' = w) := fun w => by rw [← hp]; exact plain_any w c
  have ve : Hid (∀ w, Calls Tryd.prog 12 #[.int .i64 c] w fun e w' => e = .returned (.bool vb) ∧ w' = w) := fun w => by rw [← hv]; exact verb_any w c
  have fo : Hid (∀ w, Calls Tryd.prog 15 #[.int .i64 c] w fun e w' => e = .returned (.bool fb) ∧ w' = w) := fun w => by rw [← hf]; exact for_any w c
  have ow : Hid (∀ w, Calls Tryd.prog 16 #[.int .i64 c] w fun e w' => e = .returned (.bool ub) ∧ w' = w) := fun w => by rw [← hu]; exact own_any w c
  have co : Hid (∀ w, Only (fun _ => False) W w → Calls Tryd.prog 13 #[.string ⟨s.toArray⟩] w fun e w' => e = .returned (.tuple #[.int .i64 m, .bool tb]) ∧ w' = w) := fun w ho => by rw [← hm, ← ht]; exact code_any (h.cw.only ho) s
  have hxv : (x != 0) = vb := by rw [← hx, ← hv]; exact answer_verb c agree
  have hxx : (x == x) = true := by simp
  have hmt : (m != 0) = tb := by rw [← hm, ← ht]; exact code_some s
  have HM := Lib.hid hm
  clear hx hK hm ht hp hv hf hu h
  rcases hk with ⟨k1, rfl, rfl, rfl, rfl⟩ | ⟨k1, k2, rfl, rfl, rfl, rfl⟩ | ⟨rfl, rfl, rfl, rfl, rfl⟩ | ⟨rfl, rfl, rfl, rfl, rfl⟩ | ⟨rfl, rfl, rfl, rfl, rfl⟩ | ⟨rfl, rfl, rfl, rfl, rfl⟩ | ⟨rfl, rfl, rfl, rfl, rfl⟩ | ⟨k1, rfl, rfl, rfl, rfl⟩
  all_goals
    try have e1 : (c == 251) = false := by simp; omega
    try have e2 : (c == 252) = false := by simp; omega
    try have e3 : (c == 253) = false := by simp; omega
    have ho0 : Only (fun _ => False) W W := Only.refl _ _
    go_enter Tryd.func3, Tryd.ntmps3
    go_wp2_with (first
      | (go_at_call 6; refine hal.out.mono ?_; rintro e w1 ⟨rfl, ho1⟩)
      | (go_at_call 7; refine (ans.out _).mono ?_; rintro e w' ⟨rfl, rfl⟩)
      | (go_at_call 8; refine (ans'.out _).mono ?_; rintro e w' ⟨rfl, rfl⟩)
      | (go_at_call 9; refine (wd.out _ (by assumption)).mono ?_; rintro e w' ⟨rfl, rfl⟩)
      | (go_at_call 10; refine (wd'.out _).mono ?_; rintro e w2 ⟨rfl, ho2⟩)
      | (go_at_call 11; refine (pl.out _).mono ?_; rintro e w' ⟨rfl, rfl⟩)
      | (go_at_call 12; refine (ve.out _).mono ?_; rintro e w' ⟨rfl, rfl⟩)
      | (go_at_call 13; refine (co.out _ (ho1.trans ho2 (fun _ h => h.elim))).mono ?_; rintro e w' ⟨rfl, rfl⟩)
      | (go_at_call 14; refine (rWords _).mono ?_; rintro e w3 ⟨N, rfl, hN, hb, ho3⟩))
    have ht := textsAt_of hb
    have HT := Lib.hid ht
    have how : Only (fun _ => False) W w3 := (ho1.trans ho2 (fun _ h => h.elim)).trans ho3 (fun _ h => h.elim)
    clear ht hb
    go_loopw [70, 12] (fun i a w => ∃ k : Nat, k ≤ 16 ∧ i = .int .i64 (k : Int) ∧ a = .int .i64 (wantIn s k) ∧ w = w3) (fun i _ _ => 16 - (intOf i).toNat)
    case atStart => exact ⟨0, Nat.zero_le _, rfl, by rw [wantIn_zero], rfl⟩
    case round =>
      obtain ⟨k, hk, rfl, rfl, rfl⟩ := hrel
      by_cases hlt : k < 16
      · obtain ⟨y, hy⟩ : ∃ y, cmdWords[k]? = some y := ⟨_, List.getElem?_eq_getElem (by exact hlt)⟩
        have hcell := HT.out k y hy
        by_cases he : y = s
        · subst he
          have hbe : (y == y) = true := by simp
          have hw := Lib.hid (wantIn_hit y k hlt hy)
          clear hy
          go_wp2
          go_roundw
          case rel => exact ⟨k + 1, by omega, by go_num, by rw [hw.out], trivial⟩
          case measure => simp [intOf]; omega
        · have hbe : (y == s) = false := by simpa using he
          have hw := Lib.hid (wantIn_miss s y k hy he)
          clear hy he
          go_wp2
          go_roundw
          case rel => exact ⟨k + 1, by omega, by go_num, by rw [hw.out], trivial⟩
          case measure => simp [intOf]; omega
      · obtain rfl : k = 16 := by omega
        have hw : wantIn s 16 = m := by rw [wantIn_all, HM.out]
        have hmm : (m == m) = true := by simp
        go_wp2_with (first
          | (go_at_call 15; refine (fo.out _).mono ?_; rintro e w' ⟨rfl, rfl⟩)
          | (go_at_call 16; refine (ow.out _).mono ?_; rintro e w' ⟨rfl, rfl⟩))
        go_ret
        exact ⟨rfl, how⟩

theorem codesTell_walk (W : World) (c : Int) (agree : Bool) (s : List UInt8) (h : TellAt W) :
    Calls Tryd.prog 3 #[.int .i64 c, .bool agree, .string ⟨s.toArray⟩] W (Fine W) := by
  rcases Nat.lt_or_ge 100 s.length with hl | hl
  · exact tell_long W c agree s h hl
  · exact tell_short W c agree s h hl _ _ _ _ (kind_of c) rfl rfl rfl rfl

/-- What the row lists gives what the calls read. -/
theorem codesTell_facts {W : World} (h : laidMetH Tryd.prog Rows.codesTellRow.laid W) : TellAt W := by
  rw [MakeChecks.laidMetH_plain _ _ _ (by kernel_rfl)] at h
  have h : laidMet Tryd.prog Rows.codesTellRow.laid W := h
  refine ⟨?_, ?_, ?_⟩
  · exact texts_of h (n := "truchman/codes.commandWords") (ws := cmdWords) (by simp [Rows.codesTellRow, Rows.laid_truchman_codes_commandWords, texts, cmdWords]) (by kernel_rfl) (by kernel_rfl) Tryd.underlying35 Tryd.underlying9 (by kernel_rfl)
  · exact texts_of h (n := "truchman/codes.optionWords") (ws := optWords) (by simp [Rows.codesTellRow, Rows.laid_truchman_codes_optionWords, texts, optWords]) (by kernel_rfl) (by kernel_rfl) Tryd.underlying36 Tryd.underlying9 (by kernel_rfl)
  · exact tab_of h (g := 4) (n := "internal/strconv.uint64pow10") (by simp [Rows.codesTellRow, Rows.laid_internal_strconv_uint64pow10, Lib.tabData, Lib.pow10Tab]; rfl) (by kernel_rfl) (by kernel_rfl) Tryd.underlying66 Tryd.underlying52 (by kernel_rfl) (by kernel_rfl)
end Go.Proofs.YtdcalfmmcciicaaDoor
