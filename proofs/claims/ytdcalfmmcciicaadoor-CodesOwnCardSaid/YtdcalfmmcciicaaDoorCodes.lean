/- Package codes: one contract for each of its calls. -/
import Derived.Test.YtdcalfmmcciicaaDoorLibNum
import Derived.Test.YtdcalfmmcciicaaDoorCodesSay
namespace Go.Proofs.YtdcalfmmcciicaaDoor
open Go Go.RowKit

theorem word_any {W : World} (h : TextsAt W 0 cmdWords) (c : Int) :
    Calls Tryd.prog 9 #[.int .i64 c] W fun e w' => e = .returned (.string ⟨(wordOf c).toArray⟩) ∧ w' = W := by
  by_cases hc : 240 ≤ c ∧ c ≤ 255
  · obtain ⟨i, rfl⟩ : ∃ i : Nat, c = 240 + (i : Int) := ⟨(c - 240).toNat, by omega⟩
    have hi : i < 16 := by omega
    obtain ⟨s, hs⟩ : ∃ s, cmdWords[i]? = some s := ⟨_, List.getElem?_eq_getElem (by exact hi)⟩
    have hcell := h i s hs
    have ew : wordOf (240 + (i : Int)) = s := by
      unfold wordOf
      rw [if_pos hc, show (240 + (i : Int) - 240).toNat = i by omega]
      simp [List.getD, hs]
    rw [ew]
    have e1 : IntKind.i64.wrap (240 + (i : Int) - 240) = (i : Int) := by rw [IntWalk.i64_in _ (by omega)]; omega
    have HS := Lib.hid hs
    clear h hs ew
    go_enter Tryd.func9, Tryd.ntmps9
    go_wp2
    go_ret
    exact ⟨rfl, rfl⟩
  · have ew : wordOf c = [] := by unfold wordOf; rw [if_neg hc]
    rw [ew]
    clear ew
    by_cases h1 : c < 240
    · go_enter Tryd.func9, Tryd.ntmps9
      go_wp2
      go_ret
      exact ⟨rfl, rfl⟩
    · have h2 : 255 < c := by omega
      go_enter Tryd.func9, Tryd.ntmps9
      go_wp2
      go_ret
      exact ⟨rfl, rfl⟩

theorem text_eq (a b : List UInt8) : (ByteArray.mk a.toArray = ByteArray.mk b.toArray) ↔ a = b := by simp

theorem code_any {W : World} (h : TextsAt W 0 cmdWords) (s : List UInt8) :
    Calls Tryd.prog 13 #[.string ⟨s.toArray⟩] W fun e w' => e = .returned (.tuple #[.int .i64 (codeOf s), .bool (codeAt s).isSome]) ∧ w' = W := by
  go_enter Tryd.func13, Tryd.ntmps13
  go_wp2
  go_loopw [5] (fun i w => ∃ k : Nat, k ≤ 16 ∧ i = .int .i64 (k : Int) ∧ Hid (∀ j, j < k → cmdWords.getD j [] ≠ s) ∧ w = W) (fun i _ => 16 - (intOf i).toNat)
  case atStart => exact ⟨0, Nat.zero_le _, rfl, (fun j hj => absurd hj (by omega)), rfl⟩
  case round =>
    obtain ⟨k, hk, rfl, hno, rfl⟩ := hrel
    by_cases hlt : k < 16
    · obtain ⟨x, hx⟩ : ∃ x, cmdWords[k]? = some x := ⟨_, List.getElem?_eq_getElem (by exact hlt)⟩
      have hcell := h k x hx
      have HX := Lib.hid hx
      have H := Lib.hid h
      clear h hx
      by_cases he : x = s
      · subst he
        have hb : (x == x) = true := by simp
        go_wp2
        go_ret2
        have e := (codeAt_iff x k).2 ⟨hlt, by simp [List.getD, HX.out]⟩
        unfold codeOf
        rw [e]
        exact ⟨rfl, rfl⟩
      · have hb : (x == s) = false := by simpa using he
        go_wp2
        go_roundw
        case rel =>
          refine ⟨k + 1, by omega, by go_num, fun j hj => ?_, trivial⟩
          rcases Nat.lt_or_ge j k with h1 | h1
          · exact hno.out j h1
          · obtain rfl : j = k := by omega
            simpa [List.getD, HX.out] using he
        case measure => simp [intOf]; omega
    · go_wp2
      go_ret2
      have e : codeAt s = none := by
        cases hc : codeAt s with
        | none => rfl
        | some i =>
          obtain ⟨h1, h2⟩ := (codeAt_iff s i).1 hc
          exact absurd h2 (hno.out i (by omega))
      unfold codeOf
      rw [e]
      exact ⟨rfl, rfl⟩

theorem plain_any (W : World) (c : Int) : Calls Tryd.prog 11 #[.int .i64 c] W fun e w' => e = .returned (.bool (decide (241 ≤ c ∧ c ≤ 249))) ∧ w' = W := by
  by_cases h1 : c < 241
  · go_enter Tryd.func11, Tryd.ntmps11
    go_wp2
    go_ret
    refine ⟨congrArg (fun b => Ending.returned (Value.bool b)) ?_, rfl⟩
    first | (simp; done) | (simp; omega)
  · go_enter Tryd.func11, Tryd.ntmps11
    go_wp2
    go_ret
    refine ⟨congrArg (fun b => Ending.returned (Value.bool b)) ?_, rfl⟩
    first | (simp; done) | (simp; omega)

theorem verb_any (W : World) (c : Int) : Calls Tryd.prog 12 #[.int .i64 c] W fun e w' => e = .returned (.bool (decide (251 ≤ c ∧ c ≤ 254))) ∧ w' = W := by
  by_cases h1 : c < 251
  · go_enter Tryd.func12, Tryd.ntmps12
    go_wp2
    go_ret
    refine ⟨congrArg (fun b => Ending.returned (Value.bool b)) ?_, rfl⟩
    first | (simp; done) | (simp; omega)
  · go_enter Tryd.func12, Tryd.ntmps12
    go_wp2
    go_ret
    refine ⟨congrArg (fun b => Ending.returned (Value.bool b)) ?_, rfl⟩
    first | (simp; done) | (simp; omega)

theorem for_any (W : World) (c : Int) : Calls Tryd.prog 15 #[.int .i64 c] W fun e w' => e = .returned (.bool (decide (c = 251 ∨ c = 253))) ∧ w' = W := by
  by_cases h1 : c = 251
  · go_enter Tryd.func15, Tryd.ntmps15
    go_wp2
    go_ret
    refine ⟨congrArg (fun b => Ending.returned (Value.bool b)) ?_, rfl⟩
    exact Bool.eq_iff_iff.2 (by simp [h1])
  · go_enter Tryd.func15, Tryd.ntmps15
    go_wp2
    go_ret
    refine ⟨congrArg (fun b => Ending.returned (Value.bool b)) ?_, rfl⟩
    exact Bool.eq_iff_iff.2 (by simp [h1])

theorem own_any (W : World) (c : Int) : Calls Tryd.prog 16 #[.int .i64 c] W fun e w' => e = .returned (.bool (decide (c = 251 ∨ c = 252))) ∧ w' = W := by
  by_cases h1 : c = 251
  · go_enter Tryd.func16, Tryd.ntmps16
    go_wp2
    go_ret
    refine ⟨congrArg (fun b => Ending.returned (Value.bool b)) ?_, rfl⟩
    exact Bool.eq_iff_iff.2 (by simp [h1])
  · go_enter Tryd.func16, Tryd.ntmps16
    go_wp2
    go_ret
    refine ⟨congrArg (fun b => Ending.returned (Value.bool b)) ?_, rfl⟩
    exact Bool.eq_iff_iff.2 (by simp [h1])

theorem answer_any (W : World) (c : Int) (agree : Bool) :
    Calls Tryd.prog 7 #[.int .i64 c, .bool agree] W fun e w' => e = .returned (.tuple #[.int .i64 (answerOf c agree), .bool (decide (251 ≤ c ∧ c ≤ 254))]) ∧ w' = W := by
  have hcase : c < 251 ∨ 254 < c ∨ c = 251 ∨ c = 252 ∨ c = 253 ∨ c = 254 := by omega
  rcases hcase with h | h | rfl | rfl | rfl | rfl
  all_goals
    try have hb : decide (251 ≤ c ∧ c ≤ 254) = false := by simp; omega
    try have ha : answerOf c agree = 0 := by unfold answerOf; rw [if_pos (by omega)]
  all_goals
    cases agree
    all_goals
      go_enter Tryd.func7, Tryd.ntmps7
      go_wp2_with (first
        | (go_at_call 12; refine (verb_any _ _).mono ?_; rintro e w' ⟨rfl, rfl⟩)
        | (go_at_call 16; refine (own_any _ _).mono ?_; rintro e w' ⟨rfl, rfl⟩))
      go_ret2
      first | exact ⟨rfl, rfl⟩ | (rw [ha, hb]; exact ⟨rfl, rfl⟩)

theorem isOption_any (W : World) (c : Int) : Calls Tryd.prog 23 #[.int .i64 c] W fun e w' => e = .returned (.bool (decide (0 ≤ c ∧ c ≤ 255))) ∧ w' = W := by
  by_cases h1 : c < 0
  · go_enter Tryd.func23, Tryd.ntmps23
    go_wp2
    go_ret
    refine ⟨congrArg (fun b => Ending.returned (Value.bool b)) ?_, rfl⟩
    first | (simp; done) | (simp; omega)
  · go_enter Tryd.func23, Tryd.ntmps23
    go_wp2
    go_ret
    refine ⟨congrArg (fun b => Ending.returned (Value.bool b)) ?_, rfl⟩
    first | (simp; done) | (simp; omega)

theorem name_any {W : World} (h : TextsAt W 1 optWords) (hp : Pow W) (c : Int) (h0 : -9223372036854775808 ≤ c) (h1 : c ≤ 9223372036854775807) :
    Calls Tryd.prog 19 #[.int .i64 c] W fun e w' => e = .returned (.string ⟨(nameOf c).toArray⟩) ∧ Only (fun _ => False) W w' := by
  by_cases hc : 0 ≤ c ∧ c ≤ 255
  · have hb : decide (0 ≤ c ∧ c ≤ 255) = true := by simpa using hc
    have hi := isOption_any W c
    rw [hb] at hi
    obtain ⟨n, rfl⟩ : ∃ n : Nat, c = n := ⟨c.toNat, by omega⟩
    have hn : n ≤ 255 := by omega
    have en : nameOf (n : Int) = nameAt n := by unfold nameOf; rw [if_pos hc, Int.toNat_natCast]
    rw [en]
    have HP := Lib.hid hp
    have HI := Lib.hid hi
    clear hb en hp hi hc
    by_cases hlt : n < 35
    · obtain ⟨x, hx⟩ : ∃ x, optWords[n]? = some x := ⟨_, List.getElem?_eq_getElem (by exact hlt)⟩
      have hcell := h n x hx
      have ex : optWords.getD n [] = x := by simp [List.getD, hx]
      have HX := Lib.hid ex
      have H := Lib.hid h
      clear hx ex h
      cases x with
      | nil =>
        have ea : nameAt n = Lib.itoa n := by unfold nameAt; rw [HX.out, if_pos rfl]
        rw [ea]
        clear ea
        go_enter Tryd.func19, Tryd.ntmps19
        go_wp2_with (first
          | (go_at_call 23; refine HI.out.mono ?_; rintro e w' ⟨rfl, rfl⟩)
          | (go_at_call 24; refine (itoa_any HP.out _ (by omega) (by omega)).mono ?_; rintro e w' ⟨rfl, ho⟩))
        go_ret
        exact ⟨rfl, ho⟩
      | cons y x =>
        have ea : nameAt n = y :: x := by unfold nameAt; rw [HX.out, if_neg (by simp)]
        rw [ea]
        clear ea
        go_enter Tryd.func19, Tryd.ntmps19
        go_wp2_with (first
          | (go_at_call 23; refine HI.out.mono ?_; rintro e w' ⟨rfl, rfl⟩))
        go_ret
        exact ⟨rfl, Only.refl _ _⟩
    · have ea : nameAt n = Lib.itoa n := by
        unfold nameAt
        rw [show optWords.getD n [] = [] by simp [List.getD, List.getElem?_eq_none (show optWords.length ≤ n by show 35 ≤ n; omega)], if_pos rfl]
      rw [ea]
      clear ea h
      go_enter Tryd.func19, Tryd.ntmps19
      go_wp2_with (first
        | (go_at_call 23; refine HI.out.mono ?_; rintro e w' ⟨rfl, rfl⟩)
        | (go_at_call 24; refine (itoa_any HP.out _ (by omega) (by omega)).mono ?_; rintro e w' ⟨rfl, ho⟩))
      go_ret
      exact ⟨rfl, ho⟩
  · have hb : decide (0 ≤ c ∧ c ≤ 255) = false := by simpa using hc
    have hi := isOption_any W c
    rw [hb] at hi
    have en : nameOf c = [] := by unfold nameOf; rw [if_neg hc]
    rw [en]
    clear h hp hb en
    go_enter Tryd.func19, Tryd.ntmps19
    go_wp2_with (go_at_call 23; refine hi.mono ?_; rintro e w' ⟨rfl, rfl⟩)
    go_ret
    exact ⟨rfl, Only.refl _ _⟩

theorem figures_any {W : World} (hp : Pow W) (he1 : ErrAt Tryd.prog W "strconv.ErrSyntax") (he2 : ErrAt Tryd.prog W "strconv.ErrRange") (s : List UInt8) (hs : s.length ≤ 100) :
    Calls Tryd.prog 21 #[.string ⟨s.toArray⟩] W fun e w' => e = .returned (.tuple #[.int .i64 (orNone (figuresAt s)), .bool (figuresAt s).isSome]) ∧ Only (fun _ => False) W w' := by
  have C := atoi_any s (by omega) he1 he2
  have HP := Lib.hid hp
  have HS := Lib.hid hs
  clear hp he1 he2 hs
  cases ha : Lib.atoiAll s with
  | ok v =>
    rw [ha] at C
    have hb := Lib.atoiAll_bounds ha
    have HA := Lib.hid ha
    clear ha
    have C := Lib.hid (C.mono (R' := fun e w' => e = .returned (.tuple #[.int .i64 v, .nilIface]) ∧ Only (fun _ => False) W w') fun e w' ⟨⟨u, x, he, h⟩, ho⟩ => by
      rcases h with ⟨h1, rfl⟩ | ⟨h1, _⟩
      · injection h1 with h1
        subst h1
        exact ⟨he, ho⟩
      · exact absurd rfl (h1 v))
    by_cases hv : 0 ≤ v ∧ v ≤ 255
    · have hi := fun W => isOption_any W v
      rw [show decide (0 ≤ v ∧ v ≤ 255) = true by simpa using hv] at hi
      have HI := Lib.hid hi
      obtain ⟨x, hx⟩ : ∃ x, x = Lib.itoa v := ⟨_, rfl⟩
      by_cases he : x = s
      · have ef : figuresAt s = some v.toNat := by unfold figuresAt; rw [HA.out]; exact if_pos ⟨hv.1, hv.2, by rw [← hx]; exact he⟩
        have en : orNone (some v.toNat) = v := by show ((v.toNat : Nat) : Int) = v; omega
        rw [ef, en]
        have hbe : (x == s) = true := by simpa using he
        have HX := Lib.hid hx
        have HE := Lib.hid he
        clear ef en hx hv hi he
        go_enter Tryd.func21, Tryd.ntmps21
        go_wp2_with (first
          | (go_at_call 25; refine C.out.mono ?_; rintro e w1 ⟨rfl, ho⟩)
          | (go_at_call 23; refine (HI.out _).mono ?_; rintro e w' ⟨rfl, rfl⟩)
          | (go_at_call 24; refine (itoa_any (HP.out.only ho) _ (by omega) (by omega)).mono ?_; rw [← HX.out]; rintro e w2 ⟨rfl, ho2⟩))
        go_ret2
        exact ⟨rfl, ho.trans ho2 (fun _ h => h.elim)⟩
      · have ef : figuresAt s = none := by unfold figuresAt; rw [HA.out]; exact if_neg (fun h => he (by rw [hx]; exact h.2.2))
        have en : orNone none = 0 := rfl
        rw [ef, en]
        have hbe : (x == s) = false := by simpa using he
        have HX := Lib.hid hx
        clear ef en hx hv hi he
        go_enter Tryd.func21, Tryd.ntmps21
        go_wp2_with (first
          | (go_at_call 25; refine C.out.mono ?_; rintro e w1 ⟨rfl, ho⟩)
          | (go_at_call 23; refine (HI.out _).mono ?_; rintro e w' ⟨rfl, rfl⟩)
          | (go_at_call 24; refine (itoa_any (HP.out.only ho) _ (by omega) (by omega)).mono ?_; rw [← HX.out]; rintro e w2 ⟨rfl, ho2⟩))
        go_ret2
        exact ⟨rfl, ho.trans ho2 (fun _ h => h.elim)⟩
    · have hi := fun W => isOption_any W v
      rw [show decide (0 ≤ v ∧ v ≤ 255) = false by simpa using hv] at hi
      have HI := Lib.hid hi
      have ef : figuresAt s = none := by unfold figuresAt; rw [HA.out]; exact if_neg (fun h => hv ⟨h.1, h.2.1⟩)
      have en : orNone none = 0 := rfl
      rw [ef, en]
      clear ef en hv hi
      go_enter Tryd.func21, Tryd.ntmps21
      go_wp2_with (first
        | (go_at_call 25; refine C.out.mono ?_; rintro e w1 ⟨rfl, ho⟩)
        | (go_at_call 23; refine (HI.out _).mono ?_; rintro e w' ⟨rfl, rfl⟩)
        | (go_at_call 24; refine (itoa_any (HP.out.only ho) _ (by omega) (by omega)).mono ?_; rintro e w2 ⟨rfl, ho2⟩))
      go_ret2
      exact ⟨rfl, ho⟩
  | _ =>
    rw [ha] at C
    have ef : figuresAt s = none := by unfold figuresAt; rw [ha]
    have en : orNone none = 0 := rfl
    rw [ef, en]
    clear ef en ha
    have C := Lib.hid (C.mono (R' := fun e w' => (∃ (v : Int) (T N : Nat), e = .returned (.tuple #[.int .i64 v, .iface T (.pointer (some ⟨N, 0, none⟩))])) ∧ Only (fun _ => False) W w') fun e w' ⟨⟨u, x, he, h⟩, ho⟩ => by
      rcases h with ⟨h1, _⟩ | ⟨_, T, N, rfl⟩
      · cases h1
      · exact ⟨⟨u, T, N, he⟩, ho⟩)
    go_enter Tryd.func21, Tryd.ntmps21
    go_wp2_with (first
      | (go_at_call 25; refine C.out.mono ?_; rintro e w1 ⟨⟨v, T, N, rfl⟩, ho⟩))
    go_ret2
    exact ⟨rfl, ho⟩

theorem option_any {W : World} (h : TextsAt W 1 optWords) (hp : Pow W) (he1 : ErrAt Tryd.prog W "strconv.ErrSyntax") (he2 : ErrAt Tryd.prog W "strconv.ErrRange") (s : List UInt8) (hs : s.length ≤ 100) :
    Calls Tryd.prog 17 #[.string ⟨s.toArray⟩] W fun e w' => e = .returned (.tuple #[.int .i64 (orNone (optAt s)), .bool (optAt s).isSome]) ∧ Only (fun _ => False) W w' := by
  have C := Lib.hid (figures_any hp he1 he2 s hs)
  clear hp he1 he2
  by_cases hn : s = []
  · subst hn
    have e : optAt [] = none := by unfold optAt; rw [if_pos rfl]
    rw [e]
    go_enter Tryd.func17, Tryd.ntmps17
    go_wp2
    go_ret2
    exact ⟨rfl, Only.refl _ _⟩
  · have e1 : optAt s = match optWords.findIdx? (· == s) with | some i => some i | none => figuresAt s := by unfold optAt; exact if_neg hn
    obtain ⟨o, ho⟩ : ∃ o, o = optAt s := ⟨_, rfl⟩
    rw [← ho]
    rw [← ho] at e1
    have HE := Lib.hid e1
    have hbn : (s == []) = false := by simpa using hn
    clear e1 ho
    go_enter Tryd.func17, Tryd.ntmps17
    go_wp2
    go_loopw [7] (fun i w => ∃ k : Nat, k ≤ 35 ∧ i = .int .i64 (k : Int) ∧ Hid (∀ j, j < k → optWords.getD j [] ≠ s) ∧ w = W) (fun i _ => 35 - (intOf i).toNat)
    case atStart => exact ⟨0, Nat.zero_le _, rfl, (fun j hj => absurd hj (by omega)), rfl⟩
    case round =>
      obtain ⟨k, hk, rfl, hno, rfl⟩ := hrel
      by_cases hlt : k < 35
      · obtain ⟨x, hx⟩ : ∃ x, optWords[k]? = some x := ⟨_, List.getElem?_eq_getElem (by exact hlt)⟩
        have hcell := h k x hx
        have HX := Lib.hid hx
        have H := Lib.hid h
        clear h hx
        by_cases he : x = s
        · subst he
          have hb : (x == x) = true := by simp
          go_wp2
          go_ret2
          have e : optWords.findIdx? (· == x) = some k := by
            rw [List.findIdx?_eq_some_iff_getElem]
            refine ⟨hlt, ?_, fun j hj => ?_⟩
            · exact beq_iff_eq.2 (List.getElem?_eq_some_iff.1 HX.out).2
            · have := hno.out j hj
              simpa [List.getD, List.getElem?_eq_getElem (show j < optWords.length from Nat.lt_trans hj hlt)] using this
          have := HE.out
          rw [e] at this
          rw [this]
          exact ⟨rfl, Only.refl _ _⟩
        · have hb : (x == s) = false := by simpa using he
          go_wp2
          go_roundw
          case rel =>
            refine ⟨k + 1, by omega, by go_num, fun j hj => ?_, trivial⟩
            rcases Nat.lt_or_ge j k with h1 | h1
            · exact hno.out j h1
            · obtain rfl : j = k := by omega
              simpa [List.getD, HX.out] using he
          case measure => simp [intOf]; omega
      · have e : optWords.findIdx? (· == s) = none := by
          rw [List.findIdx?_eq_none_iff]
          intro x hx
          obtain ⟨j, hj, rfl⟩ := List.getElem_of_mem hx
          have := hno.out j (by have : j < 35 := hj; omega)
          simpa [List.getD, List.getElem?_eq_getElem hj] using this
        have e2 := HE.out
        rw [e] at e2
        simp only at e2
        have C' := C.out
        rw [← e2] at C'
        have C' := Lib.hid C'
        clear e2 C e
        go_wp2_with (go_at_call 21; refine C'.out.mono ?_; rintro e w' ⟨rfl, ho⟩)
        go_ret2
        exact ⟨rfl, ho⟩
end Go.Proofs.YtdcalfmmcciicaaDoor
