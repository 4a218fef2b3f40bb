/- Layer 11's example, and one act of a table. -/
import Derived.Test.YtpobglejobgmlaaDoorTbActs
namespace Go.Proofs.YtpobglejobgmlaaDoor
open Go Go.RowKit
set_option maxRecDepth 100000
set_option maxHeartbeats 4000000

theorem alive_any {W : World} (hT : TbW W) : Calls Tryd.prog 6 #[] W fun e w' => e = .returned (.bool true) ∧ Only (fun _ => False) W w' := by
  have HT := Lib.hid hT
  obtain ⟨t1, ht1⟩ : ∃ t1, t1 = (Tb.zero.hear (agOf [] [0]) 251 0).1 := ⟨_, rfl⟩
  have HHear : Hid (∀ w, TbW w → ∀ p, TbAt w p (agOf [] [0]) Tb.zero → Calls Tryd.prog 8 #[.pointer (some ⟨p, 0, none⟩), .int .i64 251, .int .i64 0] w fun e w' => e = .returned (.tuple #[.agg #[.int .i64 1, .int .i64 253, .bool true, .bool false], .nilIface]) ∧ TbAt w' p (agOf [] [0]) t1 ∧ Only (· = p) w w') := fun w hw p hp => by
    rw [ht1]
    exact thear_some hw hp (v := 251) (o := 0) (by omega) (by omega) (by decide) (by decide)
  have HOn1 : Hid (∀ w p, TbAt w p (agOf [] [0]) t1 → Calls Tryd.prog 18 #[.pointer (some ⟨p, 0, none⟩), .int .i64 1, .int .i64 0] w fun e w' => e = .returned (.bool true) ∧ Only (fun _ => False) w w') := fun w p hp => by
    have := ton_any hp 1 0
    rwa [show decide (t1.get 1 0 = .yes) = true from by rw [ht1]; decide] at this
  have HOn0 : Hid (∀ w p, TbAt w p (agOf [] [0]) t1 → Calls Tryd.prog 18 #[.pointer (some ⟨p, 0, none⟩), .int .i64 0, .int .i64 0] w fun e w' => e = .returned (.bool false) ∧ Only (fun _ => False) w w') := fun w p hp => by
    have := ton_any hp 0 0
    rwa [show decide (t1.get 0 0 = .yes) = false from by rw [ht1]; decide] at this
  have HNew : Hid (∀ w g, w.cell? ⟨g, 0, none⟩ = some (.int .i64 0) → Calls Tryd.prog 7 #[.agg #[.slice none 0 0, .slice (some ⟨g, 0, none⟩) 1 1]] w fun e w' => ∃ p, e = .returned (.pointer (some ⟨p, 0, none⟩)) ∧ TbAt w' p (agOf [] [0]) Tb.zero ∧ w.heap.size ≤ p ∧ Only (fun _ => False) w w') := fun w g hg =>
    new_any 0 1 (Ints.nil _ _) (n2 := 1) ⟨rfl, fun _ => ⟨_, rfl, fun j z hz => by
      rcases j with _ | j
      · simp only [List.getElem?_cons_zero, Option.some.injEq] at hz
        subst hz
        exact hg
      · simp at hz⟩⟩ (by omega) (by omega)
  clear hT ht1
  go_enter Tryd.func6, Tryd.ntmps6
  go_wp2_with (first
    | (go_at_call 7; refine (HNew.out _ _ (by exact (Blk.new W 3 [.int .i64 0]).cell 0)).mono ?_; rintro e w1 ⟨p, rfl, ht1, hp1, ho1⟩; have HO1 := Lib.hid ((alloc_only (W := W) _).trans ho1 (fun _ h => h.elim)); have HT1 := Lib.hid ht1; clear ht1 ho1)
    | (go_at_call 8; refine (HHear.out _ (HT.out.only HO1.out) _ HT1.out).mono ?_; rintro e w2 ⟨rfl, ht2, ho2⟩; have HT2 := Lib.hid (ht2.same (alloc_only (.cells #[.int .i64 1, .int .i64 253, .bool true, .bool false] 36))); have HO2 := Lib.hid ((HO1.out.mono (T := (· = p)) (fun _ h => h.elim)).trans ho2 (fun i hi => .inl hi)); clear ht2 ho2)
    | (go_at_call 18; with_reducible refine (HOn1.out _ _ HT2.out).mono ?_; rintro e w3 ⟨rfl, ho3⟩; have HT3 := Lib.hid (HT2.out.same ho3); have HO3 := Lib.hid ((HO2.out.alloc _).trans ho3 (fun _ h => h.elim)); clear ho3)
    | (go_at_call 18; refine (HOn0.out _ _ HT3.out).mono ?_; rintro e w4 ⟨rfl, ho4⟩)
    | fail)
  go_ret
  exact ⟨rfl, (HO3.out.trans ho4 (fun _ h => h.elim)).mono (fun i hi => .inr (by have := (alloc_only (W := W) (.cells #[.int .i64 0] 3)).size; omega))⟩

/-- What a verb that is heard does, right or not. -/
def Tb.hearI (ag : Nat → Nat → Bool) (t : Tb) (c o : Int) : Tb := if (251 ≤ c ∧ c ≤ 254) ∧ 0 ≤ o ∧ o ≤ 255 then (t.hear ag c.toNat o.toNat).1 else t
theorem thear_all {W : World} (hT : TbW W) {p : Nat} {ag : Nat → Nat → Bool} {t : Tb} (h : TbAt W p ag t) (c o : Int) (hn : t.sent ≤ 1000000) (hh : t.heard ≤ 1000000) :
    Calls Tryd.prog 8 #[.pointer (some ⟨p, 0, none⟩), .int .i64 c, .int .i64 o] W fun e w' => (∃ v r, e = .returned (.tuple #[v, r])) ∧ TbAt w' p ag (t.hearI ag c o) ∧ Only (· = p) W w' := by
  unfold Tb.hearI
  by_cases hc : 251 ≤ c ∧ c ≤ 254
  · by_cases ho : 0 ≤ o ∧ o ≤ 255
    · rw [if_pos ⟨hc, ho⟩]
      obtain ⟨v, rfl⟩ : ∃ v : Nat, c = (v : Int) := ⟨c.toNat, by omega⟩
      obtain ⟨x, rfl⟩ : ∃ x : Nat, o = (x : Int) := ⟨o.toNat, by omega⟩
      exact (thear_some hT h (v := v) (o := x) (by omega) (by omega) hn hh).mono fun e w' ⟨h1, h2, h3⟩ => ⟨⟨_, _, h1⟩, h2, h3⟩
    · rw [if_neg (fun h => ho h.2)]
      exact (thear_range hT p hc ho).mono fun e w' ⟨⟨u, x, _, h1⟩, h2⟩ => ⟨⟨_, _, h1⟩, h.same h2, h2.mono (fun _ h => h.elim)⟩
  · rw [if_neg (fun h => hc h.1)]
    exact (thear_kind hT p o hc).mono fun e w' ⟨⟨u, x, _, h1⟩, h2⟩ => ⟨⟨_, _, h1⟩, h.same h2, h2.mono (fun _ h => h.elim)⟩
def Tb.askI (t : Tb) (s o : Int) (on : Bool) : Tb := if (s = 0 ∨ s = 1) ∧ 0 ≤ o ∧ o ≤ 255 then (match t.ask s.toNat o.toNat on with | some r => r.1 | none => t) else t
theorem task_all {W : World} (hT : TbW W) {p : Nat} {ag : Nat → Nat → Bool} {t : Tb} (h : TbAt W p ag t) (s o : Int) (on : Bool) (hn : t.sent ≤ 1000000) (hh : t.asked ≤ 1000000) :
    Calls Tryd.prog 11 #[.pointer (some ⟨p, 0, none⟩), .int .i64 s, .int .i64 o, .bool on] W fun e w' => (∃ v r, e = .returned (.tuple #[v, r])) ∧ TbAt w' p ag (t.askI s o on) ∧ Only (· = p) W w' := by
  unfold Tb.askI
  by_cases hs : s = 0 ∨ s = 1
  · by_cases ho : 0 ≤ o ∧ o ≤ 255
    · rw [if_pos ⟨hs, ho⟩]
      obtain ⟨v, rfl⟩ : ∃ v : Nat, s = (v : Int) := ⟨s.toNat, by omega⟩
      obtain ⟨x, rfl⟩ : ∃ x : Nat, o = (x : Int) := ⟨o.toNat, by omega⟩
      simp only [Int.toNat_natCast, Tb.ask]
      cases hq : askQ (t.st v x) on with
      | none => exact (task_none hT h (by omega) (by omega) hq).mono fun e w' ⟨⟨u, x, _, h1⟩, h2⟩ => ⟨⟨_, _, h1⟩, h.same h2, h2.mono (fun _ h => h.elim)⟩
      | some m => exact (task_some hT h (by omega) (by omega) hq hn hh).mono fun e w' ⟨h1, h2, h3⟩ => ⟨⟨_, _, h1⟩, h2, h3⟩
    · rw [if_neg (fun h => ho h.2)]
      exact (task_range hT p on hs ho).mono fun e w' ⟨⟨u, x, _, h1⟩, h2⟩ => ⟨⟨_, _, h1⟩, h.same h2, h2.mono (fun _ h => h.elim)⟩
  · rw [if_neg (fun h => hs h.1)]
    exact (task_kind hT p o on hs).mono fun e w' ⟨⟨u, x, _, h1⟩, h2⟩ => ⟨⟨_, _, h1⟩, h.same h2, h2.mono (fun _ h => h.elim)⟩

theorem one_any {W : World} (hT : TbW W) {p : Nat} {ag : Nat → Nat → Bool} {t : Tb} (h : TbAt W p ag t) (a : Ac) (hn : t.sent ≤ 1000000) (hh : t.heard ≤ 1000000) (hk : t.asked ≤ 1000000) :
    Calls Tryd.prog 22 #[.pointer (some ⟨p, 0, none⟩), .agg #[.int .i64 a.k, .int .i64 a.c, .int .i64 a.o]] W fun e w' => e = .returned (.tuple #[]) ∧ TbAt w' p ag (t.step ag a) ∧ Only (· = p) W w' := by
  obtain ⟨k, c, o⟩ := a
  simp only
  have hp := h.lt
  have HH := Lib.hid (thear_all (hT.only (alloc_only (.cells #[.int .i64 k, .int .i64 c, .int .i64 o] 34))) (h.same (alloc_only (.cells #[.int .i64 k, .int .i64 c, .int .i64 o] 34))) c o hn hh)
  have HA := fun on => task_all (hT.only (alloc_only (.cells #[.int .i64 k, .int .i64 c, .int .i64 o] 34))) (h.same (alloc_only (.cells #[.int .i64 k, .int .i64 c, .int .i64 o] 34))) c o on hn hk
  have HA := Lib.hid HA
  have HTb := Lib.hid h
  have key : ∀ w' (t' : Tb), TbAt w' p ag t' → Only (· = p) (W.alloc (.cells #[.int .i64 k, .int .i64 c, .int .i64 o] 34)) w' → TbAt w' p ag t' ∧ Only (· = p) W w' := fun w' t' h1 h2 => ⟨h1, ((alloc_only (W := W) _).mono (T := (· = p)) (fun _ h => h.elim)).trans h2 (fun i hi => .inl hi)⟩
  have HKey := Lib.hid key
  clear h hT key
  by_cases h0 : k = 0
  · subst h0
    go_enter Tryd.func22, Tryd.ntmps22
    go_wp2_with (first
      | (go_at_call 8; refine HH.out.mono ?_; rintro e w1 ⟨⟨v, r, rfl⟩, ht1, ho1⟩)
      | fail)
    refine bodyPost_end (v := .tuple #[]) (by simp [results, Tryd.results22, go_sem]) rfl ?_
    exact ⟨rfl, HKey.out _ _ ht1 ho1⟩
  · by_cases h1 : k = 1
    · subst h1
      go_enter Tryd.func22, Tryd.ntmps22
      go_wp2_with (first
        | (go_at_call 11; refine (HA.out true).mono ?_; rintro e w1 ⟨⟨v, r, rfl⟩, ht1, ho1⟩)
        | fail)
      refine bodyPost_end (v := .tuple #[]) (by simp [results, Tryd.results22, go_sem]) rfl ?_
      exact ⟨rfl, HKey.out _ _ ht1 ho1⟩
    · by_cases h2 : k = 2
      · subst h2
        go_enter Tryd.func22, Tryd.ntmps22
        go_wp2_with (first
          | (go_at_call 11; refine (HA.out false).mono ?_; rintro e w1 ⟨⟨v, r, rfl⟩, ht1, ho1⟩)
          | fail)
        refine bodyPost_end (v := .tuple #[]) (by simp [results, Tryd.results22, go_sem]) rfl ?_
        exact ⟨rfl, HKey.out _ _ ht1 ho1⟩
      · have e : t.step ag ⟨k, c, o⟩ = t := by unfold Tb.step; rw [if_neg h0, if_neg (by simp only; omega)]
        rw [e]
        have d0 : (k == 0) = false := by simpa using h0
        have d1 : (k == 1) = false := by simpa using h1
        have d2 : (k == 2) = false := by simpa using h2
        have e0 : decide (k = 0) = false := by simpa using h0
        have e1 : decide (k = 1) = false := by simpa using h1
        have e2 : decide (k = 2) = false := by simpa using h2
        go_enter Tryd.func22, Tryd.ntmps22
        go_wp2
        refine bodyPost_end (v := .tuple #[]) (by simp [results, Tryd.results22, go_sem]) rfl ?_
        exact ⟨rfl, HKey.out _ _ (HTb.out.same (alloc_only _)) (Only.refl _ _)⟩
end Go.Proofs.YtpobglejobgmlaaDoor
