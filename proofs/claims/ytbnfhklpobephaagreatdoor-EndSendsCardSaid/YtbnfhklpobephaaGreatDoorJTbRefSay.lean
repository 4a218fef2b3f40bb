/- Several texts in one. -/
import Derived.Test.YtbnfhklpobephaaGreatDoorJTbSay
import Derived.Test.YtbnfhklpobephaaGreatDoorJRow1
import Derived.Test.YtbnfhklpobephaaGreatDoorJClean
/- Layer 11's document as plain functions: rows of options that were ever spoken of. -/
namespace Go.Proofs.YtbnfhklpobephaaGreatDoor

/-- A row: a side, an option, its state. -/
structure Rq where
  s : Nat
  o : Nat
  q : Qs
def keyR (r : Rq) (s o : Int) : Bool := decide ((r.s : Int) = s) && decide ((r.o : Int) = o)
def lookR : List Rq → Int → Int → Qs
  | [], _, _ => .no
  | r :: l, s, o => if keyR r s o then r.q else lookR l s o
def dropR (l : List Rq) (s o : Int) : List Rq := l.filter fun r => !keyR r s o
/-- What the rows say. -/
structure RowsAre (l : List Rq) (f : Nat → Nat → Qs) : Prop where
  look : ∀ (s o : Nat), s < 2 → o < 256 → lookR l s o = f s o
  valid : ∀ r ∈ l, r.s < 2 ∧ r.o < 256 ∧ lookR l r.s r.o = r.q
theorem keyR_iff {r : Rq} {s o : Nat} : keyR r s o = true ↔ r.s = s ∧ r.o = o := by simp [keyR]; omega
theorem lookR_append (l m : List Rq) (s o : Int) (h : ∀ r ∈ l, keyR r s o = false) : lookR (l ++ m) s o = lookR m s o := by
  induction l with
  | nil => rfl
  | cons r l ih => rw [List.cons_append, lookR, h r (List.mem_cons_self ..)]; exact ih fun r hr => h r (List.mem_cons_of_mem _ hr)
theorem lookR_drop (l : List Rq) {s o s' o' : Int} (m : List Rq) (h : ¬ (s' = s ∧ o' = o)) : lookR (dropR l s o ++ m) s' o' = lookR (l ++ m) s' o' := by
  induction l with
  | nil => rfl
  | cons r l ih =>
    unfold dropR at ih ⊢
    rw [List.filter_cons]
    by_cases hk : keyR r s o = true
    · have hk' : keyR r s' o' = false := by
        simp only [keyR, Bool.and_eq_true, decide_eq_true_eq] at hk
        simp only [keyR, Bool.and_eq_false_iff, decide_eq_false_iff_not]
        by_cases h1 : (r.s : Int) = s'
        · exact .inr fun h2 => h ⟨by omega, by omega⟩
        · exact .inl h1
      simp only [hk, Bool.not_true, Bool.false_eq_true, if_false, List.cons_append, lookR, hk']
      exact ih
    · have hk := Bool.eq_false_iff.2 hk
      simp only [hk, Bool.not_false, if_true, List.cons_append, lookR]
      rw [ih]
theorem lookR_snoc (l : List Rq) (s o : Int) (r : Rq) : lookR (l ++ [r]) s o = (if l.any (fun x => keyR x s o) then lookR l s o else if keyR r s o then r.q else .no) := by
  induction l with
  | nil => rfl
  | cons x l ih =>
    rw [List.cons_append, lookR, List.any_cons, lookR]
    by_cases h : keyR x s o = true
    · simp [h]
    · simp only [Bool.eq_false_iff.2 h, Bool.false_eq_true, if_false, Bool.false_or]; exact ih
theorem RowsAre.none {l : List Rq} {f : Nat → Nat → Qs} (h : RowsAre l f) {s o : Int} (hso : ¬ ((s = 0 ∨ s = 1) ∧ 0 ≤ o ∧ o ≤ 255)) : lookR l s o = .no := by
  have : ∀ r ∈ l, keyR r s o = false := fun r hr => by
    obtain ⟨h1, h2, _⟩ := h.valid r hr
    simp only [keyR, Bool.and_eq_false_iff, decide_eq_false_iff_not]
    by_cases e : (r.s : Int) = s
    · exact .inr fun e2 => hso ⟨by omega, by omega, by omega⟩
    · exact .inl e
  have e := lookR_append l [] s o this
  rw [List.append_nil] at e
  exact e
theorem RowsAre.get {l : List Rq} {t : Tb} (h : RowsAre l t.st) (s o : Int) : lookR l s o = t.get s o := by
  unfold Tb.get
  split
  · next hso =>
    have := h.look s.toNat o.toNat (by omega) (by omega)
    rwa [Int.toNat_of_nonneg (by omega), Int.toNat_of_nonneg (by omega)] at this
  · next hso => exact h.none hso
theorem RowsAre.set {l : List Rq} {f : Nat → Nat → Qs} (h : RowsAre l f) {s o : Nat} (hs : s < 2) (ho : o < 256) (q : Qs) : RowsAre (dropR l s o ++ [⟨s, o, q⟩]) (setQ f s o q) := by
  have hnew : lookR (dropR l s o ++ [⟨s, o, q⟩]) s o = q := by
    rw [lookR_append _ _ _ _ (fun r hr => by
      have := (List.mem_filter.1 hr).2
      simpa using this)]
    simp [lookR, keyR]
  have hold : ∀ s' o' : Nat, ¬ (s' = s ∧ o' = o) → lookR (dropR l s o ++ [⟨s, o, q⟩]) s' o' = lookR l s' o' := fun s' o' e => by
    rw [lookR_drop l _ (by omega), lookR_snoc]
    by_cases ha : (l.any fun x => keyR x s' o') = true
    · rw [if_pos ha]
    · rw [if_neg ha, if_neg (by rw [keyR_iff]; exact fun h => e ⟨h.1.symm, h.2.symm⟩)]
      have e2 := lookR_append l [] s' o' (fun r hr => Bool.eq_false_iff.2 fun hk => ha (List.any_eq_true.2 ⟨r, hr, hk⟩))
      rw [List.append_nil] at e2
      exact e2.symm
  refine ⟨fun s' o' hs' ho' => ?_, fun r hr => ?_⟩
  · unfold setQ
    by_cases e : s' = s ∧ o' = o
    · rw [if_pos e, e.1, e.2]; exact hnew
    · rw [if_neg e, hold s' o' e]; exact h.look s' o' hs' ho'
  · rcases List.mem_append.1 hr with hr | hr
    · obtain ⟨h1, h2⟩ := List.mem_filter.1 hr
      obtain ⟨h3, h4, h5⟩ := h.valid r h1
      refine ⟨h3, h4, ?_⟩
      rw [hold r.s r.o (fun e => by
        have : keyR r s o = true := keyR_iff.2 e
        rw [this] at h2
        cases h2)]
      exact h5
    · simp only [List.mem_cons, List.not_mem_nil, or_false] at hr
      subst hr
      exact ⟨hs, ho, hnew⟩
end Go.Proofs.YtbnfhklpobephaaGreatDoor
/- Package table: Calm. -/
namespace Go.Proofs.YtbnfhklpobephaaGreatDoor
open Go Go.RowKit
set_option maxRecDepth 100000
set_option maxHeartbeats 4000000

end Go.Proofs.YtbnfhklpobephaaGreatDoor
/- Package clean: Deaf, Idle. -/
namespace Go.Proofs.YtbnfhklpobephaaGreatDoor
open Go Go.RowKit
set_option maxRecDepth 100000
set_option maxHeartbeats 4000000

theorem cdeaf_in {w : World} {p mo : Nat} {tp : TypeId} {pre post : List Value} {k : Cl} (h : ClAt w p mo tp pre k post) :
    Calls Tryz.prog 77 #[.pointer (some ⟨p, mo, none⟩)] w fun e w' => e = .returned (.bool k.deaf) ∧ w' = w := by
  have c0 := h.cDeaf
  clear h
  go_enter Tryz.func77, Tryz.ntmps77
  go_wp2
  go_ret
  exact ⟨rfl, rfl⟩
end Go.Proofs.YtbnfhklpobephaaGreatDoor
/- What an end is asked: On, State, Calm, Counts, Deaf, Hub. -/
namespace Go.Proofs.YtbnfhklpobephaaGreatDoor
open Go Go.RowKit
set_option maxRecDepth 100000
set_option maxHeartbeats 4000000

section
variable {w : World} {p mo : Nat} {tp : TypeId} {pre post : List Value} {M R : Nat → Prop} {ag : Nat → Nat → Bool} {E : Ee}
theorem IsEe.tb (k : IsEe w p mo tp pre post M R ag E) : ∃ q1 q2, TbAt w p (mo + 263) tp q1 q2 ag E.T := by
  obtain ⟨_, _, _, _, _, _, _, k⟩ := k
  exact ⟨_, _, k.tbAt⟩
theorem IsEe.lt (k : IsEe w p mo tp pre post M R ag E) : p < w.heap.size := by
  obtain ⟨_, _, _, _, _, _, _, k⟩ := k
  exact k.lt
theorem IsEe.p18 (k : IsEe w p mo tp pre post M R ag E) : 18 ≤ p := by
  obtain ⟨_, _, _, _, _, _, _, k⟩ := k
  exact k.p18
theorem IsEe.m18 (k : IsEe w p mo tp pre post M R ag E) : ∀ i, M i → 18 ≤ i := by
  obtain ⟨_, _, _, _, _, _, _, k⟩ := k
  exact k.m18
theorem IsEe.mp (k : IsEe w p mo tp pre post M R ag E) : M p := by
  obtain ⟨_, _, _, _, _, _, _, k⟩ := k
  exact k.mp
theorem IsEe.mlt (k : IsEe w p mo tp pre post M R ag E) : ∀ i, M i → i < w.heap.size := by
  obtain ⟨_, _, _, _, _, _, _, k⟩ := k
  exact k.mlt
theorem IsEe.rlt (k : IsEe w p mo tp pre post M R ag E) : ∀ i, R i → i < w.heap.size := by
  obtain ⟨_, _, _, _, _, _, _, k⟩ := k
  exact k.rlt
theorem enOn (k : IsEe w p mo tp pre post M R ag E) (s o : Int) : Calls Tryz.prog 19 #[.pointer (some ⟨p, mo, none⟩), .int .i64 s, .int .i64 o] w fun e w' => e = .returned (.bool (E.on s o)) ∧ Only (fun _ => False) w w' := by
  obtain ⟨q1, q2, hT⟩ := k.tb
  have HO := Lib.hid (ton_any hT s o)
  unfold Ee.on
  generalize decide (E.T.get s o = .yes) = b at *
  clear k hT
  go_enter Tryz.func19, Tryz.ntmps19
  go_wp2_with (go_at_call 49; (with_reducible refine HO.out.mono ?_); rintro e w1 ⟨rfl, ho1⟩)
  go_ret
  exact ⟨rfl, ho1⟩
theorem enCounts (k : IsEe w p mo tp pre post M R ag E) : Calls Tryz.prog 13 #[.pointer (some ⟨p, mo, none⟩)] w fun e w' => e = .returned (.tuple #[.int .i64 (E.heard : Int), .int .i64 (E.asked : Int), .int .i64 (E.sent : Int)]) ∧ Only (fun _ => False) w w' := by
  obtain ⟨_, _, _, _, _, _, _, k⟩ := k
  have c1 : w.cell? ⟨p, mo + 1948, none⟩ = some (.int .i64 (E.heard : Int)) := k.tlIn.val (i := 1) rfl
  have c2 : w.cell? ⟨p, mo + 1949, none⟩ = some (.int .i64 (E.asked : Int)) := k.tlIn.val (i := 2) rfl
  have c3 : w.cell? ⟨p, mo + 1950, none⟩ = some (.int .i64 (E.sent : Int)) := k.tlIn.val (i := 3) rfl
  clear k
  go_enter Tryz.func13, Tryz.ntmps13
  go_wp2
  go_quiet (fail)
  go_wp2
  go_ret3
  exact ⟨rfl, (Only.refl _ _).drewN _⟩
theorem enDeaf (k : IsEe w p mo tp pre post M R ag E) : Calls Tryz.prog 32 #[.pointer (some ⟨p, mo, none⟩)] w fun e w' => e = .returned (.bool E.k.deaf) ∧ w' = w := by
  obtain ⟨_, _, _, _, _, _, _, k⟩ := k
  have HO := Lib.hid (cdeaf_in k.clAt)
  generalize E.k.deaf = b at *
  clear k
  go_enter Tryz.func32, Tryz.ntmps32
  go_wp2_with (go_at_call 77; (with_reducible refine HO.out.mono ?_); rintro e w1 ⟨rfl, e1⟩; subst w1)
  go_ret
  exact ⟨rfl, rfl⟩
end
end Go.Proofs.YtbnfhklpobephaaGreatDoor
/- Package codes: is a number a plain command's? -/
namespace Go.Proofs.YtbnfhklpobephaaGreatDoor
open Go Go.RowKit

theorem cplain_any (W : World) (c : Int) : Calls Tryz.prog 127 #[.int .i64 c] W fun e w' => e = .returned (.bool (decide (241 ≤ c ∧ c ≤ 249))) ∧ w' = W := by
  by_cases h1 : c < 241
  · go_enter Tryz.func127, Tryz.ntmps127
    go_wp2
    go_ret
    refine ⟨congrArg (fun b => Ending.returned (Value.bool b)) ?_, rfl⟩
    first | (simp; done) | (simp; omega)
  · go_enter Tryz.func127, Tryz.ntmps127
    go_wp2
    go_ret
    refine ⟨congrArg (fun b => Ending.returned (Value.bool b)) ?_, rfl⟩
    first | (simp; done) | (simp; omega)
end Go.Proofs.YtbnfhklpobephaaGreatDoor
