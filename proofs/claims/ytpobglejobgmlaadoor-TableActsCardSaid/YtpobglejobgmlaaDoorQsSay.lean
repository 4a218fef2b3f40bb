/- Layer 10 as plain functions: one side of one option; two sides joined by rows: from the first state on, whoever asks for what meanwhile, so many joint states can be, and from each they come to rest. -/
import Derived.Test.YtpobglejobgmlaaDoorBase
namespace Go.Proofs.YtpobglejobgmlaaDoor

/-- A right state: its kind, and whether it is Opposite. -/
inductive Qs where
  | no | yes | wn | wnO | wy | wyO
  deriving DecidableEq
def Qs.kind : Qs → Nat
  | .no => 0 | .yes => 1 | .wn => 2 | .wnO => 2 | .wy => 3 | .wyO => 3
def Qs.opp : Qs → Bool
  | .wnO => true | .wyO => true | _ => false
/-- Which one it is, if it is right. -/
def qsOf (k : Int) (o : Bool) : Option Qs :=
  if k = 0 ∧ o = false then some .no else if k = 1 ∧ o = false then some .yes
  else if k = 2 then some (if o then .wnO else .wn) else if k = 3 then some (if o then .wyO else .wy) else none
theorem qsOf_kind (s : Qs) : qsOf (s.kind : Int) s.opp = some s := by cases s <;> rfl
theorem qsOf_some {k : Int} {o : Bool} {s : Qs} (h : qsOf k o = some s) : k = (s.kind : Int) ∧ o = s.opp := by
  unfold qsOf at h
  split at h
  · next e => obtain ⟨rfl, rfl⟩ := e; injection h with h; subst h; exact ⟨rfl, rfl⟩
  · split at h
    · next e => obtain ⟨rfl, rfl⟩ := e; injection h with h; subst h; exact ⟨rfl, rfl⟩
    · split at h
      · next e => subst e; injection h with h; subst h; cases o <;> exact ⟨rfl, rfl⟩
      · split at h
        · next e => subst e; injection h with h; subst h; cases o <;> exact ⟨rfl, rfl⟩
        · cases h
/-- A verb is heard, for (is) or against: the state behind it, what is sent (0: nothing, 1: for, 2: against), whether it was wrong. -/
def hearQ : Qs → Bool → Bool → Qs × Nat × Bool
  | .no, true, true => (.yes, 1, false)
  | .no, true, false => (.no, 2, false)
  | .yes, true, _ => (.yes, 0, false)
  | .wn, true, _ => (.no, 0, true)
  | .wnO, true, _ => (.yes, 0, true)
  | .wy, true, _ => (.yes, 0, false)
  | .wyO, true, _ => (.wn, 2, false)
  | .no, false, _ => (.no, 0, false)
  | .yes, false, _ => (.no, 2, false)
  | .wn, false, _ => (.no, 0, false)
  | .wnO, false, _ => (.wy, 1, false)
  | .wy, false, _ => (.no, 0, false)
  | .wyO, false, _ => (.no, 0, false)
/-- We ask. -/
def askQ : Qs → Bool → Option (Qs × Nat)
  | .no, true => some (.wy, 1)
  | .wn, true => some (.wnO, 0)
  | .wyO, true => some (.wy, 0)
  | .yes, false => some (.wn, 2)
  | .wnO, false => some (.wn, 0)
  | .wy, false => some (.wyO, 0)
  | _, _ => none
def calmQ (s : Qs) : Bool := decide (s = .no) || decide (s = .yes)
/-- What is sent, as the other side hears it. -/
def sentQ : Nat → List Bool
  | 0 => []
  | n => [decide (n = 1)]

/-- Two sides, and of each what it sent that the other one hasn't heard. -/
structure Jo where
  x : Qs
  p : List Bool
  y : Qs
  q : List Bool
  deriving DecidableEq
/-- The one asks; the other one asks; the one hears; the other one hears. -/
def Jo.askX (t : Jo) (on : Bool) : Option Jo := (askQ t.x on).map fun r => { t with x := r.1, p := t.p ++ sentQ r.2 }
def Jo.askY (t : Jo) (on : Bool) : Option Jo := (askQ t.y on).map fun r => { t with y := r.1, q := t.q ++ sentQ r.2 }
def Jo.hearX (ax : Bool) (t : Jo) : Option (Jo × Bool) :=
  match t.q with
  | [] => none
  | b :: q => some ({ t with x := (hearQ t.x b ax).1, p := t.p ++ sentQ (hearQ t.x b ax).2.1, q := q }, (hearQ t.x b ax).2.2)
def Jo.hearY (ay : Bool) (t : Jo) : Option (Jo × Bool) :=
  match t.p with
  | [] => none
  | b :: p => some ({ t with y := (hearQ t.y b ay).1, q := t.q ++ sentQ (hearQ t.y b ay).2.1, p := p }, (hearQ t.y b ay).2.2)
def Jo.next (ax ay : Bool) (t : Jo) : List Jo :=
  (t.askX true).toList ++ (t.askX false).toList ++ (t.askY true).toList ++ (t.askY false).toList ++ ((t.hearX ax).toList.map Prod.fst) ++ ((t.hearY ay).toList.map Prod.fst)
def closeQ (ax ay : Bool) : Nat → List Jo → List Jo → List Jo
  | 0, _, seen => seen
  | n + 1, new, seen =>
    let fresh := (new.flatMap (Jo.next ax ay)).foldl (fun (acc : List Jo) t => if seen.contains t || acc.contains t then acc else t :: acc) []
    closeQ ax ay n fresh (seen ++ fresh)
def Jo.zero : Jo := ⟨.no, [], .no, []⟩
/-- All joint states that can be. -/
def joints (ax ay : Bool) : List Jo := closeQ ax ay 12 [.zero] [.zero]
/-- A turn: the one hears, if something was sent; then the other one. -/
def Jo.turn (ax ay : Bool) (t : Jo) : Jo :=
  let t := match t.hearX ax with | some r => r.1 | none => t
  match t.hearY ay with | some r => r.1 | none => t
/-- So many turns till nothing is left unheard. -/
def Jo.turns (ax ay : Bool) : Nat → Jo → Nat
  | 0, _ => 0
  | n + 1, t => if t.p.isEmpty && t.q.isEmpty then 0 else (Jo.turns ax ay n (t.turn ax ay)) + 1
def Jo.ok (ax ay : Bool) (l : List Jo) (t : Jo) : Bool :=
  (t.next ax ay).all (fun u => l.contains u) && ((t.hearX ax).all fun r => !r.2) && ((t.hearY ay).all fun r => !r.2) &&
    decide (t.turns ax ay 6 ≤ 4) && (if t.p.isEmpty && t.q.isEmpty then calmQ t.x && decide (t.x = t.y) else decide ((t.turn ax ay).turns ax ay 6 + 1 = t.turns ax ay 6))
theorem joints_ok (ax ay : Bool) : (joints ax ay).all (Jo.ok ax ay (joints ax ay)) = true := by
  cases ax <;> cases ay <;> decide +kernel

/-- It can be. -/
def Can (ax ay : Bool) (t : Jo) : Prop := (joints ax ay).contains t = true
theorem can_zero (ax ay : Bool) : Can ax ay .zero := by cases ax <;> cases ay <;> (unfold Can; decide +kernel)
section
variable {ax ay : Bool} {t u : Jo}
theorem Can.ok (h : Can ax ay t) : Jo.ok ax ay (joints ax ay) t = true := List.all_eq_true.1 (joints_ok ax ay) t (List.contains_iff_mem.1 h)
theorem Can.next (h : Can ax ay t) (hu : u ∈ t.next ax ay) : Can ax ay u := by
  have := h.ok
  simp only [Jo.ok, Bool.and_eq_true] at this
  exact List.all_eq_true.1 this.1.1.1.1 u hu
theorem Can.askX {on : Bool} (h : Can ax ay t) (hu : t.askX on = some u) : Can ax ay u := h.next (by unfold Jo.next; cases on <;> simp [hu])
theorem Can.askY {on : Bool} (h : Can ax ay t) (hu : t.askY on = some u) : Can ax ay u := h.next (by unfold Jo.next; cases on <;> simp [hu])
theorem Can.hearX {b : Bool} (h : Can ax ay t) (hu : t.hearX ax = some (u, b)) : Can ax ay u ∧ b = false := by
  refine ⟨h.next (by unfold Jo.next; simp [hu]), ?_⟩
  have := h.ok
  simp only [Jo.ok, Bool.and_eq_true] at this
  simpa [hu] using this.1.1.1.2
theorem Can.hearY {b : Bool} (h : Can ax ay t) (hu : t.hearY ay = some (u, b)) : Can ax ay u ∧ b = false := by
  refine ⟨h.next (by unfold Jo.next; simp [hu]), ?_⟩
  have := h.ok
  simp only [Jo.ok, Bool.and_eq_true] at this
  simpa [hu] using this.1.1.2
/-- How many turns it still takes. -/
theorem Can.few (h : Can ax ay t) : t.turns ax ay 6 ≤ 4 := by
  have := h.ok
  simp only [Jo.ok, Bool.and_eq_true, decide_eq_true_eq] at this
  exact this.1.2
theorem Can.rest (h : Can ax ay t) (hp : t.p = []) (hq : t.q = []) : calmQ t.x = true ∧ t.x = t.y := by
  have := h.ok
  simp only [Jo.ok, Bool.and_eq_true] at this
  have h2 := this.2
  rw [hp, hq] at h2
  simpa using h2
theorem Can.less (h : Can ax ay t) (hn : ¬ (t.p = [] ∧ t.q = [])) : (t.turn ax ay).turns ax ay 6 + 1 = t.turns ax ay 6 := by
  have := h.ok
  simp only [Jo.ok, Bool.and_eq_true] at this
  have h2 := this.2
  rw [if_neg (by simpa using hn)] at h2
  simpa using h2
end
end Go.Proofs.YtpobglejobgmlaaDoor
