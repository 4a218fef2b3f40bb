/- QstateRests: two sides joined, as they lie in memory. -/
import Derived.Test.YthfancfmmphakaaDoorQsHear
import Derived.Test.YthfancfmmphakaaDoorQsStillL
import Derived.Test.YthfancfmmphakaaDoorInts
namespace Go.Proofs.YthfancfmmphakaaDoor
open Go Go.RowKit
set_option maxRecDepth 100000
set_option maxHeartbeats 4000000

theorem joints_small (ax ay : Bool) : (joints ax ay).all (fun t => decide (t.p.length ≤ 2) && decide (t.q.length ≤ 2)) = true := by cases ax <;> cases ay <;> decide +kernel
theorem Can.small {ax ay : Bool} {t : Jo} (h : Can ax ay t) : t.p.length ≤ 2 ∧ t.q.length ≤ 2 := by
  have := List.all_eq_true.1 (joints_small ax ay) t (List.contains_iff_mem.1 h)
  simpa using this
theorem hear_sends (s : Qs) (b a : Bool) : (hearQ s b a).2.1 ≤ 2 := by cases s <;> cases b <;> cases a <;> decide
theorem ask_sends {s : Qs} {on : Bool} {r : Qs × Nat} (h : askQ s on = some r) : r.2 ≤ 2 := by
  cases s <;> cases on <;> simp only [askQ, Option.some.injEq, reduceCtorEq] at h
  all_goals (subst h; decide)
theorem sentQ_length (k : Nat) : (sentQ k).length ≤ 1 := by rcases k with _ | k <;> simp [sentQ]

/-- Two sides joined. -/
structure Two (W w : World) (p q : Nat) (t : Jo) (ax ay : Bool) : Prop where
  x : SideAt w p t.x t.p ax
  y : SideAt w q t.y t.q ay
  ne : p ≠ q
  new : W.heap.size ≤ p ∧ W.heap.size ≤ q
  only : Only (fun _ => False) W w
section
variable {W w w1 w2 : World} {p q : Nat} {t : Jo} {ax ay : Bool}
theorem SideAt.same {s : Qs} {l : List Bool} {ag : Bool} (h : SideAt w p s l ag) (ho : Only (fun _ => False) w w1) : SideAt w1 p s l ag := by
  obtain ⟨A, n, c, h⟩ := h
  exact ⟨A, n, c, h.same ho⟩
theorem SideAt.blk {s : Qs} {l : List Bool} {ag : Bool} (h : SideAt w p s l ag) : ∃ cs, Blk w p 39 cs := by
  obtain ⟨A, n, c, h⟩ := h
  exact ⟨_, h.blk⟩
theorem Two.same (h : Two W w p q t ax ay) (ho : Only (fun _ => False) w w1) : Two W w1 p q t ax ay := ⟨h.x.same ho, h.y.same ho, h.ne, h.new, h.only.trans ho (fun _ h => h.elim)⟩
theorem Two.sentX (h : Two W w p q t ax ay) (ho : Only (fun _ => False) w w1) {s : Qs} {l : List Bool} (hs : SideAt w2 p s l ax) (ho2 : Only (· = p) w1 w2) : Two W w2 p q { t with x := s, p := l } ax ay := by
  obtain ⟨cs, hb⟩ := (h.x.same ho).blk
  exact ⟨hs, (h.y.same ho).beside hb h.ne.symm ho2, h.ne, h.new, (h.only.trans ho (fun _ h => h.elim)).trans ho2 (fun i hi => .inr (by have := h.new; omega))⟩
theorem Two.sentY (h : Two W w p q t ax ay) (ho : Only (fun _ => False) w w1) {s : Qs} {l : List Bool} (hs : SideAt w2 q s l ay) (ho2 : Only (· = q) w1 w2) : Two W w2 p q { t with y := s, q := l } ax ay := by
  obtain ⟨cs, hb⟩ := (h.y.same ho).blk
  exact ⟨(h.x.same ho).beside hb h.ne ho2, hs, h.ne, h.new, (h.only.trans ho (fun _ h => h.elim)).trans ho2 (fun i hi => .inr (by have := h.new; omega))⟩
theorem Two.heard (h : Two W w p q t ax ay) {u : Jo} (hx : SideAt w2 p u.x u.p ax) (hy : SideAt w2 q u.y u.q ay) (ho : Only (fun i => i = p ∨ i = q) w w2) : Two W w2 p q u ax ay :=
  ⟨hx, hy, h.ne, h.new, h.only.trans ho (fun i hi => .inr (by have := h.new; rcases hi with rfl | rfl <;> omega))⟩
/-- What can be read of both. -/
def TwoC (w : World) (p q : Nat) (t : Jo) (n m : Nat) (A B : Option Addr) (c d : Nat) : Prop :=
  (w.cell? ⟨p, 0, none⟩ = some (.int .i64 (t.x.kind : Int)) ∧ w.cell? ⟨p, 1, none⟩ = some (.bool t.x.opp) ∧ w.cell? ⟨p, 2, none⟩ = some (.slice A n c)) ∧
    w.cell? ⟨q, 0, none⟩ = some (.int .i64 (t.y.kind : Int)) ∧ w.cell? ⟨q, 1, none⟩ = some (.bool t.y.opp) ∧ w.cell? ⟨q, 2, none⟩ = some (.slice B m d)
theorem Two.cells (h : Two W w p q t ax ay) : ∃ n m A B c d, TwoC w p q t n m A B c d ∧ t.p.length = n ∧ t.q.length = m ∧ n ≤ c ∧ m ≤ d := by
  obtain ⟨A, n, c, hx⟩ := h.x
  obtain ⟨B, m, d, hy⟩ := h.y
  exact ⟨n, m, A, B, c, d, ⟨⟨hx.blk.cell 0, hx.blk.cell 1, hx.blk.cell 2⟩, hy.blk.cell 0, hy.blk.cell 1, hy.blk.cell 2⟩, hx.len, hy.len, hx.cap.1, hy.cap.1⟩

/-- The one hears the other one, and is not wrong. -/
theorem hearX_any (hT : QsW w) (h : Two W w p q t ax ay) (hc : Can ax ay t) {u : Jo} {b : Bool} (hu : t.hearX ax = some (u, b)) :
    Calls Tryd.prog 12 #[.pointer (some ⟨p, 0, none⟩), .pointer (some ⟨q, 0, none⟩)] w fun e w' => e = .returned (.bool true) ∧ Two W w' p q u ax ay := by
  obtain ⟨_, rfl⟩ := hc.hearX hu
  unfold Jo.hearX at hu
  split at hu
  · cases hu
  · next v l hq =>
    simp only [Option.some.injEq, Prod.mk.injEq] at hu
    obtain ⟨rfl, hw⟩ := hu
    exact (side_hear hT h.ne h.x (hq ▸ h.y) (by have := hc.small; omega) hw (hear_sends _ _ _)).mono fun e w' ⟨he, h1, h2, h3⟩ => ⟨he, h.heard h1 h2 h3⟩
theorem hearY_any (hT : QsW w) (h : Two W w p q t ax ay) (hc : Can ax ay t) {u : Jo} {b : Bool} (hu : t.hearY ay = some (u, b)) :
    Calls Tryd.prog 12 #[.pointer (some ⟨q, 0, none⟩), .pointer (some ⟨p, 0, none⟩)] w fun e w' => e = .returned (.bool true) ∧ Two W w' p q u ax ay := by
  obtain ⟨_, rfl⟩ := hc.hearY hu
  unfold Jo.hearY at hu
  split at hu
  · cases hu
  · next v l hp =>
    simp only [Option.some.injEq, Prod.mk.injEq] at hu
    obtain ⟨rfl, hw⟩ := hu
    exact (side_hear hT h.ne.symm h.y (hp ▸ h.x) (by have := hc.small; omega) hw (hear_sends _ _ _)).mono fun e w' ⟨he, h1, h2, h3⟩ => ⟨he, h.heard h2 h1 (h3.mono (fun i hi => .inl hi.symm))⟩
/-- How many are unheard behind a hearing. -/
theorem hearX_few {u : Jo} {b : Bool} (hu : t.hearX ax = some (u, b)) : 0 < t.q.length ∧ t.p.length + t.q.length ≤ u.p.length + u.q.length + 1 ∧ u.p.length + u.q.length ≤ t.p.length + t.q.length := by
  unfold Jo.hearX at hu
  split at hu
  · cases hu
  · next v l hq =>
    simp only [Option.some.injEq, Prod.mk.injEq] at hu
    obtain ⟨rfl, _⟩ := hu
    have := sentQ_length (hearQ t.x v ax).2.1
    simp only [hq, List.length_append, List.length_cons]
    omega
theorem hearY_few {u : Jo} {b : Bool} (hu : t.hearY ay = some (u, b)) : 0 < t.p.length ∧ t.p.length + t.q.length ≤ u.p.length + u.q.length + 1 ∧ u.p.length + u.q.length ≤ t.p.length + t.q.length := by
  unfold Jo.hearY at hu
  split at hu
  · cases hu
  · next v l hq =>
    simp only [Option.some.injEq, Prod.mk.injEq] at hu
    obtain ⟨rfl, _⟩ := hu
    have := sentQ_length (hearQ t.y v ay).2.1
    simp only [hq, List.length_append, List.length_cons]
    omega
end
end Go.Proofs.YthfancfmmphakaaDoor
