/- QstateRests: what an act does with two sides joined. -/
import Derived.Test.YthfancfmmphakaaDoorQsTwo
namespace Go.Proofs.YthfancfmmphakaaDoor
open Go Go.RowKit
set_option maxRecDepth 100000
set_option maxHeartbeats 4000000

/-- Behind an act: what is unheard, and by how many it has grown. -/
def Went (W w2 : World) (p q : Nat) (ax ay : Bool) (n : Nat) : Prop := ∃ u d, d ≤ 1 ∧ Can ax ay u ∧ Two W w2 p q u ax ay ∧ u.p.length + u.q.length = n + d
theorem Went.same {W w w2 : World} {p q n : Nat} {ax ay : Bool} (h : Went W w p q ax ay n) (ho : Only (fun _ => False) w w2) : Went W w2 p q ax ay n := by
  obtain ⟨u, d, h1, h2, h3, h4⟩ := h
  exact ⟨u, d, h1, h2, h3.same ho, h4⟩
/-- A side is asked: its state's cells, and what comes of it. -/
def OwnAsk (W w : World) (p q o : Nat) (ax ay on : Bool) (n : Nat) : Prop :=
  ∃ (sk : Int) (so : Bool), (w.cell? ⟨o, 0, none⟩ = some (.int .i64 sk) ∧ w.cell? ⟨o, 1, none⟩ = some (.bool so)) ∧
    ((∃ (zk : Int) (zo : Bool) (zm : Int), Hid (∀ w1, Only (fun _ => False) w w1 → Calls Tryd.prog 8 #[.agg #[.int .i64 sk, .bool so], .bool on] w1 fun e w2 => e = .returned (.tuple #[.agg #[.int .i64 zk, .bool zo, .int .i64 zm, .bool false], .nilIface]) ∧ Only (fun _ => False) w1 w2) ∧
        Hid (∀ w1, Only (fun _ => False) w w1 → Calls Tryd.prog 11 #[.pointer (some ⟨o, 0, none⟩), .agg #[.int .i64 zk, .bool zo, .int .i64 zm, .bool false]] w1 fun e w2 => e = .returned (.tuple #[]) ∧ Hid (Went W w2 p q ax ay n)))
      ∨ Hid (∀ w1, Only (fun _ => False) w w1 → Calls Tryd.prog 8 #[.agg #[.int .i64 sk, .bool so], .bool on] w1 fun e w2 => (∃ u v, e = .returned (.tuple #[.agg #[.int .i64 0, .bool false, .int .i64 0, .bool false], .iface u v])) ∧ Only (fun _ => False) w1 w2))
section
variable {W w w1 w2 : World} {p q : Nat} {t : Jo} {ax ay : Bool}
theorem side_asked {o : Nat} {s : Qs} {l : List Bool} {ag : Bool} (hT : QsW w) (hs : SideAt w o s l ag) (hl : l.length ≤ 1000) (on : Bool) (n : Nat)
    (h : ∀ r w1 w2, askQ s on = some r → Only (fun _ => False) w w1 → SideAt w2 o r.1 (l ++ sentQ r.2) ag → Only (· = o) w1 w2 → Went W w2 p q ax ay n) : OwnAsk W w p q o ax ay on n := by
  obtain ⟨A, m, c, hv⟩ := hs
  refine ⟨_, _, ⟨hv.blk.cell 0, hv.blk.cell 1⟩, ?_⟩
  cases ha : askQ s on with
  | some r =>
    refine .inl ⟨(r.1.kind : Int), r.1.opp, (r.2 : Int), fun w1 ho => (ask_some (hT.only ho) _ _ on (qsOf_kind s)).mono fun e w2 h2 => ?_, fun w1 ho => (send_any (s := s) (l := l) (ag := ag) ⟨A, m, c, hv.same ho⟩ hl r.1 r.2 false (ask_sends ha)).mono fun e w2 ⟨h1, h2, h3⟩ => ⟨h1, h r w1 w2 ha ho h2 h3⟩⟩
    rcases h2 with ⟨r', hr, h2⟩ | ⟨hr, _⟩
    · rw [ha] at hr
      injection hr with hr
      subst hr
      exact h2
    · rw [ha] at hr
      cases hr
  | none =>
    refine .inr fun w1 ho => (ask_some (hT.only ho) _ _ on (qsOf_kind s)).mono fun e w2 h2 => ?_
    rcases h2 with ⟨r', hr, _⟩ | ⟨_, h2⟩
    · rw [ha] at hr
      cases hr
    · exact h2
theorem Two.askX (hT : QsW w) (h : Two W w p q t ax ay) (hc : Can ax ay t) (on : Bool) : OwnAsk W w p q p ax ay on (t.p.length + t.q.length) :=
  side_asked hT h.x (by have := hc.small; omega) on _ fun r w1 w2 ha ho hs ho2 =>
    ⟨{ t with x := r.1, p := t.p ++ sentQ r.2 }, (sentQ r.2).length, sentQ_length _, hc.askX (on := on) (by unfold Jo.askX; rw [ha]; rfl), h.sentX ho hs ho2, by simp only [List.length_append]; omega⟩
theorem Two.askY (hT : QsW w) (h : Two W w p q t ax ay) (hc : Can ax ay t) (on : Bool) : OwnAsk W w p q q ax ay on (t.p.length + t.q.length) :=
  side_asked hT h.y (by have := hc.small; omega) on _ fun r w1 w2 ha ho hs ho2 =>
    ⟨{ t with y := r.1, q := t.q ++ sentQ r.2 }, (sentQ r.2).length, sentQ_length _, hc.askY (on := on) (by unfold Jo.askY; rw [ha]; rfl), h.sentY ho hs ho2, by simp only [List.length_append]; omega⟩
/-- The one hears. -/
theorem Two.hearsX (hT : QsW w) (h : Two W w p q t ax ay) (hc : Can ax ay t) (hq : 0 < t.q.length) :
    Calls Tryd.prog 12 #[.pointer (some ⟨p, 0, none⟩), .pointer (some ⟨q, 0, none⟩)] w fun e w' => e = .returned (.bool true) ∧ Hid (Went W w' p q ax ay (t.p.length + t.q.length - 1)) := by
  obtain ⟨⟨u, b⟩, hu⟩ : ∃ r, t.hearX ax = some r := by
    unfold Jo.hearX
    split
    · next e => rw [e] at hq; cases hq
    · exact ⟨_, rfl⟩
  have hf := hearX_few hu
  exact (hearX_any hT h hc hu).mono fun e w' ⟨he, h2⟩ => ⟨he, u, u.p.length + u.q.length + 1 - (t.p.length + t.q.length), by omega, (hc.hearX hu).1, h2, by omega⟩
theorem Two.hearsY (hT : QsW w) (h : Two W w p q t ax ay) (hc : Can ax ay t) (hp : 0 < t.p.length) :
    Calls Tryd.prog 12 #[.pointer (some ⟨q, 0, none⟩), .pointer (some ⟨p, 0, none⟩)] w fun e w' => e = .returned (.bool true) ∧ Hid (Went W w' p q ax ay (t.p.length + t.q.length - 1)) := by
  obtain ⟨⟨u, b⟩, hu⟩ : ∃ r, t.hearY ay = some r := by
    unfold Jo.hearY
    split
    · next e => rw [e] at hp; cases hp
    · exact ⟨_, rfl⟩
  have hf := hearY_few hu
  exact (hearY_any hT h hc hu).mono fun e w' ⟨he, h2⟩ => ⟨he, u, u.p.length + u.q.length + 1 - (t.p.length + t.q.length), by omega, (hc.hearY hu).1, h2, by omega⟩
/-- A turn, half by half. -/
def Jo.halfX (ax : Bool) (t : Jo) : Jo := match t.hearX ax with | some r => r.1 | none => t
def Jo.halfY (ay : Bool) (t : Jo) : Jo := match t.hearY ay with | some r => r.1 | none => t
theorem turn_halves (ax ay : Bool) (t : Jo) : t.turn ax ay = (t.halfX ax).halfY ay := rfl
theorem halfX_none (h : t.q.length = 0) : t.halfX ax = t := by
  unfold Jo.halfX Jo.hearX
  rw [List.eq_nil_of_length_eq_zero h]
theorem halfY_none (h : t.p.length = 0) : t.halfY ay = t := by
  unfold Jo.halfY Jo.hearY
  rw [List.eq_nil_of_length_eq_zero h]
theorem Can.halfX (hc : Can ax ay t) : Can ax ay (t.halfX ax) := by
  unfold Jo.halfX
  split
  · next r hu => exact (hc.hearX (u := r.1) (b := r.2) hu).1
  · exact hc
theorem Can.halfY (hc : Can ax ay t) : Can ax ay (t.halfY ay) := by
  unfold Jo.halfY
  split
  · next r hu => exact (hc.hearY (u := r.1) (b := r.2) hu).1
  · exact hc
theorem Two.halfX (hT : QsW w) (h : Two W w p q t ax ay) (hc : Can ax ay t) (hq : 0 < t.q.length) :
    Calls Tryd.prog 12 #[.pointer (some ⟨p, 0, none⟩), .pointer (some ⟨q, 0, none⟩)] w fun e w' => e = .returned (.bool true) ∧ Hid (Two W w' p q (t.halfX ax) ax ay) := by
  obtain ⟨⟨u, b⟩, hu⟩ : ∃ r, t.hearX ax = some r := by
    unfold Jo.hearX
    split
    · next e => rw [e] at hq; cases hq
    · exact ⟨_, rfl⟩
  have e : t.halfX ax = u := by unfold Jo.halfX; rw [hu]
  rw [e]
  exact hearX_any hT h hc hu
theorem Two.halfY (hT : QsW w) (h : Two W w p q t ax ay) (hc : Can ax ay t) (hp : 0 < t.p.length) :
    Calls Tryd.prog 12 #[.pointer (some ⟨q, 0, none⟩), .pointer (some ⟨p, 0, none⟩)] w fun e w' => e = .returned (.bool true) ∧ Hid (Two W w' p q (t.halfY ay) ax ay) := by
  obtain ⟨⟨u, b⟩, hu⟩ : ∃ r, t.hearY ay = some r := by
    unfold Jo.hearY
    split
    · next e => rw [e] at hp; cases hp
    · exact ⟨_, rfl⟩
  have e : t.halfY ay = u := by unfold Jo.halfY; rw [hu]
  rw [e]
  exact hearY_any hT h hc hu
/-- At rest: the cells of both states are the same, and calm. -/
theorem Two.rests (h : Two W w p q t ax ay) (hc : Can ax ay t) (hp : t.p.length = 0) (hq : t.q.length = 0) : ∃ (k : Int) (o : Bool),
    (∀ w', Only (fun _ => False) w w' → (w'.cell? ⟨p, 0, none⟩ = some (.int .i64 k) ∧ w'.cell? ⟨p, 1, none⟩ = some (.bool o)) ∧ w'.cell? ⟨q, 0, none⟩ = some (.int .i64 k) ∧ w'.cell? ⟨q, 1, none⟩ = some (.bool o)) ∧
      ∀ w', Calls Tryd.prog 9 #[.agg #[.int .i64 k, .bool o]] w' fun e w2 => e = .returned (.bool true) ∧ Only (fun _ => False) w' w2 := by
  obtain ⟨h1, h2⟩ := hc.rest (List.eq_nil_of_length_eq_zero hp) (List.eq_nil_of_length_eq_zero hq)
  refine ⟨(t.x.kind : Int), t.x.opp, fun w' ho => ?_, fun w' => ?_⟩
  · obtain ⟨n, m, A, B, c, d, ⟨⟨x0, x1, _⟩, y0, y1, _⟩, _⟩ := (h.same ho).cells
    rw [← h2] at y0 y1
    exact ⟨⟨x0, x1⟩, y0, y1⟩
  · have := calm_any w' (t.x.kind : Int) t.x.opp
    rcases hx : t.x with _ | _ | _ | _ | _ | _ <;> rw [hx] at h1 this <;> first | exact this | exact absurd h1 (by decide)
end
end Go.Proofs.YthfancfmmphakaaDoor
