/- TableRests: two tables joined, as they lie in memory. -/
import Derived.Test.YtpobglejobgmlaaDoorTbCalm
import Derived.Test.YtpobglejobgmlaaDoorTbSHear
import Derived.Test.YtpobglejobgmlaaDoorTbOne
namespace Go.Proofs.YtpobglejobgmlaaDoor
open Go Go.RowKit
set_option maxRecDepth 100000
set_option maxHeartbeats 4000000

theorem sendV_length (s k o : Nat) : (sendV s k o).length ≤ 1 := by unfold sendV; split <;> simp
/-- The lowest bit. -/
theorem and_one (x : Int) : ∃ i : Nat, bits .and .i64 x 1 = (i : Int) ∧ i < 2 := by
  have h : (BitVec.ofInt 64 x &&& BitVec.ofInt 64 1).toNat = (BitVec.ofInt 64 x).toNat % 2 := by
    rw [BitVec.toNat_and]
    exact Nat.and_one_is_mod _
  have e : bits .and .i64 x 1 = IntKind.wrap .i64 ((BitVec.ofInt 64 x &&& BitVec.ofInt 64 1).toNat : Int) := rfl
  rw [e, h]
  rcases Nat.mod_two_eq_zero_or_one (BitVec.ofInt 64 x).toNat with h2 | h2 <;> rw [h2]
  · exact ⟨0, rfl, by omega⟩
  · exact ⟨1, rfl, by omega⟩
/-- Two tables joined, behind so many acts. -/
structure Tw (W0 w : World) (M s o p q : Nat) (ga gb : Nat → Nat → Bool) (j : Nat) (T U : Tb) (l m : List (Nat × Nat)) : Prop where
  arr : Blk w M 66 [.pointer (some ⟨s, 0, none⟩), .pointer (some ⟨o, 0, none⟩)]
  x : SdAt w s p ga T l
  y : SdAt w o q gb U m
  so : s ≠ o
  pq : p ≠ q
  new : W0.heap.size ≤ M ∧ W0.heap.size ≤ s ∧ W0.heap.size ≤ o ∧ W0.heap.size ≤ p ∧ W0.heap.size ≤ q
  only : Only (fun _ => False) W0 w
  ok : Tj.Ok ga gb ⟨T.st, l, U.st, m⟩
  pot : T.heard + U.heard + Tj.pot ga gb ⟨T.st, l, U.st, m⟩ ≤ 2 * j
  asked : T.asked + U.asked ≤ j
  sent : T.sent + U.sent ≤ T.heard + U.heard + (T.asked + U.asked)
  few : l.length + m.length ≤ j
theorem SdAt.blk {w : World} {s p : Nat} {ag : Nat → Nat → Bool} {T : Tb} {l : List (Nat × Nat)} (h : SdAt w s p ag T l) : ∃ cs, Blk w s 65 cs := by
  obtain ⟨A, n, c, h⟩ := h
  exact ⟨_, h.blk⟩
theorem SdAt.tab {w : World} {s p : Nat} {ag : Nat → Nat → Bool} {T : Tb} {l : List (Nat × Nat)} (h : SdAt w s p ag T l) : TbAt w p ag T := by
  obtain ⟨A, n, c, h⟩ := h
  exact h.tab
section
variable {W0 w w' : World} {M s o p q : Nat} {ga gb : Nat → Nat → Bool} {j : Nat} {T U : Tb} {l m : List (Nat × Nat)}
theorem Tw.same (h : Tw W0 w M s o p q ga gb j T U l m) (ho : Only (fun _ => False) w w') : Tw W0 w' M s o p q ga gb j T U l m :=
  { h with arr := h.arr.only ho (fun h => h), x := h.x.same ho, y := h.y.same ho, only := h.only.trans ho (fun _ h => h.elim) }
theorem Tw.later {k : Nat} (h : Tw W0 w M s o p q ga gb j T U l m) (hk : j ≤ k) : Tw W0 w M s o p q ga gb k T U l m :=
  { h with pot := by have := h.pot; omega, asked := by have := h.asked; omega, few := by have := h.few; omega }
/-- The array of both is none of theirs. -/
theorem Tw.arr_ne (h : Tw W0 w M s o p q ga gb j T U l m) : M ≠ s ∧ M ≠ o ∧ M ≠ p ∧ M ≠ q := by
  obtain ⟨c1, h1⟩ := h.x.blk
  obtain ⟨c2, h2⟩ := h.y.blk
  exact ⟨h.arr.ne h1 (by decide), h.arr.ne h2 (by decide), h.x.tab.ne h.arr (by decide), h.y.tab.ne h.arr (by decide)⟩
/-- What can be read of both. -/
theorem Tw.cells (h : Tw W0 w M s o p q ga gb j T U l m) : ∃ (n1 n2 : Nat) (A1 A2 : Option Addr) (c1 c2 : Nat),
    ((w.cell? ⟨M, 0, none⟩ = some (.pointer (some ⟨s, 0, none⟩)) ∧ w.cell? ⟨M, 1, none⟩ = some (.pointer (some ⟨o, 0, none⟩))) ∧
      (w.cell? ⟨s, 0, none⟩ = some (.pointer (some ⟨p, 0, none⟩)) ∧ w.cell? ⟨s, 1, none⟩ = some (.slice A1 n1 c1)) ∧
        w.cell? ⟨o, 0, none⟩ = some (.pointer (some ⟨q, 0, none⟩)) ∧ w.cell? ⟨o, 1, none⟩ = some (.slice A2 n2 c2)) ∧
      l.length = n1 ∧ m.length = n2 := by
  obtain ⟨A1, n1, c1, h1⟩ := h.x
  obtain ⟨A2, n2, c2, h2⟩ := h.y
  exact ⟨n1, n2, A1, A2, c1, c2, ⟨⟨h.arr.cell 0, h.arr.cell 1⟩, ⟨h1.blk.cell 0, h1.blk.cell 1⟩, h2.blk.cell 0, h2.blk.cell 1⟩, h1.len, h2.len⟩

/-- The one hears. -/
theorem Tw.hearA (hT : TbW W0) (h : Tw W0 w M s o p q ga gb j T U l m) (hj : j ≤ 60) (hm : 0 < m.length) :
    Calls Tryd.prog 23 #[.pointer (some ⟨s, 0, none⟩), .pointer (some ⟨o, 0, none⟩)] w fun e w' => e = .returned (.bool true) ∧ Hid (∃ T' l' m', Tw W0 w' M s o p q ga gb j T' U l' m' ∧ Tj.pot ga gb ⟨T'.st, l', U.st, m'⟩ + 1 = Tj.pot ga gb ⟨T.st, l, U.st, m⟩) := by
  obtain ⟨⟨v, x⟩, m2, rfl⟩ := List.exists_cons_of_length_pos hm
  obtain ⟨hv, hx⟩ := h.ok.vq (v, x) (List.mem_cons_self ..)
  obtain ⟨hok, hpot, hw⟩ := h.ok.hearsA (v := v) (o := x) (q := m2) rfl
  have e0 : Tj.hearsA ga ⟨T.st, l, U.st, (v, x) :: m2⟩ v x m2 = ⟨(T.hear ga v x).1.st, l ++ sendV (sideV v) (hearQ (T.st (sideV v) x) (forV v) (ga (sideV v) x)).2.1 x, U.st, m2⟩ := rfl
  rw [e0] at hok hpot
  have hp := h.pot
  have ha := h.asked
  have hs := h.sent
  have hf := h.few
  obtain ⟨n1, n2, n3, n4, n5⟩ := h.new
  obtain ⟨a1, a2, a3, a4⟩ := h.arr_ne
  refine (side_hear hT h.only h.x h.y h.so h.pq n2 n3 n4 hv hx (by omega) (by omega) (by omega) hw).mono fun e w' ⟨he, h1, h2, h3⟩ => ⟨he, (T.hear ga v x).1, l ++ sendV (sideV v) (hearQ (T.st (sideV v) x) (forV v) (ga (sideV v) x)).2.1 x, m2, ?_, hpot⟩
  have hsl := sendV_length (sideV v) (hearQ (T.st (sideV v) x) (forV v) (ga (sideV v) x)).2.1 x
  have hsn := sentN_le (hearQ (T.st (sideV v) x) (forV v) (ga (sideV v) x)).2.1
  refine ⟨h.arr.only h3 (fun hh => by rcases hh with hh | hh | hh; exact a1 hh; exact a2 hh; exact a3 hh), h1, h2, h.so, h.pq, h.new, h.only.trans h3 (fun i hi => .inr (by rcases hi with rfl | rfl | rfl; exact n2; exact n3; exact n4)), hok, ?_, ha, ?_, ?_⟩
  · obtain ⟨P1, hP1⟩ : ∃ P1, P1 = Tj.pot ga gb ⟨(T.hear ga v x).1.st, l ++ sendV (sideV v) (hearQ (T.st (sideV v) x) (forV v) (ga (sideV v) x)).2.1 x, U.st, m2⟩ := ⟨_, rfl⟩
    rw [← hP1] at hpot ⊢
    show T.heard + 1 + U.heard + P1 ≤ _
    omega
  · simp only [Tb.hear]
    omega
  · rw [List.length_append]
    simp only [List.length_cons] at hf
    omega
theorem Tw.hearB (hT : TbW W0) (h : Tw W0 w M s o p q ga gb j T U l m) (hj : j ≤ 60) (hl : 0 < l.length) :
    Calls Tryd.prog 23 #[.pointer (some ⟨o, 0, none⟩), .pointer (some ⟨s, 0, none⟩)] w fun e w' => e = .returned (.bool true) ∧ Hid (∃ U' l' m', Tw W0 w' M s o p q ga gb j T U' l' m' ∧ Tj.pot ga gb ⟨T.st, l', U'.st, m'⟩ + 1 = Tj.pot ga gb ⟨T.st, l, U.st, m⟩) := by
  obtain ⟨⟨v, x⟩, l2, rfl⟩ := List.exists_cons_of_length_pos hl
  obtain ⟨hv, hx⟩ := h.ok.vp (v, x) (List.mem_cons_self ..)
  obtain ⟨hok, hpot, hw⟩ := h.ok.hearsB (v := v) (o := x) (p := l2) rfl
  have e0 : Tj.hearsB gb ⟨T.st, (v, x) :: l2, U.st, m⟩ v x l2 = ⟨T.st, l2, (U.hear gb v x).1.st, m ++ sendV (sideV v) (hearQ (U.st (sideV v) x) (forV v) (gb (sideV v) x)).2.1 x⟩ := rfl
  rw [e0] at hok hpot
  have hp := h.pot
  have ha := h.asked
  have hs := h.sent
  have hf := h.few
  obtain ⟨n1, n2, n3, n4, n5⟩ := h.new
  obtain ⟨a1, a2, a3, a4⟩ := h.arr_ne
  refine (side_hear hT h.only h.y h.x h.so.symm h.pq.symm n3 n2 n5 hv hx (by omega) (by omega) (by omega) hw).mono fun e w' ⟨he, h1, h2, h3⟩ => ⟨he, (U.hear gb v x).1, l2, m ++ sendV (sideV v) (hearQ (U.st (sideV v) x) (forV v) (gb (sideV v) x)).2.1 x, ?_, hpot⟩
  have hsl := sendV_length (sideV v) (hearQ (U.st (sideV v) x) (forV v) (gb (sideV v) x)).2.1 x
  have hsn := sentN_le (hearQ (U.st (sideV v) x) (forV v) (gb (sideV v) x)).2.1
  refine ⟨h.arr.only h3 (fun hh => by rcases hh with hh | hh | hh; exact a2 hh; exact a1 hh; exact a4 hh), h2, h1, h.so, h.pq, h.new, h.only.trans h3 (fun i hi => .inr (by rcases hi with rfl | rfl | rfl; exact n3; exact n2; exact n5)), hok, ?_, ha, ?_, ?_⟩
  · obtain ⟨P1, hP1⟩ : ∃ P1, P1 = Tj.pot ga gb ⟨T.st, l2, (U.hear gb v x).1.st, m ++ sendV (sideV v) (hearQ (U.st (sideV v) x) (forV v) (gb (sideV v) x)).2.1 x⟩ := ⟨_, rfl⟩
    rw [← hP1] at hpot ⊢
    show T.heard + (U.heard + 1) + P1 ≤ _
    omega
  · simp only [Tb.hear]
    omega
  · rw [List.length_append]
    simp only [List.length_cons] at hf
    omega

/-- Behind an act. -/
def Went (W0 w : World) (M s o p q : Nat) (ga gb : Nat → Nat → Bool) (j : Nat) : Prop := ∃ T U l m, Tw W0 w M s o p q ga gb j T U l m
theorem Went.same (h : Went W0 w M s o p q ga gb j) (ho : Only (fun _ => False) w w') : Went W0 w' M s o p q ga gb j := by
  obtain ⟨T, U, l, m, h⟩ := h
  exact ⟨T, U, l, m, h.same ho⟩
theorem Went.later {k : Nat} (h : Went W0 w M s o p q ga gb j) (hk : j ≤ k) : Went W0 w M s o p q ga gb k := by
  obtain ⟨T, U, l, m, h⟩ := h
  exact ⟨T, U, l, m, h.later hk⟩
/-- A side is asked: what comes of it, and what is sent then. -/
def OwnAsk (W0 w : World) (M s o p q : Nat) (ga gb : Nat → Nat → Bool) (j own tb : Nat) (sd op : Int) (on : Bool) : Prop :=
  (∃ tv : Int, Hid (∀ w1, Only (fun _ => False) w w1 → Calls Tryd.prog 11 #[.pointer (some ⟨tb, 0, none⟩), .int .i64 sd, .int .i64 op, .bool on] w1 fun e w2 => e = .returned (.tuple #[.int .i64 tv, .nilIface]) ∧ Only (· = tb) w1 w2 ∧
      Hid (∀ w3, Only (fun _ => False) w2 w3 → Calls Tryd.prog 24 #[.pointer (some ⟨own, 0, none⟩), .int .i64 tv, .int .i64 op] w3 fun e w4 => e = .returned (.tuple #[]) ∧ Hid (Went W0 w4 M s o p q ga gb (j + 1)))))
    ∨ Hid (∀ w1, Only (fun _ => False) w w1 → Calls Tryd.prog 11 #[.pointer (some ⟨tb, 0, none⟩), .int .i64 sd, .int .i64 op, .bool on] w1 fun e w2 => (∃ u v, e = .returned (.tuple #[.int .i64 0, .iface u v])) ∧ Only (fun _ => False) w1 w2)
theorem Tw.askA (hT : TbW W0) (h : Tw W0 w M s o p q ga gb j T U l m) (hj : j ≤ 60) {sd op : Int} (hs : sd = 0 ∨ sd = 1) (on : Bool) : OwnAsk W0 w M s o p q ga gb j s p sd op on := by
  by_cases hop : 0 ≤ op ∧ op ≤ 255
  · obtain ⟨d, rfl⟩ : ∃ d : Nat, sd = (d : Int) := ⟨sd.toNat, by omega⟩
    obtain ⟨x, rfl⟩ : ∃ x : Nat, op = (x : Int) := ⟨op.toNat, by omega⟩
    have hd : d < 2 := by omega
    have hx : x < 256 := by omega
    have hp := h.pot
    have ha := h.asked
    have hsn := h.sent
    have hf := h.few
    obtain ⟨n1, n2, n3, n4, n5⟩ := h.new
    obtain ⟨a1, a2, a3, a4⟩ := h.arr_ne
    cases hq : askQ (T.st d x) on with
    | some r =>
      obtain ⟨hok, hpot⟩ := h.ok.asksA hd hx hq
      have e0 : Tj.asksA ⟨T.st, l, U.st, m⟩ d x r = ⟨setQ T.st d x r.1, l ++ sendV d r.2 x, U.st, m⟩ := rfl
      rw [e0] at hok hpot
      refine .inl ⟨(toldV d r.2 : Int), fun w1 ho1 => (task_some (hT.only (h.only.trans ho1 (fun _ h => h.elim))) (h.x.tab.same ho1) hd hx hq (by omega) (by omega)).mono fun e w2 ⟨he, h1, h2⟩ => ⟨he, h2, fun w3 ho3 => ?_⟩⟩
      obtain ⟨A, n, c, hx1⟩ := h.x.same ho1
      have hx2 : SdAt w3 s p ga _ l := SdAt.same ⟨A, n, c, hx1.turn h1 h2⟩ ho3
      have hps : p ≠ s := fun e => by obtain ⟨cs, hb⟩ := h.x.blk; exact h.x.tab.ne hb (by decide) e.symm
      have hpo : p ≠ o := fun e => by obtain ⟨cs, hb⟩ := h.y.blk; exact h.x.tab.ne hb (by decide) e.symm
      have hqs : q ≠ s := fun e => by obtain ⟨cs, hb⟩ := h.x.blk; exact h.y.tab.ne hb (by decide) e.symm
      have hy1 := h.y.same ho1
      have hy2 := (hy1.only h2 (fun e => hpo e.symm) (fun e => h.pq e.symm) (fun g cur hg => (h.x.tab.same ho1).ne hg (by decide))).same ho3
      obtain ⟨cs, hbs⟩ := hx2.blk
      refine (send_any hx2 d r.2 x (by omega)).mono fun e w4 ⟨he, h3, h4⟩ => ⟨he, ?_⟩
      have hsl := sendV_length d r.2 x
      have hsm := sentN_le r.2
      refine ⟨_, U, _, m, ((h.arr.only ho1 (fun h => h)).only h2 a3).only ho3 (fun h => h) |>.only h4 a1, h3, hy2.only h4 (fun e => h.so e.symm) hqs (fun g cur hg => hg.ne hbs (by decide)), h.so, h.pq, h.new, ?_, hok, ?_, ?_, ?_, ?_⟩
      · exact (((h.only.trans ho1 (fun _ h => h.elim)).trans h2 (fun i hi => .inr (by omega))).trans ho3 (fun _ h => h.elim)).trans h4 (fun i hi => .inr (by omega))
      · show T.heard + U.heard + Tj.pot ga gb ⟨setQ T.st d x r.1, l ++ sendV d r.2 x, U.st, m⟩ ≤ _
        omega
      · show T.asked + 1 + U.asked ≤ _
        omega
      · show T.sent + sentN r.2 + U.sent ≤ T.heard + U.heard + (T.asked + 1 + U.asked)
        omega
      · rw [List.length_append]
        omega
    | none => exact .inr fun w1 ho1 => (task_none (hT.only (h.only.trans ho1 (fun _ h => h.elim))) (h.x.tab.same ho1) hd hx hq).mono fun e w2 ⟨⟨u, v, _, h1⟩, h2⟩ => ⟨⟨u, v, h1⟩, h2⟩
  · exact .inr fun w1 ho1 => (task_range (hT.only (h.only.trans ho1 (fun _ h => h.elim))) p on hs hop).mono fun e w2 ⟨⟨u, v, _, h1⟩, h2⟩ => ⟨⟨u, v, h1⟩, h2⟩
theorem Tw.askB (hT : TbW W0) (h : Tw W0 w M s o p q ga gb j T U l m) (hj : j ≤ 60) {sd op : Int} (hs : sd = 0 ∨ sd = 1) (on : Bool) : OwnAsk W0 w M s o p q ga gb j o q sd op on := by
  by_cases hop : 0 ≤ op ∧ op ≤ 255
  · obtain ⟨d, rfl⟩ : ∃ d : Nat, sd = (d : Int) := ⟨sd.toNat, by omega⟩
    obtain ⟨x, rfl⟩ : ∃ x : Nat, op = (x : Int) := ⟨op.toNat, by omega⟩
    have hd : d < 2 := by omega
    have hx : x < 256 := by omega
    have hp := h.pot
    have ha := h.asked
    have hsn := h.sent
    have hf := h.few
    obtain ⟨n1, n2, n3, n4, n5⟩ := h.new
    obtain ⟨a1, a2, a3, a4⟩ := h.arr_ne
    cases hq : askQ (U.st d x) on with
    | some r =>
      obtain ⟨hok, hpot⟩ := h.ok.asksB hd hx hq
      have e0 : Tj.asksB ⟨T.st, l, U.st, m⟩ d x r = ⟨T.st, l, setQ U.st d x r.1, m ++ sendV d r.2 x⟩ := rfl
      rw [e0] at hok hpot
      refine .inl ⟨(toldV d r.2 : Int), fun w1 ho1 => (task_some (hT.only (h.only.trans ho1 (fun _ h => h.elim))) (h.y.tab.same ho1) hd hx hq (by omega) (by omega)).mono fun e w2 ⟨he, h1, h2⟩ => ⟨he, h2, fun w3 ho3 => ?_⟩⟩
      obtain ⟨A, n, c, hy1⟩ := h.y.same ho1
      have hy2 : SdAt w3 o q gb _ m := SdAt.same ⟨A, n, c, hy1.turn h1 h2⟩ ho3
      have hqs : q ≠ s := fun e => by obtain ⟨cs, hb⟩ := h.x.blk; exact h.y.tab.ne hb (by decide) e.symm
      have hpo : p ≠ o := fun e => by obtain ⟨cs, hb⟩ := h.y.blk; exact h.x.tab.ne hb (by decide) e.symm
      have hx1 := h.x.same ho1
      have hx2 := (hx1.only h2 (fun e => hqs e.symm) h.pq (fun g cur hg => (h.y.tab.same ho1).ne hg (by decide))).same ho3
      obtain ⟨cs, hbs⟩ := hy2.blk
      refine (send_any hy2 d r.2 x (by omega)).mono fun e w4 ⟨he, h3, h4⟩ => ⟨he, ?_⟩
      have hsl := sendV_length d r.2 x
      have hsm := sentN_le r.2
      refine ⟨T, _, l, _, ((h.arr.only ho1 (fun h => h)).only h2 a4).only ho3 (fun h => h) |>.only h4 a2, hx2.only h4 h.so hpo (fun g cur hg => hg.ne hbs (by decide)), h3, h.so, h.pq, h.new, ?_, hok, ?_, ?_, ?_, ?_⟩
      · exact (((h.only.trans ho1 (fun _ h => h.elim)).trans h2 (fun i hi => .inr (by omega))).trans ho3 (fun _ h => h.elim)).trans h4 (fun i hi => .inr (by omega))
      · show T.heard + U.heard + Tj.pot ga gb ⟨T.st, l, setQ U.st d x r.1, m ++ sendV d r.2 x⟩ ≤ _
        omega
      · show T.asked + (U.asked + 1) ≤ _
        omega
      · show T.sent + (U.sent + sentN r.2) ≤ T.heard + U.heard + (T.asked + (U.asked + 1))
        omega
      · rw [List.length_append]
        omega
    | none => exact .inr fun w1 ho1 => (task_none (hT.only (h.only.trans ho1 (fun _ h => h.elim))) (h.y.tab.same ho1) hd hx hq).mono fun e w2 ⟨⟨u, v, _, h1⟩, h2⟩ => ⟨⟨u, v, h1⟩, h2⟩
  · exact .inr fun w1 ho1 => (task_range (hT.only (h.only.trans ho1 (fun _ h => h.elim))) q on hs hop).mono fun e w2 ⟨⟨u, v, _, h1⟩, h2⟩ => ⟨⟨u, v, h1⟩, h2⟩
/-- One of both, and the other one. -/
structure Sel (W0 w : World) (M s o p q : Nat) (ga gb : Nat → Nat → Bool) (j i i' own oth tb n3 : Nat) (A3 : Option Addr) (c3 : Nat) (d op : Int) : Prop where
  idx : (1 : Int) - (i : Int) = (i' : Int)
  lt : i' < 2
  cells : ∀ W, Only (fun _ => False) w W → (W.cell? ⟨M, i, none⟩ = some (.pointer (some ⟨own, 0, none⟩)) ∧ W.cell? ⟨M, i', none⟩ = some (.pointer (some ⟨oth, 0, none⟩))) ∧ W.cell? ⟨own, 0, none⟩ = some (.pointer (some ⟨tb, 0, none⟩)) ∧ W.cell? ⟨oth, 1, none⟩ = some (.slice A3 n3 c3)
  hears : 0 < n3 → ∀ W, Only (fun _ => False) w W → Calls Tryd.prog 23 #[.pointer (some ⟨own, 0, none⟩), .pointer (some ⟨oth, 0, none⟩)] W fun e w' => e = .returned (.bool true) ∧ Hid (Went W0 w' M s o p q ga gb (j + 1))
  asks : ∀ on, OwnAsk W0 w M s o p q ga gb j own tb d op on
  tbne : tb ≠ own ∧ tb ≠ oth ∧ tb ≠ M
  tlt : tb < w.heap.size
theorem Tw.sel (hT : TbW W0) (h : Tw W0 w M s o p q ga gb j T U l m) (hj : j ≤ 60) {i : Nat} (hi : i < 2) {d op : Int} (hd : d = 0 ∨ d = 1) : ∃ i' own oth tb n3 A3 c3, Sel W0 w M s o p q ga gb j i i' own oth tb n3 A3 c3 d op := by
  obtain ⟨n1, n2, A1, A2, c1, c2, hc, h1, h2⟩ := h.cells
  obtain ⟨a1, a2, a3, a4⟩ := h.arr_ne
  have hps : p ≠ s := fun e => by obtain ⟨cs, hb⟩ := h.x.blk; exact h.x.tab.ne hb (by decide) e.symm
  have hpo : p ≠ o := fun e => by obtain ⟨cs, hb⟩ := h.y.blk; exact h.x.tab.ne hb (by decide) e.symm
  have hqs : q ≠ s := fun e => by obtain ⟨cs, hb⟩ := h.x.blk; exact h.y.tab.ne hb (by decide) e.symm
  have hqo : q ≠ o := fun e => by obtain ⟨cs, hb⟩ := h.y.blk; exact h.y.tab.ne hb (by decide) e.symm
  have hcs : ∀ W, Only (fun _ => False) w W → (W.cell? ⟨M, 0, none⟩ = some (.pointer (some ⟨s, 0, none⟩)) ∧ W.cell? ⟨M, 1, none⟩ = some (.pointer (some ⟨o, 0, none⟩))) ∧
      (W.cell? ⟨s, 0, none⟩ = some (.pointer (some ⟨p, 0, none⟩)) ∧ W.cell? ⟨s, 1, none⟩ = some (.slice A1 n1 c1)) ∧
        W.cell? ⟨o, 0, none⟩ = some (.pointer (some ⟨q, 0, none⟩)) ∧ W.cell? ⟨o, 1, none⟩ = some (.slice A2 n2 c2) := fun W ho => by
    obtain ⟨⟨x1, x2⟩, ⟨x3, x4⟩, x5, x6⟩ := hc
    exact ⟨⟨ho.cellv x1 (fun h => h), ho.cellv x2 (fun h => h)⟩, ⟨ho.cellv x3 (fun h => h), ho.cellv x4 (fun h => h)⟩, ho.cellv x5 (fun h => h), ho.cellv x6 (fun h => h)⟩
  rcases (show i = 0 ∨ i = 1 by omega) with rfl | rfl
  · refine ⟨1, s, o, p, n2, A2, c2, by omega, by omega, fun W ho => ?_, fun hn W ho => ?_, fun on => h.askA hT hj hd on, ⟨hps, hpo, fun e => a3 e.symm⟩, h.x.tab.lt⟩
    · obtain ⟨⟨x1, x2⟩, ⟨x3, x4⟩, x5, x6⟩ := hcs W ho
      exact ⟨⟨x1, x2⟩, x3, x6⟩
    · exact ((h.same ho).hearA hT hj (by omega)).mono fun e w' ⟨he, hx⟩ => ⟨he, by
        obtain ⟨T', l', m', hx, _⟩ := hx.out
        exact Went.later ⟨_, _, _, _, hx⟩ (by omega)⟩
  · refine ⟨0, o, s, q, n1, A1, c1, by omega, by omega, fun W ho => ?_, fun hn W ho => ?_, fun on => h.askB hT hj hd on, ⟨hqo, hqs, fun e => a4 e.symm⟩, h.y.tab.lt⟩
    · obtain ⟨⟨x1, x2⟩, ⟨x3, x4⟩, x5, x6⟩ := hcs W ho
      exact ⟨⟨x2, x1⟩, x5, x4⟩
    · exact ((h.same ho).hearB hT hj (by omega)).mono fun e w' ⟨he, hx⟩ => ⟨he, by
        obtain ⟨U', l', m', hx, _⟩ := hx.out
        exact Went.later ⟨_, _, _, _, hx⟩ (by omega)⟩
/-- Within a turn. -/
def Inn (W0 w : World) (M s o p q : Nat) (ga gb : Nat → Nat → Bool) (j j2 i : Nat) : Prop :=
  ∃ T U l m, Tw W0 w M s o p q ga gb j T U l m ∧ ∃ P, P = Tj.pot ga gb ⟨T.st, l, U.st, m⟩ ∧ (i = 0 → 0 < l.length + m.length ∧ j2 + P ≤ 2 * j) ∧ (i = 1 → j2 + P ≤ 2 * j ∧ (l.length = 0 → j2 + P + 1 ≤ 2 * j)) ∧ (i = 2 → j2 + P + 1 ≤ 2 * j)
/-- One of both, within a turn. -/
structure Sel2 (W0 w : World) (M s o p q : Nat) (ga gb : Nat → Nat → Bool) (j j2 i i' own oth n3 : Nat) (A3 : Option Addr) (c3 : Nat) : Prop where
  idx : (1 : Int) - (i : Int) = (i' : Int)
  lt : i' < 2
  pick : ∀ W, (Instr.index 66 (.agg #[.pointer (some ⟨s, 0, none⟩), .pointer (some ⟨o, 0, none⟩)]) (.int .i64 (i : Int))).run Tryd.prog W = .ok (.pointer (some ⟨own, 0, none⟩)) W
  cells : ∀ W, Only (fun _ => False) w W → W.cell? ⟨M, i', none⟩ = some (.pointer (some ⟨oth, 0, none⟩)) ∧ W.cell? ⟨oth, 1, none⟩ = some (.slice A3 n3 c3)
  idle : n3 = 0 → ∀ W, Only (fun _ => False) w W → Inn W0 W M s o p q ga gb j j2 (i + 1)
  hears : 0 < n3 → ∀ W, Only (fun _ => False) w W → Calls Tryd.prog 23 #[.pointer (some ⟨own, 0, none⟩), .pointer (some ⟨oth, 0, none⟩)] W fun e w' => e = .returned (.bool true) ∧ Hid (Inn W0 w' M s o p q ga gb j j2 (i + 1))
theorem Inn.sel (hT : TbW W0) {j2 i : Nat} (h : Inn W0 w M s o p q ga gb j j2 i) (hj : j ≤ 60) (hi : i < 2) : ∃ i' own oth n3 A3 c3, Sel2 W0 w M s o p q ga gb j j2 i i' own oth n3 A3 c3 := by
  obtain ⟨T, U, l, m, h, P, hP, h0, h1, _⟩ := h
  obtain ⟨n1, n2, A1, A2, c1, c2, hc, hl1, hl2⟩ := h.cells
  have hcs : ∀ W, Only (fun _ => False) w W → (W.cell? ⟨M, 0, none⟩ = some (.pointer (some ⟨s, 0, none⟩)) ∧ W.cell? ⟨M, 1, none⟩ = some (.pointer (some ⟨o, 0, none⟩))) ∧
      (W.cell? ⟨s, 0, none⟩ = some (.pointer (some ⟨p, 0, none⟩)) ∧ W.cell? ⟨s, 1, none⟩ = some (.slice A1 n1 c1)) ∧
        W.cell? ⟨o, 0, none⟩ = some (.pointer (some ⟨q, 0, none⟩)) ∧ W.cell? ⟨o, 1, none⟩ = some (.slice A2 n2 c2) := fun W ho => by
    obtain ⟨⟨x1, x2⟩, ⟨x3, x4⟩, x5, x6⟩ := hc
    exact ⟨⟨ho.cellv x1 (fun h => h), ho.cellv x2 (fun h => h)⟩, ⟨ho.cellv x3 (fun h => h), ho.cellv x4 (fun h => h)⟩, ho.cellv x5 (fun h => h), ho.cellv x6 (fun h => h)⟩
  rcases (show i = 0 ∨ i = 1 by omega) with rfl | rfl
  · obtain ⟨h01, h02⟩ := h0 rfl
    refine ⟨1, s, o, n2, A2, c2, by omega, by omega, fun W => by kernel_rfl, fun W ho => ?_, fun hn W ho => ?_, fun hn W ho => ?_⟩
    · obtain ⟨⟨x1, x2⟩, ⟨x3, x4⟩, x5, x6⟩ := hcs W ho
      exact ⟨x2, x6⟩
    · exact ⟨T, U, l, m, h.same ho, P, hP, fun e => by omega, fun _ => ⟨h02, fun e => by omega⟩, fun e => by omega⟩
    · exact ((h.same ho).hearA hT hj (by omega)).mono fun e w' ⟨he, hx⟩ => ⟨he, by
        obtain ⟨T', l', m', hx, hp⟩ := hx.out
        rw [← hP] at hp
        obtain ⟨P', hP'⟩ : ∃ P', P' = Tj.pot ga gb ⟨T'.st, l', U.st, m'⟩ := ⟨_, rfl⟩
        rw [← hP'] at hp
        exact ⟨T', U, l', m', hx, P', hP', fun e => by omega, fun _ => ⟨by omega, fun _ => by omega⟩, fun e => by omega⟩⟩
  · obtain ⟨h11, h12⟩ := h1 rfl
    refine ⟨0, o, s, n1, A1, c1, by omega, by omega, fun W => by kernel_rfl, fun W ho => ?_, fun hn W ho => ?_, fun hn W ho => ?_⟩
    · obtain ⟨⟨x1, x2⟩, ⟨x3, x4⟩, x5, x6⟩ := hcs W ho
      exact ⟨x1, x4⟩
    · have h13 := h12 (by omega)
      exact ⟨T, U, l, m, h.same ho, P, hP, fun e => by omega, fun e => by omega, fun _ => h13⟩
    · exact ((h.same ho).hearB hT hj (by omega)).mono fun e w' ⟨he, hx⟩ => ⟨he, by
        obtain ⟨U', l', m', hx, hp⟩ := hx.out
        rw [← hP] at hp
        obtain ⟨P', hP'⟩ : ∃ P', P' = Tj.pot ga gb ⟨T.st, l', U'.st, m'⟩ := ⟨_, rfl⟩
        rw [← hP'] at hp
        exact ⟨T, U', l', m', hx, P', hP', fun e => by omega, fun e => by omega, fun _ => by omega⟩⟩
/-- At rest. -/
theorem Tw.rests (h : Tw W0 w M s o p q ga gb j T U l m) (hl : l.length = 0) (hm : m.length = 0) : CalmT T.st ∧ CalmT U.st ∧ ∀ d o, d < 2 → o < 256 → T.st d o = U.st (1 - d) o := by
  have e1 := List.eq_nil_of_length_eq_zero hl
  have e2 := List.eq_nil_of_length_eq_zero hm
  have k := fun d o (hd : d < 2) (ho : o < 256) => h.ok.rest e1 e2 hd ho
  refine ⟨fun d hd o ho => (k d o hd ho).1, fun d hd o ho => ?_, fun d o hd ho => (k d o hd ho).2⟩
  have := k (1 - d) o (by omega) ho
  have e : 1 - (1 - d) = d := by omega
  rw [e] at this
  have h1 : T.st (1 - d) o = U.st d o := this.2
  rw [← h1]
  exact this.1
end
end Go.Proofs.YtpobglejobgmlaaDoor
