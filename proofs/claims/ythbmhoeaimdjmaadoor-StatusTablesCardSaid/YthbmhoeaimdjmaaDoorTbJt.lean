/- The program's table and the document's, side by side: what a verb and an asking leave. -/
import Derived.Test.YthbmhoeaimdjmaaDoorTbRefH
import Derived.Test.YthbmhoeaimdjmaaDoorTbList
import Derived.Test.YthbmhoeaimdjmaaDoorErrSel
namespace Go.Proofs.YthbmhoeaimdjmaaDoor
open Go Go.ChangeShapes Go.WideShapes Go.ChangeAt Go.RowKit
set_option maxRecDepth 100000
set_option maxHeartbeats 4000000

/-- The program's table and the document's, behind so many acts. -/
structure Jt (W0 w : World) (p r : Nat) (P : Po) (j : Nat) (T : Tb) (l : List Rq) : Prop where
  t : TbAt w p (agOf P.us P.hims) T
  f : RfAt w W0.heap.size r P l T
  rows : RowsAre l T.st
  pr : r ≠ p
  new : W0.heap.size ≤ p ∧ W0.heap.size ≤ r
  only : Only (fun _ => False) W0 w
  len : l.length ≤ j
  cnt : T.heard ≤ j ∧ T.asked ≤ j ∧ T.sent ≤ j
def Bothly (W0 w : World) (p r : Nat) (P : Po) (j : Nat) : Prop := ∃ T l, Jt W0 w p r P j T l
section
variable {W0 w w' : World} {p r j : Nat} {P : Po} {T : Tb} {l : List Rq} {es : List Addr}
theorem Jt.same (h : Jt W0 w p r P j T l) (ho : Only (fun _ => False) w w') : Jt W0 w' p r P j T l :=
  { h with t := h.t.same ho, f := h.f.same ho, only := h.only.trans ho (fun _ h => h.elim) }
theorem Bothly.same (h : Bothly W0 w p r P j) (ho : Only (fun _ => False) w w') : Bothly W0 w' p r P j := by
  obtain ⟨T, l, h⟩ := h
  exact ⟨T, l, h.same ho⟩
theorem Jt.later {k : Nat} (h : Jt W0 w p r P j T l) (hk : j ≤ k) : Jt W0 w p r P k T l :=
  { h with len := by have := h.len; omega, cnt := by have := h.cnt; omega }
theorem Bothly.later {k : Nat} (h : Bothly W0 w p r P j) (hk : j ≤ k) : Bothly W0 w p r P k := by
  obtain ⟨T, l, h⟩ := h
  exact ⟨T, l, h.later hk⟩
/-- An error that is listed: its value. -/
theorem err_val (hE : ErrsAt w es) {n : String} {i g : Nat} {a : Addr} (hg : Tryd.prog.globalNamed n = some g) (hi : errIds[i]? = some g) (ha : es[i]? = some a) {u : TypeId} {x : Value} (hv : w.var? Tryd.prog n = some #[.iface u x]) : Value.iface u x = errV a := by
  have h1 := World.var?_cell hg hv 0
  have h2 := hE.at_ i g a hi ha
  have h3 : w.cell? ⟨g, 0, none⟩ = some (.iface u x) := h1
  rw [h2] at h3
  exact (Option.some.inj h3).symm
/-- Both hear. -/
def HearTwo (W0 w : World) (p r : Nat) (P : Po) (j : Nat) (v o : Int) : Prop :=
  ∃ (sd vb num : Int) (tn wr : Bool) (errv : Value),
    Hid (∀ w1, Only (fun _ => False) w w1 → Calls Tryd.prog 17 #[.pointer (some ⟨p, 0, none⟩), .int .i64 v, .int .i64 o] w1 fun e w2 => e = .returned (.tuple #[.agg #[.int .i64 sd, .int .i64 vb, .bool tn, .bool wr], errv]) ∧ Only (· = p) w1 w2 ∧
      Hid (∀ w3, Only (fun _ => False) w2 w3 → Calls Tryd.prog 18 #[.pointer (some ⟨r, 0, none⟩), .int .i64 v, .int .i64 o] w3 fun e w4 => e = .returned (.tuple #[.int .i64 sd, .int .i64 vb, .agg #[.bool tn, .bool wr], .int .i64 num]) ∧ Only (· = r) w3 w4 ∧ Hid (Bothly W0 w4 p r P (j + 1)))) ∧
    Hid (∀ W, Only (fun _ => False) W0 W → Calls Tryd.prog 9 #[errv] W fun e w' => e = .returned (.int .i64 num) ∧ Only (fun _ => False) W w')
theorem Jt.p_only (h : Jt W0 w p r P j T l) {w1 w2 : World} (h1 : Only (fun _ => False) w w1) (h2 : Only (· = p) w1 w2) {T' : Tb} (_ht : TbAt w2 p (agOf P.us P.hims) T') : RfAt w2 W0.heap.size r P l T ∧ Only (fun _ => False) W0 w2 := by
  obtain ⟨cs, hb, _⟩ := h.t.same h1
  exact ⟨(h.f.same h1).beside hb (by decide) h.pr h2, (h.only.trans h1 (fun _ h => h.elim)).trans h2 (fun i hi => .inr (by have := h.new; omega))⟩
theorem Jt.hear (hT : TbW W0) (hE : ErrsAt W0 es) (hP : P.At W0) (hn1 : P.n1 ≤ 1000) (hn2 : P.n2 ≤ 1000) (h : Jt W0 w p r P j T l) (hj : j ≤ 100) (v o : Int) : HearTwo W0 w p r P j v o := by
  have hl := h.len
  obtain ⟨hc1, hc2, hc3⟩ := h.cnt
  obtain ⟨hnp, hnr⟩ := h.new
  have hrp := h.pr
  by_cases hv : 251 ≤ v ∧ v ≤ 254
  · by_cases ho : 0 ≤ o ∧ o ≤ 255
    · obtain ⟨v, rfl⟩ : ∃ v' : Nat, v = (v' : Int) := ⟨v.toNat, by omega⟩
      obtain ⟨o, rfl⟩ : ∃ o' : Nat, o = (o' : Int) := ⟨o.toNat, by omega⟩
      refine ⟨(sideV v : Int), (toldV (sideV v) (hearQ (T.st (sideV v) o) (forV v) (agOf P.us P.hims (sideV v) o)).2.1 : Int), 0, turnedQ (hearQ (T.st (sideV v) o) (forV v) (agOf P.us P.hims (sideV v) o)).1 (T.st (sideV v) o), (hearQ (T.st (sideV v) o) (forV v) (agOf P.us P.hims (sideV v) o)).2.2, .nilIface, fun w1 h1 => ?_, fun W hW => num_any (hE.only hW) (ErrV.nil es)⟩
      refine (thear_some (hT.only (h.only.trans h1 (fun _ h => h.elim))) (h.t.same h1) (v := v) (o := o) (by omega) (by omega) (by omega) (by omega)).mono fun e w2 ⟨he, ht, h2⟩ => ⟨he, h2, fun w3 h3 => ?_⟩
      obtain ⟨hf2, ho2⟩ := h.p_only h1 h2 ht
      have ho3 := ho2.trans h3 (fun _ h => h.elim)
      refine (rfHear_some (hf2.same h3) h.rows ⟨hP.1.same ho3, hP.2.same ho3⟩ hn1 hn2 ho3.size (by omega) (v := v) (o := o) (by omega) (by omega) (by omega) (by omega)).mono fun e w4 ⟨he, hf, h4⟩ => ⟨he, h4, ?_⟩
      have hsn := sentN_le (hearQ (T.st (sideV v) o) (forV v) (agOf P.us P.hims (sideV v) o)).2.1
      refine ⟨(T.hear (agOf P.us P.hims) v o).1, _, (ht.same h3).only h4 (fun e => hrp e.symm), hf, h.rows.set (sideV_lt v) (by omega) _, hrp, h.new, ho3.trans h4 (fun i hi => .inr (by omega)), ?_, ?_⟩
      · have := rfSet_length l (sideV v) o (hearQ (T.st (sideV v) o) (forV v) (agOf P.us P.hims (sideV v) o)).1
        omega
      · simp only [Tb.hear]
        omega
    · obtain ⟨a, ha⟩ : ∃ a, es[0]? = some a := ⟨_, List.getElem?_eq_getElem (by rw [hE.len]; omega)⟩
      refine ⟨0, 0, 1, false, false, errV a, fun w1 h1 => ?_, fun W hW => num_any (hE.only hW) (ErrV.err ha 1 rfl)⟩
      have hw1 := h.only.trans h1 (fun _ h => h.elim)
      refine (thear_range (hT.only hw1) p hv ho).mono fun e w2 ⟨⟨u, x, hx, he⟩, h2⟩ => ⟨?_, h2.mono (fun _ h => h.elim), fun w3 h3 => ?_⟩
      · rw [he, err_val (hE.only hw1) (g := 2) rfl rfl ha hx]
      · refine (rfHear_range w3 r hv ho).mono fun e w4 ⟨he, h4⟩ => ⟨he, h4.mono (fun _ h => h.elim), ⟨T, l, (((h.same h1).same h2).same h3).same h4 |>.later (by omega)⟩⟩
  · obtain ⟨a, ha⟩ : ∃ a, es[8]? = some a := ⟨_, List.getElem?_eq_getElem (by rw [hE.len]; omega)⟩
    refine ⟨0, 0, 9, false, false, errV a, fun w1 h1 => ?_, fun W hW => num_any (hE.only hW) (ErrV.err ha 9 rfl)⟩
    have hw1 := h.only.trans h1 (fun _ h => h.elim)
    refine (thear_kind (hT.only hw1) p o hv).mono fun e w2 ⟨⟨u, x, hx, he⟩, h2⟩ => ⟨?_, h2.mono (fun _ h => h.elim), fun w3 h3 => ?_⟩
    · rw [he, err_val (hE.only hw1) (g := 1) rfl rfl ha hx]
    · refine (rfHear_kind w3 r o hv).mono fun e w4 ⟨he, h4⟩ => ⟨he, h4.mono (fun _ h => h.elim), ⟨T, l, (((h.same h1).same h2).same h3).same h4 |>.later (by omega)⟩⟩
/-- Both are asked. -/
def AskTwo (W0 w : World) (p r : Nat) (P : Po) (j : Nat) (s o : Int) (on : Bool) : Prop :=
  ∃ (vb num : Int) (errv : Value),
    Hid (∀ w1, Only (fun _ => False) w w1 → Calls Tryd.prog 19 #[.pointer (some ⟨p, 0, none⟩), .int .i64 s, .int .i64 o, .bool on] w1 fun e w2 => e = .returned (.tuple #[.int .i64 vb, errv]) ∧ Only (· = p) w1 w2 ∧
      Hid (∀ w3, Only (fun _ => False) w2 w3 → Calls Tryd.prog 20 #[.pointer (some ⟨r, 0, none⟩), .int .i64 s, .int .i64 o, .bool on] w3 fun e w4 => e = .returned (.tuple #[.int .i64 vb, .int .i64 num]) ∧ Only (· = r) w3 w4 ∧ Hid (Bothly W0 w4 p r P (j + 1)))) ∧
    Hid (∀ W, Only (fun _ => False) W0 W → Calls Tryd.prog 9 #[errv] W fun e w' => e = .returned (.int .i64 num) ∧ Only (fun _ => False) W w')
theorem Jt.ask (hT : TbW W0) (hE : ErrsAt W0 es) (h : Jt W0 w p r P j T l) (hj : j ≤ 100) (s o : Int) (on : Bool) : AskTwo W0 w p r P j s o on := by
  have hl := h.len
  obtain ⟨hc1, hc2, hc3⟩ := h.cnt
  obtain ⟨hnp, hnr⟩ := h.new
  have hrp := h.pr
  by_cases hs : s = 0 ∨ s = 1
  · by_cases ho : 0 ≤ o ∧ o ≤ 255
    · obtain ⟨s, rfl⟩ : ∃ v' : Nat, s = (v' : Int) := ⟨s.toNat, by omega⟩
      obtain ⟨o, rfl⟩ : ∃ o' : Nat, o = (o' : Int) := ⟨o.toNat, by omega⟩
      have hs2 : s < 2 := by omega
      have ho2 : o < 256 := by omega
      cases hq : askQ (T.st s o) on with
      | some m =>
        refine ⟨(toldV s m.2 : Int), 0, .nilIface, fun w1 h1 => ?_, fun W hW => num_any (hE.only hW) (ErrV.nil es)⟩
        refine (task_some (hT.only (h.only.trans h1 (fun _ h => h.elim))) (h.t.same h1) hs2 ho2 hq (by omega) (by omega)).mono fun e w2 ⟨he, ht, h2⟩ => ⟨he, h2, fun w3 h3 => ?_⟩
        obtain ⟨hf2, hw2⟩ := h.p_only h1 h2 ht
        have hw3 := hw2.trans h3 (fun _ h => h.elim)
        have hra := rfAsk_any (hf2.same h3) h.rows hw3.size (by omega) hs2 ho2 on (by omega) (by omega)
        rw [hq] at hra
        refine hra.mono fun e w4 ⟨he, hf, h4⟩ => ⟨he, h4, ?_⟩
        have hsn := sentN_le m.2
        refine ⟨_, _, (ht.same h3).only h4 (fun e => hrp e.symm), hf, h.rows.set hs2 ho2 _, hrp, h.new, hw3.trans h4 (fun i hi => .inr (by omega)), ?_, ?_⟩
        · have := rfSet_length l s o m.1
          omega
        · show T.heard ≤ j + 1 ∧ T.asked + 1 ≤ j + 1 ∧ T.sent + sentN m.2 ≤ j + 1
          omega
      | none =>
        obtain ⟨a, ha⟩ : ∃ a, es[9]? = some a := ⟨_, List.getElem?_eq_getElem (by rw [hE.len]; omega)⟩
        refine ⟨0, 10, errV a, fun w1 h1 => ?_, fun W hW => num_any (hE.only hW) (ErrV.err ha 10 rfl)⟩
        have hw1 := h.only.trans h1 (fun _ h => h.elim)
        refine (task_none (hT.only hw1) (h.t.same h1) hs2 ho2 hq).mono fun e w2 ⟨⟨u, x, hx, he⟩, h2⟩ => ⟨?_, h2.mono (fun _ h => h.elim), fun w3 h3 => ?_⟩
        · rw [he, err_val (hE.only hw1) (g := 9) rfl rfl ha hx]
        · have hra := rfAsk_any (((h.f.same h1).same h2).same h3) h.rows (Nat.le_trans hw1.size (h2.trans h3 (fun _ h => h.elim)).size) (by omega) hs2 ho2 on (by omega) (by omega)
          rw [hq] at hra
          refine hra.mono fun e w4 ⟨he, h4⟩ => ⟨he, h4.mono (fun _ h => h.elim), ⟨T, l, (((h.same h1).same h2).same h3).same h4 |>.later (by omega)⟩⟩
    · obtain ⟨a, ha⟩ : ∃ a, es[0]? = some a := ⟨_, List.getElem?_eq_getElem (by rw [hE.len]; omega)⟩
      refine ⟨0, 1, errV a, fun w1 h1 => ?_, fun W hW => num_any (hE.only hW) (ErrV.err ha 1 rfl)⟩
      have hw1 := h.only.trans h1 (fun _ h => h.elim)
      refine (task_range (hT.only hw1) p on hs ho).mono fun e w2 ⟨⟨u, x, hx, he⟩, h2⟩ => ⟨?_, h2.mono (fun _ h => h.elim), fun w3 h3 => ?_⟩
      · rw [he, err_val (hE.only hw1) (g := 2) rfl rfl ha hx]
      · refine (rfAsk_range w3 r on hs ho).mono fun e w4 ⟨he, h4⟩ => ⟨he, h4.mono (fun _ h => h.elim), ⟨T, l, (((h.same h1).same h2).same h3).same h4 |>.later (by omega)⟩⟩
  · obtain ⟨a, ha⟩ : ∃ a, es[8]? = some a := ⟨_, List.getElem?_eq_getElem (by rw [hE.len]; omega)⟩
    refine ⟨0, 9, errV a, fun w1 h1 => ?_, fun W hW => num_any (hE.only hW) (ErrV.err ha 9 rfl)⟩
    have hw1 := h.only.trans h1 (fun _ h => h.elim)
    refine (task_kind (hT.only hw1) p o on hs).mono fun e w2 ⟨⟨u, x, hx, he⟩, h2⟩ => ⟨?_, h2.mono (fun _ h => h.elim), fun w3 h3 => ?_⟩
    · rw [he, err_val (hE.only hw1) (g := 1) rfl rfl ha hx]
    · refine (rfAsk_kind w3 r o on hs).mono fun e w4 ⟨he, h4⟩ => ⟨he, h4.mono (fun _ h => h.elim), ⟨T, l, (((h.same h1).same h2).same h3).same h4 |>.later (by omega)⟩⟩
end
theorem Jt.start {W F : World} {p r : Nat} {P : Po} (ho : Only (fun _ => False) W F) (ht : TbAt F p (agOf P.us P.hims) Tb.zero) (hb : Blk F r 52 [.slice P.a1 P.n1 P.c1, .slice P.a2 P.n2 P.c2, .slice none 0 0, .int .i64 0, .int .i64 0, .int .i64 0]) (hpr : r ≠ p) (hp : W.heap.size ≤ p) (hr : W.heap.size ≤ r) : Jt W F p r P 0 Tb.zero [] :=
  ⟨ht, ⟨none, 0, 0, hb, rfl, own_nil _ _ _ _⟩, rowsAre_nil, hpr, ⟨hp, hr⟩, ho, Nat.le_refl _, Nat.le_refl _, Nat.le_refl _, Nat.le_refl _⟩
theorem made2 {P : Prop} {C G : Nat → Nat → World → Prop} (k : (∀ p r F, C p r F → G p r F) → P) (h : ∀ p r F, C p r F → G p r F) : P := k h
end Go.Proofs.YthbmhoeaimdjmaaDoor
