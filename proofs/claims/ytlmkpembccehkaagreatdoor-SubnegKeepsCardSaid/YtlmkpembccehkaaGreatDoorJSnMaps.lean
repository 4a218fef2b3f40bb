/- Several texts in one. -/
import Derived.Test.YtlmkpembccehkaaGreatDoorJInfo
import Derived.Carry
import Derived.MapKept
import Derived.BigQuiet
import Derived.Test.YtlmkpembccehkaaGreatDoorJBox
import Derived.Test.YtlmkpembccehkaaGreatDoorJErrs
import Derived.Deep.RegionHeld3
import Derived.Test.YtlmkpembccehkaaGreatDoorJSnChars
import Derived.Test.YtlmkpembccehkaaGreatDoorJRow1
import Derived.Test.YtlmkpembccehkaaGreatDoorJScNew
import Derived.Test.YtlmkpembccehkaaGreatDoorScHear
/- A map that a call makes and fills: inserts and look-ups as steps of the walk; the map of method values by option. -/
namespace Go.Proofs.YtlmkpembccehkaaGreatDoor
open Go Go.RowKit
set_option maxRecDepth 100000
set_option maxHeartbeats 4000000

/-- Block M is a map that has these entries. -/
def MpAt (w : World) (M : Nat) (es : List MapEntry) (c : Nat) : Prop := w.heap[M]? = some (.map es.toArray c)
theorem MpAt.only {S : Nat → Prop} {w w' : World} {M c : Nat} {es : List MapEntry} (h : MpAt w M es c) (ho : Only S w w') (hS : ¬ S M) : MpAt w' M es c :=
  (ho.block M (Array.getElem?_eq_some_iff.1 h).1 hS).trans h
theorem MpAt.same {w w' : World} {M c : Nat} {es : List MapEntry} (h : MpAt w M es c) (ho : Only (fun _ => False) w w') : MpAt w' M es c := h.only ho (fun h => h)
theorem MpAt.new (w : World) : MpAt (w.alloc (.map #[] 0)) w.heap.size [] 0 := heap_alloc_new w _

/-- What an insert leaves. -/
theorem run_insert {P : Program} {w : World} {T kt et : TypeId} (hm : P.underlying T = some (.map kt et)) {M c : Nat} {es : List MapEntry} (hb : MpAt w M es c) {key : Value} (val : Value)
    (hc : (Instr.checkKey false 10000 kt key).run P w = .ok () w) (hf : (Instr.findKey kt key es).run P w = .ok none w) :
    ∃ w', (Instr.mapUpdate T (.map (some M)) key val).run P w = .ok () w' ∧ MpAt w' M (es ++ [⟨key, val, c⟩]) (c + 1) ∧ w'.heap.size = w.heap.size ∧ Only (· = M) w w' := by
  have hlt : M < w.heap.size := (Array.getElem?_eq_some_iff.1 hb).1
  refine ⟨{ w with heap := w.heap.setIfInBounds M (.map (es ++ [({ key := key, val := val, born := c } : MapEntry)]).toArray (c + 1)) }, ?_, ?_, by simp, ⟨rfl, rfl, rfl, by simp, fun k hk hS => ?_⟩⟩
  · have hf' : (Instr.findKey kt key es.toArray.toList).run P w = .ok none w := by simpa using hf
    simp [Instr.mapUpdate, run_underlying hm, MapKept.run_getObj_map hb, hc, hf, MapKept.run_setObj_map _ hb, Result.andThen]
  · unfold MpAt
    simp [hlt]
  · rw [Array.getElem?_setIfInBounds]
    rw [if_neg (fun h => hS h.symm)]
section
variable {P : Program} {ops : Array Oper} {rest : List Oper} {o : Oper} {a : Act} {w : World} {Q : Exit → Act → World → Prop}
theorem step_insert (hgd : o.guard = none) (T : TypeId) (m k x : Operand) (ho : o.op = .insert T m k x) (kt et : TypeId) (hm : P.underlying T = some (.map kt et)) (M c : Nat) (es : List MapEntry) (hb : MpAt w M es c) (key val : Value)
    (hem : a.eval m = .map (some M)) (hek : a.eval k = key) (hex : a.eval x = val) (hc : (Instr.checkKey false 10000 kt key).run P w = .ok () w) (hf : (Instr.findKey kt key es).run P w = .ok none w)
    (h : ∀ w', Hid (MpAt w' M (es ++ [⟨key, val, c⟩]) (c + 1)) → Hid (w'.heap.size = w.heap.size) → Hid (Only (· = M) w w') → wpList P ops Q rest (a.put o.dst undef) w') : wpList P ops Q (o :: rest) a w := by
  obtain ⟨w', hr, h1, h2, h3⟩ := run_insert hm hb val hc hf
  refine wpList_plain hgd fun K hK => ?_
  unfold Oper.wp
  simp [execOp, ho, hem, hek, hex, hr, Result.andThen]
  exact hK _ _ (h w' h1 h2 h3)
end
/-- A look-up, with ok. -/
theorem run_look {P : Program} {w : World} {T kt et : TypeId} (hm : P.underlying T = some (.map kt et)) {M c : Nat} {es : List MapEntry} (hb : MpAt w M es c) {key : Value} {i : Nat} {v : Value}
    (hc : ∀ e, (Instr.checkKey e 10000 kt key).run P w = .ok () w) (hf : (Instr.findKey kt key es).run P w = .ok (some (i, v)) w) :
    (Instr.lookup T (.map (some M)) key true).run P w = .ok (.tuple #[v, .bool true]) w := by
  simp [Instr.lookup, run_underlying hm, MapKept.run_getObj_map hb, hc, hf, Result.andThen]
theorem run_look_none {P : Program} {w : World} {T kt et : TypeId} (hm : P.underlying T = some (.map kt et)) {M c : Nat} {es : List MapEntry} (hb : MpAt w M es c) {key z : Value}
    (hc : ∀ e, (Instr.checkKey e 10000 kt key).run P w = .ok () w) (hf : (Instr.findKey kt key es).run P w = .ok none w) (hz : (zeroValue et).run P w = .ok z w) :
    (Instr.lookup T (.map (some M)) key true).run P w = .ok (.tuple #[z, .bool false]) w := by
  simp [Instr.lookup, run_underlying hm, MapKept.run_getObj_map hb, hc, hf, hz, Result.andThen]

@[reducible] def fnV (f : FuncId) (p : Nat) : Value := .func (.func f) #[.pointer (some ⟨p, 0, none⟩)] #[]
def e31 (p : Nat) : MapEntry := ⟨.int .i64 31, fnV 51 p, 0⟩
def e24 (p : Nat) : MapEntry := ⟨.int .i64 24, fnV 52 p, 1⟩
def e5 (p : Nat) : MapEntry := ⟨.int .i64 5, fnV 53 p, 2⟩
def e34 (p : Nat) : MapEntry := ⟨.int .i64 34, fnV 54 p, 3⟩
theorem chk_int (w : World) (z : Int) (e : Bool) : (Instr.checkKey e 10000 3 (.int .i64 z)).run Tryz.prog w = .ok () w := MapKept.run_checkKey Tryz.underlying3 (by simp [MapKept.IsKey]) e 9999
theorem find_int (w : World) {z : Int} {es : List MapEntry} {r : Option (Nat × Value)} (h : Instr.findNow (.int .i64) (.int .i64 z) es 0 = some r) : (Instr.findKey 3 (.int .i64 z) es).run Tryz.prog w = .ok r w := MapKept.run_findKey Tryz.underlying3 h
theorem hearings_any (w : World) (p : Nat) : Calls Tryz.prog 36 #[.pointer (some ⟨p, 0, none⟩)] w fun e w' => e = .returned (.map (some w.heap.size)) ∧ Hid (MpAt w' w.heap.size [e31 p, e24 p, e5 p, e34 p] 4) ∧ Hid (Only (fun _ => False) w w') := by
  have HM0 := Lib.hid (MpAt.new w)
  have hu := Tryz.underlying109
  have hmk := fun W => run_makeMap (P := Tryz.prog) 109 W
  go_enter Tryz.func36, Tryz.ntmps36
  go_wp2_with (first
    | (refine step_insert rfl 109 _ _ _ rfl 3 _ hu w.heap.size _ _ HM0.out (.int .i64 31) (fnV 51 p) rfl rfl rfl (chk_int _ _ _) (find_int _ rfl) ?_; intro w1 HM1 hz1 ho1)
    | (refine step_insert rfl 109 _ _ _ rfl 3 _ hu w.heap.size _ _ HM1.out (.int .i64 24) (fnV 52 p) rfl rfl rfl (chk_int _ _ _) (find_int _ rfl) ?_; intro w2 HM2 hz2 ho2)
    | (refine step_insert rfl 109 _ _ _ rfl 3 _ hu w.heap.size _ _ HM2.out (.int .i64 5) (fnV 53 p) rfl rfl rfl (chk_int _ _ _) (find_int _ rfl) ?_; intro w3 HM3 hz3 ho3)
    | (refine step_insert rfl 109 _ _ _ rfl 3 _ hu w.heap.size _ _ HM3.out (.int .i64 34) (fnV 54 p) rfl rfl rfl (chk_int _ _ _) (find_int _ rfl) ?_; intro w4 HM4 hz4 ho4))
  go_ret
  have hn : ∀ i, i = w.heap.size → False ∨ w.heap.size ≤ i := fun i hi => .inr (by omega)
  exact ⟨rfl, HM4.out, (((((Only.refl (fun _ => False) w).alloc _).trans ho1.out hn).trans ho2.out hn).trans ho3.out hn).trans ho4.out hn⟩
/-- What the look-up finds. -/
theorem look_opt {w : World} {M p : Nat} (h : MpAt w M [e31 p, e24 p, e5 p, e34 p] 4) :
    (Instr.lookup 109 (.map (some M)) (.int .i64 31) true).run Tryz.prog w = .ok (.tuple #[fnV 51 p, .bool true]) w ∧
    (Instr.lookup 109 (.map (some M)) (.int .i64 24) true).run Tryz.prog w = .ok (.tuple #[fnV 52 p, .bool true]) w ∧
    (Instr.lookup 109 (.map (some M)) (.int .i64 5) true).run Tryz.prog w = .ok (.tuple #[fnV 53 p, .bool true]) w ∧
    (Instr.lookup 109 (.map (some M)) (.int .i64 34) true).run Tryz.prog w = .ok (.tuple #[fnV 54 p, .bool true]) w := by
  have hu := Tryz.underlying109
  exact ⟨run_look hu h (fun e => chk_int _ _ e) (find_int (r := some (0, _)) _ rfl), run_look hu h (fun e => chk_int _ _ e) (find_int (r := some (1, _)) _ rfl), run_look hu h (fun e => chk_int _ _ e) (find_int (r := some (2, _)) _ rfl), run_look hu h (fun e => chk_int _ _ e) (find_int (r := some (3, _)) _ rfl)⟩
theorem look_other {w : World} {M p : Nat} (h : MpAt w M [e31 p, e24 p, e5 p, e34 p] 4) {z : Int} (h1 : z ≠ 31) (h2 : z ≠ 24) (h3 : z ≠ 5) (h4 : z ≠ 34) :
    (Instr.lookup 109 (.map (some M)) (.int .i64 z) true).run Tryz.prog w = .ok (.tuple #[.nilFunc, .bool false]) w := by
  have hu := Tryz.underlying109
  refine run_look_none hu h (fun e => chk_int _ _ e) (find_int _ ?_) (by kernel_rfl)
  have q1 : (z == 31) = false := by simpa using h1
  have q2 : (z == 24) = false := by simpa using h2
  have q3 : (z == 5) = false := by simpa using h3
  have q4 : (z == 34) = false := by simpa using h4
  simp [Instr.findNow, Instr.sameNow, e31, e24, e5, e34, q1, q2, q3, q4]
end Go.Proofs.YtlmkpembccehkaaGreatDoor
/- A hub hears a token: which option's body it is. -/
namespace Go.Proofs.YtlmkpembccehkaaGreatDoor
open Go Go.RowKit
set_option maxRecDepth 100000
set_option maxHeartbeats 4000000

@[reducible] def tkV (kind code opt : Int) (A : Option Addr) (n c : Nat) (cut : Bool) : Value := .agg #[.int .i64 kind, .int .i64 code, .int .i64 opt, .slice A n c, .bool cut]
theorem huHear_31 {w : World} {p q : Nat} {code : Int} {A : Option Addr} {n c : Nat} {C : Value → Value → World → Prop}
    (h : ∀ W, Only (fun _ => False) w W → Calls Tryz.prog 51 #[.pointer (some ⟨p, 0, none⟩), .pointer (some ⟨q, 0, none⟩), .slice A n c] W fun e w' => ∃ v E, e = .returned (.tuple #[v, E]) ∧ Hid (C v E w')) :
    Calls Tryz.prog 15 #[.pointer (some ⟨p, 0, none⟩), .pointer (some ⟨q, 0, none⟩), tkV 4 code 31 A n c false] w fun e w' => ∃ v E, e = .returned (.tuple #[v, E]) ∧ Hid (C v E w') := by
  have HF := Lib.hid h
  have HM := Lib.hid (fun W => hearings_any W p)
  have HB : Hid (∀ W, Only (fun _ => False) (w.alloc (.cells #[.int .i64 4, .int .i64 code, .int .i64 31, .slice A n c, .bool false] 47)) W → Blk W w.heap.size 47 [.int .i64 4, .int .i64 code, .int .i64 31, .slice A n c, .bool false]) := fun W ho => (Blk.new w 47 [.int .i64 4, .int .i64 code, .int .i64 31, .slice A n c, .bool false]).only ho (fun h => h)
  have HN : Hid (Only (fun _ => False) w (w.alloc (.cells #[.int .i64 4, .int .i64 code, .int .i64 31, .slice A n c, .bool false] 47))) := (Only.refl _ _).alloc _
  clear h
  go_enter Tryz.func15, Tryz.ntmps15
  go_wp2
  obtain ⟨w0, hw0⟩ : ∃ w0, w0 = w.alloc (.cells #[.int .i64 4, .int .i64 code, .int .i64 31, .slice A n c, .bool false] 47) := ⟨_, rfl⟩
  rw [← hw0] at HB HN ⊢
  clear hw0
  go_region_held3 (fun W => W.cell? ⟨w.heap.size, 2, none⟩ = some (.int .i64 31))
    (first | exact (HB.out _ (Only.refl _ _).drew).cell 2 | exact (HB.out _ HO1.out).cell 2)
    (first | (go_at_call 36; (with_reducible refine (HM.out _).mono ?_); rintro e w1 ⟨rfl, hm1, ho1⟩; have HO1 : Hid (Only (fun _ => False) w0 w1) := ((Only.refl _ _).drew).trans ho1.out (fun _ h => h.elim); have hlk := (look_opt (show MpAt w1 w0.heap.size [e31 p, e24 p, e5 p, e34 p] 4 from hm1.out)).1))
  have hb3 : w1.cell? ⟨w.heap.size, 3, none⟩ = some (.slice A n c) := (HB.out _ HO1.out).cell 3
  go_wp2_with (go_at_call 51; (with_reducible refine (HF.out _ (HN.out.trans HO1.out (fun _ h => h.elim))).mono ?_); rintro e w2 ⟨v, E, rfl, hC⟩)
  go_ret2
  exact ⟨v, E, rfl, hC⟩
theorem huHear_24 {w : World} {p q : Nat} {code : Int} {A : Option Addr} {n c : Nat} {C : Value → Value → World → Prop}
    (h : ∀ W, Only (fun _ => False) w W → Calls Tryz.prog 52 #[.pointer (some ⟨p, 0, none⟩), .pointer (some ⟨q, 0, none⟩), .slice A n c] W fun e w' => ∃ v E, e = .returned (.tuple #[v, E]) ∧ Hid (C v E w')) :
    Calls Tryz.prog 15 #[.pointer (some ⟨p, 0, none⟩), .pointer (some ⟨q, 0, none⟩), tkV 4 code 24 A n c false] w fun e w' => ∃ v E, e = .returned (.tuple #[v, E]) ∧ Hid (C v E w') := by
  have HF := Lib.hid h
  have HM := Lib.hid (fun W => hearings_any W p)
  have HB : Hid (∀ W, Only (fun _ => False) (w.alloc (.cells #[.int .i64 4, .int .i64 code, .int .i64 24, .slice A n c, .bool false] 47)) W → Blk W w.heap.size 47 [.int .i64 4, .int .i64 code, .int .i64 24, .slice A n c, .bool false]) := fun W ho => (Blk.new w 47 [.int .i64 4, .int .i64 code, .int .i64 24, .slice A n c, .bool false]).only ho (fun h => h)
  have HN : Hid (Only (fun _ => False) w (w.alloc (.cells #[.int .i64 4, .int .i64 code, .int .i64 24, .slice A n c, .bool false] 47))) := (Only.refl _ _).alloc _
  clear h
  go_enter Tryz.func15, Tryz.ntmps15
  go_wp2
  obtain ⟨w0, hw0⟩ : ∃ w0, w0 = w.alloc (.cells #[.int .i64 4, .int .i64 code, .int .i64 24, .slice A n c, .bool false] 47) := ⟨_, rfl⟩
  rw [← hw0] at HB HN ⊢
  clear hw0
  go_region_held3 (fun W => W.cell? ⟨w.heap.size, 2, none⟩ = some (.int .i64 24))
    (first | exact (HB.out _ (Only.refl _ _).drew).cell 2 | exact (HB.out _ HO1.out).cell 2)
    (first | (go_at_call 36; (with_reducible refine (HM.out _).mono ?_); rintro e w1 ⟨rfl, hm1, ho1⟩; have HO1 : Hid (Only (fun _ => False) w0 w1) := ((Only.refl _ _).drew).trans ho1.out (fun _ h => h.elim); have hlk := (look_opt (show MpAt w1 w0.heap.size [e31 p, e24 p, e5 p, e34 p] 4 from hm1.out)).2.1))
  have hb3 : w1.cell? ⟨w.heap.size, 3, none⟩ = some (.slice A n c) := (HB.out _ HO1.out).cell 3
  go_wp2_with (go_at_call 52; (with_reducible refine (HF.out _ (HN.out.trans HO1.out (fun _ h => h.elim))).mono ?_); rintro e w2 ⟨v, E, rfl, hC⟩)
  go_ret2
  exact ⟨v, E, rfl, hC⟩
theorem huHear_5 {w : World} {p q : Nat} {code : Int} {A : Option Addr} {n c : Nat} {C : Value → Value → World → Prop}
    (h : ∀ W, Only (fun _ => False) w W → Calls Tryz.prog 53 #[.pointer (some ⟨p, 0, none⟩), .pointer (some ⟨q, 0, none⟩), .slice A n c] W fun e w' => ∃ v E, e = .returned (.tuple #[v, E]) ∧ Hid (C v E w')) :
    Calls Tryz.prog 15 #[.pointer (some ⟨p, 0, none⟩), .pointer (some ⟨q, 0, none⟩), tkV 4 code 5 A n c false] w fun e w' => ∃ v E, e = .returned (.tuple #[v, E]) ∧ Hid (C v E w') := by
  have HF := Lib.hid h
  have HM := Lib.hid (fun W => hearings_any W p)
  have HB : Hid (∀ W, Only (fun _ => False) (w.alloc (.cells #[.int .i64 4, .int .i64 code, .int .i64 5, .slice A n c, .bool false] 47)) W → Blk W w.heap.size 47 [.int .i64 4, .int .i64 code, .int .i64 5, .slice A n c, .bool false]) := fun W ho => (Blk.new w 47 [.int .i64 4, .int .i64 code, .int .i64 5, .slice A n c, .bool false]).only ho (fun h => h)
  have HN : Hid (Only (fun _ => False) w (w.alloc (.cells #[.int .i64 4, .int .i64 code, .int .i64 5, .slice A n c, .bool false] 47))) := (Only.refl _ _).alloc _
  clear h
  go_enter Tryz.func15, Tryz.ntmps15
  go_wp2
  obtain ⟨w0, hw0⟩ : ∃ w0, w0 = w.alloc (.cells #[.int .i64 4, .int .i64 code, .int .i64 5, .slice A n c, .bool false] 47) := ⟨_, rfl⟩
  rw [← hw0] at HB HN ⊢
  clear hw0
  go_region_held3 (fun W => W.cell? ⟨w.heap.size, 2, none⟩ = some (.int .i64 5))
    (first | exact (HB.out _ (Only.refl _ _).drew).cell 2 | exact (HB.out _ HO1.out).cell 2)
    (first | (go_at_call 36; (with_reducible refine (HM.out _).mono ?_); rintro e w1 ⟨rfl, hm1, ho1⟩; have HO1 : Hid (Only (fun _ => False) w0 w1) := ((Only.refl _ _).drew).trans ho1.out (fun _ h => h.elim); have hlk := (look_opt (show MpAt w1 w0.heap.size [e31 p, e24 p, e5 p, e34 p] 4 from hm1.out)).2.2.1))
  have hb3 : w1.cell? ⟨w.heap.size, 3, none⟩ = some (.slice A n c) := (HB.out _ HO1.out).cell 3
  go_wp2_with (go_at_call 53; (with_reducible refine (HF.out _ (HN.out.trans HO1.out (fun _ h => h.elim))).mono ?_); rintro e w2 ⟨v, E, rfl, hC⟩)
  go_ret2
  exact ⟨v, E, rfl, hC⟩
theorem huHear_34 {w : World} {p q : Nat} {code : Int} {A : Option Addr} {n c : Nat} {C : Value → Value → World → Prop}
    (h : ∀ W, Only (fun _ => False) w W → Calls Tryz.prog 54 #[.pointer (some ⟨p, 0, none⟩), .pointer (some ⟨q, 0, none⟩), .slice A n c] W fun e w' => ∃ v E, e = .returned (.tuple #[v, E]) ∧ Hid (C v E w')) :
    Calls Tryz.prog 15 #[.pointer (some ⟨p, 0, none⟩), .pointer (some ⟨q, 0, none⟩), tkV 4 code 34 A n c false] w fun e w' => ∃ v E, e = .returned (.tuple #[v, E]) ∧ Hid (C v E w') := by
  have HF := Lib.hid h
  have HM := Lib.hid (fun W => hearings_any W p)
  have HB : Hid (∀ W, Only (fun _ => False) (w.alloc (.cells #[.int .i64 4, .int .i64 code, .int .i64 34, .slice A n c, .bool false] 47)) W → Blk W w.heap.size 47 [.int .i64 4, .int .i64 code, .int .i64 34, .slice A n c, .bool false]) := fun W ho => (Blk.new w 47 [.int .i64 4, .int .i64 code, .int .i64 34, .slice A n c, .bool false]).only ho (fun h => h)
  have HN : Hid (Only (fun _ => False) w (w.alloc (.cells #[.int .i64 4, .int .i64 code, .int .i64 34, .slice A n c, .bool false] 47))) := (Only.refl _ _).alloc _
  clear h
  go_enter Tryz.func15, Tryz.ntmps15
  go_wp2
  obtain ⟨w0, hw0⟩ : ∃ w0, w0 = w.alloc (.cells #[.int .i64 4, .int .i64 code, .int .i64 34, .slice A n c, .bool false] 47) := ⟨_, rfl⟩
  rw [← hw0] at HB HN ⊢
  clear hw0
  go_region_held3 (fun W => W.cell? ⟨w.heap.size, 2, none⟩ = some (.int .i64 34))
    (first | exact (HB.out _ (Only.refl _ _).drew).cell 2 | exact (HB.out _ HO1.out).cell 2)
    (first | (go_at_call 36; (with_reducible refine (HM.out _).mono ?_); rintro e w1 ⟨rfl, hm1, ho1⟩; have HO1 : Hid (Only (fun _ => False) w0 w1) := ((Only.refl _ _).drew).trans ho1.out (fun _ h => h.elim); have hlk := (look_opt (show MpAt w1 w0.heap.size [e31 p, e24 p, e5 p, e34 p] 4 from hm1.out)).2.2.2))
  have hb3 : w1.cell? ⟨w.heap.size, 3, none⟩ = some (.slice A n c) := (HB.out _ HO1.out).cell 3
  go_wp2_with (go_at_call 54; (with_reducible refine (HF.out _ (HN.out.trans HO1.out (fun _ h => h.elim))).mono ?_); rintro e w2 ⟨v, E, rfl, hC⟩)
  go_ret2
  exact ⟨v, E, rfl, hC⟩
theorem huHear_kind {w : World} {es : List Addr} (hE : ErrsAt w es) (p q : Nat) {kind : Int} (hk : kind ≠ 4) (code opt : Int) (A : Option Addr) (n c : Nat) (cut : Bool) :
    Calls Tryz.prog 15 #[.pointer (some ⟨p, 0, none⟩), .pointer (some ⟨q, 0, none⟩), tkV kind code opt A n c cut] w fun e w' => ∃ a, e = .returned (.tuple #[.slice none 0 0, .iface 191 (.pointer (some a))]) ∧ Only (fun _ => False) w w' := by
  obtain ⟨a, ha, hst⟩ := (hE.of [8]).get 8 0 (by decide) rfl
  unfold errV at hst
  have HC : Hid (∀ W, Only (fun _ => False) w W → W.cell? ⟨0, 0, none⟩ = some (.iface 191 (.pointer (some a)))) := fun W ho => ho.cellv hst (fun h => h)
  have hc1 : ∀ ob, (w.alloc ob).cell? ⟨0, 0, none⟩ = some (.iface 191 (.pointer (some a))) := fun ob => HC.out _ ((Only.refl _ _).alloc ob)
  clear ha hst hE
  have hk1 : (kind != 4) = true := by simp [hk]
  clear hk
  go_enter Tryz.func15, Tryz.ntmps15
  go_wp2
  go_quiet (fail)
  go_wp2
  go_ret2
  exact ⟨a, rfl, ((Only.refl _ _).alloc _).drewN _⟩
theorem huHear_cut {w : World} {es : List Addr} (hE : ErrsAt w es) (p q : Nat) (code opt : Int) (A : Option Addr) (n c : Nat) :
    Calls Tryz.prog 15 #[.pointer (some ⟨p, 0, none⟩), .pointer (some ⟨q, 0, none⟩), tkV 4 code opt A n c true] w fun e w' => ∃ a, e = .returned (.tuple #[.slice none 0 0, .iface 191 (.pointer (some a))]) ∧ Only (fun _ => False) w w' := by
  obtain ⟨a, ha, hst⟩ := (hE.of [3]).get 3 3 (by decide) rfl
  unfold errV at hst
  have HC : Hid (∀ W, Only (fun _ => False) w W → W.cell? ⟨3, 0, none⟩ = some (.iface 191 (.pointer (some a)))) := fun W ho => ho.cellv hst (fun h => h)
  have hc1 : ∀ ob, (w.alloc ob).cell? ⟨3, 0, none⟩ = some (.iface 191 (.pointer (some a))) := fun ob => HC.out _ ((Only.refl _ _).alloc ob)
  clear ha hst hE
  go_enter Tryz.func15, Tryz.ntmps15
  go_wp2
  go_quiet (fail)
  go_wp2
  go_ret2
  exact ⟨a, rfl, ((Only.refl _ _).alloc _).drewN _⟩
theorem huHear_name {w : World} {p q : Nat} {code : Int} {A : Option Addr} {n c : Nat} 
    {es : List Addr} (hE : ErrsAt w es) {opt : Int} (n1 : opt ≠ 31) (n2 : opt ≠ 24) (n3 : opt ≠ 5) (n4 : opt ≠ 34) :
    Calls Tryz.prog 15 #[.pointer (some ⟨p, 0, none⟩), .pointer (some ⟨q, 0, none⟩), tkV 4 code opt A n c false] w fun e w' => ∃ a, e = .returned (.tuple #[.slice none 0 0, .iface 191 (.pointer (some a))]) ∧ Only (fun _ => False) w w' := by
  obtain ⟨a, ha, hst⟩ := (hE.of [5]).get 5 4 (by decide) rfl
  unfold errV at hst
  have HC : Hid (∀ W, Only (fun _ => False) w W → W.cell? ⟨4, 0, none⟩ = some (.iface 191 (.pointer (some a)))) := fun W ho => ho.cellv hst (fun h => h)
  have hc1 : ∀ ob, (w.alloc ob).cell? ⟨4, 0, none⟩ = some (.iface 191 (.pointer (some a))) := fun ob => HC.out _ ((Only.refl _ _).alloc ob)
  clear ha hst hE
  have HM := Lib.hid (fun W => hearings_any W p)
  have HB : Hid (∀ W, Only (fun _ => False) (w.alloc (.cells #[.int .i64 4, .int .i64 code, .int .i64 opt, .slice A n c, .bool false] 47)) W → Blk W w.heap.size 47 [.int .i64 4, .int .i64 code, .int .i64 opt, .slice A n c, .bool false]) := fun W ho => (Blk.new w 47 [.int .i64 4, .int .i64 code, .int .i64 opt, .slice A n c, .bool false]).only ho (fun h => h)
  have HN : Hid (Only (fun _ => False) w (w.alloc (.cells #[.int .i64 4, .int .i64 code, .int .i64 opt, .slice A n c, .bool false] 47))) := (Only.refl _ _).alloc _
  go_enter Tryz.func15, Tryz.ntmps15
  go_wp2
  obtain ⟨w0, hw0⟩ : ∃ w0, w0 = w.alloc (.cells #[.int .i64 4, .int .i64 code, .int .i64 opt, .slice A n c, .bool false] 47) := ⟨_, rfl⟩
  rw [← hw0] at HB HN ⊢
  clear hw0
  go_region_held3 (fun W => W.cell? ⟨w.heap.size, 2, none⟩ = some (.int .i64 opt))
    (first | exact (HB.out _ (Only.refl _ _).drew).cell 2 | exact (HB.out _ HO1.out).cell 2)
    (first | (go_at_call 36; (with_reducible refine (HM.out _).mono ?_); rintro e w1 ⟨rfl, hm1, ho1⟩; have HO1 : Hid (Only (fun _ => False) w0 w1) := ((Only.refl _ _).drew).trans ho1.out (fun _ h => h.elim); have hlk := look_other (show MpAt w1 w0.heap.size [e31 p, e24 p, e5 p, e34 p] 4 from hm1.out) n1 n2 n3 n4))
  have hc2 := HC.out _ (HN.out.trans HO1.out (fun _ h => h.elim))
  go_wp2
  go_quiet (fail)
  go_wp2
  go_ret2
  exact ⟨a, rfl, (HN.out.trans HO1.out (fun _ h => h.elim)).drewN _⟩
end Go.Proofs.YtlmkpembccehkaaGreatDoor
/- A hub hears whatever token. -/
namespace Go.Proofs.YtlmkpembccehkaaGreatDoor
open Go Go.RowKit
set_option maxRecDepth 100000
set_option maxHeartbeats 4000000

section
variable {w : World} {es : List Addr} {A : Option Addr} {n c : Nat} {b : List UInt8} {p q : Nat} {h : Hb} {ag : Nat → Nat → Bool} {T : Tb}
theorem hubHear_any (hE : ErrsAt w es) (k : HkAt w p h) (hT : TbAt w q ag T) (hs : Src w A n b) (hn : n ≤ 256) (hnc : n ≤ c) (hcap : c ≤ 9223372036854775807) (kind code opt : Int) (cut : Bool) :
    Calls Tryz.prog 15 #[.pointer (some ⟨p, 0, none⟩), .pointer (some ⟨q, 0, none⟩), tkV kind code opt A n c cut] w fun e w' => ∃ v E, e = .returned (.tuple #[v, E]) ∧ Hid (Heard w p h opt v E w') ∧ (E = .nilIface → 0 ≤ opt ∧ opt ≤ 255) := by
  have key : ∀ f o, (∀ W, Only (fun _ => False) w W → HearsB f W p q h o A n c) → ∀ W, Only (fun _ => False) w W → Calls Tryz.prog f #[.pointer (some ⟨p, 0, none⟩), .pointer (some ⟨q, 0, none⟩), .slice A n c] W fun e w' => ∃ v E, e = .returned (.tuple #[v, E]) ∧ Hid (Heard w p h o v E w') := fun f o H W ho => (H W ho).mono (fun e w' ⟨v, E, h1, h2⟩ => ⟨v, E, h1, h2.out.from_ ho⟩)
  by_cases h4 : kind = 4
  · subst h4
    cases cut with
    | true =>
      refine (huHear_cut hE p q code opt A n c).mono ?_
      rintro e w' ⟨a, rfl, ho⟩
      exact ⟨_, _, rfl, Heard.err k ho, fun h => by cases h⟩
    | false =>
      by_cases n1 : opt = 31
      · subst n1
        exact (huHear_31 (C := Heard w p h 31) (key _ 31 fun W ho => keepSize (c := c) (hE.only ho) (k.same ho) (hT.same ho) (hs.only ho (fun _ _ _ h => h)))).mono fun e w' ⟨v, E, h1, h2⟩ => ⟨v, E, h1, h2, fun _ => by omega⟩
      by_cases n2 : opt = 24
      · subst n2
        exact (huHear_24 (C := Heard w p h 24) (key _ 24 fun W ho => keepType (hE.only ho) (k.same ho) (hT.same ho) (hs.only ho (fun _ _ _ h => h)) hn hnc hcap)).mono fun e w' ⟨v, E, h1, h2⟩ => ⟨v, E, h1, h2, fun _ => by omega⟩
      by_cases n3 : opt = 5
      · subst n3
        exact (huHear_5 (C := Heard w p h 5) (key _ 5 fun W ho => keepStatus (hE.only ho) (k.same ho) (hT.same ho) (hs.only ho (fun _ _ _ h => h)) hn hnc hcap)).mono fun e w' ⟨v, E, h1, h2⟩ => ⟨v, E, h1, h2, fun _ => by omega⟩
      by_cases n4 : opt = 34
      · subst n4
        exact (huHear_34 (C := Heard w p h 34) (key _ 34 fun W ho => keepLines (hE.only ho) (k.same ho) (hT.same ho) (hs.only ho (fun _ _ _ h => h)) hn hnc hcap)).mono fun e w' ⟨v, E, h1, h2⟩ => ⟨v, E, h1, h2, fun _ => by omega⟩
      refine (huHear_name hE n1 n2 n3 n4).mono ?_
      rintro e w' ⟨a, rfl, ho⟩
      exact ⟨_, _, rfl, Heard.err k ho, fun h => by cases h⟩
  · refine (huHear_kind hE p q h4 code opt A n c cut).mono ?_
    rintro e w' ⟨a, rfl, ho⟩
    exact ⟨_, _, rfl, Heard.err k ho, fun h => by cases h⟩
end
end Go.Proofs.YtlmkpembccehkaaGreatDoor
/- What a side that is made of settings holds of each function, as a row. -/
namespace Go.Proofs.YtlmkpembccehkaaGreatDoor
open Go Go.RowKit
set_option maxRecDepth 100000
set_option maxHeartbeats 4000000

theorem st_set : ∀ (l : List Se) (i : Nat) (x : Se), i < l.length → (l.flatMap Se.cs).take (i * 2) ++ ([.int .i64 x.l, .int .i64 x.v] ++ (l.flatMap Se.cs).drop (i * 2 + 2)) = (l.set i x).flatMap Se.cs
  | [], i, x, h => by simp at h
  | y :: l, 0, x, _ => by simp [Se.cs]
  | y :: l, i + 1, x, h => by
    have ih := st_set l i x (by simpa using h)
    have e1 : (i + 1) * 2 = (i * 2).succ.succ := by omega
    rw [List.set_cons_succ, List.flatMap_cons, List.flatMap_cons, ← ih, e1]
    simp [Se.cs, Nat.succ_eq_add_one]
theorem st_len (l : List Se) : (l.flatMap Se.cs).length = l.length * 2 := by
  induction l with
  | nil => rfl
  | cons y l ih => rw [List.flatMap_cons, List.length_append, ih, List.length_cons]; simp; omega
theorem st_cell : ∀ {l : List Se} {i j : Nat} {x : Se} {v : Value}, l[i]? = some x → x.cs[j]? = some v → (l.flatMap Se.cs)[i * 2 + j]? = some v
  | [], i, j, x, v, h, _ => by simp at h
  | y :: l, 0, j, x, v, h, hv => by
    simp only [List.getElem?_cons_zero, Option.some.injEq] at h
    subst h
    rw [List.flatMap_cons, Nat.zero_mul, Nat.zero_add, List.getElem?_append_left (List.getElem?_eq_some_iff.1 hv).1]
    exact hv
  | y :: l, i + 1, j, x, v, h, hv => by
    simp only [List.getElem?_cons_succ] at h
    have := st_cell h hv
    rw [List.flatMap_cons, List.getElem?_append_right (by simp; omega), ← this]
    congr 1
    simp
    omega
theorem StAt.of_blk {w : World} {N n : Nat} {l : List Se} (h : Blk w N 75 (l.flatMap Se.cs)) (hl : l.length = n) : StAt w (some ⟨N, 0, none⟩) n l :=
  ⟨hl, fun i x hx => ⟨N, 0, rfl, h.lt, fun j v hv => by
    rw [Nat.zero_add, h.cell]
    exact st_cell hx hv⟩⟩
def st0 : List Se := List.replicate 18 ⟨0, 0⟩
theorem make_set (W : World) : (Instr.makeSlice 25 (.int .i64 18) (.int .i64 18)).run Tryz.prog W = .ok (.slice (some ⟨W.heap.size, 0, none⟩) 18 18) (W.alloc (.cells (st0.flatMap Se.cs).toArray 75)) := by kernel_rfl
theorem snHeld_any {w : World} {A : Option Addr} {n c : Nat} {l : List Se} (h : StAt w A n l) (hn : n ≤ c) (hc : c ≤ 9223372036854775807) :
    Calls Tryz.prog 22 #[.slice A n c] w fun e w' => ∃ N l', e = .returned (.slice (some ⟨N, 0, none⟩) 18 18) ∧ Hid (StAt w' (some ⟨N, 0, none⟩) 18 l') ∧ Hid (w.heap.size ≤ N) ∧ Hid (Only (fun _ => False) w w') := by
  have HNw := Lib.hid (snew_any h hn hc)
  have hmk := make_set
  clear h hn hc
  go_enter Tryz.func22, Tryz.ntmps22
  go_wp2_with (go_at_call 45; (with_reducible refine HNw.out.mono ?_); rintro e w1 ⟨q, rfl, hs1, hq1, ho1⟩; have HS1 := Lib.hid hs1; have HQ1 := Lib.hid hq1; have HO1 := Lib.hid ho1; clear hs1 hq1 ho1)
  obtain ⟨N, hN⟩ : ∃ N, N = w1.heap.size := ⟨_, rfl⟩
  obtain ⟨w2, hw2⟩ : ∃ w2, w2 = w1.alloc (.cells (st0.flatMap Se.cs).toArray 75) := ⟨_, rfl⟩
  rw [← hw2, ← hN]
  have HB2 : Hid (Blk w2 N 75 (st0.flatMap Se.cs)) := by
    rw [hw2, hN]
    exact Blk.new w1 _ _
  have HS2 : Hid (∃ S, ScSdAt w2 q S) := ⟨_, by rw [hw2]; exact HS1.out.same ((Only.refl _ _).alloc _)⟩
  have HO2 : Hid (Only (fun _ => False) w w2) := by rw [hw2]; exact HO1.out.alloc _
  have HNN : Hid (w.heap.size ≤ N ∧ q < N) := by rw [hN]; exact ⟨HO1.out.size, HS1.out.lt⟩
  clear hN hw2
  go_wp2
  go_loopw [13] (fun i W => ∃ k : Nat, k ≤ 18 ∧ i = .int .i64 (k : Int) ∧ Hid (∃ l' : List Se, l'.length = 18 ∧ Blk W N 75 (l'.flatMap Se.cs) ∧ (∃ S, ScSdAt W q S) ∧ Only (fun _ => False) w W)) (fun i _ => 18 - (intOf i).toNat)
  case atStart => exact ⟨0, Nat.zero_le _, rfl, st0, rfl, HB2.out, HS2.out, HO2.out⟩
  case round =>
    obtain ⟨k, hk, rfl, hrel⟩ := hrel
    obtain ⟨l', hl', hB, ⟨S, hS⟩, hO⟩ := hrel.out
    by_cases hlt : k < 18
    · have hlt2 : (k : Int) < (18 : Int) := by omega
      have HHr := Lib.hid (hear_any hS ⟨(k : Int) + 1, ⟨3, 0⟩, false⟩)
      have HS := Lib.hid hS
      have hqN : q ≠ N := by have := HNN.out.2; omega
      obtain ⟨⟨f, ⟨xl, xv⟩, xa⟩, hx⟩ : ∃ x, x = (hearS S ⟨(k : Int) + 1, ⟨3, 0⟩, false⟩).2.1 := ⟨_, rfl⟩
      obtain ⟨b, hb⟩ : ∃ b, b = (hearS S ⟨(k : Int) + 1, ⟨3, 0⟩, false⟩).2.2 := ⟨_, rfl⟩
      rw [← hx, ← hb] at HHr
      have HB := Lib.hid hB
      have HO := Lib.hid hO
      have HL := Lib.hid hl'
      have hNl := hB.lt
      have hk2 : k * 2 + 1 < (l'.flatMap Se.cs).length := by rw [st_len, hl']; omega
      clear hrel hB hS hO hl' hx hb
      go_wp2_with (first
        | (go_at_call 46; (with_reducible refine HHr.out.mono ?_); rintro e w3 ⟨rfl, hs3, ho3⟩; have HS3 := Lib.hid hs3; have HB3 := Lib.hid (HB.out.only ho3 (fun h => hqN h.symm)); have HO3 : Hid (Only (fun _ => False) w w3) := HO.out.trans ho3 (fun i hi => .inr (by rw [hi]; exact HQ1.out)); have hz3 := ho3.size; clear hs3 ho3)
        | ((with_reducible show wpList _ _ _ (⟨none, .store 75 (.tmp 29) _, _, _, _, _⟩ :: _) _ _); refine step_store2 rfl 75 _ _ rfl N (k * 2) rfl (.int .i64 xl) (.int .i64 xv) rfl _ _ (HB3.out.alloc _) hk2 size_set rfl rfl ?_; intro w4 hB4 hz4 ho4))
      go_roundw
      case rel =>
        refine ⟨k + 1, by omega, by go_num, l'.set k ⟨xl, xv⟩, by rw [List.length_set]; exact HL.out, ?_, ⟨_, (HS3.out.same ((Only.refl _ _).alloc _)).only ho4 hqN⟩, (HO3.out.alloc _).trans ho4 (fun i hi => .inr (by rw [hi]; exact HNN.out.1))⟩
        have := hB4.out
        rw [st_set l' k ⟨xl, xv⟩ (by rw [HL.out]; exact hlt)] at this
        exact this
      case measure => simp [intOf]; omega
    · obtain rfl : k = 18 := by omega
      clear hrel
      have HB := Lib.hid hB
      have HL := Lib.hid hl'
      have HO := Lib.hid hO
      clear hB hl' hO hS
      go_wp2
      go_ret
      exact ⟨N, l', rfl, StAt.of_blk HB.out HL.out, HNN.out.1, HO.out⟩
end Go.Proofs.YtlmkpembccehkaaGreatDoor
