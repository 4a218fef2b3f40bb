
/- A map that a call makes and fills: inserts and look-ups as steps of the walk; the map of method values by option. -/
import Derived.Test.YtbnfhklpobephaaGreatDoorJBase
import Derived.Carry
import Derived.MapKept
import Derived.BigQuiet
namespace Go.Proofs.YtbnfhklpobephaaGreatDoor
open Go Go.RowKit
set_option maxRecDepth 100000
set_option maxHeartbeats 4000000

/-- Block M is a map that has these entries. -/
def MpAt (w : World) (M : Nat) (es : List MapEntry) (c : Nat) : Prop := w.heap[M]? = some (.map es.toArray c)
theorem MpAt.only {S : Nat → Prop} {w w' : World} {M c : Nat} {es : List MapEntry} (h : MpAt w M es c) (ho : Only S w w') (hS : ¬ S M) : MpAt w' M es c :=
  (ho.block M (Array.getElem?_eq_some_iff.1 h).1 hS).trans h
theorem MpAt.same {w w' : World} {M c : Nat} {es : List MapEntry} (h : MpAt w M es c) (ho : Only (fun _ => False) w w') : MpAt w' M es c := h.only ho (fun h => h)
theorem MpAt.new (w : World) : MpAt (w.alloc (.map #[] 0)) w.heap.size [] 0 := heap_alloc_new w _

/-- What an insert leaves. -/
theorem run_insert {P : Program} {w : World} {T kt et : TypeId} (hm : P.underlying T = some (.map kt et)) {M c : Nat} {es : List MapEntry} (hb : MpAt w M es c) {key : Value} (val : Value)
    (hc : (Instr.checkKey false 10000 kt key).run P w = .ok () w) (hf : (Instr.findKey kt key es).run P w = .ok none w) :
    ∃ w', (Instr.mapUpdate T (.map (some M)) key val).run P w = .ok () w' ∧ MpAt w' M (es ++ [⟨key, val, c⟩]) (c + 1) ∧ w'.heap.size = w.heap.size ∧ Only (· = M) w w' := by
  have hlt : M < w.heap.size := (Array.getElem?_eq_some_iff.1 hb).1
  refine ⟨{ w with heap := w.heap.setIfInBounds M (.map (es ++ [({ key := key, val := val, born := c } : MapEntry)]).toArray (c + 1)) }, ?_, ?_, by simp, ⟨rfl, rfl, rfl, by simp, fun k hk hS => ?_⟩⟩
  · have hf' : (Instr.findKey kt key es.toArray.toList).run P w = .ok none w := by simpa using hf
    simp [Instr.mapUpdate, run_underlying hm, MapKept.run_getObj_map hb, hc, hf, MapKept.run_setObj_map _ hb, Result.andThen]
  · unfold MpAt
    simp [hlt]
  · rw [Array.getElem?_setIfInBounds]
    rw [if_neg (fun h => hS h.symm)]
section
variable {P : Program} {ops : Array Oper} {rest : List Oper} {o : Oper} {a : Act} {w : World} {Q : Exit → Act → World → Prop}
theorem step_insert (hgd : o.guard = none) (T : TypeId) (m k x : Operand) (ho : o.op = .insert T m k x) (kt et : TypeId) (hm : P.underlying T = some (.map kt et)) (M c : Nat) (es : List MapEntry) (hb : MpAt w M es c) (key val : Value)
    (hem : a.eval m = .map (some M)) (hek : a.eval k = key) (hex : a.eval x = val) (hc : (Instr.checkKey false 10000 kt key).run P w = .ok () w) (hf : (Instr.findKey kt key es).run P w = .ok none w)
    (h : ∀ w', Hid (MpAt w' M (es ++ [⟨key, val, c⟩]) (c + 1)) → Hid (w'.heap.size = w.heap.size) → Hid (Only (· = M) w w') → wpList P ops Q rest (a.put o.dst undef) w') : wpList P ops Q (o :: rest) a w := by
  obtain ⟨w', hr, h1, h2, h3⟩ := run_insert hm hb val hc hf
  refine wpList_plain hgd fun K hK => ?_
  unfold Oper.wp
  simp [execOp, ho, hem, hek, hex, hr, Result.andThen]
  exact hK _ _ (h w' h1 h2 h3)
end
/-- A look-up, with ok. -/
theorem run_look {P : Program} {w : World} {T kt et : TypeId} (hm : P.underlying T = some (.map kt et)) {M c : Nat} {es : List MapEntry} (hb : MpAt w M es c) {key : Value} {i : Nat} {v : Value}
    (hc : ∀ e, (Instr.checkKey e 10000 kt key).run P w = .ok () w) (hf : (Instr.findKey kt key es).run P w = .ok (some (i, v)) w) :
    (Instr.lookup T (.map (some M)) key true).run P w = .ok (.tuple #[v, .bool true]) w := by
  simp [Instr.lookup, run_underlying hm, MapKept.run_getObj_map hb, hc, hf, Result.andThen]
theorem run_look_none {P : Program} {w : World} {T kt et : TypeId} (hm : P.underlying T = some (.map kt et)) {M c : Nat} {es : List MapEntry} (hb : MpAt w M es c) {key z : Value}
    (hc : ∀ e, (Instr.checkKey e 10000 kt key).run P w = .ok () w) (hf : (Instr.findKey kt key es).run P w = .ok none w) (hz : (zeroValue et).run P w = .ok z w) :
    (Instr.lookup T (.map (some M)) key true).run P w = .ok (.tuple #[z, .bool false]) w := by
  simp [Instr.lookup, run_underlying hm, MapKept.run_getObj_map hb, hc, hf, hz, Result.andThen]

@[reducible] def fnV (f : FuncId) (p : Addr) : Value := .func (.func f) #[.pointer (some p)] #[]
def e31 (p : Addr) : MapEntry := ⟨.int .i64 31, fnV 208 p, 0⟩
def e24 (p : Addr) : MapEntry := ⟨.int .i64 24, fnV 209 p, 1⟩
def e5 (p : Addr) : MapEntry := ⟨.int .i64 5, fnV 210 p, 2⟩
def e34 (p : Addr) : MapEntry := ⟨.int .i64 34, fnV 211 p, 3⟩
theorem chk_int (w : World) (z : Int) (e : Bool) : (Instr.checkKey e 10000 3 (.int .i64 z)).run Tryz.prog w = .ok () w := MapKept.run_checkKey Tryz.underlying3 (by simp [MapKept.IsKey]) e 9999
theorem find_int (w : World) {z : Int} {es : List MapEntry} {r : Option (Nat × Value)} (h : Instr.findNow (.int .i64) (.int .i64 z) es 0 = some r) : (Instr.findKey 3 (.int .i64 z) es).run Tryz.prog w = .ok r w := MapKept.run_findKey Tryz.underlying3 h
theorem hearings_any (w : World) (p : Addr) : Calls Tryz.prog 195 #[.pointer (some p)] w fun e w' => e = .returned (.map (some w.heap.size)) ∧ Hid (MpAt w' w.heap.size [e31 p, e24 p, e5 p, e34 p] 4) ∧ Hid (Only (fun _ => False) w w') := by
  have HM0 := Lib.hid (MpAt.new w)
  have hu := Tryz.underlying366
  have hmk := fun W => run_makeMap (P := Tryz.prog) 366 W
  go_enter Tryz.func195, Tryz.ntmps195
  go_wp2_with (first
    | (refine step_insert rfl 366 _ _ _ rfl 3 _ hu w.heap.size _ _ HM0.out (.int .i64 31) (fnV 208 p) rfl rfl rfl (chk_int _ _ _) (find_int _ rfl) ?_; intro w1 HM1 hz1 ho1)
    | (refine step_insert rfl 366 _ _ _ rfl 3 _ hu w.heap.size _ _ HM1.out (.int .i64 24) (fnV 209 p) rfl rfl rfl (chk_int _ _ _) (find_int _ rfl) ?_; intro w2 HM2 hz2 ho2)
    | (refine step_insert rfl 366 _ _ _ rfl 3 _ hu w.heap.size _ _ HM2.out (.int .i64 5) (fnV 210 p) rfl rfl rfl (chk_int _ _ _) (find_int _ rfl) ?_; intro w3 HM3 hz3 ho3)
    | (refine step_insert rfl 366 _ _ _ rfl 3 _ hu w.heap.size _ _ HM3.out (.int .i64 34) (fnV 211 p) rfl rfl rfl (chk_int _ _ _) (find_int _ rfl) ?_; intro w4 HM4 hz4 ho4))
  go_ret
  have hn : ∀ i, i = w.heap.size → False ∨ w.heap.size ≤ i := fun i hi => .inr (by omega)
  exact ⟨rfl, HM4.out, (((((Only.refl (fun _ => False) w).alloc _).trans ho1.out hn).trans ho2.out hn).trans ho3.out hn).trans ho4.out hn⟩
/-- What the look-up finds. -/
theorem look_opt {w : World} {M : Nat} {p : Addr} (h : MpAt w M [e31 p, e24 p, e5 p, e34 p] 4) :
    (Instr.lookup 366 (.map (some M)) (.int .i64 31) true).run Tryz.prog w = .ok (.tuple #[fnV 208 p, .bool true]) w ∧
    (Instr.lookup 366 (.map (some M)) (.int .i64 24) true).run Tryz.prog w = .ok (.tuple #[fnV 209 p, .bool true]) w ∧
    (Instr.lookup 366 (.map (some M)) (.int .i64 5) true).run Tryz.prog w = .ok (.tuple #[fnV 210 p, .bool true]) w ∧
    (Instr.lookup 366 (.map (some M)) (.int .i64 34) true).run Tryz.prog w = .ok (.tuple #[fnV 211 p, .bool true]) w := by
  have hu := Tryz.underlying366
  exact ⟨run_look hu h (fun e => chk_int _ _ e) (find_int (r := some (0, _)) _ rfl), run_look hu h (fun e => chk_int _ _ e) (find_int (r := some (1, _)) _ rfl), run_look hu h (fun e => chk_int _ _ e) (find_int (r := some (2, _)) _ rfl), run_look hu h (fun e => chk_int _ _ e) (find_int (r := some (3, _)) _ rfl)⟩
theorem look_other {w : World} {M : Nat} {p : Addr} (h : MpAt w M [e31 p, e24 p, e5 p, e34 p] 4) {z : Int} (h1 : z ≠ 31) (h2 : z ≠ 24) (h3 : z ≠ 5) (h4 : z ≠ 34) :
    (Instr.lookup 366 (.map (some M)) (.int .i64 z) true).run Tryz.prog w = .ok (.tuple #[.nilFunc, .bool false]) w := by
  have hu := Tryz.underlying366
  refine run_look_none hu h (fun e => chk_int _ _ e) (find_int _ ?_) (by kernel_rfl)
  have q1 : (z == 31) = false := by simpa using h1
  have q2 : (z == 24) = false := by simpa using h2
  have q3 : (z == 5) = false := by simpa using h3
  have q4 : (z == 34) = false := by simpa using h4
  simp [Instr.findNow, Instr.sameNow, e31, e24, e5, e34, q1, q2, q3, q4]
end Go.Proofs.YtbnfhklpobephaaGreatDoor
