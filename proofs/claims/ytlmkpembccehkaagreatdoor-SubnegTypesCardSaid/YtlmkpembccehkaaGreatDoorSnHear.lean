/- A hub hears a token: which option's body it is. -/
import Derived.Test.YtlmkpembccehkaaGreatDoorSnMaps
import Derived.Test.YtlmkpembccehkaaGreatDoorSnHub
import Derived.Test.YtlmkpembccehkaaGreatDoorErAll
import Derived.Deep.RegionHeld3
namespace Go.Proofs.YtlmkpembccehkaaGreatDoor
open Go Go.RowKit
set_option maxRecDepth 100000
set_option maxHeartbeats 4000000

@[reducible] def tkV (kind code opt : Int) (A : Option Addr) (n c : Nat) (cut : Bool) : Value := .agg #[.int .i64 kind, .int .i64 code, .int .i64 opt, .slice A n c, .bool cut]
theorem huHear_31 {w : World} {p q : Nat} {code : Int} {A : Option Addr} {n c : Nat} {C : Value → Value → World → Prop}
    (h : ∀ W, Only (fun _ => False) w W → Calls Tryz.prog 51 #[.pointer (some ⟨p, 0, none⟩), .pointer (some ⟨q, 0, none⟩), .slice A n c] W fun e w' => ∃ v E, e = .returned (.tuple #[v, E]) ∧ Hid (C v E w')) :
    Calls Tryz.prog 15 #[.pointer (some ⟨p, 0, none⟩), .pointer (some ⟨q, 0, none⟩), tkV 4 code 31 A n c false] w fun e w' => ∃ v E, e = .returned (.tuple #[v, E]) ∧ Hid (C v E w') := by
  have HF := Lib.hid h
  have HM := Lib.hid (fun W => hearings_any W p)
  have HB : Hid (∀ W, Only (fun _ => False) (w.alloc (.cells #[.int .i64 4, .int .i64 code, .int .i64 31, .slice A n c, .bool false] 47)) W → Blk W w.heap.size 47 [.int .i64 4, .int .i64 code, .int .i64 31, .slice A n c, .bool false]) := fun W ho => (Blk.new w 47 [.int .i64 4, .int .i64 code, .int .i64 31, .slice A n c, .bool false]).only ho (fun h => h)
  have HN : Hid (Only (fun _ => False) w (w.alloc (.cells #[.int .i64 4, .int .i64 code, .int .i64 31, .slice A n c, .bool false] 47))) := (Only.refl _ _).alloc _
  clear h
  go_enter Tryz.func15, Tryz.ntmps15
  go_wp2
  obtain ⟨w0, hw0⟩ : ∃ w0, w0 = w.alloc (.cells #[.int .i64 4, .int .i64 code, .int .i64 31, .slice A n c, .bool false] 47) := ⟨_, rfl⟩
  rw [← hw0] at HB HN ⊢
  clear hw0
  go_region_held3 (fun W => W.cell? ⟨w.heap.size, 2, none⟩ = some (.int .i64 31))
    (first | exact (HB.out _ (Only.refl _ _).drew).cell 2 | exact (HB.out _ HO1.out).cell 2)
    (first | (go_at_call 36; (with_reducible refine (HM.out _).mono ?_); rintro e w1 ⟨rfl, hm1, ho1⟩; have HO1 : Hid (Only (fun _ => False) w0 w1) := ((Only.refl _ _).drew).trans ho1.out (fun _ h => h.elim); have hlk := (look_opt (show MpAt w1 w0.heap.size [e31 p, e24 p, e5 p, e34 p] 4 from hm1.out)).1))
  have hb3 : w1.cell? ⟨w.heap.size, 3, none⟩ = some (.slice A n c) := (HB.out _ HO1.out).cell 3
  go_wp2_with (go_at_call 51; (with_reducible refine (HF.out _ (HN.out.trans HO1.out (fun _ h => h.elim))).mono ?_); rintro e w2 ⟨v, E, rfl, hC⟩)
  go_ret2
  exact ⟨v, E, rfl, hC⟩
theorem huHear_24 {w : World} {p q : Nat} {code : Int} {A : Option Addr} {n c : Nat} {C : Value → Value → World → Prop}
    (h : ∀ W, Only (fun _ => False) w W → Calls Tryz.prog 52 #[.pointer (some ⟨p, 0, none⟩), .pointer (some ⟨q, 0, none⟩), .slice A n c] W fun e w' => ∃ v E, e = .returned (.tuple #[v, E]) ∧ Hid (C v E w')) :
    Calls Tryz.prog 15 #[.pointer (some ⟨p, 0, none⟩), .pointer (some ⟨q, 0, none⟩), tkV 4 code 24 A n c false] w fun e w' => ∃ v E, e = .returned (.tuple #[v, E]) ∧ Hid (C v E w') := by
  have HF := Lib.hid h
  have HM := Lib.hid (fun W => hearings_any W p)
  have HB : Hid (∀ W, Only (fun _ => False) (w.alloc (.cells #[.int .i64 4, .int .i64 code, .int .i64 24, .slice A n c, .bool false] 47)) W → Blk W w.heap.size 47 [.int .i64 4, .int .i64 code, .int .i64 24, .slice A n c, .bool false]) := fun W ho => (Blk.new w 47 [.int .i64 4, .int .i64 code, .int .i64 24, .slice A n c, .bool false]).only ho (fun h => h)
  have HN : Hid (Only (fun _ => False) w (w.alloc (.cells #[.int .i64 4, .int .i64 code, .int .i64 24, .slice A n c, .bool false] 47))) := (Only.refl _ _).alloc _
  clear h
  go_enter Tryz.func15, Tryz.ntmps15
  go_wp2
  obtain ⟨w0, hw0⟩ : ∃ w0, w0 = w.alloc (.cells #[.int .i64 4, .int .i64 code, .int .i64 24, .slice A n c, .bool false] 47) := ⟨_, rfl⟩
  rw [← hw0] at HB HN ⊢
  clear hw0
  go_region_held3 (fun W => W.cell? ⟨w.heap.size, 2, none⟩ = some (.int .i64 24))
    (first | exact (HB.out _ (Only.refl _ _).drew).cell 2 | exact (HB.out _ HO1.out).cell 2)
    (first | (go_at_call 36; (with_reducible refine (HM.out _).mono ?_); rintro e w1 ⟨rfl, hm1, ho1⟩; have HO1 : Hid (Only (fun _ => False) w0 w1) := ((Only.refl _ _).drew).trans ho1.out (fun _ h => h.elim); have hlk := (look_opt (show MpAt w1 w0.heap.size [e31 p, e24 p, e5 p, e34 p] 4 from hm1.out)).2.1))
  have hb3 : w1.cell? ⟨w.heap.size, 3, none⟩ = some (.slice A n c) := (HB.out _ HO1.out).cell 3
  go_wp2_with (go_at_call 52; (with_reducible refine (HF.out _ (HN.out.trans HO1.out (fun _ h => h.elim))).mono ?_); rintro e w2 ⟨v, E, rfl, hC⟩)
  go_ret2
  exact ⟨v, E, rfl, hC⟩
theorem huHear_5 {w : World} {p q : Nat} {code : Int} {A : Option Addr} {n c : Nat} {C : Value → Value → World → Prop}
    (h : ∀ W, Only (fun _ => False) w W → Calls Tryz.prog 53 #[.pointer (some ⟨p, 0, none⟩), .pointer (some ⟨q, 0, none⟩), .slice A n c] W fun e w' => ∃ v E, e = .returned (.tuple #[v, E]) ∧ Hid (C v E w')) :
    Calls Tryz.prog 15 #[.pointer (some ⟨p, 0, none⟩), .pointer (some ⟨q, 0, none⟩), tkV 4 code 5 A n c false] w fun e w' => ∃ v E, e = .returned (.tuple #[v, E]) ∧ Hid (C v E w') := by
  have HF := Lib.hid h
  have HM := Lib.hid (fun W => hearings_any W p)
  have HB : Hid (∀ W, Only (fun _ => False) (w.alloc (.cells #[.int .i64 4, .int .i64 code, .int .i64 5, .slice A n c, .bool false] 47)) W → Blk W w.heap.size 47 [.int .i64 4, .int .i64 code, .int .i64 5, .slice A n c, .bool false]) := fun W ho => (Blk.new w 47 [.int .i64 4, .int .i64 code, .int .i64 5, .slice A n c, .bool false]).only ho (fun h => h)
  have HN : Hid (Only (fun _ => False) w (w.alloc (.cells #[.int .i64 4, .int .i64 code, .int .i64 5, .slice A n c, .bool false] 47))) := (Only.refl _ _).alloc _
  clear h
  go_enter Tryz.func15, Tryz.ntmps15
  go_wp2
  obtain ⟨w0, hw0⟩ : ∃ w0, w0 = w.alloc (.cells #[.int .i64 4, .int .i64 code, .int .i64 5, .slice A n c, .bool false] 47) := ⟨_, rfl⟩
  rw [← hw0] at HB HN ⊢
  clear hw0
  go_region_held3 (fun W => W.cell? ⟨w.heap.size, 2, none⟩ = some (.int .i64 5))
    (first | exact (HB.out _ (Only.refl _ _).drew).cell 2 | exact (HB.out _ HO1.out).cell 2)
    (first | (go_at_call 36; (with_reducible refine (HM.out _).mono ?_); rintro e w1 ⟨rfl, hm1, ho1⟩; have HO1 : Hid (Only (fun _ => False) w0 w1) := ((Only.refl _ _).drew).trans ho1.out (fun _ h => h.elim); have hlk := (look_opt (show MpAt w1 w0.heap.size [e31 p, e24 p, e5 p, e34 p] 4 from hm1.out)).2.2.1))
  have hb3 : w1.cell? ⟨w.heap.size, 3, none⟩ = some (.slice A n c) := (HB.out _ HO1.out).cell 3
  go_wp2_with (go_at_call 53; (with_reducible refine (HF.out _ (HN.out.trans HO1.out (fun _ h => h.elim))).mono ?_); rintro e w2 ⟨v, E, rfl, hC⟩)
  go_ret2
  exact ⟨v, E, rfl, hC⟩
theorem huHear_34 {w : World} {p q : Nat} {code : Int} {A : Option Addr} {n c : Nat} {C : Value → Value → World → Prop}
    (h : ∀ W, Only (fun _ => False) w W → Calls Tryz.prog 54 #[.pointer (some ⟨p, 0, none⟩), .pointer (some ⟨q, 0, none⟩), .slice A n c] W fun e w' => ∃ v E, e = .returned (.tuple #[v, E]) ∧ Hid (C v E w')) :
    Calls Tryz.prog 15 #[.pointer (some ⟨p, 0, none⟩), .pointer (some ⟨q, 0, none⟩), tkV 4 code 34 A n c false] w fun e w' => ∃ v E, e = .returned (.tuple #[v, E]) ∧ Hid (C v E w') := by
  have HF := Lib.hid h
  have HM := Lib.hid (fun W => hearings_any W p)
  have HB : Hid (∀ W, Only (fun _ => False) (w.alloc (.cells #[.int .i64 4, .int .i64 code, .int .i64 34, .slice A n c, .bool false] 47)) W → Blk W w.heap.size 47 [.int .i64 4, .int .i64 code, .int .i64 34, .slice A n c, .bool false]) := fun W ho => (Blk.new w 47 [.int .i64 4, .int .i64 code, .int .i64 34, .slice A n c, .bool false]).only ho (fun h => h)
  have HN : Hid (Only (fun _ => False) w (w.alloc (.cells #[.int .i64 4, .int .i64 code, .int .i64 34, .slice A n c, .bool false] 47))) := (Only.refl _ _).alloc _
  clear h
  go_enter Tryz.func15, Tryz.ntmps15
  go_wp2
  obtain ⟨w0, hw0⟩ : ∃ w0, w0 = w.alloc (.cells #[.int .i64 4, .int .i64 code, .int .i64 34, .slice A n c, .bool false] 47) := ⟨_, rfl⟩
  rw [← hw0] at HB HN ⊢
  clear hw0
  go_region_held3 (fun W => W.cell? ⟨w.heap.size, 2, none⟩ = some (.int .i64 34))
    (first | exact (HB.out _ (Only.refl _ _).drew).cell 2 | exact (HB.out _ HO1.out).cell 2)
    (first | (go_at_call 36; (with_reducible refine (HM.out _).mono ?_); rintro e w1 ⟨rfl, hm1, ho1⟩; have HO1 : Hid (Only (fun _ => False) w0 w1) := ((Only.refl _ _).drew).trans ho1.out (fun _ h => h.elim); have hlk := (look_opt (show MpAt w1 w0.heap.size [e31 p, e24 p, e5 p, e34 p] 4 from hm1.out)).2.2.2))
  have hb3 : w1.cell? ⟨w.heap.size, 3, none⟩ = some (.slice A n c) := (HB.out _ HO1.out).cell 3
  go_wp2_with (go_at_call 54; (with_reducible refine (HF.out _ (HN.out.trans HO1.out (fun _ h => h.elim))).mono ?_); rintro e w2 ⟨v, E, rfl, hC⟩)
  go_ret2
  exact ⟨v, E, rfl, hC⟩
theorem huHear_kind {w : World} {es : List Addr} (hE : ErrsAt w es) (p q : Nat) {kind : Int} (hk : kind ≠ 4) (code opt : Int) (A : Option Addr) (n c : Nat) (cut : Bool) :
    Calls Tryz.prog 15 #[.pointer (some ⟨p, 0, none⟩), .pointer (some ⟨q, 0, none⟩), tkV kind code opt A n c cut] w fun e w' => ∃ a, e = .returned (.tuple #[.slice none 0 0, .iface 191 (.pointer (some a))]) ∧ Only (fun _ => False) w w' := by
  obtain ⟨a, ha, hst⟩ := (hE.of [8]).get 8 0 (by decide) rfl
  unfold errV at hst
  have HC : Hid (∀ W, Only (fun _ => False) w W → W.cell? ⟨0, 0, none⟩ = some (.iface 191 (.pointer (some a)))) := fun W ho => ho.cellv hst (fun h => h)
  have hc1 : ∀ ob, (w.alloc ob).cell? ⟨0, 0, none⟩ = some (.iface 191 (.pointer (some a))) := fun ob => HC.out _ ((Only.refl _ _).alloc ob)
  clear ha hst hE
  have hk1 : (kind != 4) = true := by simp [hk]
  clear hk
  go_enter Tryz.func15, Tryz.ntmps15
  go_wp2
  go_quiet (fail)
  go_wp2
  go_ret2
  exact ⟨a, rfl, ((Only.refl _ _).alloc _).drewN _⟩
theorem huHear_cut {w : World} {es : List Addr} (hE : ErrsAt w es) (p q : Nat) (code opt : Int) (A : Option Addr) (n c : Nat) :
    Calls Tryz.prog 15 #[.pointer (some ⟨p, 0, none⟩), .pointer (some ⟨q, 0, none⟩), tkV 4 code opt A n c true] w fun e w' => ∃ a, e = .returned (.tuple #[.slice none 0 0, .iface 191 (.pointer (some a))]) ∧ Only (fun _ => False) w w' := by
  obtain ⟨a, ha, hst⟩ := (hE.of [3]).get 3 3 (by decide) rfl
  unfold errV at hst
  have HC : Hid (∀ W, Only (fun _ => False) w W → W.cell? ⟨3, 0, none⟩ = some (.iface 191 (.pointer (some a)))) := fun W ho => ho.cellv hst (fun h => h)
  have hc1 : ∀ ob, (w.alloc ob).cell? ⟨3, 0, none⟩ = some (.iface 191 (.pointer (some a))) := fun ob => HC.out _ ((Only.refl _ _).alloc ob)
  clear ha hst hE
  go_enter Tryz.func15, Tryz.ntmps15
  go_wp2
  go_quiet (fail)
  go_wp2
  go_ret2
  exact ⟨a, rfl, ((Only.refl _ _).alloc _).drewN _⟩
theorem huHear_name {w : World} {p q : Nat} {code : Int} {A : Option Addr} {n c : Nat} 
    {es : List Addr} (hE : ErrsAt w es) {opt : Int} (n1 : opt ≠ 31) (n2 : opt ≠ 24) (n3 : opt ≠ 5) (n4 : opt ≠ 34) :
    Calls Tryz.prog 15 #[.pointer (some ⟨p, 0, none⟩), .pointer (some ⟨q, 0, none⟩), tkV 4 code opt A n c false] w fun e w' => ∃ a, e = .returned (.tuple #[.slice none 0 0, .iface 191 (.pointer (some a))]) ∧ Only (fun _ => False) w w' := by
  obtain ⟨a, ha, hst⟩ := (hE.of [5]).get 5 4 (by decide) rfl
  unfold errV at hst
  have HC : Hid (∀ W, Only (fun _ => False) w W → W.cell? ⟨4, 0, none⟩ = some (.iface 191 (.pointer (some a)))) := fun W ho => ho.cellv hst (fun h => h)
  have hc1 : ∀ ob, (w.alloc ob).cell? ⟨4, 0, none⟩ = some (.iface 191 (.pointer (some a))) := fun ob => HC.out _ ((Only.refl _ _).alloc ob)
  clear ha hst hE
  have HM := Lib.hid (fun W => hearings_any W p)
  have HB : Hid (∀ W, Only (fun _ => False) (w.alloc (.cells #[.int .i64 4, .int .i64 code, .int .i64 opt, .slice A n c, .bool false] 47)) W → Blk W w.heap.size 47 [.int .i64 4, .int .i64 code, .int .i64 opt, .slice A n c, .bool false]) := fun W ho => (Blk.new w 47 [.int .i64 4, .int .i64 code, .int .i64 opt, .slice A n c, .bool false]).only ho (fun h => h)
  have HN : Hid (Only (fun _ => False) w (w.alloc (.cells #[.int .i64 4, .int .i64 code, .int .i64 opt, .slice A n c, .bool false] 47))) := (Only.refl _ _).alloc _
  go_enter Tryz.func15, Tryz.ntmps15
  go_wp2
  obtain ⟨w0, hw0⟩ : ∃ w0, w0 = w.alloc (.cells #[.int .i64 4, .int .i64 code, .int .i64 opt, .slice A n c, .bool false] 47) := ⟨_, rfl⟩
  rw [← hw0] at HB HN ⊢
  clear hw0
  go_region_held3 (fun W => W.cell? ⟨w.heap.size, 2, none⟩ = some (.int .i64 opt))
    (first | exact (HB.out _ (Only.refl _ _).drew).cell 2 | exact (HB.out _ HO1.out).cell 2)
    (first | (go_at_call 36; (with_reducible refine (HM.out _).mono ?_); rintro e w1 ⟨rfl, hm1, ho1⟩; have HO1 : Hid (Only (fun _ => False) w0 w1) := ((Only.refl _ _).drew).trans ho1.out (fun _ h => h.elim); have hlk := look_other (show MpAt w1 w0.heap.size [e31 p, e24 p, e5 p, e34 p] 4 from hm1.out) n1 n2 n3 n4))
  have hc2 := HC.out _ (HN.out.trans HO1.out (fun _ h => h.elim))
  go_wp2
  go_quiet (fail)
  go_wp2
  go_ret2
  exact ⟨a, rfl, (HN.out.trans HO1.out (fun _ h => h.elim)).drewN _⟩
end Go.Proofs.YtlmkpembccehkaaGreatDoor
