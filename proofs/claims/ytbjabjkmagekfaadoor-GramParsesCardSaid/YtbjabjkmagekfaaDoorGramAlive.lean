/- The chapter's example of layer 7, as its statements ask it first, comes out as told. -/
import Derived.Test.YtbjabjkmagekfaaDoorGramParse
namespace Go.Proofs.YtbjabjkmagekfaaDoor
open Go Go.RowKit
set_option maxRecDepth 100000
set_option maxHeartbeats 4000000

theorem ErrOf.nil {es : List Addr} {raw : Bool} {xs : List UInt8} {E : Value} (h : ErrOf es raw xs E) (hok : gramOk raw xs = true) : E = .nilIface := by
  unfold ErrOf at h
  rwa [if_pos hok] at h
theorem ErrOf.bad {es : List Addr} {raw : Bool} {xs : List UInt8} {E : Value} (h : ErrOf es raw xs E) (hok : gramOk raw xs = false) : ∃ a, es[4]? = some a ∧ E = errV a := by
  unfold ErrOf at h
  rwa [if_neg (by simp [hok])] at h

theorem example_parse : parseFrom false 0 [13, 0, 65] = some ([⟨⟨2, 0, 0, []⟩, 0, 2⟩, ⟨⟨1, 65, 0, []⟩, 2, 3⟩], 0) := by
  rw [parseFrom_got (x := ⟨2, 0, 0, []⟩) (n := 2) rfl, show ([13, 0, 65] : List UInt8).drop 2 = [65] from rfl, parseFrom_got (x := ⟨1, 65, 0, []⟩) (n := 1) rfl]
  rfl
theorem example_rest : restOf true [255] = 1 := by
  unfold restOf
  rw [parseFrom_few rfl]
  rfl

theorem galive_any {W : World} {es : List Addr} (hes : ErrsIs W [2, 4] es) : Calls Tryd.prog 7 #[] W fun e w' => e = .returned (.bool true) ∧ Only (fun _ => False) W w' := by
  have HE := Lib.hid hes
  have HP : Hid (∀ W0 : World, Only (fun _ => False) W W0 → Calls Tryd.prog 9 #[.slice (some ⟨W0.heap.size, 0, none⟩) 3 3, .bool false] (W0.alloc (.cells #[.int .u8 13, .int .u8 0, .int .u8 65] 5)) fun e w' => ∃ (g c' : Nat), e = .returned (.tuple #[.slice (some ⟨g, 0, none⟩) 2 c', .nilIface]) ∧ w'.cell? ⟨g, 0, none⟩ = some (.int .i64 2) ∧ Hid (Only (fun _ => False) W0 w')) := fun W0 ho => by
    refine (parse_any (c := 3) (HE.out.only (ho.alloc _)) (src_new W0 [13, 0, 65] _ _ (0, 0) 3 rfl rfl) false (by omega) (by omega)).mono ?_
    rintro e w' ⟨A, c', E, rfl, hE, ⟨ps, h1, h2⟩, ho1⟩
    have e1 : itemsOf false [13, 0, 65] = [⟨⟨2, 0, 0, []⟩, 0, 2⟩, ⟨⟨1, 65, 0, []⟩, 2, 3⟩] := by unfold itemsOf; rw [example_parse]
    have e2 : gramOk false [13, 0, 65] = true := by unfold gramOk; rw [example_parse]; rfl
    rw [e1] at h1 h2
    obtain rfl := hE.nil e2
    obtain ⟨x, hx⟩ : ∃ x, ps[0]? = some x := ⟨ps[0]'(by have := congrArg List.length h1; simp at this; omega), List.getElem?_eq_getElem _⟩
    have hk : x.p = ⟨⟨2, 0, 0, []⟩, 0, 2⟩ := by
      have := congrArg (fun l => l[0]?) h1
      simp only [List.getElem?_map, hx] at this
      simpa using this
    obtain ⟨g, rfl, _, _, hr, _⟩ := h2.at_ hx
    refine ⟨g, c', by rw [e1]; rfl, ?_, ((Only.refl (fun _ => False) W0).alloc _).trans ho1 (fun _ h => h.elim)⟩
    have := hr 0 (.int .i64 2) (by unfold PlP.cells; rw [hk]; rfl)
    simpa using this
  have HT : Hid (∀ W0 : World, Only (fun _ => False) W W0 → Calls Tryd.prog 10 #[.slice (some ⟨W0.heap.size, 0, none⟩) 3 3, .bool false] (W0.alloc (.cells #[.int .u8 13, .int .u8 0, .int .u8 65] 5)) fun e w' => ∃ (A : Option Addr) (c' : Nat), e = .returned (.tuple #[.slice A 2 c', .nilIface]) ∧ Hid (Src w' A 2 [13, 65]) ∧ Hid (Only (fun _ => False) W0 w')) := fun W0 ho => by
    refine (text_any (c := 3) (HE.out.only (ho.alloc _)) (src_new W0 [13, 0, 65] _ _ (0, 0) 3 rfl rfl) false (by omega) (by omega)).mono ?_
    rintro e w' ⟨A, c', E, rfl, hE, hb, ho1⟩
    have e1 : textOf false [13, 0, 65] = [13, 65] := by unfold textOf; rw [example_parse]; rfl
    have e2 : gramOk false [13, 0, 65] = true := by unfold gramOk; rw [example_parse]; rfl
    rw [e1] at hb ⊢
    obtain rfl := hE.nil e2
    exact ⟨A, c', rfl, hb.out.src rfl, ((Only.refl (fun _ => False) W0).alloc _).trans ho1 (fun _ h => h.elim)⟩
  have HR : Hid (∀ W0 : World, Only (fun _ => False) W W0 → Calls Tryd.prog 13 #[.slice (some ⟨W0.heap.size, 0, none⟩) 1 1, .bool true] (W0.alloc (.cells #[.int .u8 255] 5)) fun e w' => e = .returned (.int .i64 1) ∧ Hid (Only (fun _ => False) W0 w')) := fun W0 ho => by
    refine (rest_any (c := 1) (HE.out.only (ho.alloc _)) (src_new W0 [255] _ _ (0, 0) 1 rfl rfl) true (by omega) (by omega)).mono ?_
    rintro e w' ⟨rfl, ho1⟩
    rw [example_rest]
    exact ⟨rfl, ((Only.refl (fun _ => False) W0).alloc _).trans ho1 (fun _ h => h.elim)⟩
  clear hes
  go_enter Tryd.func7, Tryd.ntmps7
  go_wp2_with (first
    | (go_at_call 9; refine (HP.out W (Only.refl _ _)).mono ?_; rintro e w1 ⟨g, c1, rfl, k1, ho1⟩; have hg1 := lt_at k1)
    | (go_at_call 10; refine (HT.out w1 ho1.out).mono ?_; rintro e w2 ⟨A2, c2, rfl, hs2, ho2⟩; have k2 := ho2.out.cellv k1 (fun h => h); have hcv2 := text_of (P := Tryd.prog) hs2.out c2 22 9 5 Tryd.underlying22 Tryd.underlying5 Tryd.underlying9)
    | (go_at_call 13; refine (HR.out w2 (ho1.out.trans ho2.out (fun _ h => h.elim))).mono ?_; rintro e w3 ⟨rfl, ho3⟩))
  go_ret
  exact ⟨rfl, (ho1.out.trans ho2.out (fun _ h => h.elim)).trans ho3.out (fun _ h => h.elim)⟩
end Go.Proofs.YtbjabjkmagekfaaDoor
