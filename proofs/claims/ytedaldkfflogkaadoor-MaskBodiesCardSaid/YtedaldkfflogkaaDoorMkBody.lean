/- Package mask: Body. -/
import Derived.Test.YtedaldkfflogkaaDoorMk
import Derived.Test.YtedaldkfflogkaaDoorVerb
import Derived.Test.YtedaldkfflogkaaDoorNumIs
namespace Go.Proofs.YtedaldkfflogkaaDoor
open Go Go.RowKit
set_option maxRecDepth 100000
set_option maxHeartbeats 4000000

/-- A verb's body. -/
def mkBody (v : Int) (m : List UInt8) : List UInt8 := [b8 v, 2] ++ (if v = 253 then mkCut m else [])

theorem mbody_bad {w : World} {es : List Addr} (hes : ErrsOf w [2, 3, 8] es) {v : Int} (hv : ¬ (251 ≤ v ∧ v ≤ 254)) (m : List UInt8) :
    Calls Tryd.prog 10 #[.int .i64 v, mkV m] w fun e w' => ∃ a, es[8]? = some a ∧ e = .returned (.tuple #[.slice none 0 0, errV a]) ∧ Only (fun _ => False) w w' := by
  obtain ⟨a, ha, hc⟩ := hes.get 8 1 (by decide) rfl
  unfold errV at hc
  have HA := Lib.hid ha
  have HV := Lib.hid (fun W => verb_any W v)
  rw [decide_eq_false hv] at HV
  have HO : Hid (Only (fun _ => False) w (w.alloc (.cells (m.map B8).toArray 24))) := (Only.refl _ w).alloc _
  have hc1 := HO.out.cellv hc (fun h => h)
  unfold mkV
  obtain ⟨cs, hcs⟩ : ∃ cs, cs = m.map B8 := ⟨_, rfl⟩
  rw [← hcs] at hc1 HO ⊢
  clear ha hes hc hcs hv
  go_enter Tryd.func10, Tryd.ntmps10
  go_wp2_with (first | (go_at_call 15; (with_reducible refine (HV.out _).mono ?_); rintro e w1 ⟨rfl, e1⟩; subst w1) | fail)
  go_quiet (fail)
  go_wp2
  go_ret2
  exact ⟨a, HA.out, rfl, HO.out.drewN _⟩

theorem mbody_ok {w : World} {v : Int} (hv : 251 ≤ v ∧ v ≤ 254) {m : List UInt8} (hl : m.length = 32) :
    Calls Tryd.prog 10 #[.int .i64 v, mkV m] w fun e w' => ∃ A n c, e = .returned (.tuple #[.slice A n c, .nilIface]) ∧ n ≤ c ∧ n ≤ 34 ∧ Hid (Src w' A n (mkBody v m)) ∧ Hid (Only (fun _ => False) w w') := by
  have HV := Lib.hid (fun W => verb_any W v)
  rw [decide_eq_true hv] at HV
  have HR := Lib.hid (fun W => mrow_any W hl)
  have hw8 : IntKind.u8.wrap v = v := IntWalk.u8_in _ (by omega)
  have HO : Hid (Only (fun _ => False) w (w.alloc (.cells (m.map B8).toArray 24))) := (Only.refl _ w).alloc _
  have HB : Hid (Blk (w.alloc (.cells (m.map B8).toArray 24)) w.heap.size 24 (m.map B8)) := Blk.new _ _ _
  have HP : Hid (∀ (W : World) (N : Nat), W.heap.size = N → Body (W.alloc (.cells #[.int .u8 v, .int .u8 2] 5)) N (.slice (some ⟨N, 0, none⟩) 2 2) [b8 v, 2]) := fun W N hN => by
    subst hN
    refine own_of_blk (cur := [.int .u8 v, .int .u8 2]) (Blk.new W 5 [.int .u8 v, .int .u8 2]) rfl ?_ (by simp) (by simp) (Nat.le_refl _)
    simp only [List.map_cons, List.map_nil, B8]
    rw [b8_int (by omega) (by omega)]
    rfl
  have HM : Hid (v ≠ 253 → mkBody v m = [b8 v, 2]) := fun h => by rw [mkBody, if_neg h, List.append_nil]
  have HM2 : Hid (v = 253 → mkBody v m = [b8 v, 2] ++ mkCut m) := fun h => by rw [mkBody, if_pos h]
  have HL := Lib.hid (mkCut_le m)
  rw [hl] at HL
  unfold mkV at *
  obtain ⟨cs, hcs⟩ : ∃ cs, cs = m.map B8 := ⟨_, rfl⟩
  have hcl : cs.length = 32 := by rw [hcs, List.length_map, hl]
  have HSz := Lib.hid size_mask
  rw [← hcl] at HSz
  rw [← hcs] at HR HO HB ⊢
  clear hcs hl hv
  by_cases h3 : v = 253
  · have HM := Lib.hid (HM2.out h3)
    have e1 : (v == 253) = true := by simp [h3]
    clear HM2
    have HRg := Lib.hid (range_of (HB.out.alloc (.cells #[.int .u8 v, .int .u8 2] 5)))
    have HPx := Lib.hid (HP.out (w.alloc (.cells cs.toArray 24)) (w.heap.size + 1) (by simp))
    clear h3
    go_enter Tryd.func10, Tryd.ntmps10
    go_wp2_with (first
      | (go_at_call 15; (with_reducible refine (HV.out _).mono ?_); rintro e w1 ⟨rfl, e1⟩; subst w1)
      | (refine wpList_load_mid rfl 24 _ rfl w.heap.size 0 rfl cs _ HRg.out Tryd.underlying24 rfl HSz.out ?_)
      | (go_at_call 8; (with_reducible refine (HR.out _).mono ?_); rintro e w2 ⟨A2, c2, rfl, hs2, ho2⟩)
      | (at_builtin; refine step_bytesG rfl (.tmp 16) (.tmp 18) rfl (w.heap.size + 1) _ 2 2 [b8 v, 2] rfl (HPx.out.same ho2.out) rfl A2 _ c2 (mkCut m) rfl hs2.out (by have := HL.out; omega) (by have := ho2.out.size; simp at this; omega) ?_; intro A3 c3 w3 hb3 hg3)
      | fail)
    go_ret2
    refine ⟨_, _, _, rfl, (by obtain ⟨_, _, e, h1, _⟩ := hb3.out.form; injection e with _ e2 e3; omega), by have := HL.out; omega, ?_, ?_⟩
    · rw [HM.out]
      exact hb3.out.src (by simp; omega)
    · exact ((HO.out.alloc _).trans ho2.out (fun _ h => h.elim)).grown hg3.out (fun q hq => .inr (by have := (own_lt (HPx.out.same ho2.out) q hq).1; omega))
  · have HM := Lib.hid (HM.out h3)
    have e1 : (v == 253) = false := by simp [h3]
    clear HM2
    have HPx := Lib.hid (HP.out (w.alloc (.cells cs.toArray 24)) (w.heap.size + 1) (by simp))
    clear h3
    go_enter Tryd.func10, Tryd.ntmps10
    go_wp2_with (first
      | (go_at_call 15; (with_reducible refine (HV.out _).mono ?_); rintro e w1 ⟨rfl, e1⟩; subst w1)
      | fail)
    go_ret2
    refine ⟨_, 2, _, rfl, by omega, by omega, ?_, HO.out.alloc _⟩
    rw [HM.out]
    exact HPx.out.src rfl
end Go.Proofs.YtedaldkfflogkaaDoor
