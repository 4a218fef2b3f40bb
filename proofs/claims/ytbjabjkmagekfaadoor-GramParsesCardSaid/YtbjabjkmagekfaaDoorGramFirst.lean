/- Package gram: the item that bytes begin with. -/
import Derived.Test.YtbjabjkmagekfaaDoorGramItem
import Derived.Test.YtbjabjkmagekfaaDoorErrIs
import Derived.Test.YtbjabjkmagekfaaDoorNet
namespace Go.Proofs.YtbjabjkmagekfaaDoor
open Go Go.RowKit
set_option maxRecDepth 100000
set_option maxHeartbeats 4000000

/-- What first answers. -/
def FirstSays (es : List Addr) (r : Cut) (e : Ending) : Prop :=
  match r with
  | .few => ∃ a, es[2]? = some a ∧ e = .returned (.tuple #[.int .i64 0, .int .i64 0, errV a])
  | .bad => ∃ a, es[4]? = some a ∧ e = .returned (.tuple #[.int .i64 0, .int .i64 0, errV a])
  | .got x n => e = .returned (.tuple #[.int .i64 x.kind, .int .i64 (n : Int), .nilIface])
theorem errShort_at {w : World} {es : List Addr} (h : ErrsOf w [2, 4] es) : ∃ a, es[2]? = some a ∧ w.cell? ⟨0, 0, none⟩ = some (errV a) := h.get 2 _ (by decide) rfl
theorem errForm_at {w : World} {es : List Addr} (h : ErrsOf w [2, 4] es) : ∃ a, es[4]? = some a ∧ w.cell? ⟨4, 0, none⟩ = some (errV a) := h.get 4 _ (by decide) rfl

/-- Where firstSub stands at a label. -/
def SubJ (w : World) (A : Option Addr) (n c : Nat) (o : Int) (xs : List UInt8) (R : Cut) (l : Nat) (a : Act) (W : World) : Prop :=
  ∃ (L : Nat) (u5 u6 u7 u8 u9 u10 u11 u12 u13 u14 u15 u16 u17 u18 u19 u20 u21 u22 u23 u24 u25 u26 u27 u28 u29 u30 u31 u32 u33 u34 : Value),
    a = { tmps := #[.slice A n c, undef, .int .i64 0, .int .i64 (L : Int), .nilIface, u5, u6, u7, u8, u9, u10, u11, u12, u13, u14, u15, u16, u17, u18, u19, u20, u21, u22, u23, u24, u25, u26, u27, u28, u29, u30, u31, u32, u33, u34], defers := [] } ∧ W = w ∧ 3 ≤ L ∧ L ≤ n ∧
    match l with
    | 0 => R = .few
    | 1 => ∃ f, subCut o f L (xs.drop L) = R
    | 2 => ∃ (f : List UInt8) (x : UInt8), 4 ≤ L ∧ x.toNat = 255 ∧ subCut o f (L - 1) (x :: xs.drop L) = R
    | _ => False
def subM (n : Nat) (l : Nat) (a : Act) (_ : World) : Nat := if l = 0 then 0 else n + 1 - (intOf (a.tmps.getD 3 undef)).toNat

theorem firstSub_any {w : World} {es : List Addr} (hes : ErrsOf w [2, 4] es) {A : Option Addr} {n c : Nat} {xs : List UInt8} (hs : Src w A n xs) (h3 : 3 ≤ n) (o : Int) (hn : n ≤ 1048576) :
    Calls Tryd.prog 39 #[.slice A n c] w fun e w' => (∀ R, subCut o [] 3 (xs.drop 3) = R → FirstSays es R e) ∧ Only (fun _ => False) w w' := by
  obtain ⟨R, hR⟩ : ∃ R, subCut o [] 3 (xs.drop 3) = R := ⟨_, rfl⟩
  have HR := Lib.hid hR
  suffices H : Calls Tryd.prog 39 #[.slice A n c] w fun e w' => FirstSays es R e ∧ Only (fun _ => False) w w' from
    H.mono fun e w' h => ⟨fun R' h' => by rw [← h', HR.out]; exact h.1, h.2⟩
  obtain ⟨aS, hS1, hS2⟩ := errShort_at hes
  obtain ⟨aF, hF1, hF2⟩ := errForm_at hes
  unfold errV at hS2 hF2
  have HS1 := Lib.hid hS1
  have HF1 := Lib.hid hF1
  have HS := Lib.hid hs
  clear hR hes hS1 hF1 hs
  go_enter Tryd.func39, Tryd.ntmps39
  go_wp2_with fail
  refine wp_scope_net 1 (SubJ w A n c o xs R) (subM n) rfl ?_ ?_
  · intro hfirst
    go_wp2_with fail
    go_step3
    rename_i _ K hK
    exact hK _ _ (hfirst _ _ ⟨3, _, _, _, _, _, _, _, _, _, _, _, _, _, _, _, _, _, _, _, _, _, _, _, _, _, _, _, _, _, _, rfl, rfl, Nat.le_refl _, h3, [], HR.out⟩)
  · rintro l a W ⟨L, u5, u6, u7, u8, u9, u10, u11, u12, u13, u14, u15, u16, u17, u18, u19, u20, u21, u22, u23, u24, u25, u26, u27, u28, u29, u30, u31, u32, u33, u34, rfl, rfl, h3L, hLn, hm⟩
    match l, hm with
    | 0, hm =>
      refine ⟨_, rfl, ?_⟩
      have HE : Hid (R = .few) := hm
      clear hm
      go_wp2_with fail
      go_quiet (fail)
      go_wp2
      refine net_ret ?_
      go_ret3
      rw [HE.out]
      exact ⟨⟨_, HS1.out, rfl⟩, (Only.refl _ _).drewN _⟩
    | 1, hm =>
      obtain ⟨f, hf⟩ := hm
      have HF := Lib.hid hf
      clear hf hm
      refine ⟨_, rfl, ?_⟩
      by_cases hlt : L < n
      · obtain ⟨x, hx⟩ : ∃ x, xs[L]? = some x := ⟨_, List.getElem?_eq_getElem (by rw [HS.out.1]; exact hlt)⟩
        obtain ⟨ad, rfl, hcell⟩ := HS.out.2 (by omega)
        have c0 := hcell L x hx
        unfold B8 at c0
        have hdr : xs.drop L = x :: xs.drop (L + 1) := by rw [List.drop_eq_getElem_cons (by rw [HS.out.1]; exact hlt), (List.getElem?_eq_some_iff.1 hx).2]
        rw [hdr] at HF
        obtain ⟨z, hz⟩ : ∃ z : Int, z = (x.toNat : Int) := ⟨_, rfl⟩
        rw [← hz] at c0
        have HZ := Lib.hid hz
        clear hcell hx hdr hz
        by_cases h5 : x.toNat = 255
        · have d1 : (z == 255) = true := by rw [HZ.out]; simp; omega
          have d2 : decide (z = 255) = true := by rw [HZ.out]; simp; omega
          have H5 := Lib.hid h5
          clear h5
          go_wp2_with fail
          go_step3
          refine ⟨⟨L + 1, _, _, _, _, _, _, _, _, _, _, _, _, _, _, _, _, _, _, _, _, _, _, _, _, _, _, _, _, _, _, rfl, rfl, by omega, by omega, f, x, by omega, H5.out, ?_⟩, ?_⟩
          · rw [Nat.add_sub_cancel]
            exact HF.out
          · simp [subM, intOf]
            omega
        · have d1 : (z == 255) = false := by rw [HZ.out]; simp; omega
          have d2 : decide (z = 255) = false := by rw [HZ.out]; simp; omega
          have H5 := Lib.hid h5
          clear h5
          go_wp2_with fail
          go_step3
          refine ⟨⟨L + 1, _, _, _, _, _, _, _, _, _, _, _, _, _, _, _, _, _, _, _, _, _, _, _, _, _, _, _, _, _, _, rfl, rfl, by omega, by omega, f ++ [x], ?_⟩, ?_⟩
          · have := HF.out
            rw [subCut_plain _ _ _ _ H5.out] at this
            exact this
          · simp [subM, intOf]
            omega
      · go_wp2_with fail
        go_step3
        refine ⟨⟨L, _, _, _, _, _, _, _, _, _, _, _, _, _, _, _, _, _, _, _, _, _, _, _, _, _, _, _, _, _, _, rfl, rfl, h3L, hLn, ?_⟩, ?_⟩
        · have := HF.out
          rw [List.drop_eq_nil_of_le (by rw [HS.out.1]; omega), subCut] at this
          exact this.symm
        · simp [subM, intOf]
          omega
    | 2, hm =>
      obtain ⟨f, x, h4, h5, hf⟩ := hm
      have HF := Lib.hid hf
      have H5 := Lib.hid h5
      clear hf hm h5
      refine ⟨_, rfl, ?_⟩
      by_cases hlt : L < n
      · obtain ⟨y, hy⟩ : ∃ y, xs[L]? = some y := ⟨_, List.getElem?_eq_getElem (by rw [HS.out.1]; exact hlt)⟩
        obtain ⟨ad, rfl, hcell⟩ := HS.out.2 (by omega)
        have c0 := hcell L y hy
        unfold B8 at c0
        have hdr : xs.drop L = y :: xs.drop (L + 1) := by rw [List.drop_eq_getElem_cons (by rw [HS.out.1]; exact hlt), (List.getElem?_eq_some_iff.1 hy).2]
        rw [hdr] at HF
        obtain ⟨z, hz⟩ : ∃ z : Int, z = (y.toNat : Int) := ⟨_, rfl⟩
        rw [← hz] at c0
        have dL : ((L : Int) == (n : Int)) = false := beq_eq_false_iff_ne.2 (by omega)
        have dL2 : decide ((L : Int) = (n : Int)) = false := decide_eq_false (by omega)
        have HZ := Lib.hid hz
        clear hcell hy hdr hz
        by_cases hy5 : y.toNat = 255
        · have d1 : (z == 255) = true := by rw [HZ.out]; simp; omega
          have d2 : decide (z = 255) = true := by rw [HZ.out]; simp; omega
          have HY := Lib.hid hy5
          clear hy5
          go_wp2_with fail
          go_step3
          refine ⟨⟨L + 1, _, _, _, _, _, _, _, _, _, _, _, _, _, _, _, _, _, _, _, _, _, _, _, _, _, _, _, _, _, _, rfl, rfl, by omega, by omega, f ++ [y], ?_⟩, ?_⟩
          · have := HF.out
            rw [subCut_two _ _ _ _ _ H5.out HY.out, show L - 1 + 2 = L + 1 by omega] at this
            exact this
          · simp [subM, intOf]
            omega
        · have d1 : (z == 255) = false := by rw [HZ.out]; simp; omega
          have d2 : decide (z = 255) = false := by rw [HZ.out]; simp; omega
          by_cases hy4 : y.toNat = 240
          · have d3 : (z == 240) = true := by rw [HZ.out]; simp; omega
            have d4 : decide (z = 240) = true := by rw [HZ.out]; simp; omega
            have eR : R = .got ⟨5, 0, o, f⟩ (L + 1) := by
              have := HF.out
              rw [subCut_end _ _ _ _ _ H5.out hy4] at this
              rw [← this]
              congr 1
              omega
            have HE := Lib.hid eR
            clear eR hy4 hy5
            go_wp2
            refine net_ret ?_
            go_ret3
            rw [HE.out]
            exact ⟨rfl, Only.refl _ _⟩
          · have d3 : (z == 240) = false := by rw [HZ.out]; simp; omega
            have d4 : decide (z = 240) = false := by rw [HZ.out]; simp; omega
            have eR : R = .bad := by
              have := HF.out
              rw [subCut_bad _ _ _ _ _ H5.out hy4 hy5] at this
              exact this.symm
            have HE := Lib.hid eR
            clear eR hy4 hy5
            go_wp2_with fail
            go_quiet (fail)
            go_wp2
            refine net_ret ?_
            go_ret3
            rw [HE.out]
            exact ⟨⟨_, HF1.out, rfl⟩, (Only.refl _ _).drewN _⟩
      · have dL : ((L : Int) == (n : Int)) = true := beq_iff_eq.2 (by omega)
        have dL2 : decide ((L : Int) = (n : Int)) = true := decide_eq_true (by omega)
        have HLn : Hid (L = n) := (by omega : L = n)
        go_wp2_with fail
        go_step3
        refine ⟨⟨L, _, _, _, _, _, _, _, _, _, _, _, _, _, _, _, _, _, _, _, _, _, _, _, _, _, _, _, _, _, _, rfl, rfl, h3L, hLn, ?_⟩, ?_⟩
        · have := HF.out
          rw [List.drop_eq_nil_of_le (by rw [HS.out.1]; have := HLn.out; omega), subCut_one _ _ _ _ H5.out] at this
          exact this.symm
        · simp [subM, intOf]
          omega

/-- .. where there is no option. -/
theorem firstSub_two {w : World} {es : List Addr} (hes : ErrsOf w [2, 4] es) {A : Option Addr} {n c : Nat} (h2 : n = 2) :
    Calls Tryd.prog 39 #[.slice A n c] w fun e w' => FirstSays es .few e ∧ Only (fun _ => False) w w' := by
  obtain ⟨aS, hS1, hS2⟩ := errShort_at hes
  unfold errV at hS2
  have HS1 := Lib.hid hS1
  subst h2
  clear hes hS1
  go_enter Tryd.func39, Tryd.ntmps39
  go_wp2_with fail
  refine wp_scope_hops 1 (fun C hC => ?_)
  go_wp2_with fail
  go_step3
  rename_i _ K hK
  refine hK _ _ ?_
  go_wp2_with fail
  go_step3
  refine hop_goto 0 0 hC rfl ?_
  go_wp2_with fail
  go_quiet (fail)
  go_wp2
  refine hop_ret 0 ?_
  go_ret3
  exact ⟨⟨_, HS1.out, rfl⟩, (Only.refl _ _).drewN _⟩
end Go.Proofs.YtbjabjkmagekfaaDoor
