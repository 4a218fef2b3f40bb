/- Package gram: the item that bytes begin with, a walk for each way. -/
import Derived.Test.YtbjabjkmagekfaaDoorGramFirst
namespace Go.Proofs.YtbjabjkmagekfaaDoor
open Go Go.RowKit
set_option maxRecDepth 100000
set_option maxHeartbeats 4000000

theorem fs_nil {w : World} {es : List Addr} (hes : ErrsOf w [2, 4] es) {A : Option Addr} {n c : Nat} {xs : List UInt8} (hs : Src w A n xs) (raw : Bool) (hn : n = 0) :
    Calls Tryd.prog 29 #[.slice A n c, .bool raw] w fun e w' => FirstSays es (.few) e ∧ Only (fun _ => False) w w' := by
  obtain ⟨aS, hS1, hS2⟩ := errShort_at hes
  obtain ⟨aF, hF1, hF2⟩ := errForm_at hes
  unfold errV at hS2 hF2
  have HS1 := Lib.hid hS1
  have HF1 := Lib.hid hF1
  have hl := hs.1
  have hn0 : ((n : Int) == 0) = true := beq_iff_eq.2 (by omega)
  have hn0' : decide ((n : Int) = 0) = true := decide_eq_true (by omega)
  clear hs hl hes hS1 hF1 hn
  go_enter Tryd.func29, Tryd.ntmps29
  go_wp2_with fail
  refine wp_scope_hops 3 (fun C hC => ?_)
  go_wp2_with fail
  go_step3
  refine hop_goto 2 0 hC rfl ?_
  go_wp2_with fail
  go_quiet (fail)
  go_wp2
  refine hop_ret 2 ?_
  go_ret3
  exact ⟨⟨_, HS1.out, rfl⟩, (Only.refl _ _).drewN _⟩

theorem fs_byte {w : World} {es : List Addr} (hes : ErrsOf w [2, 4] es) {A : Option Addr} {n c : Nat} {xs : List UInt8} (hs : Src w A n xs) (raw : Bool) (x : UInt8) (h0 : xs[0]? = some x) (hx : x.toNat ≠ 255 ∧ x.toNat ≠ 13) :
    Calls Tryd.prog 29 #[.slice A n c, .bool raw] w fun e w' => FirstSays es (Cut.got ⟨1, (x.toNat : Int), 0, []⟩ 1) e ∧ Only (fun _ => False) w w' := by
  obtain ⟨aS, hS1, hS2⟩ := errShort_at hes
  obtain ⟨aF, hF1, hF2⟩ := errForm_at hes
  unfold errV at hS2 hF2
  have HS1 := Lib.hid hS1
  have HF1 := Lib.hid hF1
  have hl := hs.1
  have g0 := (List.getElem?_eq_some_iff.1 h0).1
  obtain ⟨ad, rfl, hcell⟩ := hs.2 (by omega)
  have c0 := hcell 0 x h0
  unfold B8 at c0
  rw [show ad.add 0 = ad from by simp [Addr.add]] at c0
  obtain ⟨z, hz⟩ : ∃ z : Int, z = (x.toNat : Int) := ⟨_, rfl⟩
  rw [← hz] at c0
  have hn0 : ((n : Int) == 0) = false := beq_eq_false_iff_ne.2 (by omega)
  have hn0' : decide ((n : Int) = 0) = false := decide_eq_false (by omega)
  have hn1 : 0 < n := by omega
  have ez255 : (z == 255) = false := by rw [hz]; simp; omega
  have fz255 : decide (z = 255) = false := by rw [hz]; simp; omega
  have ez13 : (z == 13) = false := by rw [hz]; simp; omega
  have fz13 : decide (z = 13) = false := by rw [hz]; simp; omega
  have HZ := Lib.hid hz
  clear hcell h0 hs hl hes hS1 hF1 hx hz g0
  go_enter Tryd.func29, Tryd.ntmps29
  go_wp2_with fail
  refine wp_scope_hops 3 (fun C hC => ?_)
  go_wp2
  refine hop_ret 3 ?_
  go_ret3
  exact ⟨rfl, Only.refl _ _⟩

theorem fs_raw {w : World} {es : List Addr} (hes : ErrsOf w [2, 4] es) {A : Option Addr} {n c : Nat} {xs : List UInt8} (hs : Src w A n xs) (raw : Bool) (x : UInt8) (h0 : xs[0]? = some x) (hx : x.toNat = 13) (hr : raw = true) :
    Calls Tryd.prog 29 #[.slice A n c, .bool raw] w fun e w' => FirstSays es (Cut.got ⟨1, (x.toNat : Int), 0, []⟩ 1) e ∧ Only (fun _ => False) w w' := by
  obtain ⟨aS, hS1, hS2⟩ := errShort_at hes
  obtain ⟨aF, hF1, hF2⟩ := errForm_at hes
  unfold errV at hS2 hF2
  have HS1 := Lib.hid hS1
  have HF1 := Lib.hid hF1
  have hl := hs.1
  have g0 := (List.getElem?_eq_some_iff.1 h0).1
  obtain ⟨ad, rfl, hcell⟩ := hs.2 (by omega)
  have c0 := hcell 0 x h0
  unfold B8 at c0
  rw [show ad.add 0 = ad from by simp [Addr.add]] at c0
  obtain ⟨z, hz⟩ : ∃ z : Int, z = (x.toNat : Int) := ⟨_, rfl⟩
  rw [← hz] at c0
  have hn0 : ((n : Int) == 0) = false := beq_eq_false_iff_ne.2 (by omega)
  have hn0' : decide ((n : Int) = 0) = false := decide_eq_false (by omega)
  have hn1 : 0 < n := by omega
  have ez255 : (z == 255) = false := by rw [hz]; simp; omega
  have fz255 : decide (z = 255) = false := by rw [hz]; simp; omega
  have ez13 : (z == 13) = true := by rw [hz]; simp; omega
  have fz13 : decide (z = 13) = true := by rw [hz]; simp; omega
  have HZ := Lib.hid hz
  subst hr
  clear hcell h0 hs hl hes hS1 hF1 hx hz g0
  go_enter Tryd.func29, Tryd.ntmps29
  go_wp2_with fail
  refine wp_scope_hops 3 (fun C hC => ?_)
  go_wp2
  refine hop_ret 3 ?_
  go_ret3
  exact ⟨rfl, Only.refl _ _⟩

theorem fs_ret_short {w : World} {es : List Addr} (hes : ErrsOf w [2, 4] es) {A : Option Addr} {n c : Nat} {xs : List UInt8} (hs : Src w A n xs) (raw : Bool) (x : UInt8) (h0 : xs[0]? = some x) (hx : x.toNat = 13) (hr : raw = false) (hn : n = 1) :
    Calls Tryd.prog 29 #[.slice A n c, .bool raw] w fun e w' => FirstSays es (.few) e ∧ Only (fun _ => False) w w' := by
  obtain ⟨aS, hS1, hS2⟩ := errShort_at hes
  obtain ⟨aF, hF1, hF2⟩ := errForm_at hes
  unfold errV at hS2 hF2
  have HS1 := Lib.hid hS1
  have HF1 := Lib.hid hF1
  have hl := hs.1
  have g0 := (List.getElem?_eq_some_iff.1 h0).1
  obtain ⟨ad, rfl, hcell⟩ := hs.2 (by omega)
  have c0 := hcell 0 x h0
  unfold B8 at c0
  rw [show ad.add 0 = ad from by simp [Addr.add]] at c0
  obtain ⟨z, hz⟩ : ∃ z : Int, z = (x.toNat : Int) := ⟨_, rfl⟩
  rw [← hz] at c0
  have hn0 : ((n : Int) == 0) = false := beq_eq_false_iff_ne.2 (by omega)
  have hn0' : decide ((n : Int) = 0) = false := decide_eq_false (by omega)
  have hn1 : 0 < n := by omega
  have ez255 : (z == 255) = false := by rw [hz]; simp; omega
  have fz255 : decide (z = 255) = false := by rw [hz]; simp; omega
  have ez13 : (z == 13) = true := by rw [hz]; simp; omega
  have fz13 : decide (z = 13) = true := by rw [hz]; simp; omega
  have hm1 : ((n : Int) == 1) = true := beq_iff_eq.2 (by omega)
  have hm1' : decide ((n : Int) = 1) = true := decide_eq_true (by omega)
  subst hr
  clear hcell h0 hs hl hes hS1 hF1 hx hz g0 hn
  go_enter Tryd.func29, Tryd.ntmps29
  go_wp2_with fail
  refine wp_scope_hops 3 (fun C hC => ?_)
  go_wp2_with fail
  go_step3
  refine hop_goto 2 2 hC rfl ?_
  go_wp2_with fail
  go_step3
  refine hop_goto 1 0 hC rfl ?_
  go_wp2_with fail
  go_quiet (fail)
  go_wp2
  refine hop_ret 1 ?_
  go_ret3
  exact ⟨⟨_, HS1.out, rfl⟩, (Only.refl _ _).drewN _⟩

theorem fs_pair0 {w : World} {es : List Addr} (hes : ErrsOf w [2, 4] es) {A : Option Addr} {n c : Nat} {xs : List UInt8} (hs : Src w A n xs) (raw : Bool) (x y : UInt8) (h0 : xs[0]? = some x) (h1 : xs[1]? = some y) (hx : x.toNat = 13) (hy : y.toNat = 0) (hr : raw = false) :
    Calls Tryd.prog 29 #[.slice A n c, .bool raw] w fun e w' => FirstSays es (Cut.got ⟨2, 0, 0, []⟩ 2) e ∧ Only (fun _ => False) w w' := by
  obtain ⟨aS, hS1, hS2⟩ := errShort_at hes
  obtain ⟨aF, hF1, hF2⟩ := errForm_at hes
  unfold errV at hS2 hF2
  have HS1 := Lib.hid hS1
  have HF1 := Lib.hid hF1
  have hl := hs.1
  have g0 := (List.getElem?_eq_some_iff.1 h1).1
  obtain ⟨ad, rfl, hcell⟩ := hs.2 (by omega)
  have c0 := hcell 0 x h0
  unfold B8 at c0
  rw [show ad.add 0 = ad from by simp [Addr.add]] at c0
  obtain ⟨z, hz⟩ : ∃ z : Int, z = (x.toNat : Int) := ⟨_, rfl⟩
  rw [← hz] at c0
  have hn0 : ((n : Int) == 0) = false := beq_eq_false_iff_ne.2 (by omega)
  have hn0' : decide ((n : Int) = 0) = false := decide_eq_false (by omega)
  have hn1 : 0 < n := by omega
  have c1 := hcell 1 y h1
  unfold B8 at c1
  rw [add_one_] at c1
  obtain ⟨v, hv⟩ : ∃ v : Int, v = (y.toNat : Int) := ⟨_, rfl⟩
  rw [← hv] at c1
  have hm1 : ((n : Int) == 1) = false := beq_eq_false_iff_ne.2 (by omega)
  have hm1' : decide ((n : Int) = 1) = false := decide_eq_false (by omega)
  have hn2 : 1 < n := by omega
  have hn2' : (1 : Int) < (n : Int) := by omega
  have ez255 : (z == 255) = false := by rw [hz]; simp; omega
  have fz255 : decide (z = 255) = false := by rw [hz]; simp; omega
  have ez13 : (z == 13) = true := by rw [hz]; simp; omega
  have fz13 : decide (z = 13) = true := by rw [hz]; simp; omega
  have ev0 : (v == 0) = true := by rw [hv]; simp; omega
  have fv0 : decide (v = 0) = true := by rw [hv]; simp; omega
  have ev10 : (v == 10) = false := by rw [hv]; simp; omega
  have fv10 : decide (v = 10) = false := by rw [hv]; simp; omega
  subst hr
  clear g0
  have HZ := Lib.hid hz
  have HV := Lib.hid hv
  clear hcell h0 h1 hz hv hs hl hes hS1 hF1 hx hy
  go_enter Tryd.func29, Tryd.ntmps29
  go_wp2_with fail
  refine wp_scope_hops 3 (fun C hC => ?_)
  go_wp2_with fail
  go_step3
  refine hop_goto 2 2 hC rfl ?_
  go_wp2
  refine hop_ret 2 ?_
  go_ret3
  exact ⟨rfl, Only.refl _ _⟩

theorem fs_pair10 {w : World} {es : List Addr} (hes : ErrsOf w [2, 4] es) {A : Option Addr} {n c : Nat} {xs : List UInt8} (hs : Src w A n xs) (raw : Bool) (x y : UInt8) (h0 : xs[0]? = some x) (h1 : xs[1]? = some y) (hx : x.toNat = 13) (hy : y.toNat = 10) (hr : raw = false) :
    Calls Tryd.prog 29 #[.slice A n c, .bool raw] w fun e w' => FirstSays es (Cut.got ⟨2, 10, 0, []⟩ 2) e ∧ Only (fun _ => False) w w' := by
  obtain ⟨aS, hS1, hS2⟩ := errShort_at hes
  obtain ⟨aF, hF1, hF2⟩ := errForm_at hes
  unfold errV at hS2 hF2
  have HS1 := Lib.hid hS1
  have HF1 := Lib.hid hF1
  have hl := hs.1
  have g0 := (List.getElem?_eq_some_iff.1 h1).1
  obtain ⟨ad, rfl, hcell⟩ := hs.2 (by omega)
  have c0 := hcell 0 x h0
  unfold B8 at c0
  rw [show ad.add 0 = ad from by simp [Addr.add]] at c0
  obtain ⟨z, hz⟩ : ∃ z : Int, z = (x.toNat : Int) := ⟨_, rfl⟩
  rw [← hz] at c0
  have hn0 : ((n : Int) == 0) = false := beq_eq_false_iff_ne.2 (by omega)
  have hn0' : decide ((n : Int) = 0) = false := decide_eq_false (by omega)
  have hn1 : 0 < n := by omega
  have c1 := hcell 1 y h1
  unfold B8 at c1
  rw [add_one_] at c1
  obtain ⟨v, hv⟩ : ∃ v : Int, v = (y.toNat : Int) := ⟨_, rfl⟩
  rw [← hv] at c1
  have hm1 : ((n : Int) == 1) = false := beq_eq_false_iff_ne.2 (by omega)
  have hm1' : decide ((n : Int) = 1) = false := decide_eq_false (by omega)
  have hn2 : 1 < n := by omega
  have hn2' : (1 : Int) < (n : Int) := by omega
  have ez255 : (z == 255) = false := by rw [hz]; simp; omega
  have fz255 : decide (z = 255) = false := by rw [hz]; simp; omega
  have ez13 : (z == 13) = true := by rw [hz]; simp; omega
  have fz13 : decide (z = 13) = true := by rw [hz]; simp; omega
  have ev0 : (v == 0) = false := by rw [hv]; simp; omega
  have fv0 : decide (v = 0) = false := by rw [hv]; simp; omega
  have ev10 : (v == 10) = true := by rw [hv]; simp; omega
  have fv10 : decide (v = 10) = true := by rw [hv]; simp; omega
  subst hr
  clear g0
  have HZ := Lib.hid hz
  have HV := Lib.hid hv
  clear hcell h0 h1 hz hv hs hl hes hS1 hF1 hx hy
  go_enter Tryd.func29, Tryd.ntmps29
  go_wp2_with fail
  refine wp_scope_hops 3 (fun C hC => ?_)
  go_wp2_with fail
  go_step3
  refine hop_goto 2 2 hC rfl ?_
  go_wp2
  refine hop_ret 2 ?_
  go_ret3
  exact ⟨rfl, Only.refl _ _⟩

theorem fs_ret_byte {w : World} {es : List Addr} (hes : ErrsOf w [2, 4] es) {A : Option Addr} {n c : Nat} {xs : List UInt8} (hs : Src w A n xs) (raw : Bool) (x y : UInt8) (h0 : xs[0]? = some x) (h1 : xs[1]? = some y) (hx : x.toNat = 13) (hy : y.toNat ≠ 0 ∧ y.toNat ≠ 10) (hr : raw = false) :
    Calls Tryd.prog 29 #[.slice A n c, .bool raw] w fun e w' => FirstSays es (Cut.got ⟨1, 13, 0, []⟩ 1) e ∧ Only (fun _ => False) w w' := by
  obtain ⟨aS, hS1, hS2⟩ := errShort_at hes
  obtain ⟨aF, hF1, hF2⟩ := errForm_at hes
  unfold errV at hS2 hF2
  have HS1 := Lib.hid hS1
  have HF1 := Lib.hid hF1
  have hl := hs.1
  have g0 := (List.getElem?_eq_some_iff.1 h1).1
  obtain ⟨ad, rfl, hcell⟩ := hs.2 (by omega)
  have c0 := hcell 0 x h0
  unfold B8 at c0
  rw [show ad.add 0 = ad from by simp [Addr.add]] at c0
  obtain ⟨z, hz⟩ : ∃ z : Int, z = (x.toNat : Int) := ⟨_, rfl⟩
  rw [← hz] at c0
  have hn0 : ((n : Int) == 0) = false := beq_eq_false_iff_ne.2 (by omega)
  have hn0' : decide ((n : Int) = 0) = false := decide_eq_false (by omega)
  have hn1 : 0 < n := by omega
  have c1 := hcell 1 y h1
  unfold B8 at c1
  rw [add_one_] at c1
  obtain ⟨v, hv⟩ : ∃ v : Int, v = (y.toNat : Int) := ⟨_, rfl⟩
  rw [← hv] at c1
  have hm1 : ((n : Int) == 1) = false := beq_eq_false_iff_ne.2 (by omega)
  have hm1' : decide ((n : Int) = 1) = false := decide_eq_false (by omega)
  have hn2 : 1 < n := by omega
  have hn2' : (1 : Int) < (n : Int) := by omega
  have ez255 : (z == 255) = false := by rw [hz]; simp; omega
  have fz255 : decide (z = 255) = false := by rw [hz]; simp; omega
  have ez13 : (z == 13) = true := by rw [hz]; simp; omega
  have fz13 : decide (z = 13) = true := by rw [hz]; simp; omega
  have ev0 : (v == 0) = false := by rw [hv]; simp; omega
  have fv0 : decide (v = 0) = false := by rw [hv]; simp; omega
  have ev10 : (v == 10) = false := by rw [hv]; simp; omega
  have fv10 : decide (v = 10) = false := by rw [hv]; simp; omega
  subst hr
  clear g0
  have HZ := Lib.hid hz
  have HV := Lib.hid hv
  clear hcell h0 h1 hz hv hs hl hes hS1 hF1 hx hy
  go_enter Tryd.func29, Tryd.ntmps29
  go_wp2_with fail
  refine wp_scope_hops 3 (fun C hC => ?_)
  go_wp2_with fail
  go_step3
  refine hop_goto 2 2 hC rfl ?_
  go_wp2
  refine hop_ret 2 ?_
  go_ret3
  exact ⟨rfl, Only.refl _ _⟩

theorem fs_iac_short {w : World} {es : List Addr} (hes : ErrsOf w [2, 4] es) {A : Option Addr} {n c : Nat} {xs : List UInt8} (hs : Src w A n xs) (raw : Bool) (x : UInt8) (h0 : xs[0]? = some x) (hx : x.toNat = 255) (hn : n = 1) :
    Calls Tryd.prog 29 #[.slice A n c, .bool raw] w fun e w' => FirstSays es (.few) e ∧ Only (fun _ => False) w w' := by
  obtain ⟨aS, hS1, hS2⟩ := errShort_at hes
  obtain ⟨aF, hF1, hF2⟩ := errForm_at hes
  unfold errV at hS2 hF2
  have HS1 := Lib.hid hS1
  have HF1 := Lib.hid hF1
  have hl := hs.1
  have g0 := (List.getElem?_eq_some_iff.1 h0).1
  obtain ⟨ad, rfl, hcell⟩ := hs.2 (by omega)
  have c0 := hcell 0 x h0
  unfold B8 at c0
  rw [show ad.add 0 = ad from by simp [Addr.add]] at c0
  obtain ⟨z, hz⟩ : ∃ z : Int, z = (x.toNat : Int) := ⟨_, rfl⟩
  rw [← hz] at c0
  have hn0 : ((n : Int) == 0) = false := beq_eq_false_iff_ne.2 (by omega)
  have hn0' : decide ((n : Int) = 0) = false := decide_eq_false (by omega)
  have hn1 : 0 < n := by omega
  have ez255 : (z == 255) = true := by rw [hz]; simp; omega
  have fz255 : decide (z = 255) = true := by rw [hz]; simp; omega
  have hm1 : ((n : Int) == 1) = true := beq_iff_eq.2 (by omega)
  have hm1' : decide ((n : Int) = 1) = true := decide_eq_true (by omega)
  clear hcell h0 hs hl hes hS1 hF1 hx hz g0 hn
  go_enter Tryd.func29, Tryd.ntmps29
  go_wp2_with fail
  refine wp_scope_hops 3 (fun C hC => ?_)
  go_wp2_with fail
  go_step3
  refine hop_goto 2 1 hC rfl ?_
  go_wp2_with fail
  go_step3
  refine hop_goto 1 0 hC rfl ?_
  go_wp2_with fail
  go_quiet (fail)
  go_wp2
  refine hop_ret 1 ?_
  go_ret3
  exact ⟨⟨_, HS1.out, rfl⟩, (Only.refl _ _).drewN _⟩

theorem fs_ff {w : World} {es : List Addr} (hes : ErrsOf w [2, 4] es) {A : Option Addr} {n c : Nat} {xs : List UInt8} (hs : Src w A n xs) (raw : Bool) (x y : UInt8) (h0 : xs[0]? = some x) (h1 : xs[1]? = some y) (hx : x.toNat = 255) (hy : y.toNat = 255) :
    Calls Tryd.prog 29 #[.slice A n c, .bool raw] w fun e w' => FirstSays es (Cut.got ⟨1, 255, 0, []⟩ 2) e ∧ Only (fun _ => False) w w' := by
  obtain ⟨aS, hS1, hS2⟩ := errShort_at hes
  obtain ⟨aF, hF1, hF2⟩ := errForm_at hes
  unfold errV at hS2 hF2
  have HS1 := Lib.hid hS1
  have HF1 := Lib.hid hF1
  have hl := hs.1
  have g0 := (List.getElem?_eq_some_iff.1 h1).1
  obtain ⟨ad, rfl, hcell⟩ := hs.2 (by omega)
  have c0 := hcell 0 x h0
  unfold B8 at c0
  rw [show ad.add 0 = ad from by simp [Addr.add]] at c0
  obtain ⟨z, hz⟩ : ∃ z : Int, z = (x.toNat : Int) := ⟨_, rfl⟩
  rw [← hz] at c0
  have hn0 : ((n : Int) == 0) = false := beq_eq_false_iff_ne.2 (by omega)
  have hn0' : decide ((n : Int) = 0) = false := decide_eq_false (by omega)
  have hn1 : 0 < n := by omega
  have c1 := hcell 1 y h1
  unfold B8 at c1
  rw [add_one_] at c1
  obtain ⟨v, hv⟩ : ∃ v : Int, v = (y.toNat : Int) := ⟨_, rfl⟩
  rw [← hv] at c1
  have hm1 : ((n : Int) == 1) = false := beq_eq_false_iff_ne.2 (by omega)
  have hm1' : decide ((n : Int) = 1) = false := decide_eq_false (by omega)
  have hn2 : 1 < n := by omega
  have hn2' : (1 : Int) < (n : Int) := by omega
  have ez255 : (z == 255) = true := by rw [hz]; simp; omega
  have fz255 : decide (z = 255) = true := by rw [hz]; simp; omega
  have ev255 : (v == 255) = true := by rw [hv]; simp; omega
  have fv255 : decide (v = 255) = true := by rw [hv]; simp; omega
  clear g0
  have HZ := Lib.hid hz
  have HV := Lib.hid hv
  clear hcell h0 h1 hz hv hs hl hes hS1 hF1 hx hy
  go_enter Tryd.func29, Tryd.ntmps29
  go_wp2_with fail
  refine wp_scope_hops 3 (fun C hC => ?_)
  go_wp2_with fail
  go_step3
  refine hop_goto 2 1 hC rfl ?_
  go_wp2
  refine hop_ret 2 ?_
  go_ret3
  exact ⟨rfl, Only.refl _ _⟩

theorem fs_plain {w : World} {es : List Addr} (hes : ErrsOf w [2, 4] es) {A : Option Addr} {n c : Nat} {xs : List UInt8} (hs : Src w A n xs) (raw : Bool) (x y : UInt8) (h0 : xs[0]? = some x) (h1 : xs[1]? = some y) (hx : x.toNat = 255) (hy : 241 ≤ y.toNat ∧ y.toNat ≤ 249) :
    Calls Tryd.prog 29 #[.slice A n c, .bool raw] w fun e w' => FirstSays es (Cut.got ⟨3, (y.toNat : Int), 0, []⟩ 2) e ∧ Only (fun _ => False) w w' := by
  obtain ⟨aS, hS1, hS2⟩ := errShort_at hes
  obtain ⟨aF, hF1, hF2⟩ := errForm_at hes
  unfold errV at hS2 hF2
  have HS1 := Lib.hid hS1
  have HF1 := Lib.hid hF1
  have hl := hs.1
  have g0 := (List.getElem?_eq_some_iff.1 h1).1
  obtain ⟨ad, rfl, hcell⟩ := hs.2 (by omega)
  have c0 := hcell 0 x h0
  unfold B8 at c0
  rw [show ad.add 0 = ad from by simp [Addr.add]] at c0
  obtain ⟨z, hz⟩ : ∃ z : Int, z = (x.toNat : Int) := ⟨_, rfl⟩
  rw [← hz] at c0
  have hn0 : ((n : Int) == 0) = false := beq_eq_false_iff_ne.2 (by omega)
  have hn0' : decide ((n : Int) = 0) = false := decide_eq_false (by omega)
  have hn1 : 0 < n := by omega
  have c1 := hcell 1 y h1
  unfold B8 at c1
  rw [add_one_] at c1
  obtain ⟨v, hv⟩ : ∃ v : Int, v = (y.toNat : Int) := ⟨_, rfl⟩
  rw [← hv] at c1
  have hm1 : ((n : Int) == 1) = false := beq_eq_false_iff_ne.2 (by omega)
  have hm1' : decide ((n : Int) = 1) = false := decide_eq_false (by omega)
  have hn2 : 1 < n := by omega
  have hn2' : (1 : Int) < (n : Int) := by omega
  have ez255 : (z == 255) = true := by rw [hz]; simp; omega
  have fz255 : decide (z = 255) = true := by rw [hz]; simp; omega
  have ev255 : (v == 255) = false := by rw [hv]; simp; omega
  have fv255 : decide (v = 255) = false := by rw [hv]; simp; omega
  have ev250 : (v == 250) = false := by rw [hv]; simp; omega
  have fv250 : decide (v = 250) = false := by rw [hv]; simp; omega
  have hp : ∀ W, Calls Tryd.prog 41 #[.int .i64 v] W fun e w' => e = .returned (.bool true) ∧ w' = W := fun W => by
    have := cplain_any W v
    rwa [decide_eq_true (by omega)] at this
  have hq : ∀ W, Calls Tryd.prog 40 #[.int .i64 v] W fun e w' => e = .returned (.bool false) ∧ w' = W := fun W => by
    have := verb_any W v
    rwa [decide_eq_false (by omega)] at this
  have hw : wrap64 v = v := by rw [hv]; exact wrap64_nat _ (by omega)
  clear g0
  have HZ := Lib.hid hz
  have HV := Lib.hid hv
  clear hcell h0 h1 hz hv hs hl hes hS1 hF1 hx hy
  go_enter Tryd.func29, Tryd.ntmps29
  go_wp2_with fail
  refine wp_scope_hops 3 (fun C hC => ?_)
  go_wp2_with fail
  go_step3
  refine hop_goto 2 1 hC rfl ?_
  go_wp2_with (first
    | (go_at_call 40; refine (hq _).mono ?_; rintro e w' ⟨rfl, e2⟩; subst w')
    | (go_at_call 41; refine (hp _).mono ?_; rintro e w' ⟨rfl, e2⟩; subst w'))
  refine hop_ret 2 ?_
  go_ret3
  exact ⟨rfl, Only.refl _ _⟩

theorem fs_bad {w : World} {es : List Addr} (hes : ErrsOf w [2, 4] es) {A : Option Addr} {n c : Nat} {xs : List UInt8} (hs : Src w A n xs) (raw : Bool) (x y : UInt8) (h0 : xs[0]? = some x) (h1 : xs[1]? = some y) (hx : x.toNat = 255) (hy : y.toNat < 241) :
    Calls Tryd.prog 29 #[.slice A n c, .bool raw] w fun e w' => FirstSays es (.bad) e ∧ Only (fun _ => False) w w' := by
  obtain ⟨aS, hS1, hS2⟩ := errShort_at hes
  obtain ⟨aF, hF1, hF2⟩ := errForm_at hes
  unfold errV at hS2 hF2
  have HS1 := Lib.hid hS1
  have HF1 := Lib.hid hF1
  have hl := hs.1
  have g0 := (List.getElem?_eq_some_iff.1 h1).1
  obtain ⟨ad, rfl, hcell⟩ := hs.2 (by omega)
  have c0 := hcell 0 x h0
  unfold B8 at c0
  rw [show ad.add 0 = ad from by simp [Addr.add]] at c0
  obtain ⟨z, hz⟩ : ∃ z : Int, z = (x.toNat : Int) := ⟨_, rfl⟩
  rw [← hz] at c0
  have hn0 : ((n : Int) == 0) = false := beq_eq_false_iff_ne.2 (by omega)
  have hn0' : decide ((n : Int) = 0) = false := decide_eq_false (by omega)
  have hn1 : 0 < n := by omega
  have c1 := hcell 1 y h1
  unfold B8 at c1
  rw [add_one_] at c1
  obtain ⟨v, hv⟩ : ∃ v : Int, v = (y.toNat : Int) := ⟨_, rfl⟩
  rw [← hv] at c1
  have hm1 : ((n : Int) == 1) = false := beq_eq_false_iff_ne.2 (by omega)
  have hm1' : decide ((n : Int) = 1) = false := decide_eq_false (by omega)
  have hn2 : 1 < n := by omega
  have hn2' : (1 : Int) < (n : Int) := by omega
  have ez255 : (z == 255) = true := by rw [hz]; simp; omega
  have fz255 : decide (z = 255) = true := by rw [hz]; simp; omega
  have ev255 : (v == 255) = false := by rw [hv]; simp; omega
  have fv255 : decide (v = 255) = false := by rw [hv]; simp; omega
  have ev250 : (v == 250) = false := by rw [hv]; simp; omega
  have fv250 : decide (v = 250) = false := by rw [hv]; simp; omega
  have hp : ∀ W, Calls Tryd.prog 41 #[.int .i64 v] W fun e w' => e = .returned (.bool false) ∧ w' = W := fun W => by
    have := cplain_any W v
    rwa [decide_eq_false (by omega)] at this
  have hq : ∀ W, Calls Tryd.prog 40 #[.int .i64 v] W fun e w' => e = .returned (.bool false) ∧ w' = W := fun W => by
    have := verb_any W v
    rwa [decide_eq_false (by omega)] at this
  have hw : wrap64 v = v := by rw [hv]; exact wrap64_nat _ (by omega)
  clear g0
  have HZ := Lib.hid hz
  have HV := Lib.hid hv
  clear hcell h0 h1 hz hv hs hl hes hS1 hF1 hx hy
  go_enter Tryd.func29, Tryd.ntmps29
  go_wp2_with fail
  refine wp_scope_hops 3 (fun C hC => ?_)
  go_wp2_with fail
  go_step3
  refine hop_goto 2 1 hC rfl ?_
  go_wp2_with (first
    | (go_at_call 40; refine (hq _).mono ?_; rintro e w' ⟨rfl, e2⟩; subst w')
    | (go_at_call 41; refine (hp _).mono ?_; rintro e w' ⟨rfl, e2⟩; subst w'))
  go_quiet (fail)
  go_wp2
  refine hop_ret 2 ?_
  go_ret3
  exact ⟨⟨_, HF1.out, rfl⟩, (Only.refl _ _).drewN _⟩

theorem fs_verb_short {w : World} {es : List Addr} (hes : ErrsOf w [2, 4] es) {A : Option Addr} {n c : Nat} {xs : List UInt8} (hs : Src w A n xs) (raw : Bool) (x y : UInt8) (h0 : xs[0]? = some x) (h1 : xs[1]? = some y) (hx : x.toNat = 255) (hy : 251 ≤ y.toNat ∧ y.toNat ≤ 254) (hn : n = 2) :
    Calls Tryd.prog 29 #[.slice A n c, .bool raw] w fun e w' => FirstSays es (.few) e ∧ Only (fun _ => False) w w' := by
  obtain ⟨aS, hS1, hS2⟩ := errShort_at hes
  obtain ⟨aF, hF1, hF2⟩ := errForm_at hes
  unfold errV at hS2 hF2
  have HS1 := Lib.hid hS1
  have HF1 := Lib.hid hF1
  have hl := hs.1
  have g0 := (List.getElem?_eq_some_iff.1 h1).1
  obtain ⟨ad, rfl, hcell⟩ := hs.2 (by omega)
  have c0 := hcell 0 x h0
  unfold B8 at c0
  rw [show ad.add 0 = ad from by simp [Addr.add]] at c0
  obtain ⟨z, hz⟩ : ∃ z : Int, z = (x.toNat : Int) := ⟨_, rfl⟩
  rw [← hz] at c0
  have hn0 : ((n : Int) == 0) = false := beq_eq_false_iff_ne.2 (by omega)
  have hn0' : decide ((n : Int) = 0) = false := decide_eq_false (by omega)
  have hn1 : 0 < n := by omega
  have c1 := hcell 1 y h1
  unfold B8 at c1
  rw [add_one_] at c1
  obtain ⟨v, hv⟩ : ∃ v : Int, v = (y.toNat : Int) := ⟨_, rfl⟩
  rw [← hv] at c1
  have hm1 : ((n : Int) == 1) = false := beq_eq_false_iff_ne.2 (by omega)
  have hm1' : decide ((n : Int) = 1) = false := decide_eq_false (by omega)
  have hn2 : 1 < n := by omega
  have hn2' : (1 : Int) < (n : Int) := by omega
  have ez255 : (z == 255) = true := by rw [hz]; simp; omega
  have fz255 : decide (z = 255) = true := by rw [hz]; simp; omega
  have ev255 : (v == 255) = false := by rw [hv]; simp; omega
  have fv255 : decide (v = 255) = false := by rw [hv]; simp; omega
  have ev250 : (v == 250) = false := by rw [hv]; simp; omega
  have fv250 : decide (v = 250) = false := by rw [hv]; simp; omega
  have hq : ∀ W, Calls Tryd.prog 40 #[.int .i64 v] W fun e w' => e = .returned (.bool true) ∧ w' = W := fun W => by
    have := verb_any W v
    rwa [decide_eq_true (by omega)] at this
  have hw : wrap64 v = v := by rw [hv]; exact wrap64_nat _ (by omega)
  have hm2 : ((n : Int) == 2) = true := beq_iff_eq.2 (by omega)
  have hm2' : decide ((n : Int) = 2) = true := decide_eq_true (by omega)
  clear g0 hn
  have HZ := Lib.hid hz
  have HV := Lib.hid hv
  clear hcell h0 h1 hz hv hs hl hes hS1 hF1 hx hy
  go_enter Tryd.func29, Tryd.ntmps29
  go_wp2_with fail
  refine wp_scope_hops 3 (fun C hC => ?_)
  go_wp2_with fail
  go_step3
  refine hop_goto 2 1 hC rfl ?_
  go_wp2_with (first
    | (go_at_call 40; refine (hq _).mono ?_; rintro e w' ⟨rfl, e2⟩; subst w'))
  go_step3
  refine hop_goto 1 3 hC rfl ?_
  go_wp2_with fail
  go_step3
  refine hop_goto 0 0 hC rfl ?_
  go_wp2_with fail
  go_quiet (fail)
  go_wp2
  refine hop_ret 0 ?_
  go_ret3
  exact ⟨⟨_, HS1.out, rfl⟩, (Only.refl _ _).drewN _⟩

theorem fs_verb {w : World} {es : List Addr} (hes : ErrsOf w [2, 4] es) {A : Option Addr} {n c : Nat} {xs : List UInt8} (hs : Src w A n xs) (raw : Bool) (x y : UInt8) (h0 : xs[0]? = some x) (h1 : xs[1]? = some y) (hx : x.toNat = 255) (hy : 251 ≤ y.toNat ∧ y.toNat ≤ 254) (hn : 2 < n) (o : Int) :
    Calls Tryd.prog 29 #[.slice A n c, .bool raw] w fun e w' => FirstSays es (Cut.got ⟨4, (y.toNat : Int), o, []⟩ 3) e ∧ Only (fun _ => False) w w' := by
  obtain ⟨aS, hS1, hS2⟩ := errShort_at hes
  obtain ⟨aF, hF1, hF2⟩ := errForm_at hes
  unfold errV at hS2 hF2
  have HS1 := Lib.hid hS1
  have HF1 := Lib.hid hF1
  have hl := hs.1
  have g0 := (List.getElem?_eq_some_iff.1 h1).1
  obtain ⟨ad, rfl, hcell⟩ := hs.2 (by omega)
  have c0 := hcell 0 x h0
  unfold B8 at c0
  rw [show ad.add 0 = ad from by simp [Addr.add]] at c0
  obtain ⟨z, hz⟩ : ∃ z : Int, z = (x.toNat : Int) := ⟨_, rfl⟩
  rw [← hz] at c0
  have hn0 : ((n : Int) == 0) = false := beq_eq_false_iff_ne.2 (by omega)
  have hn0' : decide ((n : Int) = 0) = false := decide_eq_false (by omega)
  have hn1 : 0 < n := by omega
  have c1 := hcell 1 y h1
  unfold B8 at c1
  rw [add_one_] at c1
  obtain ⟨v, hv⟩ : ∃ v : Int, v = (y.toNat : Int) := ⟨_, rfl⟩
  rw [← hv] at c1
  have hm1 : ((n : Int) == 1) = false := beq_eq_false_iff_ne.2 (by omega)
  have hm1' : decide ((n : Int) = 1) = false := decide_eq_false (by omega)
  have hn2 : 1 < n := by omega
  have hn2' : (1 : Int) < (n : Int) := by omega
  have ez255 : (z == 255) = true := by rw [hz]; simp; omega
  have fz255 : decide (z = 255) = true := by rw [hz]; simp; omega
  have ev255 : (v == 255) = false := by rw [hv]; simp; omega
  have fv255 : decide (v = 255) = false := by rw [hv]; simp; omega
  have ev250 : (v == 250) = false := by rw [hv]; simp; omega
  have fv250 : decide (v = 250) = false := by rw [hv]; simp; omega
  have hq : ∀ W, Calls Tryd.prog 40 #[.int .i64 v] W fun e w' => e = .returned (.bool true) ∧ w' = W := fun W => by
    have := verb_any W v
    rwa [decide_eq_true (by omega)] at this
  have hw : wrap64 v = v := by rw [hv]; exact wrap64_nat _ (by omega)
  have hm2 : ((n : Int) == 2) = false := beq_eq_false_iff_ne.2 (by omega)
  have hm2' : decide ((n : Int) = 2) = false := decide_eq_false (by omega)
  clear g0 hn
  have HZ := Lib.hid hz
  have HV := Lib.hid hv
  clear hcell h0 h1 hz hv hs hl hes hS1 hF1 hx hy
  go_enter Tryd.func29, Tryd.ntmps29
  go_wp2_with fail
  refine wp_scope_hops 3 (fun C hC => ?_)
  go_wp2_with fail
  go_step3
  refine hop_goto 2 1 hC rfl ?_
  go_wp2_with (first
    | (go_at_call 40; refine (hq _).mono ?_; rintro e w' ⟨rfl, e2⟩; subst w'))
  go_step3
  refine hop_goto 1 3 hC rfl ?_
  go_wp2
  refine hop_ret 1 ?_
  go_ret3
  exact ⟨rfl, Only.refl _ _⟩

theorem fs_sub {w : World} {es : List Addr} (hes : ErrsOf w [2, 4] es) {A : Option Addr} {n c : Nat} {xs : List UInt8} (hs : Src w A n xs) (raw : Bool) (x y : UInt8) (h0 : xs[0]? = some x) (h1 : xs[1]? = some y) (hx : x.toNat = 255) (hy : y.toNat = 250) (R : Cut) (hR : ∀ W, Only (fun _ => False) w W → Calls Tryd.prog 39 #[.slice A n c] W fun e w' => FirstSays es R e ∧ Only (fun _ => False) W w') :
    Calls Tryd.prog 29 #[.slice A n c, .bool raw] w fun e w' => FirstSays es (R) e ∧ Only (fun _ => False) w w' := by
  obtain ⟨aS, hS1, hS2⟩ := errShort_at hes
  obtain ⟨aF, hF1, hF2⟩ := errForm_at hes
  unfold errV at hS2 hF2
  have HS1 := Lib.hid hS1
  have HF1 := Lib.hid hF1
  have hl := hs.1
  have g0 := (List.getElem?_eq_some_iff.1 h1).1
  obtain ⟨ad, rfl, hcell⟩ := hs.2 (by omega)
  have c0 := hcell 0 x h0
  unfold B8 at c0
  rw [show ad.add 0 = ad from by simp [Addr.add]] at c0
  obtain ⟨z, hz⟩ : ∃ z : Int, z = (x.toNat : Int) := ⟨_, rfl⟩
  rw [← hz] at c0
  have hn0 : ((n : Int) == 0) = false := beq_eq_false_iff_ne.2 (by omega)
  have hn0' : decide ((n : Int) = 0) = false := decide_eq_false (by omega)
  have hn1 : 0 < n := by omega
  have c1 := hcell 1 y h1
  unfold B8 at c1
  rw [add_one_] at c1
  obtain ⟨v, hv⟩ : ∃ v : Int, v = (y.toNat : Int) := ⟨_, rfl⟩
  rw [← hv] at c1
  have hm1 : ((n : Int) == 1) = false := beq_eq_false_iff_ne.2 (by omega)
  have hm1' : decide ((n : Int) = 1) = false := decide_eq_false (by omega)
  have hn2 : 1 < n := by omega
  have hn2' : (1 : Int) < (n : Int) := by omega
  have ez255 : (z == 255) = true := by rw [hz]; simp; omega
  have fz255 : decide (z = 255) = true := by rw [hz]; simp; omega
  have ev255 : (v == 255) = false := by rw [hv]; simp; omega
  have fv255 : decide (v = 255) = false := by rw [hv]; simp; omega
  have ev250 : (v == 250) = true := by rw [hv]; simp; omega
  have fv250 : decide (v = 250) = true := by rw [hv]; simp; omega
  have HC : Hid (Calls Tryd.prog 39 #[.slice (some ad) n c] w fun e w' => ∃ k m E, e = .returned (.tuple #[.int .i64 k, .int .i64 m, E]) ∧ Hid (FirstSays es R e) ∧ Hid (Only (fun _ => False) w w')) := (hR w (Only.refl _ _)).mono fun e w' h => by
    obtain ⟨h1, h2⟩ := h
    cases R with
    | few =>
      obtain ⟨a, ha, rfl⟩ := h1
      exact ⟨_, _, _, rfl, ⟨a, ha, rfl⟩, h2⟩
    | bad =>
      obtain ⟨a, ha, rfl⟩ := h1
      exact ⟨_, _, _, rfl, ⟨a, ha, rfl⟩, h2⟩
    | got x n =>
      have h1' : e = _ := h1
      subst h1'
      exact ⟨_, _, _, rfl, rfl, h2⟩
  clear g0 hR
  have HZ := Lib.hid hz
  have HV := Lib.hid hv
  clear hcell h0 h1 hz hv hs hl hes hS1 hF1 hx hy
  go_enter Tryd.func29, Tryd.ntmps29
  go_wp2_with fail
  refine wp_scope_hops 3 (fun C hC => ?_)
  go_wp2_with fail
  go_step3
  refine hop_goto 2 1 hC rfl ?_
  go_wp2_with (first
    | (go_at_call 39; refine HC.out.mono ?_; rintro e w1 ⟨k1, m1, E1, rfl, hF, ho1⟩))
  refine hop_ret 2 ?_
  go_ret3
  exact ⟨hF.out, ho1.out⟩

/-- first of all bytes. -/
theorem first_any {w : World} {es : List Addr} (hes : ErrsOf w [2, 4] es) {A : Option Addr} {n c : Nat} {xs : List UInt8} (hs : Src w A n xs) (raw : Bool) (hn : n ≤ 1048576) :
    Calls Tryd.prog 29 #[.slice A n c, .bool raw] w fun e w' => FirstSays es (cut raw xs) e ∧ Only (fun _ => False) w w' := by
  have hl := hs.1
  match xs, hs, hl with
  | [], hs, hl => exact fs_nil hes hs raw hl.symm
  | x :: l, hs, hl =>
    rw [cut_cons]
    by_cases hx : x.toNat = 255
    · rw [if_pos hx]
      match l, hs, hl with
      | [], hs, hl => exact fs_iac_short hes hs raw x rfl hx hl.symm
      | y :: l, hs, hl =>
        rw [iacCut_cons]
        have hyl := y.toNat_lt
        by_cases h1 : y.toNat = 255
        · rw [if_pos h1]
          exact fs_ff hes hs raw x y rfl rfl hx h1
        · rw [if_neg h1]
          by_cases h2 : y.toNat = 250
          · rw [if_pos h2]
            match l, hs, hl with
            | [], hs, hl => exact fs_sub hes hs raw x y rfl rfl hx h2 _ (fun W ho => firstSub_two (hes.only ho) hl.symm)
            | e :: l, hs, hl =>
              refine fs_sub hes hs raw x y rfl rfl hx h2 _ (fun W ho => ?_)
              refine (firstSub_any (c := c) (hes.only ho) (hs.only ho (fun _ _ _ h => h)) (by rw [← hl]; simp) (e.toNat : Int) hn).mono ?_
              rintro e' w' ⟨h3, h4⟩
              exact ⟨h3 _ rfl, h4⟩
          · rw [if_neg h2]
            by_cases h3 : 251 ≤ y.toNat
            · rw [if_pos h3]
              match l, hs, hl with
              | [], hs, hl => exact fs_verb_short hes hs raw x y rfl rfl hx ⟨h3, by omega⟩ hl.symm
              | e :: l, hs, hl => exact fs_verb hes hs raw x y rfl rfl hx ⟨h3, by omega⟩ (by rw [← hl]; simp) _
            · rw [if_neg h3]
              split
              · exact fs_plain hes hs raw x y rfl rfl hx ⟨by assumption, by omega⟩
              · exact fs_bad hes hs raw x y rfl rfl hx (by omega)
    · rw [if_neg hx]
      split
      · rename_i h13
        match l, hs, hl with
        | [], hs, hl => exact fs_ret_short hes hs raw x rfl h13.1 h13.2 hl.symm
        | y :: l, hs, hl =>
          rw [retCut_cons]
          split
          · rename_i hy
            rcases hy with hy | hy
            · rw [hy]
              exact fs_pair0 hes hs raw x y rfl rfl h13.1 hy h13.2
            · rw [hy]
              exact fs_pair10 hes hs raw x y rfl rfl h13.1 hy h13.2
          · rename_i hy
            exact fs_ret_byte hes hs raw x y rfl rfl h13.1 ⟨fun h => hy (.inl h), fun h => hy (.inr h)⟩ h13.2
      · rename_i h13
        by_cases hc : x.toNat = 13
        · exact fs_raw hes hs raw x rfl hc (by cases raw <;> simp_all)
        · exact fs_byte hes hs raw x rfl ⟨hx, hc⟩
end Go.Proofs.YtbjabjkmagekfaaDoor
