/- Several texts in one. -/
import Derived.Test.YtbnfhklpobephaaGreatDoorJTbRefSay
import Derived.Test.YtbnfhklpobephaaGreatDoorJErrIs
import Derived.Shelf.Abstract
/- Package gram: the item that bytes begin with, a walk for each way. -/
namespace Go.Proofs.YtbnfhklpobephaaGreatDoor
open Go Go.RowKit
set_option maxRecDepth 100000
set_option maxHeartbeats 4000000

theorem fs_nil {w : World} {es : List Addr} (hes : ErrsOf w [2, 4] es) {A : Option Addr} {n c : Nat} {xs : List UInt8} (hs : Src w A n xs) (raw : Bool) (hn : n = 0) :
    Calls Tryz.prog 128 #[.slice A n c, .bool raw] w fun e w' => FirstSays es (.few) e ∧ Only (fun _ => False) w w' := by
  obtain ⟨aS, hS1, hS2⟩ := errShort_at hes
  obtain ⟨aF, hF1, hF2⟩ := errForm_at hes
  unfold errV at hS2 hF2
  have HS1 := Lib.hid hS1
  have HF1 := Lib.hid hF1
  have hl := hs.1
  have hn0 : ((n : Int) == 0) = true := beq_iff_eq.2 (by omega)
  have hn0' : decide ((n : Int) = 0) = true := decide_eq_true (by omega)
  clear hs hl hes hS1 hF1 hn
  go_enter Tryz.func128, Tryz.ntmps128
  go_wp2_with fail
  refine wp_scope_hops 3 (fun C hC => ?_)
  go_wp2_with fail
  go_step3
  refine hop_goto 2 0 hC rfl ?_
  go_wp2_with fail
  go_quiet (fail)
  go_wp2
  refine hop_ret 2 ?_
  go_ret3
  exact ⟨⟨_, HS1.out, rfl⟩, (Only.refl _ _).drewN _⟩

theorem fs_byte {w : World} {es : List Addr} (hes : ErrsOf w [2, 4] es) {A : Option Addr} {n c : Nat} {xs : List UInt8} (hs : Src w A n xs) (raw : Bool) (x : UInt8) (h0 : xs[0]? = some x) (hx : x.toNat ≠ 255 ∧ x.toNat ≠ 13) :
    Calls Tryz.prog 128 #[.slice A n c, .bool raw] w fun e w' => FirstSays es (Cut.got ⟨1, (x.toNat : Int), 0, []⟩ 1) e ∧ Only (fun _ => False) w w' := by
  obtain ⟨aS, hS1, hS2⟩ := errShort_at hes
  obtain ⟨aF, hF1, hF2⟩ := errForm_at hes
  unfold errV at hS2 hF2
  have HS1 := Lib.hid hS1
  have HF1 := Lib.hid hF1
  have hl := hs.1
  have g0 := (List.getElem?_eq_some_iff.1 h0).1
  obtain ⟨ad, rfl, hcell⟩ := hs.2 (by omega)
  have c0 := hcell 0 x h0
  unfold B8 at c0
  rw [show ad.add 0 = ad from by simp [Addr.add]] at c0
  obtain ⟨z, hz⟩ : ∃ z : Int, z = (x.toNat : Int) := ⟨_, rfl⟩
  rw [← hz] at c0
  have hn0 : ((n : Int) == 0) = false := beq_eq_false_iff_ne.2 (by omega)
  have hn0' : decide ((n : Int) = 0) = false := decide_eq_false (by omega)
  have hn1 : 0 < n := by omega
  have ez255 : (z == 255) = false := by rw [hz]; simp; omega
  have fz255 : decide (z = 255) = false := by rw [hz]; simp; omega
  have ez13 : (z == 13) = false := by rw [hz]; simp; omega
  have fz13 : decide (z = 13) = false := by rw [hz]; simp; omega
  have HZ := Lib.hid hz
  clear hcell h0 hs hl hes hS1 hF1 hx hz g0
  go_enter Tryz.func128, Tryz.ntmps128
  go_wp2_with fail
  refine wp_scope_hops 3 (fun C hC => ?_)
  go_wp2
  refine hop_ret 3 ?_
  go_ret3
  exact ⟨rfl, Only.refl _ _⟩

theorem fs_raw {w : World} {es : List Addr} (hes : ErrsOf w [2, 4] es) {A : Option Addr} {n c : Nat} {xs : List UInt8} (hs : Src w A n xs) (raw : Bool) (x : UInt8) (h0 : xs[0]? = some x) (hx : x.toNat = 13) (hr : raw = true) :
    Calls Tryz.prog 128 #[.slice A n c, .bool raw] w fun e w' => FirstSays es (Cut.got ⟨1, (x.toNat : Int), 0, []⟩ 1) e ∧ Only (fun _ => False) w w' := by
  obtain ⟨aS, hS1, hS2⟩ := errShort_at hes
  obtain ⟨aF, hF1, hF2⟩ := errForm_at hes
  unfold errV at hS2 hF2
  have HS1 := Lib.hid hS1
  have HF1 := Lib.hid hF1
  have hl := hs.1
  have g0 := (List.getElem?_eq_some_iff.1 h0).1
  obtain ⟨ad, rfl, hcell⟩ := hs.2 (by omega)
  have c0 := hcell 0 x h0
  unfold B8 at c0
  rw [show ad.add 0 = ad from by simp [Addr.add]] at c0
  obtain ⟨z, hz⟩ : ∃ z : Int, z = (x.toNat : Int) := ⟨_, rfl⟩
  rw [← hz] at c0
  have hn0 : ((n : Int) == 0) = false := beq_eq_false_iff_ne.2 (by omega)
  have hn0' : decide ((n : Int) = 0) = false := decide_eq_false (by omega)
  have hn1 : 0 < n := by omega
  have ez255 : (z == 255) = false := by rw [hz]; simp; omega
  have fz255 : decide (z = 255) = false := by rw [hz]; simp; omega
  have ez13 : (z == 13) = true := by rw [hz]; simp; omega
  have fz13 : decide (z = 13) = true := by rw [hz]; simp; omega
  have HZ := Lib.hid hz
  subst hr
  clear hcell h0 hs hl hes hS1 hF1 hx hz g0
  go_enter Tryz.func128, Tryz.ntmps128
  go_wp2_with fail
  refine wp_scope_hops 3 (fun C hC => ?_)
  go_wp2
  refine hop_ret 3 ?_
  go_ret3
  exact ⟨rfl, Only.refl _ _⟩

theorem fs_ret_short {w : World} {es : List Addr} (hes : ErrsOf w [2, 4] es) {A : Option Addr} {n c : Nat} {xs : List UInt8} (hs : Src w A n xs) (raw : Bool) (x : UInt8) (h0 : xs[0]? = some x) (hx : x.toNat = 13) (hr : raw = false) (hn : n = 1) :
    Calls Tryz.prog 128 #[.slice A n c, .bool raw] w fun e w' => FirstSays es (.few) e ∧ Only (fun _ => False) w w' := by
  obtain ⟨aS, hS1, hS2⟩ := errShort_at hes
  obtain ⟨aF, hF1, hF2⟩ := errForm_at hes
  unfold errV at hS2 hF2
  have HS1 := Lib.hid hS1
  have HF1 := Lib.hid hF1
  have hl := hs.1
  have g0 := (List.getElem?_eq_some_iff.1 h0).1
  obtain ⟨ad, rfl, hcell⟩ := hs.2 (by omega)
  have c0 := hcell 0 x h0
  unfold B8 at c0
  rw [show ad.add 0 = ad from by simp [Addr.add]] at c0
  obtain ⟨z, hz⟩ : ∃ z : Int, z = (x.toNat : Int) := ⟨_, rfl⟩
  rw [← hz] at c0
  have hn0 : ((n : Int) == 0) = false := beq_eq_false_iff_ne.2 (by omega)
  have hn0' : decide ((n : Int) = 0) = false := decide_eq_false (by omega)
  have hn1 : 0 < n := by omega
  have ez255 : (z == 255) = false := by rw [hz]; simp; omega
  have fz255 : decide (z = 255) = false := by rw [hz]; simp; omega
  have ez13 : (z == 13) = true := by rw [hz]; simp; omega
  have fz13 : decide (z = 13) = true := by rw [hz]; simp; omega
  have hm1 : ((n : Int) == 1) = true := beq_iff_eq.2 (by omega)
  have hm1' : decide ((n : Int) = 1) = true := decide_eq_true (by omega)
  subst hr
  clear hcell h0 hs hl hes hS1 hF1 hx hz g0 hn
  go_enter Tryz.func128, Tryz.ntmps128
  go_wp2_with fail
  refine wp_scope_hops 3 (fun C hC => ?_)
  go_wp2_with fail
  go_step3
  refine hop_goto 2 2 hC rfl ?_
  go_wp2_with fail
  go_step3
  refine hop_goto 1 0 hC rfl ?_
  go_wp2_with fail
  go_quiet (fail)
  go_wp2
  refine hop_ret 1 ?_
  go_ret3
  exact ⟨⟨_, HS1.out, rfl⟩, (Only.refl _ _).drewN _⟩

theorem fs_pair0 {w : World} {es : List Addr} (hes : ErrsOf w [2, 4] es) {A : Option Addr} {n c : Nat} {xs : List UInt8} (hs : Src w A n xs) (raw : Bool) (x y : UInt8) (h0 : xs[0]? = some x) (h1 : xs[1]? = some y) (hx : x.toNat = 13) (hy : y.toNat = 0) (hr : raw = false) :
    Calls Tryz.prog 128 #[.slice A n c, .bool raw] w fun e w' => FirstSays es (Cut.got ⟨2, 0, 0, []⟩ 2) e ∧ Only (fun _ => False) w w' := by
  obtain ⟨aS, hS1, hS2⟩ := errShort_at hes
  obtain ⟨aF, hF1, hF2⟩ := errForm_at hes
  unfold errV at hS2 hF2
  have HS1 := Lib.hid hS1
  have HF1 := Lib.hid hF1
  have hl := hs.1
  have g0 := (List.getElem?_eq_some_iff.1 h1).1
  obtain ⟨ad, rfl, hcell⟩ := hs.2 (by omega)
  have c0 := hcell 0 x h0
  unfold B8 at c0
  rw [show ad.add 0 = ad from by simp [Addr.add]] at c0
  obtain ⟨z, hz⟩ : ∃ z : Int, z = (x.toNat : Int) := ⟨_, rfl⟩
  rw [← hz] at c0
  have hn0 : ((n : Int) == 0) = false := beq_eq_false_iff_ne.2 (by omega)
  have hn0' : decide ((n : Int) = 0) = false := decide_eq_false (by omega)
  have hn1 : 0 < n := by omega
  have c1 := hcell 1 y h1
  unfold B8 at c1
  rw [add_one_] at c1
  obtain ⟨v, hv⟩ : ∃ v : Int, v = (y.toNat : Int) := ⟨_, rfl⟩
  rw [← hv] at c1
  have hm1 : ((n : Int) == 1) = false := beq_eq_false_iff_ne.2 (by omega)
  have hm1' : decide ((n : Int) = 1) = false := decide_eq_false (by omega)
  have hn2 : 1 < n := by omega
  have hn2' : (1 : Int) < (n : Int) := by omega
  have ez255 : (z == 255) = false := by rw [hz]; simp; omega
  have fz255 : decide (z = 255) = false := by rw [hz]; simp; omega
  have ez13 : (z == 13) = true := by rw [hz]; simp; omega
  have fz13 : decide (z = 13) = true := by rw [hz]; simp; omega
  have ev0 : (v == 0) = true := by rw [hv]; simp; omega
  have fv0 : decide (v = 0) = true := by rw [hv]; simp; omega
  have ev10 : (v == 10) = false := by rw [hv]; simp; omega
  have fv10 : decide (v = 10) = false := by rw [hv]; simp; omega
  subst hr
  clear g0
  have HZ := Lib.hid hz
  have HV := Lib.hid hv
  clear hcell h0 h1 hz hv hs hl hes hS1 hF1 hx hy
  go_enter Tryz.func128, Tryz.ntmps128
  go_wp2_with fail
  refine wp_scope_hops 3 (fun C hC => ?_)
  go_wp2_with fail
  go_step3
  refine hop_goto 2 2 hC rfl ?_
  go_wp2
  refine hop_ret 2 ?_
  go_ret3
  exact ⟨rfl, Only.refl _ _⟩

theorem fs_pair10 {w : World} {es : List Addr} (hes : ErrsOf w [2, 4] es) {A : Option Addr} {n c : Nat} {xs : List UInt8} (hs : Src w A n xs) (raw : Bool) (x y : UInt8) (h0 : xs[0]? = some x) (h1 : xs[1]? = some y) (hx : x.toNat = 13) (hy : y.toNat = 10) (hr : raw = false) :
    Calls Tryz.prog 128 #[.slice A n c, .bool raw] w fun e w' => FirstSays es (Cut.got ⟨2, 10, 0, []⟩ 2) e ∧ Only (fun _ => False) w w' := by
  obtain ⟨aS, hS1, hS2⟩ := errShort_at hes
  obtain ⟨aF, hF1, hF2⟩ := errForm_at hes
  unfold errV at hS2 hF2
  have HS1 := Lib.hid hS1
  have HF1 := Lib.hid hF1
  have hl := hs.1
  have g0 := (List.getElem?_eq_some_iff.1 h1).1
  obtain ⟨ad, rfl, hcell⟩ := hs.2 (by omega)
  have c0 := hcell 0 x h0
  unfold B8 at c0
  rw [show ad.add 0 = ad from by simp [Addr.add]] at c0
  obtain ⟨z, hz⟩ : ∃ z : Int, z = (x.toNat : Int) := ⟨_, rfl⟩
  rw [← hz] at c0
  have hn0 : ((n : Int) == 0) = false := beq_eq_false_iff_ne.2 (by omega)
  have hn0' : decide ((n : Int) = 0) = false := decide_eq_false (by omega)
  have hn1 : 0 < n := by omega
  have c1 := hcell 1 y h1
  unfold B8 at c1
  rw [add_one_] at c1
  obtain ⟨v, hv⟩ : ∃ v : Int, v = (y.toNat : Int) := ⟨_, rfl⟩
  rw [← hv] at c1
  have hm1 : ((n : Int) == 1) = false := beq_eq_false_iff_ne.2 (by omega)
  have hm1' : decide ((n : Int) = 1) = false := decide_eq_false (by omega)
  have hn2 : 1 < n := by omega
  have hn2' : (1 : Int) < (n : Int) := by omega
  have ez255 : (z == 255) = false := by rw [hz]; simp; omega
  have fz255 : decide (z = 255) = false := by rw [hz]; simp; omega
  have ez13 : (z == 13) = true := by rw [hz]; simp; omega
  have fz13 : decide (z = 13) = true := by rw [hz]; simp; omega
  have ev0 : (v == 0) = false := by rw [hv]; simp; omega
  have fv0 : decide (v = 0) = false := by rw [hv]; simp; omega
  have ev10 : (v == 10) = true := by rw [hv]; simp; omega
  have fv10 : decide (v = 10) = true := by rw [hv]; simp; omega
  subst hr
  clear g0
  have HZ := Lib.hid hz
  have HV := Lib.hid hv
  clear hcell h0 h1 hz hv hs hl hes hS1 hF1 hx hy
  go_enter Tryz.func128, Tryz.ntmps128
  go_wp2_with fail
  refine wp_scope_hops 3 (fun C hC => ?_)
  go_wp2_with fail
  go_step3
  refine hop_goto 2 2 hC rfl ?_
  go_wp2
  refine hop_ret 2 ?_
  go_ret3
  exact ⟨rfl, Only.refl _ _⟩

theorem fs_ret_byte {w : World} {es : List Addr} (hes : ErrsOf w [2, 4] es) {A : Option Addr} {n c : Nat} {xs : List UInt8} (hs : Src w A n xs) (raw : Bool) (x y : UInt8) (h0 : xs[0]? = some x) (h1 : xs[1]? = some y) (hx : x.toNat = 13) (hy : y.toNat ≠ 0 ∧ y.toNat ≠ 10) (hr : raw = false) :
    Calls Tryz.prog 128 #[.slice A n c, .bool raw] w fun e w' => FirstSays es (Cut.got ⟨1, 13, 0, []⟩ 1) e ∧ Only (fun _ => False) w w' := by
  obtain ⟨aS, hS1, hS2⟩ := errShort_at hes
  obtain ⟨aF, hF1, hF2⟩ := errForm_at hes
  unfold errV at hS2 hF2
  have HS1 := Lib.hid hS1
  have HF1 := Lib.hid hF1
  have hl := hs.1
  have g0 := (List.getElem?_eq_some_iff.1 h1).1
  obtain ⟨ad, rfl, hcell⟩ := hs.2 (by omega)
  have c0 := hcell 0 x h0
  unfold B8 at c0
  rw [show ad.add 0 = ad from by simp [Addr.add]] at c0
  obtain ⟨z, hz⟩ : ∃ z : Int, z = (x.toNat : Int) := ⟨_, rfl⟩
  rw [← hz] at c0
  have hn0 : ((n : Int) == 0) = false := beq_eq_false_iff_ne.2 (by omega)
  have hn0' : decide ((n : Int) = 0) = false := decide_eq_false (by omega)
  have hn1 : 0 < n := by omega
  have c1 := hcell 1 y h1
  unfold B8 at c1
  rw [add_one_] at c1
  obtain ⟨v, hv⟩ : ∃ v : Int, v = (y.toNat : Int) := ⟨_, rfl⟩
  rw [← hv] at c1
  have hm1 : ((n : Int) == 1) = false := beq_eq_false_iff_ne.2 (by omega)
  have hm1' : decide ((n : Int) = 1) = false := decide_eq_false (by omega)
  have hn2 : 1 < n := by omega
  have hn2' : (1 : Int) < (n : Int) := by omega
  have ez255 : (z == 255) = false := by rw [hz]; simp; omega
  have fz255 : decide (z = 255) = false := by rw [hz]; simp; omega
  have ez13 : (z == 13) = true := by rw [hz]; simp; omega
  have fz13 : decide (z = 13) = true := by rw [hz]; simp; omega
  have ev0 : (v == 0) = false := by rw [hv]; simp; omega
  have fv0 : decide (v = 0) = false := by rw [hv]; simp; omega
  have ev10 : (v == 10) = false := by rw [hv]; simp; omega
  have fv10 : decide (v = 10) = false := by rw [hv]; simp; omega
  subst hr
  clear g0
  have HZ := Lib.hid hz
  have HV := Lib.hid hv
  clear hcell h0 h1 hz hv hs hl hes hS1 hF1 hx hy
  go_enter Tryz.func128, Tryz.ntmps128
  go_wp2_with fail
  refine wp_scope_hops 3 (fun C hC => ?_)
  go_wp2_with fail
  go_step3
  refine hop_goto 2 2 hC rfl ?_
  go_wp2
  refine hop_ret 2 ?_
  go_ret3
  exact ⟨rfl, Only.refl _ _⟩

theorem fs_iac_short {w : World} {es : List Addr} (hes : ErrsOf w [2, 4] es) {A : Option Addr} {n c : Nat} {xs : List UInt8} (hs : Src w A n xs) (raw : Bool) (x : UInt8) (h0 : xs[0]? = some x) (hx : x.toNat = 255) (hn : n = 1) :
    Calls Tryz.prog 128 #[.slice A n c, .bool raw] w fun e w' => FirstSays es (.few) e ∧ Only (fun _ => False) w w' := by
  obtain ⟨aS, hS1, hS2⟩ := errShort_at hes
  obtain ⟨aF, hF1, hF2⟩ := errForm_at hes
  unfold errV at hS2 hF2
  have HS1 := Lib.hid hS1
  have HF1 := Lib.hid hF1
  have hl := hs.1
  have g0 := (List.getElem?_eq_some_iff.1 h0).1
  obtain ⟨ad, rfl, hcell⟩ := hs.2 (by omega)
  have c0 := hcell 0 x h0
  unfold B8 at c0
  rw [show ad.add 0 = ad from by simp [Addr.add]] at c0
  obtain ⟨z, hz⟩ : ∃ z : Int, z = (x.toNat : Int) := ⟨_, rfl⟩
  rw [← hz] at c0
  have hn0 : ((n : Int) == 0) = false := beq_eq_false_iff_ne.2 (by omega)
  have hn0' : decide ((n : Int) = 0) = false := decide_eq_false (by omega)
  have hn1 : 0 < n := by omega
  have ez255 : (z == 255) = true := by rw [hz]; simp; omega
  have fz255 : decide (z = 255) = true := by rw [hz]; simp; omega
  have hm1 : ((n : Int) == 1) = true := beq_iff_eq.2 (by omega)
  have hm1' : decide ((n : Int) = 1) = true := decide_eq_true (by omega)
  clear hcell h0 hs hl hes hS1 hF1 hx hz g0 hn
  go_enter Tryz.func128, Tryz.ntmps128
  go_wp2_with fail
  refine wp_scope_hops 3 (fun C hC => ?_)
  go_wp2_with fail
  go_step3
  refine hop_goto 2 1 hC rfl ?_
  go_wp2_with fail
  go_step3
  refine hop_goto 1 0 hC rfl ?_
  go_wp2_with fail
  go_quiet (fail)
  go_wp2
  refine hop_ret 1 ?_
  go_ret3
  exact ⟨⟨_, HS1.out, rfl⟩, (Only.refl _ _).drewN _⟩

theorem fs_ff {w : World} {es : List Addr} (hes : ErrsOf w [2, 4] es) {A : Option Addr} {n c : Nat} {xs : List UInt8} (hs : Src w A n xs) (raw : Bool) (x y : UInt8) (h0 : xs[0]? = some x) (h1 : xs[1]? = some y) (hx : x.toNat = 255) (hy : y.toNat = 255) :
    Calls Tryz.prog 128 #[.slice A n c, .bool raw] w fun e w' => FirstSays es (Cut.got ⟨1, 255, 0, []⟩ 2) e ∧ Only (fun _ => False) w w' := by
  obtain ⟨aS, hS1, hS2⟩ := errShort_at hes
  obtain ⟨aF, hF1, hF2⟩ := errForm_at hes
  unfold errV at hS2 hF2
  have HS1 := Lib.hid hS1
  have HF1 := Lib.hid hF1
  have hl := hs.1
  have g0 := (List.getElem?_eq_some_iff.1 h1).1
  obtain ⟨ad, rfl, hcell⟩ := hs.2 (by omega)
  have c0 := hcell 0 x h0
  unfold B8 at c0
  rw [show ad.add 0 = ad from by simp [Addr.add]] at c0
  obtain ⟨z, hz⟩ : ∃ z : Int, z = (x.toNat : Int) := ⟨_, rfl⟩
  rw [← hz] at c0
  have hn0 : ((n : Int) == 0) = false := beq_eq_false_iff_ne.2 (by omega)
  have hn0' : decide ((n : Int) = 0) = false := decide_eq_false (by omega)
  have hn1 : 0 < n := by omega
  have c1 := hcell 1 y h1
  unfold B8 at c1
  rw [add_one_] at c1
  obtain ⟨v, hv⟩ : ∃ v : Int, v = (y.toNat : Int) := ⟨_, rfl⟩
  rw [← hv] at c1
  have hm1 : ((n : Int) == 1) = false := beq_eq_false_iff_ne.2 (by omega)
  have hm1' : decide ((n : Int) = 1) = false := decide_eq_false (by omega)
  have hn2 : 1 < n := by omega
  have hn2' : (1 : Int) < (n : Int) := by omega
  have ez255 : (z == 255) = true := by rw [hz]; simp; omega
  have fz255 : decide (z = 255) = true := by rw [hz]; simp; omega
  have ev255 : (v == 255) = true := by rw [hv]; simp; omega
  have fv255 : decide (v = 255) = true := by rw [hv]; simp; omega
  clear g0
  have HZ := Lib.hid hz
  have HV := Lib.hid hv
  clear hcell h0 h1 hz hv hs hl hes hS1 hF1 hx hy
  go_enter Tryz.func128, Tryz.ntmps128
  go_wp2_with fail
  refine wp_scope_hops 3 (fun C hC => ?_)
  go_wp2_with fail
  go_step3
  refine hop_goto 2 1 hC rfl ?_
  go_wp2
  refine hop_ret 2 ?_
  go_ret3
  exact ⟨rfl, Only.refl _ _⟩

theorem fs_plain {w : World} {es : List Addr} (hes : ErrsOf w [2, 4] es) {A : Option Addr} {n c : Nat} {xs : List UInt8} (hs : Src w A n xs) (raw : Bool) (x y : UInt8) (h0 : xs[0]? = some x) (h1 : xs[1]? = some y) (hx : x.toNat = 255) (hy : 241 ≤ y.toNat ∧ y.toNat ≤ 249) :
    Calls Tryz.prog 128 #[.slice A n c, .bool raw] w fun e w' => FirstSays es (Cut.got ⟨3, (y.toNat : Int), 0, []⟩ 2) e ∧ Only (fun _ => False) w w' := by
  obtain ⟨aS, hS1, hS2⟩ := errShort_at hes
  obtain ⟨aF, hF1, hF2⟩ := errForm_at hes
  unfold errV at hS2 hF2
  have HS1 := Lib.hid hS1
  have HF1 := Lib.hid hF1
  have hl := hs.1
  have g0 := (List.getElem?_eq_some_iff.1 h1).1
  obtain ⟨ad, rfl, hcell⟩ := hs.2 (by omega)
  have c0 := hcell 0 x h0
  unfold B8 at c0
  rw [show ad.add 0 = ad from by simp [Addr.add]] at c0
  obtain ⟨z, hz⟩ : ∃ z : Int, z = (x.toNat : Int) := ⟨_, rfl⟩
  rw [← hz] at c0
  have hn0 : ((n : Int) == 0) = false := beq_eq_false_iff_ne.2 (by omega)
  have hn0' : decide ((n : Int) = 0) = false := decide_eq_false (by omega)
  have hn1 : 0 < n := by omega
  have c1 := hcell 1 y h1
  unfold B8 at c1
  rw [add_one_] at c1
  obtain ⟨v, hv⟩ : ∃ v : Int, v = (y.toNat : Int) := ⟨_, rfl⟩
  rw [← hv] at c1
  have hm1 : ((n : Int) == 1) = false := beq_eq_false_iff_ne.2 (by omega)
  have hm1' : decide ((n : Int) = 1) = false := decide_eq_false (by omega)
  have hn2 : 1 < n := by omega
  have hn2' : (1 : Int) < (n : Int) := by omega
  have ez255 : (z == 255) = true := by rw [hz]; simp; omega
  have fz255 : decide (z = 255) = true := by rw [hz]; simp; omega
  have ev255 : (v == 255) = false := by rw [hv]; simp; omega
  have fv255 : decide (v = 255) = false := by rw [hv]; simp; omega
  have ev250 : (v == 250) = false := by rw [hv]; simp; omega
  have fv250 : decide (v = 250) = false := by rw [hv]; simp; omega
  have hp : ∀ W, Calls Tryz.prog 127 #[.int .i64 v] W fun e w' => e = .returned (.bool true) ∧ w' = W := fun W => by
    have := cplain_any W v
    rwa [decide_eq_true (by omega)] at this
  have hq : ∀ W, Calls Tryz.prog 158 #[.int .i64 v] W fun e w' => e = .returned (.bool false) ∧ w' = W := fun W => by
    have := verb_any W v
    rwa [decide_eq_false (by omega)] at this
  have hw : wrap64 v = v := by rw [hv]; exact wrap64_nat _ (by omega)
  clear g0
  have HZ := Lib.hid hz
  have HV := Lib.hid hv
  clear hcell h0 h1 hz hv hs hl hes hS1 hF1 hx hy
  go_enter Tryz.func128, Tryz.ntmps128
  go_wp2_with fail
  refine wp_scope_hops 3 (fun C hC => ?_)
  go_wp2_with fail
  go_step3
  refine hop_goto 2 1 hC rfl ?_
  go_wp2_with (first
    | (go_at_call 158; refine (hq _).mono ?_; rintro e w' ⟨rfl, e2⟩; subst w')
    | (go_at_call 127; refine (hp _).mono ?_; rintro e w' ⟨rfl, e2⟩; subst w'))
  refine hop_ret 2 ?_
  go_ret3
  exact ⟨rfl, Only.refl _ _⟩

theorem fs_bad {w : World} {es : List Addr} (hes : ErrsOf w [2, 4] es) {A : Option Addr} {n c : Nat} {xs : List UInt8} (hs : Src w A n xs) (raw : Bool) (x y : UInt8) (h0 : xs[0]? = some x) (h1 : xs[1]? = some y) (hx : x.toNat = 255) (hy : y.toNat < 241) :
    Calls Tryz.prog 128 #[.slice A n c, .bool raw] w fun e w' => FirstSays es (.bad) e ∧ Only (fun _ => False) w w' := by
  obtain ⟨aS, hS1, hS2⟩ := errShort_at hes
  obtain ⟨aF, hF1, hF2⟩ := errForm_at hes
  unfold errV at hS2 hF2
  have HS1 := Lib.hid hS1
  have HF1 := Lib.hid hF1
  have hl := hs.1
  have g0 := (List.getElem?_eq_some_iff.1 h1).1
  obtain ⟨ad, rfl, hcell⟩ := hs.2 (by omega)
  have c0 := hcell 0 x h0
  unfold B8 at c0
  rw [show ad.add 0 = ad from by simp [Addr.add]] at c0
  obtain ⟨z, hz⟩ : ∃ z : Int, z = (x.toNat : Int) := ⟨_, rfl⟩
  rw [← hz] at c0
  have hn0 : ((n : Int) == 0) = false := beq_eq_false_iff_ne.2 (by omega)
  have hn0' : decide ((n : Int) = 0) = false := decide_eq_false (by omega)
  have hn1 : 0 < n := by omega
  have c1 := hcell 1 y h1
  unfold B8 at c1
  rw [add_one_] at c1
  obtain ⟨v, hv⟩ : ∃ v : Int, v = (y.toNat : Int) := ⟨_, rfl⟩
  rw [← hv] at c1
  have hm1 : ((n : Int) == 1) = false := beq_eq_false_iff_ne.2 (by omega)
  have hm1' : decide ((n : Int) = 1) = false := decide_eq_false (by omega)
  have hn2 : 1 < n := by omega
  have hn2' : (1 : Int) < (n : Int) := by omega
  have ez255 : (z == 255) = true := by rw [hz]; simp; omega
  have fz255 : decide (z = 255) = true := by rw [hz]; simp; omega
  have ev255 : (v == 255) = false := by rw [hv]; simp; omega
  have fv255 : decide (v = 255) = false := by rw [hv]; simp; omega
  have ev250 : (v == 250) = false := by rw [hv]; simp; omega
  have fv250 : decide (v = 250) = false := by rw [hv]; simp; omega
  have hp : ∀ W, Calls Tryz.prog 127 #[.int .i64 v] W fun e w' => e = .returned (.bool false) ∧ w' = W := fun W => by
    have := cplain_any W v
    rwa [decide_eq_false (by omega)] at this
  have hq : ∀ W, Calls Tryz.prog 158 #[.int .i64 v] W fun e w' => e = .returned (.bool false) ∧ w' = W := fun W => by
    have := verb_any W v
    rwa [decide_eq_false (by omega)] at this
  have hw : wrap64 v = v := by rw [hv]; exact wrap64_nat _ (by omega)
  clear g0
  have HZ := Lib.hid hz
  have HV := Lib.hid hv
  clear hcell h0 h1 hz hv hs hl hes hS1 hF1 hx hy
  go_enter Tryz.func128, Tryz.ntmps128
  go_wp2_with fail
  refine wp_scope_hops 3 (fun C hC => ?_)
  go_wp2_with fail
  go_step3
  refine hop_goto 2 1 hC rfl ?_
  go_wp2_with (first
    | (go_at_call 158; refine (hq _).mono ?_; rintro e w' ⟨rfl, e2⟩; subst w')
    | (go_at_call 127; refine (hp _).mono ?_; rintro e w' ⟨rfl, e2⟩; subst w'))
  go_quiet (fail)
  go_wp2
  refine hop_ret 2 ?_
  go_ret3
  exact ⟨⟨_, HF1.out, rfl⟩, (Only.refl _ _).drewN _⟩

theorem fs_verb_short {w : World} {es : List Addr} (hes : ErrsOf w [2, 4] es) {A : Option Addr} {n c : Nat} {xs : List UInt8} (hs : Src w A n xs) (raw : Bool) (x y : UInt8) (h0 : xs[0]? = some x) (h1 : xs[1]? = some y) (hx : x.toNat = 255) (hy : 251 ≤ y.toNat ∧ y.toNat ≤ 254) (hn : n = 2) :
    Calls Tryz.prog 128 #[.slice A n c, .bool raw] w fun e w' => FirstSays es (.few) e ∧ Only (fun _ => False) w w' := by
  obtain ⟨aS, hS1, hS2⟩ := errShort_at hes
  obtain ⟨aF, hF1, hF2⟩ := errForm_at hes
  unfold errV at hS2 hF2
  have HS1 := Lib.hid hS1
  have HF1 := Lib.hid hF1
  have hl := hs.1
  have g0 := (List.getElem?_eq_some_iff.1 h1).1
  obtain ⟨ad, rfl, hcell⟩ := hs.2 (by omega)
  have c0 := hcell 0 x h0
  unfold B8 at c0
  rw [show ad.add 0 = ad from by simp [Addr.add]] at c0
  obtain ⟨z, hz⟩ : ∃ z : Int, z = (x.toNat : Int) := ⟨_, rfl⟩
  rw [← hz] at c0
  have hn0 : ((n : Int) == 0) = false := beq_eq_false_iff_ne.2 (by omega)
  have hn0' : decide ((n : Int) = 0) = false := decide_eq_false (by omega)
  have hn1 : 0 < n := by omega
  have c1 := hcell 1 y h1
  unfold B8 at c1
  rw [add_one_] at c1
  obtain ⟨v, hv⟩ : ∃ v : Int, v = (y.toNat : Int) := ⟨_, rfl⟩
  rw [← hv] at c1
  have hm1 : ((n : Int) == 1) = false := beq_eq_false_iff_ne.2 (by omega)
  have hm1' : decide ((n : Int) = 1) = false := decide_eq_false (by omega)
  have hn2 : 1 < n := by omega
  have hn2' : (1 : Int) < (n : Int) := by omega
  have ez255 : (z == 255) = true := by rw [hz]; simp; omega
  have fz255 : decide (z = 255) = true := by rw [hz]; simp; omega
  have ev255 : (v == 255) = false := by rw [hv]; simp; omega
  have fv255 : decide (v = 255) = false := by rw [hv]; simp; omega
  have ev250 : (v == 250) = false := by rw [hv]; simp; omega
  have fv250 : decide (v = 250) = false := by rw [hv]; simp; omega
  have hq : ∀ W, Calls Tryz.prog 158 #[.int .i64 v] W fun e w' => e = .returned (.bool true) ∧ w' = W := fun W => by
    have := verb_any W v
    rwa [decide_eq_true (by omega)] at this
  have hw : wrap64 v = v := by rw [hv]; exact wrap64_nat _ (by omega)
  have hm2 : ((n : Int) == 2) = true := beq_iff_eq.2 (by omega)
  have hm2' : decide ((n : Int) = 2) = true := decide_eq_true (by omega)
  clear g0 hn
  have HZ := Lib.hid hz
  have HV := Lib.hid hv
  clear hcell h0 h1 hz hv hs hl hes hS1 hF1 hx hy
  go_enter Tryz.func128, Tryz.ntmps128
  go_wp2_with fail
  refine wp_scope_hops 3 (fun C hC => ?_)
  go_wp2_with fail
  go_step3
  refine hop_goto 2 1 hC rfl ?_
  go_wp2_with (first
    | (go_at_call 158; refine (hq _).mono ?_; rintro e w' ⟨rfl, e2⟩; subst w'))
  go_step3
  refine hop_goto 1 3 hC rfl ?_
  go_wp2_with fail
  go_step3
  refine hop_goto 0 0 hC rfl ?_
  go_wp2_with fail
  go_quiet (fail)
  go_wp2
  refine hop_ret 0 ?_
  go_ret3
  exact ⟨⟨_, HS1.out, rfl⟩, (Only.refl _ _).drewN _⟩

theorem fs_verb {w : World} {es : List Addr} (hes : ErrsOf w [2, 4] es) {A : Option Addr} {n c : Nat} {xs : List UInt8} (hs : Src w A n xs) (raw : Bool) (x y : UInt8) (h0 : xs[0]? = some x) (h1 : xs[1]? = some y) (hx : x.toNat = 255) (hy : 251 ≤ y.toNat ∧ y.toNat ≤ 254) (hn : 2 < n) (o : Int) :
    Calls Tryz.prog 128 #[.slice A n c, .bool raw] w fun e w' => FirstSays es (Cut.got ⟨4, (y.toNat : Int), o, []⟩ 3) e ∧ Only (fun _ => False) w w' := by
  obtain ⟨aS, hS1, hS2⟩ := errShort_at hes
  obtain ⟨aF, hF1, hF2⟩ := errForm_at hes
  unfold errV at hS2 hF2
  have HS1 := Lib.hid hS1
  have HF1 := Lib.hid hF1
  have hl := hs.1
  have g0 := (List.getElem?_eq_some_iff.1 h1).1
  obtain ⟨ad, rfl, hcell⟩ := hs.2 (by omega)
  have c0 := hcell 0 x h0
  unfold B8 at c0
  rw [show ad.add 0 = ad from by simp [Addr.add]] at c0
  obtain ⟨z, hz⟩ : ∃ z : Int, z = (x.toNat : Int) := ⟨_, rfl⟩
  rw [← hz] at c0
  have hn0 : ((n : Int) == 0) = false := beq_eq_false_iff_ne.2 (by omega)
  have hn0' : decide ((n : Int) = 0) = false := decide_eq_false (by omega)
  have hn1 : 0 < n := by omega
  have c1 := hcell 1 y h1
  unfold B8 at c1
  rw [add_one_] at c1
  obtain ⟨v, hv⟩ : ∃ v : Int, v = (y.toNat : Int) := ⟨_, rfl⟩
  rw [← hv] at c1
  have hm1 : ((n : Int) == 1) = false := beq_eq_false_iff_ne.2 (by omega)
  have hm1' : decide ((n : Int) = 1) = false := decide_eq_false (by omega)
  have hn2 : 1 < n := by omega
  have hn2' : (1 : Int) < (n : Int) := by omega
  have ez255 : (z == 255) = true := by rw [hz]; simp; omega
  have fz255 : decide (z = 255) = true := by rw [hz]; simp; omega
  have ev255 : (v == 255) = false := by rw [hv]; simp; omega
  have fv255 : decide (v = 255) = false := by rw [hv]; simp; omega
  have ev250 : (v == 250) = false := by rw [hv]; simp; omega
  have fv250 : decide (v = 250) = false := by rw [hv]; simp; omega
  have hq : ∀ W, Calls Tryz.prog 158 #[.int .i64 v] W fun e w' => e = .returned (.bool true) ∧ w' = W := fun W => by
    have := verb_any W v
    rwa [decide_eq_true (by omega)] at this
  have hw : wrap64 v = v := by rw [hv]; exact wrap64_nat _ (by omega)
  have hm2 : ((n : Int) == 2) = false := beq_eq_false_iff_ne.2 (by omega)
  have hm2' : decide ((n : Int) = 2) = false := decide_eq_false (by omega)
  clear g0 hn
  have HZ := Lib.hid hz
  have HV := Lib.hid hv
  clear hcell h0 h1 hz hv hs hl hes hS1 hF1 hx hy
  go_enter Tryz.func128, Tryz.ntmps128
  go_wp2_with fail
  refine wp_scope_hops 3 (fun C hC => ?_)
  go_wp2_with fail
  go_step3
  refine hop_goto 2 1 hC rfl ?_
  go_wp2_with (first
    | (go_at_call 158; refine (hq _).mono ?_; rintro e w' ⟨rfl, e2⟩; subst w'))
  go_step3
  refine hop_goto 1 3 hC rfl ?_
  go_wp2
  refine hop_ret 1 ?_
  go_ret3
  exact ⟨rfl, Only.refl _ _⟩

theorem fs_sub {w : World} {es : List Addr} (hes : ErrsOf w [2, 4] es) {A : Option Addr} {n c : Nat} {xs : List UInt8} (hs : Src w A n xs) (raw : Bool) (x y : UInt8) (h0 : xs[0]? = some x) (h1 : xs[1]? = some y) (hx : x.toNat = 255) (hy : y.toNat = 250) (R : Cut) (hR : ∀ W, Only (fun _ => False) w W → Calls Tryz.prog 171 #[.slice A n c] W fun e w' => FirstSays es R e ∧ Only (fun _ => False) W w') :
    Calls Tryz.prog 128 #[.slice A n c, .bool raw] w fun e w' => FirstSays es (R) e ∧ Only (fun _ => False) w w' := by
  obtain ⟨aS, hS1, hS2⟩ := errShort_at hes
  obtain ⟨aF, hF1, hF2⟩ := errForm_at hes
  unfold errV at hS2 hF2
  have HS1 := Lib.hid hS1
  have HF1 := Lib.hid hF1
  have hl := hs.1
  have g0 := (List.getElem?_eq_some_iff.1 h1).1
  obtain ⟨ad, rfl, hcell⟩ := hs.2 (by omega)
  have c0 := hcell 0 x h0
  unfold B8 at c0
  rw [show ad.add 0 = ad from by simp [Addr.add]] at c0
  obtain ⟨z, hz⟩ : ∃ z : Int, z = (x.toNat : Int) := ⟨_, rfl⟩
  rw [← hz] at c0
  have hn0 : ((n : Int) == 0) = false := beq_eq_false_iff_ne.2 (by omega)
  have hn0' : decide ((n : Int) = 0) = false := decide_eq_false (by omega)
  have hn1 : 0 < n := by omega
  have c1 := hcell 1 y h1
  unfold B8 at c1
  rw [add_one_] at c1
  obtain ⟨v, hv⟩ : ∃ v : Int, v = (y.toNat : Int) := ⟨_, rfl⟩
  rw [← hv] at c1
  have hm1 : ((n : Int) == 1) = false := beq_eq_false_iff_ne.2 (by omega)
  have hm1' : decide ((n : Int) = 1) = false := decide_eq_false (by omega)
  have hn2 : 1 < n := by omega
  have hn2' : (1 : Int) < (n : Int) := by omega
  have ez255 : (z == 255) = true := by rw [hz]; simp; omega
  have fz255 : decide (z = 255) = true := by rw [hz]; simp; omega
  have ev255 : (v == 255) = false := by rw [hv]; simp; omega
  have fv255 : decide (v = 255) = false := by rw [hv]; simp; omega
  have ev250 : (v == 250) = true := by rw [hv]; simp; omega
  have fv250 : decide (v = 250) = true := by rw [hv]; simp; omega
  have HC : Hid (Calls Tryz.prog 171 #[.slice (some ad) n c] w fun e w' => ∃ k m E, e = .returned (.tuple #[.int .i64 k, .int .i64 m, E]) ∧ Hid (FirstSays es R e) ∧ Hid (Only (fun _ => False) w w')) := (hR w (Only.refl _ _)).mono fun e w' h => by
    obtain ⟨h1, h2⟩ := h
    cases R with
    | few =>
      obtain ⟨a, ha, rfl⟩ := h1
      exact ⟨_, _, _, rfl, ⟨a, ha, rfl⟩, h2⟩
    | bad =>
      obtain ⟨a, ha, rfl⟩ := h1
      exact ⟨_, _, _, rfl, ⟨a, ha, rfl⟩, h2⟩
    | got x n =>
      have h1' : e = _ := h1
      subst h1'
      exact ⟨_, _, _, rfl, rfl, h2⟩
  clear g0 hR
  have HZ := Lib.hid hz
  have HV := Lib.hid hv
  clear hcell h0 h1 hz hv hs hl hes hS1 hF1 hx hy
  go_enter Tryz.func128, Tryz.ntmps128
  go_wp2_with fail
  refine wp_scope_hops 3 (fun C hC => ?_)
  go_wp2_with fail
  go_step3
  refine hop_goto 2 1 hC rfl ?_
  go_wp2_with (first
    | (go_at_call 171; refine HC.out.mono ?_; rintro e w1 ⟨k1, m1, E1, rfl, hF, ho1⟩))
  refine hop_ret 2 ?_
  go_ret3
  exact ⟨hF.out, ho1.out⟩

/-- first of all bytes. -/
theorem first_any {w : World} {es : List Addr} (hes : ErrsOf w [2, 4] es) {A : Option Addr} {n c : Nat} {xs : List UInt8} (hs : Src w A n xs) (raw : Bool) (hn : n ≤ 1048576) :
    Calls Tryz.prog 128 #[.slice A n c, .bool raw] w fun e w' => FirstSays es (cut raw xs) e ∧ Only (fun _ => False) w w' := by
  have hl := hs.1
  match xs, hs, hl with
  | [], hs, hl => exact fs_nil hes hs raw hl.symm
  | x :: l, hs, hl =>
    rw [cut_cons]
    by_cases hx : x.toNat = 255
    · rw [if_pos hx]
      match l, hs, hl with
      | [], hs, hl => exact fs_iac_short hes hs raw x rfl hx hl.symm
      | y :: l, hs, hl =>
        rw [iacCut_cons]
        have hyl := y.toNat_lt
        by_cases h1 : y.toNat = 255
        · rw [if_pos h1]
          exact fs_ff hes hs raw x y rfl rfl hx h1
        · rw [if_neg h1]
          by_cases h2 : y.toNat = 250
          · rw [if_pos h2]
            match l, hs, hl with
            | [], hs, hl => exact fs_sub hes hs raw x y rfl rfl hx h2 _ (fun W ho => firstSub_two (hes.only ho) hl.symm)
            | e :: l, hs, hl =>
              refine fs_sub hes hs raw x y rfl rfl hx h2 _ (fun W ho => ?_)
              refine (firstSub_any (c := c) (hes.only ho) (hs.only ho (fun _ _ _ h => h)) (by rw [← hl]; simp) (e.toNat : Int) hn).mono ?_
              rintro e' w' ⟨h3, h4⟩
              exact ⟨h3 _ rfl, h4⟩
          · rw [if_neg h2]
            by_cases h3 : 251 ≤ y.toNat
            · rw [if_pos h3]
              match l, hs, hl with
              | [], hs, hl => exact fs_verb_short hes hs raw x y rfl rfl hx ⟨h3, by omega⟩ hl.symm
              | e :: l, hs, hl => exact fs_verb hes hs raw x y rfl rfl hx ⟨h3, by omega⟩ (by rw [← hl]; simp) _
            · rw [if_neg h3]
              split
              · exact fs_plain hes hs raw x y rfl rfl hx ⟨by assumption, by omega⟩
              · exact fs_bad hes hs raw x y rfl rfl hx (by omega)
    · rw [if_neg hx]
      split
      · rename_i h13
        match l, hs, hl with
        | [], hs, hl => exact fs_ret_short hes hs raw x rfl h13.1 h13.2 hl.symm
        | y :: l, hs, hl =>
          rw [retCut_cons]
          split
          · rename_i hy
            rcases hy with hy | hy
            · rw [hy]
              exact fs_pair0 hes hs raw x y rfl rfl h13.1 hy h13.2
            · rw [hy]
              exact fs_pair10 hes hs raw x y rfl rfl h13.1 hy h13.2
          · rename_i hy
            exact fs_ret_byte hes hs raw x y rfl rfl h13.1 ⟨fun h => hy (.inl h), fun h => hy (.inr h)⟩ h13.2
      · rename_i h13
        by_cases hc : x.toNat = 13
        · exact fs_raw hes hs raw x rfl hc (by cases raw <;> simp_all)
        · exact fs_byte hes hs raw x rfl ⟨hx, hc⟩
end Go.Proofs.YtbnfhklpobephaaGreatDoor
/- Package gram: the walk over the items of bytes, whatever they are told to. -/
namespace Go.Proofs.YtbnfhklpobephaaGreatDoor
open Go Go.RowKit
set_option maxRecDepth 100000
set_option maxHeartbeats 4000000

/-- What is asked of a function to which the items are told: J says what it has made of them. -/
structure Tells (w : World) (raw : Bool) (xs : List UInt8) (g : Nat) (lb : Array Value) (J : List Pl → World → Prop) : Prop where
  only : ∀ ts W, J ts W → Only (fun _ => False) w W
  stay : ∀ ts W W', J ts W → Only (fun _ => False) W W' → J ts W'
  tell : ∀ ts W (x : It) (k m : Nat), J ts W → ts.length ≤ k → k + m ≤ xs.length → cut raw (xs.drop k) = .got x m →
    Calls Tryz.prog g (#[.int .i64 x.kind, .int .i64 (k : Int), .int .i64 ((k + m : Nat) : Int)] ++ lb) W fun e w' => e = .returned (.tuple #[]) ∧ J (ts ++ [⟨x, k, k + m⟩]) w'

/-- Where walk stands at its label. -/
structure WalkAt (raw : Bool) (xs : List UInt8) (J : List Pl → World → Prop) (W : World) (k : Nat) (ts : List Pl) : Prop where
  le : k ≤ xs.length
  few : ts.length ≤ k
  j : J ts W
  told : ((parseFrom raw k (xs.drop k)).map fun r => (ts ++ r.1, r.2)) = parseFrom raw 0 xs

def WalkJ (raw : Bool) (xs : List UInt8) (J : List Pl → World → Prop) (A : Option Addr) (n c : Nat) (fv : Value) (a : Act) (W : World) : Prop :=
  ∃ (k : Nat) (ts : List Pl) (u9 u10 u11 u12 u13 u14 u15 u16 u17 u18 u19 u20 u21 u22 u23 u24 u25 u26 u27 u28 u29 u30 u31 u32 u33 u34 u35 u36 u37 : Value),
    a = { tmps := #[.slice A n c, .bool raw, fv, undef, undef, undef, .int .i64 0, .nilIface, .int .i64 (k : Int), u9, u10, u11, u12, u13, u14, u15, u16, u17, u18, u19, u20, u21, u22, u23, u24, u25, u26, u27, u28, u29, u30, u31, u32, u33, u34, u35, u36, u37], defers := [] } ∧ WalkAt raw xs J W k ts
def walkM (n : Nat) (a : Act) (_ : World) : Nat := n - (intOf (a.tmps.getD 8 undef)).toNat

/-- What walk answers. -/
def WalkSays (raw : Bool) (xs : List UInt8) (es : List Addr) (J : List Pl → World → Prop) (e : Ending) (w' : World) : Prop :=
  match parseFrom raw 0 xs with
  | some (l, r) => e = .returned (.tuple #[.int .i64 ((xs.length - r : Nat) : Int), .nilIface]) ∧ J l w'
  | .none => ∃ a ts, es[4]? = some a ∧ e = .returned (.tuple #[.int .i64 0, errV a]) ∧ J ts w'

theorem walk_any {w : World} {es : List Addr} (hes : ErrsIs w [2, 4] es) {A : Option Addr} {n c : Nat} {xs : List UInt8} (hs : Src w A n xs) (raw : Bool) (hn : n ≤ 1048576) (hc : n ≤ c)
    (g : Nat) (lb : Array Value) (eg : ∀ args w, (callFunc g args).run Tryz.prog w = .ok (.enter g args) w) {J : List Pl → World → Prop} (hT : Tells w raw xs g lb J) {w1 : World} (h1 : J [] w1) :
    Calls Tryz.prog 74 #[.slice A n c, .bool raw, .func (.func g) #[] lb] w1 (WalkSays raw xs es J) := by
  have HE := Lib.hid hes
  have HS := Lib.hid hs
  have HT := Lib.hid hT
  have H0 : Hid (WalkAt raw xs J w1 0 []) := ⟨Nat.zero_le _, Nat.zero_le _, h1, by rw [List.drop_zero]; cases parseFrom raw 0 xs <;> rfl⟩
  clear hes hs hT h1
  go_enter Tryz.func74, Tryz.ntmps74
  go_wp2_with fail
  refine wp_scope_back 0 (WalkJ raw xs J A n c (.func (.func g) #[] lb)) (walkM n) rfl ?_ ?_
  · intro hfirst
    go_wp2_with fail
    go_step3
    rename_i K hK
    exact hK _ _ (hfirst _ _ ⟨0, [], _, _, _, _, _, _, _, _, _, _, _, _, _, _, _, _, _, _, _, _, _, _, _, _, _, _, _, _, _, rfl, H0.out⟩)
  · clear H0
    rintro a W ⟨k, ts, u9, u10, u11, u12, u13, u14, u15, u16, u17, u18, u19, u20, u21, u22, u23, u24, u25, u26, u27, u28, u29, u30, u31, u32, u33, u34, u35, u36, u37, rfl, hW⟩
    have HW := Lib.hid hW
    have hk : k ≤ n := by have := hW.le; rw [HS.out.1] at this; exact this
    have hkc : k ≤ c := by omega
    have hO := HT.out.only _ _ hW.j
    have hsD : Src W (if c = k then A else Option.map (fun x => x.add k) A) (n - k) (xs.drop k) := by
      have hs1 := HS.out.only hO (fun _ _ _ h => h)
      have hl := hs1.1
      refine ⟨by rw [List.length_drop]; omega, fun h0 => ?_⟩
      obtain ⟨ad, rfl, hcell⟩ := hs1.2 (by omega)
      rw [if_neg (by omega)]
      refine ⟨_, rfl, fun j x hx => ?_⟩
      rw [List.getElem?_drop] at hx
      rw [Go.Deep.add_add]
      exact hcell (k + j) x hx
    have HF := first_any (c := c - k) (hes := HE.out.of.only hO) hsD raw (by omega)
    obtain ⟨D, hD⟩ : ∃ D, (if c = k then A else Option.map (fun x => x.add k) A) = D := ⟨_, rfl⟩
    rw [hD] at HF
    obtain ⟨aS, hS1, hS2⟩ := errShort_at (HE.out.of.only hO)
    obtain ⟨aF, hF1, hF2⟩ := errForm_at (HE.out.of.only hO)
    have HS1 := Lib.hid hS1
    have HF1 := Lib.hid hF1
    have HSame := Lib.hid (is_same aS)
    have HNil := Lib.hid (is_nil aS)
    have HOther : Hid (∀ W', Only (fun _ => False) W W' → Calls Tryz.prog 39 #[errV aF, errV aS] W' fun e w' => e = .returned (.bool false) ∧ W' = w') := fun W' ho' => by
      have he := (HE.out.only hO).only ho'
      exact is_other aF aS W' (he.other 4 (by decide) 2 (by decide) (by decide) aF aS hF1 hS1) (he.row 4 (by decide) aF hF1) (he.row 2 (by decide) aS hS1)
    unfold errV at hS2 HSame HNil HOther
    have HL := Lib.hid (show xs.length = n from HS.out.1)
    have HO := Lib.hid hO
    clear hsD hO hS1 hF1 hF2
    cases hcut : cut raw (xs.drop k) with
    | few =>
      rw [hcut] at HF
      have HC : Hid (Calls Tryz.prog 128 #[.slice D (n - k) (c - k), .bool raw] W fun e w' => e = .returned (.tuple #[.int .i64 0, .int .i64 0, .iface 409 (.pointer (some aS))]) ∧ Hid (Only (fun _ => False) W w')) := HF.mono fun e w' h => by
        obtain ⟨⟨a, ha, rfl⟩, ho⟩ := h
        rw [HS1.out] at ha
        injection ha with ha
        subst ha
        exact ⟨rfl, ho⟩
      have HCut := Lib.hid hcut
      clear HF hcut
      go_wp2_with (first
        | (go_at_call 128; refine HC.out.mono ?_; rintro e w2 ⟨rfl, ho2⟩; have hS3 := ho2.out.cellv hS2 (fun h => h))
        | (go_at_call 39; refine (HSame.out _).mono ?_; rintro e w' ⟨rfl, rfl⟩))
      simp only [Exit.jump]
      go_ret2
      have htold := HW.out.told
      rw [parseFrom_few HCut.out] at htold
      unfold WalkSays
      rw [← htold]
      simp only [Option.map_some, List.append_nil, List.length_drop]
      rw [HL.out, show n - (n - k) = k by omega]
      exact ⟨rfl, HT.out.stay _ _ _ HW.out.j ho2.out⟩
    | bad =>
      rw [hcut] at HF
      have HC : Hid (Calls Tryz.prog 128 #[.slice D (n - k) (c - k), .bool raw] W fun e w' => e = .returned (.tuple #[.int .i64 0, .int .i64 0, .iface 409 (.pointer (some aF))]) ∧ Hid (Only (fun _ => False) W w')) := HF.mono fun e w' h => by
        obtain ⟨⟨a, ha, rfl⟩, ho⟩ := h
        rw [HF1.out] at ha
        injection ha with ha
        subst ha
        exact ⟨rfl, ho⟩
      have HCut := Lib.hid hcut
      clear HF hcut
      go_wp2_with (first
        | (go_at_call 128; refine HC.out.mono ?_; rintro e w2 ⟨rfl, ho2⟩; have hS3 := ho2.out.cellv hS2 (fun h => h))
        | (go_at_call 39; refine (HOther.out _ ho2.out).mono ?_; rintro e w' ⟨rfl, rfl⟩))
      simp only [Exit.jump]
      go_ret2
      have htold := HW.out.told
      rw [parseFrom_bad HCut.out] at htold
      unfold WalkSays
      rw [← htold]
      exact ⟨aF, ts, HF1.out, rfl, HT.out.stay _ _ _ HW.out.j ho2.out⟩
    | got x m =>
      rw [hcut] at HF
      obtain ⟨hm0, hmn⟩ := cut_bounds hcut
      rw [List.length_drop, HL.out] at hmn
      have hck : c ≠ k := by omega
      rw [if_neg hck] at hD
      subst hD
      have HC : Hid (Calls Tryz.prog 128 #[.slice (Option.map (fun x => x.add k) A) (n - k) (c - k), .bool raw] W fun e w' => e = .returned (.tuple #[.int .i64 x.kind, .int .i64 (m : Int), .nilIface]) ∧ Hid (Only (fun _ => False) W w')) := HF.mono fun e w' h => by
        obtain ⟨h, ho⟩ := h
        exact ⟨h, ho⟩
      have HTell : Hid (∀ W', Only (fun _ => False) W W' → Calls Tryz.prog g (#[.int .i64 x.kind, .int .i64 (k : Int), .int .i64 ((k : Int) + (m : Int))] ++ lb) W' fun e w' => e = .returned (.tuple #[]) ∧ J (ts ++ [⟨x, k, k + m⟩]) w') := fun W' ho' =>
        HT.out.tell ts W' x k m (HT.out.stay _ _ _ HW.out.j ho') HW.out.few (by rw [HL.out]; omega) hcut
      have HCut := Lib.hid hcut
      have hkm : k + m ≤ 1048576 := by omega
      obtain ⟨xk, hxk⟩ : ∃ xk, xk = x.kind := ⟨_, rfl⟩
      rw [← hxk] at HC HTell
      clear HF hcut hxk
      go_wp2_with (first
        | (go_at_call 128; refine HC.out.mono ?_; rintro e w2 ⟨rfl, ho2⟩; have hS3 := ho2.out.cellv hS2 (fun h => h))
        | (go_at_call 39; refine (HNil.out _).mono ?_; rintro e w' ⟨rfl, rfl⟩)
        | (go_at_fn g; refine (HTell.out _ ho2.out).mono ?_; rintro e w3 ⟨rfl, hj3⟩; have HJ3 := Lib.hid hj3; clear hj3))
      go_step3
      refine ⟨rfl, ⟨k + m, ts ++ [⟨x, k, k + m⟩], _, _, _, _, _, _, _, _, _, _, _, _, _, _, _, _, _, _, _, _, _, _, _, _, _, _, _, _, _, rfl, ?_⟩, ?_⟩
      · refine ⟨by rw [HL.out]; omega, by have := HW.out.few; rw [List.length_append, List.length_singleton]; omega, HJ3.out, ?_⟩
        have htold := HW.out.told
        rw [parseFrom_got HCut.out, List.drop_drop] at htold
        rw [← htold]
        cases parseFrom raw (k + m) (xs.drop (k + m)) with
        | none => rfl
        | some r => simp
      · simp [walkM, intOf]
        omega
end Go.Proofs.YtbnfhklpobephaaGreatDoor
