/- Package gram: the walk over the items of bytes, whatever they are told to. -/
import Derived.Test.YtbjabjkmagekfaaDoorGramFirstB
import Derived.Shelf.Abstract
namespace Go.Proofs.YtbjabjkmagekfaaDoor
open Go Go.RowKit
set_option maxRecDepth 100000
set_option maxHeartbeats 4000000

/-- What is asked of a function to which the items are told: J says what it has made of them. -/
structure Tells (w : World) (raw : Bool) (xs : List UInt8) (g : Nat) (lb : Array Value) (J : List Pl → World → Prop) : Prop where
  only : ∀ ts W, J ts W → Only (fun _ => False) w W
  stay : ∀ ts W W', J ts W → Only (fun _ => False) W W' → J ts W'
  tell : ∀ ts W (x : It) (k m : Nat), J ts W → ts.length ≤ k → k + m ≤ xs.length → cut raw (xs.drop k) = .got x m →
    Calls Tryd.prog g (#[.int .i64 x.kind, .int .i64 (k : Int), .int .i64 ((k + m : Nat) : Int)] ++ lb) W fun e w' => e = .returned (.tuple #[]) ∧ J (ts ++ [⟨x, k, k + m⟩]) w'

/-- Where walk stands at its label. -/
structure WalkAt (raw : Bool) (xs : List UInt8) (J : List Pl → World → Prop) (W : World) (k : Nat) (ts : List Pl) : Prop where
  le : k ≤ xs.length
  few : ts.length ≤ k
  j : J ts W
  told : ((parseFrom raw k (xs.drop k)).map fun r => (ts ++ r.1, r.2)) = parseFrom raw 0 xs

def WalkJ (raw : Bool) (xs : List UInt8) (J : List Pl → World → Prop) (A : Option Addr) (n c : Nat) (fv : Value) (a : Act) (W : World) : Prop :=
  ∃ (k : Nat) (ts : List Pl) (u9 u10 u11 u12 u13 u14 u15 u16 u17 u18 u19 u20 u21 u22 u23 u24 u25 u26 u27 u28 u29 u30 u31 u32 u33 u34 u35 u36 u37 : Value),
    a = { tmps := #[.slice A n c, .bool raw, fv, undef, undef, undef, .int .i64 0, .nilIface, .int .i64 (k : Int), u9, u10, u11, u12, u13, u14, u15, u16, u17, u18, u19, u20, u21, u22, u23, u24, u25, u26, u27, u28, u29, u30, u31, u32, u33, u34, u35, u36, u37], defers := [] } ∧ WalkAt raw xs J W k ts
def walkM (n : Nat) (a : Act) (_ : World) : Nat := n - (intOf (a.tmps.getD 8 undef)).toNat

/-- What walk answers. -/
def WalkSays (raw : Bool) (xs : List UInt8) (es : List Addr) (J : List Pl → World → Prop) (e : Ending) (w' : World) : Prop :=
  match parseFrom raw 0 xs with
  | some (l, r) => e = .returned (.tuple #[.int .i64 ((xs.length - r : Nat) : Int), .nilIface]) ∧ J l w'
  | .none => ∃ a ts, es[4]? = some a ∧ e = .returned (.tuple #[.int .i64 0, errV a]) ∧ J ts w'

theorem walk_any {w : World} {es : List Addr} (hes : ErrsIs w [2, 4] es) {A : Option Addr} {n c : Nat} {xs : List UInt8} (hs : Src w A n xs) (raw : Bool) (hn : n ≤ 1048576) (hc : n ≤ c)
    (g : Nat) (lb : Array Value) (eg : ∀ args w, (callFunc g args).run Tryd.prog w = .ok (.enter g args) w) {J : List Pl → World → Prop} (hT : Tells w raw xs g lb J) {w1 : World} (h1 : J [] w1) :
    Calls Tryd.prog 19 #[.slice A n c, .bool raw, .func (.func g) #[] lb] w1 (WalkSays raw xs es J) := by
  have HE := Lib.hid hes
  have HS := Lib.hid hs
  have HT := Lib.hid hT
  have H0 : Hid (WalkAt raw xs J w1 0 []) := ⟨Nat.zero_le _, Nat.zero_le _, h1, by rw [List.drop_zero]; cases parseFrom raw 0 xs <;> rfl⟩
  clear hes hs hT h1
  go_enter Tryd.func19, Tryd.ntmps19
  go_wp2_with fail
  refine wp_scope_back 0 (WalkJ raw xs J A n c (.func (.func g) #[] lb)) (walkM n) rfl ?_ ?_
  · intro hfirst
    go_wp2_with fail
    go_step3
    rename_i K hK
    exact hK _ _ (hfirst _ _ ⟨0, [], _, _, _, _, _, _, _, _, _, _, _, _, _, _, _, _, _, _, _, _, _, _, _, _, _, _, _, _, _, rfl, H0.out⟩)
  · clear H0
    rintro a W ⟨k, ts, u9, u10, u11, u12, u13, u14, u15, u16, u17, u18, u19, u20, u21, u22, u23, u24, u25, u26, u27, u28, u29, u30, u31, u32, u33, u34, u35, u36, u37, rfl, hW⟩
    have HW := Lib.hid hW
    have hk : k ≤ n := by have := hW.le; rw [HS.out.1] at this; exact this
    have hkc : k ≤ c := by omega
    have hO := HT.out.only _ _ hW.j
    have hsD : Src W (if c = k then A else Option.map (fun x => x.add k) A) (n - k) (xs.drop k) := by
      have hs1 := HS.out.only hO (fun _ _ _ h => h)
      have hl := hs1.1
      refine ⟨by rw [List.length_drop]; omega, fun h0 => ?_⟩
      obtain ⟨ad, rfl, hcell⟩ := hs1.2 (by omega)
      rw [if_neg (by omega)]
      refine ⟨_, rfl, fun j x hx => ?_⟩
      rw [List.getElem?_drop] at hx
      rw [Go.Deep.add_add]
      exact hcell (k + j) x hx
    have HF := first_any (c := c - k) (hes := HE.out.of.only hO) hsD raw (by omega)
    obtain ⟨D, hD⟩ : ∃ D, (if c = k then A else Option.map (fun x => x.add k) A) = D := ⟨_, rfl⟩
    rw [hD] at HF
    obtain ⟨aS, hS1, hS2⟩ := errShort_at (HE.out.of.only hO)
    obtain ⟨aF, hF1, hF2⟩ := errForm_at (HE.out.of.only hO)
    have HS1 := Lib.hid hS1
    have HF1 := Lib.hid hF1
    have HSame := Lib.hid (is_same aS)
    have HNil := Lib.hid (is_nil aS)
    have HOther : Hid (∀ W', Only (fun _ => False) W W' → Calls Tryd.prog 27 #[errV aF, errV aS] W' fun e w' => e = .returned (.bool false) ∧ W' = w') := fun W' ho' => by
      have he := (HE.out.only hO).only ho'
      exact is_other aF aS W' (he.other 4 (by decide) 2 (by decide) (by decide) aF aS hF1 hS1) (he.row 4 (by decide) aF hF1) (he.row 2 (by decide) aS hS1)
    unfold errV at hS2 HSame HNil HOther
    have HL := Lib.hid (show xs.length = n from HS.out.1)
    have HO := Lib.hid hO
    clear hsD hO hS1 hF1 hF2
    cases hcut : cut raw (xs.drop k) with
    | few =>
      rw [hcut] at HF
      have HC : Hid (Calls Tryd.prog 29 #[.slice D (n - k) (c - k), .bool raw] W fun e w' => e = .returned (.tuple #[.int .i64 0, .int .i64 0, .iface 88 (.pointer (some aS))]) ∧ Hid (Only (fun _ => False) W w')) := HF.mono fun e w' h => by
        obtain ⟨⟨a, ha, rfl⟩, ho⟩ := h
        rw [HS1.out] at ha
        injection ha with ha
        subst ha
        exact ⟨rfl, ho⟩
      have HCut := Lib.hid hcut
      clear HF hcut
      go_wp2_with (first
        | (go_at_call 29; refine HC.out.mono ?_; rintro e w2 ⟨rfl, ho2⟩; have hS3 := ho2.out.cellv hS2 (fun h => h))
        | (go_at_call 27; refine (HSame.out _).mono ?_; rintro e w' ⟨rfl, rfl⟩))
      simp only [Exit.jump]
      go_ret2
      have htold := HW.out.told
      rw [parseFrom_few HCut.out] at htold
      unfold WalkSays
      rw [← htold]
      simp only [Option.map_some, List.append_nil, List.length_drop]
      rw [HL.out, show n - (n - k) = k by omega]
      exact ⟨rfl, HT.out.stay _ _ _ HW.out.j ho2.out⟩
    | bad =>
      rw [hcut] at HF
      have HC : Hid (Calls Tryd.prog 29 #[.slice D (n - k) (c - k), .bool raw] W fun e w' => e = .returned (.tuple #[.int .i64 0, .int .i64 0, .iface 88 (.pointer (some aF))]) ∧ Hid (Only (fun _ => False) W w')) := HF.mono fun e w' h => by
        obtain ⟨⟨a, ha, rfl⟩, ho⟩ := h
        rw [HF1.out] at ha
        injection ha with ha
        subst ha
        exact ⟨rfl, ho⟩
      have HCut := Lib.hid hcut
      clear HF hcut
      go_wp2_with (first
        | (go_at_call 29; refine HC.out.mono ?_; rintro e w2 ⟨rfl, ho2⟩; have hS3 := ho2.out.cellv hS2 (fun h => h))
        | (go_at_call 27; refine (HOther.out _ ho2.out).mono ?_; rintro e w' ⟨rfl, rfl⟩))
      simp only [Exit.jump]
      go_ret2
      have htold := HW.out.told
      rw [parseFrom_bad HCut.out] at htold
      unfold WalkSays
      rw [← htold]
      exact ⟨aF, ts, HF1.out, rfl, HT.out.stay _ _ _ HW.out.j ho2.out⟩
    | got x m =>
      rw [hcut] at HF
      obtain ⟨hm0, hmn⟩ := cut_bounds hcut
      rw [List.length_drop, HL.out] at hmn
      have hck : c ≠ k := by omega
      rw [if_neg hck] at hD
      subst hD
      have HC : Hid (Calls Tryd.prog 29 #[.slice (Option.map (fun x => x.add k) A) (n - k) (c - k), .bool raw] W fun e w' => e = .returned (.tuple #[.int .i64 x.kind, .int .i64 (m : Int), .nilIface]) ∧ Hid (Only (fun _ => False) W w')) := HF.mono fun e w' h => by
        obtain ⟨h, ho⟩ := h
        exact ⟨h, ho⟩
      have HTell : Hid (∀ W', Only (fun _ => False) W W' → Calls Tryd.prog g (#[.int .i64 x.kind, .int .i64 (k : Int), .int .i64 ((k : Int) + (m : Int))] ++ lb) W' fun e w' => e = .returned (.tuple #[]) ∧ J (ts ++ [⟨x, k, k + m⟩]) w') := fun W' ho' =>
        HT.out.tell ts W' x k m (HT.out.stay _ _ _ HW.out.j ho') HW.out.few (by rw [HL.out]; omega) hcut
      have HCut := Lib.hid hcut
      have hkm : k + m ≤ 1048576 := by omega
      obtain ⟨xk, hxk⟩ : ∃ xk, xk = x.kind := ⟨_, rfl⟩
      rw [← hxk] at HC HTell
      clear HF hcut hxk
      go_wp2_with (first
        | (go_at_call 29; refine HC.out.mono ?_; rintro e w2 ⟨rfl, ho2⟩; have hS3 := ho2.out.cellv hS2 (fun h => h))
        | (go_at_call 27; refine (HNil.out _).mono ?_; rintro e w' ⟨rfl, rfl⟩)
        | (go_at_fn g; refine (HTell.out _ ho2.out).mono ?_; rintro e w3 ⟨rfl, hj3⟩; have HJ3 := Lib.hid hj3; clear hj3))
      go_step3
      refine ⟨rfl, ⟨k + m, ts ++ [⟨x, k, k + m⟩], _, _, _, _, _, _, _, _, _, _, _, _, _, _, _, _, _, _, _, _, _, _, _, _, _, _, _, _, _, rfl, ?_⟩, ?_⟩
      · refine ⟨by rw [HL.out]; omega, by have := HW.out.few; rw [List.length_append, List.length_singleton]; omega, HJ3.out, ?_⟩
        have htold := HW.out.told
        rw [parseFrom_got HCut.out, List.drop_drop] at htold
        rw [← htold]
        cases parseFrom raw (k + m) (xs.drop (k + m)) with
        | none => rfl
        | some r => simp
      · simp [walkM, intOf]
        omega
end Go.Proofs.YtbjabjkmagekfaaDoor
