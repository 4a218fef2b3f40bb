/- Several texts in one. -/
import Derived.Test.YtlmkpembccehkaaGreatDoorJScNew
import Derived.BigQuiet
import Derived.Lib.SliceRun
import Derived.StillTailTactics
import Derived.Test.YtlmkpembccehkaaGreatDoorJErrs
import Derived.Test.YtlmkpembccehkaaGreatDoorJTbSay
/- Package mask: its calls on bytes and on masks. -/
namespace Go.Proofs.YtlmkpembccehkaaGreatDoor
open Go Go.RowKit
set_option maxRecDepth 100000
set_option maxHeartbeats 4000000

/-- A mask's value. -/
def mkV (m : List UInt8) : Value := .agg (m.map B8).toArray
theorem mkV_one (m : List UInt8) : ∀ v ∈ m.map B8, v.oneCell' = true := fun v hv => by
  obtain ⟨x, _, rfl⟩ := List.mem_map.1 hv
  rfl

/-- A load of a whole row that a guard lets be. -/
theorem wpList_load_g {P : Program} {ops : Array Oper} {rest : List Oper} {o : Oper} {a : Act} {w : World} {Q : Exit → Act → World → Prop} (hw : Region.wanted o (yielded ops a.tmps) = true) (ty : TypeId) (x : Operand) (ho : o.op = .load ty x) (b : Nat) (hx : a.eval x = .pointer (some ⟨b, 0, none⟩))
    (cs : List Value) (d : TypeDesc) (hc : w.rangeAt b 0 cs) (hu : P.underlying ty = some d) (hd : d.isRow = true) (hi : (P.info? ty).map (·.size) = some cs.length)
    (h : wpList P ops Q rest (a.put o.dst (.agg cs.toArray)) w) : wpList P ops Q (o :: rest) a w :=
  wpList_step fun K hK => by rw [if_pos hw]; exact wp_load_mid ty x ho b 0 hx cs d hc hu hd hi (hK _ _ h)

theorem and_bit (x k : Nat) (hx : x < 256) (hk : k < 8) : (bits .and .u8 (x : Int) ((2 ^ k : Nat) : Int) != 0) = x.testBit k := by
  have key : ∀ (x : Fin 256) (k : Fin 8), (bits .and .u8 (x.val : Int) ((2 ^ k.val : Nat) : Int) != 0) = x.val.testBit k.val := by decide +kernel
  exact key ⟨x, hx⟩ ⟨k, hk⟩
theorem or_bit (x k : Nat) (hx : x < 256) (hk : k < 8) : bits .or .u8 (x : Int) ((2 ^ k : Nat) : Int) = ((x ||| 2 ^ k : Nat) : Int) := by
  have key : ∀ (x : Fin 256) (k : Fin 8), bits .or .u8 (x.val : Int) ((2 ^ k.val : Nat) : Int) = ((x.val ||| 2 ^ k.val : Nat) : Int) := by decide +kernel
  exact key ⟨x, hx⟩ ⟨k, hk⟩

/-- The place of a mask's byte. -/
theorem at_mask (W : World) (N i : Nat) (k : IntKind) (hi : i < 32) : (Instr.indexAt 86 (.pointer (some ⟨N, 0, none⟩)) (.int k (i : Int))).run Tryz.prog W = .ok (.pointer (some ⟨N, i, none⟩)) W := by
  have hu := Tryz.underlying86
  have hs : ∀ W, (sizeOf 5).run Tryz.prog W = .ok 1 W := fun W => by kernel_rfl
  have hlt : (0 : Int) ≤ (i : Int) ∧ (i : Int) < 32 := by omega
  simp [Instr.indexAt, run_underlying hu, Instr.sureAddr, asIntOf, hs, hlt, at_add, hi]
theorem cut_mask (W : World) (N k : Nat) (z : Int) (hz : z = (k : Int)) (hk : k ≤ 32) : (Instr.sliceAt 86 (.pointer (some ⟨N, 0, none⟩)) none (some (.int .i64 z)) none).run Tryz.prog W = .ok (.slice (some ⟨N, 0, none⟩) k 32) W := by
  subst hz
  have hu := Tryz.underlying86
  have h := run_sliceAt_array_h (P := Tryz.prog) (w := W) (a := ⟨N, 0, none⟩) (t := 86) hu .i64 (k : Int) (by omega) (by show (k : Int) ≤ 32; omega)
  rw [h]
  simp
  rfl
/-- A copy of bytes. -/
theorem clone_bytes {w : World} {A : Option Addr} {n c : Nat} {xs : List UInt8} (hs : Src w A n xs) (hn : n ≤ 1048000) :
    Calls Tryz.prog 78 #[.slice A n c] w fun e w' => ∃ A' c', e = .returned (.slice A' n c') ∧ Src w' A' n xs ∧ n ≤ c' ∧ c' ≤ 9223372036854775807 ∧ Only (fun _ => False) w w' := by
  have qn : ∀ (w : World) (a : Option Addr) (n c n' c' : Nat), (binOp .eql 45 (.slice a n c) (.slice none n' c')).run Tryz.prog w = .ok (.bool a.isNone) w := fun w a n c n' c' => Lib.run_eql_slice_nil w _ _ a n c n' c' Tryz.underlying45
  have HO := Lib.hid (((Only.refl (fun _ => False) w).alloc (.cells #[] 5)))
  have HE := Lib.hid (show Body (w.alloc (.cells #[] 5)) 0 (.slice (some ⟨w.heap.size, 0, none⟩) 0 0) [] from own_of_blk (B := 0) (c := 0) (s := 1) (n := 0) (xs := []) (Blk.new w 5 []) rfl rfl (by omega) (by omega) (Nat.zero_le _))
  have HS := Lib.hid hs
  clear hs
  cases A with
  | none =>
    have h0 : n = 0 := by
      rcases Nat.eq_zero_or_pos n with h | h
      · exact h
      · obtain ⟨_, h, _⟩ := HS.out.2 h
        cases h
    subst h0
    go_enter Tryz.func78, Tryz.ntmps78
    go_wp2
    go_ret
    exact ⟨_, _, rfl, HS.out, Nat.le_refl _, by omega, Only.refl _ _⟩
  | some ad =>
    go_enter Tryz.func78, Tryz.ntmps78
    go_wp2_with (at_builtin; refine step_bytesG rfl (.tmp 5) (.tmp 6) rfl 0 _ _ _ [] rfl HE.out rfl (some ad) n c xs rfl (HS.out.only HO.out (fun _ _ _ h => h)) (by omega) (Nat.zero_le _) ?_; intro A' c' w2 hb hg)
    go_ret
    have hown := hb.out
    rw [Nat.zero_add, List.nil_append] at hown
    obtain ⟨A2, c2, e, h1, h2⟩ := hown.form
    injection e with e1 e2 e3
    subst e1 e3
    refine ⟨A', c', rfl, hown.src HS.out.1.symm, by rw [← HS.out.1]; exact h1, h2, HO.out.grown hg.out (fun q hq => .inr (by cases hq; exact Nat.le_refl _))⟩

/-- Where Row stands. -/
theorem mrow_any (w : World) {m : List UInt8} (hl : m.length = 32) :
    Calls Tryz.prog 107 #[mkV m] w fun e w' => ∃ A' c', e = .returned (.slice A' (mkCut m).length c') ∧ Hid (Src w' A' (mkCut m).length (mkCut m)) ∧ Hid (Only (fun _ => False) w w') := by
  have HB := Lib.hid (Blk.new w 86 (m.map B8))
  have HL := Lib.hid hl
  have HO : Hid (Only (fun _ => False) w (w.alloc (.cells (m.map B8).toArray 86))) := (Only.refl _ w).alloc _
  unfold mkV
  obtain ⟨cs, hcs⟩ : ∃ cs, cs = m.map B8 := ⟨_, rfl⟩
  have hcl : cs.length = 32 := by rw [hcs, List.length_map, hl]
  have HM := Lib.hid hcs
  rw [← hcs] at HB HO ⊢
  have HS : Hid (Src (w.alloc (.cells cs.toArray 86)) (some ⟨w.heap.size, 0, none⟩) 32 m) := HB.out.src hl (fun j x hj => by rw [Nat.zero_add, HM.out, List.getElem?_map, hj]; rfl)
  clear hcs hl
  go_enter Tryz.func107, Tryz.ntmps107
  go_wp2
  go_loop [3] (fun i => ∃ k : Nat, k ≤ 32 ∧ i = .int .i64 (k : Int) ∧ Hid (cutLen m k = cutLen m 32)) (fun i => (intOf i).toNat)
  case atStart => exact ⟨32, by omega, rfl, rfl⟩
  case round =>
    obtain ⟨k, hk, rfl, HD⟩ := hrel
    have out : Hid (cutLen m k = k → (mkCut m).length = k ∧ mkCut m = m.take k) := fun h => by
      rw [mkCut_len, mkCut, HL.out, ← HD.out, h]
      exact ⟨rfl, rfl⟩
    cases k with
    | zero =>
      have HT := HS.out.piece 0 0 (Nat.le_refl _) (by omega) (some ⟨w.heap.size, 0, none⟩) (by intro h; omega)
      have HC := Lib.hid (clone_bytes (c := 32) HT (by omega))
      clear HT
      go_wp2_with (first | (go_at_call 78; (with_reducible refine HC.out.mono ?_); rintro e w1 ⟨A', c', rfl, h1, h2, h3, h4⟩) | fail)
      go_ret
      obtain ⟨e1, e2⟩ := out.out rfl
      rw [e1, e2]
      exact ⟨A', c', rfl, h1, HO.out.trans h4 (fun _ h => h.elim)⟩
    | succ k =>
      obtain ⟨x, hx⟩ : ∃ x, m[k]? = some x := ⟨_, List.getElem?_eq_getElem (by rw [HL.out]; omega)⟩
      have hcell : (w.alloc (.cells cs.toArray 86)).cell? ⟨w.heap.size, k, none⟩ = some (.int .u8 (x.toNat : Int)) := by
        rw [HB.out.cell, HM.out, List.getElem?_map, hx]
        rfl
      have hix := fun W => at_mask W w.heap.size k .i64 (by omega)
      have HX := Lib.hid hx
      clear hx
      by_cases h0 : x.toNat = 0
      · have hz : ((x.toNat : Int) == 0) = true := by simp [h0]
        go_wp2
        go_round
        case rel => exact ⟨k, by omega, by go_num, by rw [Hid, ← HD.out, cutLen, if_pos (by rw [mkAt_of HX.out]; exact h0)]⟩
        case measure => simp [intOf]
      · have hz : ((x.toNat : Int) == 0) = false := by simp [h0]
        have HT := HS.out.piece 0 (k + 1) (by omega) (by omega) (some ⟨w.heap.size, 0, none⟩) (by intro _ ad h; injection h with h; subst h; rw [at_add])
        rw [Nat.sub_zero, List.drop_zero] at HT
        have HC := Lib.hid (clone_bytes (c := 32) HT (by omega))
        clear HT
        have hct := fun W => cut_mask W w.heap.size (k + 1) ((k : Int) + 1) (by omega) (by omega)
        go_wp2_with (first | (go_at_call 78; (with_reducible refine HC.out.mono ?_); rintro e w1 ⟨A', c', rfl, h1, h2, h3, h4⟩) | fail)
        go_ret
        obtain ⟨e1, e2⟩ := out.out (by rw [cutLen, if_neg (by rw [mkAt_of HX.out]; exact h0)])
        rw [e1, e2]
        exact ⟨A', c', rfl, h1, HO.out.trans h4 (fun _ h => h.elim)⟩

/-- Where Bytes stands. -/
structure BysAt (w : World) (m : List UInt8) (W : World) (k n : Nat) (V : Value) : Prop where
  len : n = (mkTo m k).length
  row : Body W w.heap.size V (mkTo m k)
  blk : Blk W w.heap.size 86 (m.map B8)
  only : Only (fun _ => False) w W
theorem size_mask : (Tryz.prog.info? 86).map (·.size) = some 32 := by kernel_rfl
end Go.Proofs.YtlmkpembccehkaaGreatDoor
/- Package mask: Of. -/
namespace Go.Proofs.YtlmkpembccehkaaGreatDoor
open Go Go.RowKit
set_option maxRecDepth 100000
set_option maxHeartbeats 4000000

theorem mkOf_snoc (xs : List UInt8) (x : UInt8) : mkOf (xs ++ [x]) = mkAdd (mkOf xs) x := by simp [mkOf]
theorem mkAdd_cells (m : List UInt8) (x : UInt8) : (mkAdd m x).map B8 = (m.map B8).set (x.toNat / 8) (.int .u8 (bits .or .u8 (mkAt m (x.toNat / 8) : Int) ((2 ^ (7 - x.toNat % 8) : Nat) : Int))) := by
  rw [or_bit _ _ (mkAt_lt _ _) (by omega), mkAdd, List.map_set]
  congr 1
  unfold B8
  rw [UInt8.toNat_ofNat', Nat.mod_eq_of_lt (or_lt (mkAt_lt _ _) (by omega))]
theorem zero_mask : (Tryz.prog.info? 86).map (fun i => (i.zero, i.size)) = some (some (.agg ((List.replicate 32 0).map B8).toArray), 32) := by kernel_rfl

/-- Where Of stands. -/
structure OfAt (w : World) (xs : List UInt8) (W : World) (k : Nat) : Prop where
  res : Blk W w.heap.size 86 ((List.replicate 32 0).map B8)
  blk : Blk W (w.heap.size + 1) 86 ((mkOf (xs.take k)).map B8)
  only : Only (fun _ => False) w W

end Go.Proofs.YtlmkpembccehkaaGreatDoor
/- An error and its number, in every world that only grew. -/
namespace Go.Proofs.YtlmkpembccehkaaGreatDoor
open Go Go.RowKit

theorem ErrV.uniq {es : List Addr} {v v' : Value} {num : Nat} (h : ErrV es v num) (h' : ErrV es v' num) : v = v' := by
  rcases h with ⟨rfl, rfl⟩ | ⟨i, a, rfl, ha, rfl⟩
  · rcases h' with ⟨_, rfl⟩ | ⟨j, b, hj, _, _⟩
    · rfl
    · omega
  · rcases h' with ⟨h0, _⟩ | ⟨j, b, hj, hb, rfl⟩
    · omega
    · obtain rfl : i = j := by omega
      rw [ha] at hb
      injection hb with hb
      rw [hb]
end Go.Proofs.YtlmkpembccehkaaGreatDoor
/- Package mask: Body. -/
namespace Go.Proofs.YtlmkpembccehkaaGreatDoor
open Go Go.RowKit
set_option maxRecDepth 100000
set_option maxHeartbeats 4000000

/-- A verb's body. -/
def mkBody (v : Int) (m : List UInt8) : List UInt8 := [b8 v, 2] ++ (if v = 253 then mkCut m else [])

theorem mbody_bad {w : World} {es : List Addr} (hes : ErrsOf w [2, 3, 8] es) {v : Int} (hv : ¬ (251 ≤ v ∧ v ≤ 254)) (m : List UInt8) :
    Calls Tryz.prog 98 #[.int .i64 v, mkV m] w fun e w' => ∃ a, es[8]? = some a ∧ e = .returned (.tuple #[.slice none 0 0, errV a]) ∧ Only (fun _ => False) w w' := by
  obtain ⟨a, ha, hc⟩ := hes.get 8 0 (by decide) rfl
  unfold errV at hc
  have HA := Lib.hid ha
  have HV := Lib.hid (fun W => verb_any W v)
  rw [decide_eq_false hv] at HV
  have HO : Hid (Only (fun _ => False) w (w.alloc (.cells (m.map B8).toArray 86))) := (Only.refl _ w).alloc _
  have hc1 := HO.out.cellv hc (fun h => h)
  unfold mkV
  obtain ⟨cs, hcs⟩ : ∃ cs, cs = m.map B8 := ⟨_, rfl⟩
  rw [← hcs] at hc1 HO ⊢
  clear ha hes hc hcs hv
  go_enter Tryz.func98, Tryz.ntmps98
  go_wp2_with (first | (go_at_call 25; (with_reducible refine (HV.out _).mono ?_); rintro e w1 ⟨rfl, e1⟩; subst w1) | fail)
  go_quiet (fail)
  go_wp2
  go_ret2
  exact ⟨a, HA.out, rfl, HO.out.drewN _⟩

theorem mbody_ok {w : World} {v : Int} (hv : 251 ≤ v ∧ v ≤ 254) {m : List UInt8} (hl : m.length = 32) :
    Calls Tryz.prog 98 #[.int .i64 v, mkV m] w fun e w' => ∃ A n c, e = .returned (.tuple #[.slice A n c, .nilIface]) ∧ n ≤ c ∧ n ≤ 34 ∧ Hid (Src w' A n (mkBody v m)) ∧ Hid (Only (fun _ => False) w w') := by
  have HV := Lib.hid (fun W => verb_any W v)
  rw [decide_eq_true hv] at HV
  have HR := Lib.hid (fun W => mrow_any W hl)
  have hw8 : IntKind.u8.wrap v = v := IntWalk.u8_in _ (by omega)
  have HO : Hid (Only (fun _ => False) w (w.alloc (.cells (m.map B8).toArray 86))) := (Only.refl _ w).alloc _
  have HB : Hid (Blk (w.alloc (.cells (m.map B8).toArray 86)) w.heap.size 86 (m.map B8)) := Blk.new _ _ _
  have HP : Hid (∀ (W : World) (N : Nat), W.heap.size = N → Body (W.alloc (.cells #[.int .u8 v, .int .u8 2] 5)) N (.slice (some ⟨N, 0, none⟩) 2 2) [b8 v, 2]) := fun W N hN => by
    subst hN
    refine own_of_blk (cur := [.int .u8 v, .int .u8 2]) (Blk.new W 5 [.int .u8 v, .int .u8 2]) rfl ?_ (by simp) (by simp) (Nat.le_refl _)
    simp only [List.map_cons, List.map_nil, B8]
    rw [b8_int (by omega) (by omega)]
    rfl
  have HM : Hid (v ≠ 253 → mkBody v m = [b8 v, 2]) := fun h => by rw [mkBody, if_neg h, List.append_nil]
  have HM2 : Hid (v = 253 → mkBody v m = [b8 v, 2] ++ mkCut m) := fun h => by rw [mkBody, if_pos h]
  have HL := Lib.hid (mkCut_le m)
  rw [hl] at HL
  unfold mkV at *
  obtain ⟨cs, hcs⟩ : ∃ cs, cs = m.map B8 := ⟨_, rfl⟩
  have hcl : cs.length = 32 := by rw [hcs, List.length_map, hl]
  have HSz := Lib.hid size_mask
  rw [← hcl] at HSz
  rw [← hcs] at HR HO HB ⊢
  clear hcs hl hv
  by_cases h3 : v = 253
  · have HM := Lib.hid (HM2.out h3)
    have e1 : (v == 253) = true := by simp [h3]
    clear HM2
    have HRg := Lib.hid (range_of (HB.out.alloc (.cells #[.int .u8 v, .int .u8 2] 5)))
    have HPx := Lib.hid (HP.out (w.alloc (.cells cs.toArray 86)) (w.heap.size + 1) (by simp))
    clear h3
    go_enter Tryz.func98, Tryz.ntmps98
    go_wp2_with (first
      | (go_at_call 25; (with_reducible refine (HV.out _).mono ?_); rintro e w1 ⟨rfl, e1⟩; subst w1)
      | (refine wpList_load_mid rfl 86 _ rfl w.heap.size 0 rfl cs _ HRg.out Tryz.underlying86 rfl HSz.out ?_)
      | (go_at_call 107; (with_reducible refine (HR.out _).mono ?_); rintro e w2 ⟨A2, c2, rfl, hs2, ho2⟩)
      | (at_builtin; refine step_bytesG rfl (.tmp 16) (.tmp 18) rfl (w.heap.size + 1) _ 2 2 [b8 v, 2] rfl (HPx.out.same ho2.out) rfl A2 _ c2 (mkCut m) rfl hs2.out (by have := HL.out; omega) (by have := ho2.out.size; simp at this; omega) ?_; intro A3 c3 w3 hb3 hg3)
      | fail)
    go_ret2
    refine ⟨_, _, _, rfl, (by obtain ⟨_, _, e, h1, _⟩ := hb3.out.form; injection e with _ e2 e3; omega), by have := HL.out; omega, ?_, ?_⟩
    · rw [HM.out]
      exact hb3.out.src (by simp; omega)
    · exact ((HO.out.alloc _).trans ho2.out (fun _ h => h.elim)).grown hg3.out (fun q hq => .inr (by have := (own_lt (HPx.out.same ho2.out) q hq).1; omega))
  · have HM := Lib.hid (HM.out h3)
    have e1 : (v == 253) = false := by simp [h3]
    clear HM2
    have HPx := Lib.hid (HP.out (w.alloc (.cells cs.toArray 86)) (w.heap.size + 1) (by simp))
    clear h3
    go_enter Tryz.func98, Tryz.ntmps98
    go_wp2_with (first
      | (go_at_call 25; (with_reducible refine (HV.out _).mono ?_); rintro e w1 ⟨rfl, e1⟩; subst w1)
      | fail)
    go_ret2
    refine ⟨_, 2, _, rfl, by omega, by omega, ?_, HO.out.alloc _⟩
    rw [HM.out]
    exact HPx.out.src rfl
end Go.Proofs.YtlmkpembccehkaaGreatDoor
