/- Several texts in one. -/
import Derived.Test.YtbnfhklpobephaaGreatDoorJTbList
import Derived.StillTailTactics
import Derived.Test.YtbnfhklpobephaaGreatDoorJNum
import Derived.Test.YtbnfhklpobephaaGreatDoorJTb
/- Package mask: Of. -/
namespace Go.Proofs.YtbnfhklpobephaaGreatDoor
open Go Go.RowKit
set_option maxRecDepth 100000
set_option maxHeartbeats 4000000

theorem mkOf_snoc (xs : List UInt8) (x : UInt8) : mkOf (xs ++ [x]) = mkAdd (mkOf xs) x := by simp [mkOf]
theorem mkAdd_cells (m : List UInt8) (x : UInt8) : (mkAdd m x).map B8 = (m.map B8).set (x.toNat / 8) (.int .u8 (bits .or .u8 (mkAt m (x.toNat / 8) : Int) ((2 ^ (7 - x.toNat % 8) : Nat) : Int))) := by
  rw [or_bit _ _ (mkAt_lt _ _) (by omega), mkAdd, List.map_set]
  congr 1
  unfold B8
  rw [UInt8.toNat_ofNat', Nat.mod_eq_of_lt (or_lt (mkAt_lt _ _) (by omega))]
theorem zero_mask : (Tryz.prog.info? 120).map (fun i => (i.zero, i.size)) = some (some (.agg ((List.replicate 32 0).map B8).toArray), 32) := by kernel_rfl

/-- Where Of stands. -/
structure OfAt (w : World) (xs : List UInt8) (W : World) (k : Nat) : Prop where
  res : Blk W w.heap.size 120 ((List.replicate 32 0).map B8)
  blk : Blk W (w.heap.size + 1) 120 ((mkOf (xs.take k)).map B8)
  only : Only (fun _ => False) w W

end Go.Proofs.YtbnfhklpobephaaGreatDoor
/- Errors by their numbers: one alone. -/
namespace Go.Proofs.YtbnfhklpobephaaGreatDoor
open Go Go.RowKit

theorem ErrV.uniq {es : List Addr} {v v' : Value} {num : Nat} (h : ErrV es v num) (h' : ErrV es v' num) : v = v' := by
  rcases h with ⟨rfl, rfl⟩ | ⟨i, a, rfl, ha, rfl⟩
  · rcases h' with ⟨_, rfl⟩ | ⟨j, b, hj, _, _⟩
    · rfl
    · omega
  · rcases h' with ⟨h0, _⟩ | ⟨j, b, hj, hb, rfl⟩
    · omega
    · obtain rfl : i = j := by omega
      rw [ha] at hb
      injection hb with hb
      rw [hb]
end Go.Proofs.YtbnfhklpobephaaGreatDoor
/- Package mask: Body. -/
namespace Go.Proofs.YtbnfhklpobephaaGreatDoor
open Go Go.RowKit
set_option maxRecDepth 100000
set_option maxHeartbeats 4000000

/-- A verb's body. -/
def mkBody (v : Int) (m : List UInt8) : List UInt8 := [b8 v, 2] ++ (if v = 253 then mkCut m else [])

theorem mbody_bad {w : World} {es : List Addr} (hes : ErrsOf w [2, 3, 8] es) {v : Int} (hv : ¬ (251 ≤ v ∧ v ≤ 254)) (m : List UInt8) :
    Calls Tryz.prog 242 #[.int .i64 v, mkV m] w fun e w' => ∃ a, es[8]? = some a ∧ e = .returned (.tuple #[.slice none 0 0, errV a]) ∧ Only (fun _ => False) w w' := by
  obtain ⟨a, ha, hc⟩ := hes.get 8 8 (by decide) rfl
  unfold errV at hc
  have HA := Lib.hid ha
  have HV := Lib.hid (fun W => verb_any W v)
  rw [decide_eq_false hv] at HV
  have HO : Hid (Only (fun _ => False) w (w.alloc (.cells (m.map B8).toArray 120))) := (Only.refl _ w).alloc _
  have hc1 := HO.out.cellv hc (fun h => h)
  unfold mkV
  obtain ⟨cs, hcs⟩ : ∃ cs, cs = m.map B8 := ⟨_, rfl⟩
  rw [← hcs] at hc1 HO ⊢
  clear ha hes hc hcs hv
  go_enter Tryz.func242, Tryz.ntmps242
  go_wp2_with (first | (go_at_call 158; (with_reducible refine (HV.out _).mono ?_); rintro e w1 ⟨rfl, e1⟩; subst w1) | fail)
  go_quiet (fail)
  go_wp2
  go_ret2
  exact ⟨a, HA.out, rfl, HO.out.drewN _⟩

theorem mbody_ok {w : World} {v : Int} (hv : 251 ≤ v ∧ v ≤ 254) {m : List UInt8} (hl : m.length = 32) :
    Calls Tryz.prog 242 #[.int .i64 v, mkV m] w fun e w' => ∃ A n c, e = .returned (.tuple #[.slice A n c, .nilIface]) ∧ n ≤ c ∧ n ≤ 34 ∧ Hid (Src w' A n (mkBody v m)) ∧ Hid (Only (fun _ => False) w w') := by
  have HV := Lib.hid (fun W => verb_any W v)
  rw [decide_eq_true hv] at HV
  have HR := Lib.hid (fun W => mrow_any W hl)
  have hw8 : IntKind.u8.wrap v = v := IntWalk.u8_in _ (by omega)
  have HO : Hid (Only (fun _ => False) w (w.alloc (.cells (m.map B8).toArray 120))) := (Only.refl _ w).alloc _
  have HB : Hid (Blk (w.alloc (.cells (m.map B8).toArray 120)) w.heap.size 120 (m.map B8)) := Blk.new _ _ _
  have HP : Hid (∀ (W : World) (N : Nat), W.heap.size = N → Body (W.alloc (.cells #[.int .u8 v, .int .u8 2] 5)) N (.slice (some ⟨N, 0, none⟩) 2 2) [b8 v, 2]) := fun W N hN => by
    subst hN
    refine own_of_blk (cur := [.int .u8 v, .int .u8 2]) (Blk.new W 5 [.int .u8 v, .int .u8 2]) rfl ?_ (by simp) (by simp) (Nat.le_refl _)
    simp only [List.map_cons, List.map_nil, B8]
    rw [b8_int (by omega) (by omega)]
    rfl
  have HM : Hid (v ≠ 253 → mkBody v m = [b8 v, 2]) := fun h => by rw [mkBody, if_neg h, List.append_nil]
  have HM2 : Hid (v = 253 → mkBody v m = [b8 v, 2] ++ mkCut m) := fun h => by rw [mkBody, if_pos h]
  have HL := Lib.hid (mkCut_le m)
  rw [hl] at HL
  unfold mkV at *
  obtain ⟨cs, hcs⟩ : ∃ cs, cs = m.map B8 := ⟨_, rfl⟩
  have hcl : cs.length = 32 := by rw [hcs, List.length_map, hl]
  have HSz := Lib.hid size_mask
  rw [← hcl] at HSz
  rw [← hcs] at HR HO HB ⊢
  clear hcs hl hv
  by_cases h3 : v = 253
  · have HM := Lib.hid (HM2.out h3)
    have e1 : (v == 253) = true := by simp [h3]
    clear HM2
    have HRg := Lib.hid (range_of (HB.out.alloc (.cells #[.int .u8 v, .int .u8 2] 5)))
    have HPx := Lib.hid (HP.out (w.alloc (.cells cs.toArray 120)) (w.heap.size + 1) (by simp))
    clear h3
    go_enter Tryz.func242, Tryz.ntmps242
    go_wp2_with (first
      | (go_at_call 158; (with_reducible refine (HV.out _).mono ?_); rintro e w1 ⟨rfl, e1⟩; subst w1)
      | (refine wpList_load_mid rfl 120 _ rfl w.heap.size 0 rfl cs _ HRg.out Tryz.underlying120 rfl HSz.out ?_)
      | (go_at_call 59; (with_reducible refine (HR.out _).mono ?_); rintro e w2 ⟨A2, c2, rfl, hs2, ho2⟩)
      | (at_builtin; refine step_bytesG rfl (.tmp 16) (.tmp 18) rfl (w.heap.size + 1) _ 2 2 [b8 v, 2] rfl (HPx.out.same ho2.out) rfl A2 _ c2 (mkCut m) rfl hs2.out (by have := HL.out; omega) (by have := ho2.out.size; simp at this; omega) ?_; intro A3 c3 w3 hb3 hg3)
      | fail)
    go_ret2
    refine ⟨_, _, _, rfl, (by obtain ⟨_, _, e, h1, _⟩ := hb3.out.form; injection e with _ e2 e3; omega), by have := HL.out; omega, ?_, ?_⟩
    · rw [HM.out]
      exact hb3.out.src (by simp; omega)
    · exact ((HO.out.alloc _).trans ho2.out (fun _ h => h.elim)).grown hg3.out (fun q hq => .inr (by have := (own_lt (HPx.out.same ho2.out) q hq).1; omega))
  · have HM := Lib.hid (HM.out h3)
    have e1 : (v == 253) = false := by simp [h3]
    clear HM2
    have HPx := Lib.hid (HP.out (w.alloc (.cells cs.toArray 120)) (w.heap.size + 1) (by simp))
    clear h3
    go_enter Tryz.func242, Tryz.ntmps242
    go_wp2_with (first
      | (go_at_call 158; (with_reducible refine (HV.out _).mono ?_); rintro e w1 ⟨rfl, e1⟩; subst w1)
      | fail)
    go_ret2
    refine ⟨_, 2, _, rfl, by omega, by omega, ?_, HO.out.alloc _⟩
    rw [HM.out]
    exact HPx.out.src rfl
end Go.Proofs.YtbnfhklpobephaaGreatDoor
/- Package mask: Parse of any bytes. -/
namespace Go.Proofs.YtbnfhklpobephaaGreatDoor
open Go Go.RowKit
set_option maxRecDepth 100000
set_option maxHeartbeats 4000000

theorem ret_tct {P : Program} {fn : Func} {R : Ending → World → Prop} {a : Act} {w : World} {p1 p u : Tmp} {ty : TypeId} (h : fn.results = #[.tmp p1, .cell p ty, .tmp u]) (g : Nat) (hp : a.tmps.getD p undef = .pointer (some ⟨g, 0, none⟩))
    (t : TypeId) (cs : List Value) (d : TypeDesc) (hb : Blk w g t cs) (hu : P.underlying ty = some d) (hd : d.isRow = true) (hi : (P.info? ty).map (·.size) = some cs.length) (hdf : a.defers = [])
    (hR : R (.returned (.tuple #[a.tmps.getD p1 undef, .agg cs.toArray, a.tmps.getD u undef])) w) : bodyPost P fn R .ret a w := by
  refine bodyPost_ret (v := .tuple #[a.tmps.getD p1 undef, .agg cs.toArray, a.tmps.getD u undef]) ?_ hdf hR
  have hres : (results fn a.tmps).run P w = ((asAddr (a.tmps.getD p undef)).run P w).andThen fun x w₁ => ((loadVar ty x).run P w₁).andThen fun v w₂ => .ok (.tuple #[a.tmps.getD p1 undef, v, a.tmps.getD u undef]) w₂ := by
    simp only [results, h]
    simp [Sem.run_bind, Result.andThen]
  rw [hres, hp]
  have := run_loadVar_mid (P := P) w g 0 ty cs d (fun j v hv => by rw [Nat.zero_add, hb.cell]; exact hv) hu hd hi
  simp [asAddr, Result.andThen, this]

/-- The mask of no byte. -/
@[reducible] def mkZ : List UInt8 := List.replicate 32 0
/-- A mask's cells as a letter: what the walk asks of them. -/
structure MkCells (cs : List Value) : Prop where
  len : cs.length = 32
  one : ∀ v ∈ cs, v.oneCell' = true
theorem MkCells.of {m : List UInt8} (hl : m.length = 32) : MkCells (m.map B8) := ⟨by rw [List.length_map, hl], mkV_one m⟩
theorem MkCells.size {cs : List Value} (h : MkCells cs) : (Tryz.prog.info? 120).map (·.size) = some cs.length := by rw [h.len]; exact size_mask
theorem built_mask : Tryz.prog.built 120 [] = some (mkZ.map B8).toArray := by kernel_rfl

theorem step_build0 {P : Program} {ops : Array Oper} {rest : List Oper} {o : Oper} {a : Act} {w : World} {Q : Exit → Act → World → Prop} (hgd : o.guard = none) (t : TypeId) (ho : o.op = .build t #[]) (cells : List Value) (hc : P.built t [] = some cells.toArray)
    (h : wpList P ops Q rest (a.put o.dst (.agg cells.toArray)) w) : wpList P ops Q (o :: rest) a w := step_build hgd t #[] ho cells (by simpa using hc) h

theorem mparse_short {w : World} {es : List Addr} (hes : ErrsOf w [2, 3, 8] es) (A : Option Addr) (n cap : Nat) (h : n < 2) :
    Calls Tryz.prog 240 #[.slice A n cap] w fun e w' => ∃ a, es[2]? = some a ∧ e = .returned (.tuple #[.int .i64 0, mkV mkZ, errV a]) ∧ Only (fun _ => False) w w' := by
  obtain ⟨a, ha, hc⟩ := hes.get 2 2 (by decide) rfl
  unfold errV at hc
  have HA := Lib.hid ha
  have hd : decide ((n : Int) < 2) = true := by simp; omega
  have HZ := Lib.hid zero_mask
  have HC := Lib.hid (MkCells.of (m := mkZ) (by simp))
  have HBt := Lib.hid built_mask
  unfold mkV
  obtain ⟨zs, hzs⟩ : ∃ zs : List Value, zs = mkZ.map B8 := ⟨_, rfl⟩
  unfold mkZ at *
  rw [← hzs] at HZ HC HBt ⊢
  have HO : Hid (Only (fun _ => False) w (w.alloc (.cells zs.toArray 120))) := (Only.refl _ w).alloc _
  have hc1 := HO.out.cellv hc (fun h => h)
  have HB : Hid (Blk (w.alloc (.cells zs.toArray 120)) w.heap.size 120 zs) := Blk.new _ _ _
  clear ha hes hc hzs h
  go_enter Tryz.func240, Tryz.ntmps240
  go_wp2_with (first
    | ((with_reducible show wpList _ _ _ (⟨some 3, .alloc _, _, _, _, _⟩ :: _) _ _); refine step_alloc rfl 120 rfl zs 32 HZ.out ?_)
    | ((with_reducible show wpList _ _ _ (⟨some 9, .build _ _, _, _, _, _⟩ :: _) _ _); refine step_build0 rfl 120 rfl zs HBt.out ?_)
    | ((with_reducible show wpList _ _ _ (⟨none, .store _ _ _, _, _, _, _⟩ :: _) _ _); refine step_store rfl 120 _ _ rfl w.heap.size rfl zs rfl 120 zs HB.out HC.out.size rfl HC.out.one ?_; intro w2 hb2 hz2 ho2)
    | fail)
  refine ret_tct rfl w.heap.size rfl 120 zs _ hb2.out Tryz.underlying120 rfl HC.out.size rfl ?_
  exact ⟨a, HA.out, rfl, HO.out.trans ho2 (fun i hi => .inr (by omega))⟩

/-- How many bytes a verb's row has at most. -/
def mostOf (v : Int) : Int := if v = 253 then 32 else 0
theorem most_any (W : World) (v : Int) : Calls Tryz.prog 247 #[.int .i64 v] W fun e w' => e = .returned (.int .i64 (mostOf v)) ∧ w' = W := by
  unfold mostOf
  by_cases h : v = 253
  · rw [if_pos h]
    have e1 : (v == 253) = true := by simp [h]
    clear h
    go_enter Tryz.func247, Tryz.ntmps247
    go_wp2
    go_ret
    exact ⟨rfl, rfl⟩
  · rw [if_neg h]
    have e1 : (v == 253) = false := by simp [h]
    clear h
    go_enter Tryz.func247, Tryz.ntmps247
    go_wp2
    go_ret
    exact ⟨rfl, rfl⟩

theorem mparse_kind {w : World} {es : List Addr} (hes : ErrsOf w [2, 3, 8] es) {A : Option Addr} {n : Nat} (cap : Nat) {xs : List UInt8} {x y : UInt8} {r : List UInt8} (hs : Src w A n xs) (hx : xs = x :: y :: r) (hb : ¬ ((251 ≤ x.toNat ∧ x.toNat ≤ 254) ∧ y.toNat = 2)) :
    Calls Tryz.prog 240 #[.slice A n cap] w fun e w' => ∃ a, es[8]? = some a ∧ e = .returned (.tuple #[.int .i64 0, mkV mkZ, errV a]) ∧ Only (fun _ => False) w w' := by
  obtain ⟨a, ha, hc⟩ := hes.get 8 8 (by decide) rfl
  unfold errV at hc
  have HA := Lib.hid ha
  have hn : 2 ≤ n := by have := hs.1; rw [hx] at this; simp at this; omega
  obtain ⟨ad, rfl, hcell⟩ := hs.2 (by omega)
  have c0 := hcell 0 x (by rw [hx]; rfl)
  have c1 := hcell 1 y (by rw [hx]; rfl)
  rw [show ad.add 0 = ad from by simp [Addr.add]] at c0
  rw [show ad.add 1 = ⟨ad.block, ad.off + 1, none⟩ from by simp [Addr.add]] at c1
  have hd : decide ((n : Int) < 2) = false := by simp; omega
  have hd2 : (1 : Int) < (n : Int) := by omega
  have HZ := Lib.hid zero_mask
  have HC := Lib.hid (MkCells.of (m := mkZ) (by simp))
  have HBt := Lib.hid built_mask
  obtain ⟨D, hD⟩ : ∃ D, (if cap = 2 then some ad else some ⟨ad.block, ad.off + 2, none⟩) = D := ⟨_, rfl⟩
  unfold mkV
  obtain ⟨zs, hzs⟩ : ∃ zs : List Value, zs = mkZ.map B8 := ⟨_, rfl⟩
  unfold mkZ at *
  rw [← hzs] at HZ HC HBt ⊢
  have HO : Hid (Only (fun _ => False) w (w.alloc (.cells zs.toArray 120))) := (Only.refl _ w).alloc _
  have hc1 := HO.out.cellv hc (fun h => h)
  have c01 := HO.out.cellv c0 (fun h => h)
  have c11 := HO.out.cellv c1 (fun h => h)
  have HB : Hid (Blk (w.alloc (.cells zs.toArray 120)) w.heap.size 120 zs) := Blk.new _ _ _
  have HV := Lib.hid (fun W => verb_any W (x.toNat : Int))
  unfold B8 at *
  have hy := y.toNat_lt
  have hxl := x.toNat_lt
  clear ha hes hc hzs hs hx c0 c1 hcell
  generalize x.toNat = xn at *
  generalize y.toNat = yn at *
  by_cases hv : (251 : Int) ≤ xn ∧ (xn : Int) ≤ 254
  · rw [decide_eq_true hv] at HV
    have e1 : ((yn : Int) != 2) = true := by simp; omega
    have e2 : ((yn : Int) == 2) = false := by simp; omega
    clear hb hv
    go_enter Tryz.func240, Tryz.ntmps240
    go_wp2_with (first
      | ((with_reducible show wpList _ _ _ (⟨some 3, .alloc _, _, _, _, _⟩ :: _) _ _); refine step_alloc rfl 120 rfl zs 32 HZ.out ?_)
      | (go_at_call 158; (with_reducible refine (HV.out _).mono ?_); rintro e w1 ⟨rfl, e1⟩; subst w1)
      | ((with_reducible show wpList _ _ _ (⟨some 27, .build _ _, _, _, _, _⟩ :: _) _ _); refine step_build0 rfl 120 rfl zs HBt.out ?_)
      | ((with_reducible show wpList _ _ _ (⟨none, .store _ _ _, _, _, _, _⟩ :: _) _ _); refine step_store rfl 120 _ _ rfl w.heap.size rfl zs rfl 120 zs HB.out HC.out.size rfl HC.out.one ?_; intro w2 hb2 hz2 ho2)
      | fail)
    refine ret_tct rfl w.heap.size rfl 120 zs _ hb2.out Tryz.underlying120 rfl HC.out.size rfl ?_
    exact ⟨a, HA.out, rfl, HO.out.trans ho2 (fun i hi => .inr (by omega))⟩
  · rw [decide_eq_false hv] at HV
    clear hb hv
    go_enter Tryz.func240, Tryz.ntmps240
    go_wp2_with (first
      | ((with_reducible show wpList _ _ _ (⟨some 3, .alloc _, _, _, _, _⟩ :: _) _ _); refine step_alloc rfl 120 rfl zs 32 HZ.out ?_)
      | (go_at_call 158; (with_reducible refine (HV.out _).mono ?_); rintro e w1 ⟨rfl, e1⟩; subst w1)
      | ((with_reducible show wpList _ _ _ (⟨some 27, .build _ _, _, _, _, _⟩ :: _) _ _); refine step_build0 rfl 120 rfl zs HBt.out ?_)
      | ((with_reducible show wpList _ _ _ (⟨none, .store _ _ _, _, _, _, _⟩ :: _) _ _); refine step_store rfl 120 _ _ rfl w.heap.size rfl zs rfl 120 zs HB.out HC.out.size rfl HC.out.one ?_; intro w2 hb2 hz2 ho2)
      | fail)
    refine ret_tct rfl w.heap.size rfl 120 zs _ hb2.out Tryz.underlying120 rfl HC.out.size rfl ?_
    exact ⟨a, HA.out, rfl, HO.out.trans ho2 (fun i hi => .inr (by omega))⟩

theorem mparse_long {w : World} {es : List Addr} (hes : ErrsOf w [2, 3, 8] es) {A : Option Addr} {n : Nat} (cap : Nat) {xs : List UInt8} {x y : UInt8} {r : List UInt8} (hs : Src w A n xs) (hx : xs = x :: y :: r) (hv : 251 ≤ x.toNat ∧ x.toNat ≤ 254) (hy : y.toNat = 2)
    (hlong : mostOf (x.toNat : Int) < (n : Int) - 2) :
    Calls Tryz.prog 240 #[.slice A n cap] w fun e w' => ∃ a, es[3]? = some a ∧ e = .returned (.tuple #[.int .i64 0, mkV mkZ, errV a]) ∧ Only (fun _ => False) w w' := by
  obtain ⟨a, ha, hc⟩ := hes.get 3 3 (by decide) rfl
  unfold errV at hc
  have HA := Lib.hid ha
  have hn : 2 ≤ n := by have := hs.1; rw [hx] at this; simp at this; omega
  obtain ⟨ad, rfl, hcell⟩ := hs.2 (by omega)
  have c0 := hcell 0 x (by rw [hx]; rfl)
  have c1 := hcell 1 y (by rw [hx]; rfl)
  rw [show ad.add 0 = ad from by simp [Addr.add]] at c0
  rw [show ad.add 1 = ⟨ad.block, ad.off + 1, none⟩ from by simp [Addr.add]] at c1
  have hd : decide ((n : Int) < 2) = false := by simp; omega
  have hd2 : (1 : Int) < (n : Int) := by omega
  have HZ := Lib.hid zero_mask
  have HC := Lib.hid (MkCells.of (m := mkZ) (by simp))
  have HBt := Lib.hid built_mask
  obtain ⟨D, hD⟩ : ∃ D, (if cap = 2 then some ad else some ⟨ad.block, ad.off + 2, none⟩) = D := ⟨_, rfl⟩
  unfold mkV
  obtain ⟨zs, hzs⟩ : ∃ zs : List Value, zs = mkZ.map B8 := ⟨_, rfl⟩
  unfold mkZ at *
  rw [← hzs] at HZ HC HBt ⊢
  have HO : Hid (Only (fun _ => False) w (w.alloc (.cells zs.toArray 120))) := (Only.refl _ w).alloc _
  have hc1 := HO.out.cellv hc (fun h => h)
  have c01 := HO.out.cellv c0 (fun h => h)
  have c11 := HO.out.cellv c1 (fun h => h)
  have HB : Hid (Blk (w.alloc (.cells zs.toArray 120)) w.heap.size 120 zs) := Blk.new _ _ _
  have HV := Lib.hid (fun W => verb_any W (x.toNat : Int))
  rw [decide_eq_true (by omega : (251 : Int) ≤ (x.toNat : Int) ∧ (x.toNat : Int) ≤ 254)] at HV
  have HM := Lib.hid (fun W => most_any W (x.toNat : Int))
  unfold B8 at *
  rw [hy] at c11
  have hm0 : 0 ≤ mostOf (x.toNat : Int) := by unfold mostOf; split <;> omega
  clear ha hes hc hzs hs hx c0 c1 hcell hy
  have hxl := x.toNat_lt
  generalize mostOf (x.toNat : Int) = mo at *
  generalize x.toNat = xn at *
  obtain ⟨k, rfl⟩ : ∃ k, n = k + 2 := ⟨n - 2, by omega⟩
  have hk : decide (mo < (k : Int)) = true := by simp; omega
  clear hlong hv
  go_enter Tryz.func240, Tryz.ntmps240
  go_wp2_with (first
    | ((with_reducible show wpList _ _ _ (⟨some 3, .alloc _, _, _, _, _⟩ :: _) _ _); refine step_alloc rfl 120 rfl zs 32 HZ.out ?_)
    | (go_at_call 158; (with_reducible refine (HV.out _).mono ?_); rintro e w1 ⟨rfl, e1⟩; subst w1)
    | (go_at_call 247; (with_reducible refine (HM.out _).mono ?_); rintro e w1 ⟨rfl, e1⟩; subst w1)
    | ((with_reducible show wpList _ _ _ (⟨some 35, .build _ _, _, _, _, _⟩ :: _) _ _); refine step_build0 rfl 120 rfl zs HBt.out ?_)
    | ((with_reducible show wpList _ _ _ (⟨none, .store _ _ _, _, _, _, _⟩ :: _) _ _); refine step_store rfl 120 _ _ rfl w.heap.size rfl zs rfl 120 zs HB.out HC.out.size rfl HC.out.one ?_; intro w2 hb2 hz2 ho2)
    | fail)
  refine ret_tct rfl w.heap.size rfl 120 zs _ hb2.out Tryz.underlying120 rfl HC.out.size rfl ?_
  exact ⟨a, HA.out, rfl, HO.out.trans ho2 (fun i hi => .inr (by omega))⟩
end Go.Proofs.YtbnfhklpobephaaGreatDoor
