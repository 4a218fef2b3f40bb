
/- Package mask: Parse of any bytes. -/
import Derived.Test.YtlmkpembccehkaaGreatDoorJMk
namespace Go.Proofs.YtlmkpembccehkaaGreatDoor
open Go Go.RowKit
set_option maxRecDepth 100000
set_option maxHeartbeats 4000000

theorem ret_tct {P : Program} {fn : Func} {R : Ending → World → Prop} {a : Act} {w : World} {p1 p u : Tmp} {ty : TypeId} (h : fn.results = #[.tmp p1, .cell p ty, .tmp u]) (g : Nat) (hp : a.tmps.getD p undef = .pointer (some ⟨g, 0, none⟩))
    (t : TypeId) (cs : List Value) (d : TypeDesc) (hb : Blk w g t cs) (hu : P.underlying ty = some d) (hd : d.isRow = true) (hi : (P.info? ty).map (·.size) = some cs.length) (hdf : a.defers = [])
    (hR : R (.returned (.tuple #[a.tmps.getD p1 undef, .agg cs.toArray, a.tmps.getD u undef])) w) : bodyPost P fn R .ret a w := by
  refine bodyPost_ret (v := .tuple #[a.tmps.getD p1 undef, .agg cs.toArray, a.tmps.getD u undef]) ?_ hdf hR
  have hres : (results fn a.tmps).run P w = ((asAddr (a.tmps.getD p undef)).run P w).andThen fun x w₁ => ((loadVar ty x).run P w₁).andThen fun v w₂ => .ok (.tuple #[a.tmps.getD p1 undef, v, a.tmps.getD u undef]) w₂ := by
    simp only [results, h]
    simp [Sem.run_bind, Result.andThen]
  rw [hres, hp]
  have := run_loadVar_mid (P := P) w g 0 ty cs d (fun j v hv => by rw [Nat.zero_add, hb.cell]; exact hv) hu hd hi
  simp [asAddr, Result.andThen, this]

/-- The mask of no byte. -/
@[reducible] def mkZ : List UInt8 := List.replicate 32 0
/-- A mask's cells as a letter: what the walk asks of them. -/
structure MkCells (cs : List Value) : Prop where
  len : cs.length = 32
  one : ∀ v ∈ cs, v.oneCell' = true
theorem MkCells.of {m : List UInt8} (hl : m.length = 32) : MkCells (m.map B8) := ⟨by rw [List.length_map, hl], mkV_one m⟩
theorem MkCells.size {cs : List Value} (h : MkCells cs) : (Tryz.prog.info? 86).map (·.size) = some cs.length := by rw [h.len]; exact size_mask
theorem built_mask : Tryz.prog.built 86 [] = some (mkZ.map B8).toArray := by kernel_rfl

theorem step_build0 {P : Program} {ops : Array Oper} {rest : List Oper} {o : Oper} {a : Act} {w : World} {Q : Exit → Act → World → Prop} (hgd : o.guard = none) (t : TypeId) (ho : o.op = .build t #[]) (cells : List Value) (hc : P.built t [] = some cells.toArray)
    (h : wpList P ops Q rest (a.put o.dst (.agg cells.toArray)) w) : wpList P ops Q (o :: rest) a w := step_build hgd t #[] ho cells (by simpa using hc) h

theorem mparse_short {w : World} {es : List Addr} (hes : ErrsOf w [2, 3, 8] es) (A : Option Addr) (n cap : Nat) (h : n < 2) :
    Calls Tryz.prog 96 #[.slice A n cap] w fun e w' => ∃ a, es[2]? = some a ∧ e = .returned (.tuple #[.int .i64 0, mkV mkZ, errV a]) ∧ Only (fun _ => False) w w' := by
  obtain ⟨a, ha, hc⟩ := hes.get 2 9 (by decide) rfl
  unfold errV at hc
  have HA := Lib.hid ha
  have hd : decide ((n : Int) < 2) = true := by simp; omega
  have HZ := Lib.hid zero_mask
  have HC := Lib.hid (MkCells.of (m := mkZ) (by simp))
  have HBt := Lib.hid built_mask
  unfold mkV
  obtain ⟨zs, hzs⟩ : ∃ zs : List Value, zs = mkZ.map B8 := ⟨_, rfl⟩
  unfold mkZ at *
  rw [← hzs] at HZ HC HBt ⊢
  have HO : Hid (Only (fun _ => False) w (w.alloc (.cells zs.toArray 86))) := (Only.refl _ w).alloc _
  have hc1 := HO.out.cellv hc (fun h => h)
  have HB : Hid (Blk (w.alloc (.cells zs.toArray 86)) w.heap.size 86 zs) := Blk.new _ _ _
  clear ha hes hc hzs h
  go_enter Tryz.func96, Tryz.ntmps96
  go_wp2_with (first
    | ((with_reducible show wpList _ _ _ (⟨some 3, .alloc _, _, _, _, _⟩ :: _) _ _); refine step_alloc rfl 86 rfl zs 32 HZ.out ?_)
    | ((with_reducible show wpList _ _ _ (⟨some 9, .build _ _, _, _, _, _⟩ :: _) _ _); refine step_build0 rfl 86 rfl zs HBt.out ?_)
    | ((with_reducible show wpList _ _ _ (⟨none, .store _ _ _, _, _, _, _⟩ :: _) _ _); refine step_store rfl 86 _ _ rfl w.heap.size rfl zs rfl 86 zs HB.out HC.out.size rfl HC.out.one ?_; intro w2 hb2 hz2 ho2)
    | fail)
  refine ret_tct rfl w.heap.size rfl 86 zs _ hb2.out Tryz.underlying86 rfl HC.out.size rfl ?_
  exact ⟨a, HA.out, rfl, HO.out.trans ho2 (fun i hi => .inr (by omega))⟩

/-- How many bytes a verb's row has at most. -/
def mostOf (v : Int) : Int := if v = 253 then 32 else 0
theorem most_any (W : World) (v : Int) : Calls Tryz.prog 106 #[.int .i64 v] W fun e w' => e = .returned (.int .i64 (mostOf v)) ∧ w' = W := by
  unfold mostOf
  by_cases h : v = 253
  · rw [if_pos h]
    have e1 : (v == 253) = true := by simp [h]
    clear h
    go_enter Tryz.func106, Tryz.ntmps106
    go_wp2
    go_ret
    exact ⟨rfl, rfl⟩
  · rw [if_neg h]
    have e1 : (v == 253) = false := by simp [h]
    clear h
    go_enter Tryz.func106, Tryz.ntmps106
    go_wp2
    go_ret
    exact ⟨rfl, rfl⟩

theorem mparse_kind {w : World} {es : List Addr} (hes : ErrsOf w [2, 3, 8] es) {A : Option Addr} {n : Nat} (cap : Nat) {xs : List UInt8} {x y : UInt8} {r : List UInt8} (hs : Src w A n xs) (hx : xs = x :: y :: r) (hb : ¬ ((251 ≤ x.toNat ∧ x.toNat ≤ 254) ∧ y.toNat = 2)) :
    Calls Tryz.prog 96 #[.slice A n cap] w fun e w' => ∃ a, es[8]? = some a ∧ e = .returned (.tuple #[.int .i64 0, mkV mkZ, errV a]) ∧ Only (fun _ => False) w w' := by
  obtain ⟨a, ha, hc⟩ := hes.get 8 0 (by decide) rfl
  unfold errV at hc
  have HA := Lib.hid ha
  have hn : 2 ≤ n := by have := hs.1; rw [hx] at this; simp at this; omega
  obtain ⟨ad, rfl, hcell⟩ := hs.2 (by omega)
  have c0 := hcell 0 x (by rw [hx]; rfl)
  have c1 := hcell 1 y (by rw [hx]; rfl)
  rw [show ad.add 0 = ad from by simp [Addr.add]] at c0
  rw [show ad.add 1 = ⟨ad.block, ad.off + 1, none⟩ from by simp [Addr.add]] at c1
  have hd : decide ((n : Int) < 2) = false := by simp; omega
  have hd2 : (1 : Int) < (n : Int) := by omega
  have HZ := Lib.hid zero_mask
  have HC := Lib.hid (MkCells.of (m := mkZ) (by simp))
  have HBt := Lib.hid built_mask
  obtain ⟨D, hD⟩ : ∃ D, (if cap = 2 then some ad else some ⟨ad.block, ad.off + 2, none⟩) = D := ⟨_, rfl⟩
  unfold mkV
  obtain ⟨zs, hzs⟩ : ∃ zs : List Value, zs = mkZ.map B8 := ⟨_, rfl⟩
  unfold mkZ at *
  rw [← hzs] at HZ HC HBt ⊢
  have HO : Hid (Only (fun _ => False) w (w.alloc (.cells zs.toArray 86))) := (Only.refl _ w).alloc _
  have hc1 := HO.out.cellv hc (fun h => h)
  have c01 := HO.out.cellv c0 (fun h => h)
  have c11 := HO.out.cellv c1 (fun h => h)
  have HB : Hid (Blk (w.alloc (.cells zs.toArray 86)) w.heap.size 86 zs) := Blk.new _ _ _
  have HV := Lib.hid (fun W => verb_any W (x.toNat : Int))
  unfold B8 at *
  have hy := y.toNat_lt
  have hxl := x.toNat_lt
  clear ha hes hc hzs hs hx c0 c1 hcell
  generalize x.toNat = xn at *
  generalize y.toNat = yn at *
  by_cases hv : (251 : Int) ≤ xn ∧ (xn : Int) ≤ 254
  · rw [decide_eq_true hv] at HV
    have e1 : ((yn : Int) != 2) = true := by simp; omega
    have e2 : ((yn : Int) == 2) = false := by simp; omega
    clear hb hv
    go_enter Tryz.func96, Tryz.ntmps96
    go_wp2_with (first
      | ((with_reducible show wpList _ _ _ (⟨some 3, .alloc _, _, _, _, _⟩ :: _) _ _); refine step_alloc rfl 86 rfl zs 32 HZ.out ?_)
      | (go_at_call 25; (with_reducible refine (HV.out _).mono ?_); rintro e w1 ⟨rfl, e1⟩; subst w1)
      | ((with_reducible show wpList _ _ _ (⟨some 27, .build _ _, _, _, _, _⟩ :: _) _ _); refine step_build0 rfl 86 rfl zs HBt.out ?_)
      | ((with_reducible show wpList _ _ _ (⟨none, .store _ _ _, _, _, _, _⟩ :: _) _ _); refine step_store rfl 86 _ _ rfl w.heap.size rfl zs rfl 86 zs HB.out HC.out.size rfl HC.out.one ?_; intro w2 hb2 hz2 ho2)
      | fail)
    refine ret_tct rfl w.heap.size rfl 86 zs _ hb2.out Tryz.underlying86 rfl HC.out.size rfl ?_
    exact ⟨a, HA.out, rfl, HO.out.trans ho2 (fun i hi => .inr (by omega))⟩
  · rw [decide_eq_false hv] at HV
    clear hb hv
    go_enter Tryz.func96, Tryz.ntmps96
    go_wp2_with (first
      | ((with_reducible show wpList _ _ _ (⟨some 3, .alloc _, _, _, _, _⟩ :: _) _ _); refine step_alloc rfl 86 rfl zs 32 HZ.out ?_)
      | (go_at_call 25; (with_reducible refine (HV.out _).mono ?_); rintro e w1 ⟨rfl, e1⟩; subst w1)
      | ((with_reducible show wpList _ _ _ (⟨some 27, .build _ _, _, _, _, _⟩ :: _) _ _); refine step_build0 rfl 86 rfl zs HBt.out ?_)
      | ((with_reducible show wpList _ _ _ (⟨none, .store _ _ _, _, _, _, _⟩ :: _) _ _); refine step_store rfl 86 _ _ rfl w.heap.size rfl zs rfl 86 zs HB.out HC.out.size rfl HC.out.one ?_; intro w2 hb2 hz2 ho2)
      | fail)
    refine ret_tct rfl w.heap.size rfl 86 zs _ hb2.out Tryz.underlying86 rfl HC.out.size rfl ?_
    exact ⟨a, HA.out, rfl, HO.out.trans ho2 (fun i hi => .inr (by omega))⟩

theorem mparse_long {w : World} {es : List Addr} (hes : ErrsOf w [2, 3, 8] es) {A : Option Addr} {n : Nat} (cap : Nat) {xs : List UInt8} {x y : UInt8} {r : List UInt8} (hs : Src w A n xs) (hx : xs = x :: y :: r) (hv : 251 ≤ x.toNat ∧ x.toNat ≤ 254) (hy : y.toNat = 2)
    (hlong : mostOf (x.toNat : Int) < (n : Int) - 2) :
    Calls Tryz.prog 96 #[.slice A n cap] w fun e w' => ∃ a, es[3]? = some a ∧ e = .returned (.tuple #[.int .i64 0, mkV mkZ, errV a]) ∧ Only (fun _ => False) w w' := by
  obtain ⟨a, ha, hc⟩ := hes.get 3 3 (by decide) rfl
  unfold errV at hc
  have HA := Lib.hid ha
  have hn : 2 ≤ n := by have := hs.1; rw [hx] at this; simp at this; omega
  obtain ⟨ad, rfl, hcell⟩ := hs.2 (by omega)
  have c0 := hcell 0 x (by rw [hx]; rfl)
  have c1 := hcell 1 y (by rw [hx]; rfl)
  rw [show ad.add 0 = ad from by simp [Addr.add]] at c0
  rw [show ad.add 1 = ⟨ad.block, ad.off + 1, none⟩ from by simp [Addr.add]] at c1
  have hd : decide ((n : Int) < 2) = false := by simp; omega
  have hd2 : (1 : Int) < (n : Int) := by omega
  have HZ := Lib.hid zero_mask
  have HC := Lib.hid (MkCells.of (m := mkZ) (by simp))
  have HBt := Lib.hid built_mask
  obtain ⟨D, hD⟩ : ∃ D, (if cap = 2 then some ad else some ⟨ad.block, ad.off + 2, none⟩) = D := ⟨_, rfl⟩
  unfold mkV
  obtain ⟨zs, hzs⟩ : ∃ zs : List Value, zs = mkZ.map B8 := ⟨_, rfl⟩
  unfold mkZ at *
  rw [← hzs] at HZ HC HBt ⊢
  have HO : Hid (Only (fun _ => False) w (w.alloc (.cells zs.toArray 86))) := (Only.refl _ w).alloc _
  have hc1 := HO.out.cellv hc (fun h => h)
  have c01 := HO.out.cellv c0 (fun h => h)
  have c11 := HO.out.cellv c1 (fun h => h)
  have HB : Hid (Blk (w.alloc (.cells zs.toArray 86)) w.heap.size 86 zs) := Blk.new _ _ _
  have HV := Lib.hid (fun W => verb_any W (x.toNat : Int))
  rw [decide_eq_true (by omega : (251 : Int) ≤ (x.toNat : Int) ∧ (x.toNat : Int) ≤ 254)] at HV
  have HM := Lib.hid (fun W => most_any W (x.toNat : Int))
  unfold B8 at *
  rw [hy] at c11
  have hm0 : 0 ≤ mostOf (x.toNat : Int) := by unfold mostOf; split <;> omega
  clear ha hes hc hzs hs hx c0 c1 hcell hy
  have hxl := x.toNat_lt
  generalize mostOf (x.toNat : Int) = mo at *
  generalize x.toNat = xn at *
  obtain ⟨k, rfl⟩ : ∃ k, n = k + 2 := ⟨n - 2, by omega⟩
  have hk : decide (mo < (k : Int)) = true := by simp; omega
  clear hlong hv
  go_enter Tryz.func96, Tryz.ntmps96
  go_wp2_with (first
    | ((with_reducible show wpList _ _ _ (⟨some 3, .alloc _, _, _, _, _⟩ :: _) _ _); refine step_alloc rfl 86 rfl zs 32 HZ.out ?_)
    | (go_at_call 25; (with_reducible refine (HV.out _).mono ?_); rintro e w1 ⟨rfl, e1⟩; subst w1)
    | (go_at_call 106; (with_reducible refine (HM.out _).mono ?_); rintro e w1 ⟨rfl, e1⟩; subst w1)
    | ((with_reducible show wpList _ _ _ (⟨some 35, .build _ _, _, _, _, _⟩ :: _) _ _); refine step_build0 rfl 86 rfl zs HBt.out ?_)
    | ((with_reducible show wpList _ _ _ (⟨none, .store _ _ _, _, _, _, _⟩ :: _) _ _); refine step_store rfl 86 _ _ rfl w.heap.size rfl zs rfl 86 zs HB.out HC.out.size rfl HC.out.one ?_; intro w2 hb2 hz2 ho2)
    | fail)
  refine ret_tct rfl w.heap.size rfl 86 zs _ hb2.out Tryz.underlying86 rfl HC.out.size rfl ?_
  exact ⟨a, HA.out, rfl, HO.out.trans ho2 (fun i hi => .inr (by omega))⟩
end Go.Proofs.YtlmkpembccehkaaGreatDoor
