/- Several texts in one. -/
import Derived.Test.YtbnfhklpobephaaGreatDoorJRow1
import Derived.StillTailTactics
import Derived.Test.YtbnfhklpobephaaGreatDoorJSnList
import Derived.Test.YtbnfhklpobephaaGreatDoorJTbSay
import Derived.Test.YtbnfhklpobephaaGreatDoorJSnTypeL
import Derived.Test.YtbnfhklpobephaaGreatDoorJRowK
/- Package mask: Of. -/
namespace Go.Proofs.YtbnfhklpobephaaGreatDoor
open Go Go.RowKit
set_option maxRecDepth 100000
set_option maxHeartbeats 4000000

theorem zero_mask : (Tryz.prog.info? 120).map (fun i => (i.zero, i.size)) = some (some (.agg ((List.replicate 32 0).map B8).toArray), 32) := by kernel_rfl

/-- Where Of stands. -/
structure OfAt (w : World) (xs : List UInt8) (W : World) (k : Nat) : Prop where
  res : Blk W w.heap.size 120 ((List.replicate 32 0).map B8)
  blk : Blk W (w.heap.size + 1) 120 ((mkOf (xs.take k)).map B8)
  only : Only (fun _ => False) w W

end Go.Proofs.YtbnfhklpobephaaGreatDoor
/- Errors by their numbers: one alone. -/
namespace Go.Proofs.YtbnfhklpobephaaGreatDoor
open Go Go.RowKit

end Go.Proofs.YtbnfhklpobephaaGreatDoor
/- Package mask: Body. -/
namespace Go.Proofs.YtbnfhklpobephaaGreatDoor
open Go Go.RowKit
set_option maxRecDepth 100000
set_option maxHeartbeats 4000000

end Go.Proofs.YtbnfhklpobephaaGreatDoor
/- Package mask: Parse of any bytes. -/
namespace Go.Proofs.YtbnfhklpobephaaGreatDoor
open Go Go.RowKit
set_option maxRecDepth 100000
set_option maxHeartbeats 4000000

theorem ret_tct {P : Program} {fn : Func} {R : Ending → World → Prop} {a : Act} {w : World} {p1 p u : Tmp} {ty : TypeId} (h : fn.results = #[.tmp p1, .cell p ty, .tmp u]) (g : Nat) (hp : a.tmps.getD p undef = .pointer (some ⟨g, 0, none⟩))
    (t : TypeId) (cs : List Value) (d : TypeDesc) (hb : Blk w g t cs) (hu : P.underlying ty = some d) (hd : d.isRow = true) (hi : (P.info? ty).map (·.size) = some cs.length) (hdf : a.defers = [])
    (hR : R (.returned (.tuple #[a.tmps.getD p1 undef, .agg cs.toArray, a.tmps.getD u undef])) w) : bodyPost P fn R .ret a w := by
  refine bodyPost_ret (v := .tuple #[a.tmps.getD p1 undef, .agg cs.toArray, a.tmps.getD u undef]) ?_ hdf hR
  have hres : (results fn a.tmps).run P w = ((asAddr (a.tmps.getD p undef)).run P w).andThen fun x w₁ => ((loadVar ty x).run P w₁).andThen fun v w₂ => .ok (.tuple #[a.tmps.getD p1 undef, v, a.tmps.getD u undef]) w₂ := by
    simp only [results, h]
    simp [Sem.run_bind, Result.andThen]
  rw [hres, hp]
  have := run_loadVar_mid (P := P) w g 0 ty cs d (fun j v hv => by rw [Nat.zero_add, hb.cell]; exact hv) hu hd hi
  simp [asAddr, Result.andThen, this]

/-- The mask of no byte. -/
@[reducible] def mkZ : List UInt8 := List.replicate 32 0
/-- A mask's cells as a letter: what the walk asks of them. -/
structure MkCells (cs : List Value) : Prop where
  len : cs.length = 32
  one : ∀ v ∈ cs, v.oneCell' = true
theorem MkCells.of {m : List UInt8} (hl : m.length = 32) : MkCells (m.map B8) := ⟨by rw [List.length_map, hl], mkV_one m⟩
theorem MkCells.size {cs : List Value} (h : MkCells cs) : (Tryz.prog.info? 120).map (·.size) = some cs.length := by rw [h.len]; exact size_mask
theorem built_mask : Tryz.prog.built 120 [] = some (mkZ.map B8).toArray := by kernel_rfl

theorem step_build0 {P : Program} {ops : Array Oper} {rest : List Oper} {o : Oper} {a : Act} {w : World} {Q : Exit → Act → World → Prop} (hgd : o.guard = none) (t : TypeId) (ho : o.op = .build t #[]) (cells : List Value) (hc : P.built t [] = some cells.toArray)
    (h : wpList P ops Q rest (a.put o.dst (.agg cells.toArray)) w) : wpList P ops Q (o :: rest) a w := step_build hgd t #[] ho cells (by simpa using hc) h

theorem mparse_short {w : World} {es : List Addr} (hes : ErrsOf w [2, 3, 8] es) (A : Option Addr) (n cap : Nat) (h : n < 2) :
    Calls Tryz.prog 240 #[.slice A n cap] w fun e w' => ∃ a, es[2]? = some a ∧ e = .returned (.tuple #[.int .i64 0, mkV mkZ, errV a]) ∧ Only (fun _ => False) w w' := by
  obtain ⟨a, ha, hc⟩ := hes.get 2 2 (by decide) rfl
  unfold errV at hc
  have HA := Lib.hid ha
  have hd : decide ((n : Int) < 2) = true := by simp; omega
  have HZ := Lib.hid zero_mask
  have HC := Lib.hid (MkCells.of (m := mkZ) (by simp))
  have HBt := Lib.hid built_mask
  unfold mkV
  obtain ⟨zs, hzs⟩ : ∃ zs : List Value, zs = mkZ.map B8 := ⟨_, rfl⟩
  unfold mkZ at *
  rw [← hzs] at HZ HC HBt ⊢
  have HO : Hid (Only (fun _ => False) w (w.alloc (.cells zs.toArray 120))) := (Only.refl _ w).alloc _
  have hc1 := HO.out.cellv hc (fun h => h)
  have HB : Hid (Blk (w.alloc (.cells zs.toArray 120)) w.heap.size 120 zs) := Blk.new _ _ _
  clear ha hes hc hzs h
  go_enter Tryz.func240, Tryz.ntmps240
  go_wp2_with (first
    | ((with_reducible show wpList _ _ _ (⟨some 3, .alloc _, _, _, _, _⟩ :: _) _ _); refine step_alloc rfl 120 rfl zs 32 HZ.out ?_)
    | ((with_reducible show wpList _ _ _ (⟨some 9, .build _ _, _, _, _, _⟩ :: _) _ _); refine step_build0 rfl 120 rfl zs HBt.out ?_)
    | ((with_reducible show wpList _ _ _ (⟨none, .store _ _ _, _, _, _, _⟩ :: _) _ _); refine step_store rfl 120 _ _ rfl w.heap.size rfl zs rfl 120 zs HB.out HC.out.size rfl HC.out.one ?_; intro w2 hb2 hz2 ho2)
    | fail)
  refine ret_tct rfl w.heap.size rfl 120 zs _ hb2.out Tryz.underlying120 rfl HC.out.size rfl ?_
  exact ⟨a, HA.out, rfl, HO.out.trans ho2 (fun i hi => .inr (by omega))⟩

/-- How many bytes a verb's row has at most. -/
def mostOf (v : Int) : Int := if v = 253 then 32 else 0
theorem most_any (W : World) (v : Int) : Calls Tryz.prog 247 #[.int .i64 v] W fun e w' => e = .returned (.int .i64 (mostOf v)) ∧ w' = W := by
  unfold mostOf
  by_cases h : v = 253
  · rw [if_pos h]
    have e1 : (v == 253) = true := by simp [h]
    clear h
    go_enter Tryz.func247, Tryz.ntmps247
    go_wp2
    go_ret
    exact ⟨rfl, rfl⟩
  · rw [if_neg h]
    have e1 : (v == 253) = false := by simp [h]
    clear h
    go_enter Tryz.func247, Tryz.ntmps247
    go_wp2
    go_ret
    exact ⟨rfl, rfl⟩

theorem mparse_kind {w : World} {es : List Addr} (hes : ErrsOf w [2, 3, 8] es) {A : Option Addr} {n : Nat} (cap : Nat) {xs : List UInt8} {x y : UInt8} {r : List UInt8} (hs : Src w A n xs) (hx : xs = x :: y :: r) (hb : ¬ ((251 ≤ x.toNat ∧ x.toNat ≤ 254) ∧ y.toNat = 2)) :
    Calls Tryz.prog 240 #[.slice A n cap] w fun e w' => ∃ a, es[8]? = some a ∧ e = .returned (.tuple #[.int .i64 0, mkV mkZ, errV a]) ∧ Only (fun _ => False) w w' := by
  obtain ⟨a, ha, hc⟩ := hes.get 8 8 (by decide) rfl
  unfold errV at hc
  have HA := Lib.hid ha
  have hn : 2 ≤ n := by have := hs.1; rw [hx] at this; simp at this; omega
  obtain ⟨ad, rfl, hcell⟩ := hs.2 (by omega)
  have c0 := hcell 0 x (by rw [hx]; rfl)
  have c1 := hcell 1 y (by rw [hx]; rfl)
  rw [show ad.add 0 = ad from by simp [Addr.add]] at c0
  rw [show ad.add 1 = ⟨ad.block, ad.off + 1, none⟩ from by simp [Addr.add]] at c1
  have hd : decide ((n : Int) < 2) = false := by simp; omega
  have hd2 : (1 : Int) < (n : Int) := by omega
  have HZ := Lib.hid zero_mask
  have HC := Lib.hid (MkCells.of (m := mkZ) (by simp))
  have HBt := Lib.hid built_mask
  obtain ⟨D, hD⟩ : ∃ D, (if cap = 2 then some ad else some ⟨ad.block, ad.off + 2, none⟩) = D := ⟨_, rfl⟩
  unfold mkV
  obtain ⟨zs, hzs⟩ : ∃ zs : List Value, zs = mkZ.map B8 := ⟨_, rfl⟩
  unfold mkZ at *
  rw [← hzs] at HZ HC HBt ⊢
  have HO : Hid (Only (fun _ => False) w (w.alloc (.cells zs.toArray 120))) := (Only.refl _ w).alloc _
  have hc1 := HO.out.cellv hc (fun h => h)
  have c01 := HO.out.cellv c0 (fun h => h)
  have c11 := HO.out.cellv c1 (fun h => h)
  have HB : Hid (Blk (w.alloc (.cells zs.toArray 120)) w.heap.size 120 zs) := Blk.new _ _ _
  have HV := Lib.hid (fun W => verb_any W (x.toNat : Int))
  unfold B8 at *
  have hy := y.toNat_lt
  have hxl := x.toNat_lt
  clear ha hes hc hzs hs hx c0 c1 hcell
  generalize x.toNat = xn at *
  generalize y.toNat = yn at *
  by_cases hv : (251 : Int) ≤ xn ∧ (xn : Int) ≤ 254
  · rw [decide_eq_true hv] at HV
    have e1 : ((yn : Int) != 2) = true := by simp; omega
    have e2 : ((yn : Int) == 2) = false := by simp; omega
    clear hb hv
    go_enter Tryz.func240, Tryz.ntmps240
    go_wp2_with (first
      | ((with_reducible show wpList _ _ _ (⟨some 3, .alloc _, _, _, _, _⟩ :: _) _ _); refine step_alloc rfl 120 rfl zs 32 HZ.out ?_)
      | (go_at_call 158; (with_reducible refine (HV.out _).mono ?_); rintro e w1 ⟨rfl, e1⟩; subst w1)
      | ((with_reducible show wpList _ _ _ (⟨some 27, .build _ _, _, _, _, _⟩ :: _) _ _); refine step_build0 rfl 120 rfl zs HBt.out ?_)
      | ((with_reducible show wpList _ _ _ (⟨none, .store _ _ _, _, _, _, _⟩ :: _) _ _); refine step_store rfl 120 _ _ rfl w.heap.size rfl zs rfl 120 zs HB.out HC.out.size rfl HC.out.one ?_; intro w2 hb2 hz2 ho2)
      | fail)
    refine ret_tct rfl w.heap.size rfl 120 zs _ hb2.out Tryz.underlying120 rfl HC.out.size rfl ?_
    exact ⟨a, HA.out, rfl, HO.out.trans ho2 (fun i hi => .inr (by omega))⟩
  · rw [decide_eq_false hv] at HV
    clear hb hv
    go_enter Tryz.func240, Tryz.ntmps240
    go_wp2_with (first
      | ((with_reducible show wpList _ _ _ (⟨some 3, .alloc _, _, _, _, _⟩ :: _) _ _); refine step_alloc rfl 120 rfl zs 32 HZ.out ?_)
      | (go_at_call 158; (with_reducible refine (HV.out _).mono ?_); rintro e w1 ⟨rfl, e1⟩; subst w1)
      | ((with_reducible show wpList _ _ _ (⟨some 27, .build _ _, _, _, _, _⟩ :: _) _ _); refine step_build0 rfl 120 rfl zs HBt.out ?_)
      | ((with_reducible show wpList _ _ _ (⟨none, .store _ _ _, _, _, _, _⟩ :: _) _ _); refine step_store rfl 120 _ _ rfl w.heap.size rfl zs rfl 120 zs HB.out HC.out.size rfl HC.out.one ?_; intro w2 hb2 hz2 ho2)
      | fail)
    refine ret_tct rfl w.heap.size rfl 120 zs _ hb2.out Tryz.underlying120 rfl HC.out.size rfl ?_
    exact ⟨a, HA.out, rfl, HO.out.trans ho2 (fun i hi => .inr (by omega))⟩

theorem mparse_long {w : World} {es : List Addr} (hes : ErrsOf w [2, 3, 8] es) {A : Option Addr} {n : Nat} (cap : Nat) {xs : List UInt8} {x y : UInt8} {r : List UInt8} (hs : Src w A n xs) (hx : xs = x :: y :: r) (hv : 251 ≤ x.toNat ∧ x.toNat ≤ 254) (hy : y.toNat = 2)
    (hlong : mostOf (x.toNat : Int) < (n : Int) - 2) :
    Calls Tryz.prog 240 #[.slice A n cap] w fun e w' => ∃ a, es[3]? = some a ∧ e = .returned (.tuple #[.int .i64 0, mkV mkZ, errV a]) ∧ Only (fun _ => False) w w' := by
  obtain ⟨a, ha, hc⟩ := hes.get 3 3 (by decide) rfl
  unfold errV at hc
  have HA := Lib.hid ha
  have hn : 2 ≤ n := by have := hs.1; rw [hx] at this; simp at this; omega
  obtain ⟨ad, rfl, hcell⟩ := hs.2 (by omega)
  have c0 := hcell 0 x (by rw [hx]; rfl)
  have c1 := hcell 1 y (by rw [hx]; rfl)
  rw [show ad.add 0 = ad from by simp [Addr.add]] at c0
  rw [show ad.add 1 = ⟨ad.block, ad.off + 1, none⟩ from by simp [Addr.add]] at c1
  have hd : decide ((n : Int) < 2) = false := by simp; omega
  have hd2 : (1 : Int) < (n : Int) := by omega
  have HZ := Lib.hid zero_mask
  have HC := Lib.hid (MkCells.of (m := mkZ) (by simp))
  have HBt := Lib.hid built_mask
  obtain ⟨D, hD⟩ : ∃ D, (if cap = 2 then some ad else some ⟨ad.block, ad.off + 2, none⟩) = D := ⟨_, rfl⟩
  unfold mkV
  obtain ⟨zs, hzs⟩ : ∃ zs : List Value, zs = mkZ.map B8 := ⟨_, rfl⟩
  unfold mkZ at *
  rw [← hzs] at HZ HC HBt ⊢
  have HO : Hid (Only (fun _ => False) w (w.alloc (.cells zs.toArray 120))) := (Only.refl _ w).alloc _
  have hc1 := HO.out.cellv hc (fun h => h)
  have c01 := HO.out.cellv c0 (fun h => h)
  have c11 := HO.out.cellv c1 (fun h => h)
  have HB : Hid (Blk (w.alloc (.cells zs.toArray 120)) w.heap.size 120 zs) := Blk.new _ _ _
  have HV := Lib.hid (fun W => verb_any W (x.toNat : Int))
  rw [decide_eq_true (by omega : (251 : Int) ≤ (x.toNat : Int) ∧ (x.toNat : Int) ≤ 254)] at HV
  have HM := Lib.hid (fun W => most_any W (x.toNat : Int))
  unfold B8 at *
  rw [hy] at c11
  have hm0 : 0 ≤ mostOf (x.toNat : Int) := by unfold mostOf; split <;> omega
  clear ha hes hc hzs hs hx c0 c1 hcell hy
  have hxl := x.toNat_lt
  generalize mostOf (x.toNat : Int) = mo at *
  generalize x.toNat = xn at *
  obtain ⟨k, rfl⟩ : ∃ k, n = k + 2 := ⟨n - 2, by omega⟩
  have hk : decide (mo < (k : Int)) = true := by simp; omega
  clear hlong hv
  go_enter Tryz.func240, Tryz.ntmps240
  go_wp2_with (first
    | ((with_reducible show wpList _ _ _ (⟨some 3, .alloc _, _, _, _, _⟩ :: _) _ _); refine step_alloc rfl 120 rfl zs 32 HZ.out ?_)
    | (go_at_call 158; (with_reducible refine (HV.out _).mono ?_); rintro e w1 ⟨rfl, e1⟩; subst w1)
    | (go_at_call 247; (with_reducible refine (HM.out _).mono ?_); rintro e w1 ⟨rfl, e1⟩; subst w1)
    | ((with_reducible show wpList _ _ _ (⟨some 35, .build _ _, _, _, _, _⟩ :: _) _ _); refine step_build0 rfl 120 rfl zs HBt.out ?_)
    | ((with_reducible show wpList _ _ _ (⟨none, .store _ _ _, _, _, _, _⟩ :: _) _ _); refine step_store rfl 120 _ _ rfl w.heap.size rfl zs rfl 120 zs HB.out HC.out.size rfl HC.out.one ?_; intro w2 hb2 hz2 ho2)
    | fail)
  refine ret_tct rfl w.heap.size rfl 120 zs _ hb2.out Tryz.underlying120 rfl HC.out.size rfl ?_
  exact ⟨a, HA.out, rfl, HO.out.trans ho2 (fun i hi => .inr (by omega))⟩
end Go.Proofs.YtbnfhklpobephaaGreatDoor
/- Layer 18 as plain functions: what a hub holds, hears, tells. -/
namespace Go.Proofs.YtbnfhklpobephaaGreatDoor
open Go Go.RowKit
set_option maxRecDepth 100000

/-- A hub. -/
structure Hs where
  sz : List UInt8
  ts : List (List UInt8)
  k : Nat
  l : List Se
  can : Int
  pc : Int
  pr : Int
  li : Ls
  rep : List En
  S : Sd
  hm : Int
  hw : Bool
  tm : Int
  m : List UInt8
  ms : Bool
/-- What comes of what is heard: the error's number; what is told; the hub. -/
abbrev HsR := Nat × Option (List UInt8) × Hs
/-- All triples are heard. -/
def gatherS : Sd → List Tr → Sd × List Tr
  | S, [] => (S, [])
  | S, t :: L => (let r := hearS S t; let q := gatherS r.1 L; (q.1, (if r.2.2 then [r.2.1] else []) ++ q.2))
/-- What is told of triples. -/
def toldB (L : List Tr) : Option (List UInt8) := if L = [] then none else some (3 :: bodyB L)
/-- A mask's body: the error's number. -/
def mkNum : List UInt8 → Nat
  | x :: y :: r => if (251 ≤ x.toNat ∧ x.toNat ≤ 254) ∧ y.toNat = 2 then (if mostOf (x.toNat : Int) < (r.length : Int) then 4 else 0) else 9
  | _ => 3
def mkRow : List UInt8 → List UInt8
  | _ :: _ :: r => r ++ List.replicate (32 - r.length) 0
  | _ => mkZ
def Hs.hearSize (T : Tb) (H : Hs) (b : List UInt8) : HsR :=
  let z := onNum (nsNum b) (onAt T false 31)
  (z, none, if z = 0 then { H with pc := nsCol b, pr := nsRow b } else H)
def Hs.hearType (T : Tb) (H : Hs) (b : List UInt8) : HsR :=
  if tyNum T b ≠ 0 then (tyNum T b, none, H)
  else if (saysT b).2.1 = true then (0, some (0 :: ansT H.ts H.k), { H with k := H.k + 1 })
  else (0, if (H.li.take (saysT b).1).whole = true then none else some [1], { H with li := H.li.take (saysT b).1 })
def Hs.hearStat (T : Tb) (H : Hs) (b : List UInt8) : HsR :=
  let z := onNum (paNum b) (onAt T (paAsks b) 5)
  if z ≠ 0 then (z, none, H)
  else if paAsks b = true then (if suNum (tbRep T) = 0 then (0, some (suBody (tbRep T)), H) else (suNum (tbRep T), none, H))
  else (0, none, { H with rep := paList b })
def Hs.hearMode (T : Tb) (H : Hs) (b : List UInt8) : HsR :=
  if onAt T true 34 = true then
    (if takeNum b = 0 then (0, some (bodyM (both (saysM b).1 (canOf H.can) + 4)), { H with tm := both (saysM b).1 (canOf H.can) }) else (takeNum b, none, H))
  else if onAt T false 34 = true then
    (if hearNum b H.hw = 0 then (0, none, { H with hm := (saysM b).1, hw := false }) else (hearNum b H.hw, none, H))
  else (10, none, H)
def Hs.hearChars (T : Tb) (H : Hs) (r : List UInt8) : HsR :=
  if onAt T true 34 = false ∧ onAt T false 34 = false then (10, none, H)
  else if r.length % 3 ≠ 0 then (3, none, H)
  else if bodyN (gatherS H.S (parseB r)).2 ≠ 0 then (bodyN (gatherS H.S (parseB r)).2, none, H)
  else (0, toldB (gatherS H.S (parseB r)).2, { H with S := (gatherS H.S (parseB r)).1 })
/-- A body's first byte. -/
def vbOf (b : List UInt8) : Nat := ((b[0]?).getD 0).toNat
def Hs.hearMask (T : Tb) (H : Hs) (b : List UInt8) : HsR :=
  let z := onNum (mkNum b) (onAt T (decide (253 ≤ vbOf b)) 34)
  if z ≠ 0 then (z, none, H)
  else if vbOf b < 253 then (0, none, H)
  else (0, some [b8 ((vbOf b : Int) - 2), 2], { H with m := mkRow b, ms := decide (vbOf b = 253) })
def Hs.hearLines (T : Tb) (H : Hs) : List UInt8 → HsR
  | [] => (3, none, H)
  | x :: r => if x.toNat = 1 then H.hearMode T (x :: r) else if x.toNat = 3 then H.hearChars T r
    else if 251 ≤ x.toNat ∧ x.toNat ≤ 254 then H.hearMask T (x :: r) else (9, none, H)
def Hs.hear (T : Tb) (H : Hs) (kind opt : Int) (cut : Bool) (b : List UInt8) : HsR :=
  if kind ≠ 4 then (9, none, H) else if cut = true then (4, none, H)
  else if opt = 31 then H.hearSize T b else if opt = 24 then H.hearType T b else if opt = 5 then H.hearStat T b else if opt = 34 then H.hearLines T b else (6, none, H)
/-- Linemode's part is as at first. -/
def Hs.again (H : Hs) : Hs := { H with S := newS H.l, hm := 0, hw := false, tm := 0, m := mkZ, ms := false }
/-- All is asked for that is held. -/
def askAllS : Sd → List Se → Nat → Sd × List Tr
  | S, [], _ => (S, [])
  | S, x :: l, i => (let r := askS S ((i : Int) + 1) x; let q := askAllS r.1 l (i + 1); (q.1, (if askN S ((i : Int) + 1) x = 0 then [r.2] else []) ++ q.2))
/-- What is told when an option turns. -/
def Hs.turned (H : Hs) (side opt : Int) (on : Bool) : Option (List UInt8) × Hs :=
  if side = 0 ∧ opt = 31 then (if on then some H.sz else none, H)
  else if side = 0 ∧ opt = 24 then (none, { H with k := 0 })
  else if side = 0 ∧ opt = 34 then (if on then (toldB (askAllS H.again.S H.l 0).2, { H.again with S := (askAllS H.again.S H.l 0).1 }) else (none, H.again))
  else if side = 1 ∧ opt = 31 then (none, if on then H else { H with pc := 0, pr := 0 })
  else if side = 1 ∧ opt = 24 then (if on then (some [1], { H with li := Ls.none }) else (none, H))
  else if side = 1 ∧ opt = 34 then (none, H.again)
  else (none, H)
/-- A mask of lines is set. -/
def Hs.setN (T : Tb) (H : Hs) (n : Int) : Nat := if onAt T false 34 = true then setNum n H.hm H.hw else 10
def Hs.set (T : Tb) (H : Hs) (n : Int) : HsR := if H.setN T n = 0 then (0, some (bodyM n), { H with hm := n, hw := true }) else (H.setN T n, none, H)
/-- A new one. -/
def heldOf (l : List Se) : List Se := (List.range 18).map fun (i : Nat) => (hearS (newS l) ⟨(i : Int) + 1, ⟨3, 0⟩, false⟩).2.1.x
def Hs.new (cc cr : Int) (ts : List (List UInt8)) (l : List Se) (can : Int) : Hs := ⟨bodyOf cc cr, ts, 0, heldOf l, can, 0, 0, Ls.none, [], newS (heldOf l), 0, false, 0, mkZ, false⟩
end Go.Proofs.YtbnfhklpobephaaGreatDoor
