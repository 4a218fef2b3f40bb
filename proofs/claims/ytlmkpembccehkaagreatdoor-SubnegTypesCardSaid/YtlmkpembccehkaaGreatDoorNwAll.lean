/- Several texts in one. -/
import Derived.Test.YtlmkpembccehkaaGreatDoorRefuse
import Derived.BigQuiet
import Derived.Test.YtlmkpembccehkaaGreatDoorErAll
import Derived.Test.YtlmkpembccehkaaGreatDoorText
import Derived.Laws.StructEq
import Derived.Deep.RegionHeld3
/- A window's sizes: the program's calls on numbers, and on sizes. -/
namespace Go.Proofs.YtlmkpembccehkaaGreatDoor
open Go Go.RowKit
set_option maxRecDepth 100000
set_option maxHeartbeats 4000000

/-- A size's value. -/
def szVal (c r : Int) : Value := .agg #[.int .i64 c, .int .i64 r]
/-- A number that two bytes can tell. -/
def fitsN (n : Int) : Bool := decide (0 ≤ n) && decide (n ≤ 65535)
theorem fitsN_iff {n : Int} : fitsN n = true ↔ 0 ≤ n ∧ n ≤ 65535 := by simp [fitsN]
/-- The lesser one. -/
def less (a b : Int) : Int := if a ≤ 0 then (if b ≤ 0 then 0 else b) else if b ≤ 0 then a else if a ≤ b then a else b

theorem fits_any (w : World) (n : Int) : Calls Tryz.prog 61 #[.int .i64 n] w fun e w' => e = .returned (.bool (fitsN n)) ∧ w = w' := by
  unfold fitsN
  obtain ⟨p, hp⟩ : ∃ p, p = decide (0 ≤ n) := ⟨_, rfl⟩
  obtain ⟨q, hq⟩ : ∃ q, q = decide (n ≤ 65535) := ⟨_, rfl⟩
  have h1 := hp.symm
  have h2 := hq.symm
  rw [← hp, ← hq]
  clear hp hq
  cases p <;> cases q
  all_goals
    go_enter Tryz.func61, Tryz.ntmps61
    go_wp2
    go_ret
    exact ⟨rfl, rfl⟩
theorem high_any (w : World) (n : Int) (h : fitsN n = true) : Calls Tryz.prog 41 #[.int .i64 n] w fun e w' => e = .returned (.int .u8 (n / 256)) ∧ w = w' := by
  obtain ⟨h0, h1⟩ := fitsN_iff.1 h
  clear h
  go_enter Tryz.func41, Tryz.ntmps41
  go_wp2
  go_ret
  exact ⟨rfl, rfl⟩
theorem low_any (w : World) (n : Int) (h : fitsN n = true) : Calls Tryz.prog 42 #[.int .i64 n] w fun e w' => e = .returned (.int .u8 (n % 256)) ∧ w = w' := by
  obtain ⟨h0, h1⟩ := fitsN_iff.1 h
  clear h
  go_enter Tryz.func42, Tryz.ntmps42
  go_wp2
  go_ret
  exact ⟨rfl, rfl⟩
theorem or_pair (x y : Nat) (hx : x < 256) (hy : y < 256) : bits .or .i64 ((x : Int) * 256) (y : Int) = 256 * (x : Int) + (y : Int) := by
  have e : bits .or .i64 ((x : Int) * 256) (y : Int) = IntKind.wrap .i64 ((BitVec.ofInt 64 ((x : Int) * 256) ||| BitVec.ofInt 64 (y : Int)).toNat : Int) := rfl
  have h1 : BitVec.ofInt 64 ((x : Int) * 256) = BitVec.ofNat 64 (x * 256) := by
    rw [show (x : Int) * 256 = ((x * 256 : Nat) : Int) from by omega]
    rfl
  have h2 : BitVec.ofInt 64 (y : Int) = BitVec.ofNat 64 y := rfl
  have h3 : x * 256 ||| y = x * 256 + y := by
    have := Nat.shiftLeft_add_eq_or_of_lt (i := 8) (b := y) (by omega) x
    rw [Nat.shiftLeft_eq] at this
    exact this.symm
  rw [e, h1, h2, BitVec.toNat_or, BitVec.toNat_ofNat, BitVec.toNat_ofNat, Nat.mod_eq_of_lt (by omega), Nat.mod_eq_of_lt (by omega), h3, IntWalk.i64_left, IntWalk.wrap64_in _ (by omega)]
  omega
/-- What two bytes tell. -/
def two (a b : UInt8) : Int := 256 * (a.toNat : Int) + (b.toNat : Int)
theorem number_any (w : World) (a b : UInt8) : Calls Tryz.prog 84 #[B8 a, B8 b] w fun e w' => e = .returned (.int .i64 (two a b)) ∧ w = w' := by
  have ha := a.toNat_lt
  have hb := b.toNat_lt
  have ho := or_pair a.toNat b.toNat ha hb
  unfold B8 two
  generalize a.toNat = x at *
  generalize b.toNat = y at *
  go_enter Tryz.func84, Tryz.ntmps84
  go_wp2
  go_ret
  exact ⟨rfl, rfl⟩
end Go.Proofs.YtlmkpembccehkaaGreatDoor
/- Package naws: one contract for each of its calls on sizes. -/
namespace Go.Proofs.YtlmkpembccehkaaGreatDoor
open Go Go.RowKit
set_option maxRecDepth 100000
set_option maxHeartbeats 4000000

theorem b8_of {z : Int} (h0 : 0 ≤ z) (h1 : z ≤ 255) : ((UInt8.ofNat z.toNat).toNat : Int) = z := by
  rw [UInt8.toNat_ofNat']
  omega
/-- A size's bytes. -/
def bodyOf (c r : Int) : List UInt8 := [UInt8.ofNat (c / 256).toNat, UInt8.ofNat (c % 256).toNat, UInt8.ofNat (r / 256).toNat, UInt8.ofNat (r % 256).toNat]
theorem bodyOf_cells {c r : Int} (hc : fitsN c = true) (hr : fitsN r = true) : (bodyOf c r).map B8 = [.int .u8 (c / 256), .int .u8 (c % 256), .int .u8 (r / 256), .int .u8 (r % 256)] := by
  rw [fitsN_iff] at hc hr
  simp only [bodyOf, List.map_cons, List.map_nil, B8]
  rw [b8_of (by omega) (by omega), b8_of (by omega) (by omega), b8_of (by omega) (by omega), b8_of (by omega) (by omega)]

theorem nright_any (w : World) (c r : Int) : Calls Tryz.prog 40 #[szVal c r] w fun e w' => e = .returned (.bool (fitsN c && fitsN r)) ∧ Only (fun _ => False) w w' := by
  unfold szVal
  have F := fun W n => fits_any W n
  have Fc := fun W => fits_any W c
  have Fr := fun W => fits_any W r
  generalize fitsN c = p at Fc ⊢
  generalize fitsN r = q at Fr ⊢
  clear F
  cases p
  all_goals
    go_enter Tryz.func40, Tryz.ntmps40
    go_wp2_with (first
      | (go_at_call 61; refine (Fc _).mono ?_; rintro e w' ⟨rfl, e2⟩; subst w')
      | (go_at_call 61; refine (Fr _).mono ?_; rintro e w' ⟨rfl, e2⟩; subst w'))
    go_ret
    exact ⟨rfl, (Only.refl _ _).alloc _⟩

theorem nbody_bad {w : World} {es : List Addr} (hes : ErrsOf w [0, 2, 3] es) (c r : Int) (h : (fitsN c && fitsN r) = false) :
    Calls Tryz.prog 20 #[szVal c r] w fun e w' => ∃ a, es[0]? = some a ∧ e = .returned (.tuple #[.slice none 0 0, errV a]) ∧ Only (fun _ => False) w w' := by
  obtain ⟨a, ha, hc⟩ := hes.get 0 1 (by decide) rfl
  unfold errV at hc
  have R := fun W => nright_any W c r
  rw [h] at R
  have HO : Hid (∀ W, Only (fun _ => False) w W → W.cell? ⟨1, 0, none⟩ = some (.iface 191 (.pointer (some a)))) := fun W ho => ho.cellv hc (fun h => h)
  have HR := Lib.hid R
  have HA := Lib.hid ha
  clear hc R h hes ha
  unfold szVal at *
  go_enter Tryz.func20, Tryz.ntmps20
  go_wp2_with (go_at_call 40; refine (HR.out _).mono ?_; rintro e w1 ⟨rfl, ho1⟩; have hc1 := HO.out w1 (((Only.refl _ w).alloc _).trans ho1 (fun _ h => h.elim)))
  go_quiet (fail)
  go_wp2
  go_ret2
  exact ⟨a, HA.out, rfl, (((Only.refl _ w).alloc _).trans ho1 (fun _ h => h.elim)).drewN _⟩

theorem size_sz : (Tryz.prog.info? 23).map (·.size) = some 2 := by kernel_rfl
theorem sz_one (c r : Int) : ∀ v ∈ [Value.int .i64 c, .int .i64 r], v.oneCell' = true := by
  intro v hv
  simp only [List.mem_cons, List.not_mem_nil, or_false] at hv
  rcases hv with rfl | rfl <;> rfl

/-- Too short, or too long. -/
theorem nparse_short {w : World} {es : List Addr} (hes : ErrsOf w [0, 2, 3] es) (A : Option Addr) (n c : Nat) (h : n < 4) :
    Calls Tryz.prog 65 #[.slice A n c] w fun e w' => ∃ a, es[2]? = some a ∧ e = .returned (.tuple #[szVal 0 0, errV a]) ∧ Only (fun _ => False) w w' := by
  obtain ⟨a, ha, hc⟩ := hes.get 2 9 (by decide) rfl
  unfold errV at hc
  have HA := Lib.hid ha
  have hd : decide ((n : Int) < 4) = true := by simp; omega
  have hlt := World.block_lt_of_cell? w _ hc
  have hB := Lib.hid (Blk.new w 23 [.int .i64 0, .int .i64 0])
  have hcc : (w.alloc (.cells [Value.int .i64 0, .int .i64 0].toArray 23)).cell? ⟨9, 0, none⟩ = some (.iface 191 (.pointer (some a))) := ((Only.refl (fun _ => False) w).alloc _).cellv hc (fun h => h)
  have HC := Lib.hid hcc
  have HL : Hid (9 ≠ w.heap.size) := Nat.ne_of_lt hlt
  clear ha hc hes h hcc hlt
  unfold szVal
  go_enter Tryz.func65, Tryz.ntmps65
  go_wp2_with fail
  refine wp_refuse 23 34 _ 9 2 8 9 w.heap.size _ [.int .i64 0, .int .i64 0] (by kernel_rfl) rfl rfl rfl rfl rfl rfl rfl rfl rfl rfl (by kernel_rfl) (by kernel_rfl) (by kernel_rfl) (by kernel_rfl) (by kernel_rfl) (by kernel_rfl) (by kernel_rfl) (by kernel_rfl) (by kernel_rfl) size_sz (sz_one 0 0) load_err rfl HC.out rfl rfl rfl hB.out rfl HL.out ?_
  intro W' hW hO
  go_wp2
  refine ret_cell2 rfl w.heap.size rfl _ [.int .i64 0, .int .i64 0] _ hW.out Tryz.underlying23 rfl size_sz rfl ?_
  exact ⟨a, HA.out, rfl, ((Only.refl _ w).alloc _).trans hO.out (fun i hi => .inr (by omega))⟩
theorem nparse_long {w : World} {es : List Addr} (hes : ErrsOf w [0, 2, 3] es) (A : Option Addr) (n c : Nat) (h : 4 < n) :
    Calls Tryz.prog 65 #[.slice A n c] w fun e w' => ∃ a, es[3]? = some a ∧ e = .returned (.tuple #[szVal 0 0, errV a]) ∧ Only (fun _ => False) w w' := by
  obtain ⟨a, ha, hc⟩ := hes.get 3 3 (by decide) rfl
  unfold errV at hc
  have HA := Lib.hid ha
  have hd : decide ((n : Int) < 4) = false := by simp; omega
  have hd2 : decide ((4 : Int) < (n : Int)) = true := by simp; omega
  have hlt := World.block_lt_of_cell? w _ hc
  have hB := Lib.hid (Blk.new w 23 [.int .i64 0, .int .i64 0])
  have hcc : (w.alloc (.cells [Value.int .i64 0, .int .i64 0].toArray 23)).cell? ⟨3, 0, none⟩ = some (.iface 191 (.pointer (some a))) := ((Only.refl (fun _ => False) w).alloc _).cellv hc (fun h => h)
  have HC := Lib.hid hcc
  have HL : Hid (3 ≠ w.heap.size) := Nat.ne_of_lt hlt
  clear ha hc hes h hcc hlt
  unfold szVal
  go_enter Tryz.func65, Tryz.ntmps65
  go_wp2_with fail
  refine wp_refuse 23 34 _ 3 2 14 15 w.heap.size _ [.int .i64 0, .int .i64 0] (by kernel_rfl) rfl rfl rfl rfl rfl rfl rfl rfl rfl rfl (by kernel_rfl) (by kernel_rfl) (by kernel_rfl) (by kernel_rfl) (by kernel_rfl) (by kernel_rfl) (by kernel_rfl) (by kernel_rfl) (by kernel_rfl) size_sz (sz_one 0 0) load_err rfl HC.out rfl rfl rfl hB.out rfl HL.out ?_
  intro W' hW hO
  go_wp2
  refine ret_cell2 rfl w.heap.size rfl _ [.int .i64 0, .int .i64 0] _ hW.out Tryz.underlying23 rfl size_sz rfl ?_
  exact ⟨a, HA.out, rfl, ((Only.refl _ w).alloc _).trans hO.out (fun i hi => .inr (by omega))⟩
end Go.Proofs.YtlmkpembccehkaaGreatDoor
/- Package naws: Parse of four bytes, and Fit. -/
namespace Go.Proofs.YtlmkpembccehkaaGreatDoor
open Go Go.RowKit
set_option maxRecDepth 100000
set_option maxHeartbeats 4000000

theorem nparse_ok {w : World} {A : Option Addr} {a b c d : UInt8} (h : Src w A 4 [a, b, c, d]) (cap : Nat) :
    Calls Tryz.prog 65 #[.slice A 4 cap] w fun e w' => e = .returned (.tuple #[szVal (two a b) (two c d), .nilIface]) ∧ Only (fun _ => False) w w' := by
  obtain ⟨_, hx⟩ := h
  obtain ⟨ad, rfl, hs⟩ := hx (by omega)
  have c0 := hs 0 a rfl
  have c1 := hs 1 b rfl
  have c2 := hs 2 c rfl
  have c3 := hs 3 d rfl
  have add_k : ∀ k, 0 < k → ad.add k = ⟨ad.block, ad.off + k, none⟩ := fun k hk => by simp [Addr.add]; omega
  rw [show ad.add 0 = ad from by simp [Addr.add]] at c0
  rw [add_k 1 (by omega)] at c1
  rw [add_k 2 (by omega)] at c2
  rw [add_k 3 (by omega)] at c3
  have hlt := World.block_lt_of_cell? w _ c0
  have HN1 := Lib.hid (fun W => number_any W a b)
  have HN2 := Lib.hid (fun W => number_any W c d)
  have hne : ad.block ≠ w.heap.size := by omega
  clear hs hx add_k
  unfold szVal
  unfold B8 at *
  generalize two a b = x at *
  generalize two c d = y at *
  have b1 : (1 : Int) < (4 : Int) := by omega
  go_enter Tryz.func65, Tryz.ntmps65
  go_wp2_with fail
  go_region_held3 (fun W => W.cell? ad = some (.int .u8 (a.toNat : Int)) ∧ W.cell? ⟨ad.block, ad.off + 1, none⟩ = some (.int .u8 (b.toNat : Int)) ∧ W.cell? ⟨ad.block, ad.off + 2, none⟩ = some (.int .u8 (c.toNat : Int)) ∧ W.cell? ⟨ad.block, ad.off + 3, none⟩ = some (.int .u8 (d.toNat : Int)))
    (go_keep)
    (first
      | (go_at_call 84; (with_reducible refine (HN1.out _).mono ?_); rintro e w' ⟨rfl, e2⟩; subst w')
      | (go_at_call 84; (with_reducible refine (HN2.out _).mono ?_); rintro e w' ⟨rfl, e2⟩; subst w'))
  all_goals
    go_wp2
    refine ret_cell2 rfl w.heap.size rfl 23 [.int .i64 x, .int .i64 y] _ (Blk.new' _ _ _ rfl).drew Tryz.underlying23 rfl size_sz rfl ?_
    exact ⟨rfl, ((Only.refl _ _).alloc _).drew⟩

end Go.Proofs.YtlmkpembccehkaaGreatDoor
/- Package naws: the body of a size. -/
namespace Go.Proofs.YtlmkpembccehkaaGreatDoor
open Go Go.RowKit
set_option maxRecDepth 100000
set_option maxHeartbeats 4000000

theorem nbody_ok (w : World) (c r : Int) (hc : fitsN c = true) (hr : fitsN r = true) :
    Calls Tryz.prog 20 #[szVal c r] w fun e w' => ∃ N, e = .returned (.tuple #[.slice (some ⟨N, 0, none⟩) 4 4, .nilIface]) ∧ Hid (Src w' (some ⟨N, 0, none⟩) 4 (bodyOf c r)) ∧ Hid (Only (fun _ => False) w w') := by
  have HR := Lib.hid (fun W => nright_any W c r)
  rw [hc, hr] at HR
  have HB := Lib.hid (bodyOf_cells hc hr)
  have HHc : Hid (∀ W, _) := Lib.hid (fun W => high_any W c hc)
  have HHr : Hid (∀ W, _) := Lib.hid (fun W => high_any W r hr)
  have HLc : Hid (∀ W, _) := Lib.hid (fun W => low_any W c hc)
  have HLr : Hid (∀ W, _) := Lib.hid (fun W => low_any W r hr)
  clear hc hr
  unfold szVal at *
  go_enter Tryz.func20, Tryz.ntmps20
  go_wp2_with (go_at_call 40; refine (HR.out _).mono ?_; rintro e w1 ⟨rfl, ho1⟩; have HO1 := Lib.hid ho1; clear ho1)
  have HBk : Hid (Blk w1 w.heap.size 23 [.int .i64 c, .int .i64 r]) := (Blk.new w 23 [.int .i64 c, .int .i64 r]).only HO1.out (fun h => h)
  generalize w.heap.size = N at *
  go_region_held3 (fun W => W.cell? ⟨N, 0, none⟩ = some (.int .i64 c) ∧ W.cell? ⟨N, 1, none⟩ = some (.int .i64 r))
    (first | exact ⟨HBk.out.cell 0, HBk.out.cell 1⟩ | exact ⟨(HBk.out.alloc _).cell 0, (HBk.out.alloc _).cell 1⟩)
    (first
      | (go_at_call 41; (with_reducible refine (HHc.out _).mono ?_); rintro e w' ⟨rfl, e2⟩; subst w')
      | (go_at_call 41; (with_reducible refine (HHr.out _).mono ?_); rintro e w' ⟨rfl, e2⟩; subst w')
      | (go_at_call 42; (with_reducible refine (HLc.out _).mono ?_); rintro e w' ⟨rfl, e2⟩; subst w')
      | (go_at_call 42; (with_reducible refine (HLr.out _).mono ?_); rintro e w' ⟨rfl, e2⟩; subst w'))
  go_wp2
  go_ret2
  exact ⟨_, rfl, src_new w1 (bodyOf c r) _ 5 _ 4 (by rw [HB.out]) rfl, ((((Only.refl _ w).alloc _).trans HO1.out (fun _ h => h.elim)).alloc _).drew⟩

end Go.Proofs.YtlmkpembccehkaaGreatDoor
/- The chapter's example; sizes and bodies that came in; NawsBack, walked. -/
namespace Go.Proofs.YtlmkpembccehkaaGreatDoor
open Go Go.ChangeShapes Go.WideShapes Go.ChangeAt Go.RowKit
set_option maxRecDepth 100000
set_option maxHeartbeats 4000000

theorem eq_sz (W : World) (a b c d : Int) : (Op.equalIn 10000 23 (.agg #[.int .i64 a, .int .i64 b]) (.agg #[.int .i64 c, .int .i64 d])).run Tryz.prog W = .ok (decide (a = c ∧ b = d)) W := by
  rw [show (10000 : Nat) = 9999 + 1 from rfl, run_equalIn_struct W 9999 _ _ _ (by kernel_rfl) (by kernel_rfl)]
  have u3 : Tryz.prog.underlying 3 = some (.int .i64) := Tryz.underlying3
  simp only [Program.fieldsOf, Tryz.underlying23, Op.eqFields]
  simp [go_sem, u3, Result.andThen]
  by_cases h1 : a = c <;> by_cases h2 : b = d <;> simp [h1, h2]
theorem same_sz (W : World) (a b : Int) : (Op.equalIn 10000 23 (.agg #[.int .i64 a, .int .i64 b]) (.agg #[.int .i64 a, .int .i64 b])).run Tryz.prog W = .ok true W := by
  rw [eq_sz]
  simp
theorem guard_sz : Tryz.prog.eqGuardType Tryz.prog.depth 23 = false := by kernel_rfl
theorem less_comm (a b : Int) : less a b = less b a := by
  unfold less
  repeat' split
  all_goals omega
theorem less_self {a : Int} (h : fitsN a = true) : less a a = a := by
  rw [fitsN_iff] at h
  unfold less
  repeat' split
  all_goals omega
theorem less_zero {a : Int} (h : fitsN a = true) : less a 0 = a := by
  rw [fitsN_iff] at h
  unfold less
  repeat' split
  all_goals omega
theorem two_of {n : Int} (h : fitsN n = true) : two (UInt8.ofNat (n / 256).toNat) (UInt8.ofNat (n % 256).toNat) = n := by
  rw [fitsN_iff] at h
  unfold two
  rw [b8_of (by omega) (by omega), b8_of (by omega) (by omega)]
  omega
theorem two_fits (a b : UInt8) : fitsN (two a b) = true := by
  have := a.toNat_lt
  have := b.toNat_lt
  rw [fitsN_iff]
  unfold two
  omega
theorem bodyOf_two (a b c d : UInt8) : bodyOf (two a b) (two c d) = [a, b, c, d] := by
  have ha := a.toNat_lt
  have hb := b.toNat_lt
  have hc := c.toNat_lt
  have hd := d.toNat_lt
  have k : ∀ x y : UInt8, UInt8.ofNat (two x y / 256).toNat = x ∧ UInt8.ofNat (two x y % 256).toNat = y := fun x y => by
    have hx := x.toNat_lt
    have hy := y.toNat_lt
    unfold two
    rw [show ((256 * (x.toNat : Int) + (y.toNat : Int)) / 256).toNat = x.toNat from by omega, show ((256 * (x.toNat : Int) + (y.toNat : Int)) % 256).toNat = y.toNat from by omega]
    exact ⟨UInt8.ofNat_toNat, UInt8.ofNat_toNat⟩
  unfold bodyOf
  rw [(k a b).1, (k a b).2, (k c d).1, (k c d).2]
end Go.Proofs.YtlmkpembccehkaaGreatDoor
