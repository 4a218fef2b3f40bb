/- Package mask: Of. -/
import Derived.Test.YtedaldkfflogkaaMk
import Derived.StillTailTactics
namespace Go.Proofs.Ytedaldkfflogkaa
open Go Go.RowKit
set_option maxRecDepth 100000
set_option maxHeartbeats 4000000

theorem mkOf_snoc (xs : List UInt8) (x : UInt8) : mkOf (xs ++ [x]) = mkAdd (mkOf xs) x := by simp [mkOf]
theorem mkAdd_cells (m : List UInt8) (x : UInt8) : (mkAdd m x).map B8 = (m.map B8).set (x.toNat / 8) (.int .u8 (bits .or .u8 (mkAt m (x.toNat / 8) : Int) ((2 ^ (7 - x.toNat % 8) : Nat) : Int))) := by
  rw [or_bit _ _ (mkAt_lt _ _) (by omega), mkAdd, List.map_set]
  congr 1
  unfold B8
  rw [UInt8.toNat_ofNat', Nat.mod_eq_of_lt (or_lt (mkAt_lt _ _) (by omega))]
theorem zero_mask : (Try.prog.info? 24).map (fun i => (i.zero, i.size)) = some (some (.agg ((List.replicate 32 0).map B8).toArray), 32) := by kernel_rfl

/-- Where Of stands. -/
structure OfAt (w : World) (xs : List UInt8) (W : World) (k : Nat) : Prop where
  res : Blk W w.heap.size 24 ((List.replicate 32 0).map B8)
  blk : Blk W (w.heap.size + 1) 24 ((mkOf (xs.take k)).map B8)
  only : Only (fun _ => False) w W

theorem mof_any {w : World} {A : Option Addr} {n c : Nat} {xs : List UInt8} (hs : Src w A n xs) (hn : n ≤ 1000) :
    Calls Try.prog 5 #[.slice A n c] w fun e w' => e = .returned (mkV (mkOf xs)) ∧ Only (fun _ => False) w w' := by
  have HS := Lib.hid hs
  clear hs
  have H0 : Hid (OfAt w xs ((w.alloc (.cells ((List.replicate 32 0).map B8).toArray 24)).alloc (.cells ((List.replicate 32 0).map B8).toArray 24)) 0) :=
    ⟨(Blk.new _ _ _).alloc _, Blk.new' _ _ ((mkOf (xs.take 0)).map B8) (by simp), ((Only.refl _ w).alloc _).alloc _⟩
  have HZ := Lib.hid zero_mask
  unfold mkV
  obtain ⟨zs, hzs⟩ : ∃ zs : List Value, zs = (List.replicate 32 0).map B8 := ⟨_, rfl⟩
  rw [← hzs] at H0 HZ
  have HZS := Lib.hid hzs
  clear hzs
  go_enter Try.func5, Try.ntmps5
  go_wp2_with (first | (with_reducible show wpList _ _ _ (⟨some 2, .alloc _, _, _, _, _⟩ :: _) _ _; refine step_alloc rfl 24 rfl zs 32 HZ.out ?_) | (with_reducible show wpList _ _ _ (⟨some 3, .alloc _, _, _, _, _⟩ :: _) _ _; refine step_alloc rfl 24 rfl zs 32 HZ.out ?_) | fail)
  go_loopw [8] (fun i W => ∃ k : Nat, k ≤ n ∧ i = .int .i64 (k : Int) ∧ Hid (OfAt w xs W k)) (fun i _ => n - (intOf i).toNat)
  case atStart => exact ⟨0, Nat.zero_le _, rfl, H0.out⟩
  case round =>
    clear H0
    obtain ⟨k, hk, rfl, HD⟩ := hrel
    by_cases hlt : k < n
    · obtain ⟨x, hx⟩ : ∃ x, xs[k]? = some x := ⟨_, List.getElem?_eq_getElem (by rw [HS.out.1]; exact hlt)⟩
      obtain ⟨ad, rfl, hcell⟩ := (HS.out.only HD.out.only (fun _ _ _ h => h)).2 (by omega)
      have c0 := hcell k x hx
      have HX : Hid (xs.take (k + 1) = xs.take k ++ [x]) := take_snoc hx
      have hml := mkOf_len (xs.take k)
      have hac := mkAdd_cells (mkOf (xs.take k)) x
      have hxlt := x.toNat_lt
      obtain ⟨m, hm⟩ : ∃ m, m = mkOf (xs.take k) := ⟨_, rfl⟩
      rw [← hm] at hml hac
      have HM := Lib.hid hm
      have hB := HD.out.blk
      rw [← hm] at hB
      have hB1 := Lib.hid hB
      clear hm hcell hx
      obtain ⟨i, hi⟩ : ∃ i, i = x.toNat / 8 := ⟨_, rfl⟩
      rw [← hi] at hac
      have hi32 : i < 32 := by omega
      have hq : ((x.toNat : Nat) : Int) / 8 = (i : Int) := by omega
      have hwi : IntKind.u8.wrap (i : Int) = (i : Int) := IntWalk.u8_in _ (by omega)
      have hix := fun W => at_mask W (w.heap.size + 1) i .u8 hi32
      have c1 : wr.cell? ⟨w.heap.size + 1, i, none⟩ = some (.int .u8 (mkAt m i : Int)) := by
        rw [hB1.out.cell, List.getElem?_map]
        unfold mkAt
        rw [List.getElem?_eq_getElem (by omega)]
        rfl
      have c2 : wr.frozen? ⟨w.heap.size + 1, i, none⟩ = false := hB1.out.frozen i
      have HC := Lib.hid (still_of (bit_any wr.drew x))
      have HB := Lib.hid hac
      have hyl := mkAt_lt m i
      clear hac hi hB
      unfold B8 at c0 HC
      generalize 2 ^ (7 - x.toNat % 8) = y at *
      generalize mkAt m i = z0 at *
      generalize x.toNat = z at *
      go_wp2
      refine region_tail 8 (by kernel_rfl) (by kernel_rfl) ?_
      simp only [List.take_succ_cons, List.take_zero, List.drop_succ_cons, List.drop_zero]
      repeat (first | still_step | still_call HC.out)
      refine wpStill_nil ?_
      have hcd := c2
      go_wp2
      go_roundw
      case rel =>
        refine ⟨k + 1, by omega, by go_num, ?_, ?_, (HD.out.only.drew).setCell (p := ⟨w.heap.size + 1, i, none⟩) (.inr (by simp)) _⟩
        · exact (HD.out.res.drew).far (by simp) _
        · have h := hB1.out.drew.setCell i (.int .u8 (bits .or .u8 (z0 : Int) (y : Int)))
          rw [HX.out, mkOf_snoc, ← HM.out, HB.out]
          exact h
      case measure => simp [intOf]; omega
    · obtain rfl : k = n := by omega
      have hB1 := HD.out.blk
      rw [List.take_of_length_le (by rw [HS.out.1]; exact Nat.le_refl _)] at hB1
      have hR := HD.out.res
      obtain ⟨cs, hcs⟩ : ∃ cs, cs = (mkOf xs).map B8 := ⟨_, rfl⟩
      have hcl : cs.length = 32 := by rw [hcs, List.length_map, mkOf_len]
      have HC1 : ∀ v ∈ cs, v.oneCell' = true := by rw [hcs]; exact mkV_one _
      rw [← hcs] at hB1
      have HCS := Lib.hid hcs
      rw [← HZS.out] at hR
      have hzl : zs.length = 32 := by rw [HZS.out]; simp
      have HSz := Lib.hid size_mask
      rw [← hcl] at HSz
      have HR := Lib.hid (range_of hB1)
      have HRes := Lib.hid hR
      have HO := Lib.hid HD.out.only
      have HC1 := Lib.hid HC1
      clear HD hB1 hR hcs
      go_wp2_with (first
        | (refine wpList_load_mid rfl 24 _ rfl (w.heap.size + 1) 0 rfl cs _ HR.out Try.underlying24 rfl HSz.out ?_)
        | (refine step_store rfl 24 _ _ rfl w.heap.size rfl cs rfl 24 zs HRes.out HSz.out (by omega) HC1.out ?_; intro w2 hb2 hz2 ho2)
        | fail)
      refine ret_cell1 rfl w.heap.size rfl 24 cs _ hb2.out Try.underlying24 rfl HSz.out rfl ?_
      exact ⟨by rw [HCS.out], HO.out.trans ho2 (fun i hi => .inr (by omega))⟩
end Go.Proofs.Ytedaldkfflogkaa
