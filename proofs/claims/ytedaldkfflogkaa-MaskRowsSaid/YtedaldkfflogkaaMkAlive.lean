/- The chapter's example of layer 16, as its statements ask it first, comes out as told. -/
import Derived.Test.YtedaldkfflogkaaMkOf
namespace Go.Proofs.Ytedaldkfflogkaa
open Go Go.RowKit
set_option maxRecDepth 100000
set_option maxHeartbeats 4000000

theorem mkalive_any (w : World) : Calls Try.prog 4 #[] w fun e w' => e = .returned (.bool true) ∧ Only (fun _ => False) w w' := by
  have e1 : mkCut (mkOf [1]) = [64] := by decide +kernel
  have e2 : mkHas (mkOf [1]) 1 = true := by decide +kernel
  have e3 : mkHas (mkOf [1]) 2 = false := by decide +kernel
  have hl := mkOf_len [1]
  have HOf : Hid (∀ W0 : World, Calls Try.prog 5 #[.slice (some ⟨W0.heap.size, 0, none⟩) 1 1] (W0.alloc (.cells #[.int .u8 1] 5)) fun e w' => e = .returned (mkV (mkOf [1])) ∧ Only (fun _ => False) (W0.alloc (.cells #[.int .u8 1] 5)) w') := fun W0 =>
    mof_any (c := 1) (src_new W0 [1] _ _ (0, 0) 1 rfl rfl) (by omega)
  have HR := Lib.hid (fun W => mrow_any W hl)
  rw [e1] at HR
  have H1 := Lib.hid (fun W => mhas_any W hl 1)
  have H2 := Lib.hid (fun W => mhas_any W hl 2)
  rw [show (1 : UInt8).toNat = 1 from rfl, e2] at H1
  rw [show (2 : UInt8).toNat = 2 from rfl, e3] at H2
  have HZ := Lib.hid zero_mask
  have HCz := Lib.hid (show ((List.replicate 32 0).map B8).length = 32 by simp)
  unfold mkV at *
  obtain ⟨m, hm⟩ : ∃ m, m = mkOf [1] := ⟨_, rfl⟩
  rw [← hm] at HOf HR H1 H2 hl
  clear e1 e2 e3 hm
  have HC1 := Lib.hid (mkV_one m)
  obtain ⟨cs, hcs⟩ : ∃ cs, cs = m.map B8 := ⟨_, rfl⟩
  have hcl : cs.length = 32 := by rw [hcs, List.length_map, hl]
  rw [← hcs] at HOf HR H1 H2 HC1
  have HSz := Lib.hid size_mask
  rw [← hcl] at HSz
  obtain ⟨zs, hzs⟩ : ∃ zs : List Value, zs = (List.replicate 32 0).map B8 := ⟨_, rfl⟩
  rw [← hzs] at HZ HCz
  have HL := Lib.hid hcl
  clear hzs hcs hl hcl
  unfold B8 at H1 H2
  rw [show ((UInt8.toNat 1 : Nat) : Int) = 1 from rfl] at H1
  rw [show ((UInt8.toNat 2 : Nat) : Int) = 2 from rfl] at H2
  go_enter Try.func4, Try.ntmps4
  go_wp2_with (first
    | (go_at_call 5; (with_reducible refine (HOf.out _).mono ?_); rintro e w1 ⟨rfl, ho1⟩; have HO1 : Hid (Only (fun _ => False) w w1) := ((Only.refl _ w).alloc _).trans ho1 (fun _ h => h.elim); clear ho1; have HB1 : Hid (Blk (w1.alloc (.cells zs.toArray 24)) w1.heap.size 24 zs) := Blk.new _ _ _)
    | ((with_reducible show wpList _ _ _ (⟨some 1, .alloc _, _, _, _, _⟩ :: _) _ _); refine step_alloc rfl 24 rfl zs 32 HZ.out ?_)
    | ((with_reducible show wpList _ _ _ (⟨none, .store _ _ _, _, _, _, _⟩ :: _) _ _); refine step_store rfl 24 _ _ rfl w1.heap.size rfl cs rfl 24 zs HB1.out HSz.out (by rw [HL.out]; exact HCz.out) HC1.out ?_; intro w2 hb2 hz2 ho2; have HO2 : Hid (Only (fun _ => False) w w2) := ((HO1.out.alloc _).trans ho2 (fun i hi => .inr (by have := HO1.out.size; omega))); clear ho2 HB1; generalize w1.heap.size = N at *)
    | ((with_reducible show wpList _ _ _ (⟨some 4, .load _ _, _, _, _, _⟩ :: _) _ _); refine wpList_load_mid rfl 24 _ rfl N 0 rfl cs _ (range_of hb2.out) Try.underlying24 rfl HSz.out ?_)
    | (go_at_call 6; (with_reducible refine (HR.out _).mono ?_); rintro e w3 ⟨A3, c3, rfl, hs3, ho3⟩; have hcv3 := (show Src w3 A3 1 [64] from hs3.out).texts c3 w3 (Only.refl _ _); have hb3 := Lib.hid (hb2.out.only ho3.out (fun h => h)))
    | ((with_reducible show wpList _ _ _ (⟨some 9, .load _ _, _, _, _, _⟩ :: _) _ _); refine wpList_load_g rfl 24 _ rfl N rfl cs _ (range_of hb3.out) Try.underlying24 rfl HSz.out ?_)
    | ((with_reducible show Calls _ 9 _ w3 _); (with_reducible refine (H1.out _).mono ?_); rintro e w4 ⟨rfl, ho4⟩; have hb4 := Lib.hid (hb3.out.only ho4 (fun h => h)))
    | ((with_reducible show wpList _ _ _ (⟨some 13, .load _ _, _, _, _, _⟩ :: _) _ _); refine wpList_load_g rfl 24 _ rfl N rfl cs _ (range_of hb4.out) Try.underlying24 rfl HSz.out ?_)
    | ((with_reducible show Calls _ 9 _ w4 _); (with_reducible refine (H2.out _).mono ?_); rintro e w5 ⟨rfl, ho5⟩)
    | fail)
  go_ret
  exact ⟨rfl, ((HO2.out.trans ho3.out (fun _ h => h.elim)).trans ho4 (fun _ h => h.elim)).trans ho5 (fun _ h => h.elim)⟩
end Go.Proofs.Ytedaldkfflogkaa
