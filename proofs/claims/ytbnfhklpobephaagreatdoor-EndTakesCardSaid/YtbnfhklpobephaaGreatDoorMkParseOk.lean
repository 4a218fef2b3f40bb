
/- Package mask: Parse of a right body. -/
import Derived.Test.YtbnfhklpobephaaGreatDoorJMkOf
import Derived.Test.YtbnfhklpobephaaGreatDoorJEnTurn
namespace Go.Proofs.YtbnfhklpobephaaGreatDoor
open Go Go.RowKit
set_option maxRecDepth 100000
set_option maxHeartbeats 4000000

theorem splice_mask (r : List UInt8) (_ : r.length ≤ 32) : splice (mkZ.map B8) 0 (r.map B8) = (r ++ List.replicate (32 - r.length) 0).map B8 := by
  unfold splice mkZ
  rw [List.map_append, List.map_replicate, List.map_replicate, List.drop_replicate]
  simp
/-- A load of a whole row, in a region that draws its order. -/
theorem still_load {P : Program} {ops : Array Oper} {w : World} {Q : Act → Prop} {a : Act} {o : Oper} {rest : List Oper} (hgd : o.guard = none) (ty : TypeId) (x : Operand) (ho : o.op = .load ty x) (v : Value) (b : Nat) (hx : a.eval x = .pointer (some ⟨b, 0, none⟩))
    (hl : (Instr.loadAt ty (.pointer (some ⟨b, 0, none⟩))).run P w = .ok v w) (h : wpStill P ops w Q rest (a.put o.dst v)) : wpStill P ops w Q (o :: rest) a := by
  refine wpStill_step (fun K hK => ?_)
  rw [if_pos (by unfold Region.wanted; rw [hgd])]
  unfold Oper.still execOp
  simp only [ho, hx, Sem.run_bind, hl, Result.andThen_ok]
  exact ⟨rfl, hK _ h⟩

theorem mparse_ok {w : World} {A : Option Addr} {n : Nat} {cap : Nat} (hnc : n ≤ cap) {xs : List UInt8} {x y : UInt8} {r : List UInt8} (hs : Src w A n xs) (hx : xs = x :: y :: r) (hv : 251 ≤ x.toNat ∧ x.toNat ≤ 254) (hy : y.toNat = 2)
    (hfit : (n : Int) - 2 ≤ mostOf (x.toNat : Int)) :
    Calls Tryz.prog 240 #[.slice A n cap] w fun e w' => e = .returned (.tuple #[.int .i64 (x.toNat : Int), mkV (r ++ List.replicate (32 - r.length) 0), .nilIface]) ∧ Only (fun _ => False) w w' := by
  have hn : n = r.length + 2 := by have := hs.1; rw [hx] at this; simp at this; omega
  have hr32 : r.length ≤ 32 := by unfold mostOf at hfit; split at hfit <;> omega
  obtain ⟨ad, rfl, hcell⟩ := hs.2 (by omega)
  have c0 := hcell 0 x (by rw [hx]; rfl)
  have c1 := hcell 1 y (by rw [hx]; rfl)
  rw [show ad.add 0 = ad from by simp [Addr.add]] at c0
  rw [show ad.add 1 = ⟨ad.block, ad.off + 1, none⟩ from by simp [Addr.add]] at c1
  obtain ⟨D, hD⟩ : ∃ D, (if cap = 2 then some ad else some ⟨ad.block, ad.off + 2, none⟩) = D := ⟨_, rfl⟩
  have HR : Hid (Src w D r.length r) := by
    have h := hs.piece 2 n (by omega) (Nat.le_refl _) D (fun h a e => by
      injection e with e
      subst e
      rw [← hD, if_neg (by omega)]
      simp [Addr.add])
    rw [hx] at h
    rw [hn] at h
    exact (show Src w D r.length r by simpa using h)
  have HZ := Lib.hid zero_mask
  have HC := Lib.hid (MkCells.of (m := mkZ) (by simp))
  have HS := Lib.hid (splice_mask r hr32)
  have HCm := Lib.hid (MkCells.of (m := r ++ List.replicate (32 - r.length) 0) (by simp; omega))
  have hal := all_mask
  unfold mkV
  obtain ⟨zs, hzs⟩ : ∃ zs : List Value, zs = mkZ.map B8 := ⟨_, rfl⟩
  obtain ⟨cs, hcs⟩ : ∃ cs : List Value, cs = (r ++ List.replicate (32 - r.length) 0).map B8 := ⟨_, rfl⟩
  unfold mkZ at *
  rw [← hzs] at HZ HC HS
  rw [← hcs] at HS HCm ⊢
  have HO : Hid (Only (fun _ => False) w (w.alloc (.cells zs.toArray 120))) := (Only.refl _ w).alloc _
  have c01 := HO.out.cellv c0 (fun h => h)
  have c11 := HO.out.cellv c1 (fun h => h)
  have HB : Hid (Blk (w.alloc (.cells zs.toArray 120)) w.heap.size 120 zs) := Blk.new _ _ _
  have HV := Lib.hid (fun W => verb_any W (x.toNat : Int))
  rw [decide_eq_true (by omega : (251 : Int) ≤ (x.toNat : Int) ∧ (x.toNat : Int) ≤ 254)] at HV
  have HM := Lib.hid (fun W => most_any W (x.toNat : Int))
  unfold B8 at *
  rw [hy] at c11
  obtain ⟨k, hk0⟩ : ∃ k, k = r.length := ⟨_, rfl⟩
  rw [← hk0] at hn HR hr32
  have HK := Lib.hid hk0
  clear hzs hcs hs hx c0 c1 hcell hy hk0
  subst hn
  have hxl := x.toNat_lt
  generalize mostOf (x.toNat : Int) = mo at *
  generalize x.toNat = xn at *
  have hk : decide (mo < (k : Int)) = false := by simp; omega
  have hd : decide (((k + 2 : Nat) : Int) < 2) = false := by simp; omega
  have hd2 : (1 : Int) < ((k + 2 : Nat) : Int) := by omega
  clear hfit hv
  go_enter Tryz.func240, Tryz.ntmps240
  go_wp2_with (first
    | ((with_reducible show wpList _ _ _ (⟨some 3, .alloc _, _, _, _, _⟩ :: _) _ _); refine step_alloc rfl 120 rfl zs 32 HZ.out ?_)
    | (go_at_call 158; (with_reducible refine (HV.out _).mono ?_); rintro e w1 ⟨rfl, e1⟩; subst w1)
    | (go_at_call 247; (with_reducible refine (HM.out _).mono ?_); rintro e w1 ⟨rfl, e1⟩; subst w1)
    | ((with_reducible show wpList _ _ _ (⟨some 39, _, _, _, _, _⟩ :: _) _ _); refine step_copy rfl (.tmp 37) (.tmp 38) 45 45 rfl 5 Tryz.underlying45 size_byte _ _ _ _ _ _ rfl rfl w.heap.size 0 zs 120 HB.out r (by rw [← HK.out]; exact (Nat.min_eq_left hr32).symm) (fun hp => ⟨rfl, by rw [← HK.out]; exact HR.out.only HO.out (fun _ _ _ h => h)⟩) (by rw [HC.out.len, ← HK.out]; omega) ?_; intro w2 hb2 hz2 ho2)
    | fail)
  have hB2 := hb2.out
  rw [show splice zs 0 (r.map B8) = cs from HS.out] at hB2
  have HB2 := Lib.hid hB2.drew
  have hld := run_loadAt_mid (P := Tryz.prog) w2.drew w.heap.size 0 120 cs _ (range_of HB2.out) Tryz.underlying120 rfl HCm.out.size
  have HO2 : Hid (Only (fun _ => False) w w2.drew) := HO.out.trans ho2.drew (fun i hi => .inr (by omega))
  clear hb2 hz2 ho2 hB2 hD
  refine region_tail 3 (by kernel_rfl) (by kernel_rfl) ?_
  simp only [List.take_succ_cons, List.take_zero, List.drop_succ_cons, List.drop_zero]
  still_step
  refine still_load rfl 120 _ rfl _ w.heap.size rfl hld ?_
  still_step
  refine wpStill_nil ?_
  refine step_store rfl 120 _ _ rfl w.heap.size rfl cs rfl 120 cs HB2.out HCm.out.size rfl HCm.out.one ?_
  intro w3 hb3 hz3 ho3
  go_wp2
  refine ret_tct rfl w.heap.size rfl 120 cs _ hb3.out Tryz.underlying120 rfl HCm.out.size rfl ?_
  exact ⟨rfl, HO2.out.trans ho3 (fun i hi => .inr (by omega))⟩
end Go.Proofs.YtbnfhklpobephaaGreatDoor
