/- Several texts in one. -/
import Derived.Test.YtlmkpembccehkaaGreatDoorJTtBody
import Derived.Test.YtlmkpembccehkaaGreatDoorSnReset
import Derived.Test.YtlmkpembccehkaaGreatDoorJMk
import Derived.Test.YtlmkpembccehkaaGreatDoorMkParse
import Derived.Test.YtlmkpembccehkaaGreatDoorJTbSay
/- What hearing a token leaves: an error and nothing else, or what may be told. -/
namespace Go.Proofs.YtlmkpembccehkaaGreatDoor
open Go Go.RowKit
set_option maxRecDepth 100000
set_option maxHeartbeats 4000000

/-- A hub that can hear. -/
structure HkAt (w : World) (p : Nat) (h : Hb) : Prop where
  hub : HuAt w p h
  cyc : ∃ ts k, CyOk w h ts k
  old : ∀ A n c, h.ca = .slice A n c → 0 < n → ∀ ad, A = some ad → ad.block ≠ p
  tc : isMask h.tc = true
theorem HkAt.far {S : Nat → Prop} {w w' : World} {p : Nat} {h : Hb} (k : HkAt w p h) (ho : Only S w w') (hS : ∀ i, i < w.heap.size → ¬ S i) : HkAt w' p h := by
  obtain ⟨ts, j, hc⟩ := k.cyc
  refine ⟨k.hub.only ho (hS _ k.hub.lt), ⟨ts, j, ⟨?_, hc.ck, hc.one, hc.most, hc.okT⟩⟩, k.old, k.tc⟩
  obtain ⟨A, c, h1, h2⟩ := hc.ca
  exact ⟨A, c, h1, h2.only ho (fun hn ad e => hS _ (h2.lt hn ad e))⟩
theorem HkAt.same {w w' : World} {p : Nat} {h : Hb} (k : HkAt w p h) (ho : Only (fun _ => False) w w') : HkAt w' p h := k.far ho (fun _ _ h => h)
/-- Behind a change of the hub alone. -/
theorem HkAt.next {w w' : World} {p : Nat} {h h' : Hb} (k : HkAt w p h) (ho : Only (· = p) w w') (hh : HuAt w' p h') (e1 : h'.ca = h.ca) (e2 : h'.ck = h.ck) (e3 : isMask h'.tc = true) : HkAt w' p h' := by
  obtain ⟨ts, j, hc⟩ := k.cyc
  obtain ⟨A, c, h1, h2⟩ := hc.ca
  exact ⟨hh, ⟨ts, j, ⟨A, c, e1.trans h1, h2.only ho (fun hn ad e => k.old A _ c h1 hn ad e)⟩, e2.trans hc.ck, hc.one, hc.most, hc.okT⟩, fun A n c e => k.old A n c (e1.symm.trans e), e3⟩
@[reducible] def errI (E : Value) : Prop := ∃ a, E = .iface 191 (.pointer (some a))
/-- What is answered. -/
structure Heard (w : World) (p : Nat) (h : Hb) (o : Int) (v E : Value) (w' : World) : Prop where
  way : (E = .nilIface ∧ Tol w' v o ∧ ∃ h', HkAt w' p h') ∨ (errI E ∧ v = .slice none 0 0 ∧ HkAt w' p h)
  only : Only (· = p) w w'
theorem Heard.from_ {w W w' : World} {p : Nat} {h : Hb} {o : Int} {v E : Value} (h1 : Heard W p h o v E w') (ho : Only (fun _ => False) w W) : Heard w p h o v E w' :=
  ⟨h1.way, (Only.mono (T := (· = p)) ho (fun _ h => h.elim)).trans h1.only (fun i hi => .inl hi)⟩
theorem Heard.err {w w' : World} {p : Nat} {h : Hb} {o : Int} {a : Addr} (k : HkAt w p h) (ho : Only (fun _ => False) w w') : Heard w p h o (.slice none 0 0) (.iface 191 (.pointer (some a))) w' :=
  ⟨.inr ⟨⟨a, rfl⟩, rfl, k.same ho⟩, ho.mono (fun _ h => h.elim)⟩
/-- What a hub's calls of a body ask. -/
@[reducible] def HearsB (f : FuncId) (w : World) (p q : Nat) (h : Hb) (o : Int) (A : Option Addr) (n c : Nat) : Prop :=
  Calls Tryz.prog f #[.pointer (some ⟨p, 0, none⟩), .pointer (some ⟨q, 0, none⟩), .slice A n c] w fun e w' => ∃ v E, e = .returned (.tuple #[v, E]) ∧ Hid (Heard w p h o v E w')
section
variable {w : World} {es : List Addr} {A : Option Addr} {n c : Nat} {b : List UInt8} {p q : Nat} {h : Hb} {ag : Nat → Nat → Bool} {T : Tb}
theorem keepSize (hE : ErrsAt w es) (k : HkAt w p h) (hT : TbAt w q ag T) (hs : Src w A n b) : HearsB 51 w p q h 31 A n c := by
  refine (huSize_any hE k.hub hT c hs).mono ?_
  rintro e w' ⟨E, rfl, h1, h2⟩
  obtain ⟨h1, h3⟩ := h1.out
  refine ⟨_, _, rfl, ?_, h2.out⟩
  rcases h1.ways with ⟨h0, rfl⟩ | ⟨h0, a, rfl⟩
  · rw [h0, if_pos rfl] at h3
    exact .inl ⟨rfl, .inl rfl, _, k.next h2.out h3 rfl rfl k.tc⟩
  · rw [if_neg h0] at h3
    exact .inr ⟨⟨a, rfl⟩, rfl, k.next h2.out h3 rfl rfl k.tc⟩
theorem keepType (hE : ErrsAt w es) (k : HkAt w p h) (hT : TbAt w q ag T) (hs : Src w A n b) (hn : n ≤ 256) (hnc : n ≤ c) (hcap : c ≤ 9223372036854775807) : HearsB 52 w p q h 24 A n c := by
  by_cases hz : tyNum T b = 0
  · cases hx : (saysT b).2.1 with
    | true =>
      obtain ⟨ts, j, hc⟩ := k.cyc
      refine (huType_asks hE k.hub hT hc c hs (by omega) hnc hcap hz hx).mono ?_
      rintro e w' ⟨N, rfl, h1, h2, h3⟩
      have hl := (okT_iff.1 (ansT_ok hc.one hc.okT j)).2.1
      refine ⟨_, _, rfl, .inl ⟨rfl, h1.out.tol (by simp; omega), _, h2.out, ⟨ts, j + 1, ?_, rfl, hc.one, hc.most, hc.okT⟩, k.old, k.tc⟩, h3.out⟩
      obtain ⟨A, c, e1, e2⟩ := hc.ca
      exact ⟨A, c, e1, e2.only h3.out (fun hn ad e => k.old A _ c e1 hn ad e)⟩
    | false =>
      refine (huType_name hE k.hub hT c hs (by omega) hnc hcap hz hx).mono ?_
      rintro e w' ⟨v, rfl, h1, h2, h3⟩
      refine ⟨_, _, rfl, .inl ⟨rfl, ?_, _, k.next h3.out h2.out rfl rfl k.tc⟩, h3.out⟩
      have h1 := h1.out
      split at h1
      · exact .inl h1
      · exact h1.tol (by simp)
  · refine (huType_bad hE k.hub hT c hs (by omega) hnc hcap hz).mono ?_
    rintro e w' ⟨a, rfl, h1, h2⟩
    exact ⟨_, _, rfl, Heard.err k h2.out⟩
end
end Go.Proofs.YtlmkpembccehkaaGreatDoor
/- A mask's row of bytes, as a slice of it all. -/
namespace Go.Proofs.YtlmkpembccehkaaGreatDoor
open Go Go.RowKit
set_option maxRecDepth 100000
set_option maxHeartbeats 4000000

theorem all_mask (W : World) (N : Nat) : (Instr.sliceAt 86 (.pointer (some ⟨N, 0, none⟩)) none none none).run Tryz.prog W = .ok (.slice (some ⟨N, 0, none⟩) 32 32) W := by
  have hu := Tryz.underlying86
  have hs : ∀ W, (sizeOf 5).run Tryz.prog W = .ok 1 W := fun W => by kernel_rfl
  have h := run_sliceAt_array_all (P := Tryz.prog) (w := W) (a := ⟨N, 0, none⟩) (t := 86) hu
  rw [h]
  exact (show ((sizeOf 5).run Tryz.prog W).andThen _ = _ from by rw [hs W]; rfl)
end Go.Proofs.YtlmkpembccehkaaGreatDoor
/- Package mask: Parse of a right body. -/
namespace Go.Proofs.YtlmkpembccehkaaGreatDoor
open Go Go.RowKit
set_option maxRecDepth 100000
set_option maxHeartbeats 4000000

theorem splice_mask (r : List UInt8) (_ : r.length ≤ 32) : splice (mkZ.map B8) 0 (r.map B8) = (r ++ List.replicate (32 - r.length) 0).map B8 := by
  unfold splice mkZ
  rw [List.map_append, List.map_replicate, List.map_replicate, List.drop_replicate]
  simp
/-- A load of a whole row, in a region that draws its order. -/
theorem still_load {P : Program} {ops : Array Oper} {w : World} {Q : Act → Prop} {a : Act} {o : Oper} {rest : List Oper} (hgd : o.guard = none) (ty : TypeId) (x : Operand) (ho : o.op = .load ty x) (v : Value) (b : Nat) (hx : a.eval x = .pointer (some ⟨b, 0, none⟩))
    (hl : (Instr.loadAt ty (.pointer (some ⟨b, 0, none⟩))).run P w = .ok v w) (h : wpStill P ops w Q rest (a.put o.dst v)) : wpStill P ops w Q (o :: rest) a := by
  refine wpStill_step (fun K hK => ?_)
  rw [if_pos (by unfold Region.wanted; rw [hgd])]
  unfold Oper.still execOp
  simp only [ho, hx, Sem.run_bind, hl, Result.andThen_ok]
  exact ⟨rfl, hK _ h⟩

theorem mparse_ok {w : World} {A : Option Addr} {n : Nat} {cap : Nat} (hnc : n ≤ cap) {xs : List UInt8} {x y : UInt8} {r : List UInt8} (hs : Src w A n xs) (hx : xs = x :: y :: r) (hv : 251 ≤ x.toNat ∧ x.toNat ≤ 254) (hy : y.toNat = 2)
    (hfit : (n : Int) - 2 ≤ mostOf (x.toNat : Int)) :
    Calls Tryz.prog 96 #[.slice A n cap] w fun e w' => e = .returned (.tuple #[.int .i64 (x.toNat : Int), mkV (r ++ List.replicate (32 - r.length) 0), .nilIface]) ∧ Only (fun _ => False) w w' := by
  have hn : n = r.length + 2 := by have := hs.1; rw [hx] at this; simp at this; omega
  have hr32 : r.length ≤ 32 := by unfold mostOf at hfit; split at hfit <;> omega
  obtain ⟨ad, rfl, hcell⟩ := hs.2 (by omega)
  have c0 := hcell 0 x (by rw [hx]; rfl)
  have c1 := hcell 1 y (by rw [hx]; rfl)
  rw [show ad.add 0 = ad from by simp [Addr.add]] at c0
  rw [show ad.add 1 = ⟨ad.block, ad.off + 1, none⟩ from by simp [Addr.add]] at c1
  obtain ⟨D, hD⟩ : ∃ D, (if cap = 2 then some ad else some ⟨ad.block, ad.off + 2, none⟩) = D := ⟨_, rfl⟩
  have HR : Hid (Src w D r.length r) := by
    have h := hs.piece 2 n (by omega) (Nat.le_refl _) D (fun h a e => by
      injection e with e
      subst e
      rw [← hD, if_neg (by omega)]
      simp [Addr.add])
    rw [hx] at h
    rw [hn] at h
    exact (show Src w D r.length r by simpa using h)
  have HZ := Lib.hid zero_mask
  have HC := Lib.hid (MkCells.of (m := mkZ) (by simp))
  have HS := Lib.hid (splice_mask r hr32)
  have HCm := Lib.hid (MkCells.of (m := r ++ List.replicate (32 - r.length) 0) (by simp; omega))
  have hal := all_mask
  unfold mkV
  obtain ⟨zs, hzs⟩ : ∃ zs : List Value, zs = mkZ.map B8 := ⟨_, rfl⟩
  obtain ⟨cs, hcs⟩ : ∃ cs : List Value, cs = (r ++ List.replicate (32 - r.length) 0).map B8 := ⟨_, rfl⟩
  unfold mkZ at *
  rw [← hzs] at HZ HC HS
  rw [← hcs] at HS HCm ⊢
  have HO : Hid (Only (fun _ => False) w (w.alloc (.cells zs.toArray 86))) := (Only.refl _ w).alloc _
  have c01 := HO.out.cellv c0 (fun h => h)
  have c11 := HO.out.cellv c1 (fun h => h)
  have HB : Hid (Blk (w.alloc (.cells zs.toArray 86)) w.heap.size 86 zs) := Blk.new _ _ _
  have HV := Lib.hid (fun W => verb_any W (x.toNat : Int))
  rw [decide_eq_true (by omega : (251 : Int) ≤ (x.toNat : Int) ∧ (x.toNat : Int) ≤ 254)] at HV
  have HM := Lib.hid (fun W => most_any W (x.toNat : Int))
  unfold B8 at *
  rw [hy] at c11
  obtain ⟨k, hk0⟩ : ∃ k, k = r.length := ⟨_, rfl⟩
  rw [← hk0] at hn HR hr32
  have HK := Lib.hid hk0
  clear hzs hcs hs hx c0 c1 hcell hy hk0
  subst hn
  have hxl := x.toNat_lt
  generalize mostOf (x.toNat : Int) = mo at *
  generalize x.toNat = xn at *
  have hk : decide (mo < (k : Int)) = false := by simp; omega
  have hd : decide (((k + 2 : Nat) : Int) < 2) = false := by simp; omega
  have hd2 : (1 : Int) < ((k + 2 : Nat) : Int) := by omega
  clear hfit hv
  go_enter Tryz.func96, Tryz.ntmps96
  go_wp2_with (first
    | ((with_reducible show wpList _ _ _ (⟨some 3, .alloc _, _, _, _, _⟩ :: _) _ _); refine step_alloc rfl 86 rfl zs 32 HZ.out ?_)
    | (go_at_call 25; (with_reducible refine (HV.out _).mono ?_); rintro e w1 ⟨rfl, e1⟩; subst w1)
    | (go_at_call 106; (with_reducible refine (HM.out _).mono ?_); rintro e w1 ⟨rfl, e1⟩; subst w1)
    | ((with_reducible show wpList _ _ _ (⟨some 39, _, _, _, _, _⟩ :: _) _ _); refine step_copy rfl (.tmp 37) (.tmp 38) 45 45 rfl 5 Tryz.underlying45 size_byte _ _ _ _ _ _ rfl rfl w.heap.size 0 zs 86 HB.out r (by rw [← HK.out]; exact (Nat.min_eq_left hr32).symm) (fun hp => ⟨rfl, by rw [← HK.out]; exact HR.out.only HO.out (fun _ _ _ h => h)⟩) (by rw [HC.out.len, ← HK.out]; omega) ?_; intro w2 hb2 hz2 ho2)
    | fail)
  have hB2 := hb2.out
  rw [show splice zs 0 (r.map B8) = cs from HS.out] at hB2
  have HB2 := Lib.hid hB2.drew
  have hld := run_loadAt_mid (P := Tryz.prog) w2.drew w.heap.size 0 86 cs _ (range_of HB2.out) Tryz.underlying86 rfl HCm.out.size
  have HO2 : Hid (Only (fun _ => False) w w2.drew) := HO.out.trans ho2.drew (fun i hi => .inr (by omega))
  clear hb2 hz2 ho2 hB2 hD
  refine region_tail 3 (by kernel_rfl) (by kernel_rfl) ?_
  simp only [List.take_succ_cons, List.take_zero, List.drop_succ_cons, List.drop_zero]
  still_step
  refine still_load rfl 86 _ rfl _ w.heap.size rfl hld ?_
  still_step
  refine wpStill_nil ?_
  refine step_store rfl 86 _ _ rfl w.heap.size rfl cs rfl 86 cs HB2.out HCm.out.size rfl HCm.out.one ?_
  intro w3 hb3 hz3 ho3
  go_wp2
  refine ret_tct rfl w.heap.size rfl 86 cs _ hb3.out Tryz.underlying86 rfl HCm.out.size rfl ?_
  exact ⟨rfl, HO2.out.trans ho3 (fun i hi => .inr (by omega))⟩
end Go.Proofs.YtlmkpembccehkaaGreatDoor
/- A hub hears of the mask. -/
namespace Go.Proofs.YtlmkpembccehkaaGreatDoor
open Go Go.RowKit
set_option maxRecDepth 100000
set_option maxHeartbeats 4000000

section
variable {w : World} {es : List Addr} {A : Option Addr} {n c : Nat} {b : List UInt8} {p q : Nat} {h : Hb} {ag : Nat → Nat → Bool} {T : Tb}
theorem mparse_ways (hE : ErrsAt w es) (hs : Src w A n b) (hnc : n ≤ c) :
    (∃ a, Calls Tryz.prog 96 #[.slice A n c] w fun e w' => e = .returned (.tuple #[.int .i64 0, mkV mkZ, .iface 191 (.pointer (some a))]) ∧ Only (fun _ => False) w w') ∨
    ∃ (v : Nat) (m : List UInt8), (251 ≤ v ∧ v ≤ 254) ∧ m.length = 32 ∧ Calls Tryz.prog 96 #[.slice A n c] w fun e w' => e = .returned (.tuple #[.int .i64 (v : Int), mkV m, .nilIface]) ∧ Only (fun _ => False) w w' := by
  have key : ∀ (i : Nat) (a : Addr), es[i]? = some a → (Calls Tryz.prog 96 #[.slice A n c] w fun e w' => ∃ a, es[i]? = some a ∧ e = .returned (.tuple #[.int .i64 0, mkV mkZ, errV a]) ∧ Only (fun _ => False) w w') → ∃ a, Calls Tryz.prog 96 #[.slice A n c] w fun e w' => e = .returned (.tuple #[.int .i64 0, mkV mkZ, .iface 191 (.pointer (some a))]) ∧ Only (fun _ => False) w w' := by
    intro i a ha h
    refine ⟨a, h.mono ?_⟩
    rintro e w' ⟨a', ha', rfl, ho⟩
    rw [ha] at ha'
    injection ha' with ha'
    subst ha'
    exact ⟨rfl, ho⟩
  have hE3 := hE.of [2, 3, 8]
  rcases Nat.lt_or_ge n 2 with h2 | h2
  · obtain ⟨a, ha, _⟩ := hE3.get 2 9 (by decide) rfl
    exact .inl (key 2 a ha (mparse_short hE3 A n c h2))
  · match b, hs with
    | [], hs => exact absurd hs.1 (by simp; omega)
    | [_], hs => exact absurd hs.1 (by simp; omega)
    | x :: y :: r, hs =>
      by_cases hb : (251 ≤ x.toNat ∧ x.toNat ≤ 254) ∧ y.toNat = 2
      · by_cases hl : mostOf (x.toNat : Int) < (n : Int) - 2
        · obtain ⟨a, ha, _⟩ := hE3.get 3 3 (by decide) rfl
          exact .inl (key 3 a ha (mparse_long hE3 c hs rfl hb.1 hb.2 hl))
        · have hn : n = r.length + 2 := by have := hs.1; simp at this; omega
          have hr32 : r.length ≤ 32 := by unfold mostOf at hl; split at hl <;> omega
          exact .inr ⟨x.toNat, _, hb.1, by simp; omega, mparse_ok hnc hs rfl hb.1 hb.2 (by omega)⟩
      · obtain ⟨a, ha, _⟩ := hE3.get 8 0 (by decide) rfl
        exact .inl (key 8 a ha (mparse_kind hE3 c hs rfl hb))
/-- WILL to DO, WONT to DONT. -/
theorem snAnswer_any (W : World) (v : Nat) (hv : v = 253 ∨ v = 254) : Calls Tryz.prog 97 #[.int .i64 (v : Int), .bool (decide ((v : Int) = 251 ∨ (v : Int) = 253))] W fun e w' => e = .returned (.tuple #[.int .i64 ((v : Int) - 2), .bool true]) ∧ w' = W := by
  have HV := Lib.hid (fun W c => verb_any W c)
  have HO := Lib.hid (fun W c => own_any W c)
  rcases hv with rfl | rfl
  all_goals
    go_enter Tryz.func97, Tryz.ntmps97
    go_wp2_with (first
      | (go_at_call 25; (with_reducible refine (HV.out _ _).mono ?_); rintro e w' ⟨rfl, e2⟩; subst w')
      | (go_at_call 49; (with_reducible refine (HO.out _ _).mono ?_); rintro e w' ⟨rfl, e2⟩; subst w'))
    go_ret2
    exact ⟨rfl, rfl⟩
/-- A body of two bytes: it lies in a block of its own. -/
theorem mbody_two {w : World} {v : Int} (hv : 251 ≤ v ∧ v ≤ 254) (h3 : v ≠ 253) {m : List UInt8} (hl : m.length = 32) :
    Calls Tryz.prog 98 #[.int .i64 v, mkV m] w fun e w' => ∃ N c, e = .returned (.tuple #[.slice (some ⟨N, 0, none⟩) 2 c, .nilIface]) ∧ w.heap.size ≤ N ∧ (∃ b, Hid (Src w' (some ⟨N, 0, none⟩) 2 b)) ∧ Hid (Only (fun _ => False) w w') := by
  have HV := Lib.hid (fun W => verb_any W v)
  rw [decide_eq_true hv] at HV
  have hw8 : IntKind.u8.wrap v = v := IntWalk.u8_in _ (by omega)
  have HO : Hid (Only (fun _ => False) w (w.alloc (.cells (m.map B8).toArray 86))) := (Only.refl _ w).alloc _
  have HP : Hid (∀ (W : World) (N : Nat), W.heap.size = N → Body (W.alloc (.cells #[.int .u8 v, .int .u8 2] 5)) N (.slice (some ⟨N, 0, none⟩) 2 2) [b8 v, 2]) := fun W N hN => by
    subst hN
    refine own_of_blk (cur := [.int .u8 v, .int .u8 2]) (Blk.new W 5 [.int .u8 v, .int .u8 2]) rfl ?_ (by simp) (by simp) (Nat.le_refl _)
    simp only [List.map_cons, List.map_nil, B8]
    rw [b8_int (by omega) (by omega)]
    rfl
  unfold mkV at *
  obtain ⟨cs, hcs⟩ : ∃ cs, cs = m.map B8 := ⟨_, rfl⟩
  rw [← hcs] at HO ⊢
  clear hcs hl hv
  have e1 : (v == 253) = false := by simp [h3]
  have HPx := Lib.hid (HP.out (w.alloc (.cells cs.toArray 86)) (w.heap.size + 1) (by simp))
  clear h3
  go_enter Tryz.func98, Tryz.ntmps98
  go_wp2_with (first
    | (go_at_call 25; (with_reducible refine (HV.out _).mono ?_); rintro e w1 ⟨rfl, e1⟩; subst w1)
    | fail)
  go_ret2
  exact ⟨_, _, rfl, by omega, ⟨_, HPx.out.src rfl⟩, HO.out.alloc _⟩
theorem zero_maskS : (Tryz.prog.info? 86).map (fun i => (i.zero, i.size)) = some (some (.agg (mkZ.map B8).toArray), 32) := by kernel_rfl
theorem keepMask (hE : ErrsAt w es) (k : HkAt w p h) (hT : TbAt w q ag T) (hs : Src w A n b) (hn : n ≤ 256) (hnc : n ≤ c) (hcap : c ≤ 9223372036854775807) : HearsB 77 w p q h 34 A n c := by
  have hways := mparse_ways hE hs hnc
  obtain ⟨a, ha, hst⟩ := (hE.of [9]).get 9 8 (by decide) rfl
  unfold errV at hst
  have HC : Hid (∀ W, Only (fun _ => False) w W → W.cell? ⟨8, 0, none⟩ = some (.iface 191 (.pointer (some a)))) := fun W ho => ho.cellv hst (fun h => h)
  have HK := Lib.hid k
  have HTb := Lib.hid hT
  have HOw := Lib.hid (fun W c => own_any W c)
  have HFo := Lib.hid (fun W c => for_any W c)
  have HSd := Lib.hid (fun W b => snSide_any W b)
  have HTl := Lib.hid (fun W A n c => tell_any W 34 A n c)
  have hz := zero_maskS
  obtain ⟨zs, hzs⟩ : ∃ zs, zs = mkZ.map B8 := ⟨_, rfl⟩
  have hbm := built_mask
  have hzc := MkCells.of (m := mkZ) (by decide)
  rw [← hzs] at hz hbm hzc
  have HZ := Lib.hid hz
  have HBm := Lib.hid hbm
  have HZc := Lib.hid hzc
  have HZs := Lib.hid hzs
  clear hE k hT hs ha hst hn hnc hcap hz hbm hzc hzs
  rcases hways with ⟨a1, hP⟩ | ⟨v, m, hv, hm, hP⟩
  · have HP := Lib.hid hP
    unfold mkV at HP
    rw [← HZs.out] at HP
    clear hP
    go_enter Tryz.func77, Tryz.ntmps77
    go_wp2_with (first
      | (go_at_call 96; (with_reducible refine HP.out.mono ?_); rintro e w1 ⟨rfl, ho1⟩; have HO1 := Lib.hid ho1; clear ho1)
      | ((with_reducible show wpList _ _ _ (⟨some 9, .alloc _, _, _, _, _⟩ :: _) _ _); refine step_alloc rfl 86 rfl zs 32 HZ.out ?_)
      | ((with_reducible show wpList _ _ _ (⟨none, .store 86 _ _, _, _, _, _⟩ :: _) _ _); refine step_store rfl 86 _ _ rfl w1.heap.size rfl zs rfl _ zs (Blk.new w1 86 zs) HZc.out.size rfl HZc.out.one ?_; intro w2 hB2 hz2 ho2))
    go_ret2
    exact ⟨_, _, rfl, Heard.err HK.out ((HO1.out.alloc _).trans ho2 (fun i hi => .inr (by rw [hi]; exact HO1.out.size)))⟩
  · have HP := Lib.hid hP
    have hmc := MkCells.of hm
    unfold mkV at HP
    obtain ⟨ms, hms⟩ : ∃ ms, ms = m.map B8 := ⟨_, rfl⟩
    rw [← hms] at HP hmc
    have HMc := Lib.hid hmc
    have hlz : zs.length = ms.length := by rw [HZc.out.len, hmc.len]
    have HLz := Lib.hid hlz
    clear hP hm hms hmc hlz
    by_cases hon : T.get (if (!decide ((v : Int) = 251 ∨ (v : Int) = 252)) = true then (0 : Int) else 1) 34 = .yes
    case neg =>
      have HOn : Hid (∀ W, Only (fun _ => False) w W → Calls Tryz.prog 66 #[.pointer (some ⟨q, 0, none⟩), .int .i64 (if (!decide ((v : Int) = 251 ∨ (v : Int) = 252)) = true then (0 : Int) else 1), .int .i64 34] W fun e w' => e = .returned (.bool false) ∧ Only (fun _ => False) W w') := fun W ho => by
        have := ton_any (HTb.out.same ho) (if (!decide ((v : Int) = 251 ∨ (v : Int) = 252)) = true then (0 : Int) else 1) 34
        rwa [decide_eq_false hon] at this
      clear hon
      have HOw' : Hid (∀ W, Calls Tryz.prog 49 #[.int .i64 (v : Int)] W fun e w' => e = .returned (.bool (decide ((v : Int) = 251 ∨ (v : Int) = 252))) ∧ w' = W) := fun W => HOw.out W _
      have HSd' : Hid (∀ W, Calls Tryz.prog 68 #[.bool (!decide ((v : Int) = 251 ∨ (v : Int) = 252))] W fun e w' => e = .returned (.int .i64 (if (!decide ((v : Int) = 251 ∨ (v : Int) = 252)) = true then (0 : Int) else 1)) ∧ w' = W) := fun W => HSd.out W _
      generalize (if (!decide ((v : Int) = 251 ∨ (v : Int) = 252)) = true then (0 : Int) else 1) = xi at *
      generalize decide ((v : Int) = 251 ∨ (v : Int) = 252) = ow at *
      clear HSd HOw
      go_enter Tryz.func77, Tryz.ntmps77
      go_wp2_with (first
        | (go_at_call 96; (with_reducible refine HP.out.mono ?_); rintro e w1 ⟨rfl, ho1⟩; have HO1 := Lib.hid ho1; clear ho1)
        | ((with_reducible show wpList _ _ _ (⟨some 9, .alloc _, _, _, _, _⟩ :: _) _ _); refine step_alloc rfl 86 rfl zs 32 HZ.out ?_)
        | ((with_reducible show wpList _ _ _ (⟨none, .store 86 _ _, _, _, _, _⟩ :: _) _ _); refine step_store rfl 86 _ _ rfl w1.heap.size rfl ms rfl _ zs (Blk.new w1 86 zs) HMc.out.size HLz.out HMc.out.one ?_; intro w2 hB2 hz2 ho2; have HO2 : Hid (Only (fun _ => False) w w2) := (HO1.out.alloc _).trans ho2 (fun i hi => .inr (by rw [hi]; exact HO1.out.size)))
        | (go_at_call 49; (with_reducible refine (HOw'.out _).mono ?_); rintro e w' ⟨rfl, e2⟩; subst w')
        | (go_at_call 68; (with_reducible refine (HSd'.out _).mono ?_); rintro e w' ⟨rfl, e2⟩; subst w')
        | (go_at_call 66; (with_reducible refine (HOn.out _ HO2.out).mono ?_); rintro e w3 ⟨rfl, ho3⟩; have HO3 := Lib.hid (HO2.out.trans ho3 (fun _ h => h.elim)); have hc3 := HC.out _ HO3.out; clear ho3))
      go_quiet (fail)
      go_wp2
      go_ret2
      exact ⟨_, _, rfl, Heard.err HK.out (HO3.out.drewN _)⟩
    case pos =>
      have HOn : Hid (∀ W, Only (fun _ => False) w W → Calls Tryz.prog 66 #[.pointer (some ⟨q, 0, none⟩), .int .i64 (if (!decide ((v : Int) = 251 ∨ (v : Int) = 252)) = true then (0 : Int) else 1), .int .i64 34] W fun e w' => e = .returned (.bool true) ∧ Only (fun _ => False) W w') := fun W ho => by
        have := ton_any (HTb.out.same ho) (if (!decide ((v : Int) = 251 ∨ (v : Int) = 252)) = true then (0 : Int) else 1) 34
        rwa [decide_eq_true hon] at this
      clear hon
      have HOw' : Hid (∀ W, Calls Tryz.prog 49 #[.int .i64 (v : Int)] W fun e w' => e = .returned (.bool (decide ((v : Int) = 251 ∨ (v : Int) = 252))) ∧ w' = W) := fun W => HOw.out W _
      have HSd' : Hid (∀ W, Calls Tryz.prog 68 #[.bool (!decide ((v : Int) = 251 ∨ (v : Int) = 252))] W fun e w' => e = .returned (.int .i64 (if (!decide ((v : Int) = 251 ∨ (v : Int) = 252)) = true then (0 : Int) else 1)) ∧ w' = W) := fun W => HSd.out W _
      clear HSd HOw
      by_cases hv2 : v = 251 ∨ v = 252
      · rw [decide_eq_true (show (v : Int) = 251 ∨ (v : Int) = 252 by omega)] at HOn HOw' HSd'
        simp only [Bool.not_true, Bool.false_eq_true, if_false] at HOn HSd'
        clear hv2 hv
        go_enter Tryz.func77, Tryz.ntmps77
        go_wp2_with (first
          | (go_at_call 96; (with_reducible refine HP.out.mono ?_); rintro e w1 ⟨rfl, ho1⟩; have HO1 := Lib.hid ho1; clear ho1)
          | ((with_reducible show wpList _ _ _ (⟨some 9, .alloc _, _, _, _, _⟩ :: _) _ _); refine step_alloc rfl 86 rfl zs 32 HZ.out ?_)
          | ((with_reducible show wpList _ _ _ (⟨none, .store 86 _ _, _, _, _, _⟩ :: _) _ _); refine step_store rfl 86 _ _ rfl w1.heap.size rfl ms rfl _ zs (Blk.new w1 86 zs) HMc.out.size HLz.out HMc.out.one ?_; intro w2 hB2 hz2 ho2; have HO2 : Hid (Only (fun _ => False) w w2) := (HO1.out.alloc _).trans ho2 (fun i hi => .inr (by rw [hi]; exact HO1.out.size)))
          | (go_at_call 49; (with_reducible refine (HOw'.out _).mono ?_); rintro e w' ⟨rfl, e2⟩; subst w')
          | (go_at_call 68; (with_reducible refine (HSd'.out _).mono ?_); rintro e w' ⟨rfl, e2⟩; subst w')
          | (go_at_call 66; (with_reducible refine (HOn.out _ HO2.out).mono ?_); rintro e w3 ⟨rfl, ho3⟩; have HO3 := Lib.hid (HO2.out.trans ho3 (fun _ h => h.elim)); have HB3 := Lib.hid (hB2.only ho3 (fun h => h)); clear ho3))
        go_ret2
        exact ⟨_, _, rfl, .inl ⟨rfl, .inl rfl, _, HK.out.same HO3.out⟩, HO3.out.mono (fun _ h => h.elim)⟩
      · have hv3 : v = 253 ∨ v = 254 := by omega
        rw [decide_eq_false (show ¬ ((v : Int) = 251 ∨ (v : Int) = 252) by omega)] at HOn HOw' HSd'
        simp only [Bool.not_false, if_true] at HOn HSd'
        have HFo' : Hid (∀ W, Calls Tryz.prog 28 #[.int .i64 (v : Int)] W fun e w' => e = .returned (.bool (decide ((v : Int) = 251 ∨ (v : Int) = 253))) ∧ w' = W) := fun W => HFo.out W _
        have HAn := Lib.hid (fun W => snAnswer_any W v hv3)
        have HBd := Lib.hid (fun W => mbody_two (w := W) (v := (v : Int) - 2) (by omega) (by omega) (m := mkZ) (by decide))
        unfold mkV at HBd
        rw [← HZs.out] at HBd
        generalize decide ((v : Int) = 251 ∨ (v : Int) = 253) = fv at *
        clear hv2 hv hv3 HFo
        go_enter Tryz.func77, Tryz.ntmps77
        go_wp2_with (first
          | (go_at_call 96; (with_reducible refine HP.out.mono ?_); rintro e w1 ⟨rfl, ho1⟩; have HO1 := Lib.hid ho1; clear ho1)
          | ((with_reducible show wpList _ _ _ (⟨some 9, .alloc _, _, _, _, _⟩ :: _) _ _); refine step_alloc rfl 86 rfl zs 32 HZ.out ?_)
          | ((with_reducible show wpList _ _ _ (⟨none, .store 86 _ _, _, _, _, _⟩ :: _) _ _); refine step_store rfl 86 _ _ rfl w1.heap.size rfl ms rfl _ zs (Blk.new w1 86 zs) HMc.out.size HLz.out HMc.out.one ?_; intro w2 hB2 hz2 ho2; have HO2 : Hid (Only (fun _ => False) w w2) := (HO1.out.alloc _).trans ho2 (fun i hi => .inr (by rw [hi]; exact HO1.out.size)))
          | (go_at_call 49; (with_reducible refine (HOw'.out _).mono ?_); rintro e w' ⟨rfl, e2⟩; subst w')
          | (go_at_call 68; (with_reducible refine (HSd'.out _).mono ?_); rintro e w' ⟨rfl, e2⟩; subst w')
          | (go_at_call 66; (with_reducible refine (HOn.out _ HO2.out).mono ?_); rintro e w3 ⟨rfl, ho3⟩; have HO3 := Lib.hid (HO2.out.trans ho3 (fun _ h => h.elim)); have HB3 := Lib.hid (hB2.only ho3 (fun h => h)); clear ho3)
          | (go_at_call 28; (with_reducible refine (HFo'.out _).mono ?_); rintro e w' ⟨rfl, e2⟩; subst w')
          | (go_at_call 97; (with_reducible refine (HAn.out _).mono ?_); rintro e w' ⟨rfl, e2⟩; subst w')
          | ((with_reducible show wpList _ _ _ (⟨some 45, _, _, _, _, _⟩ :: _) _ _); refine step_build0 rfl 86 rfl zs HBm.out ?_)
          | (go_at_call 98; (with_reducible refine (HBd.out _).mono ?_); rintro e w4 ⟨N4, c4, rfl, hN4, ⟨b4, hs4⟩, ho4⟩; have HS4 := Lib.hid hs4.out; have HN4 := Lib.hid (show N4 ≠ p by have h1 := HK.out.hub.lt; have h2 := HO3.out.size; omega); clear hN4; have HO4 := Lib.hid (HO3.out.trans ho4.out (fun _ h => h.elim)); have HB4 := Lib.hid (HB3.out.only ho4.out (fun h => h)); clear hs4 ho4))
        obtain ⟨N, hN⟩ : ∃ N, N = w1.heap.size := ⟨_, rfl⟩
        rw [← hN] at HB4 ⊢
        have hNp : N ≠ p := by have h1 := HK.out.hub.lt; have h2 := HO1.out.size; omega
        clear hN HB3 hB2 hz2 ho2
        have HK4 := Lib.hid (HK.out.same HO4.out)
        have hp4 : p < w4.heap.size := HK4.out.hub.lt
        refine wp_region_noPanic ?_
        refine wp_region_held_drew (S := fun W => Only (· = p) w4 W ∧ W.rangeAt N 0 ms) (by kernel_rfl) ⟨(Only.refl _ _).drew, rng_blk (HB4.out.only ((Only.refl (fun _ => False) w4).drew) (fun h => h))⟩ (fun hHeld => ?_)
        refine wpAnyH_take (i := 0) (v := .pointer (some ⟨p, 0, none⟩)) rfl (by kernel_rfl) (by kernel_rfl) (by kernel_rfl) (fun _ _ _ h => h) (Or.inl ⟨by rfl, fun W hSw => by (first | (go_simp; done) | (go_simp; with_reducible rfl) | (go_simp; rfl))⟩) hHeld ?_
        try simp only [List.getElem_toArray, List.getElem_cons_zero, List.getElem_cons_succ, Act.put, List.setIfInBounds_toArray, List.set_cons_zero, List.set_cons_succ]
        refine wpAnyH_take (i := 1) (v := .pointer (some ⟨p, 0, none⟩)) rfl (by kernel_rfl) (by kernel_rfl) (by kernel_rfl) (fun _ _ _ h => h) (Or.inl ⟨by rfl, fun W hSw => by (first | (go_simp; done) | (go_simp; with_reducible rfl) | (go_simp; rfl))⟩) hHeld ?_
        try simp only [List.getElem_toArray, List.getElem_cons_zero, List.getElem_cons_succ, Act.put, List.setIfInBounds_toArray, List.set_cons_zero, List.set_cons_succ]
        refine wpAnyH_take (i := 2) (v := .agg ms.toArray) rfl (by kernel_rfl) (by kernel_rfl) (by kernel_rfl) (fun _ _ _ h => h) (yieldsIf_load_mid (by rfl) 86 _ rfl N 0 rfl ms _ (fun W h => h.2) Tryz.underlying86 rfl (by rw [HMc.out.len]; kernel_rfl)) hHeld ?_
        simp only [List.getElem_toArray, List.getElem_cons_zero, List.getElem_cons_succ, Act.put, List.setIfInBounds_toArray, List.set_cons_zero, List.set_cons_succ]
        refine wpAnyH_take (i := 3) (v := .int .i64 (v : Int)) rfl (by kernel_rfl) (by kernel_rfl) (by kernel_rfl) (fun _ _ _ h => h) (Or.inl ⟨by rfl, fun W hSw => by (first | (go_simp; done) | (go_simp; with_reducible rfl) | (go_simp; rfl))⟩) hHeld ?_
        try simp only [List.getElem_toArray, List.getElem_cons_zero, List.getElem_cons_succ, Act.put, List.setIfInBounds_toArray, List.set_cons_zero, List.set_cons_succ]
        refine wpAnyH_ready (rs := [4]) (by kernel_rfl) (by simp) ?_
        refine AllReadyH.cons rfl (fun K hK => ?_) AllReadyH.nil
        go_simp
        (go_at_call 28; (with_reducible refine (HFo'.out _).mono ?_); rintro e w' ⟨rfl, e2⟩; subst w')
        refine hK.out _ _ hHeld (fun hHeld => ?_)
        clear hK K
        refine wpAnyH_take (i := 5) (v := .pointer (some ⟨p, 0, none⟩)) rfl (by kernel_rfl) (by kernel_rfl) (by kernel_rfl) (fun _ _ _ h => h) (Or.inl ⟨by rfl, fun W hSw => by (first | (go_simp; done) | (go_simp; with_reducible rfl) | (go_simp; rfl))⟩) hHeld ?_
        try simp only [List.getElem_toArray, List.getElem_cons_zero, List.getElem_cons_succ, Act.put, List.setIfInBounds_toArray, List.set_cons_zero, List.set_cons_succ]
        refine wpAnyH_take (i := 6) (v := .pointer (some ⟨p, 112, none⟩)) rfl (by kernel_rfl) (by kernel_rfl) (by kernel_rfl) (fun _ _ _ h => h) (Or.inl ⟨by rfl, fun W hSw => by (first | (go_simp; done) | (go_simp; with_reducible rfl) | (go_simp; rfl))⟩) hHeld ?_
        try simp only [List.getElem_toArray, List.getElem_cons_zero, List.getElem_cons_succ, Act.put, List.setIfInBounds_toArray, List.set_cons_zero, List.set_cons_succ]
        refine wpAnyH_ready (rs := [7]) (by kernel_rfl) (by simp) ?_
        refine AllReadyH.cons rfl (fun K hK => ?_) AllReadyH.nil
        rw [if_pos (by rfl)]
        refine InB.storeW 86 _ _ rfl ((HK4.out.hub.same (w' := w4.drew) (Only.refl _ _).drew).in5) rfl ms rfl (by rw [HMc.out.len]; kernel_rfl) (by rw [HK4.out.hub.ok.ma, HMc.out.len]) HMc.out.one ?_; intro w5 hI5 hz5 ho5; have HK5 := Lib.hid (HuAt.of_mask HMc.out.len HK4.out.hub.ok hI5.out); have c144 : w5.cell? ⟨p, 144, none⟩ = some _ := HK5.out.in6.val (i := 0) rfl; have f144 := HK5.out.frozen 144
        refine hK.out _ _ ⟨hHeld.1.trans ho5 (fun i hi => .inl hi), rng_only hHeld.2 ho5 hNp⟩ (fun hHeld => ?_)
        clear hK K
        simp only [List.getElem_toArray, List.getElem_cons_zero, List.getElem_cons_succ, Act.put, List.setIfInBounds_toArray, List.set_cons_zero, List.set_cons_succ]
        refine wpAnyH_take (i := 8) (v := .pointer (some ⟨p, 0, none⟩)) rfl (by kernel_rfl) (by kernel_rfl) (by kernel_rfl) (fun _ _ _ h => h) (Or.inl ⟨by rfl, fun W hSw => by (first | (go_simp; done) | (go_simp; with_reducible rfl) | (go_simp; rfl))⟩) hHeld ?_
        try simp only [List.getElem_toArray, List.getElem_cons_zero, List.getElem_cons_succ, Act.put, List.setIfInBounds_toArray, List.set_cons_zero, List.set_cons_succ]
        refine wpAnyH_take (i := 9) (v := .pointer (some ⟨p, 144, none⟩)) rfl (by kernel_rfl) (by kernel_rfl) (by kernel_rfl) (fun _ _ _ h => h) (Or.inl ⟨by rfl, fun W hSw => by (first | (go_simp; done) | (go_simp; with_reducible rfl) | (go_simp; rfl))⟩) hHeld ?_
        try simp only [List.getElem_toArray, List.getElem_cons_zero, List.getElem_cons_succ, Act.put, List.setIfInBounds_toArray, List.set_cons_zero, List.set_cons_succ]
        refine wpAnyH_ready (rs := [10]) (by kernel_rfl) (by simp) ?_
        refine AllReadyH.cons rfl (fun K hK => ?_) AllReadyH.nil
        rw [if_pos (by rfl)]
        go_simp
        refine hK.out _ _ ⟨hHeld.1.setCell (p := ⟨p, 144, none⟩) (.inl rfl) _, rng_only hHeld.2 ((Only.refl (· = p) w5).setCell (p := ⟨p, 144, none⟩) (.inl rfl) _) hNp⟩ (fun hHeld => ?_)
        clear hK K
        try simp only [List.getElem_toArray, List.getElem_cons_zero, List.getElem_cons_succ, Act.put, List.setIfInBounds_toArray, List.set_cons_zero, List.set_cons_succ]
        refine wpAnyH_done (by kernel_rfl) (NoPanic.normal ?_) _
        have hI6 := HK5.out.in6.setCell (i := 0) (by simp) (.bool fv)
        have HK6 := Lib.hid (HuAt.of_masked HK5.out.ok hI6)
        have HO6 : Hid (Only (· = p) w4 (w5.setCell ⟨p, 144, none⟩ (.bool fv))) := hHeld.1
        clear hHeld hI6 c144 f144
        go_wp2_with (first
          | (go_at_call 71; (with_reducible refine (HTl.out _ _ _ _).mono ?_); rintro e w7 ⟨rfl, hb7, ho7⟩))
        go_ret2
        have hb7' := hb7.out
        rw [show (w5.setCell ⟨p, 144, none⟩ (.bool fv)).heap.size = w5.heap.size from by simp [World.setCell]] at hb7'
        have HO7 : Only (· = p) w4 w7 := HO6.out.trans ho7.out (fun _ h => h.elim)
        refine ⟨_, _, rfl, ?_⟩
        refine Heard.from_ (W := w4) ⟨.inl ⟨rfl, .inr ⟨_, _, 2, c4, _, rfl, hb7', HS4.out.only HO7 (fun _ ad e => by injection e with e; rw [← e]; exact HN4.out), by omega⟩, _, HK4.out.next HO7 (HK6.out.same ho7.out) rfl rfl HK4.out.tc⟩, HO7⟩ HO4.out
end
end Go.Proofs.YtlmkpembccehkaaGreatDoor
