
/- A hub hears of the mask: all that comes of it. -/
import Derived.Test.YtbnfhklpobephaaGreatDoorJHsGather
import Derived.Test.YtbnfhklpobephaaGreatDoorSnReset
import Derived.Test.YtbnfhklpobephaaGreatDoorJEnTurn
import Derived.Test.YtbnfhklpobephaaGreatDoorJMkOf
import Derived.Test.YtbnfhklpobephaaGreatDoorJTbSay
namespace Go.Proofs.YtbnfhklpobephaaGreatDoor
open Go Go.RowKit
set_option maxRecDepth 100000
set_option maxHeartbeats 4000000

section
variable {w : World} {es : List Addr} {A : Option Addr} {n c : Nat} {b : List UInt8} {p q mo mq : Nat} {tp tq : TypeId} {pre post prq poq : List Value} {G : Nat → Prop} {h : Hb} {H : Hs} {ag : Nat → Nat → Bool} {T : Tb}
theorem mkNum_cons (x y : UInt8) (r : List UInt8) : mkNum (x :: y :: r) = if (251 ≤ x.toNat ∧ x.toNat ≤ 254) ∧ y.toNat = 2 then (if mostOf (x.toNat : Int) < (r.length : Int) then 4 else 0) else 9 := rfl
theorem mkRow_cons (x y : UInt8) (r : List UInt8) : mkRow (x :: y :: r) = r ++ List.replicate (32 - r.length) 0 := rfl
theorem mparse_ways (hE : ErrsAt w es) (hs : Src w A n b) (hnc : n ≤ c) :
    (mkNum b ≠ 0 ∧ ∃ a, ErrV es (.iface 409 (.pointer (some a))) (mkNum b) ∧ Calls Tryz.prog 240 #[.slice A n c] w fun e w' => e = .returned (.tuple #[.int .i64 0, mkV mkZ, .iface 409 (.pointer (some a))]) ∧ Only (fun _ => False) w w') ∨
    (mkNum b = 0 ∧ (251 ≤ vbOf b ∧ vbOf b ≤ 254) ∧ (mkRow b).length = 32 ∧ Calls Tryz.prog 240 #[.slice A n c] w fun e w' => e = .returned (.tuple #[.int .i64 (vbOf b : Int), mkV (mkRow b), .nilIface]) ∧ Only (fun _ => False) w w') := by
  have key : ∀ (i : Nat) (a : Addr), mkNum b = i + 1 → es[i]? = some a → (Calls Tryz.prog 240 #[.slice A n c] w fun e w' => ∃ a, es[i]? = some a ∧ e = .returned (.tuple #[.int .i64 0, mkV mkZ, errV a]) ∧ Only (fun _ => False) w w') → mkNum b ≠ 0 ∧ ∃ a, ErrV es (.iface 409 (.pointer (some a))) (mkNum b) ∧ Calls Tryz.prog 240 #[.slice A n c] w fun e w' => e = .returned (.tuple #[.int .i64 0, mkV mkZ, .iface 409 (.pointer (some a))]) ∧ Only (fun _ => False) w w' := by
    intro i a hi ha h
    refine ⟨by omega, a, ErrV.err ha _ hi, h.mono ?_⟩
    rintro e w' ⟨a', ha', rfl, ho⟩
    rw [ha] at ha'
    injection ha' with ha'
    subst ha'
    exact ⟨rfl, ho⟩
  have hE3 := hE.of [2, 3, 8]
  match b, hs, key with
  | [], hs, key =>
    obtain ⟨a, ha, _⟩ := hE3.get 2 2 (by decide) rfl
    exact .inl (key 2 a rfl ha (mparse_short hE3 A n c (by have := hs.1; simp at this; omega)))
  | [_], hs, key =>
    obtain ⟨a, ha, _⟩ := hE3.get 2 2 (by decide) rfl
    exact .inl (key 2 a rfl ha (mparse_short hE3 A n c (by have := hs.1; simp at this; omega)))
  | x :: y :: r, hs, key =>
    have hn : n = r.length + 2 := by have := hs.1; simp at this; omega
    by_cases hb : (251 ≤ x.toNat ∧ x.toNat ≤ 254) ∧ y.toNat = 2
    · by_cases hl : mostOf (x.toNat : Int) < (r.length : Int)
      · obtain ⟨a, ha, _⟩ := hE3.get 3 3 (by decide) rfl
        exact .inl (key 3 a (by rw [mkNum_cons, if_pos hb, if_pos hl]) ha (mparse_long hE3 c hs rfl hb.1 hb.2 (by omega)))
      · have hr32 : r.length ≤ 32 := by unfold mostOf at hl; split at hl <;> omega
        refine .inr ⟨by rw [mkNum_cons, if_pos hb, if_neg hl], hb.1, by rw [mkRow_cons, List.length_append, List.length_replicate]; omega, ?_⟩
        exact mparse_ok (x := x) (y := y) (r := r) hnc hs rfl hb.1 hb.2 (by omega)
    · obtain ⟨a, ha, _⟩ := hE3.get 8 8 (by decide) rfl
      exact .inl (key 8 a (by rw [mkNum_cons, if_neg hb]) ha (mparse_kind hE3 c hs rfl hb))
/-- WILL to DO, WONT to DONT. -/
theorem snAnswer_any (W : World) (v : Nat) (hv : v = 253 ∨ v = 254) : Calls Tryz.prog 241 #[.int .i64 (v : Int), .bool (decide ((v : Int) = 251 ∨ (v : Int) = 253))] W fun e w' => e = .returned (.tuple #[.int .i64 ((v : Int) - 2), .bool true]) ∧ w' = W := by
  have HV := Lib.hid (fun W c => verb_any W c)
  have HO := Lib.hid (fun W c => own_any W c)
  rcases hv with rfl | rfl
  all_goals
    go_enter Tryz.func241, Tryz.ntmps241
    go_wp2_with (first
      | (go_at_call 158; (with_reducible refine (HV.out _ _).mono ?_); rintro e w' ⟨rfl, e2⟩; subst w')
      | (go_at_call 207; (with_reducible refine (HO.out _ _).mono ?_); rintro e w' ⟨rfl, e2⟩; subst w'))
    go_ret2
    exact ⟨rfl, rfl⟩
/-- A body of two bytes: it lies in a block of its own. -/
theorem mbody_two {w : World} {v : Int} (hv : 251 ≤ v ∧ v ≤ 254) (h3 : v ≠ 253) {m : List UInt8} (hl : m.length = 32) :
    Calls Tryz.prog 242 #[.int .i64 v, mkV m] w fun e w' => ∃ N, e = .returned (.tuple #[.slice (some ⟨N, 0, none⟩) 2 2, .nilIface]) ∧ w.heap.size ≤ N ∧ Hid (Src w' (some ⟨N, 0, none⟩) 2 [b8 v, 2]) ∧ Hid (Only (fun _ => False) w w') := by
  have HV := Lib.hid (fun W => verb_any W v)
  rw [decide_eq_true hv] at HV
  have hw8 : IntKind.u8.wrap v = v := IntWalk.u8_in _ (by omega)
  have HO : Hid (Only (fun _ => False) w (w.alloc (.cells (m.map B8).toArray 120))) := (Only.refl _ w).alloc _
  have HP : Hid (∀ (W : World) (N : Nat), W.heap.size = N → Body (W.alloc (.cells #[.int .u8 v, .int .u8 2] 5)) N (.slice (some ⟨N, 0, none⟩) 2 2) [b8 v, 2]) := fun W N hN => by
    subst hN
    refine own_of_blk (cur := [.int .u8 v, .int .u8 2]) (Blk.new W 5 [.int .u8 v, .int .u8 2]) rfl ?_ (by simp) (by simp) (Nat.le_refl _)
    simp only [List.map_cons, List.map_nil, B8]
    rw [b8_int (by omega) (by omega)]
    rfl
  unfold mkV at *
  obtain ⟨cs, hcs⟩ : ∃ cs, cs = m.map B8 := ⟨_, rfl⟩
  rw [← hcs] at HO ⊢
  clear hcs hl hv
  have e1 : (v == 253) = false := by simp [h3]
  have HPx := Lib.hid (HP.out (w.alloc (.cells cs.toArray 120)) (w.heap.size + 1) (by simp))
  clear h3
  go_enter Tryz.func242, Tryz.ntmps242
  go_wp2_with (first
    | (go_at_call 158; (with_reducible refine (HV.out _).mono ?_); rintro e w1 ⟨rfl, e1⟩; subst w1)
    | fail)
  go_ret2
  exact ⟨_, rfl, by omega, HPx.out.src rfl, HO.out.alloc _⟩
theorem zero_maskS : (Tryz.prog.info? 120).map (fun i => (i.zero, i.size)) = some (some (.agg (mkZ.map B8).toArray), 32) := by kernel_rfl
theorem hsMask (hE : ErrsAt w es) (k : HsAt w p mo tp pre post G h H) (hT : TbAt w q mq tq prq poq ag T) (hs : Src w A n b) (hn : n ≤ 256) (hnc : n ≤ c) (hcap : c ≤ 9223372036854775807) : HearsF 227 w es p mo tp pre post G q mq 34 A n c (H.hearMask T b) := by
  obtain ⟨r, hr⟩ : ∃ r, r = H.hearMask T b := ⟨_, rfl⟩
  rw [← hr]
  unfold Hs.hearMask at hr
  have hways := mparse_ways hE hs hnc
  obtain ⟨a, ha, hst⟩ := (hE.of [9]).get 9 9 (by decide) rfl
  have HA10 : Hid (ErrV es (errV a) 10) := ErrV.err ha 10 rfl
  unfold errV at hst HA10
  have HC : Hid (∀ W, Only (fun _ => False) w W → W.cell? ⟨9, 0, none⟩ = some (.iface 409 (.pointer (some a)))) := fun W ho => ho.cellv hst (fun h => h)
  have HK := Lib.hid k
  have HTb := Lib.hid hT
  have HOw := Lib.hid (fun W c => own_any W c)
  have HFo := Lib.hid (fun W c => for_any W c)
  have HSd := Lib.hid (fun W b => snSide_any W b)
  have HTl := Lib.hid (fun W A n c => tell_any W 34 A n c)
  have hz := zero_maskS
  obtain ⟨zs, hzs⟩ : ∃ zs, zs = mkZ.map B8 := ⟨_, rfl⟩
  have hbm := built_mask
  have hzc := MkCells.of (m := mkZ) (by decide)
  rw [← hzs] at hz hbm hzc
  have HZ := Lib.hid hz
  have HBm := Lib.hid hbm
  have HZc := Lib.hid hzc
  have HZs := Lib.hid hzs
  clear hE k hT hs ha hst hn hnc hcap hz hbm hzc hzs
  rcases hways with ⟨hnz, a1, hV1, hP⟩ | ⟨hnz, hv, hm, hP⟩
  · have e0 : onNum (mkNum b) (onAt T (decide (253 ≤ vbOf b)) 34) = mkNum b := by unfold onNum; rw [if_neg hnz]
    have HR1 : Hid (r = (mkNum b, none, H)) := by
      show r = _
      rw [hr, e0]
      exact if_pos hnz
    have HV1 := Lib.hid hV1
    clear hr e0 hnz hV1
    have HP := Lib.hid hP
    unfold mkV at HP
    rw [← HZs.out] at HP
    clear hP
    go_enter Tryz.func227, Tryz.ntmps227
    go_wp2_with (first
      | (go_at_call 240; (with_reducible refine HP.out.mono ?_); rintro e w1 ⟨rfl, ho1⟩; have HO1 := Lib.hid ho1; clear ho1)
      | ((with_reducible show wpList _ _ _ (⟨some 9, .alloc _, _, _, _, _⟩ :: _) _ _); refine step_alloc rfl 120 rfl zs 32 HZ.out ?_)
      | ((with_reducible show wpList _ _ _ (⟨none, .store 120 _ _, _, _, _, _⟩ :: _) _ _); refine step_store rfl 120 _ _ rfl w1.heap.size rfl zs rfl _ zs (Blk.new w1 120 zs) HZc.out.size rfl HZc.out.one ?_; intro w2 hB2 hz2 ho2))
    go_ret2
    rw [HR1.out]
    refine ⟨_, _, rfl, Ans.bad HK.out ?_ HV1.out⟩
    exact (HO1.out.alloc _).trans ho2 (fun i hi => .inr (by rw [hi]; exact HO1.out.size))
  · obtain ⟨v, hvv⟩ : ∃ v, v = vbOf b := ⟨_, rfl⟩
    obtain ⟨m, hmm⟩ : ∃ m, m = mkRow b := ⟨_, rfl⟩
    rw [← hvv, ← hmm] at hr
    rw [← hvv] at hv hP
    rw [← hmm] at hm hP
    rw [hnz] at hr
    have hside : T.get (if (!decide ((v : Int) = 251 ∨ (v : Int) = 252)) = true then (0 : Int) else 1) 34 = T.get (if decide (253 ≤ v) = true then 0 else 1) 34 := by
      by_cases h3 : 253 ≤ v
      · rw [decide_eq_true h3, decide_eq_false (by omega)]; rfl
      · rw [decide_eq_false h3, decide_eq_true (by omega)]; rfl
    clear hvv hmm hnz
    have HP := Lib.hid hP
    have hmc := MkCells.of hm
    unfold mkV at HP
    obtain ⟨ms, hms⟩ : ∃ ms, ms = m.map B8 := ⟨_, rfl⟩
    rw [← hms] at HP hmc
    have HMc := Lib.hid hmc
    have HMs := Lib.hid hms
    have hlz : zs.length = ms.length := by rw [HZc.out.len, hmc.len]
    have HLz := Lib.hid hlz
    clear hP hm hms hmc hlz
    by_cases hon : T.get (if (!decide ((v : Int) = 251 ∨ (v : Int) = 252)) = true then (0 : Int) else 1) 34 = .yes
    case neg =>
      have HR1 : Hid (r = (10, none, H)) := by
        show r = _
        rw [hr]
        unfold onAt onNum
        rw [← hside, decide_eq_false hon]
        rfl
      clear hr hside
      have HOn : Hid (∀ W, Only (fun _ => False) w W → Calls Tryz.prog 49 #[.pointer (some ⟨q, mq, none⟩), .int .i64 (if (!decide ((v : Int) = 251 ∨ (v : Int) = 252)) = true then (0 : Int) else 1), .int .i64 34] W fun e w' => e = .returned (.bool false) ∧ Only (fun _ => False) W w') := fun W ho => by
        have := ton_any (HTb.out.same ho) (if (!decide ((v : Int) = 251 ∨ (v : Int) = 252)) = true then (0 : Int) else 1) 34
        rwa [decide_eq_false hon] at this
      clear hon
      have HOw' : Hid (∀ W, Calls Tryz.prog 207 #[.int .i64 (v : Int)] W fun e w' => e = .returned (.bool (decide ((v : Int) = 251 ∨ (v : Int) = 252))) ∧ w' = W) := fun W => HOw.out W _
      have HSd' : Hid (∀ W, Calls Tryz.prog 220 #[.bool (!decide ((v : Int) = 251 ∨ (v : Int) = 252))] W fun e w' => e = .returned (.int .i64 (if (!decide ((v : Int) = 251 ∨ (v : Int) = 252)) = true then (0 : Int) else 1)) ∧ w' = W) := fun W => HSd.out W _
      generalize (if (!decide ((v : Int) = 251 ∨ (v : Int) = 252)) = true then (0 : Int) else 1) = xi at *
      generalize decide ((v : Int) = 251 ∨ (v : Int) = 252) = ow at *
      clear HSd HOw
      go_enter Tryz.func227, Tryz.ntmps227
      go_wp2_with (first
        | (go_at_call 240; (with_reducible refine HP.out.mono ?_); rintro e w1 ⟨rfl, ho1⟩; have HO1 := Lib.hid ho1; clear ho1)
        | ((with_reducible show wpList _ _ _ (⟨some 9, .alloc _, _, _, _, _⟩ :: _) _ _); refine step_alloc rfl 120 rfl zs 32 HZ.out ?_)
        | ((with_reducible show wpList _ _ _ (⟨none, .store 120 _ _, _, _, _, _⟩ :: _) _ _); refine step_store rfl 120 _ _ rfl w1.heap.size rfl ms rfl _ zs (Blk.new w1 120 zs) HMc.out.size HLz.out HMc.out.one ?_; intro w2 hB2 hz2 ho2; have HO2 : Hid (Only (fun _ => False) w w2) := (HO1.out.alloc _).trans ho2 (fun i hi => .inr (by rw [hi]; exact HO1.out.size)))
        | (go_at_call 207; (with_reducible refine (HOw'.out _).mono ?_); rintro e w' ⟨rfl, e2⟩; subst w')
        | (go_at_call 220; (with_reducible refine (HSd'.out _).mono ?_); rintro e w' ⟨rfl, e2⟩; subst w')
        | (go_at_call 49; (with_reducible refine (HOn.out _ HO2.out).mono ?_); rintro e w3 ⟨rfl, ho3⟩; have HO3 := Lib.hid (HO2.out.trans ho3 (fun _ h => h.elim)); have hc3 := HC.out _ HO3.out; clear ho3))
      go_quiet (fail)
      go_wp2
      go_ret2
      rw [HR1.out]
      exact ⟨_, _, rfl, Ans.bad HK.out (HO3.out.drewN _) HA10.out⟩
    case pos =>
      have e0 : onNum 0 (onAt T (decide (253 ≤ v)) 34) = 0 := by
        unfold onAt onNum
        rw [← hside, decide_eq_true hon]
        rfl
      rw [e0] at hr
      clear e0 hside
      have HOn : Hid (∀ W, Only (fun _ => False) w W → Calls Tryz.prog 49 #[.pointer (some ⟨q, mq, none⟩), .int .i64 (if (!decide ((v : Int) = 251 ∨ (v : Int) = 252)) = true then (0 : Int) else 1), .int .i64 34] W fun e w' => e = .returned (.bool true) ∧ Only (fun _ => False) W w') := fun W ho => by
        have := ton_any (HTb.out.same ho) (if (!decide ((v : Int) = 251 ∨ (v : Int) = 252)) = true then (0 : Int) else 1) 34
        rwa [decide_eq_true hon] at this
      clear hon
      have HOw' : Hid (∀ W, Calls Tryz.prog 207 #[.int .i64 (v : Int)] W fun e w' => e = .returned (.bool (decide ((v : Int) = 251 ∨ (v : Int) = 252))) ∧ w' = W) := fun W => HOw.out W _
      have HSd' : Hid (∀ W, Calls Tryz.prog 220 #[.bool (!decide ((v : Int) = 251 ∨ (v : Int) = 252))] W fun e w' => e = .returned (.int .i64 (if (!decide ((v : Int) = 251 ∨ (v : Int) = 252)) = true then (0 : Int) else 1)) ∧ w' = W) := fun W => HSd.out W _
      clear HSd HOw
      by_cases hv2 : v = 251 ∨ v = 252
      · rw [decide_eq_true (show (v : Int) = 251 ∨ (v : Int) = 252 by omega)] at HOn HOw' HSd'
        simp only [Bool.not_true, Bool.false_eq_true, if_false] at HOn HSd'
        have HR1 : Hid (r = (0, none, H)) := by
          show r = _
          rw [hr]
          simp only [ne_eq, not_true_eq_false, if_false]
          rw [if_pos (by omega)]
        clear hv2 hv hr
        go_enter Tryz.func227, Tryz.ntmps227
        go_wp2_with (first
          | (go_at_call 240; (with_reducible refine HP.out.mono ?_); rintro e w1 ⟨rfl, ho1⟩; have HO1 := Lib.hid ho1; clear ho1)
          | ((with_reducible show wpList _ _ _ (⟨some 9, .alloc _, _, _, _, _⟩ :: _) _ _); refine step_alloc rfl 120 rfl zs 32 HZ.out ?_)
          | ((with_reducible show wpList _ _ _ (⟨none, .store 120 _ _, _, _, _, _⟩ :: _) _ _); refine step_store rfl 120 _ _ rfl w1.heap.size rfl ms rfl _ zs (Blk.new w1 120 zs) HMc.out.size HLz.out HMc.out.one ?_; intro w2 hB2 hz2 ho2; have HO2 : Hid (Only (fun _ => False) w w2) := (HO1.out.alloc _).trans ho2 (fun i hi => .inr (by rw [hi]; exact HO1.out.size)))
          | (go_at_call 207; (with_reducible refine (HOw'.out _).mono ?_); rintro e w' ⟨rfl, e2⟩; subst w')
          | (go_at_call 220; (with_reducible refine (HSd'.out _).mono ?_); rintro e w' ⟨rfl, e2⟩; subst w')
          | (go_at_call 49; (with_reducible refine (HOn.out _ HO2.out).mono ?_); rintro e w3 ⟨rfl, ho3⟩; have HO3 := Lib.hid (HO2.out.trans ho3 (fun _ h => h.elim)); have HB3 := Lib.hid (hB2.only ho3 (fun h => h)); clear ho3))
        go_ret2
        rw [HR1.out]
        exact ⟨_, _, rfl, ErrV.nil es, rfl, ⟨_, G, HK.out.same HO3.out, fun _ h => .inl h⟩, HO3.out.mono (fun _ h => h.elim)⟩
      · have hv3 : v = 253 ∨ v = 254 := by omega
        rw [decide_eq_false (show ¬ ((v : Int) = 251 ∨ (v : Int) = 252) by omega)] at HOn HOw' HSd'
        simp only [Bool.not_false, if_true] at HOn HSd'
        have HFo' : Hid (∀ W, Calls Tryz.prog 194 #[.int .i64 (v : Int)] W fun e w' => e = .returned (.bool (decide ((v : Int) = 251 ∨ (v : Int) = 253))) ∧ w' = W) := fun W => HFo.out W _
        have HAn := Lib.hid (fun W => snAnswer_any W v hv3)
        have HBd := Lib.hid (fun W => mbody_two (w := W) (v := (v : Int) - 2) (by omega) (by omega) (m := mkZ) (by decide))
        unfold mkV at HBd
        rw [← HZs.out] at HBd
        have hfv : decide ((v : Int) = 251 ∨ (v : Int) = 253) = decide (v = 253) := decide_eq_decide.2 (by omega)
        have HR1 : Hid (r = (0, some [b8 ((v : Int) - 2), 2], { H with m := m, ms := decide ((v : Int) = 251 ∨ (v : Int) = 253) })) := by
          show r = _
          rw [hr, hfv]
          simp only [ne_eq, not_true_eq_false, if_false]
          rw [if_neg (by omega)]
        generalize decide ((v : Int) = 251 ∨ (v : Int) = 253) = fv at *
        clear hv2 hv hv3 HFo hr hfv
        go_enter Tryz.func227, Tryz.ntmps227
        go_wp2_with (first
          | (go_at_call 240; (with_reducible refine HP.out.mono ?_); rintro e w1 ⟨rfl, ho1⟩; have HO1 := Lib.hid ho1; clear ho1)
          | ((with_reducible show wpList _ _ _ (⟨some 9, .alloc _, _, _, _, _⟩ :: _) _ _); refine step_alloc rfl 120 rfl zs 32 HZ.out ?_)
          | ((with_reducible show wpList _ _ _ (⟨none, .store 120 _ _, _, _, _, _⟩ :: _) _ _); refine step_store rfl 120 _ _ rfl w1.heap.size rfl ms rfl _ zs (Blk.new w1 120 zs) HMc.out.size HLz.out HMc.out.one ?_; intro w2 hB2 hz2 ho2; have HO2 : Hid (Only (fun _ => False) w w2) := (HO1.out.alloc _).trans ho2 (fun i hi => .inr (by rw [hi]; exact HO1.out.size)))
          | (go_at_call 207; (with_reducible refine (HOw'.out _).mono ?_); rintro e w' ⟨rfl, e2⟩; subst w')
          | (go_at_call 220; (with_reducible refine (HSd'.out _).mono ?_); rintro e w' ⟨rfl, e2⟩; subst w')
          | (go_at_call 49; (with_reducible refine (HOn.out _ HO2.out).mono ?_); rintro e w3 ⟨rfl, ho3⟩; have HO3 := Lib.hid (HO2.out.trans ho3 (fun _ h => h.elim)); have HB3 := Lib.hid (hB2.only ho3 (fun h => h)); clear ho3)
          | (go_at_call 194; (with_reducible refine (HFo'.out _).mono ?_); rintro e w' ⟨rfl, e2⟩; subst w')
          | (go_at_call 241; (with_reducible refine (HAn.out _).mono ?_); rintro e w' ⟨rfl, e2⟩; subst w')
          | ((with_reducible show wpList _ _ _ (⟨some 45, _, _, _, _, _⟩ :: _) _ _); refine step_build0 rfl 120 rfl zs HBm.out ?_)
          | (go_at_call 242; (with_reducible refine (HBd.out _).mono ?_); rintro e w4 ⟨N4, rfl, hN4, hs4, ho4⟩; have HS4 := Lib.hid hs4.out; have HN4 := Lib.hid (show N4 ≠ p ∧ w.heap.size ≤ N4 by have h1 := HK.out.hub.lt; have h2 := HO3.out.size; omega); have HZ4 := Lib.hid (show w.heap.size ≤ w4.heap.size from Nat.le_trans HO3.out.size ho4.out.size); clear hN4; have HO4 := Lib.hid (HO3.out.trans ho4.out (fun _ h => h.elim)); have HB4 := Lib.hid (HB3.out.only ho4.out (fun h => h)); clear hs4 ho4))
        obtain ⟨N, hN⟩ : ∃ N, N = w1.heap.size := ⟨_, rfl⟩
        rw [← hN] at HB4 ⊢
        have hNp : N ≠ p := by have h1 := HK.out.hub.lt; have h2 := HO1.out.size; omega
        clear hN HB3 hB2 hz2 ho2
        have HK4 := Lib.hid (HK.out.same HO4.out)
        have hp4 : p < w4.heap.size := HK4.out.hub.lt
        refine wp_region_noPanic ?_
        refine wp_region_held_drew (S := fun W => Only (· = p) w4 W ∧ W.rangeAt N 0 ms) (by kernel_rfl) ⟨(Only.refl _ _).drew, rng_blk (HB4.out.only ((Only.refl (fun _ => False) w4).drew) (fun h => h))⟩ (fun hHeld => ?_)
        refine wpAnyH_take (i := 0) (v := .pointer (some ⟨p, mo, none⟩)) rfl (by kernel_rfl) (by kernel_rfl) (by kernel_rfl) (fun _ _ _ h => h) (Or.inl ⟨by rfl, fun W hSw => by (first | (go_simp; done) | (go_simp; with_reducible rfl) | (go_simp; rfl))⟩) hHeld ?_
        try simp only [List.getElem_toArray, List.getElem_cons_zero, List.getElem_cons_succ, Act.put, List.setIfInBounds_toArray, List.set_cons_zero, List.set_cons_succ]
        refine wpAnyH_take (i := 1) (v := .pointer (some ⟨p, mo, none⟩)) rfl (by kernel_rfl) (by kernel_rfl) (by kernel_rfl) (fun _ _ _ h => h) (Or.inl ⟨by rfl, fun W hSw => by (first | (go_simp; done) | (go_simp; with_reducible rfl) | (go_simp; rfl))⟩) hHeld ?_
        try simp only [List.getElem_toArray, List.getElem_cons_zero, List.getElem_cons_succ, Act.put, List.setIfInBounds_toArray, List.set_cons_zero, List.set_cons_succ]
        refine wpAnyH_take (i := 2) (v := .agg ms.toArray) rfl (by kernel_rfl) (by kernel_rfl) (by kernel_rfl) (fun _ _ _ h => h) (yieldsIf_load_mid (by rfl) 120 _ rfl N 0 rfl ms _ (fun W h => h.2) Tryz.underlying120 rfl (by rw [HMc.out.len]; kernel_rfl)) hHeld ?_
        simp only [List.getElem_toArray, List.getElem_cons_zero, List.getElem_cons_succ, Act.put, List.setIfInBounds_toArray, List.set_cons_zero, List.set_cons_succ]
        refine wpAnyH_take (i := 3) (v := .int .i64 (v : Int)) rfl (by kernel_rfl) (by kernel_rfl) (by kernel_rfl) (fun _ _ _ h => h) (Or.inl ⟨by rfl, fun W hSw => by (first | (go_simp; done) | (go_simp; with_reducible rfl) | (go_simp; rfl))⟩) hHeld ?_
        try simp only [List.getElem_toArray, List.getElem_cons_zero, List.getElem_cons_succ, Act.put, List.setIfInBounds_toArray, List.set_cons_zero, List.set_cons_succ]
        refine wpAnyH_ready (rs := [4]) (by kernel_rfl) (by simp) ?_
        refine AllReadyH.cons rfl (fun K hK => ?_) AllReadyH.nil
        go_simp
        (go_at_call 194; (with_reducible refine (HFo'.out _).mono ?_); rintro e w' ⟨rfl, e2⟩; subst w')
        refine hK.out _ _ hHeld (fun hHeld => ?_)
        clear hK K
        refine wpAnyH_take (i := 5) (v := .pointer (some ⟨p, mo, none⟩)) rfl (by kernel_rfl) (by kernel_rfl) (by kernel_rfl) (fun _ _ _ h => h) (Or.inl ⟨by rfl, fun W hSw => by (first | (go_simp; done) | (go_simp; with_reducible rfl) | (go_simp; rfl))⟩) hHeld ?_
        try simp only [List.getElem_toArray, List.getElem_cons_zero, List.getElem_cons_succ, Act.put, List.setIfInBounds_toArray, List.set_cons_zero, List.set_cons_succ]
        refine wpAnyH_take (i := 6) (v := .pointer (some ⟨p, mo + 112, none⟩)) rfl (by kernel_rfl) (by kernel_rfl) (by kernel_rfl) (fun _ _ _ h => h) (Or.inl ⟨by rfl, fun W hSw => by (first | (go_simp; done) | (go_simp; with_reducible rfl) | (go_simp; rfl))⟩) hHeld ?_
        try simp only [List.getElem_toArray, List.getElem_cons_zero, List.getElem_cons_succ, Act.put, List.setIfInBounds_toArray, List.set_cons_zero, List.set_cons_succ]
        refine wpAnyH_ready (rs := [7]) (by kernel_rfl) (by simp) ?_
        refine AllReadyH.cons rfl (fun K hK => ?_) AllReadyH.nil
        rw [if_pos (by rfl)]
        refine InB.storeW 120 _ _ rfl ((HK4.out.hub.same (w' := w4.drew) (Only.refl _ _).drew).in5) rfl ms rfl (by rw [HMc.out.len]; kernel_rfl) (by rw [HK4.out.hub.ok.ma, HMc.out.len]) HMc.out.one ?_; intro w5 hI5 hz5 ho5; have HK5 := Lib.hid (HuAt.of_mask HMc.out.len HK4.out.hub.ok hI5.out); have c144 : w5.cell? ⟨p, mo + 144, none⟩ = some _ := HK5.out.in6.val (i := 0) rfl; have f144 := HK5.out.frozen (mo + 144)
        refine hK.out _ _ ⟨hHeld.1.trans ho5 (fun i hi => .inl hi), rng_only hHeld.2 ho5 hNp⟩ (fun hHeld => ?_)
        clear hK K
        simp only [List.getElem_toArray, List.getElem_cons_zero, List.getElem_cons_succ, Act.put, List.setIfInBounds_toArray, List.set_cons_zero, List.set_cons_succ]
        refine wpAnyH_take (i := 8) (v := .pointer (some ⟨p, mo, none⟩)) rfl (by kernel_rfl) (by kernel_rfl) (by kernel_rfl) (fun _ _ _ h => h) (Or.inl ⟨by rfl, fun W hSw => by (first | (go_simp; done) | (go_simp; with_reducible rfl) | (go_simp; rfl))⟩) hHeld ?_
        try simp only [List.getElem_toArray, List.getElem_cons_zero, List.getElem_cons_succ, Act.put, List.setIfInBounds_toArray, List.set_cons_zero, List.set_cons_succ]
        refine wpAnyH_take (i := 9) (v := .pointer (some ⟨p, mo + 144, none⟩)) rfl (by kernel_rfl) (by kernel_rfl) (by kernel_rfl) (fun _ _ _ h => h) (Or.inl ⟨by rfl, fun W hSw => by (first | (go_simp; done) | (go_simp; with_reducible rfl) | (go_simp; rfl))⟩) hHeld ?_
        try simp only [List.getElem_toArray, List.getElem_cons_zero, List.getElem_cons_succ, Act.put, List.setIfInBounds_toArray, List.set_cons_zero, List.set_cons_succ]
        refine wpAnyH_ready (rs := [10]) (by kernel_rfl) (by simp) ?_
        refine AllReadyH.cons rfl (fun K hK => ?_) AllReadyH.nil
        rw [if_pos (by rfl)]
        go_simp
        refine hK.out _ _ ⟨hHeld.1.setCell (p := ⟨p, mo + 144, none⟩) (.inl rfl) _, rng_only hHeld.2 ((Only.refl (· = p) w5).setCell (p := ⟨p, mo + 144, none⟩) (.inl rfl) _) hNp⟩ (fun hHeld => ?_)
        clear hK K
        try simp only [List.getElem_toArray, List.getElem_cons_zero, List.getElem_cons_succ, Act.put, List.setIfInBounds_toArray, List.set_cons_zero, List.set_cons_succ]
        refine wpAnyH_done (by kernel_rfl) (NoPanic.normal ?_) _
        have hI6 := HK5.out.in6.setCell (i := 0) (by simp) (.bool fv)
        have HK6 := Lib.hid (HuAt.of_masked HK5.out.ok hI6)
        have HO6 : Hid (Only (· = p) w4 (w5.setCell ⟨p, mo + 144, none⟩ (.bool fv))) := hHeld.1
        clear hHeld hI6 c144 f144
        go_wp2_with (first
          | (go_at_call 212; (with_reducible refine (HTl.out _ _ _ _).mono ?_); rintro e w7 ⟨rfl, hb7, ho7⟩))
        go_ret2
        have hb7' := hb7.out
        rw [show (w5.setCell ⟨p, mo + 144, none⟩ (.bool fv)).heap.size = w5.heap.size from by simp [World.setCell]] at hb7'
        have HO7 : Only (· = p) w4 w7 := HO6.out.trans ho7.out (fun _ h => h.elim)
        rw [HR1.out]
        have hk := HK4.out.is.own HO7
        have hz5 := HO6.out.size
        refine ⟨_, _, rfl, ErrV.nil es, ⟨_, _, 2, 2, rfl, ?_, hb7', HS4.out.only HO7 (fun _ ad e => by injection e with e; rw [← e]; exact HN4.out.1), fun _ ad e => by injection e with e; rw [← e]; exact HN4.out.2, Nat.le_refl _, by omega⟩, ⟨_, G, ⟨HK6.out.same ho7.out, { hk with ma := HMs.out, ms := rfl }⟩, fun _ h => .inl h⟩, (Only.mono (T := (· = p)) HO4.out (fun _ h => h.elim)).trans HO7 (fun i hi => .inl hi)⟩
        have h4 := HZ4.out
        simp [World.setCell] at hz5
        omega
end
end Go.Proofs.YtbnfhklpobephaaGreatDoor
