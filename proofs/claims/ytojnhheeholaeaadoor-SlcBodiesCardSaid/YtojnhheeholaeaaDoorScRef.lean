/- Layer 14's document, walked: Fine, Right; Of; a side's cells; Waits. -/
import Derived.Test.YtojnhheeholaeaaDoorScSide
namespace Go.Proofs.YtojnhheeholaeaaDoor
open Go Go.RowKit
set_option maxRecDepth 100000
set_option maxHeartbeats 4000000

theorem size_rset : (Tryd.prog.info? 39).map (·.size) = some 2 := by kernel_rfl
theorem size_rtri : (Tryd.prog.info? 41).map (·.size) = some 4 := by kernel_rfl

theorem rfine_any (W : World) (l v : Int) : Calls Tryd.prog 27 #[.agg #[.int .i64 l, .int .i64 v]] W fun e w' => e = .returned (.bool (Se.fine ⟨l, v⟩)) ∧ Only (fun _ => False) W w' := by
  obtain ⟨b, hb⟩ : ∃ b, b = Se.fine ⟨l, v⟩ := ⟨_, rfl⟩
  rw [← hb]
  unfold Se.fine at hb
  simp only at hb
  by_cases h0 : l = 0
  · subst h0
    by_cases hv : v = 0
    all_goals
      have HB := Lib.hid hb
      clear hb
      go_enter Tryd.func27, Tryd.ntmps27
      go_wp2
      go_ret
      refine ⟨?_, (Only.refl _ _).alloc _⟩
      rw [HB.out]
      simp [hv]
  · by_cases h3 : l = 3
    · subst h3
      by_cases hv : v = 0
      all_goals
        have HB := Lib.hid hb
        clear hb
        go_enter Tryd.func27, Tryd.ntmps27
        go_wp2
        go_ret
        refine ⟨?_, (Only.refl _ _).alloc _⟩
        rw [HB.out]
        simp [hv]
    · have e0 : (l == 0) = false := by simp [h0]
      have e3 : (l == 3) = false := by simp [h3]
      by_cases h1 : l = 1
      · subst h1
        cases hv : decide (0 ≤ v) <;> cases hw : decide (v < 256)
        all_goals
          have HB := Lib.hid hb
          clear hb
          go_enter Tryd.func27, Tryd.ntmps27
          go_wp2
          go_ret
          refine ⟨?_, (Only.refl _ _).alloc _⟩
          rw [HB.out]
          simp at hv hw ⊢
          try omega
      · by_cases h2 : l = 2
        · subst h2
          cases hv : decide (0 ≤ v) <;> cases hw : decide (v < 256)
          all_goals
            have HB := Lib.hid hb
            clear hb
            go_enter Tryd.func27, Tryd.ntmps27
            go_wp2
            go_ret
            refine ⟨?_, (Only.refl _ _).alloc _⟩
            rw [HB.out]
            simp at hv hw ⊢
            try omega
        · have e1 : (l == 1) = false := by simp [h1]
          have e2 : (l == 2) = false := by simp [h2]
          have HB := Lib.hid hb
          clear hb
          go_enter Tryd.func27, Tryd.ntmps27
          go_wp2
          go_ret
          refine ⟨?_, (Only.refl _ _).alloc _⟩
          rw [HB.out]
          simp [h0, h1, h2, h3]

theorem rright_any (W : World) (t : Tr) : Calls Tryd.prog 20 #[t.val] W fun e w' => e = .returned (.bool t.right) ∧ Only (fun _ => False) W w' := by
  obtain ⟨f, ⟨l, v⟩, k⟩ := t
  unfold Tr.right
  simp only
  have HS := Lib.hid (fun W => rfine_any W l v)
  generalize Se.fine ⟨l, v⟩ = q at *
  cases ha : decide ((0 : Int) < f)
  · have hf : isF f = false := by unfold isF; simp at ha ⊢; omega
    rw [hf]
    clear hf
    go_enter Tryd.func20, Tryd.ntmps20
    go_wp2
    go_ret
    exact ⟨rfl, (Only.refl _ _).alloc _⟩
  · cases hb : decide (f < 19)
    · have hf : isF f = false := by unfold isF; simp at hb ⊢; omega
      rw [hf]
      clear hf
      go_enter Tryd.func20, Tryd.ntmps20
      go_wp2
      go_ret
      exact ⟨rfl, (Only.refl _ _).alloc _⟩
    · have hf : isF f = true := by unfold isF; simp at ha hb ⊢; omega
      rw [hf]
      clear hf
      go_enter Tryd.func20, Tryd.ntmps20
      go_wp2_with (first
        | (go_at_call 27; refine (HS.out _).mono ?_; rintro e w2 ⟨rfl, ho2⟩; have HO2 := Lib.hid ho2; clear ho2)
        | fail)
      go_ret
      exact ⟨rfl, ((Only.refl _ _).alloc _).trans HO2.out (fun _ h => h.elim)⟩

theorem of_any (W : World) (t : Tr) : Calls Tryd.prog 12 #[t.val] W fun e w' => e = .returned t.val ∧ Only (fun _ => False) W w' := by
  obtain ⟨f, ⟨l, v⟩, k⟩ := t
  go_enter Tryd.func12, Tryd.ntmps12
  go_wp2
  refine ret_cell1 rfl (W.heap.size + 1) rfl 41 [.int .i64 f, .int .i64 l, .int .i64 v, .bool k] _ (Blk.new' _ _ _ (by simp)) Tryd.underlying41 rfl size_rtri rfl ?_
  exact ⟨rfl, ((Only.refl _ _).alloc _).alloc _⟩

/-- The document's side: of the functions from 1 on. -/
structure RfC (cs : List Value) (S : Sd) : Prop where
  len : cs.length = 95
  hasl : ∀ i, i < 18 → cs[(i + 1) * 2]? = some (.int .i64 (S i).has.l)
  hasv : ∀ i, i < 18 → cs[(i + 1) * 2 + 1]? = some (.int .i64 (S i).has.v)
  holl : ∀ i, i < 18 → cs[38 + (i + 1) * 2]? = some (.int .i64 (S i).holds.l)
  holv : ∀ i, i < 18 → cs[38 + (i + 1) * 2 + 1]? = some (.int .i64 (S i).holds.v)
  wait : ∀ i, i < 18 → cs[76 + (i + 1)]? = some (.bool (S i).waits)
  none : cs[76]? = some (.bool false)
def rf0 : List Value := List.replicate 76 (.int .i64 0) ++ List.replicate 19 (.bool false)
theorem rf0_c : RfC rf0 Sd.zero := by
  refine ⟨by simp [rf0], fun i hi => ?_, fun i hi => ?_, fun i hi => ?_, fun i hi => ?_, fun i hi => ?_, ?_⟩
  · rw [rf0, List.getElem?_append_left (by simp; omega), List.getElem?_replicate, if_pos (by omega)]; rfl
  · rw [rf0, List.getElem?_append_left (by simp; omega), List.getElem?_replicate, if_pos (by omega)]; rfl
  · rw [rf0, List.getElem?_append_left (by simp; omega), List.getElem?_replicate, if_pos (by omega)]; rfl
  · rw [rf0, List.getElem?_append_left (by simp; omega), List.getElem?_replicate, if_pos (by omega)]; rfl
  · rw [rf0, List.getElem?_append_right (by simp), List.getElem?_replicate, if_pos (by simp; omega)]; rfl
  · rw [rf0, List.getElem?_append_right (by simp), List.getElem?_replicate, if_pos (by simp)]
section
variable {cs : List Value} {S : Sd}
theorem RfC.setWaits (h : RfC cs S) {i : Nat} (hi : i < 18) (b : Bool) : RfC (cs.set (76 + (i + 1)) (.bool b)) (S.set i ⟨(S i).has, (S i).holds, b⟩) := by
  have hl := h.len
  have key : ∀ j, j ≠ 76 + (i + 1) → (cs.set (76 + (i + 1)) (.bool b))[j]? = cs[j]? := fun j hj => List.getElem?_set_ne (by omega)
  have same : ∀ j, ((S.set i ⟨(S i).has, (S i).holds, b⟩) j).has = (S j).has ∧ ((S.set i ⟨(S i).has, (S i).holds, b⟩) j).holds = (S j).holds := fun j => by
    unfold Sd.set
    split
    · next e => subst e; exact ⟨rfl, rfl⟩
    · exact ⟨rfl, rfl⟩
  refine ⟨by rw [List.length_set, hl], fun j hj => ?_, fun j hj => ?_, fun j hj => ?_, fun j hj => ?_, fun j hj => ?_, ?_⟩
  · rw [key _ (by omega), (same j).1]; exact h.hasl j hj
  · rw [key _ (by omega), (same j).1]; exact h.hasv j hj
  · rw [key _ (by omega), (same j).2]; exact h.holl j hj
  · rw [key _ (by omega), (same j).2]; exact h.holv j hj
  · by_cases e : j = i
    · subst e
      rw [Sd.set_self, List.getElem?_set_self (by omega)]
    · rw [key _ (by omega), Sd.set_ne _ _ e]; exact h.wait j hj
  · rw [key _ (by omega)]; exact h.none
theorem RfC.setHas (h : RfC cs S) {i : Nat} (hi : i < 18) (x : Se) : RfC ((cs.set ((i + 1) * 2) (.int .i64 x.l)).set ((i + 1) * 2 + 1) (.int .i64 x.v)) (S.set i ⟨x, (S i).holds, (S i).waits⟩) := by
  have hl := h.len
  have key : ∀ j, j ≠ (i + 1) * 2 → j ≠ (i + 1) * 2 + 1 → ((cs.set ((i + 1) * 2) (.int .i64 x.l)).set ((i + 1) * 2 + 1) (.int .i64 x.v))[j]? = cs[j]? := fun j hj hk => by rw [List.getElem?_set_ne (by omega), List.getElem?_set_ne (by omega)]
  have same : ∀ j, ((S.set i ⟨x, (S i).holds, (S i).waits⟩) j).waits = (S j).waits ∧ ((S.set i ⟨x, (S i).holds, (S i).waits⟩) j).holds = (S j).holds := fun j => by
    unfold Sd.set
    split
    · next e => subst e; exact ⟨rfl, rfl⟩
    · exact ⟨rfl, rfl⟩
  refine ⟨by simp [hl], fun j hj => ?_, fun j hj => ?_, fun j hj => ?_, fun j hj => ?_, fun j hj => ?_, ?_⟩
  · by_cases e : j = i
    · subst e
      rw [Sd.set_self, List.getElem?_set_ne (by omega), List.getElem?_set_self (by omega)]
    · rw [key _ (by omega) (by omega), Sd.set_ne _ _ e]; exact h.hasl j hj
  · by_cases e : j = i
    · subst e
      rw [Sd.set_self, List.getElem?_set_self (by rw [List.length_set]; omega)]
    · rw [key _ (by omega) (by omega), Sd.set_ne _ _ e]; exact h.hasv j hj
  · rw [key _ (by omega) (by omega), (same j).2]; exact h.holl j hj
  · rw [key _ (by omega) (by omega), (same j).2]; exact h.holv j hj
  · rw [key _ (by omega) (by omega), (same j).1]; exact h.wait j hj
  · rw [key _ (by omega) (by omega)]; exact h.none
theorem RfC.setHolds (h : RfC cs S) {i : Nat} (hi : i < 18) (x : Se) : RfC ((cs.set (38 + (i + 1) * 2) (.int .i64 x.l)).set (38 + (i + 1) * 2 + 1) (.int .i64 x.v)) (S.set i ⟨(S i).has, x, (S i).waits⟩) := by
  have hl := h.len
  have key : ∀ j, j ≠ 38 + (i + 1) * 2 → j ≠ 38 + (i + 1) * 2 + 1 → ((cs.set (38 + (i + 1) * 2) (.int .i64 x.l)).set (38 + (i + 1) * 2 + 1) (.int .i64 x.v))[j]? = cs[j]? := fun j hj hk => by rw [List.getElem?_set_ne (by omega), List.getElem?_set_ne (by omega)]
  have same : ∀ j, ((S.set i ⟨(S i).has, x, (S i).waits⟩) j).waits = (S j).waits ∧ ((S.set i ⟨(S i).has, x, (S i).waits⟩) j).has = (S j).has := fun j => by
    unfold Sd.set
    split
    · next e => subst e; exact ⟨rfl, rfl⟩
    · exact ⟨rfl, rfl⟩
  refine ⟨by simp [hl], fun j hj => ?_, fun j hj => ?_, fun j hj => ?_, fun j hj => ?_, fun j hj => ?_, ?_⟩
  · rw [key _ (by omega) (by omega), (same j).2]; exact h.hasl j hj
  · rw [key _ (by omega) (by omega), (same j).2]; exact h.hasv j hj
  · by_cases e : j = i
    · subst e
      rw [Sd.set_self, List.getElem?_set_ne (by omega), List.getElem?_set_self (by omega)]
    · rw [key _ (by omega) (by omega), Sd.set_ne _ _ e]; exact h.holl j hj
  · by_cases e : j = i
    · subst e
      rw [Sd.set_self, List.getElem?_set_self (by rw [List.length_set]; omega)]
    · rw [key _ (by omega) (by omega), Sd.set_ne _ _ e]; exact h.holv j hj
  · rw [key _ (by omega) (by omega), (same j).1]; exact h.wait j hj
  · rw [key _ (by omega) (by omega)]; exact h.none
end
def RfAt (w : World) (r : Nat) (S : Sd) : Prop := ∃ cs, Blk w r 55 cs ∧ RfC cs S
section
variable {w w' : World} {p : Nat} {S : Sd}
theorem RfAt.lt (h : RfAt w p S) : p < w.heap.size := by obtain ⟨cs, h, _⟩ := h; exact h.lt
theorem RfAt.only {D : Nat → Prop} (h : RfAt w p S) (ho : Only D w w') (hD : ¬ D p) : RfAt w' p S := by
  obtain ⟨cs, h, hc⟩ := h
  exact ⟨cs, h.only ho hD, hc⟩
theorem RfAt.same (h : RfAt w p S) (ho : Only (fun _ => False) w w') : RfAt w' p S := h.only ho (fun h => h)
end
theorem eq_rset (W : World) (a b c d : Int) : (Op.equalIn 10000 39 (.agg #[.int .i64 a, .int .i64 b]) (.agg #[.int .i64 c, .int .i64 d])).run Tryd.prog W = .ok (decide ((⟨a, b⟩ : Se) = ⟨c, d⟩)) W := by
  rw [show (10000 : Nat) = 9999 + 1 from rfl, run_equalIn_struct W 9999 _ _ _ (by kernel_rfl) (by kernel_rfl)]
  have u3 : Tryd.prog.underlying 3 = some (.int .i64) := Tryd.underlying3
  simp only [Program.fieldsOf, Tryd.underlying39, Op.eqFields]
  simp [go_sem, u3, Result.andThen]
  by_cases h1 : a = c <;> by_cases h2 : b = d <;> simp [h1, h2]
theorem guard_rset : Tryd.prog.eqGuardType Tryd.prog.depth 39 = false := by kernel_rfl

theorem idx_flag (W : World) {cs : List Value} {k : Nat} (hk : k < 19) (b : Bool) (hb : cs[76 + k]? = some (.bool b)) : (Instr.index 53 (.agg ((cs.drop 76).take 19).toArray) (.int .i64 (k : Int))).run Tryd.prog W = .ok (.bool b) W := by
  have hu := Tryd.underlying53
  have hs : ∀ W, (sizeOf 4).run Tryd.prog W = .ok 1 W := fun W => by kernel_rfl
  have hg : ∀ W, (isAgg 4).run Tryd.prog W = .ok false W := fun W => by kernel_rfl
  have hc : (List.take 19 (List.drop 76 cs))[k]? = some (.bool b) := by
    rw [List.getElem?_take, if_pos hk, List.getElem?_drop]
    exact hb
  simp [Instr.index, run_underlying hu, asIntOf, go_sem, part, hs, hg]
  rw [if_pos hk]
  simp only [hc]
  rfl
theorem size_flags : (Tryd.prog.info? 53).map (·.size) = some 19 := by kernel_rfl
theorem rwaits_any {W : World} {p : Nat} {S : Sd} (h : RfAt W p S) : Calls Tryd.prog 18 #[.pointer (some ⟨p, 0, none⟩)] W fun e w' => e = .returned (.int .i64 (waitsS S : Int)) ∧ Only (fun _ => False) W w' := by
  obtain ⟨cs, hB, hC⟩ := h
  have HR : Hid (W.rangeAt p 76 ((cs.drop 76).take 19)) := fun j v hj => by
    rw [hB.cell]
    rw [List.getElem?_take] at hj
    split at hj
    · rw [List.getElem?_drop] at hj; exact hj
    · cases hj
  have hsz : (Tryd.prog.info? 53).map (·.size) = some ((cs.drop 76).take 19).length := by
    have := hC.len
    rw [show ((cs.drop 76).take 19).length = 19 from by simp; omega]
    exact size_flags
  have HSz := Lib.hid hsz
  have HX : Hid (∀ W k b, k < 19 → cs[76 + k]? = some (.bool b) → _) := fun W k b (hk : k < 19) hb => idx_flag W hk b hb
  have HC := Lib.hid hC
  clear hB hC hsz
  go_enter Tryd.func18, Tryd.ntmps18
  go_wp2_with (first
    | ((with_reducible show wpList _ _ _ (⟨some 9, _, _, _, _, _⟩ :: _) _ _); refine wpList_load_mid rfl 53 _ rfl p 76 rfl ((cs.drop 76).take 19) _ HR.out Tryd.underlying53 rfl HSz.out ?_)
    | fail)
  go_loopw [3, 10] (fun n i w => ∃ k : Nat, k ≤ 19 ∧ n = .int .i64 (waitsTo S (k - 1) : Int) ∧ i = .int .i64 (k : Int) ∧ Hid (Only (fun _ => False) W w)) (fun _ i _ => 19 - (intOf i).toNat)
  case atStart => exact ⟨0, Nat.zero_le _, rfl, rfl, Only.refl _ _⟩
  case round =>
    obtain ⟨k, hk, rfl, rfl, hrel⟩ := hrel
    by_cases hlt : k < 19
    · have hlt2 : (k : Int) < 19 := by omega
      obtain ⟨b, hb, hs⟩ : ∃ b, cs[76 + k]? = some (.bool b) ∧ waitsTo S (k + 1 - 1) = waitsTo S (k - 1) + if b then 1 else 0 := by
        rcases k with _ | i
        · exact ⟨false, HC.out.none, rfl⟩
        · exact ⟨_, HC.out.wait i (by omega), rfl⟩
      have hx := fun W => HX.out W k b hlt hb
      have hn := waitsTo_le S (k - 1)
      obtain ⟨n, hnn⟩ : ∃ n, n = waitsTo S (k - 1) := ⟨_, rfl⟩
      rw [← hnn] at hn hs ⊢
      have HS := Lib.hid hs
      clear hb hs hnn
      cases b
      all_goals
        go_wp2
        go_roundw
        case rel => exact ⟨k + 1, by omega, by rw [HS.out]; go_num, by go_num, hrel⟩
        case measure => simp [intOf]; omega
    · obtain rfl : k = 19 := by omega
      go_wp2
      go_ret
      exact ⟨rfl, hrel.out⟩
end Go.Proofs.YtojnhheeholaeaaDoor
