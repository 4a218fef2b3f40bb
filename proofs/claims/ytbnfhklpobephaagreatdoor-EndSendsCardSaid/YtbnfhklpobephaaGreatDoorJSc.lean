/- Several texts in one. -/
import Derived.Test.YtbnfhklpobephaaGreatDoorJTexts
import Derived.Deep.RegionHeld3
import Derived.Laws.StructEq
import Derived.BigQuiet
import Derived.Test.YtbnfhklpobephaaGreatDoorJSnIn
import Derived.Test.YtbnfhklpobephaaGreatDoorJBase
import Derived.Lib.SliceRun
/- Package slc: which settings and triples are right, what a side answers. -/
namespace Go.Proofs.YtbnfhklpobephaaGreatDoor
open Go Go.RowKit
set_option maxRecDepth 100000
set_option maxHeartbeats 4000000

@[reducible] def Se.val (x : Se) : Value := .agg #[.int .i64 x.l, .int .i64 x.v]
@[reducible] def Tr.val (t : Tr) : Value := .agg #[.int .i64 t.f, .int .i64 t.x.l, .int .i64 t.x.v, .bool t.ack]
@[reducible] def Se.cs (x : Se) : List Value := [.int .i64 x.l, .int .i64 x.v]
@[reducible] def Tr.cs (t : Tr) : List Value := [.int .i64 t.f, .int .i64 t.x.l, .int .i64 t.x.v, .bool t.ack]
theorem size_set : (Tryz.prog.info? 109).map (·.size) = some 2 := by kernel_rfl
theorem size_tri : (Tryz.prog.info? 262).map (·.size) = some 4 := by kernel_rfl
theorem Se.cs_one (x : Se) : ∀ v ∈ x.cs, v.oneCell' = true := by
  intro v hv
  simp only [Se.cs, List.mem_cons, List.not_mem_nil, or_false] at hv
  rcases hv with rfl | rfl <;> rfl
theorem Tr.cs_one (x : Tr) : ∀ v ∈ x.cs, v.oneCell' = true := by
  intro v hv
  simp only [Tr.cs, List.mem_cons, List.not_mem_nil, or_false] at hv
  rcases hv with rfl | rfl | rfl | rfl <;> rfl

theorem isFn_any (W : World) (c : Int) : Calls Tryz.prog 155 #[.int .i64 c] W fun e w' => e = .returned (.bool (isF c)) ∧ w' = W := by
  by_cases h0 : 1 ≤ c <;> by_cases h1 : c ≤ 18
  all_goals
    go_enter Tryz.func155, Tryz.ntmps155
    go_wp2
    go_ret
    refine ⟨?_, rfl⟩
    unfold isF
    congr 2
    simp
    try omega

theorem isSet_any (W : World) (l v : Int) : Calls Tryz.prog 173 #[.agg #[.int .i64 l, .int .i64 v]] W fun e w' => e = .returned (.bool (Se.fine ⟨l, v⟩)) ∧ Only (fun _ => False) W w' := by
  obtain ⟨b, hb⟩ : ∃ b, b = Se.fine ⟨l, v⟩ := ⟨_, rfl⟩
  rw [← hb]
  unfold Se.fine at hb
  simp only at hb
  by_cases h0 : l = 0
  · subst h0
    by_cases hv : v = 0
    all_goals
      have HB := Lib.hid hb
      clear hb
      go_enter Tryz.func173, Tryz.ntmps173
      go_wp2
      go_ret
      refine ⟨?_, (Only.refl _ _).alloc _⟩
      rw [HB.out]
      simp [hv]
  · by_cases h3 : l = 3
    · subst h3
      by_cases hv : v = 0
      all_goals
        have HB := Lib.hid hb
        clear hb
        go_enter Tryz.func173, Tryz.ntmps173
        go_wp2
        go_ret
        refine ⟨?_, (Only.refl _ _).alloc _⟩
        rw [HB.out]
        simp [hv]
    · by_cases h1 : l = 1
      · subst h1
        cases hv : decide (0 ≤ v) <;> cases hw : decide (v ≤ 255)
        all_goals
          have HB := Lib.hid hb
          clear hb
          go_enter Tryz.func173, Tryz.ntmps173
          go_wp2
          go_ret
          refine ⟨?_, (Only.refl _ _).alloc _⟩
          rw [HB.out]
          simp_all
      · by_cases h2 : l = 2
        · subst h2
          cases hv : decide (0 ≤ v) <;> cases hw : decide (v ≤ 255)
          all_goals
            have HB := Lib.hid hb
            clear hb
            go_enter Tryz.func173, Tryz.ntmps173
            go_wp2
            go_ret
            refine ⟨?_, (Only.refl _ _).alloc _⟩
            rw [HB.out]
            simp_all
        · have HB := Lib.hid hb
          clear hb
          go_enter Tryz.func173, Tryz.ntmps173
          go_wp2
          go_ret
          refine ⟨?_, (Only.refl _ _).alloc _⟩
          rw [HB.out]
          simp [h0, h1, h2, h3]

theorem sright_any (W : World) (t : Tr) : Calls Tryz.prog 174 #[t.val] W fun e w' => e = .returned (.bool t.right) ∧ Only (fun _ => False) W w' := by
  obtain ⟨f, ⟨l, v⟩, k⟩ := t
  unfold Tr.right
  simp only
  have HS := Lib.hid (fun W => isSet_any W l v)
  have HF := Lib.hid (fun W => isFn_any W f)
  generalize isF f = p at *
  generalize Se.fine ⟨l, v⟩ = q at *
  cases p
  all_goals
    go_enter Tryz.func174, Tryz.ntmps174
    go_wp2_with (first
      | (go_at_call 155; refine (HF.out _).mono ?_; rintro e w' ⟨rfl, e2⟩; subst w')
      | (go_at_call 173; refine (HS.out _).mono ?_; rintro e w2 ⟨rfl, ho2⟩; have HO2 := Lib.hid ho2; clear ho2)
      | fail)
    go_ret
  · exact ⟨rfl, (Only.refl _ _).alloc _⟩
  · exact ⟨rfl, ((Only.refl _ _).alloc _).trans HO2.out (fun _ h => h.elim)⟩

theorem sanswer_any (W : World) (x h : Se) : Calls Tryz.prog 175 #[x.val, h.val] W fun e w' => e = .returned (.tuple #[(ansS x h).1.val, .bool (ansS x h).2]) ∧ Only (fun _ => False) W w' := by
  obtain ⟨xl, xv⟩ := x
  obtain ⟨hl, hv⟩ := h
  obtain ⟨y, hy⟩ : ∃ y, y = ansS ⟨xl, xv⟩ ⟨hl, hv⟩ := ⟨_, rfl⟩
  rw [← hy]
  unfold ansS at hy
  simp only at hy
  by_cases h0 : xl = 0
  · subst h0
    have HY : Hid (y = (⟨0, xv⟩, true)) := hy.trans (if_pos (.inl rfl))
    clear hy
    go_enter Tryz.func175, Tryz.ntmps175
    go_wp2
    refine ret_cell2 rfl (W.heap.size + 1 + 1) rfl 109 [.int .i64 0, .int .i64 xv] _ (Blk.new' _ _ _ (by simp)) Tryz.underlying109 rfl size_set rfl ?_
    exact ⟨by rw [HY.out]; rfl, (((Only.refl _ _).alloc _).alloc _).alloc _⟩
  · by_cases h3 : xl = 3
    · subst h3
      have HY : Hid (y = (⟨hl, hv⟩, false)) := hy.trans ((if_neg (by omega)).trans (if_neg (by omega)))
      clear hy
      cases hb : (hl == 2)
      all_goals
        go_enter Tryz.func175, Tryz.ntmps175
        go_wp2
        refine ret_cell2 rfl (W.heap.size + 1 + 1) rfl 109 [.int .i64 hl, .int .i64 hv] _ (Blk.new' _ _ _ (by simp)) Tryz.underlying109 rfl size_set rfl ?_
        exact ⟨by rw [HY.out]; rfl, (((Only.refl _ _).alloc _).alloc _).alloc _⟩
    · by_cases h2 : hl = 2
      · subst h2
        have HY : Hid (y = (⟨xl, xv⟩, true)) := hy.trans (if_pos (.inr ⟨rfl, h3⟩))
        clear hy
        go_enter Tryz.func175, Tryz.ntmps175
        go_wp2
        refine ret_cell2 rfl (W.heap.size + 1 + 1) rfl 109 [.int .i64 xl, .int .i64 xv] _ (Blk.new' _ _ _ (by simp)) Tryz.underlying109 rfl size_set rfl ?_
        exact ⟨by rw [HY.out]; rfl, (((Only.refl _ _).alloc _).alloc _).alloc _⟩
      · by_cases h1 : xl = 1
        · subst h1
          have HY : Hid (y = (⟨0, 0⟩, false)) := hy.trans ((if_neg (by omega)).trans (if_pos rfl))
          clear hy
          go_enter Tryz.func175, Tryz.ntmps175
          go_wp2
          refine ret_cell2 rfl (W.heap.size + 1 + 1) rfl 109 [.int .i64 0, .int .i64 0] _ (Blk.new' _ _ _ (by simp)) Tryz.underlying109 rfl size_set rfl ?_
          exact ⟨by rw [HY.out]; rfl, (((Only.refl _ _).alloc _).alloc _).alloc _⟩
        · have hb : (hl == 2) = false := by simp [h2]
          have HY : Hid (y = (⟨hl, hv⟩, false)) := hy.trans ((if_neg (by omega)).trans (if_neg (by omega)))
          clear hy
          go_enter Tryz.func175, Tryz.ntmps175
          go_wp2
          refine ret_cell2 rfl (W.heap.size + 1 + 1) rfl 109 [.int .i64 hl, .int .i64 hv] _ (Blk.new' _ _ _ (by simp)) Tryz.underlying109 rfl size_set rfl ?_
          exact ⟨by rw [HY.out]; rfl, (((Only.refl _ _).alloc _).alloc _).alloc _⟩
end Go.Proofs.YtbnfhklpobephaaGreatDoor
/- Package slc: a side's cells. -/
namespace Go.Proofs.YtbnfhklpobephaaGreatDoor
open Go Go.RowKit
set_option maxRecDepth 100000
set_option maxHeartbeats 4000000

@[reducible] def Ch.cs (c : Ch) : List Value := [.int .i64 c.has.l, .int .i64 c.has.v, .int .i64 c.holds.l, .int .i64 c.holds.v, .bool c.waits]
/-- A side's cells. -/
structure ScC (cs : List Value) (S : Sd) : Prop where
  len : cs.length = 90
  at_ : ∀ i j v, i < 18 → (S i).cs[j]? = some v → cs[i * 5 + j]? = some v
def sc0 : List Value := (List.replicate 18 Ch.zero.cs).flatten
theorem sc0_c : ScC sc0 Sd.zero := by
  refine ⟨rfl, fun i j v hi hv => ?_⟩
  have hj : j < 5 := (List.getElem?_eq_some_iff.1 hv).1
  have key : ∀ i, i < 18 → ∀ j, j < 5 → sc0[i * 5 + j]? = Ch.zero.cs[j]? := by
    intro i hi j hj
    have : ∀ n, i < n → (List.replicate n Ch.zero.cs).flatten[i * 5 + j]? = Ch.zero.cs[j]? := by
      clear hi
      induction i with
      | zero =>
        intro n hn
        obtain ⟨m, rfl⟩ : ∃ m, n = m + 1 := ⟨n - 1, by omega⟩
        rw [List.replicate_succ, List.flatten_cons, Nat.zero_mul, Nat.zero_add, List.getElem?_append_left (by simpa using hj)]
      | succ i ih =>
        intro n hn
        obtain ⟨m, rfl⟩ : ∃ m, n = m + 1 := ⟨n - 1, by omega⟩
        rw [List.replicate_succ, List.flatten_cons, List.getElem?_append_right (by simp; omega), ← ih m (by omega)]
        congr 1
        simp
        omega
    exact this 18 hi
  rw [key i hi j hj]
  exact hv
section
variable {cs : List Value} {S : Sd}
theorem ScC.upd (h : ScC cs S) {i : Nat} (hi : i < 18) {cs' : List Value} {c : Ch} (hl : cs'.length = 90) (hk : ∀ k, (k < i * 5 ∨ i * 5 + 5 ≤ k) → cs'[k]? = cs[k]?) (hc : ∀ j v, c.cs[j]? = some v → cs'[i * 5 + j]? = some v) : ScC cs' (S.set i c) := by
  refine ⟨hl, fun k j v hk' hv => ?_⟩
  have hj : j < 5 := (List.getElem?_eq_some_iff.1 hv).1
  by_cases e : k = i
  · subst e
    rw [Sd.set_self] at hv
    exact hc j v hv
  · rw [Sd.set_ne _ _ e] at hv
    rw [hk _ (by omega)]
    exact h.at_ k j v hk' hv
theorem ScC.c0 (h : ScC cs S) {i : Nat} (hi : i < 18) : cs[i * 5]? = some (.int .i64 (S i).has.l) := h.at_ i 0 _ hi rfl
theorem ScC.c1 (h : ScC cs S) {i : Nat} (hi : i < 18) : cs[i * 5 + 1]? = some (.int .i64 (S i).has.v) := h.at_ i 1 _ hi rfl
theorem ScC.c2 (h : ScC cs S) {i : Nat} (hi : i < 18) : cs[i * 5 + 2]? = some (.int .i64 (S i).holds.l) := h.at_ i 2 _ hi rfl
theorem ScC.c3 (h : ScC cs S) {i : Nat} (hi : i < 18) : cs[i * 5 + 3]? = some (.int .i64 (S i).holds.v) := h.at_ i 3 _ hi rfl
theorem ScC.c4 (h : ScC cs S) {i : Nat} (hi : i < 18) : cs[i * 5 + 4]? = some (.bool (S i).waits) := h.at_ i 4 _ hi rfl
theorem ScC.setWaits (h : ScC cs S) {i : Nat} (hi : i < 18) (b : Bool) : ScC (cs.set (i * 5 + 4) (.bool b)) (S.set i ⟨(S i).has, (S i).holds, b⟩) := by
  have hl := h.len
  refine h.upd hi (by rw [List.length_set, hl]) (fun k hk => List.getElem?_set_ne (by omega)) (fun j v hv => ?_)
  match j, hv with
  | 0, hv => rw [List.getElem?_set_ne (by omega)]; exact (h.c0 hi).trans hv
  | 1, hv => rw [List.getElem?_set_ne (by omega)]; exact (h.c1 hi).trans hv
  | 2, hv => rw [List.getElem?_set_ne (by omega)]; exact (h.c2 hi).trans hv
  | 3, hv => rw [List.getElem?_set_ne (by omega)]; exact (h.c3 hi).trans hv
  | 4, hv => rw [List.getElem?_set_self (by omega)]; exact hv
theorem ScC.setHas (h : ScC cs S) {i : Nat} (hi : i < 18) (x : Se) : ScC (cs.take (i * 5) ++ ([.int .i64 x.l, .int .i64 x.v] ++ cs.drop (i * 5 + 2))) (S.set i ⟨x, (S i).holds, (S i).waits⟩) := by
  have hl := h.len
  rw [set2_eq _ _ _ _ (by omega)]
  refine h.upd hi (by simp [hl]) (fun k hk => by rw [List.getElem?_set_ne (by omega), List.getElem?_set_ne (by omega)]) (fun j v hv => ?_)
  match j, hv with
  | 0, hv => rw [List.getElem?_set_ne (by omega), Nat.add_zero, List.getElem?_set_self (by omega)]; exact hv
  | 1, hv => rw [List.getElem?_set_self (by rw [List.length_set]; omega)]; exact hv
  | 2, hv => rw [List.getElem?_set_ne (by omega), List.getElem?_set_ne (by omega)]; exact (h.c2 hi).trans hv
  | 3, hv => rw [List.getElem?_set_ne (by omega), List.getElem?_set_ne (by omega)]; exact (h.c3 hi).trans hv
  | 4, hv => rw [List.getElem?_set_ne (by omega), List.getElem?_set_ne (by omega)]; exact (h.c4 hi).trans hv
theorem ScC.setHolds (h : ScC cs S) {i : Nat} (hi : i < 18) (x : Se) : ScC (cs.take (i * 5 + 2) ++ ([.int .i64 x.l, .int .i64 x.v] ++ cs.drop (i * 5 + 2 + 2))) (S.set i ⟨(S i).has, x, (S i).waits⟩) := by
  have hl := h.len
  rw [set2_eq _ _ _ _ (by omega)]
  refine h.upd hi (by simp [hl]) (fun k hk => by rw [List.getElem?_set_ne (by omega), List.getElem?_set_ne (by omega)]) (fun j v hv => ?_)
  match j, hv with
  | 0, hv => rw [List.getElem?_set_ne (by omega), List.getElem?_set_ne (by omega)]; exact (h.c0 hi).trans hv
  | 1, hv => rw [List.getElem?_set_ne (by omega), List.getElem?_set_ne (by omega)]; exact (h.c1 hi).trans hv
  | 2, hv => rw [List.getElem?_set_ne (by omega), List.getElem?_set_self (by omega)]; exact hv
  | 3, hv => rw [List.getElem?_set_self (by rw [List.length_set]; omega)]; exact hv
  | 4, hv => rw [List.getElem?_set_ne (by omega), List.getElem?_set_ne (by omega)]; exact (h.c4 hi).trans hv
end
/-- A side that lies in block p. -/
def ScSdAt (w : World) (p : Nat) (S : Sd) : Prop := ∃ cs, Blk w p 114 cs ∧ ScC cs S
section
variable {w w' : World} {p : Nat} {S : Sd}
theorem ScSdAt.lt (h : ScSdAt w p S) : p < w.heap.size := by obtain ⟨cs, h, _⟩ := h; exact h.lt
theorem ScSdAt.only {D : Nat → Prop} (h : ScSdAt w p S) (ho : Only D w w') (hD : ¬ D p) : ScSdAt w' p S := by
  obtain ⟨cs, h, hc⟩ := h
  exact ⟨cs, h.only ho hD, hc⟩
theorem ScSdAt.same (h : ScSdAt w p S) (ho : Only (fun _ => False) w w') : ScSdAt w' p S := h.only ho (fun h => h)
end
theorem zero_side : (Tryz.prog.info? 114).map (fun i => (i.zero, i.size)) = some (some (.agg sc0.toArray), 90) := by kernel_rfl
theorem built_side : Tryz.prog.built 114 [] = some sc0.toArray := by
  unfold Program.built
  have h := zero_side
  cases hi : Tryz.prog.info? 114 with
  | none => rw [hi] at h; cases h
  | some i =>
    rw [hi] at h
    simp only [Option.map_some, Option.some.injEq, Prod.mk.injEq] at h
    simp only [Tryz.underlying114, h.1]
    rfl
theorem has_range {w : World} {p : Nat} {cs : List Value} {S : Sd} (h : Blk w p 114 cs) (hc : ScC cs S) {i : Nat} (hi : i < 18) : w.rangeAt p (i * 5) (S i).has.cs := by
  intro j v hj
  rw [h.cell]
  match j, hj with
  | 0, hj => exact (hc.c0 hi).trans hj
  | 1, hj => exact (hc.c1 hi).trans hj
theorem eq_set (W : World) (a b c d : Int) : (Op.equalIn 10000 109 (.agg #[.int .i64 a, .int .i64 b]) (.agg #[.int .i64 c, .int .i64 d])).run Tryz.prog W = .ok (decide ((⟨a, b⟩ : Se) = ⟨c, d⟩)) W := by
  rw [show (10000 : Nat) = 9999 + 1 from rfl, run_equalIn_struct W 9999 _ _ _ (by kernel_rfl) (by kernel_rfl)]
  have u3 : Tryz.prog.underlying 3 = some (.int .i64) := Tryz.underlying3
  simp only [Program.fieldsOf, Tryz.underlying109, Op.eqFields]
  simp [go_sem, u3, Result.andThen]
  by_cases h1 : a = c <;> by_cases h2 : b = d <;> simp [h1, h2]
theorem guard_set : Tryz.prog.eqGuardType Tryz.prog.depth 109 = false := by kernel_rfl

theorem shas_any {W : World} {p : Nat} {S : Sd} (h : ScSdAt W p S) (f : Int) : Calls Tryz.prog 104 #[.pointer (some ⟨p, 0, none⟩), .int .i64 f] W fun e w' => e = .returned (hasS S f).val ∧ Only (fun _ => False) W w' := by
  obtain ⟨cs, hB, hC⟩ := h
  have HF := Lib.hid (fun W => isFn_any W f)
  cases hf : isF f
  · rw [hf] at HF
    have e : hasS S f = ⟨0, 0⟩ := by unfold hasS; rw [hf]; rfl
    rw [e]
    clear e hf hB hC
    go_enter Tryz.func104, Tryz.ntmps104
    go_wp2_with (first
      | (go_at_call 155; refine (HF.out _).mono ?_; rintro e w' ⟨rfl, e2⟩; subst w')
      | fail)
    refine ret_cell1 rfl W.heap.size rfl 109 [.int .i64 0, .int .i64 0] _ (Blk.new' _ _ _ rfl) Tryz.underlying109 rfl size_set rfl ?_
    exact ⟨rfl, (Only.refl _ _).alloc _⟩
  · rw [hf] at HF
    have e : hasS S f = (S (plF f)).has := by unfold hasS; rw [if_pos hf]
    rw [e]
    have hi := plF_lt hf
    have he := plF_at hf
    have e1 : IntKind.i64.wrap (f - 1) = ((plF f : Nat) : Int) := by
      rw [← he]
      exact IntWalk.i64_in _ (by omega)
    obtain ⟨i, hii⟩ : ∃ i, i = plF f := ⟨_, rfl⟩
    rw [← hii] at hi e1 ⊢
    have hi2 : (i : Int) < 18 := by omega
    have HR := Lib.hid (fun ob => has_range (hB.alloc ob) hC hi)
    have hp := hB.lt
    obtain ⟨⟨a, b⟩, hx⟩ : ∃ x, x = (S i).has := ⟨_, rfl⟩
    rw [← hx] at HR ⊢
    clear e hf hB hC he hii hx
    go_enter Tryz.func104, Tryz.ntmps104
    go_wp2_with (first
      | (go_at_call 155; refine (HF.out _).mono ?_; rintro e w' ⟨rfl, e2⟩; subst w')
      | ((with_reducible show wpList _ _ _ (⟨some 16, _, _, _, _, _⟩ :: _) _ _); refine wpList_load_mid rfl 109 _ rfl p (i * 5) rfl [.int .i64 a, .int .i64 b] _ (HR.out _) Tryz.underlying109 rfl size_set ?_)
      | fail)
    refine ret_cell1 rfl W.heap.size rfl 109 [.int .i64 a, .int .i64 b] _ (Blk.new' _ _ _ rfl) Tryz.underlying109 rfl size_set rfl ?_
    exact ⟨rfl, (Only.refl _ _).alloc _⟩
end Go.Proofs.YtbnfhklpobephaaGreatDoor
/- A hub in memory: its cells, and what it has at each place. -/
namespace Go.Proofs.YtbnfhklpobephaaGreatDoor
open Go Go.RowKit
set_option maxRecDepth 100000
set_option maxHeartbeats 4000000

/-- A hub's fields. -/
structure Hb where
  sz : Value
  ca : Value
  ck : Int
  ho : Value
  can : Int
  pc : Int
  pr : Int
  li : Ls
  rep : Value
  sd : List Value
  hm : Int
  hw : Bool
  tc : Int
  tm : Int
  ma : List Value
  ms : Bool
@[reducible] def Hb.s0 (h : Hb) : List Value := [h.sz, h.ca, .int .i64 h.ck, h.ho, .int .i64 h.can, .int .i64 h.pc, .int .i64 h.pr]
@[reducible] def Hb.s4 (h : Hb) : List Value := [.int .i64 h.hm, .bool h.hw, .int .i64 h.tc, .int .i64 h.tm]
/-- A hub's cells. -/
def Hb.cs (h : Hb) : List Value := h.s0 ++ (cellsL h.li ++ ([h.rep] ++ (h.sd ++ (h.s4 ++ (h.ma ++ [.bool h.ms])))))
/-- What a hub keeps. -/
structure Hb.Ok (h : Hb) : Prop where
  li : h.li.Ok
  sd : ∃ S, ScC h.sd S
  ma : h.ma.length = 32
section
variable {h : Hb} (k : h.Ok)
include k
theorem Hb.Ok.l1 : (cellsL h.li).length = 10 := cellsL_len k.li
theorem Hb.Ok.l3 : h.sd.length = 90 := by obtain ⟨S, hS⟩ := k.sd; exact hS.len
theorem Hb.Ok.len : h.cs.length = 145 := by
  have h1 := k.l1
  have h3 := k.l3
  have h5 := k.ma
  simp [Hb.cs]
  omega
end

/-- A hub in memory: from place mo on of block p. -/
structure HuAt (w : World) (p mo : Nat) (tp : TypeId) (pre post : List Value) (h : Hb) : Prop where
  ok : h.Ok
  blk : InB w p tp pre post mo h.cs
section
variable {w w' : World} {p mo : Nat} {tp : TypeId} {pre post : List Value} {h : Hb}
theorem HuAt.only {S : Nat → Prop} (k : HuAt w p mo tp pre post h) (ho : Only S w w') (hS : ¬ S p) : HuAt w' p mo tp pre post h := ⟨k.ok, k.blk.only ho hS⟩
theorem HuAt.same (k : HuAt w p mo tp pre post h) (ho : Only (fun _ => False) w w') : HuAt w' p mo tp pre post h := k.only ho (fun h => h)
theorem HuAt.lt (k : HuAt w p mo tp pre post h) : p < w.heap.size := k.blk.lt
theorem HuAt.frozen (k : HuAt w p mo tp pre post h) (i : Nat) : w.frozen? ⟨p, i, none⟩ = false := k.blk.frozen i
theorem HuAt.in0 (k : HuAt w p mo tp pre post h) : InB w p tp pre (cellsL h.li ++ ([h.rep] ++ (h.sd ++ (h.s4 ++ (h.ma ++ ([.bool h.ms] ++ post)))))) mo h.s0 := ⟨by
  have := k.blk.blk
  simpa only [Hb.cs, Hb.s0, Hb.s4, List.append_assoc, List.cons_append, List.nil_append, List.append_nil] using this, by
  have h0 := k.blk.len
  have h1 := k.ok.l1
  have h3 := k.ok.l3
  have h5 := k.ok.ma
  first | exact h0 | (simp only [List.length_append, List.length_cons, List.length_nil, Hb.s0, Hb.s4]; omega)⟩
theorem HuAt.in1 (k : HuAt w p mo tp pre post h) : InB w p tp (pre ++ h.s0) ([h.rep] ++ (h.sd ++ (h.s4 ++ (h.ma ++ ([.bool h.ms] ++ post))))) (mo + 7) (cellsL h.li) := ⟨by
  have := k.blk.blk
  simpa only [Hb.cs, Hb.s0, Hb.s4, List.append_assoc, List.cons_append, List.nil_append, List.append_nil] using this, by
  have h0 := k.blk.len
  have h1 := k.ok.l1
  have h3 := k.ok.l3
  have h5 := k.ok.ma
  first | exact h0 | (simp only [List.length_append, List.length_cons, List.length_nil, Hb.s0, Hb.s4]; omega)⟩
theorem HuAt.in2 (k : HuAt w p mo tp pre post h) : InB w p tp (pre ++ (h.s0 ++ cellsL h.li)) (h.sd ++ (h.s4 ++ (h.ma ++ ([.bool h.ms] ++ post)))) (mo + 17) [h.rep] := ⟨by
  have := k.blk.blk
  simpa only [Hb.cs, Hb.s0, Hb.s4, List.append_assoc, List.cons_append, List.nil_append, List.append_nil] using this, by
  have h0 := k.blk.len
  have h1 := k.ok.l1
  have h3 := k.ok.l3
  have h5 := k.ok.ma
  first | exact h0 | (simp only [List.length_append, List.length_cons, List.length_nil, Hb.s0, Hb.s4]; omega)⟩
theorem HuAt.in3 (k : HuAt w p mo tp pre post h) : InB w p tp (pre ++ (h.s0 ++ (cellsL h.li ++ [h.rep]))) (h.s4 ++ (h.ma ++ ([.bool h.ms] ++ post))) (mo + 18) h.sd := ⟨by
  have := k.blk.blk
  simpa only [Hb.cs, Hb.s0, Hb.s4, List.append_assoc, List.cons_append, List.nil_append, List.append_nil] using this, by
  have h0 := k.blk.len
  have h1 := k.ok.l1
  have h3 := k.ok.l3
  have h5 := k.ok.ma
  first | exact h0 | (simp only [List.length_append, List.length_cons, List.length_nil, Hb.s0, Hb.s4]; omega)⟩
theorem HuAt.in5 (k : HuAt w p mo tp pre post h) : InB w p tp (pre ++ (h.s0 ++ (cellsL h.li ++ ([h.rep] ++ (h.sd ++ h.s4))))) ([.bool h.ms] ++ post) (mo + 112) h.ma := ⟨by
  have := k.blk.blk
  simpa only [Hb.cs, Hb.s0, Hb.s4, List.append_assoc, List.cons_append, List.nil_append, List.append_nil] using this, by
  have h0 := k.blk.len
  have h1 := k.ok.l1
  have h3 := k.ok.l3
  have h5 := k.ok.ma
  first | exact h0 | (simp only [List.length_append, List.length_cons, List.length_nil, Hb.s0, Hb.s4]; omega)⟩
theorem HuAt.in6 (k : HuAt w p mo tp pre post h) : InB w p tp (pre ++ (h.s0 ++ (cellsL h.li ++ ([h.rep] ++ (h.sd ++ (h.s4 ++ h.ma)))))) post (mo + 144) [.bool h.ms] := ⟨by
  have := k.blk.blk
  simpa only [Hb.cs, Hb.s0, Hb.s4, List.append_assoc, List.cons_append, List.nil_append, List.append_nil] using this, by
  have h0 := k.blk.len
  have h1 := k.ok.l1
  have h3 := k.ok.l3
  have h5 := k.ok.ma
  first | exact h0 | (simp only [List.length_append, List.length_cons, List.length_nil, Hb.s0, Hb.s4]; omega)⟩
theorem HuAt.head (k : HuAt w p mo tp pre post h) : InB w p tp (pre ++ (h.s0 ++ (cellsL h.li ++ ([h.rep] ++ h.sd)))) ([.int .i64 h.tc, .int .i64 h.tm] ++ (h.ma ++ ([.bool h.ms] ++ post))) (mo + 108) [.int .i64 h.hm, .bool h.hw] := ⟨by
  have := k.blk.blk
  simpa only [Hb.cs, Hb.s0, Hb.s4, List.append_assoc, List.cons_append, List.nil_append, List.append_nil] using this, by
  have h0 := k.blk.len
  have h1 := k.ok.l1
  have h3 := k.ok.l3
  have h5 := k.ok.ma
  first | exact h0 | (simp only [List.length_append, List.length_cons, List.length_nil, Hb.s0, Hb.s4]; omega)⟩
theorem HuAt.tail (k : HuAt w p mo tp pre post h) : InB w p tp (pre ++ (h.s0 ++ (cellsL h.li ++ ([h.rep] ++ (h.sd ++ [.int .i64 h.hm, .bool h.hw]))))) (h.ma ++ ([.bool h.ms] ++ post)) (mo + 110) [.int .i64 h.tc, .int .i64 h.tm] := ⟨by
  have := k.blk.blk
  simpa only [Hb.cs, Hb.s0, Hb.s4, List.append_assoc, List.cons_append, List.nil_append, List.append_nil] using this, by
  have h0 := k.blk.len
  have h1 := k.ok.l1
  have h3 := k.ok.l3
  have h5 := k.ok.ma
  first | exact h0 | (simp only [List.length_append, List.length_cons, List.length_nil, Hb.s0, Hb.s4]; omega)⟩
theorem HuAt.cyc (k : HuAt w p mo tp pre post h) : InB w p tp (pre ++ [h.sz]) ([h.ho, .int .i64 h.can, .int .i64 h.pc, .int .i64 h.pr] ++ (cellsL h.li ++ ([h.rep] ++ (h.sd ++ (h.s4 ++ (h.ma ++ ([.bool h.ms] ++ post))))))) (mo + 1) [h.ca, .int .i64 h.ck] := ⟨by
  have := k.blk.blk
  simpa only [Hb.cs, Hb.s0, Hb.s4, List.append_assoc, List.cons_append, List.nil_append, List.append_nil] using this, by
  have h0 := k.blk.len
  have h1 := k.ok.l1
  have h3 := k.ok.l3
  have h5 := k.ok.ma
  first | exact h0 | (simp only [List.length_append, List.length_cons, List.length_nil, Hb.s0, Hb.s4]; omega)⟩
theorem HuAt.peer (k : HuAt w p mo tp pre post h) : InB w p tp (pre ++ [h.sz, h.ca, .int .i64 h.ck, h.ho, .int .i64 h.can]) (cellsL h.li ++ ([h.rep] ++ (h.sd ++ (h.s4 ++ (h.ma ++ ([.bool h.ms] ++ post)))))) (mo + 5) [.int .i64 h.pc, .int .i64 h.pr] := ⟨by
  have := k.blk.blk
  simpa only [Hb.cs, Hb.s0, Hb.s4, List.append_assoc, List.cons_append, List.nil_append, List.append_nil] using this, by
  have h0 := k.blk.len
  have h1 := k.ok.l1
  have h3 := k.ok.l3
  have h5 := k.ok.ma
  first | exact h0 | (simp only [List.length_append, List.length_cons, List.length_nil, Hb.s0, Hb.s4]; omega)⟩
/-! Back: what stands at one place is another; the rest is the same. -/
theorem HuAt.of_cyc {v : Value} {c : Int} (ok : h.Ok) (k : InB w p tp (pre ++ [h.sz]) ([h.ho, .int .i64 h.can, .int .i64 h.pc, .int .i64 h.pr] ++ (cellsL h.li ++ ([h.rep] ++ (h.sd ++ (h.s4 ++ (h.ma ++ ([.bool h.ms] ++ post))))))) (mo + 1) [v, .int .i64 c]) : HuAt w p mo tp pre post { h with ca := v, ck := c } := ⟨⟨ok.li, ok.sd, ok.ma⟩, ⟨by
  have := k.blk
  simpa only [Hb.cs, Hb.s0, Hb.s4, List.append_assoc, List.cons_append, List.nil_append, List.append_nil] using this, by
  have h0 := k.len
  have h1 := ok.l1
  have h3 := ok.l3
  have h5 := ok.ma
  simp only [List.length_append, List.length_cons, List.length_nil, Hb.s0, Hb.s4] at h0
  omega⟩⟩
theorem HuAt.of_peer {c r : Int} (ok : h.Ok) (k : InB w p tp (pre ++ [h.sz, h.ca, .int .i64 h.ck, h.ho, .int .i64 h.can]) (cellsL h.li ++ ([h.rep] ++ (h.sd ++ (h.s4 ++ (h.ma ++ ([.bool h.ms] ++ post)))))) (mo + 5) [.int .i64 c, .int .i64 r]) : HuAt w p mo tp pre post { h with pc := c, pr := r } := ⟨⟨ok.li, ok.sd, ok.ma⟩, ⟨by
  have := k.blk
  simpa only [Hb.cs, Hb.s0, Hb.s4, List.append_assoc, List.cons_append, List.nil_append, List.append_nil] using this, by
  have h0 := k.len
  have h1 := ok.l1
  have h3 := ok.l3
  have h5 := ok.ma
  simp only [List.length_append, List.length_cons, List.length_nil, Hb.s0, Hb.s4] at h0
  omega⟩⟩
theorem HuAt.of_list {l : Ls} (hl : l.Ok) (ok : h.Ok) (k : InB w p tp (pre ++ h.s0) ([h.rep] ++ (h.sd ++ (h.s4 ++ (h.ma ++ ([.bool h.ms] ++ post))))) (mo + 7) (cellsL l)) : HuAt w p mo tp pre post { h with li := l } := ⟨⟨hl, ok.sd, ok.ma⟩, ⟨by
  have := k.blk
  simpa only [Hb.cs, Hb.s0, Hb.s4, List.append_assoc, List.cons_append, List.nil_append, List.append_nil] using this, by
  have h0 := k.len
  have h1 := ok.l1
  have h3 := ok.l3
  have h5 := ok.ma
  simp only [List.length_append, List.length_cons, List.length_nil, Hb.s0, Hb.s4] at h0
  omega⟩⟩
theorem HuAt.of_rep {v : Value} (ok : h.Ok) (k : InB w p tp (pre ++ (h.s0 ++ cellsL h.li)) (h.sd ++ (h.s4 ++ (h.ma ++ ([.bool h.ms] ++ post)))) (mo + 17) [v]) : HuAt w p mo tp pre post { h with rep := v } := ⟨⟨ok.li, ok.sd, ok.ma⟩, ⟨by
  have := k.blk
  simpa only [Hb.cs, Hb.s0, Hb.s4, List.append_assoc, List.cons_append, List.nil_append, List.append_nil] using this, by
  have h0 := k.len
  have h1 := ok.l1
  have h3 := ok.l3
  have h5 := ok.ma
  simp only [List.length_append, List.length_cons, List.length_nil, Hb.s0, Hb.s4] at h0
  omega⟩⟩
theorem HuAt.of_side {cs : List Value} {S : Sd} (hS : ScC cs S) (ok : h.Ok) (k : InB w p tp (pre ++ (h.s0 ++ (cellsL h.li ++ [h.rep]))) (h.s4 ++ (h.ma ++ ([.bool h.ms] ++ post))) (mo + 18) cs) : HuAt w p mo tp pre post { h with sd := cs } := ⟨⟨ok.li, ⟨S, hS⟩, ok.ma⟩, ⟨by
  have := k.blk
  simpa only [Hb.cs, Hb.s0, Hb.s4, List.append_assoc, List.cons_append, List.nil_append, List.append_nil] using this, by
  have h0 := k.len
  have h1 := ok.l1
  have h3 := ok.l3
  have h5 := ok.ma
  simp only [List.length_append, List.length_cons, List.length_nil, Hb.s0, Hb.s4] at h0
  omega⟩⟩
theorem HuAt.of_head {m : Int} {b : Bool} (ok : h.Ok) (k : InB w p tp (pre ++ (h.s0 ++ (cellsL h.li ++ ([h.rep] ++ h.sd)))) ([.int .i64 h.tc, .int .i64 h.tm] ++ (h.ma ++ ([.bool h.ms] ++ post))) (mo + 108) [.int .i64 m, .bool b]) : HuAt w p mo tp pre post { h with hm := m, hw := b } := ⟨⟨ok.li, ok.sd, ok.ma⟩, ⟨by
  have := k.blk
  simpa only [Hb.cs, Hb.s0, Hb.s4, List.append_assoc, List.cons_append, List.nil_append, List.append_nil] using this, by
  have h0 := k.len
  have h1 := ok.l1
  have h3 := ok.l3
  have h5 := ok.ma
  simp only [List.length_append, List.length_cons, List.length_nil, Hb.s0, Hb.s4] at h0
  omega⟩⟩
theorem HuAt.of_tail {c m : Int} (ok : h.Ok) (k : InB w p tp (pre ++ (h.s0 ++ (cellsL h.li ++ ([h.rep] ++ (h.sd ++ [.int .i64 h.hm, .bool h.hw]))))) (h.ma ++ ([.bool h.ms] ++ post)) (mo + 110) [.int .i64 c, .int .i64 m]) : HuAt w p mo tp pre post { h with tc := c, tm := m } := ⟨⟨ok.li, ok.sd, ok.ma⟩, ⟨by
  have := k.blk
  simpa only [Hb.cs, Hb.s0, Hb.s4, List.append_assoc, List.cons_append, List.nil_append, List.append_nil] using this, by
  have h0 := k.len
  have h1 := ok.l1
  have h3 := ok.l3
  have h5 := ok.ma
  simp only [List.length_append, List.length_cons, List.length_nil, Hb.s0, Hb.s4] at h0
  omega⟩⟩
theorem HuAt.of_mask {m : List Value} (hm : m.length = 32) (ok : h.Ok) (k : InB w p tp (pre ++ (h.s0 ++ (cellsL h.li ++ ([h.rep] ++ (h.sd ++ h.s4))))) ([.bool h.ms] ++ post) (mo + 112) m) : HuAt w p mo tp pre post { h with ma := m } := ⟨⟨ok.li, ok.sd, hm⟩, ⟨by
  have := k.blk
  simpa only [Hb.cs, Hb.s0, Hb.s4, List.append_assoc, List.cons_append, List.nil_append, List.append_nil] using this, by
  have h0 := k.len
  have h1 := ok.l1
  have h3 := ok.l3
  have h5 := ok.ma
  simp only [List.length_append, List.length_cons, List.length_nil, Hb.s0, Hb.s4] at h0
  omega⟩⟩
theorem HuAt.of_masked {b : Bool} (ok : h.Ok) (k : InB w p tp (pre ++ (h.s0 ++ (cellsL h.li ++ ([h.rep] ++ (h.sd ++ (h.s4 ++ h.ma)))))) post (mo + 144) [.bool b]) : HuAt w p mo tp pre post { h with ms := b } := ⟨⟨ok.li, ok.sd, ok.ma⟩, ⟨by
  have := k.blk
  simpa only [Hb.cs, Hb.s0, Hb.s4, List.append_assoc, List.cons_append, List.nil_append, List.append_nil] using this, by
  have h0 := k.len
  have h1 := ok.l1
  have h3 := ok.l3
  have h5 := ok.ma
  simp only [List.length_append, List.length_cons, List.length_nil, Hb.s0, Hb.s4] at h0
  omega⟩⟩
end
/-- A struct stored into a block from place mo on. -/
theorem InB.store {P : Program} {ops : Array Oper} {rest : List Oper} {o : Oper} {a : Act} {w : World} {Q : Exit → Act → World → Prop} (hgd : o.guard = none) (ty : TypeId) (x y : Operand) (ho : o.op = .store ty x y) {p mo : Nat} {t : TypeId} {pre post old : List Value} (k : InB w p t pre post mo old)
    (hx : a.eval x = .pointer (some ⟨p, mo, none⟩)) (cells : List Value) (hy : a.eval y = .agg cells.toArray) (hi : (P.info? ty).map (·.size) = some cells.length) (hold : old.length = cells.length) (h1 : ∀ v ∈ cells, v.oneCell' = true)
    (h : ∀ w', Hid (InB w' p t pre post mo cells) → Hid (w'.heap.size = w.heap.size) → Only (· = p) w w' → wpList P ops Q rest (a.put o.dst undef) w') : wpList P ops Q (o :: rest) a w :=
  step_storeM hgd ty x y ho p mo hx cells hy t pre old post k.blk k.len hi hold h1 (fun w' hb hz ho => h w' ⟨hb.out, k.len⟩ hz ho)
end Go.Proofs.YtbnfhklpobephaaGreatDoor
/- Whether a text is a type: the program's Right, the document's Right. -/
namespace Go.Proofs.YtbnfhklpobephaaGreatDoor
open Go Go.RowKit
set_option maxRecDepth 100000
set_option maxHeartbeats 4000000

theorem ttright_any (w : World) (s : List UInt8) : Calls Tryz.prog 132 #[.string ⟨s.toArray⟩] w fun e w' => e = .returned (.bool (okT s)) ∧ w' = w := by
  obtain ⟨F, hF⟩ : ∃ F, F = okT s := ⟨_, rfl⟩
  have HF := Lib.hid hF
  rw [← hF]
  clear hF
  obtain ⟨n, hn⟩ : ∃ n, n = s.length := ⟨_, rfl⟩
  have hz : (ByteArray.mk s.toArray).size = n := by rw [hn]; rfl
  have HN := Lib.hid hn
  clear hn
  rcases (by omega : n < 1 ∨ 24 < n ∨ (1 ≤ n ∧ n ≤ 24)) with h | h | ⟨h, h'⟩
  · have hd : decide ((n : Int) < 1) = true := by simp; omega
    go_enter Tryz.func132, Tryz.ntmps132
    go_wp2
    go_ret
    refine ⟨?_, rfl⟩
    obtain rfl : s = [] := List.eq_nil_of_length_eq_zero (by have := HN.out; omega)
    rw [HF.out]
    rfl
  · have hd : decide ((n : Int) < 1) = false := by simp; omega
    have hd2 : decide ((24 : Int) < (n : Int)) = true := by simp; omega
    go_enter Tryz.func132, Tryz.ntmps132
    go_wp2
    go_ret
    refine ⟨?_, rfl⟩
    rw [HF.out, okT_long (by have := HN.out; omega)]
    rfl
  · have hd : decide ((n : Int) < 1) = false := by simp; omega
    have hd2 : decide ((24 : Int) < (n : Int)) = false := by simp; omega
    go_enter Tryz.func132, Tryz.ntmps132
    go_wp2
    go_loop [14] (fun i => ∃ k : Nat, k ≤ n ∧ i = .int .i64 (k : Int) ∧ Hid (TtGood s k)) (fun i => n - (intOf i).toNat)
    case atStart => exact ⟨0, Nat.zero_le _, rfl, TtGood.zero _⟩
    case round =>
      obtain ⟨k, hk, rfl, HD⟩ := hrel
      by_cases hlt : k < n
      · obtain ⟨x, hx⟩ : ∃ x, s[k]? = some x := ⟨_, List.getElem?_eq_getElem (by rw [← HN.out]; exact hlt)⟩
        have hg := str_get hx
        have HX := Lib.hid hx
        clear hx
        have hb := x.toNat_lt
        rcases (by omega : x.toNat < 33 ∨ 126 < x.toNat ∨ (33 ≤ x.toNat ∧ x.toNat ≤ 126)) with h1 | h1 | ⟨h1, h2⟩
        · have hd3 : decide ((x.toNat : Int) < 33) = true := by simp; omega
          have HB : Hid (okB x = false) := by rw [Hid, ← Bool.not_eq_true, okB_iff]; omega
          go_wp2
          go_ret
          refine ⟨?_, rfl⟩
          rw [HF.out, okT_bad HX.out HB.out]
          rfl
        · have hd3 : decide ((x.toNat : Int) < 33) = false := by simp; omega
          have hd4 : decide ((126 : Int) < (x.toNat : Int)) = true := by simp; omega
          have HB : Hid (okB x = false) := by rw [Hid, ← Bool.not_eq_true, okB_iff]; omega
          go_wp2
          go_ret
          refine ⟨?_, rfl⟩
          rw [HF.out, okT_bad HX.out HB.out]
          rfl
        · have hd3 : decide ((x.toNat : Int) < 33) = false := by simp; omega
          have hd4 : decide ((126 : Int) < (x.toNat : Int)) = false := by simp; omega
          have HB : Hid (okB x = true) := by rw [Hid, okB_iff]; omega
          go_wp2
          go_round
          case rel => exact ⟨k + 1, by omega, by go_num, HD.out.succ HX.out HB.out⟩
          case measure => simp [intOf]; omega
      · obtain rfl : k = n := by omega
        go_wp2
        go_ret
        refine ⟨?_, rfl⟩
        rw [HF.out, HD.out.all HN.out h h']
        rfl
end Go.Proofs.YtbnfhklpobephaaGreatDoor
/- Rows of strings: two of them compared, a copy of one. -/
namespace Go.Proofs.YtbnfhklpobephaaGreatDoor
open Go Go.RowKit
set_option maxRecDepth 100000
set_option maxHeartbeats 4000000

end Go.Proofs.YtbnfhklpobephaaGreatDoor
