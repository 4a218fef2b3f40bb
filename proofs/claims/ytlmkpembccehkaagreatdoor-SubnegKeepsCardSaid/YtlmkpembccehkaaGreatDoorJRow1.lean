/- Several texts in one. -/
import Derived.Test.YtlmkpembccehkaaGreatDoorJInfo
import Derived.Test.YtlmkpembccehkaaGreatDoorJTbSt
import Derived.Test.YtlmkpembccehkaaGreatDoorJSnChars
import Derived.Test.YtlmkpembccehkaaGreatDoorJSnKeep
import Derived.Test.YtlmkpembccehkaaGreatDoorJSu
/- Rows of one cell an element that the call laid itself: append of one value. -/
namespace Go.Proofs.YtlmkpembccehkaaGreatDoor
open Go Go.RowKit
set_option maxRecDepth 100000
set_option maxHeartbeats 4000000

theorem info_int : (Tryz.prog.info? 3).map (fun i => (i.zero, i.size, i.bytes)) = some (some (.int .i64 0), 1, 8) := by kernel_rfl
theorem info_bool1 : (Tryz.prog.info? 4).map (fun i => (i.zero, i.size, i.bytes)) = some (some (.bool false), 1, 1) := by kernel_rfl
theorem info1 {e : TypeId} {z : Value} {bytes : Nat} (h : (Tryz.prog.info? e).map (fun i => (i.zero, i.size, i.bytes)) = some (some z, 1, bytes)) : ∃ i, Tryz.prog.info? e = some i ∧ i.zero = some z ∧ i.size = 1 ∧ i.bytes = bytes := by
  cases hi : Tryz.prog.info? e with
  | none => rw [hi] at h; cases h
  | some i =>
    rw [hi] at h
    simp only [Option.map_some, Option.some.injEq, Prod.mk.injEq] at h
    exact ⟨i, rfl, h⟩
/-- append of one value. -/
theorem step_one {ops : Array Oper} {rest : List Oper} {o : Oper} {a : Act} {w : World} {Q : Exit → Act → World → Prop} (hgd : o.guard = none) (sx x : Operand) (t : TypeId) (ho : o.op = .call { callee := .builtin .append, args := #[sx, x], argTypes := #[t, t] })
    (e : TypeId) (z : Value) (bytes : Nat) (ht : Tryz.prog.underlying t = some (.slice e)) (hi : (Tryz.prog.info? e).map (fun i => (i.zero, i.size, i.bytes)) = some (some z, 1, bytes)) (hz : z.cells.size = 1) (hby : bytes ≤ 64)
    (B : Nat) (A : Option Addr) (n c : Nat) (vs : List Value) (hs : a.eval sx = .slice A n c) (hb : w.ownsRow B e 1 (.slice A n c) n vs) (g : Nat) (u : Value) (hx : a.eval x = .slice (some ⟨g, 0, none⟩) 1 1) (hc : w.cell? ⟨g, 0, none⟩ = some u) (hu : u.oneCell' = true) (hbd : n ≤ 1048576) (hB : B ≤ w.heap.size)
    (h : ∀ A' c' w', Hid (w'.ownsRow B e 1 (.slice A' (n + 1) c') (n + 1) (vs ++ [u])) → Hid (w.grownBy w' (Value.slice A n c).ownBlock) → Hid (∀ k, (Value.slice A' (n + 1) c').ownBlock = some k → (Value.slice A n c).ownBlock = some k ∨ w.heap.size ≤ k) → wpList Tryz.prog ops Q rest (a.put o.dst (.slice A' (n + 1) c')) w') :
    wpList Tryz.prog ops Q (o :: rest) a w := by
  obtain ⟨i, hi, hz1, h1, h2⟩ := info1 hi
  have hby' : (n + 1) * bytes ≤ 140737488355328 := Nat.le_trans (Nat.mul_le_mul (by omega : n + 1 ≤ 1048577) hby) (by decide)
  refine step_append_own hgd sx x t ho B e i _ 1 bytes ht hi hz1 h1 h2 hz (by omega) _ n vs hs hb (some ⟨g, 0, none⟩) 1 1 [u] hx rfl (fun _ => ⟨_, rfl, fun j v hj => ?_⟩) (fun v hv => by obtain rfl := List.mem_singleton.1 hv; exact hu) (by omega) hby' hB ?_
  · have hj0 : j = 0 := by have := (List.getElem?_eq_some_iff.1 hj).1; simp at this; omega
    subst hj0
    simp only [List.getElem?_cons_zero, Option.some.injEq] at hj
    subst hj
    rw [at_add]
    exact hc
  · intro A' c' w' _ _ hq
    exact h A' c' w' hq.out.1 hq.out.2.1 hq.out.2.2
/-- .. at a step of a region that draws its order. -/
theorem step_oneR {ops : Array Oper} {o : Oper} {a : Act} {w : World} {K : Act → World → Prop} {Q : Exit → Act → World → Prop} {E : Prop} (hgd : o.guard = none) (sx x : Operand) (t : TypeId) (ho : o.op = .call { callee := .builtin .append, args := #[sx, x], argTypes := #[t, t] })
    (e : TypeId) (z : Value) (bytes : Nat) (ht : Tryz.prog.underlying t = some (.slice e)) (hi : (Tryz.prog.info? e).map (fun i => (i.zero, i.size, i.bytes)) = some (some z, 1, bytes)) (hz : z.cells.size = 1) (hby : bytes ≤ 64)
    (B : Nat) (A : Option Addr) (n c : Nat) (vs : List Value) (hs : a.eval sx = .slice A n c) (hb : w.ownsRow B e 1 (.slice A n c) n vs) (g : Nat) (u : Value) (hx : a.eval x = .slice (some ⟨g, 0, none⟩) 1 1) (hc : w.cell? ⟨g, 0, none⟩ = some u) (hu : u.oneCell' = true) (hbd : n ≤ 1048576) (hB : B ≤ w.heap.size)
    (h : ∀ A' c' w', Hid (w'.ownsRow B e 1 (.slice A' (n + 1) c') (n + 1) (vs ++ [u])) → Hid (w.grownBy w' (Value.slice A n c).ownBlock) → K (a.put o.dst (.slice A' (n + 1) c')) w') :
    if Region.wanted o (yielded ops a.tmps) = true then Oper.wp Tryz.prog o a w K Q else E := by
  obtain ⟨i, hi, hz1, h1, h2⟩ := info1 hi
  have hby' : (n + 1) * bytes ≤ 140737488355328 := Nat.le_trans (Nat.mul_le_mul (by omega : n + 1 ≤ 1048577) hby) (by decide)
  refine step_append_lies w hgd sx x t ho B e i _ 1 bytes ht hi hz1 h1 h2 hz (by omega) _ n vs hs hb ⟨g, 0, none⟩ 1 1 [u] hx rfl (fun j v hj => ?_) (fun v hv => by obtain rfl := List.mem_singleton.1 hv; exact hu) (by omega) (by unfold maxLen; omega) hby' hB _ rfl ?_
  · have hj0 : j = 0 := by have := (List.getElem?_eq_some_iff.1 hj).1; simp at this; omega
    subst hj0
    simp only [List.getElem?_cons_zero, Option.some.injEq] at hj
    subst hj
    rw [at_add]
    exact hc
  · intro g cap w' hq1 hq2 _ _
    exact h _ cap w' hq1 hq2
/-- .. and its row is the same, or a new one. -/
theorem step_oneRS {ops : Array Oper} {o : Oper} {a : Act} {w : World} {K : Act → World → Prop} {Q : Exit → Act → World → Prop} {E : Prop} (hgd : o.guard = none) (sx x : Operand) (t : TypeId) (ho : o.op = .call { callee := .builtin .append, args := #[sx, x], argTypes := #[t, t] })
    (e : TypeId) (z : Value) (bytes : Nat) (ht : Tryz.prog.underlying t = some (.slice e)) (hi : (Tryz.prog.info? e).map (fun i => (i.zero, i.size, i.bytes)) = some (some z, 1, bytes)) (hz : z.cells.size = 1) (hby : bytes ≤ 64)
    (B : Nat) (A : Option Addr) (n c : Nat) (vs : List Value) (hs : a.eval sx = .slice A n c) (hb : w.ownsRow B e 1 (.slice A n c) n vs) (g : Nat) (u : Value) (hx : a.eval x = .slice (some ⟨g, 0, none⟩) 1 1) (hc : w.cell? ⟨g, 0, none⟩ = some u) (hu : u.oneCell' = true) (hbd : n ≤ 1048576) (hB : B ≤ w.heap.size)
    (h : ∀ A' c' w', Hid (w'.ownsRow B e 1 (.slice A' (n + 1) c') (n + 1) (vs ++ [u])) → Hid (w.grownBy w' (Value.slice A n c).ownBlock) → Hid (∀ k, (Value.slice A' (n + 1) c').ownBlock = some k → (Value.slice A n c).ownBlock = some k ∨ w.heap.size ≤ k) → K (a.put o.dst (.slice A' (n + 1) c')) w') :
    if Region.wanted o (yielded ops a.tmps) = true then Oper.wp Tryz.prog o a w K Q else E := by
  obtain ⟨i, hi, hz1, h1, h2⟩ := info1 hi
  have hby' : (n + 1) * bytes ≤ 140737488355328 := Nat.le_trans (Nat.mul_le_mul (by omega : n + 1 ≤ 1048577) hby) (by decide)
  refine step_append_lies w hgd sx x t ho B e i _ 1 bytes ht hi hz1 h1 h2 hz (by omega) _ n vs hs hb ⟨g, 0, none⟩ 1 1 [u] hx rfl (fun j v hj => ?_) (fun v hv => by obtain rfl := List.mem_singleton.1 hv; exact hu) (by omega) (by unfold maxLen; omega) hby' hB _ rfl ?_
  · have hj0 : j = 0 := by have := (List.getElem?_eq_some_iff.1 hj).1; simp at this; omega
    subst hj0
    simp only [List.getElem?_cons_zero, Option.some.injEq] at hj
    subst hj
    rw [at_add]
    exact hc
  · intro g cap w' hq1 hq2 hat _
    refine h _ cap w' hq1 hq2 (fun k hk => ?_)
    have hk' : g = k := by simpa [Value.ownBlock] using hk
    subst hk'
    rcases hat with hat | hat
    · exact .inl hat
    · exact .inr (by omega)
/-- append of so many values, or none, onto a row of the call's own, at a step of a region that draws its order. -/
theorem step_rowR {ops : Array Oper} {o : Oper} {a : Act} {w : World} {K : Act → World → Prop} {Q : Exit → Act → World → Prop} {E : Prop} (hgd : o.guard = none) (sx x : Operand) (t : TypeId) (ho : o.op = .call { callee := .builtin .append, args := #[sx, x], argTypes := #[t, t] })
    (e : TypeId) (z : Value) (bytes : Nat) (ht : Tryz.prog.underlying t = some (.slice e)) (hi : (Tryz.prog.info? e).map (fun i => (i.zero, i.size, i.bytes)) = some (some z, 1, bytes)) (hz : z.cells.size = 1) (hby : bytes ≤ 64)
    (B : Nat) (A : Option Addr) (n c : Nat) (vs : List Value) (hs : a.eval sx = .slice A n c) (hb : w.ownsRow B e 1 (.slice A n c) n vs) (S : Option Addr) (m d : Nat) (news : List Value) (hx : a.eval x = .slice S m d) (hl : news.length = m)
    (hc : 0 < m → ∃ ad, S = some ad ∧ ∀ (j : Nat) (u : Value), news[j]? = some u → w.cell? (ad.add j) = some u) (hu : ∀ u ∈ news, u.oneCell' = true) (hbd : n + m ≤ 1048576) (hB : B ≤ w.heap.size)
    (h : ∀ A' c' w', Hid (w'.ownsRow B e 1 (.slice A' (n + m) c') (n + m) (vs ++ news)) → Hid (w.grownBy w' (Value.slice A n c).ownBlock) → K (a.put o.dst (.slice A' (n + m) c')) w') :
    if Region.wanted o (yielded ops a.tmps) = true then Oper.wp Tryz.prog o a w K Q else E := by
  obtain ⟨i, hi, hz1, h1, h2⟩ := info1 hi
  by_cases hm : m = 0
  · subst hm
    obtain rfl : news = [] := List.eq_nil_of_length_eq_zero hl
    rw [if_pos (by simp [Region.wanted, hgd])]
    refine Lib.wp_append_run w sx x t t ho _ _ hs hx _ _ (run_append_zero' w t _ e i ht hi A n c (own_le hb).1 S d) (h A c w (show World.ownsRow _ _ _ _ _ _ _ by rw [List.append_nil]; exact hb) (show World.grownBy _ _ _ from ⟨rfl, rfl, rfl, Nat.le_refl _, fun _ _ _ => rfl⟩))
  · have hby' : (n + m) * bytes ≤ 140737488355328 := Nat.le_trans (Nat.mul_le_mul hbd hby) (by decide)
    obtain ⟨ad, rfl, hcc⟩ := hc (by omega)
    refine step_append_lies w hgd sx x t ho B e i _ 1 bytes ht hi hz1 h1 h2 hz (by omega) _ n vs hs hb ad m d news hx (by omega) hcc hu (by omega) (by unfold maxLen; omega) hby' hB _ rfl ?_
    intro g cap w' hq1 hq2 _ _
    exact h _ cap w' hq1 hq2
/-- A row beside another one that grows. -/
theorem own_beside {w w' : World} {B n s : Nat} {e : TypeId} {v : Value} {xs : List Value} {row : Option Nat} (h : w.ownsRow B e s v n xs) (hg : w.grownBy w' row) (hne : ∀ k, v.ownBlock = some k → row ≠ some k) : w'.ownsRow B e s v n xs :=
  h.kept hg (by
    cases hv : v.ownBlock with
    | none => exact .inl rfl
    | some k => exact .inr (fun e => hne k hv e.symm))
end Go.Proofs.YtlmkpembccehkaaGreatDoor
/- Package table: List. -/
namespace Go.Proofs.YtlmkpembccehkaaGreatDoor
open Go Go.RowKit
set_option maxRecDepth 100000
set_option maxHeartbeats 4000000

/-- A row of ints that a call laid. -/
def onL (t : Tb) (s : Int) (n : Nat) : List Int := ((List.range n).filter fun (o : Nat) => decide (t.get s (o : Int) = .yes)).map fun (o : Nat) => (o : Int)
theorem onL_succ (t : Tb) (s : Int) (n : Nat) : onL t s (n + 1) = onL t s n ++ (if t.get s (n : Int) = .yes then [(n : Int)] else []) := by
  unfold onL
  rw [List.range_succ, List.filter_append, List.map_append]
  congr 1
  by_cases h : t.get s (n : Int) = .yes <;> simp [h]
def iv (z : Int) : Value := .int .i64 z
theorem tlist_any {W : World} {p : Nat} {ag : Nat → Nat → Bool} {t : Tb} (h : TbAt W p ag t) (s : Int) : Calls Tryz.prog 103 #[.pointer (some ⟨p, 0, none⟩), .int .i64 s] W fun e w' =>
    ∃ A n c, e = .returned (.slice A n c) ∧ n = (onL t s 256).length ∧ w'.ownsRow W.heap.size 3 1 (.slice A n c) n ((onL t s 256).map iv) ∧ Only (fun _ => False) W w' := by
  have HT := Lib.hid h
  clear h
  go_enter Tryz.func103, Tryz.ntmps103
  go_wp2
  go_loopw [5, 7] (fun v i w => ∃ (j : Nat) (A : Option Addr) (n c : Nat), j ≤ 256 ∧ n ≤ j ∧ v = .slice A n c ∧ i = .int .i64 (j : Int) ∧ Hid (n = (onL t s j).length ∧ Only (fun _ => False) W w ∧ w.ownsRow W.heap.size 3 1 (.slice A n c) n ((onL t s j).map iv))) (fun _ i _ => 256 - (intOf i).toNat)
  case atStart => exact ⟨0, none, 0, 0, by omega, by omega, rfl, rfl, rfl, Only.refl _ _, own_nil _ _ _ _⟩
  case round =>
    obtain ⟨j, A, n, c, hj, hnj, rfl, rfl, hrel⟩ := hrel
    by_cases hjn : j < 256
    · have hj2 : (j : Int) < 256 := by omega
      have HOn : Hid (Calls Tryz.prog 66 #[.pointer (some ⟨p, 0, none⟩), .int .i64 s, .int .i64 (j : Int)] wr fun e w' => e = .returned (.bool (decide (t.get s (j : Int) = .yes))) ∧ Only (fun _ => False) wr w') := ton_any (HT.out.same hrel.out.2.1) s (j : Int)
      have HS := Lib.hid (onL_succ t s j)
      by_cases hon : t.get s (j : Int) = .yes
      · rw [decide_eq_true hon] at HOn
        rw [if_pos hon] at HS
        obtain ⟨vs, hvs⟩ : ∃ vs, vs = (onL t s j).map iv := ⟨_, rfl⟩
        have HV := Lib.hid hvs
        clear hon hvs
        go_wp2_with (first
          | (go_at_call 66; refine HOn.out.mono ?_; rintro e w5 ⟨rfl, ho5⟩; have HO5 := Lib.hid (hrel.out.2.1.trans ho5 (fun _ h => h.elim)); have HR5 := Lib.hid (own_same hrel.out.2.2 ho5); rw [← HV.out] at HR5; clear ho5)
          | (at_builtin; refine step_one rfl _ _ 28 rfl 3 _ 8 Tryz.underlying28 info_int rfl (by omega) W.heap.size A n c vs rfl (own_same HR5.out ((Only.refl _ _).alloc _)) w5.heap.size _ rfl ((Blk.new w5 3 [.int .i64 (j : Int)]).cell 0) rfl (by omega) (by have := HO5.out.size; simp; omega) ?_; intro A' c' w6 hR6 hG6 hN6)
          | fail)
        go_roundw
        case rel =>
          refine ⟨j + 1, A', n + 1, c', by omega, by omega, rfl, by go_num, ?_, ?_, ?_⟩
          · rw [HS.out, List.length_append, ← hrel.out.1]; rfl
          · exact (HO5.out.alloc _).grown hG6.out (fun k hk => .inr (own_lt HR5.out k hk).1)
          · rw [HS.out, List.map_append, ← HV.out]; exact hR6.out
        case measure => simp [intOf]; omega
      · rw [decide_eq_false hon] at HOn
        rw [if_neg hon, List.append_nil] at HS
        clear hon
        go_wp2_with (first
          | (go_at_call 66; refine HOn.out.mono ?_; rintro e w5 ⟨rfl, ho5⟩; have HO5 := Lib.hid (hrel.out.2.1.trans ho5 (fun _ h => h.elim)); have HR5 := Lib.hid (own_same hrel.out.2.2 ho5); clear ho5)
          | fail)
        go_roundw
        case rel => exact ⟨j + 1, A, n, c, by omega, by omega, rfl, by go_num, by rw [HS.out]; exact hrel.out.1, HO5.out, by rw [HS.out]; exact HR5.out⟩
        case measure => simp [intOf]; omega
    · obtain rfl : j = 256 := by omega
      go_wp2
      go_ret
      exact ⟨A, n, c, rfl, hrel.out.1, hrel.out.2.2, hrel.out.2.1⟩
end Go.Proofs.YtlmkpembccehkaaGreatDoor
/- Reports of tables: the program's, the document's. -/
namespace Go.Proofs.YtlmkpembccehkaaGreatDoor
open Go Go.RowKit
set_option maxRecDepth 100000
set_option maxHeartbeats 4000000

/-- A side's part of a report. -/
def enOf (v : Int) (zs : List Int) : List En := zs.map fun z => ⟨v, z⟩
theorem enOf_length (v : Int) (zs : List Int) : (enOf v zs).length = zs.length := by simp [enOf]
theorem onL_short (T : Tb) (s : Int) : (onL T s 256).length ≤ 256 := by
  unfold onL
  rw [List.length_map]
  exact Nat.le_trans (List.length_filter_le _ _) (by simp)
def tbRep (T : Tb) : List En := enOf 251 (onL T 0 256) ++ enOf 253 (onL T 1 256)
theorem csE_src {w : World} {B n c : Nat} {A : Option Addr} {e : TypeId} {xs : List Value} (h : w.ownsRow B e 2 (.slice A n c) n xs) : 0 < n → ∃ ad, A = some ad ∧ ∀ (j : Nat) (u : Value), xs[j]? = some u → w.cell? (ad.add j) = some u := fun hn => by
  obtain ⟨g, hA, _, _, hc⟩ := own_at h hn
  exact ⟨_, hA, fun j u hj => by rw [at_add]; exact hc j u hj⟩
theorem csE_ones (l : List En) : ∀ u ∈ csE l, u.oneCell' = true := by
  intro u hu
  obtain ⟨x, _, hx⟩ := List.mem_flatMap.1 hu
  exact En.cs_one x u hx

theorem entries_any {w : World} {B n c : Nat} {A : Option Addr} {zs : List Int} (h : w.ownsRow B 3 1 (.slice A n c) n (zs.map iv)) (hn : n ≤ 1000) (v : Int) :
    Calls Tryz.prog 102 #[.int .i64 v, .slice A n c] w fun e w' => ∃ A' c', e = .returned (.slice A' n c') ∧ w'.ownsRow w.heap.size 185 2 (.slice A' n c') n (csE (enOf v zs)) ∧ Only (fun _ => False) w w' := by
  have hl : zs.length = n := by have := h.1; simpa using this
  have H := Lib.hid h
  have HL := Lib.hid hl
  obtain ⟨i, hi, hz, h1, h2⟩ := infoK info_en
  have HI := Lib.hid hi
  have HZ := Lib.hid hz
  have HI1 := Lib.hid h1
  have HI2 := Lib.hid h2
  clear h hl hi hz h1 h2
  go_enter Tryz.func102, Tryz.ntmps102
  go_wp2
  go_loopw [5, 10] (fun a i W => ∃ (k : Nat) (B : Option Addr) (cb : Nat), k ≤ n ∧ a = .slice B k cb ∧ i = .int .i64 (k : Int) ∧ Hid (W.ownsRow w.heap.size 185 2 (.slice B k cb) k (csE (enOf v (zs.take k))) ∧ Only (fun _ => False) w W)) (fun _ i _ => n - (intOf i).toNat)
  case atStart => exact ⟨0, _, 0, Nat.zero_le _, rfl, rfl, own_nil _ _ _ _, Only.refl _ _⟩
  case round =>
    obtain ⟨k, B, cb, hk, rfl, rfl, hrel⟩ := hrel
    by_cases hlt : k < n
    · have hlt2 : (k : Int) < (n : Int) := by omega
      obtain ⟨x, hx⟩ : ∃ x, zs[k]? = some x := ⟨_, List.getElem?_eq_getElem (by rw [HL.out]; omega)⟩
      obtain ⟨g, rfl, _, _, hc⟩ := own_at (own_same H.out hrel.out.2) (by omega)
      have d0 := hc k (.int .i64 x) (by rw [List.getElem?_map, hx]; rfl)
      have HTk : Hid (csE (enOf v (zs.take (k + 1))) = csE (enOf v (zs.take k)) ++ [.int .i64 v, .int .i64 x]) := by
        show csE (enOf v (zs.take (k + 1))) = _
        rw [List.take_add_one, hx]
        simp [enOf, csE]
      obtain ⟨vs, hvs⟩ : ∃ vs, vs = csE (enOf v (zs.take k)) := ⟨_, rfl⟩
      rw [← hvs] at HTk hrel
      clear hx hc hvs
      go_wp2_with (first
        | (at_builtin; refine step_append_own rfl (.tmp 14) (.tmp 18) 73 rfl w.heap.size 185 i _ 2 16 Tryz.underlying73 HI.out HZ.out HI1.out HI2.out rfl (by omega) (.slice B k cb) k vs rfl (own_same hrel.out.1 ((Only.refl _ _).alloc _)) (some ⟨wr.heap.size, 0, none⟩) 1 1 [.int .i64 v, .int .i64 x] rfl rfl (fun _ => ⟨_, rfl, fun j u hj => by rw [at_add]; exact ((Blk.new' _ _ [.int .i64 v, .int .i64 x] (by simp)).cell j).trans hj⟩) (En.cs_one ⟨v, x⟩) (by omega) (by omega) (Nat.le_trans hrel.out.2.size (by simp; try omega)) ?_; intro A7 c7 w7 hq1 hq2 hq3; have HOw7 := Lib.hid hq3.out.1; have HOn7 : Hid (Only (fun _ => False) w w7) := Only.grown (hrel.out.2.alloc _) hq3.out.2.1 (fun k hk => .inr (own_lt hrel.out.1 k hk).1); clear hq1 hq2 hq3)
        | fail)
      go_roundw
      case rel => exact ⟨k + 1, A7, c7, by omega, rfl, by go_num, by rw [HTk.out]; exact HOw7.out, HOn7.out⟩
      case measure => simp [intOf]; omega
    · obtain rfl : k = n := by omega
      have hF : Hid (csE (enOf v (zs.take k)) = csE (enOf v zs)) := by
        show csE (enOf v (zs.take k)) = _
        rw [List.take_of_length_le (by rw [HL.out]; exact Nat.le_refl _)]
      go_wp2
      go_ret
      exact ⟨B, cb, rfl, by rw [← hF.out]; exact hrel.out.1, hrel.out.2⟩

/-- The program's report of a table. -/
theorem suTab_any {w : World} {p : Nat} {ag : Nat → Nat → Bool} {T : Tb} (h : TbAt w p ag T) : Calls Tryz.prog 91 #[.pointer (some ⟨p, 0, none⟩)] w fun e w' => ∃ A n c, e = .returned (.slice A n c) ∧ EnAt w' A n (tbRep T) ∧ n ≤ 512 ∧ Only (fun _ => False) w w' := by
  have HT := Lib.hid h
  have HL := Lib.hid (fun W (ho : Only (fun _ => False) w W) s => tlist_any (h.same ho) s)
  have HE := Lib.hid (fun (W : World) (B n c : Nat) (A : Option Addr) (zs : List Int) (h : W.ownsRow B 3 1 (.slice A n c) n (zs.map iv)) (hn : n ≤ 1000) (v : Int) => entries_any h hn v)
  have HS0 := Lib.hid (onL_short T 0)
  have HS1 := Lib.hid (onL_short T 1)
  obtain ⟨i, hi, hz, h1, h2⟩ := infoK info_en
  have HI := Lib.hid hi
  have HZ := Lib.hid hz
  have HI1 := Lib.hid h1
  have HI2 := Lib.hid h2
  have HRep : Hid (csE (tbRep T) = csE (enOf 251 (onL T 0 256)) ++ csE (enOf 253 (onL T 1 256)) ∧ (tbRep T).length = (onL T 0 256).length + (onL T 1 256).length) := ⟨csE_append _ _, by rw [tbRep, List.length_append, enOf_length, enOf_length]⟩
  obtain ⟨z0, hz0⟩ : ∃ z, z = onL T 0 256 := ⟨_, rfl⟩
  obtain ⟨z1, hz1⟩ : ∃ z, z = onL T 1 256 := ⟨_, rfl⟩
  have HZ0 := Lib.hid hz0
  have HZ1 := Lib.hid hz1
  rw [← hz0, ← hz1] at HRep
  rw [← hz0] at HS0
  rw [← hz1] at HS1
  clear h hi hz h1 h2 hz0 hz1
  go_enter Tryz.func91, Tryz.ntmps91
  go_wp2_with (first
    | ((with_reducible show Calls _ _ #[.pointer _, .int .i64 0] _ _); refine (HL.out _ (Only.refl _ _) 0).mono ?_; rintro e w2 ⟨A1, n1, c1, rfl, hn1, hr1, ho⟩; rw [← HZ0.out] at hn1 hr1; have HO2 := Lib.hid ho; have HR1 := Lib.hid hr1; have HN1 := Lib.hid hn1; clear ho hr1 hn1)
    | ((with_reducible show Calls _ _ #[.int .i64 251, _] _ _); refine (HE.out _ _ _ _ _ _ HR1.out (by have := HN1.out; have := HS0.out; omega) 251).mono ?_; rintro e w3 ⟨A2, c2, rfl, hr2, ho⟩; have HO3 := Lib.hid (HO2.out.trans ho (fun _ h => h.elim)); have HR2 := Lib.hid hr2; have HZ3 : Hid (w2.heap.size ≤ w3.heap.size) := ho.size; clear ho hr2)
    | ((with_reducible show Calls _ _ #[.pointer _, .int .i64 1] _ _); refine (HL.out _ HO3.out 1).mono ?_; rintro e w4 ⟨A3, n3, c3, rfl, hn3, hr3, ho⟩; rw [← HZ1.out] at hn3 hr3; have HO4 := Lib.hid (HO3.out.trans ho (fun _ h => h.elim)); have HR4 := Lib.hid (own_same HR2.out ho); have HR3 := Lib.hid hr3; have HN3 := Lib.hid hn3; have HZ4 : Hid (w2.heap.size ≤ w4.heap.size) := Nat.le_trans HZ3.out ho.size; clear ho hr3 hn3)
    | ((with_reducible show Calls _ _ #[.int .i64 253, _] _ _); refine (HE.out _ _ _ _ _ _ HR3.out (by have := HN3.out; have := HS1.out; omega) 253).mono ?_; rintro e w5 ⟨A4, c4, rfl, hr5, ho⟩; have HO5 := Lib.hid (HO4.out.trans ho (fun _ h => h.elim)); have HR5 := Lib.hid hr5; have HR6 := Lib.hid (own_same HR4.out ho); have HZ5 : Hid (w2.heap.size ≤ w5.heap.size) := Nat.le_trans HZ4.out ho.size; clear ho hr5)
    | (at_builtin; refine step_append_own rfl (.tmp 9) (.tmp 12) 73 rfl w2.heap.size 185 i _ 2 16 Tryz.underlying73 HI.out HZ.out HI1.out HI2.out rfl (by omega) (.slice A2 n1 c2) n1 _ rfl HR6.out A4 n3 c4 (csE (enOf 253 z1)) rfl (by rw [csE_length, enOf_length, HN3.out]) (csE_src HR5.out) (csE_ones _) (by have := HN1.out; have := HN3.out; have := HS0.out; have := HS1.out; omega) (by have := HN1.out; have := HN3.out; have := HS0.out; have := HS1.out; omega) HZ5.out ?_; intro A7 c7 w7 hq1 hq2 hq3; have HOw7 := Lib.hid hq3.out.1; have HOn7 : Hid (Only (fun _ => False) w w7) := Only.grown HO5.out hq3.out.2.1 (fun k hk => .inr (by have := (own_lt HR6.out k hk).1; have := HO2.out.size; omega)); clear hq1 hq2 hq3)
    | fail)
  go_ret
  have ho := HOw7.out
  rw [← HRep.out.1] at ho
  have hl : (tbRep T).length = n1 + n3 := by rw [HRep.out.2, HN1.out, HN3.out]
  exact ⟨A7, n1 + n3, c7, rfl, LsOf.of_own (cs := En.cs) (m := 2) (fun _ => rfl) ho hl, by have := HN1.out; have := HN3.out; have := HS0.out; have := HS1.out; omega, HOn7.out⟩

theorem suTab_nil (w : World) : Calls Tryz.prog 91 #[.pointer none] w fun e w' => e = .returned (.slice none 0 0) ∧ w' = w := by
  go_enter Tryz.func91, Tryz.ntmps91
  go_wp2
  go_ret
  exact ⟨rfl, rfl⟩
/-- The report so far, side by side. -/
def repTo (T : Tb) : Nat → List En
  | 0 => []
  | s + 1 => repTo T s ++ enOf (251 + 2 * (s : Int)) (onL T (s : Int) 256)
theorem repTo_two (T : Tb) : repTo T 2 = tbRep T := rfl
theorem repTo_short (T : Tb) : ∀ s, (repTo T s).length ≤ 256 * s
  | 0 => Nat.le_refl _
  | s + 1 => by
    have h1 := repTo_short T s
    have h2 := onL_short T (s : Int)
    rw [repTo, List.length_append, enOf_length]
    omega
end Go.Proofs.YtlmkpembccehkaaGreatDoor
/- A hub hears a body of Status. -/
namespace Go.Proofs.YtlmkpembccehkaaGreatDoor
open Go Go.RowKit
set_option maxRecDepth 100000
set_option maxHeartbeats 4000000

theorem suBody_short {l : List En} (h : suNum l = 0) : (suBody l).length ≤ 256 := by
  unfold suBody
  rw [if_pos h, List.length_cons, enBytes_length]
  unfold suNum at h
  split at h
  · cases h
  · omega
section
variable {w : World} {es : List Addr} {A : Option Addr} {n c : Nat} {b : List UInt8} {p q : Nat} {h : Hb} {ag : Nat → Nat → Bool} {T : Tb}
theorem tellReport_any (hE : ErrsAt w es) (hT : TbAt w q ag T) :
    Calls Tryz.prog 74 #[.pointer (some ⟨q, 0, none⟩)] w fun e w' => ∃ v E, e = .returned (.tuple #[v, E]) ∧ Hid ((E = .nilIface ∧ Tol w' v 5) ∨ (errI E ∧ v = .slice none 0 0)) ∧ Hid (Only (fun _ => False) w w') := by
  have HO := Lib.hid (suTab_any hT)
  have HB := Lib.hid (fun W (ho : Only (fun _ => False) w W) A n c (h : EnAt W A n (tbRep T)) (hn : n ≤ 1000) => suBody_any (c := c) (hE.only ho) h hn)
  have HT := Lib.hid (fun W A n c => tell_any W 5 A n c)
  clear hE hT
  obtain ⟨num, hnum⟩ : ∃ num, num = suNum (tbRep T) := ⟨_, rfl⟩
  have HNum := Lib.hid hnum
  unfold Answered at HB
  rw [← hnum] at HB
  clear hnum
  by_cases h0 : num = 0
  · have HB0 : Hid (∀ W, Only (fun _ => False) w W → ∀ A n c, EnAt W A n (tbRep T) → n ≤ 1000 → Calls Tryz.prog 90 #[.slice A n c] W fun e w' => ∃ A' m c', e = .returned (.tuple #[.slice A' m c', .nilIface]) ∧ Src w' A' m (suBody (tbRep T)) ∧ Only (fun _ => False) W w') := fun W ho A n c h1 h2 => (HB.out W ho A n c h1 h2).mono (fun e w' ⟨A', m, c', E, h3, h4, h5, _, h6⟩ => by
      rcases h4.ways with ⟨_, rfl⟩ | ⟨h, _⟩
      · exact ⟨A', m, c', h3, h5, h6⟩
      · exact absurd h0 h)
    have hsh : (suBody (tbRep T)).length ≤ 256 := suBody_short (by rw [← HNum.out]; exact h0)
    have HSh := Lib.hid hsh
    clear HB hsh h0
    go_enter Tryz.func74, Tryz.ntmps74
    go_wp2_with (first
      | (go_at_call 91; (with_reducible refine HO.out.mono ?_); rintro e w1 ⟨A1, n1, c1, rfl, hen, hn1, ho1⟩; have HEn := Lib.hid hen; have HO1 := Lib.hid ho1; clear hen ho1)
      | (go_at_call 90; (with_reducible refine (HB0.out _ HO1.out _ _ _ HEn.out (by omega)).mono ?_); rintro e w2 ⟨A2, n2, c2, rfl, hs2, ho2⟩; have HS2 := Lib.hid hs2; have HO2 := Lib.hid (HO1.out.trans ho2 (fun _ h => h.elim)); clear hs2 ho2)
      | (go_at_call 71; (with_reducible refine (HT.out _ _ _ _).mono ?_); rintro e w3 ⟨rfl, hb3, ho3⟩))
    go_ret2
    exact ⟨_, _, rfl, .inl ⟨rfl, .inr ⟨_, A2, n2, c2, _, rfl, hb3.out, HS2.out.only ho3.out (fun _ _ _ h => h), by rw [← HS2.out.1]; exact HSh.out⟩⟩, HO2.out.trans ho3.out (fun _ h => h.elim)⟩
  · have HB0 : Hid (∀ W, Only (fun _ => False) w W → ∀ A n c, EnAt W A n (tbRep T) → n ≤ 1000 → Calls Tryz.prog 90 #[.slice A n c] W fun e w' => ∃ A' m c' a, e = .returned (.tuple #[.slice A' m c', .iface 191 (.pointer (some a))]) ∧ Only (fun _ => False) W w') := fun W ho A n c h1 h2 => (HB.out W ho A n c h1 h2).mono (fun e w' ⟨A', m, c', E, h3, h4, h5, _, h6⟩ => by
      rcases h4.ways with ⟨h, _⟩ | ⟨_, a, rfl⟩
      · exact absurd h h0
      · exact ⟨A', m, c', a, h3, h6⟩)
    clear HB h0
    go_enter Tryz.func74, Tryz.ntmps74
    go_wp2_with (first
      | (go_at_call 91; (with_reducible refine HO.out.mono ?_); rintro e w1 ⟨A1, n1, c1, rfl, hen, hn1, ho1⟩; have HEn := Lib.hid hen; have HO1 := Lib.hid ho1; clear hen ho1)
      | (go_at_call 90; (with_reducible refine (HB0.out _ HO1.out _ _ _ HEn.out (by omega)).mono ?_); rintro e w2 ⟨A2, n2, c2, a2, rfl, ho2⟩; have HO2 := Lib.hid (HO1.out.trans ho2 (fun _ h => h.elim)); clear ho2))
    go_ret2
    exact ⟨_, _, rfl, .inr ⟨⟨a2, rfl⟩, rfl⟩, HO2.out⟩
theorem keepStatus (hE : ErrsAt w es) (k : HkAt w p h) (hT : TbAt w q ag T) (hs : Src w A n b) (hn : n ≤ 256) (hnc : n ≤ c) (hcap : c ≤ 9223372036854775807) : HearsB 53 w p q h 5 A n c := by
  have HP := Lib.hid (suParse_any hE hs (by omega) hnc hcap)
  have HOn := Lib.hid (on_at hT (paAsks b) 5)
  have HSd := Lib.hid (fun W => snSide_any W (paAsks b))
  have HR := Lib.hid (fun W (ho : Only (fun _ => False) w W) => tellReport_any (hE.only ho) (hT.same ho))
  obtain ⟨a, ha, hst⟩ := (hE.of [9]).get 9 8 (by decide) rfl
  unfold errV at hst
  have HC : Hid (∀ W, Only (fun _ => False) w W → W.cell? ⟨8, 0, none⟩ = some (.iface 191 (.pointer (some a)))) := fun W ho => ho.cellv hst (fun h => h)
  have HK := Lib.hid k
  unfold Parsed at HP
  generalize paNum b = num at *
  generalize hx : paAsks b = x at *
  generalize onAt T x 5 = on at *
  clear hE hT hs k ha hst hx hn hnc hcap
  by_cases h0 : num = 0
  · have HP0 : Hid (Calls Tryz.prog 73 #[.slice A n c] w fun e w' => ∃ A' m c', e = .returned (.tuple #[.slice A' m c', .bool x, .nilIface]) ∧ Only (fun _ => False) w w') := HP.out.mono (fun e w' ⟨A', m, c', E, h3, h4, _, h6⟩ => by
      rcases h4.ways with ⟨_, rfl⟩ | ⟨h, _⟩
      · exact ⟨A', m, c', h3, h6⟩
      · exact absurd h0 h)
    clear HP h0
    cases on with
    | false =>
      generalize (if x = true then (0 : Int) else 1) = xi at *
      go_enter Tryz.func53, Tryz.ntmps53
      go_wp2_with (first
        | (go_at_call 73; (with_reducible refine HP0.out.mono ?_); rintro e w1 ⟨A1, m1, c1, rfl, ho1⟩; have HO1 := Lib.hid ho1; clear ho1)
        | (go_at_call 68; (with_reducible refine (HSd.out _).mono ?_); rintro e w' ⟨rfl, e2⟩; subst w')
        | (go_at_call 66; (with_reducible refine (HOn.out _ HO1.out).mono ?_); rintro e w2 ⟨rfl, ho2⟩; have HO2 := Lib.hid (HO1.out.trans ho2 (fun _ h => h.elim)); have hc2 := HC.out _ HO2.out; clear ho2))
      go_quiet (fail)
      go_wp2
      go_ret2
      exact ⟨_, _, rfl, Heard.err HK.out (HO2.out.drewN _)⟩
    | true =>
      cases x with
      | true =>
        rw [show (if true = true then (0 : Int) else 1) = 0 from rfl] at HSd HOn
        go_enter Tryz.func53, Tryz.ntmps53
        go_wp2_with (first
          | (go_at_call 73; (with_reducible refine HP0.out.mono ?_); rintro e w1 ⟨A1, m1, c1, rfl, ho1⟩; have HO1 := Lib.hid ho1; clear ho1)
          | (go_at_call 68; (with_reducible refine (HSd.out _).mono ?_); rintro e w' ⟨rfl, e2⟩; subst w')
          | (go_at_call 66; (with_reducible refine (HOn.out _ HO1.out).mono ?_); rintro e w2 ⟨rfl, ho2⟩; have HO2 := Lib.hid (HO1.out.trans ho2 (fun _ h => h.elim)); clear ho2)
          | (go_at_call 74; (with_reducible refine (HR.out _ HO2.out).mono ?_); rintro e w3 ⟨v, E, rfl, h1, h2⟩))
        go_ret2
        have HO3 : Only (fun _ => False) w w3 := HO2.out.trans h2.out (fun _ h => h.elim)
        refine ⟨_, _, rfl, ?_, HO3.mono (fun _ h => h.elim)⟩
        rcases h1.out with ⟨rfl, q1⟩ | ⟨q1, rfl⟩
        · exact .inl ⟨rfl, q1, _, HK.out.same HO3⟩
        · exact .inr ⟨q1, rfl, HK.out.same HO3⟩
      | false =>
        rw [show (if false = true then (0 : Int) else 1) = 1 from rfl] at HSd HOn
        have HCl : Hid (∀ W, Only (fun _ => False) w W → ∃ v, W.cell? ⟨p, 17, none⟩ = some v ∧ W.frozen? ⟨p, 17, none⟩ = false) := fun W ho => ⟨_, (HK.out.hub.same ho).in2.val (i := 0) rfl, (HK.out.hub.same ho).frozen 17⟩
        go_enter Tryz.func53, Tryz.ntmps53
        go_wp2_with (first
          | (go_at_call 73; (with_reducible refine HP0.out.mono ?_); rintro e w1 ⟨A1, m1, c1, rfl, ho1⟩; have HO1 := Lib.hid ho1; clear ho1)
          | (go_at_call 68; (with_reducible refine (HSd.out _).mono ?_); rintro e w' ⟨rfl, e2⟩; subst w')
          | (go_at_call 66; (with_reducible refine (HOn.out _ HO1.out).mono ?_); rintro e w2 ⟨rfl, ho2⟩; have HO2 := Lib.hid (HO1.out.trans ho2 (fun _ h => h.elim)); obtain ⟨v17, c17, f17⟩ := HCl.out _ HO2.out; clear ho2))
        go_ret2
        have hI := (HK.out.hub.same HO2.out).in2.setCell (i := 0) (by simp) (.slice A1 m1 c1)
        have hO : Only (· = p) w (w2.setCell ⟨p, 17, none⟩ (.slice A1 m1 c1)) := (Only.mono (T := (· = p)) HO2.out (fun _ h => h.elim)).setCell (p := ⟨p, 17, none⟩) (.inl rfl) _
        exact ⟨_, _, rfl, .inl ⟨rfl, .inl rfl, _, HK.out.next hO (HuAt.of_rep HK.out.hub.ok hI) rfl rfl HK.out.tc⟩, hO⟩
  · have HP0 : Hid (Calls Tryz.prog 73 #[.slice A n c] w fun e w' => ∃ A' m c' a, e = .returned (.tuple #[.slice A' m c', .bool x, .iface 191 (.pointer (some a))]) ∧ Only (fun _ => False) w w') := HP.out.mono (fun e w' ⟨A', m, c', E, h3, h4, _, h6⟩ => by
      rcases h4.ways with ⟨h, _⟩ | ⟨_, a, rfl⟩
      · exact absurd h h0
      · exact ⟨A', m, c', a, h3, h6⟩)
    clear HP h0
    go_enter Tryz.func53, Tryz.ntmps53
    go_wp2_with (first
      | (go_at_call 73; (with_reducible refine HP0.out.mono ?_); rintro e w1 ⟨A1, m1, c1, a1, rfl, ho1⟩; have HO1 := Lib.hid ho1; clear ho1))
    go_ret2
    exact ⟨_, _, rfl, Heard.err HK.out HO1.out⟩
end
end Go.Proofs.YtlmkpembccehkaaGreatDoor
