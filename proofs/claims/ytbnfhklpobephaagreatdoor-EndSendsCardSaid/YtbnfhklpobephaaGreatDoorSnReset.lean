
/- A hub's resetLines: a side, a head and a tail as at first, no mask. -/
import Derived.Test.YtbnfhklpobephaaGreatDoorJSc
import Derived.Test.YtbnfhklpobephaaGreatDoorJSnTypeL
import Derived.Test.YtbnfhklpobephaaGreatDoorJMd
import Derived.Test.YtbnfhklpobephaaGreatDoorJMkOf
import Derived.Deep.RegionHeld3
namespace Go.Proofs.YtbnfhklpobephaaGreatDoor
open Go Go.RowKit
set_option maxRecDepth 100000
set_option maxHeartbeats 4000000

section
variable {P : Program} {md : Region.Mode} {ops : Array Oper} {Q : Exit → Act → World → Prop} {S S' : World → Prop}
theorem wpAnyH_sub (hS : ∀ W, S' W → S W) : ∀ {fuel : Nat} {listed : Array Bool} {a : Act} {w : World}, wpAnyH P md ops Q S' fuel listed a w → wpAnyH P md ops Q S fuel listed a w
  | 0, _, _, _, h => h
  | _ + 1, _, _, _, h => ⟨h.1, fun i hi => wpOp_mono (fun a' w' h' => ⟨hS _ h'.1, wpAnyH_sub hS h'.2⟩) (h.2 i hi)⟩
theorem InB.storeW {op : Oper} {a : Act} {w : World} {K : Act → World → Prop} (ty : TypeId) (x y : Operand) (ho : op.op = .store ty x y) {p mo : Nat} {t : TypeId} {pre post old : List Value} (k : InB w p t pre post mo old)
    (hx : a.eval x = .pointer (some ⟨p, mo, none⟩)) (cells : List Value) (hy : a.eval y = .agg cells.toArray) (hi : (P.info? ty).map (·.size) = some cells.length) (hold : old.length = cells.length) (h1 : ∀ v ∈ cells, v.oneCell' = true)
    (h : ∀ w', Hid (InB w' p t pre post mo cells) → Hid (w'.heap.size = w.heap.size) → Only (· = p) w w' → K (a.put op.dst undef) w') : op.wp P a w K Q := by
  obtain ⟨h2, h3, h4⟩ := Blk.setCells cells k.blk k.len hold
  refine wp_store_mid ty x y ho p mo cells.toArray hx hy (fun j hj => ?_) (by simpa using hi) (all_oneCell_toArray h1) (by simpa using h _ ⟨h2, k.len⟩ h3 h4)
  refine ⟨?_, k.frozen _⟩
  rw [k.cell (by rw [hold]; simpa using hj), List.getElem?_eq_getElem (by rw [hold]; simpa using hj)]
  rfl
end
theorem rng_only {D : Nat → Prop} {w w' : World} {q : Nat} {cs : List Value} (h : w.rangeAt q 0 cs) (ho : Only D w w') (hq : ¬ D q) : w'.rangeAt q 0 cs := fun j v hj => ho.cellv (h j v hj) hq
theorem rng_blk {w : World} {q : Nat} {t : TypeId} {cs : List Value} (h : Blk w q t cs) : w.rangeAt q 0 cs := fun j v hj => by
  rw [Nat.zero_add, h.cell]
  exact hj
theorem ScC.one {cs : List Value} {S : Sd} (h : ScC cs S) : ∀ v ∈ cs, v.oneCell' = true := by
  intro v hv
  obtain ⟨k, hk⟩ := List.getElem?_of_mem hv
  have hl := (List.getElem?_eq_some_iff.1 hk).1
  rw [h.len] at hl
  have hj : k % 5 < (S (k / 5)).cs.length := by simp; omega
  have hx : (S (k / 5)).cs[k % 5]? = some ((S (k / 5)).cs[k % 5]) := List.getElem?_eq_getElem hj
  have e := h.at_ (k / 5) (k % 5) _ (by omega) hx
  rw [show k / 5 * 5 + k % 5 = k from by omega, hk] at e
  injection e with e
  rw [e]
  have hm := List.mem_of_getElem? hx
  simp only [Ch.cs, List.mem_cons, List.not_mem_nil, or_false] at hm
  rcases hm with hm | hm | hm | hm | hm <;> rw [hm] <;> rfl
theorem side_size {cs : List Value} {S : Sd} (h : ScC cs S) : (Tryz.prog.info? 114).map (·.size) = some cs.length := by rw [h.len]; kernel_rfl
theorem size_head : (Tryz.prog.info? 116).map (·.size) = some 2 := by kernel_rfl
theorem size_tail : (Tryz.prog.info? 118).map (·.size) = some 2 := by kernel_rfl
/-- Linemode's part of a hub is as at first. -/
def Hb.again (h : Hb) (cs : List Value) : Hb := { h with sd := cs, hm := 0, hw := false, tc := canOf h.can, tm := 0, ma := mkZ.map B8, ms := false }
theorem snReset_any {w : World} {p mo N : Nat} {tp : TypeId} {pre post : List Value} {h : Hb} {l : List Se} (k : HuAt w p mo tp pre post h) (hho : h.ho = .slice (some ⟨N, 0, none⟩) 18 18) (hst : StAt w (some ⟨N, 0, none⟩) 18 l) :
    Calls Tryz.prog 82 #[.pointer (some ⟨p, mo, none⟩)] w fun e w' => e = .returned (.tuple #[]) ∧ (∃ cs, HuAt w' p mo tp pre post (h.again cs) ∧ ScC cs (newS l)) ∧ Only (· = p) w w' := by
  have hp := k.lt
  have c3 : w.cell? ⟨p, mo + 3, none⟩ = some (.slice (some ⟨N, 0, none⟩) 18 18) := (k.in0.val (i := 3) rfl).trans (congrArg some hho)
  have c4 : w.cell? ⟨p, mo + 4, none⟩ = some (.int .i64 h.can) := k.in0.val (i := 4) rfl
  have HNw : Hid (∀ W, Only (fun _ => False) w W → _) := fun W ho => snew_any (c := 18) (hst.same ho) (by omega) (by omega)
  have HHd := Lib.hid mdNewHead_any
  have HTl := Lib.hid (fun W => mdNewTail_any W h.can)
  have HK := Lib.hid k
  have HHo := Lib.hid hho
  obtain ⟨can, hcan⟩ : ∃ can, can = h.can := ⟨_, rfl⟩
  rw [← hcan] at c4 HTl
  have HCan := Lib.hid hcan
  clear k hst hho hcan
  go_enter Tryz.func82, Tryz.ntmps82
  try go_wp2
  refine wp_region_noPanic ?_
  refine wp_region_held_drew (S := fun W => Only (· = p) w W ∧ W.cell? ⟨p, mo + 3, none⟩ = some (.slice (some ⟨N, 0, none⟩) 18 18) ∧ W.cell? ⟨p, mo + 4, none⟩ = some (.int .i64 can)) (by kernel_rfl) ⟨(Only.refl _ _).drew, c3, c4⟩ (fun hHeld => ?_)
  refine wpAnyH_take (i := 0) (v := .pointer (some ⟨p, mo, none⟩)) rfl (by kernel_rfl) (by kernel_rfl) (by kernel_rfl) (fun _ _ _ h => h) (Or.inl ⟨by rfl, fun W hSw => by (first | (go_simp; done) | (go_simp; with_reducible rfl) | (go_simp; rfl))⟩) hHeld ?_
  try simp only [List.getElem_toArray, List.getElem_cons_zero, List.getElem_cons_succ, Act.put, List.setIfInBounds_toArray, List.set_cons_zero, List.set_cons_succ]
  refine wpAnyH_take (i := 1) (v := .pointer (some ⟨p, mo, none⟩)) rfl (by kernel_rfl) (by kernel_rfl) (by kernel_rfl) (fun _ _ _ h => h) (Or.inl ⟨by rfl, fun W hSw => by (first | (go_simp; done) | (go_simp; with_reducible rfl) | (go_simp; rfl))⟩) hHeld ?_
  try simp only [List.getElem_toArray, List.getElem_cons_zero, List.getElem_cons_succ, Act.put, List.setIfInBounds_toArray, List.set_cons_zero, List.set_cons_succ]
  refine wpAnyH_take (i := 2) (v := .pointer (some ⟨p, mo, none⟩)) rfl (by kernel_rfl) (by kernel_rfl) (by kernel_rfl) (fun _ _ _ h => h) (Or.inl ⟨by rfl, fun W hSw => by (first | (go_simp; done) | (go_simp; with_reducible rfl) | (go_simp; rfl))⟩) hHeld ?_
  try simp only [List.getElem_toArray, List.getElem_cons_zero, List.getElem_cons_succ, Act.put, List.setIfInBounds_toArray, List.set_cons_zero, List.set_cons_succ]
  refine wpAnyH_take (i := 3) (v := .pointer (some ⟨p, mo, none⟩)) rfl (by kernel_rfl) (by kernel_rfl) (by kernel_rfl) (fun _ _ _ h => h) (Or.inl ⟨by rfl, fun W hSw => by (first | (go_simp; done) | (go_simp; with_reducible rfl) | (go_simp; rfl))⟩) hHeld ?_
  try simp only [List.getElem_toArray, List.getElem_cons_zero, List.getElem_cons_succ, Act.put, List.setIfInBounds_toArray, List.set_cons_zero, List.set_cons_succ]
  refine wpAnyH_take (i := 4) (v := .pointer (some ⟨p, mo, none⟩)) rfl (by kernel_rfl) (by kernel_rfl) (by kernel_rfl) (fun _ _ _ h => h) (Or.inl ⟨by rfl, fun W hSw => by (first | (go_simp; done) | (go_simp; with_reducible rfl) | (go_simp; rfl))⟩) hHeld ?_
  try simp only [List.getElem_toArray, List.getElem_cons_zero, List.getElem_cons_succ, Act.put, List.setIfInBounds_toArray, List.set_cons_zero, List.set_cons_succ]
  refine wpAnyH_take (i := 5) (v := .pointer (some ⟨p, mo + 3, none⟩)) rfl (by kernel_rfl) (by kernel_rfl) (by kernel_rfl) (fun _ _ _ h => h) (Or.inl ⟨by rfl, fun W hSw => by (first | (go_simp; done) | (go_simp; with_reducible rfl) | (go_simp; rfl))⟩) hHeld ?_
  try simp only [List.getElem_toArray, List.getElem_cons_zero, List.getElem_cons_succ, Act.put, List.setIfInBounds_toArray, List.set_cons_zero, List.set_cons_succ]
  refine wpAnyH_take (i := 6) (v := .slice (some ⟨N, 0, none⟩) 18 18) rfl (by kernel_rfl) (by kernel_rfl) (by kernel_rfl) (fun _ _ _ h => h) (Or.inl ⟨by rfl, fun W hSw => by (have d3 := hSw.2.1; first | (go_simp; done) | (go_simp; with_reducible rfl) | (go_simp; rfl))⟩) hHeld ?_
  try simp only [List.getElem_toArray, List.getElem_cons_zero, List.getElem_cons_succ, Act.put, List.setIfInBounds_toArray, List.set_cons_zero, List.set_cons_succ]
  refine wpAnyH_take (i := 13) (v := .pointer (some ⟨p, mo, none⟩)) rfl (by kernel_rfl) (by kernel_rfl) (by kernel_rfl) (fun _ _ _ h => h) (Or.inl ⟨by rfl, fun W hSw => by (first | (go_simp; done) | (go_simp; with_reducible rfl) | (go_simp; rfl))⟩) hHeld ?_
  try simp only [List.getElem_toArray, List.getElem_cons_zero, List.getElem_cons_succ, Act.put, List.setIfInBounds_toArray, List.set_cons_zero, List.set_cons_succ]
  refine wpAnyH_take (i := 14) (v := .pointer (some ⟨p, mo, none⟩)) rfl (by kernel_rfl) (by kernel_rfl) (by kernel_rfl) (fun _ _ _ h => h) (Or.inl ⟨by rfl, fun W hSw => by (first | (go_simp; done) | (go_simp; with_reducible rfl) | (go_simp; rfl))⟩) hHeld ?_
  try simp only [List.getElem_toArray, List.getElem_cons_zero, List.getElem_cons_succ, Act.put, List.setIfInBounds_toArray, List.set_cons_zero, List.set_cons_succ]
  refine wpAnyH_take (i := 15) (v := .pointer (some ⟨p, mo + 4, none⟩)) rfl (by kernel_rfl) (by kernel_rfl) (by kernel_rfl) (fun _ _ _ h => h) (Or.inl ⟨by rfl, fun W hSw => by (first | (go_simp; done) | (go_simp; with_reducible rfl) | (go_simp; rfl))⟩) hHeld ?_
  try simp only [List.getElem_toArray, List.getElem_cons_zero, List.getElem_cons_succ, Act.put, List.setIfInBounds_toArray, List.set_cons_zero, List.set_cons_succ]
  refine wpAnyH_take (i := 16) (v := .int .i64 can) rfl (by kernel_rfl) (by kernel_rfl) (by kernel_rfl) (fun _ _ _ h => h) (Or.inl ⟨by rfl, fun W hSw => by (have d4 := hSw.2.2; first | (go_simp; done) | (go_simp; with_reducible rfl) | (go_simp; rfl))⟩) hHeld ?_
  try simp only [List.getElem_toArray, List.getElem_cons_zero, List.getElem_cons_succ, Act.put, List.setIfInBounds_toArray, List.set_cons_zero, List.set_cons_succ]
  refine wpAnyH_ready (rs := [7]) (by kernel_rfl) (by simp) ?_
  refine AllReadyH.cons rfl (fun K hK => ?_) AllReadyH.nil
  go_simp
  (go_at_call 134; (with_reducible refine (HNw.out _ (Only.refl _ _).drew).mono ?_); rintro e w1 ⟨q, rfl, ⟨cs, hB1, hC1⟩, hq1, ho1⟩)
  refine hK.out _ _ (⟨hHeld.1.trans ho1 (fun _ h => h.elim), ho1.cellv hHeld.2.1 (fun h => h), ho1.cellv hHeld.2.2 (fun h => h)⟩) (fun hHeld => ?_)
  clear hK K
  have hqp : q ≠ p := by have : w.heap.size ≤ q := hq1; omega
  have HB1 := Lib.hid hB1
  have HC1 := Lib.hid hC1
  have hz1 : w.heap.size ≤ w1.heap.size := ho1.size
  refine wpAnyH_sub (S' := fun W => (Only (· = p) w W ∧ W.cell? ⟨p, mo + 3, none⟩ = some (.slice (some ⟨N, 0, none⟩) 18 18) ∧ W.cell? ⟨p, mo + 4, none⟩ = some (.int .i64 can)) ∧ W.rangeAt q 0 cs) (fun W h => h.1) ?_
  have hHeld : (fun W => (Only (· = p) w W ∧ W.cell? ⟨p, mo + 3, none⟩ = some (.slice (some ⟨N, 0, none⟩) 18 18) ∧ W.cell? ⟨p, mo + 4, none⟩ = some (.int .i64 can)) ∧ W.rangeAt q 0 cs) _ := ⟨hHeld, rng_blk HB1.out⟩
  clear hB1 hC1 hq1
  refine wpAnyH_take (i := 8) (v := .pointer (some ⟨q, 0, none⟩)) rfl (by kernel_rfl) (by kernel_rfl) (by kernel_rfl) (fun _ _ _ h => h) (Or.inl ⟨by rfl, fun W hSw => by (first | (go_simp; done) | (go_simp; with_reducible rfl) | (go_simp; rfl))⟩) hHeld ?_
  try simp only [List.getElem_toArray, List.getElem_cons_zero, List.getElem_cons_succ, Act.put, List.setIfInBounds_toArray, List.set_cons_zero, List.set_cons_succ]
  refine wpAnyH_take (i := 9) (v := .agg cs.toArray) rfl (by kernel_rfl) (by kernel_rfl) (by kernel_rfl) (fun _ _ _ h => h) (yieldsIf_load_mid (by rfl) 114 _ rfl q 0 rfl cs _ (fun W h => h.2) Tryz.underlying114 rfl (side_size HC1.out)) hHeld ?_
  simp only [List.getElem_toArray, List.getElem_cons_zero, List.getElem_cons_succ, Act.put, List.setIfInBounds_toArray, List.set_cons_zero, List.set_cons_succ]
  refine wpAnyH_ready (rs := [10]) (by kernel_rfl) (by simp) ?_
  refine AllReadyH.cons rfl (fun K hK => ?_) AllReadyH.nil
  go_simp
  (go_at_call 136; (with_reducible refine (HHd.out _).mono ?_); rintro e w2 ⟨rfl, hB2, hz2, ho2⟩)
  refine hK.out _ _ (⟨⟨hHeld.1.1.trans ho2.out (fun _ h => h.elim), ho2.out.cellv hHeld.1.2.1 (fun h => h), ho2.out.cellv hHeld.1.2.2 (fun h => h)⟩, rng_only hHeld.2 ho2.out (fun h => h)⟩) (fun hHeld => ?_)
  clear hK K
  obtain ⟨r, hr⟩ : ∃ r, r = w1.heap.size := ⟨_, rfl⟩
  rw [← hr] at hB2 ⊢
  have hrp : r ≠ p := by omega
  clear hr hz2
  refine wpAnyH_sub (S' := fun W => ((Only (· = p) w W ∧ W.cell? ⟨p, mo + 3, none⟩ = some (.slice (some ⟨N, 0, none⟩) 18 18) ∧ W.cell? ⟨p, mo + 4, none⟩ = some (.int .i64 can)) ∧ W.rangeAt q 0 cs) ∧ W.rangeAt r 0 [.int .i64 0, .bool false]) (fun W h => h.1) ?_
  have hHeld : (fun W => ((Only (· = p) w W ∧ W.cell? ⟨p, mo + 3, none⟩ = some (.slice (some ⟨N, 0, none⟩) 18 18) ∧ W.cell? ⟨p, mo + 4, none⟩ = some (.int .i64 can)) ∧ W.rangeAt q 0 cs) ∧ W.rangeAt r 0 [.int .i64 0, .bool false]) _ := ⟨hHeld, rng_blk hB2.out⟩
  refine wpAnyH_take (i := 11) (v := .pointer (some ⟨r, 0, none⟩)) rfl (by kernel_rfl) (by kernel_rfl) (by kernel_rfl) (fun _ _ _ h => h) (Or.inl ⟨by rfl, fun W hSw => by (first | (go_simp; done) | (go_simp; with_reducible rfl) | (go_simp; rfl))⟩) hHeld ?_
  try simp only [List.getElem_toArray, List.getElem_cons_zero, List.getElem_cons_succ, Act.put, List.setIfInBounds_toArray, List.set_cons_zero, List.set_cons_succ]
  refine wpAnyH_take (i := 12) (v := .agg [Value.int .i64 0, .bool false].toArray) rfl (by kernel_rfl) (by kernel_rfl) (by kernel_rfl) (fun _ _ _ h => h) (yieldsIf_load_mid (by rfl) 116 _ rfl r 0 rfl [Value.int .i64 0, .bool false] _ (fun W h => h.2) Tryz.underlying116 rfl size_head) hHeld ?_
  simp only [List.getElem_toArray, List.getElem_cons_zero, List.getElem_cons_succ, Act.put, List.setIfInBounds_toArray, List.set_cons_zero, List.set_cons_succ]
  refine wpAnyH_ready (rs := [17]) (by kernel_rfl) (by simp) ?_
  refine AllReadyH.cons rfl (fun K hK => ?_) AllReadyH.nil
  go_simp
  (go_at_call 137; (with_reducible refine (HTl.out _).mono ?_); rintro e w3 ⟨rfl, hB3, hz3, ho3⟩)
  refine hK.out _ _ (⟨⟨⟨hHeld.1.1.1.trans ho3.out (fun _ h => h.elim), ho3.out.cellv hHeld.1.1.2.1 (fun h => h), ho3.out.cellv hHeld.1.1.2.2 (fun h => h)⟩, rng_only hHeld.1.2 ho3.out (fun h => h)⟩, rng_only hHeld.2 ho3.out (fun h => h)⟩) (fun hHeld => ?_)
  clear hK K
  have hsz2 := ho2.out.size
  obtain ⟨s, hs⟩ : ∃ s, s = w2.heap.size := ⟨_, rfl⟩
  rw [← hs] at hB3 ⊢
  have hsp : s ≠ p := by omega
  clear hs hz3
  refine wpAnyH_sub (S' := fun W => (((Only (· = p) w W ∧ W.cell? ⟨p, mo + 3, none⟩ = some (.slice (some ⟨N, 0, none⟩) 18 18) ∧ W.cell? ⟨p, mo + 4, none⟩ = some (.int .i64 can)) ∧ W.rangeAt q 0 cs) ∧ W.rangeAt r 0 [.int .i64 0, .bool false]) ∧ W.rangeAt s 0 [.int .i64 (canOf can), .int .i64 0]) (fun W h => h.1) ?_
  have hHeld : (fun W => (((Only (· = p) w W ∧ W.cell? ⟨p, mo + 3, none⟩ = some (.slice (some ⟨N, 0, none⟩) 18 18) ∧ W.cell? ⟨p, mo + 4, none⟩ = some (.int .i64 can)) ∧ W.rangeAt q 0 cs) ∧ W.rangeAt r 0 [.int .i64 0, .bool false]) ∧ W.rangeAt s 0 [.int .i64 (canOf can), .int .i64 0]) _ := ⟨hHeld, rng_blk hB3.out⟩
  refine wpAnyH_take (i := 18) (v := .pointer (some ⟨s, 0, none⟩)) rfl (by kernel_rfl) (by kernel_rfl) (by kernel_rfl) (fun _ _ _ h => h) (Or.inl ⟨by rfl, fun W hSw => by (first | (go_simp; done) | (go_simp; with_reducible rfl) | (go_simp; rfl))⟩) hHeld ?_
  try simp only [List.getElem_toArray, List.getElem_cons_zero, List.getElem_cons_succ, Act.put, List.setIfInBounds_toArray, List.set_cons_zero, List.set_cons_succ]
  refine wpAnyH_take (i := 19) (v := .agg [Value.int .i64 (canOf can), .int .i64 0].toArray) rfl (by kernel_rfl) (by kernel_rfl) (by kernel_rfl) (fun _ _ _ h => h) (yieldsIf_load_mid (by rfl) 118 _ rfl s 0 rfl [Value.int .i64 (canOf can), .int .i64 0] _ (fun W h => h.2) Tryz.underlying118 rfl size_tail) hHeld ?_
  simp only [List.getElem_toArray, List.getElem_cons_zero, List.getElem_cons_succ, Act.put, List.setIfInBounds_toArray, List.set_cons_zero, List.set_cons_succ]
  have HK3 := Lib.hid (((HK.out.same (w' := w.drew) (Only.refl _ _).drew).same ho1 |>.same ho2.out).same ho3.out)
  refine wpAnyH_take (i := 20) (v := .pointer (some ⟨p, mo, none⟩)) rfl (by kernel_rfl) (by kernel_rfl) (by kernel_rfl) (fun _ _ _ h => h) (Or.inl ⟨by rfl, fun W hSw => by (first | (go_simp; done) | (go_simp; with_reducible rfl) | (go_simp; rfl))⟩) hHeld ?_
  try simp only [List.getElem_toArray, List.getElem_cons_zero, List.getElem_cons_succ, Act.put, List.setIfInBounds_toArray, List.set_cons_zero, List.set_cons_succ]
  refine wpAnyH_take (i := 21) (v := .pointer (some ⟨p, mo + 18, none⟩)) rfl (by kernel_rfl) (by kernel_rfl) (by kernel_rfl) (fun _ _ _ h => h) (Or.inl ⟨by rfl, fun W hSw => by (first | (go_simp; done) | (go_simp; with_reducible rfl) | (go_simp; rfl))⟩) hHeld ?_
  try simp only [List.getElem_toArray, List.getElem_cons_zero, List.getElem_cons_succ, Act.put, List.setIfInBounds_toArray, List.set_cons_zero, List.set_cons_succ]
  refine wpAnyH_ready (rs := [22]) (by kernel_rfl) (by simp) ?_
  refine AllReadyH.cons rfl (fun K hK => ?_) AllReadyH.nil
  rw [if_pos (by rfl)]
  refine InB.storeW 114 _ _ rfl HK3.out.in3 rfl cs rfl (side_size HC1.out) (by rw [HK3.out.ok.l3, HC1.out.len]) HC1.out.one ?_; intro w4 hI4 hz4 ho4; have HK4 := Lib.hid (HuAt.of_side HC1.out HK3.out.ok hI4.out)
  refine hK.out _ _ (⟨⟨⟨⟨hHeld.1.1.1.1.trans ho4 (fun i hi => .inl hi), (HK4.out.in0.val (i := 3) rfl).trans (congrArg some HHo.out), (HK4.out.in0.val (i := 4) rfl).trans (by rw [HCan.out])⟩, rng_only hHeld.1.1.2 ho4 hqp⟩, rng_only hHeld.1.2 ho4 hrp⟩, rng_only hHeld.2 ho4 hsp⟩) (fun hHeld => ?_)
  clear hK K
  simp only [List.getElem_toArray, List.getElem_cons_zero, List.getElem_cons_succ, Act.put, List.setIfInBounds_toArray, List.set_cons_zero, List.set_cons_succ]
  refine wpAnyH_take (i := 23) (v := .pointer (some ⟨p, mo, none⟩)) rfl (by kernel_rfl) (by kernel_rfl) (by kernel_rfl) (fun _ _ _ h => h) (Or.inl ⟨by rfl, fun W hSw => by (first | (go_simp; done) | (go_simp; with_reducible rfl) | (go_simp; rfl))⟩) hHeld ?_
  try simp only [List.getElem_toArray, List.getElem_cons_zero, List.getElem_cons_succ, Act.put, List.setIfInBounds_toArray, List.set_cons_zero, List.set_cons_succ]
  refine wpAnyH_take (i := 24) (v := .pointer (some ⟨p, mo + 108, none⟩)) rfl (by kernel_rfl) (by kernel_rfl) (by kernel_rfl) (fun _ _ _ h => h) (Or.inl ⟨by rfl, fun W hSw => by (first | (go_simp; done) | (go_simp; with_reducible rfl) | (go_simp; rfl))⟩) hHeld ?_
  try simp only [List.getElem_toArray, List.getElem_cons_zero, List.getElem_cons_succ, Act.put, List.setIfInBounds_toArray, List.set_cons_zero, List.set_cons_succ]
  refine wpAnyH_ready (rs := [25]) (by kernel_rfl) (by simp) ?_
  refine AllReadyH.cons rfl (fun K hK => ?_) AllReadyH.nil
  rw [if_pos (by rfl)]
  refine InB.storeW 116 _ _ rfl HK4.out.head rfl [.int .i64 0, .bool false] rfl size_head rfl (by simp [Value.oneCell']) ?_; intro w5 hI5 hz5 ho5; have HK5 := Lib.hid (HuAt.of_head HK4.out.ok hI5.out)
  refine hK.out _ _ (⟨⟨⟨⟨hHeld.1.1.1.1.trans ho5 (fun i hi => .inl hi), (HK5.out.in0.val (i := 3) rfl).trans (congrArg some HHo.out), (HK5.out.in0.val (i := 4) rfl).trans (by rw [HCan.out])⟩, rng_only hHeld.1.1.2 ho5 hqp⟩, rng_only hHeld.1.2 ho5 hrp⟩, rng_only hHeld.2 ho5 hsp⟩) (fun hHeld => ?_)
  clear hK K
  simp only [List.getElem_toArray, List.getElem_cons_zero, List.getElem_cons_succ, Act.put, List.setIfInBounds_toArray, List.set_cons_zero, List.set_cons_succ]
  refine wpAnyH_take (i := 26) (v := .pointer (some ⟨p, mo, none⟩)) rfl (by kernel_rfl) (by kernel_rfl) (by kernel_rfl) (fun _ _ _ h => h) (Or.inl ⟨by rfl, fun W hSw => by (first | (go_simp; done) | (go_simp; with_reducible rfl) | (go_simp; rfl))⟩) hHeld ?_
  try simp only [List.getElem_toArray, List.getElem_cons_zero, List.getElem_cons_succ, Act.put, List.setIfInBounds_toArray, List.set_cons_zero, List.set_cons_succ]
  refine wpAnyH_take (i := 27) (v := .pointer (some ⟨p, mo + 110, none⟩)) rfl (by kernel_rfl) (by kernel_rfl) (by kernel_rfl) (fun _ _ _ h => h) (Or.inl ⟨by rfl, fun W hSw => by (first | (go_simp; done) | (go_simp; with_reducible rfl) | (go_simp; rfl))⟩) hHeld ?_
  try simp only [List.getElem_toArray, List.getElem_cons_zero, List.getElem_cons_succ, Act.put, List.setIfInBounds_toArray, List.set_cons_zero, List.set_cons_succ]
  refine wpAnyH_ready (rs := [28]) (by kernel_rfl) (by simp) ?_
  refine AllReadyH.cons rfl (fun K hK => ?_) AllReadyH.nil
  rw [if_pos (by rfl)]
  refine InB.storeW 118 _ _ rfl HK5.out.tail rfl [.int .i64 (canOf can), .int .i64 0] rfl size_tail rfl (by simp [Value.oneCell']) ?_; intro w6 hI6 hz6 ho6; have HK6 := Lib.hid (HuAt.of_tail HK5.out.ok hI6.out)
  refine hK.out _ _ (⟨⟨⟨⟨hHeld.1.1.1.1.trans ho6 (fun i hi => .inl hi), (HK6.out.in0.val (i := 3) rfl).trans (congrArg some HHo.out), (HK6.out.in0.val (i := 4) rfl).trans (by rw [HCan.out])⟩, rng_only hHeld.1.1.2 ho6 hqp⟩, rng_only hHeld.1.2 ho6 hrp⟩, rng_only hHeld.2 ho6 hsp⟩) (fun hHeld => ?_)
  clear hK K
  simp only [List.getElem_toArray, List.getElem_cons_zero, List.getElem_cons_succ, Act.put, List.setIfInBounds_toArray, List.set_cons_zero, List.set_cons_succ]
  refine wpAnyH_done (by kernel_rfl) (NoPanic.normal ?_) _
  have HO6 : Hid (Only (· = p) w w6) := hHeld.1.1.1.1
  clear hHeld
  have hmc := MkCells.of (m := mkZ) (by decide)
  have HMc := Lib.hid hmc
  obtain ⟨zs, hzs⟩ : ∃ zs, zs = mkZ.map B8 := ⟨_, rfl⟩
  have hbm := built_mask
  rw [← hzs] at HMc hbm
  have HBm := Lib.hid hbm
  have HZs := Lib.hid hzs
  have HL7 := Lib.hid HK6.out.ok.ma
  clear hmc hbm hzs c3 c4
  go_wp2_with (first
    | ((with_reducible show wpList _ _ _ (⟨some 30, _, _, _, _, _⟩ :: _) _ _); refine step_build0 rfl 120 rfl zs HBm.out ?_)
    | ((with_reducible show wpList _ _ _ (⟨none, .store 120 _ _, _, _, _, _⟩ :: _) _ _); refine InB.store rfl 120 _ _ rfl HK6.out.in5 rfl zs rfl HMc.out.size (by rw [HL7.out, HMc.out.len]) HMc.out.one ?_; intro w7 hI7 hz7 ho7; have HK7 := Lib.hid (HuAt.of_mask HMc.out.len HK6.out.ok hI7.out); have c144 : w7.cell? ⟨p, mo + 144, none⟩ = some _ := HK7.out.in6.val (i := 0) rfl; have f144 := HK7.out.frozen (mo + 144)))
  refine bodyPost_end (results_none rfl _ _ _) rfl ?_
  have HO7 : Only (· = p) w w7 := HO6.out.trans ho7 (fun i hi => .inl hi)
  have hI8 := HK7.out.in6.setCell (i := 0) (by simp) (.bool false)
  have HK8 := HuAt.of_masked HK7.out.ok hI8
  refine ⟨rfl, ⟨cs, ?_, HC1.out⟩, HO7.setCell (p := ⟨p, mo + 144, none⟩) (.inl rfl) _⟩
  unfold Hb.again
  rw [HZs.out, HCan.out] at HK8
  exact HK8
end Go.Proofs.YtbnfhklpobephaaGreatDoor
