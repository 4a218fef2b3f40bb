
/- Words for rows: slices that the program has laid itself, of whatever number of cells an element; the copy of elements of more cells than one. -/
import Derived.Test.YtgknhojjnnljkaaDoorBase
import Derived.Laws.OwnMore
import Derived.Deep.AppendLies
import Derived.Maps.AppendAt
import Derived.OwnWalk
import Derived.Lib.AppendZerosOnto
import Derived.Lib.Overlaps
import Derived.Deep.RegionLaw
import Derived.Outline
namespace Go.Proofs.YtgknhojjnnljkaaDoor
open Go Go.RowKit

section
variable {S : Nat → Prop} {a w w' : World} {row : Option Nat} {B : Nat} {e : TypeId} {s n c : Nat} {v : Value} {A : Option Addr} {xs : List Value}
theorem Only.grown (h : Only S a w) (hg : w.grownBy w' row) (hr : ∀ k, row = some k → S k ∨ a.heap.size ≤ k) : Only S a w' :=
  ⟨hg.os.trans h.os, hg.tape.trans h.tape, hg.output.trans h.output, Nat.le_trans h.size hg.size, fun k hk hS =>
    (hg.block k (Nat.lt_of_lt_of_le hk h.size) (fun e => by rcases hr k e.symm with h1 | h1; exact hS h1; omega)).trans (h.block k hk hS)⟩
theorem Only.toGrown (h : Only S w w') (hS : ∀ k, S k → some k = row ∨ w.heap.size ≤ k) : w.grownBy w' row :=
  ⟨h.os, h.tape, h.output, h.size, fun k hk hr => h.block k hk (fun hs => by rcases hS k hs with h1 | h1; exact hr h1; omega)⟩
theorem own_only (h : w.ownsRow B e s v n xs) (ho : Only S w w') (hS : ∀ k, v.ownBlock = some k → ¬ S k) : w'.ownsRow B e s v n xs := by
  refine ⟨h.1, ?_⟩
  rcases h.2 with hn | ⟨g, cap, cur, rfl, hb, hgg, rest⟩
  · exact .inl hn
  · exact .inr ⟨g, cap, cur, rfl, hb, (ho.block g (Array.getElem?_eq_some_iff.1 hgg).1 (hS g rfl)).trans hgg, rest⟩
theorem own_same (h : w.ownsRow B e s v n xs) (ho : Only (fun _ => False) w w') : w'.ownsRow B e s v n xs := own_only h ho (fun _ _ h => h)
theorem own_mono {B' : Nat} (h : w.ownsRow B e s v n xs) (hB : B' ≤ B) : w.ownsRow B' e s v n xs := by
  refine ⟨h.1, ?_⟩
  rcases h.2 with hn | ⟨g, cap, cur, rfl, hb, rest⟩
  · exact .inl hn
  · exact .inr ⟨g, cap, cur, rfl, Nat.le_trans hB hb, rest⟩
theorem own_form (h : w.ownsRow B e s v n xs) : ∃ A c, v = .slice A n c ∧ n ≤ c ∧ c ≤ 9223372036854775807 := by
  rcases h.2 with ⟨rfl, rfl⟩ | ⟨g, cap, cur, rfl, _, _, h1, h2, _⟩
  · exact ⟨_, _, rfl, Nat.le_refl _, by omega⟩
  · exact ⟨_, _, rfl, h1, by simpa [maxLen] using h2⟩
theorem own_le (h : w.ownsRow B e s (.slice A n c) n xs) : n ≤ c ∧ c ≤ 9223372036854775807 := by
  obtain ⟨A', c', hv, h1, h2⟩ := own_form h
  injection hv with _ _ hc
  subst hc
  exact ⟨h1, h2⟩
theorem own_at (h : w.ownsRow B e s (.slice A n c) n xs) (hn : 0 < n) : ∃ g, A = some ⟨g, 0, none⟩ ∧ B ≤ g ∧ g < w.heap.size ∧ ∀ (j : Nat) (v : Value), xs[j]? = some v → w.cell? ⟨g, j, none⟩ = some v := by
  obtain ⟨g, cap, hv, hb, hlt⟩ := h.form hn
  injection hv with hA _ hc
  subst hA hc
  refine ⟨g, rfl, hb, hlt, fun j v hj => ?_⟩
  have := h.cells (g := g) rfl j v hj
  rwa [show (⟨g, 0, none⟩ : Addr).add j = ⟨g, j, none⟩ from by unfold Addr.add; split <;> simp_all] at this
theorem own_lt (h : w.ownsRow B e s v n xs) : ∀ k, v.ownBlock = some k → B ≤ k ∧ k < w.heap.size := h.lt
theorem own_ne {g : Nat} {t : TypeId} {cs : List Value} (h : w.ownsRow B e s v n xs) (hg : Blk w g t cs) (hne : e ≠ t) : ∀ k, v.ownBlock = some k → k ≠ g := by
  rcases h.2 with ⟨rfl, _⟩ | ⟨g', cap, cur, rfl, _, hh, _⟩
  · rintro k ⟨⟩
  · rintro k ⟨⟩ rfl
    unfold Blk at hg
    rw [hh] at hg
    injection hg with hg
    injection hg with _ ht
    exact hne ht
theorem own_own_ne {B' : Nat} {e' : TypeId} {s' n' : Nat} {v' : Value} {xs' : List Value} (h : w.ownsRow B e s v n xs) (h' : w.ownsRow B' e' s' v' n' xs') (hne : e ≠ e') : ∀ k, v.ownBlock = some k → v'.ownBlock ≠ some k := by
  intro k hk hk'
  rcases h'.2 with ⟨rfl, _⟩ | ⟨g', cap, cur, rfl, _, hh, _⟩
  · cases hk'
  · cases hk'
    exact own_ne (g := g') (t := e') (cs := cur.toList) h (by unfold Blk; simpa using hh) hne _ hk rfl
theorem own_kept {B' : Nat} {e' : TypeId} {s' n' : Nat} {v' : Value} {xs' : List Value} (h : w.ownsRow B e s v n xs) (h' : w.ownsRow B' e' s' v' n' xs') (hne : e ≠ e') (hg : w.grownBy w' v'.ownBlock) : w'.ownsRow B e s v n xs :=
  h.kept hg (by
    cases hq : v.ownBlock with
    | none => exact .inl rfl
    | some k => exact .inr (fun e => own_own_ne h h' hne k hq e.symm))
theorem own_nil (w : World) (B : Nat) (e : TypeId) (s : Nat) : w.ownsRow B e s (.slice none 0 0) 0 [] := World.ownsRow_nil w B e s
/-- The row's block, known whole. -/
theorem own_blk {g : Nat} (h : w.ownsRow B e s (.slice (some ⟨g, 0, none⟩) n c) n xs) : ∃ cur : List Value, Blk w g e cur ∧ cur.length = c * s ∧ cur.take (n * s) = xs ∧ n ≤ c ∧ c ≤ 9223372036854775807 ∧ B ≤ g := by
  rcases h.2 with ⟨h, _⟩ | ⟨g', cap', cur, hv, hb, hg, hn, hm, hc, ht⟩
  · cases h
  · injection hv with hA _ hc'
    injection hA with hA
    injection hA with hA
    subst hA hc'
    exact ⟨cur.toList, by unfold Blk; simpa using hg, by simpa using hc, ht, hn, by simpa [maxLen] using hm, hb⟩
theorem own_of_blk {g : Nat} {cur : List Value} (hg : Blk w g e cur) (hl : cur.length = c * s) (ht : cur.take (n * s) = xs) (hn : n ≤ c) (hc : c ≤ 9223372036854775807) (hB : B ≤ g) : w.ownsRow B e s (.slice (some ⟨g, 0, none⟩) n c) n xs := by
  refine ⟨?_, .inr ⟨g, c, cur.toArray, rfl, hB, hg, hn, by simpa [maxLen] using hc, by simpa using hl, by simpa using ht⟩⟩
  rw [← ht, List.length_take, hl]
  exact Nat.min_eq_left (Nat.mul_le_mul_right _ hn)
end

/-- copy(dst, src), elements of so many cells: as an equation. -/
theorem run_copyK {P : Program} (w : World) (dT sT ty elem : TypeId) (size : Nat) (hu : P.underlying dT = some (.slice elem)) (hs : (P.info? elem).map (·.size) = some size)
    (g off dLen dCap : Nat) (ad : Addr) (sLen sCap : Nat) (cur : List Value) (t : TypeId) (hg : Blk w g t cur) (cs : List Value) (m : Nat) (hm : m = Nat.min sLen dLen) (hn : cs.length = m * size)
    (hsrc : ∀ (j : Nat) (v : Value), cs[j]? = some v → w.cell? (ad.add j) = some v) (hfit : off + cs.length ≤ cur.length) (h1 : ∀ v ∈ cs, v.oneCell' = true) :
    (Builtin.copy_ #[dT, sT] ty #[.slice (some ⟨g, off, none⟩) dLen dCap, .slice (some ad) sLen sCap]).run P w = .ok (.int .i64 (m : Int)) (w.setRow g (splice cur off cs).toArray) := by
  have hl := run_firstCells_some (P := P) w size m ad sLen sCap cs hn hsrc
  have hst := run_storeCells_at P g off t cs 0 cur.toArray w hg (by simpa using hfit) h1
  cases hq : P.info? elem with
  | none => simp [hq] at hs
  | some i =>
    have hi : i.size = size := by simpa [hq] using hs
    have hmin : min sLen dLen = m := hm.symm
    simp [Builtin.copy_, run_underlying hu, Builtin.lenOf, sizeOf, typeInfo, hq, hi, hmin, hl, hst, splice]
    rfl

section
variable {P : Program} {ops : Array Oper} {rest : List Oper} {o : Oper} {a : Act} {w : World} {Q : Exit → Act → World → Prop}
/-- .. as a step of the walk. -/
theorem step_copyK (hgd : o.guard = none) (d s : Operand) (dT sT : TypeId)
    (ho : o.op = .call { callee := .builtin .copy, args := #[d, s], argTypes := #[dT, sT] }) (elem : TypeId) (size : Nat) (hu : P.underlying dT = some (.slice elem)) (hs : (P.info? elem).map (·.size) = some size)
    (g off dLen dCap : Nat) (ad : Addr) (sLen sCap : Nat) (hd : a.eval d = .slice (some ⟨g, off, none⟩) dLen dCap) (hx : a.eval s = .slice (some ad) sLen sCap)
    (cur : List Value) (t : TypeId) (hg : Blk w g t cur) (cs : List Value) (m : Nat) (hm : m = Nat.min sLen dLen) (hn : cs.length = m * size)
    (hsrc : ∀ (j : Nat) (v : Value), cs[j]? = some v → w.cell? (ad.add j) = some v) (hfit : off + cs.length ≤ cur.length) (h1 : ∀ v ∈ cs, v.oneCell' = true)
    (h : ∀ w', Hid (Blk w' g t (splice cur off cs)) → Hid (w'.heap.size = w.heap.size) → Only (· = g) w w' → wpList P ops Q rest (a.put o.dst (.int .i64 (m : Int))) w') :
    wpList P ops Q (o :: rest) a w := by
  refine wpList_plain hgd fun K hK => ?_
  have hrun := run_copyK (P := P) w dT sT o.type elem size hu hs g off dLen dCap ad sLen sCap cur t hg cs m hm hn hsrc hfit h1
  unfold Oper.wp
  simp [execOp, ho, resolve, invoke, builtin, hd, hx, hrun, Result.andThen]
  refine hK _ _ (h _ (show Blk _ _ _ _ by
      unfold Blk
      have := setRow_heap w g cur.toArray (splice cur off cs).toArray t (0, 0) hg
      simpa using this) (show _ = _ by simp [World.setRow]) ((Only.refl (· = g) w).setRow (.inl rfl) _))
end

section
variable {P : Program} {ops : Array Oper} {rest : List Oper} {o : Oper} {a : Act} {w : World} {Q : Exit → Act → World → Prop}
/-- append(s[:j], make(S, k)...), without room: a new row. -/
theorem step_append_zeros (hgd : o.guard = none) (s x : Operand) (t tn : TypeId) (ho : o.op = .call { callee := .builtin .append, args := #[s, x], argTypes := #[t, tn] })
    (e : TypeId) (i : TypeInfo) (z : Value) (size bytes : Nat) (kn : IntKind) (ht : P.underlying t = some (.slice e)) (htn : P.underlying tn = some (.int kn)) (hi : P.info? e = some i) (hz : i.zero = some z) (hsize : i.size = size) (hby : i.bytes = bytes) (hzs : z.cells.size = size) (hsz : 0 < size)
    (g j c k : Nat) (kz : Int) (hkz : kz = (k : Int)) (hs : a.eval s = .slice (some ⟨g, 0, none⟩) j c) (hx : a.eval x = .int .i64 kz) (hk : 0 < k) (hg : c < j + k)
    (olds : List Value) (hol : olds.length = j * size) (hold : ∀ (q : Nat) (v : Value), olds[q]? = some v → w.cell? ⟨g, q, none⟩ = some v) (hb : (j + k) * bytes ≤ 140737488355328) (h63 : j + k ≤ 9223372036854775807)
    (h : ∀ (G : Nat) (w' : World), j + k ≤ G → G ≤ 9223372036854775807 → Hid (∃ zs : List Value, Blk w' w.heap.size e (olds ++ zs) ∧ (olds ++ zs).length = G * size) → Hid (w'.heap.size = w.heap.size + 1) → Hid (Only (fun _ => False) w w') → wpList P ops Q rest (a.put o.dst (.slice (some ⟨w.heap.size, 0, none⟩) (j + k) G)) w') :
    wpList P ops Q (o :: rest) a w := by
  subst hkz hsize hby
  have hf := run_firstCells_some (P := P) w.drew i.size j ⟨g, 0, none⟩ j c olds hol (fun q v hq => by
    rw [show (⟨g, 0, none⟩ : Addr).add q = ⟨g, q, none⟩ from by unfold Addr.add; split <;> simp_all]
    exact hold q v hq)
  have hkb : k * i.bytes ≤ (j + k) * i.bytes := Nat.mul_le_mul_right _ (by omega)
  have hr := Lib.run_append_grow_zeros (P := P) w t tn o.type e i z .i64 kn ht htn hi hz (some ⟨g, 0, none⟩) j c olds hf k hk (by omega) (by omega) (by omega) (by omega) (growslice_fits hg hb)
  have hge := grownCap_ge w (j + k) c e
  refine Lib.wpList_append_run w hgd s x t tn ho _ _ hs hx _ _ hr (h _ _ hge (by simpa [maxLen] using grownCap_le_maxLen w (j + k) c e (by simpa [maxLen] using h63)) (show ∃ zs : List Value, _ from ⟨(Builtin.zeroCells z.cells k ++ Builtin.zeroCells z.cells (grownCap w (j + k) c e - (j + k))).toList, ?_, ?_⟩) (show _ = _ by simp) (show Only _ _ _ from ((Only.refl _ w).drew).alloc _))
  · have key : olds.toArray ++ Builtin.zeroCells z.cells k ++ Builtin.zeroCells z.cells (grownCap w (j + k) c e - (j + k)) = (olds ++ (Builtin.zeroCells z.cells k ++ Builtin.zeroCells z.cells (grownCap w (j + k) c e - (j + k))).toList).toArray := by
      apply Array.toList_inj.1
      simp
    rw [key]
    exact Blk.new w.drew e _
  · simp only [List.length_append, hol, Array.length_toList, Array.size_append, size_zeroCells, hzs]
    rw [← Nat.add_mul, ← Nat.add_mul]
    congr 1
    omega
end

/-- The cells behind an insertion, in the two orders that slices.Insert has. -/
theorem splice_in (L : List Value) (a : Nat) (X D : List Value) (h : a + X.length + D.length ≤ L.length) :
    splice (splice L (a + X.length) D) a X = L.take a ++ (X ++ (D ++ L.drop (a + X.length + D.length))) ∧ splice (splice L a X) (a + X.length) D = L.take a ++ (X ++ (D ++ L.drop (a + X.length + D.length))) := by
  have h0 : (L.take a).length = a := by rw [List.length_take]; omega
  have h2 : (L.take (a + X.length)).length = a + X.length := by rw [List.length_take]; omega
  constructor
  · unfold splice
    have e1 : (L.take (a + X.length) ++ (D ++ L.drop (a + X.length + D.length))).take a = L.take a := by
      rw [List.take_append_of_le_length (by omega), List.take_take, Nat.min_eq_left (by omega)]
    have e2 : (L.take (a + X.length) ++ (D ++ L.drop (a + X.length + D.length))).drop (a + X.length) = D ++ L.drop (a + X.length + D.length) := by
      rw [List.drop_append_of_le_length (by omega), List.drop_eq_nil_of_le (by omega), List.nil_append]
    rw [e1, e2]
  · unfold splice
    have e0 : (L.take a ++ (X ++ L.drop (a + X.length))).take (a + X.length) = L.take a ++ X := by
      rw [← List.append_assoc, List.take_append_of_le_length (by rw [List.length_append]; omega), List.take_of_length_le (by rw [List.length_append]; omega)]
    have e1 : (L.take a ++ (X ++ L.drop (a + X.length))).drop (a + X.length + D.length) = L.drop (a + X.length + D.length) := by
      rw [← List.append_assoc, List.drop_append, List.drop_eq_nil_of_le (by rw [List.length_append]; omega), List.nil_append, List.drop_drop, List.length_append]
      congr 1
      omega
    rw [e0, e1, List.append_assoc]
end Go.Proofs.YtgknhojjnnljkaaDoor
