
/- A slice that the program laid itself, wherever in its block it begins (what is left of a row behind s[1:]): its elements, and append onto it. -/
import Derived.Test.YtbnfhklpobephaaGreatDoorJBase
import Derived.ArgAppend
import Derived.Deep.AppendSrc
import Derived.Deep.Upon
namespace Go.Proofs.YtbnfhklpobephaaGreatDoor
open Go Go.RowKit

/-- v is a slice of n elements, of s cells each, in a block from B on that is known whole; nil, if it has none and no room. -/
def RowAt (w : World) (B : Nat) (e : TypeId) (s : Nat) (v : Value) (n : Nat) (xs : List Value) : Prop :=
  xs.length = n * s ∧ ((v = .slice none 0 0 ∧ n = 0) ∨ ∃ g o c cur, v = .slice (some ⟨g, o, none⟩) n c ∧ B ≤ g ∧ Blk w g e cur ∧ n ≤ c ∧ c ≤ 9223372036854775807 ∧ o + c * s ≤ cur.length ∧ ∀ (j : Nat) (u : Value), xs[j]? = some u → cur[o + j]? = some u)

section
variable {w w' : World} {B : Nat} {e : TypeId} {s n c : Nat} {v : Value} {A : Option Addr} {xs : List Value}
theorem RowAt.nil (w : World) (B : Nat) (e : TypeId) (s : Nat) : RowAt w B e s (.slice none 0 0) 0 [] := ⟨by simp, .inl ⟨rfl, rfl⟩⟩
theorem RowAt.only {S : Nat → Prop} (h : RowAt w B e s v n xs) (ho : Only S w w') (hS : ∀ k, v.ownBlock = some k → ¬ S k) : RowAt w' B e s v n xs := by
  refine ⟨h.1, ?_⟩
  rcases h.2 with hn | ⟨g, o, c, cur, rfl, hb, hg, rest⟩
  · exact .inl hn
  · exact .inr ⟨g, o, c, cur, rfl, hb, hg.only ho (hS g rfl), rest⟩
theorem RowAt.keep (h : RowAt w B e s v n xs) (hk : ∀ g t cs, v.ownBlock = some g → Blk w g t cs → Blk w' g t cs) : RowAt w' B e s v n xs := by
  refine ⟨h.1, ?_⟩
  rcases h.2 with hn | ⟨g, o, c, cur, rfl, hb, hg, rest⟩
  · exact .inl hn
  · exact .inr ⟨g, o, c, cur, rfl, hb, hk g _ _ rfl hg, rest⟩
theorem RowAt.lt (h : RowAt w B e s v n xs) : ∀ k, v.ownBlock = some k → B ≤ k ∧ k < w.heap.size := by
  rcases h.2 with ⟨rfl, _⟩ | ⟨g, o, c, cur, rfl, hb, hg, _⟩
  · rintro k ⟨⟩
  · rintro k ⟨⟩
    exact ⟨hb, hg.lt⟩
theorem RowAt.form (h : RowAt w B e s v n xs) : ∃ A c, v = .slice A n c ∧ n ≤ c ∧ c ≤ 9223372036854775807 := by
  rcases h.2 with ⟨rfl, rfl⟩ | ⟨g, o, c, cur, rfl, _, _, h1, h2, _⟩
  · exact ⟨_, _, rfl, Nat.le_refl _, by omega⟩
  · exact ⟨_, _, rfl, h1, h2⟩
theorem RowAt.ne {g : Nat} {t : TypeId} {cs : List Value} (h : RowAt w B e s v n xs) (hg : Blk w g t cs) (hne : e ≠ t) : ∀ k, v.ownBlock = some k → k ≠ g := by
  rcases h.2 with ⟨rfl, _⟩ | ⟨g', o, c, cur, rfl, _, hh, _⟩
  · rintro k ⟨⟩
  · rintro k ⟨⟩ rfl
    exact hh.ne hg hne rfl
/-- Where there is an element, the cells lie so. -/
theorem RowAt.places (h : RowAt w B e s v n xs) (hn : 0 < n) : ∃ g o c, v = .slice (some ⟨g, o, none⟩) n c ∧ n ≤ c ∧ c ≤ 9223372036854775807 ∧ B ≤ g ∧ g < w.heap.size ∧ ∀ (j : Nat) (u : Value), xs[j]? = some u → w.cell? ⟨g, o + j, none⟩ = some u := by
  rcases h.2 with ⟨_, h0⟩ | ⟨g, o, c, cur, rfl, hb, hg, h1, h2, h3, h4⟩
  · omega
  · exact ⟨g, o, c, rfl, h1, h2, hb, hg.lt, fun j u hj => by rw [hg.cell]; exact h4 j u hj⟩
theorem RowAt.of_own (h : w.ownsRow B e s v n xs) : RowAt w B e s v n xs := by
  refine ⟨h.1, ?_⟩
  rcases h.2 with hn | ⟨g, cap, cur, rfl, hb, hg, h1, h2, h3, h4⟩
  · exact .inl hn
  · refine .inr ⟨g, 0, cap, cur.toList, rfl, hb, by unfold Blk; simpa using hg, h1, by simpa [maxLen] using h2, by simpa using Nat.le_of_eq h3.symm, fun j u hj => ?_⟩
    rw [← h4, List.getElem?_take] at hj
    split at hj
    · rw [Nat.zero_add]; exact hj
    · cases hj
theorem RowAt.mono {B' : Nat} (h : RowAt w B e s v n xs) (hB : B' ≤ B) : RowAt w B' e s v n xs := by
  refine ⟨h.1, ?_⟩
  rcases h.2 with hn | ⟨g, o, c, cur, rfl, hb, rest⟩
  · exact .inl hn
  · exact .inr ⟨g, o, c, cur, rfl, Nat.le_trans hB hb, rest⟩
/-- s[1:], one cell an element: where cap is 1 the address stays. -/
theorem RowAt.tail {g o c : Nat} {x : Value} (h : RowAt w B e 1 (.slice (some ⟨g, o, none⟩) (n + 1) c) (n + 1) (x :: xs)) (o' : Nat) (ho : o' = o + 1 ∨ (c = 1 ∧ o' = o)) : RowAt w B e 1 (.slice (some ⟨g, o', none⟩) n (c - 1)) n xs := by
  obtain ⟨hl, h⟩ := h
  rcases h with ⟨h, _⟩ | ⟨g', o1, c', cur, hv, hb, hg, h1, h2, h3, h4⟩
  · cases h
  · injection hv with hA _ hc
    injection hA with hA
    injection hA with hgg hoo
    subst hgg hoo hc
    simp only [List.length_cons, Nat.mul_one] at hl
    refine ⟨by omega, .inr ⟨g, o', c - 1, cur, rfl, hb, hg, by omega, by omega, by omega, fun j u hj => ?_⟩⟩
    rcases ho with rfl | ⟨rfl, rfl⟩
    · have := h4 (j + 1) u (by simpa using hj)
      rw [show o + 1 + j = o + (j + 1) from by omega]
      exact this
    · have := (List.getElem?_eq_some_iff.1 hj).1
      omega
end

/-- append onto such a slice. -/
theorem run_append_row {P : Program} (w : World) (B : Nat) (t ty e : TypeId) (i : TypeInfo) (z : Value) (size bytes : Nat) (ht : P.underlying t = some (.slice e)) (hi : P.info? e = some i) (hz : i.zero = some z)
    (hsize : i.size = size) (hby : i.bytes = bytes) (hzs : z.cells.size = size) (hsz : 0 < size)
    (v : Value) (n : Nat) (xs : List Value) (hrow : RowAt w B e size v n xs) (ad : Addr) (m c : Nat) (news : List Value) (hl : news.length = m * size) (hnews : ∀ (j : Nat) (u : Value), news[j]? = some u → w.cell? (ad.add j) = some u) (h1 : ∀ u ∈ news, u.oneCell' = true)
    (h63 : n + m ≤ 9223372036854775807) (hbytes : (n + m) * bytes ≤ 140737488355328) (hB : B ≤ w.heap.size) :
    ∃ v' w', (Builtin.append_ #[t, t] ty #[v, .slice (some ad) m c]).run P w = .ok v' w' ∧ RowAt w' B e size v' (n + m) (xs ++ news) ∧ w.grownBy w' v.ownBlock ∧ (∀ k, v'.ownBlock = some k → v.ownBlock = some k ∨ w.heap.size ≤ k) := by
  obtain ⟨hxl, hrow⟩ := hrow
  rcases hrow with ⟨rfl, rfl⟩ | ⟨g, o, c0, cur, rfl, hb, hg, hnc, hc63, hfit, hat⟩
  · obtain rfl : xs = [] := List.eq_nil_of_length_eq_zero (by simpa using hxl)
    obtain ⟨v', w', hr, h2, h3, _, h5⟩ := run_append_own_at (P := P) w B t ty e i z size bytes ht hi hz hsize hby hzs hsz _ 0 [] (World.ownsRow_nil w B e size) ad m c news hl hnews h1 (by simpa [maxLen] using h63) hbytes hB
    refine ⟨v', w', hr, RowAt.of_own h2, h3, fun k hk => ?_⟩
    rcases h5 with h5 | h5
    · exact .inl (h5 ▸ hk)
    · rw [h5] at hk
      injection hk with hk
      exact .inr (Nat.le_of_eq hk)
  · subst hsize
    by_cases hroom : n + m ≤ c0
    · have hfn : o + n * i.size + news.length ≤ cur.length := by
        have h1 := Nat.mul_le_mul_right i.size hroom
        rw [Nat.add_mul] at h1
        omega
      have hf := run_firstCells_some (P := P) w i.size m ad m c news hl hnews
      have hst := run_storeCells_at P g (o + n * i.size) e news 0 cur.toArray w hg (by simpa using hfn) h1
      simp only [Nat.add_zero] at hst
      refine ⟨.slice (some ⟨g, o, none⟩) (n + m) c0, w.setRow g (splice cur (o + n * i.size) news).toArray, ?_, ⟨by rw [List.length_append, hxl, hl, Nat.add_mul], .inr ⟨g, o, c0, splice cur (o + n * i.size) news, rfl, hb, ?_, hroom, hc63, ?_, ?_⟩⟩, ?_, fun k hk => .inl hk⟩
      · simp [Builtin.append_, run_underlying ht, sizeOf, typeInfo, hi, Builtin.lenOf, hroom, hf, Addr.add_lit, hst]
        rfl
      · have := setRow_heap w g cur.toArray (splice cur (o + n * i.size) news).toArray e (0, 0) hg
        unfold Blk
        simpa [splice] using this
      · rw [length_splice _ _ _ hfn]; exact hfit
      · intro j u hj
        rw [List.getElem?_append] at hj
        unfold splice
        split at hj
        · rename_i hlt
          have := hat j u hj
          rw [List.getElem?_append_left (by rw [List.length_take]; omega), List.getElem?_take, if_pos (by omega)]
          exact this
        · rename_i hge
          have hjl := (List.getElem?_eq_some_iff.1 hj).1
          have htl : (cur.take (o + n * i.size)).length = o + n * i.size := by rw [List.length_take]; omega
          rw [List.getElem?_append_right (by omega), htl, List.getElem?_append_left (by omega)]
          rw [show o + j - (o + n * i.size) = j - xs.length from by omega]
          exact hj
      · exact ((Only.refl (· = g) w).setRow (.inl rfl) _).toGrown (fun k hk => .inl (by rw [hk]; rfl))
    · have holds : ∀ (j : Nat) (u : Value), xs[j]? = some u → w.cell? ((⟨g, o, none⟩ : Addr).add j) = some u := fun j u hj => by
        rw [show (⟨g, o, none⟩ : Addr).add j = ⟨g, o + j, none⟩ from by unfold Addr.add; split <;> simp_all, hg.cell]
        exact hat j u hj
      obtain ⟨v', w', hr, h2, h3⟩ := run_append_arg_grows (P := P) w t ty e i z i.size bytes ht hi hz rfl hby hzs hsz ⟨g, o, none⟩ n c0 xs hxl holds ad m c news hl hnews (by omega) (by simpa [maxLen] using h63) hbytes
      refine ⟨v', w', hr, (RowAt.of_own h2).mono hB, ⟨h3.os, h3.tape, h3.output, h3.size, fun k hk _ => h3.block k hk (by simp)⟩, fun k hk => .inr (h2.lt k hk).1⟩

section
variable {P : Program} {ops : Array Oper} {rest : List Oper} {o : Oper} {a : Act} {w : World} {Q : Exit → Act → World → Prop}
/-- .. as a step of the walk. -/
theorem step_append_row (hgd : o.guard = none) (sx x : Operand) (t : TypeId) (ho : o.op = .call { callee := .builtin .append, args := #[sx, x], argTypes := #[t, t] })
    (B : Nat) (e : TypeId) (i : TypeInfo) (z : Value) (size bytes : Nat) (ht : P.underlying t = some (.slice e)) (hi : P.info? e = some i) (hz : i.zero = some z)
    (hsize : i.size = size) (hby : i.bytes = bytes) (hzs : z.cells.size = size) (hsz : 0 < size)
    (v : Value) (n : Nat) (xs : List Value) (hs : a.eval sx = v) (hrow : RowAt w B e size v n xs) (ad : Addr) (m c : Nat) (news : List Value) (hx : a.eval x = .slice (some ad) m c) (hl : news.length = m * size) (hnews : ∀ (j : Nat) (u : Value), news[j]? = some u → w.cell? (ad.add j) = some u) (h1 : ∀ u ∈ news, u.oneCell' = true)
    (h63 : n + m ≤ 9223372036854775807) (hbytes : (n + m) * bytes ≤ 140737488355328) (hB : B ≤ w.heap.size)
    (h : ∀ A' c' w', n + m ≤ c' → c' ≤ 9223372036854775807 → Hid (RowAt w' B e size (.slice A' (n + m) c') (n + m) (xs ++ news) ∧ w.grownBy w' v.ownBlock ∧ (∀ k, (Value.slice A' (n + m) c').ownBlock = some k → v.ownBlock = some k ∨ w.heap.size ≤ k)) → wpList P ops Q rest (a.put o.dst (.slice A' (n + m) c')) w') :
    wpList P ops Q (o :: rest) a w := by
  refine wpList_plain hgd fun K hK => ?_
  obtain ⟨v', w', hr, h2⟩ := run_append_row (P := P) w B t o.type e i z size bytes ht hi hz hsize hby hzs hsz v n xs hrow ad m c news hl hnews h1 h63 hbytes hB
  unfold Oper.wp
  simp [execOp, ho, resolve, invoke, builtin, hs, hx, hr, Result.andThen]
  obtain ⟨A', c', rfl, h3, h4⟩ := h2.1.form
  exact hK _ _ (h A' c' w' h3 h4 h2)
end
end Go.Proofs.YtbnfhklpobephaaGreatDoor
