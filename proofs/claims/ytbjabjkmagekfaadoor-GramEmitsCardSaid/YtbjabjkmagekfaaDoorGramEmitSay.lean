/- What layer 6 tells is of the grammar: an item for each token. -/
import Derived.Test.YtbjabjkmagekfaaDoorEmitSay
import Derived.Test.YtbjabjkmagekfaaDoorGramSay
namespace Go.Proofs.YtbjabjkmagekfaaDoor

theorem subCut_dbl (o : Int) (q : List UInt8) : ∀ (b f : List UInt8) (n : Nat), subCut o f n (dbl b ++ 255 :: 240 :: q) = .got ⟨5, 0, o, f ++ b⟩ (n + (dbl b).length + 2)
  | [], f, n => by
    rw [dbl, List.nil_append, subCut_end o f n 255 240 rfl rfl, List.append_nil]
    rfl
  | c :: b, f, n => by
    unfold dbl
    split
    · rename_i hc
      rw [List.cons_append, List.cons_append, subCut_two _ _ _ _ _ hc hc, subCut_dbl o q b (f ++ [c]) (n + 2), List.append_assoc]
      simp only [List.length_cons, List.singleton_append]
      congr 1
      omega
    · rename_i hc
      rw [List.cons_append, subCut_plain _ _ _ _ hc, subCut_dbl o q b (f ++ [c]) (n + 1), List.append_assoc]
      simp only [List.length_cons, List.singleton_append]
      congr 1
      omega
/-- The kind of a token's item. -/
def kindOf (t : Tk) : Int := if t.kind = 1 then 1 else t.kind + 1
theorem cut_tk (t : Tk) (h : tkNum t = 0) (q : List UInt8) : ∃ x : It, x.kind = kindOf t ∧ cut true (tkRaw t ++ q) = .got x (tkRaw t).length := by
  obtain ⟨k, c, o, b, cut_⟩ := t
  unfold tkNum at h
  simp only at h
  unfold tkRaw kindOf
  simp only
  by_cases h1 : k = 1
  · subst h1
    simp only [if_true] at h ⊢
    simp only [dbl]
    split
    · rename_i h5
      refine ⟨⟨1, 255, 0, []⟩, rfl, ?_⟩
      simp [cut_cons, iacCut_cons, h5]
    · rename_i h5
      refine ⟨⟨1, ((b8 c).toNat : Int), 0, []⟩, rfl, ?_⟩
      simp [cut_cons, h5]
  · by_cases h2 : k = 2
    · subst h2
      simp only [if_true, if_neg h1] at h ⊢
      have hc : 241 ≤ c ∧ c ≤ 249 := by
        split at h
        · assumption
        · omega
      have hb := b8_nat (z := c) (by omega) (by omega)
      have a1 : ¬ (b8 c).toNat = 255 := by omega
      have a2 : ¬ (b8 c).toNat = 250 := by omega
      have a3 : ¬ 251 ≤ (b8 c).toNat := by omega
      have a4 : 241 ≤ (b8 c).toNat := by omega
      refine ⟨⟨3, ((b8 c).toNat : Int), 0, []⟩, rfl, ?_⟩
      simp [cut_cons, iacCut_cons, a1, a2, a3, a4]
    · by_cases h3 : k = 3
      · subst h3
        simp only [if_true, if_neg h1, if_neg h2] at h ⊢
        have hc : 251 ≤ c ∧ c ≤ 254 := by
          split at h
          · assumption
          · omega
        have hb := b8_nat (z := c) (by omega) (by omega)
        have a1 : ¬ (b8 c).toNat = 255 := by omega
        have a2 : ¬ (b8 c).toNat = 250 := by omega
        have a3 : 251 ≤ (b8 c).toNat := by omega
        refine ⟨⟨4, ((b8 c).toNat : Int), ((b8 o).toNat : Int), []⟩, rfl, ?_⟩
        simp [cut_cons, iacCut_cons, a1, a2, a3]
      · by_cases h4 : k = 4
        · subst h4
          simp only [if_neg h1, if_neg h2, if_neg h3]
          refine ⟨⟨5, 0, ((b8 o).toNat : Int), [] ++ b⟩, rfl, ?_⟩
          have e : [255, 250, b8 o] ++ dbl b ++ [255, 240] ++ q = 255 :: 250 :: b8 o :: (dbl b ++ 255 :: 240 :: q) := by simp
          rw [e, cut_cons, if_pos (by decide), iacCut_cons, if_neg (by decide), if_pos (by decide)]
          simp only
          rw [subCut_dbl]
          congr 1
          simp only [List.length_append, List.length_cons, List.length_nil]
        · rw [if_neg h1, if_neg h2, if_neg h3, if_neg h4] at h
          omega
/-- What layer 6 tells is of the grammar. -/
theorem parse_emits : ∀ (l : List Tk) (k : Nat), numL l = 0 → ∃ ps, parseFrom true k (accB l) = some (ps, 0) ∧ ps.length = l.length ∧ ∀ (i : Nat) (t : Tk) (x : Pl), l[i]? = some t → ps[i]? = some x → x.it.kind = kindOf t
  | [], k, _ => ⟨[], parseFrom_few rfl k, rfl, fun i t x h => by cases h⟩
  | t :: l, k, h => by
    simp only [numL] at h
    by_cases h0 : tkNum t = 0
    · rw [if_pos h0] at h
      obtain ⟨x, hx, hc⟩ := cut_tk t h0 (accB l)
      obtain ⟨ps, h1, h2, h3⟩ := parse_emits l (k + (tkRaw t).length) h
      refine ⟨⟨x, k, k + (tkRaw t).length⟩ :: ps, ?_, by simp [h2], fun i u y hu hy => ?_⟩
      · simp only [accB]
        rw [if_pos h0, tkBytes_good h0, parseFrom_got hc, List.drop_left, h1]
        rfl
      · match i, hu, hy with
        | 0, hu, hy =>
          simp only [List.getElem?_cons_zero, Option.some.injEq] at hu hy
          rw [← hu, ← hy]
          exact hx
        | i + 1, hu, hy => exact h3 i u y (by simpa using hu) (by simpa using hy)
    · rw [if_neg h0] at h
      exact absurd h h0
end Go.Proofs.YtbjabjkmagekfaaDoor
