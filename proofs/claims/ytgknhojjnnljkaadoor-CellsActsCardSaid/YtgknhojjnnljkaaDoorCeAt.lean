/- A screen in memory: its three cells, the table of its rows, each row in a block of its own; what of it turns. -/
import Derived.Test.YtgknhojjnnljkaaDoorCeSay
import Derived.Test.YtgknhojjnnljkaaDoorCeNum
namespace Go.Proofs.YtgknhojjnnljkaaDoor
open Go Go.RowKit
set_option maxRecDepth 100000
set_option maxHeartbeats 4000000

/-- A row's slice. -/
def hdr (c g : Nat) : Value := .slice (some ⟨g, 0, none⟩) c c
theorem hdr_one (c g : Nat) : (hdr c g).oneCell' = true := rfl
/-- Rows, each in a block of its own. -/
structure RowsAt (w : World) (F : Nat → Prop) (ads : List Nat) (rows : List (List UInt8)) : Prop where
  len : ads.length = rows.length
  row : ∀ (i g : Nat) (r : List UInt8), ads[i]? = some g → rows[i]? = some r → ∃ tl, Blk w g 5 (r.map B8 ++ tl)
  nd : ∀ (i j g : Nat), ads[i]? = some g → ads[j]? = some g → i = j
  inF : ∀ g ∈ ads, F g

section
variable {w w' : World} {F G S : Nat → Prop} {ads : List Nat} {rows : List (List UInt8)}
theorem RowsAt.lt (h : RowsAt w F ads rows) : ∀ g ∈ ads, g < w.heap.size := fun g hg => by
  obtain ⟨i, hi, rfl⟩ := List.mem_iff_getElem.1 hg
  obtain ⟨tl, hb⟩ := h.row i _ (rows[i]'(by rw [← h.len]; exact hi)) (List.getElem?_eq_getElem hi) (List.getElem?_eq_getElem (by rw [← h.len]; exact hi))
  exact hb.lt
theorem RowsAt.only (h : RowsAt w F ads rows) (ho : Only S w w') (hS : ∀ g ∈ ads, ¬ S g) : RowsAt w' F ads rows :=
  ⟨h.len, fun i g r hi hr => by obtain ⟨tl, hb⟩ := h.row i g r hi hr; exact ⟨tl, hb.only ho (hS g (List.mem_of_getElem? hi))⟩, h.nd, h.inF⟩
theorem RowsAt.mono (h : RowsAt w F ads rows) (hF : ∀ g ∈ ads, F g → G g) : RowsAt w G ads rows := ⟨h.len, h.row, h.nd, fun g hg => hF g hg (h.inF g hg)⟩
theorem RowsAt.nil (w : World) (F : Nat → Prop) : RowsAt w F [] [] := ⟨rfl, fun i g r h => by simp at h, fun i j g h => by simp at h, fun g h => by simp at h⟩
theorem RowsAt.snoc (h : RowsAt w F ads rows) {g : Nat} {r : List UInt8} {tl : List Value} (hb : Blk w g 5 (r.map B8 ++ tl)) (hF : F g) (hg : g ∉ ads) : RowsAt w F (ads ++ [g]) (rows ++ [r]) := by
  have hl := h.len
  refine ⟨by simp [hl], fun i g' r' hi hr => ?_, fun i j g' hi hj => ?_, fun g' hg' => ?_⟩
  · rcases Nat.lt_or_ge i ads.length with h1 | h1
    · rw [List.getElem?_append_left h1] at hi
      rw [List.getElem?_append_left (by omega)] at hr
      exact h.row i g' r' hi hr
    · have h2 : i = ads.length := by
        have := (List.getElem?_eq_some_iff.1 hi).1
        simp at this; omega
      subst h2
      simp at hi
      rw [hl] at hr
      simp at hr
      subst hi hr
      exact ⟨tl, hb⟩
  · rcases Nat.lt_or_ge i ads.length with h1 | h1
    · rw [List.getElem?_append_left h1] at hi
      rcases Nat.lt_or_ge j ads.length with h2 | h2
      · rw [List.getElem?_append_left h2] at hj
        exact h.nd i j g' hi hj
      · have h3 : j = ads.length := by
          have := (List.getElem?_eq_some_iff.1 hj).1
          simp at this; omega
        subst h3
        simp at hj
        subst hj
        exact absurd (List.mem_of_getElem? hi) hg
    · have h2 : i = ads.length := by
        have := (List.getElem?_eq_some_iff.1 hi).1
        simp at this; omega
      subst h2
      simp at hi
      subst hi
      rcases Nat.lt_or_ge j ads.length with h2 | h2
      · rw [List.getElem?_append_left h2] at hj
        exact absurd (List.mem_of_getElem? hj) hg
      · have := (List.getElem?_eq_some_iff.1 hj).1
        simp at this; omega
  · rcases List.mem_append.1 hg' with h1 | h1
    · exact h.inF g' h1
    · rw [List.mem_singleton.1 h1]; exact hF
theorem RowsAt.drop1 (h : RowsAt w F ads rows) : RowsAt w F (ads.drop 1) (rows.drop 1) := by
  refine ⟨by rw [List.length_drop, List.length_drop, h.len], fun i g r hi hr => ?_, fun i j g hi hj => ?_, fun g hg => h.inF g (List.mem_of_mem_drop hg)⟩
  · rw [List.getElem?_drop] at hi hr
    exact h.row _ g r hi hr
  · rw [List.getElem?_drop] at hi hj
    have := h.nd _ _ g hi hj
    omega
theorem RowsAt.get (h : RowsAt w F ads rows) {i : Nat} {r : List UInt8} (hr : rows[i]? = some r) : ∃ g tl, ads[i]? = some g ∧ Blk w g 5 (r.map B8 ++ tl) := by
  have hi : i < ads.length := by rw [h.len]; exact (List.getElem?_eq_some_iff.1 hr).1
  obtain ⟨tl, hb⟩ := h.row i _ r (List.getElem?_eq_getElem hi) hr
  exact ⟨_, tl, List.getElem?_eq_getElem hi, hb⟩
/-- One row has turned. -/
theorem RowsAt.set (h : RowsAt w F ads rows) {i g : Nat} {r : List UInt8} {tl : List Value} (hi : ads[i]? = some g) (ho : Only (· = g) w w') (hb : Blk w' g 5 (r.map B8 ++ tl)) : RowsAt w' F ads (rows.set i r) := by
  refine ⟨by rw [List.length_set, h.len], fun j g' r' hj hr => ?_, h.nd, h.inF⟩
  rw [List.getElem?_set] at hr
  split at hr
  · rename_i e
    subst e
    rw [hi] at hj
    injection hj with hj
    subst hj
    split at hr
    · injection hr with hr
      subst hr
      exact ⟨tl, hb⟩
    · cases hr
  · rename_i e
    obtain ⟨tl', hb'⟩ := h.row j g' r' hj hr
    exact ⟨tl', hb'.only ho (fun e2 => e (h.nd i j g' (by rw [← e2] at hi; exact hi) hj))⟩
end

/-- A screen. -/
structure ScAt (w : World) (p : Nat) (F : Nat → Prop) (s : Sc) : Prop where
  ok : s.Ok
  lt : ∀ k, F k → k < w.heap.size
  fp : F p
  ex : ∃ rb ads, Blk w p 62 [.int .i64 (s.c : Int), .slice (some ⟨rb, 0, none⟩) s.rows.length s.rows.length, .complex .f64 (fl (s.x : Int)) (fl (s.y : Int))] ∧ Blk w rb 34 (ads.map (hdr s.c)) ∧ F rb ∧ RowsAt w F ads s.rows
section
variable {w w' w'' : World} {F G S : Nat → Prop} {p : Nat} {s s' s'' : Sc}
theorem ScAt.only (h : ScAt w p F s) (ho : Only S w w') (hS : ∀ k, F k → ¬ S k) : ScAt w' p F s := by
  obtain ⟨rb, ads, h1, h2, h3, h4⟩ := h.ex
  exact ⟨h.ok, fun k hk => Nat.lt_of_lt_of_le (h.lt k hk) ho.size, h.fp, rb, ads, h1.only ho (hS p h.fp), h2.only ho (hS rb h3), h3, h4.only ho (fun g hg => hS g (h4.inF g hg))⟩
theorem ScAt.same (h : ScAt w p F s) (ho : Only (fun _ => False) w w') : ScAt w' p F s := h.only ho (fun _ _ h => h)
/-- The screen has turned, in its own blocks and in new ones. -/
def Goes (p : Nat) (F : Nat → Prop) (s' : Sc) (w w' : World) : Prop := ∃ F', ScAt w' p F' s' ∧ Only F w w' ∧ ∀ k, F' k → F k ∨ w.heap.size ≤ k
theorem Goes.refl (h : ScAt w p F s) : Goes p F s w w := ⟨F, h, Only.refl _ _, fun _ h => .inl h⟩
theorem Goes.pre (ho : Only F w w') (h : Goes p F s' w' w'') : Goes p F s' w w'' := by
  obtain ⟨F', h1, h2, h3⟩ := h
  refine ⟨F', h1, ho.trans h2 (fun _ h => .inl h), fun i hi => ?_⟩
  rcases h3 i hi with h4 | h4
  · exact .inl h4
  · exact .inr (Nat.le_trans ho.size h4)
theorem Goes.trans (h : Goes p F s' w w') (k : ∀ F', ScAt w' p F' s' → Goes p F' s'' w' w'') : Goes p F s'' w w'' := by
  obtain ⟨F', h1, h2, h3⟩ := h
  obtain ⟨F'', k1, k2, k3⟩ := k F' h1
  refine ⟨F'', k1, h2.trans k2 h3, fun i hi => ?_⟩
  rcases k3 i hi with h4 | h4
  · exact h3 i h4
  · exact .inr (Nat.le_trans h2.size h4)
end
end Go.Proofs.YtgknhojjnnljkaaDoor
