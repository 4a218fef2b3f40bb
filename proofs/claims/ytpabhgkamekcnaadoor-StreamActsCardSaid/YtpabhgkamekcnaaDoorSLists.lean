/- Rising places, parted; a Deliver beside another stream. -/
import Derived.Test.YtpabhgkamekcnaaDoorSArgs
namespace Go.Proofs.YtpabhgkamekcnaaDoor
open Go Go.RowKit
set_option maxRecDepth 100000

def within (a b : Int) (x : Int) : Bool := decide (a ≤ x) && decide (x < b)
def under (a : Int) (x : Int) : Bool := decide (x < a)
theorem filter_split : ∀ {l : List Int} {a b : Int}, l.Pairwise (· < ·) → a ≤ b → l.filter (under a) ++ l.filter (within a b) = l.filter (under b)
  | [], _, _, _, _ => rfl
  | x :: l, a, b, hp, hab => by
    have h := List.pairwise_cons.1 hp
    by_cases hx : x < a
    · rw [List.filter_cons_of_pos (by simpa [under] using hx), List.filter_cons_of_neg (by simp [within]; omega), List.filter_cons_of_pos (by simp [under]; omega), List.cons_append, filter_split h.2 hab]
    · have e1 : (x :: l).filter (under a) = [] := by
        apply List.filter_eq_nil_iff.2
        intro y hy
        simp only [under, decide_eq_true_eq]
        rcases List.mem_cons.1 hy with rfl | hy
        · exact hx
        · have := h.1 y hy
          omega
      rw [e1, List.nil_append]
      apply List.filter_congr
      intro y hy
      have hy2 : a ≤ y := by
        rcases List.mem_cons.1 hy with rfl | hy
        · omega
        · have := h.1 y hy
          omega
      simp [within, under, hy2]
theorem filter_all {l : List Int} {n : Int} (h : ∀ x ∈ l, x < n) : l.filter (under n) = l := by
  rw [List.filter_eq_self]
  intro x hx
  simp [under, h x hx]
theorem filter_none {l : List Int} (h : ∀ x ∈ l, 0 ≤ x) : l.filter (under 0) = [] := by
  apply List.filter_eq_nil_iff.2
  intro x hx
  have := h x hx
  simp [under]
  omega
theorem places_of {n : Nat} : ∀ {l : List Int} {f : Int}, l.Pairwise (· < ·) → (∀ x ∈ l, f ≤ x ∧ x < (n : Int)) → places n f l = true
  | [], _, _, _ => rfl
  | x :: l, f, hp, h => by
    have h1 := List.pairwise_cons.1 hp
    have h2 := h x (List.mem_cons_self ..)
    simp only [places, Bool.and_eq_true, decide_eq_true_eq]
    exact ⟨h2, places_of h1.2 (fun y hy => ⟨by have := h1.1 y hy; omega, (h y (List.mem_cons_of_mem _ hy)).2⟩)⟩
def ownOf (a b : Int) (l : List Int) : List Int := (l.filter (within a b)).map (· - a)
theorem own_places {l : List Int} {a b n : Nat} (hp : l.Pairwise (· < ·)) (hn : n = b - a) : places n 0 (ownOf a b l) = true := by
  subst hn
  apply places_of
  · unfold ownOf
    rw [List.pairwise_map]
    exact (hp.filter _).imp (fun h => by omega)
  · intro x hx
    obtain ⟨y, hy, rfl⟩ := List.mem_map.1 hx
    have := (List.mem_filter.1 hy).2
    simp only [within, Bool.and_eq_true, decide_eq_true_eq] at this
    omega
theorem own_back (l : List Int) (a b : Nat) : (ownOf a b l).map ((a : Int) + ·) = l.filter (within a b) := by
  unfold ownOf
  rw [List.map_map]
  conv => rhs; rw [← List.map_id (l.filter _)]
  apply List.map_congr_left
  intro x _
  simp
  omega
theorem map_zero (l : List Int) : l.map ((0 : Int) + ·) = l := by
  conv => rhs; rw [← List.map_id l]
  apply List.map_congr_left
  intro x _
  simp

section
variable {w W0 W W' : World} {p q : Nat} {s t s' : St}
theorem two_deliver (h : TwoAt w W0 p q s t) (ho : Only (fun _ => False) W0 W) {es : List Addr} (hes : ErrsOf w [0, 1, 13] es) (A : Option Addr) (n c : Nat) (xs : List UInt8) (hs : Src w A n xs) (hnc : n ≤ c) (hc63 : c ≤ 9223372036854775807)
    (M : Option Addr) (k kc : Nat) (l : List Int) (hl : IntsAt W M k l) (hM : 0 < k → ∀ ad, M = some ad → W0.heap.size ≤ ad.block ∨ ad.block < w.heap.size) (hfar : s.came.length + n ≤ 1099511627776) (hk1 : k ≤ 1000) :
    Calls Tryd.prog 17 #[.pointer (some ⟨p, 0, none⟩), .slice A n c, .slice M k kc] W fun e w' => ∃ v, e = .returned v ∧ ErrV es v (delNum s n l) ∧ TwoAt w w' p q (delSt s xs l) t := by
  obtain ⟨m, r, rfl, h2, h3, h4, h5, h6⟩ := h
  have h7 := h6.trans ho (fun _ h => h.elim)
  refine (strDeliver (h3.same ho) h7.size (hes.only h7) A n c xs (hs.only h7 (fun _ _ _ h => h)) hnc hc63 (fun hn ad e => ?_) M k kc l hl (fun hk ad e hm => ?_) hfar hk1).mono ?_
  · have h8 := hs.lt hn ad e
    refine ⟨fun hm => ?_, Nat.lt_of_lt_of_le h8 h7.size⟩
    have h9 := (h3.has_lt _ hm).1
    omega
  · have h8 := h3.has_lt _ hm
    have := hM hk ad e
    omega
  · rintro e w' ⟨v, rfl, hv, hL⟩
    exact ⟨v, rfl, hv, TwoAt.left rfl h2 (h3.same ho) (h4.same ho) h5 h7 hL⟩
/-- Two new ones. -/
theorem IsStr.lower {B B' : Nat} {m : Me} (h : IsStr B W m s) (hB : B' ≤ B) : IsStr B' W m s :=
  { h with marks := h.marks.mono hB, wire := own_mono h.wire hB, lo := ⟨Nat.le_trans hB h.lo.1, Nat.le_trans hB h.lo.2.1, Nat.le_trans hB h.lo.2.2⟩ }
theorem two_new {m n : Me} (hO : Only (fun _ => False) w W0) (h1 : IsStr W0.heap.size W m s) (ho1 : Only (fun _ => False) W0 W) (h2 : IsStr W.heap.size W' n t) (ho2 : Only (fun _ => False) W W') : TwoAt w W' m.p n.p s t := by
  have hz1 := hO.size
  have hz2 := ho1.size
  exact ⟨m, n, rfl, rfl, (h1.same ho2).lower hz1, h2.lower (by omega), fun i hi hn => by
    have h3 := (h1.has_lt i hi).2
    have h4 := (h2.has_lt i hn).1
    omega, (hO.trans ho1 (fun _ h => h.elim)).trans ho2 (fun _ h => h.elim)⟩
end
/-- A row of integers, as an argument. -/
theorem RowAt.ints {w : World} {B : Nat} {A : Option Addr} {n c : Nat} {l : List Int} (h : RowAt w B 3 1 (.slice A n c) n (ints l)) (hb : ∀ x ∈ l, -9223372036854775808 ≤ x ∧ x ≤ 9223372036854775807) :
    IntsAt w A n l ∧ (0 < n → ∀ ad, A = some ad → B ≤ ad.block) := by
  have hl : l.length = n := by have := h.1; rw [ints_length] at this; omega
  refine ⟨⟨hl, fun j x hx => ?_⟩, fun hn ad e => ?_⟩
  · have hj := (List.getElem?_eq_some_iff.1 hx).1
    obtain ⟨g, o, c', e, _, _, _, _, hcell⟩ := h.places (by omega)
    injection e with e _ _
    exact ⟨g, o, e, hcell j _ (by unfold Go.Proofs.YtpabhgkamekcnaaDoor.ints; rw [List.getElem?_map, hx]; rfl), hb x (List.mem_of_getElem? hx)⟩
  · subst e
    exact (h.lt _ rfl).1

/-- A sum of two texts. -/
theorem add_texts {P : Program} {w : World} (x y z : List UInt8) (h : x ++ y = z) (hl : x.length + y.length ≤ 9223372036854775807) :
    (Op.stringOp .add (ByteArray.mk x.toArray) (ByteArray.mk y.toArray)).run P w = .ok (.string (ByteArray.mk z.toArray)) w := by
  subst h
  have := run_string_add_sum (P := P) w (ByteArray.mk x.toArray) (ByteArray.mk y.toArray) (by simpa [ByteArray.size] using hl)
  rw [this, ByteArray.mk_append_mk]
theorem text_upto (z : List UInt8) (o : Nat) (h : o ≤ z.length) : (ByteArray.mk z.toArray).extract 0 (z.take o).length = ByteArray.mk (z.take o).toArray := by
  rw [ByteArray.extract_mk]
  congr 1
  simp [List.length_take, Nat.min_eq_left h]
end Go.Proofs.YtpabhgkamekcnaaDoor
