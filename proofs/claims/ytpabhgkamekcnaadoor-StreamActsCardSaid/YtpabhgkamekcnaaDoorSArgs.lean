/- What the statements of layer 3 are called with: slices of bytes, of integers, of slices of bytes. -/
import Derived.Test.YtpabhgkamekcnaaDoorStrIn
import Derived.Test.YtpabhgkamekcnaaDoorStrOut
import Derived.Test.YtpabhgkamekcnaaDoorFinish
import Derived.Test.YtpabhgkamekcnaaDoorStructs
namespace Go.Proofs.YtpabhgkamekcnaaDoor
open Go Go.ChangeShapes Go.WideShapes Go.ChangeAt Go.RowKit

theorem add_none (b o q : Nat) : (⟨b, o, none⟩ : Addr).add q = ⟨b, o + q, none⟩ := by unfold Addr.add; split <;> simp_all

/-- A slice of bytes, read out of one cell. -/
theorem opened_cell {H : Type} {enc : TypeId × Value → H} {W : World} {spare : Nat → Bool} {fuel : Nat} {v : Value} {x : DataW H × List MemPlace} (hf : DataW.trod enc Tryd.prog W 0 spare true fuel 35 [v] = some x) :
    ∃ A n c xs, v = .slice A n c ∧ Src W A n xs ∧ n ≤ c ∧ c ≤ 9223372036854775807 := by
  obtain ⟨d, p⟩ := x
  rcases Go.Deep.open_slice Tryd.underlying35 hf with ⟨h, _⟩ | ⟨a, len, cap, _, _, _, _, h, _⟩
  all_goals
    simp only [List.cons.injEq, and_true] at h
    subst h
    obtain ⟨xs, h1, h2, h3⟩ := opened Tryd.underlying35 Tryd.underlying5 (by kernel_rfl) hf
    exact ⟨_, _, _, xs, rfl, h1, h2, h3⟩

/-- A slice of integers. -/
theorem opened_ints {H : Type} {enc : TypeId × Value → H} {W : World} {spare : Nat → Bool} {fuel : Nat} {A : Option Addr} {n c : Nat} {x : DataW H × List MemPlace} (hf : DataW.trod enc Tryd.prog W 0 spare true fuel 36 [.slice A n c] = some x) :
    n ≤ c ∧ c ≤ 9223372036854775807 ∧ ∃ l, IntsAt W A n l := by
  rcases Go.Deep.open_slice1 Tryd.underlying36 (by kernel_rfl) hf with ⟨h, _⟩ | ⟨a, len, cap, m, q, V, D, Pl, h, _, hl, hm, hmm, _, hel⟩
  · simp at h
    obtain ⟨rfl, rfl, rfl⟩ := h
    exact ⟨Nat.le_refl _, by omega, [], rfl, fun j x hx => by cases hx⟩
  · simp at h
    obtain ⟨rfl, rfl, rfl⟩ := h
    refine ⟨hl, by unfold maxLen at hm; omega, ?_⟩
    have each : ∀ i, i < n → ∃ y : Int, ∃ b off, some a = some ⟨b, off, none⟩ ∧ W.cell? ⟨b, off + i, none⟩ = some (.int .i64 y) ∧ -9223372036854775808 ≤ y ∧ y ≤ 9223372036854775807 := by
      intro i hi
      obtain ⟨h1, h2⟩ := hel i (by split at hmm <;> omega)
      obtain ⟨z, e1, _, e3⟩ := DataW.trod_int Tryd.underlying3 h2
      simp only [List.cons.injEq, and_true] at e1
      rw [e1] at h1
      obtain ⟨b, off, spot⟩ := a
      obtain rfl : spot = none := by
        obtain ⟨h3, _⟩ := hel 0 (by split at hmm <;> omega)
        have := World.cell?_spot h3
        simpa [Addr.add] using this
      rw [add_none] at h1
      have := bounds_i64 e3
      exact ⟨z, b, off, rfl, h1, this.1, this.2⟩
    exact list_of each
theorem IntsAt.lt {w : World} {A : Option Addr} {n : Nat} {l : List Int} (h : IntsAt w A n l) (hn : 0 < n) : ∀ ad, A = some ad → ad.block < w.heap.size := by
  intro ad e
  have hl := h.1
  obtain ⟨b, off, e1, h1, _⟩ := h.2 0 (l[0]'(by omega)) (List.getElem?_eq_getElem (by omega))
  rw [e] at e1
  injection e1 with e1
  subst e1
  exact World.block_lt_of_cell? w _ h1

/-- A slice of slices of bytes. -/
structure BytesV where
  ad : Option Addr
  len : Nat
  cap : Nat
  xs : List UInt8
structure BytesOk (w : World) (b : BytesV) : Prop where
  src : Src w b.ad b.len b.xs
  le : b.len ≤ b.cap
  top : b.cap ≤ 9223372036854775807
def SlicesAt (w : World) (A : Option Addr) (n : Nat) (l : List BytesV) : Prop :=
  l.length = n ∧ ∀ (i : Nat) (x : BytesV), l[i]? = some x → (∃ b off, A = some ⟨b, off, none⟩ ∧ w.cell? ⟨b, off + i, none⟩ = some (.slice x.ad x.len x.cap)) ∧ BytesOk w x
theorem opened_slices {H : Type} {enc : TypeId × Value → H} {W : World} {spare : Nat → Bool} {fuel : Nat} {A : Option Addr} {n c : Nat} {x : DataW H × List MemPlace} (hf : DataW.trod enc Tryd.prog W 0 spare true fuel 50 [.slice A n c] = some x) :
    n ≤ c ∧ c ≤ 9223372036854775807 ∧ ∃ l, SlicesAt W A n l := by
  rcases Go.Deep.open_slice1 Tryd.underlying50 (by kernel_rfl) hf with ⟨h, _⟩ | ⟨a, len, cap, m, q, V, D, Pl, h, _, hl, hm, hmm, _, hel⟩
  · simp at h
    obtain ⟨rfl, rfl, rfl⟩ := h
    exact ⟨Nat.le_refl _, by omega, [], rfl, fun j x hx => by cases hx⟩
  · simp at h
    obtain ⟨rfl, rfl, rfl⟩ := h
    refine ⟨hl, by unfold maxLen at hm; omega, ?_⟩
    have each : ∀ i, i < n → ∃ y : BytesV, (∃ b off, some a = some ⟨b, off, none⟩ ∧ W.cell? ⟨b, off + i, none⟩ = some (.slice y.ad y.len y.cap)) ∧ BytesOk W y := by
      intro i hi
      obtain ⟨h1, h2⟩ := hel i (by split at hmm <;> omega)
      obtain ⟨A', n', c', xs, e1, e2, e3, e4⟩ := opened_cell h2
      rw [e1] at h1
      obtain ⟨b, off, spot⟩ := a
      obtain rfl : spot = none := by
        obtain ⟨h3, _⟩ := hel 0 (by split at hmm <;> omega)
        have := World.cell?_spot h3
        simpa [Addr.add] using this
      rw [add_none] at h1
      exact ⟨⟨A', n', c', xs⟩, ⟨b, off, rfl, h1⟩, e2, e3, e4⟩
    exact list_of each

/-! Two streams of the call's own, apart. -/
def TwoAt (w W : World) (p q : Nat) (s t : St) : Prop :=
  ∃ m n, m.p = p ∧ n.p = q ∧ IsStr w.heap.size W m s ∧ IsStr w.heap.size W n t ∧ (∀ i, m.has i → ¬ n.has i) ∧ Only (fun _ => False) w W
section
variable {w W W' : World} {p q : Nat} {s t s' : St}
theorem TwoAt.swap (h : TwoAt w W p q s t) : TwoAt w W q p t s := by
  obtain ⟨m, n, h1, h2, h3, h4, h5, h6⟩ := h
  exact ⟨n, m, h2, h1, h4, h3, fun i hi hm => h5 i hm hi, h6⟩
theorem TwoAt.same (h : TwoAt w W p q s t) (ho : Only (fun _ => False) W W') : TwoAt w W' p q s t := by
  obtain ⟨m, n, h1, h2, h3, h4, h5, h6⟩ := h
  exact ⟨m, n, h1, h2, h3.same ho, h4.same ho, h5, h6.trans ho (fun _ h => h.elim)⟩
theorem TwoAt.only (h : TwoAt w W p q s t) : Only (fun _ => False) w W := by
  obtain ⟨_, _, _, _, _, _, _, h⟩ := h
  exact h
theorem TwoAt.left {m n : Me} (h1 : m.p = p) (h2 : n.p = q) (h3 : IsStr w.heap.size W m s) (h4 : IsStr w.heap.size W n t) (h5 : ∀ i, m.has i → ¬ n.has i) (h6 : Only (fun _ => False) w W) (hL : Left w.heap.size W m s' W') : TwoAt w W' p q s' t := by
  obtain ⟨m', e1, e2, e3, e4⟩ := hL
  refine ⟨m', n, e1.trans h1, h2, e2, h4.only e3 (fun i hi hm => h5 i hm hi), fun i hi hn => ?_, h6.trans e3 (fun i hi => .inr (h3.has_lt i hi).1)⟩
  rcases e4 i hi with h | h
  · exact h5 i h hn
  · have := (h4.has_lt i hn).2
    omega

/-- The contracts, for the first of the two. -/
theorem two_send (h : TwoAt w W p q s t) {es : List Addr} (hes : ErrsOf w [0, 1, 13] es) (A : Option Addr) (n c : Nat) (xs : List UInt8) (hs : Src w A n xs) (hnc : n ≤ c) (hc63 : c ≤ 9223372036854775807) (hfar : s.sent.length + n ≤ 1099511627776) :
    Calls Tryd.prog 19 #[.pointer (some ⟨p, 0, none⟩), .slice A n c] W fun e w' => ∃ v, e = .returned v ∧ ErrV es v (sendNum s n) ∧ TwoAt w w' p q (sendSt s xs) t := by
  obtain ⟨m, k, rfl, h2, h3, h4, h5, h6⟩ := h
  refine (strSend h3 (hes.only h6) A n c xs (hs.only h6 (fun _ _ _ h => h)) hnc hc63 (fun hn ad e hm => ?_) hfar).mono ?_
  · have h7 := hs.lt hn ad e
    have h8 := (h3.has_lt _ hm).1
    omega
  · rintro e w' ⟨v, rfl, hv, hL⟩
    exact ⟨v, rfl, hv, TwoAt.left rfl h2 h3 h4 h5 h6 hL⟩
theorem two_grant (h : TwoAt w W p q s t) (n : Int) (hfar : s.sent.length ≤ 1099511627776) :
    Calls Tryd.prog 20 #[.pointer (some ⟨p, 0, none⟩), .int .i64 n] W fun e w' => e = .returned (.int .i64 ((grantNum s n : Nat) : Int)) ∧ TwoAt w w' p q (grantSt s n) t := by
  obtain ⟨m, k, rfl, h2, h3, h4, h5, h6⟩ := h
  refine (strGrant h3 n h6.size hfar).mono ?_
  rintro e w' ⟨rfl, hL⟩
  exact ⟨rfl, TwoAt.left rfl h2 h3 h4 h5 h6 hL⟩
theorem two_wire (h : TwoAt w W p q s t) (hfar : s.sent.length ≤ 1099511627776) :
    Calls Tryd.prog 16 #[.pointer (some ⟨p, 0, none⟩)] W fun e w' => ∃ A c, e = .returned (.slice A s.out c) ∧ Src w' A s.out (s.sent.take s.out) ∧ TwoAt w w' p q s t ∧ Only (fun _ => False) W w' := by
  obtain ⟨m, k, rfl, h2, h3, h4, h5, h6⟩ := h
  refine (strWire h3 hfar).mono ?_
  rintro e w' ⟨A, c, rfl, hs, ho⟩
  exact ⟨A, c, rfl, hs, TwoAt.same ⟨m, k, rfl, h2, h3, h4, h5, h6⟩ ho, ho⟩
theorem two_room (h : TwoAt w W p q s t) :
    Calls Tryd.prog 15 #[.pointer (some ⟨p, 0, none⟩)] W fun e w' => e = .returned (.int .i64 ((s.room - (s.sent.length - s.out) : Nat) : Int)) ∧ TwoAt w w' p q s t ∧ Only (fun _ => False) W w' := by
  obtain ⟨m, k, rfl, h2, h3, h4, h5, h6⟩ := h
  refine (strRoom h3).mono ?_
  rintro e w' ⟨rfl, r, rfl⟩
  have ho := (Only.refl (fun _ => False) W).drewN r
  exact ⟨rfl, TwoAt.same ⟨m, k, rfl, h2, h3, h4, h5, h6⟩ ho, ho⟩
theorem two_next (h : TwoAt w W p q s t) :
    Calls Tryd.prog 18 #[.pointer (some ⟨p, 0, none⟩)] W fun e w' => e = .returned (.tuple #[B8 (nextC s), .bool (nextM s), .bool (nextIs s)]) ∧ TwoAt w w' p q (nextSt s) t := by
  obtain ⟨m, k, rfl, h2, h3, h4, h5, h6⟩ := h
  refine (strNext h3).mono ?_
  rintro e w' ⟨rfl, hL⟩
  exact ⟨rfl, TwoAt.left rfl h2 h3 h4 h5 h6 hL⟩
end
end Go.Proofs.YtpabhgkamekcnaaDoor
