/- slices.IndexFunc, ContainsFunc, BinarySearchFunc over timers. -/
import Derived.Test.YtdcjmfbdmejjjaaDoorClosures
import Derived.Shelf.Abstract
namespace Go.Proofs.YtdcjmfbdmejjjaaDoor
open Go Go.RowKit

theorem first_of (p : Tm → Bool) : ∀ ts : List Tm, (∀ x ∈ ts, p x = false) ∨ ∃ (k : Nat) (x : Tm), ts[k]? = some x ∧ p x = true ∧ ∀ (j : Nat) (y : Tm), j < k → ts[j]? = some y → p y = false
  | [] => .inl (fun _ h => by cases h)
  | x :: ts => by
    cases hx : p x
    · rcases first_of p ts with h | ⟨k, y, h1, h2, h3⟩
      · left
        intro y hy
        rcases List.mem_cons.1 hy with rfl | hy
        · exact hx
        · exact h y hy
      · right
        refine ⟨k + 1, y, by simpa using h1, h2, fun j z hj hz => ?_⟩
        match j, hz with
        | 0, hz =>
          simp only [List.getElem?_cons_zero, Option.some.injEq] at hz
          rw [← hz]; exact hx
        | j + 1, hz => exact h3 j z (by omega) (by simpa using hz)
    · exact .inr ⟨0, x, rfl, hx, fun j _ hj => absurd hj (by omega)⟩

theorem index_none {w : World} {B : Nat} {A : Option Addr} {n c : Nat} {ts : List Tm} (h : w.ownsRow B 59 2 (.slice A n c) n (flat ts)) (g : Nat) (lb : Array Value) (p : Tm → Bool)
    (eg : ∀ args w, (callFunc g args).run Tryd.prog w = .ok (.enter g args) w) (hp : Asks g lb p w) (hno : ∀ x ∈ ts, p x = false) :
    Calls Tryd.prog 29 #[.slice A n c, .func (.func g) #[] lb] w fun e w' => e = .returned (.int .i64 (-1)) ∧ Only (fun _ => False) w w' := by
  have hle := own_le h
  have hl := own_len h
  have HP := Lib.hid hp
  have HNo := Lib.hid hno
  have HO := Lib.hid h
  have HL := Lib.hid hl
  clear hp hno h hl
  go_enter Tryd.func29, Tryd.ntmps29
  go_wp2
  go_loopw [5, 8] (fun _ i W => ∃ k : Nat, k ≤ n ∧ i = .int .i64 (k : Int) ∧ Hid (Only (fun _ => False) w W)) (fun _ i _ => n - (intOf i).toNat)
  case atStart => exact ⟨0, Nat.zero_le _, rfl, Only.refl _ _⟩
  case round =>
    obtain ⟨k, hk, rfl, ho⟩ := hrel
    by_cases hlt : k < n
    · obtain ⟨x, hx⟩ : ∃ x, ts[k]? = some x := ⟨_, List.getElem?_eq_getElem (by rw [HL.out]; exact hlt)⟩
      obtain ⟨g0, rfl, _, hg0, c0, c1⟩ := two_of (own_same HO.out ho.out) hx hlt
      have C := HP.out wr x.1 x.2 ho.out
      rw [HNo.out _ (List.mem_of_getElem? hx)] at C
      have HC := Lib.hid C
      clear C hx
      go_wp2_with (go_at_fn g; refine HC.out.mono ?_; rintro e w' ⟨rfl, ho'⟩)
      go_roundw
      case rel => exact ⟨k + 1, by omega, by go_num, ho.out.trans ho' (fun _ h => h.elim)⟩
      case measure => simp [intOf]; omega
    · go_wp2
      go_ret
      exact ⟨rfl, ho.out⟩

theorem index_some {w : World} {B : Nat} {A : Option Addr} {n c : Nat} {ts : List Tm} (h : w.ownsRow B 59 2 (.slice A n c) n (flat ts)) (g : Nat) (lb : Array Value) (p : Tm → Bool)
    (eg : ∀ args w, (callFunc g args).run Tryd.prog w = .ok (.enter g args) w) (hp : Asks g lb p w) (m : Nat) (y : Tm) (hy : ts[m]? = some y) (hpy : p y = true) (hno : ∀ (j : Nat) (x : Tm), j < m → ts[j]? = some x → p x = false) :
    Calls Tryd.prog 29 #[.slice A n c, .func (.func g) #[] lb] w fun e w' => e = .returned (.int .i64 (m : Int)) ∧ Only (fun _ => False) w w' := by
  have hle := own_le h
  have hl := own_len h
  have hmn : m < n := by have := (List.getElem?_eq_some_iff.1 hy).1; omega
  have HP := Lib.hid hp
  have HNo := Lib.hid hno
  have HO := Lib.hid h
  have HL := Lib.hid hl
  have HY := Lib.hid hy
  have HPY := Lib.hid hpy
  clear hp hno h hl hy hpy
  go_enter Tryd.func29, Tryd.ntmps29
  go_wp2
  go_loopw [5, 8] (fun _ i W => ∃ k : Nat, k ≤ m ∧ i = .int .i64 (k : Int) ∧ Hid (Only (fun _ => False) w W)) (fun _ i _ => n - (intOf i).toNat)
  case atStart => exact ⟨0, Nat.zero_le _, rfl, Only.refl _ _⟩
  case round =>
    obtain ⟨k, hk, rfl, ho⟩ := hrel
    obtain ⟨x, hx⟩ : ∃ x, ts[k]? = some x := ⟨_, List.getElem?_eq_getElem (by rw [HL.out]; omega)⟩
    obtain ⟨g0, rfl, _, hg0, c0, c1⟩ := two_of (own_same HO.out ho.out) hx (by omega)
    have C := HP.out wr x.1 x.2 ho.out
    by_cases hlt : k < m
    · rw [HNo.out k _ hlt hx] at C
      have HC := Lib.hid C
      clear C hx
      go_wp2_with (go_at_fn g; refine HC.out.mono ?_; rintro e w' ⟨rfl, ho'⟩)
      go_roundw
      case rel => exact ⟨k + 1, by omega, by go_num, ho.out.trans ho' (fun _ h => h.elim)⟩
      case measure => simp [intOf]; omega
    · obtain rfl : k = m := by omega
      have e : x = y := by
        have := HY.out
        rw [hx] at this
        exact Option.some.inj this
      rw [e, HPY.out] at C
      rw [e] at c0 c1
      have HC := Lib.hid C
      clear C hx e
      go_wp2_with (go_at_fn g; refine HC.out.mono ?_; rintro e w' ⟨rfl, ho'⟩)
      go_ret
      exact ⟨rfl, ho.out.trans ho' (fun _ h => h.elim)⟩

theorem contains_any {w : World} {B : Nat} {A : Option Addr} {n c : Nat} {ts : List Tm} (h : w.ownsRow B 59 2 (.slice A n c) n (flat ts)) (g : Nat) (lb : Array Value) (p : Tm → Bool)
    (eg : ∀ args w, (callFunc g args).run Tryd.prog w = .ok (.enter g args) w) (hp : Asks g lb p w) :
    Calls Tryd.prog 24 #[.slice A n c, .func (.func g) #[] lb] w fun e w' => e = .returned (.bool (ts.any p)) ∧ Only (fun _ => False) w w' := by
  have hl := own_len h
  rcases first_of p ts with hno | ⟨m, y, h1, h2, h3⟩
  · have e : ts.any p = false := List.any_eq_false.2 (fun x hx => by simp [hno x hx])
    rw [e]
    have C := Lib.hid (index_none h g lb p eg hp hno)
    clear h hp hno e hl
    go_enter Tryd.func24, Tryd.ntmps24
    go_wp2_with (go_at_call 29; refine C.out.mono ?_; rintro e w' ⟨rfl, ho⟩)
    go_ret
    exact ⟨rfl, ho⟩
  · have e : ts.any p = true := List.any_eq_true.2 ⟨y, List.mem_of_getElem? h1, h2⟩
    rw [e]
    have hm : m < n := by have := (List.getElem?_eq_some_iff.1 h1).1; omega
    have C := Lib.hid (index_some h g lb p eg hp m y h1 h2 h3)
    clear h hp h1 h2 h3 e hl
    go_enter Tryd.func24, Tryd.ntmps24
    go_wp2_with (go_at_call 29; refine C.out.mono ?_; rintro e w' ⟨rfl, ho⟩)
    go_ret
    exact ⟨rfl, ho⟩
end Go.Proofs.YtdcjmfbdmejjjaaDoor
