/- What the walks of layer 7's laws share: Parse and Rest of bytes in every world that only grew; a beginning of bytes; the cells of an item. -/
import Derived.Test.YtbjabjkmagekfaaDoorGramAlive
namespace Go.Proofs.YtbjabjkmagekfaaDoor
open Go Go.RowKit
set_option maxRecDepth 100000
set_option maxHeartbeats 4000000

theorem Src.take {w : World} {A : Option Addr} {n : Nat} {xs : List UInt8} (h : Src w A n xs) (k : Nat) (hk : k ≤ n) : Src w A k (xs.take k) := by
  refine ⟨by rw [List.length_take, h.1]; omega, fun h0 => ?_⟩
  obtain ⟨ad, e, hc⟩ := h.2 (by omega)
  refine ⟨ad, e, fun j x hx => ?_⟩
  rw [List.getElem?_take] at hx
  split at hx
  · exact hc j x hx
  · cases hx
/-- A piece of bytes. -/
theorem Src.piece {w : World} {A : Option Addr} {n : Nat} {xs : List UInt8} (h : Src w A n xs) (a b : Nat) (hab : a ≤ b) (hb : b ≤ n) (D : Option Addr) (hD : a < b → ∀ ad, A = some ad → D = some (ad.add a)) : Src w D (b - a) ((xs.take b).drop a) := by
  have hl := h.1
  refine ⟨by rw [List.length_drop, List.length_take]; omega, fun h0 => ?_⟩
  obtain ⟨ad, e, hc⟩ := h.2 (by omega)
  refine ⟨_, hD (by omega) ad e, fun j x hx => ?_⟩
  rw [List.getElem?_drop, List.getElem?_take] at hx
  split at hx
  · rw [Go.Deep.add_add]
    exact hc (a + j) x hx
  · cases hx

/-- Parse of bytes of the grammar. -/
theorem parse_good {w : World} {es : List Addr} (hes : ErrsIs w [2, 4] es) {A : Option Addr} {n : Nat} {xs : List UInt8} (hs : Src w A n xs) (c : Nat) (raw : Bool) (hn : n ≤ 100000) (hc : n ≤ c) {l : List Pl} {r : Nat} (hp : parseFrom raw 0 xs = some (l, r)) (m : Nat) (hm : m = l.length) :
    Calls Tryd.prog 9 #[.slice A n c, .bool raw] w fun e w' => ∃ A' c' ps, e = .returned (.tuple #[.slice A' m c', .nilIface]) ∧ Hid (List.length ps = m ∧ ps.map PlP.p = l ∧ Items w' w.heap.size (.slice A' m c') ps) ∧ Hid (Only (fun _ => False) w w') := by
  refine (parse_any hes hs raw hn hc).mono ?_
  rintro e w' ⟨A', c', E, rfl, hE, ⟨ps, h1, h2⟩, ho⟩
  have e1 : itemsOf raw xs = l := by unfold itemsOf; rw [hp]
  have e2 : gramOk raw xs = true := by unfold gramOk; rw [hp]; rfl
  rw [e1] at h1 h2
  obtain rfl := hE.nil e2
  rw [e1, ← hm]
  rw [← hm] at h2
  exact ⟨A', c', ps, rfl, ⟨by rw [hm, ← h1, List.length_map], h1, h2⟩, ho⟩
/-- Parse of bytes that aren't. -/
theorem parse_wrong {w : World} {es : List Addr} (hes : ErrsIs w [2, 4] es) {A : Option Addr} {n : Nat} {xs : List UInt8} (hs : Src w A n xs) (c : Nat) (raw : Bool) (hn : n ≤ 100000) (hc : n ≤ c) (hp : parseFrom raw 0 xs = .none) :
    Calls Tryd.prog 9 #[.slice A n c, .bool raw] w fun e w' => ∃ A' c' a, e = .returned (.tuple #[.slice A' 0 c', .iface 88 (.pointer (some a))]) ∧ Hid (es[4]? = some a) ∧ Hid (Only (fun _ => False) w w') := by
  refine (parse_any hes hs raw hn hc).mono ?_
  rintro e w' ⟨A', c', E, rfl, hE, _, ho⟩
  have e1 : itemsOf raw xs = [] := by unfold itemsOf; rw [hp]
  have e2 : gramOk raw xs = false := by unfold gramOk; rw [hp]; rfl
  obtain ⟨a, ha, rfl⟩ := hE.bad e2
  rw [e1]
  exact ⟨A', c', a, rfl, ha, ho⟩
theorem rest_good {raw : Bool} {xs : List UInt8} {l : List Pl} {r : Nat} (hp : parseFrom raw 0 xs = some (l, r)) : restOf raw xs = r := by unfold restOf; rw [hp]
theorem rest_wrong {raw : Bool} {xs : List UInt8} (hp : parseFrom raw 0 xs = .none) : restOf raw xs = 0 := by unfold restOf; rw [hp]
/-- An item of a row, as its list has it. -/
theorem item_of {l : List Pl} {ps : List PlP} (h : ps.map PlP.p = l) {k : Nat} {x : Pl} (hx : l[k]? = some x) : ∃ y, ps[k]? = some y ∧ y.p = x := by
  rw [← h, List.getElem?_map] at hx
  cases hy : ps[k]? with
  | none => rw [hy] at hx; cases hx
  | some y =>
    rw [hy] at hx
    exact ⟨y, rfl, by simpa using hx⟩
end Go.Proofs.YtbjabjkmagekfaaDoor
