/- Package timers: its predicates and its comparison; slices.IndexFunc, ContainsFunc, BinarySearchFunc over its timers. -/
import Derived.Test.YtdcjmfbdmejjjaaDoorCells
namespace Go.Proofs.YtdcjmfbdmejjjaaDoor
open Go Go.RowKit

/-- A timer: its key, and when it is due. -/
abbrev Tm := Int × Int
def Tm.cs (x : Tm) : List Value := [.int .i64 x.1, .int .i64 x.2]
def Tm.v (x : Tm) : Value := .agg #[.int .i64 x.1, .int .i64 x.2]
def flat : List Tm → List Value
  | [] => []
  | x :: l => .int .i64 x.1 :: .int .i64 x.2 :: flat l
theorem length_flat (l : List Tm) : (flat l).length = l.length * 2 := by
  induction l with
  | nil => rfl
  | cons x l ih => simp only [flat, List.length_cons, ih]; omega
theorem flat_append (l k : List Tm) : flat (l ++ k) = flat l ++ flat k := by
  induction l with
  | nil => rfl
  | cons x l ih => simp [flat, ih]
theorem flat_one : ∀ (l : List Tm), ∀ v ∈ flat l, v.oneCell' = true
  | [], v, h => by cases h
  | x :: l, v, h => by
    rcases List.mem_cons.1 h with rfl | h
    · rfl
    · rcases List.mem_cons.1 h with rfl | h
      · rfl
      · exact flat_one l v h
theorem flat_get : ∀ {l : List Tm} {k : Nat} {x : Tm}, l[k]? = some x → (flat l)[k * 2]? = some (.int .i64 x.1) ∧ (flat l)[k * 2 + 1]? = some (.int .i64 x.2)
  | y :: l, 0, x, h => by
    simp only [List.getElem?_cons_zero, Option.some.injEq] at h
    subst h
    exact ⟨rfl, rfl⟩
  | y :: l, k + 1, x, h => by
    obtain ⟨h1, h2⟩ := flat_get (l := l) (k := k) (x := x) (by simpa using h)
    rw [show (k + 1) * 2 = k * 2 + 2 from by omega, show k * 2 + 2 + 1 = k * 2 + 1 + 2 from by omega]
    exact ⟨h1, h2⟩
theorem flat_take : ∀ (l : List Tm) (k : Nat), (flat l).take (k * 2) = flat (l.take k)
  | [], k => by simp [flat]
  | x :: l, 0 => by simp [flat]
  | x :: l, k + 1 => by
    rw [show (k + 1) * 2 = k * 2 + 1 + 1 from by omega]
    simp [flat, flat_take l k]
theorem flat_drop : ∀ (l : List Tm) (k : Nat), (flat l).drop (k * 2) = flat (l.drop k)
  | [], k => by simp [flat]
  | x :: l, 0 => by simp [flat]
  | x :: l, k + 1 => by
    rw [show (k + 1) * 2 = k * 2 + 1 + 1 from by omega]
    simp [flat, flat_drop l k]

/-- Two cells of a row. -/
theorem two_of {w : World} {B : Nat} {e : TypeId} {A : Option Addr} {n c k : Nat} {l : List Tm} {x : Tm} (h : w.ownsRow B e 2 (.slice A n c) n (flat l)) (hx : l[k]? = some x) (hk : k < n) :
    ∃ g, A = some ⟨g, 0, none⟩ ∧ B ≤ g ∧ g < w.heap.size ∧ w.cell? ⟨g, k * 2, none⟩ = some (.int .i64 x.1) ∧ w.cell? ⟨g, k * 2 + 1, none⟩ = some (.int .i64 x.2) := by
  obtain ⟨g, hA, hB, hlt, hc⟩ := own_at h (by omega)
  obtain ⟨h1, h2⟩ := flat_get hx
  exact ⟨g, hA, hB, hlt, hc _ _ h1, hc _ _ h2⟩
theorem own_len {w : World} {B : Nat} {e : TypeId} {v : Value} {n : Nat} {l : List Tm} (h : w.ownsRow B e 2 v n (flat l)) : l.length = n := by
  have := h.1
  rw [length_flat] at this
  omega

/-! The closures. -/
theorem ofKey_any (w : World) (key : Int) : Calls Tryd.prog 25 #[.int .i64 key] w fun e w' =>
    e = .returned (.func (.func 32) #[] #[.pointer (some ⟨w.heap.size, 0, none⟩)]) ∧ w' = w.alloc (.cells #[.int .i64 key] 3) := by
  go_enter Tryd.func25, Tryd.ntmps25
  go_wp2
  go_ret
  exact ⟨rfl, rfl⟩
theorem dueBy_any (w : World) (tick : Int) : Calls Tryd.prog 28 #[.int .i64 tick] w fun e w' =>
    e = .returned (.func (.func 36) #[] #[.pointer (some ⟨w.heap.size, 0, none⟩)]) ∧ w' = w.alloc (.cells #[.int .i64 tick] 3) := by
  go_enter Tryd.func28, Tryd.ntmps28
  go_wp2
  go_ret
  exact ⟨rfl, rfl⟩

/-- What is asked of a predicate: it may lay blocks of its own. -/
def Asks (g : Nat) (lb : Array Value) (p : Tm → Bool) (w : World) : Prop :=
  ∀ (W : World) (x y : Int), Only (fun _ => False) w W → Calls Tryd.prog g (#[.agg #[.int .i64 x, .int .i64 y]] ++ lb) W fun e w' => e = .returned (.bool (p (x, y))) ∧ Only (fun _ => False) W w'
theorem Asks.only {g : Nat} {lb : Array Value} {p : Tm → Bool} {w w' : World} (h : Asks g lb p w) (ho : Only (fun _ => False) w w') : Asks g lb p w' :=
  fun W x y hW => h W x y (ho.trans hW (fun _ h => h.elim))

theorem ofKey_asks (w : World) (b : Nat) (key : Int) (hc : w.cell? ⟨b, 0, none⟩ = some (.int .i64 key)) : Asks 32 #[.pointer (some ⟨b, 0, none⟩)] (fun x => x.1 == key) w := by
  intro W x y hW
  have hc := hW.cellv hc (fun h => h)
  show Calls _ _ #[.agg #[.int .i64 x, .int .i64 y], .pointer (some ⟨b, 0, none⟩)] _ _
  have hb := World.block_lt_of_cell? W _ hc
  simp only at hb
  go_enter Tryd.func32, Tryd.ntmps32
  go_wp2
  go_ret
  exact ⟨rfl, (Only.refl _ _).alloc _⟩
theorem dueBy_asks (w : World) (b : Nat) (tick : Int) (hc : w.cell? ⟨b, 0, none⟩ = some (.int .i64 tick)) : Asks 36 #[.pointer (some ⟨b, 0, none⟩)] (fun x => decide (x.2 ≤ tick)) w := by
  intro W x y hW
  have hc := hW.cellv hc (fun h => h)
  show Calls _ _ #[.agg #[.int .i64 x, .int .i64 y], .pointer (some ⟨b, 0, none⟩)] _ _
  have hb := World.block_lt_of_cell? W _ hc
  simp only at hb
  go_enter Tryd.func36, Tryd.ntmps36
  go_wp2
  go_ret
  exact ⟨rfl, (Only.refl _ _).alloc _⟩

/-! The comparison. -/
theorem ret_i {k : IntKind} {a b : Int} (h : a = b) : Ending.returned (.int k a) = .returned (.int k b) := by rw [h]
def cmpInt (a b : Int) : Int := if a < b then -1 else if b < a then 1 else 0
theorem cmpCompare_any (w : World) (a b : Int) : Calls Tryd.prog 37 #[.int .i64 a, .int .i64 b] w fun e w' => e = .returned (.int .i64 (cmpInt a b)) ∧ w = w' := by
  have hc : a < b ∨ (¬ a < b ∧ b < a) ∨ (¬ a < b ∧ ¬ b < a) := by omega
  have na : (a != a) = false := by simp
  have nb : (b != b) = false := by simp
  rcases hc with h | ⟨h1, h2⟩ | ⟨h1, h2⟩
  all_goals
    go_enter Tryd.func37, Tryd.ntmps37
    go_wp2
    go_ret
    refine ⟨ret_i ?_, rfl⟩
    unfold cmpInt
    split <;> (try split) <;> omega
def cmpTm (x y : Tm) : Int := if x.2 = y.2 then cmpInt x.1 y.1 else cmpInt x.2 y.2
theorem compare_any (w : World) (x1 x2 y1 y2 : Int) : Calls Tryd.prog 34 #[.agg #[.int .i64 x1, .int .i64 x2], .agg #[.int .i64 y1, .int .i64 y2]] w fun e w' =>
    e = .returned (.int .i64 (cmpTm (x1, x2) (y1, y2))) ∧ Only (fun _ => False) w w' := by
  by_cases h : x2 = y2
  · have hb : (x2 != y2) = false := by simp [h]
    have e : cmpTm (x1, x2) (y1, y2) = cmpInt x1 y1 := by rw [cmpTm]; exact if_pos h
    rw [e]
    clear e
    have H := Lib.hid h
    clear h
    go_enter Tryd.func34, Tryd.ntmps34
    go_wp2_with (go_at_call 37; refine (cmpCompare_any _ _ _).mono ?_; rintro e w' ⟨rfl, rfl⟩)
    go_ret
    exact ⟨rfl, ((Only.refl _ _).alloc _).alloc _⟩
  · have hb : (x2 != y2) = true := by simp [h]
    have e : cmpTm (x1, x2) (y1, y2) = cmpInt x2 y2 := by rw [cmpTm]; exact if_neg h
    rw [e]
    clear e h
    go_enter Tryd.func34, Tryd.ntmps34
    go_wp2_with (go_at_call 37; refine (cmpCompare_any _ _ _).mono ?_; rintro e w' ⟨rfl, rfl⟩)
    go_ret
    exact ⟨rfl, ((Only.refl _ _).alloc _).alloc _⟩
end Go.Proofs.YtdcjmfbdmejjjaaDoor
