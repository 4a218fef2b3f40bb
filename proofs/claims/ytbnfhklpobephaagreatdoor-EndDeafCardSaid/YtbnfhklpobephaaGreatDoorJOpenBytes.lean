/- Several texts in one. -/
import Derived.Test.YtbnfhklpobephaaGreatDoorJScNew
import Derived.Test.YtbnfhklpobephaaGreatDoorJEnTake
import Derived.Test.YtbnfhklpobephaaGreatDoorJQsFacts
import Derived.Test.YtbnfhklpobephaaGreatDoorJHsNew
/- A slice of bytes that came in, read out of one cell. -/
namespace Go.Proofs.YtbnfhklpobephaaGreatDoor
open Go Go.ChangeShapes Go.WideShapes Go.ChangeAt Go.RowKit

theorem add_none (b o q : Nat) : (⟨b, o, none⟩ : Addr).add q = ⟨b, o + q, none⟩ := by unfold Addr.add; split <;> simp_all

/-- A slice of bytes, read out of one cell. -/
theorem opened_cell {H : Type} {enc : TypeId × Value → H} {W : World} {spare : Nat → Bool} {fuel : Nat} {v : Value} {x : DataW H × List MemPlace} (hf : DataW.trod enc Tryz.prog W 0 spare true fuel 45 [v] = some x) :
    ∃ A n c xs, v = .slice A n c ∧ Src W A n xs ∧ n ≤ c ∧ c ≤ 9223372036854775807 := by
  obtain ⟨d, p⟩ := x
  rcases Go.Deep.open_slice Tryz.underlying45 hf with ⟨h, _⟩ | ⟨a, len, cap, _, _, _, _, h, _⟩
  all_goals
    simp only [List.cons.injEq, and_true] at h
    subst h
    obtain ⟨xs, h1, h2, h3⟩ := opened Tryz.underlying45 Tryz.underlying5 (by kernel_rfl) hf
    exact ⟨_, _, _, xs, rfl, h1, h2, h3⟩

end Go.Proofs.YtbnfhklpobephaaGreatDoor
/- EndDeaf, of what came in. -/
namespace Go.Proofs.YtbnfhklpobephaaGreatDoor
open Go Go.ChangeShapes Go.WideShapes Go.ChangeAt Go.RowKit
set_option maxRecDepth 100000

theorem endDeaf_walk (W : World) {H : Type} {enc : TypeId × Value → H} {f0 f1 f2 : Nat} {A A1 A2 : Option Addr} {n c n1 c1 n2 c2 : Nat} {x0 x1 x2 : DataW H × List MemPlace} (h0 : DataW.trod enc Tryz.prog W 0 (fun _ => true) true f0 22 [.slice A n c] = some x0)
    (h1 : DataW.trod enc Tryz.prog W 0 (fun _ => true) true f1 45 [.slice A1 n1 c1] = some x1) (h2 : DataW.trod enc Tryz.prog W 0 (fun _ => true) true f2 45 [.slice A2 n2 c2] = some x2)
    (hF : TbW W ∧ ∃ es, ErrsAt W es) : Calls Tryz.prog 5 #[.slice A n c, .slice A1 n1 c1, .slice A2 n2 c2] W (Fine W) := by
  obtain ⟨hT, es, hE⟩ := hF
  obtain ⟨IA', ni', ic', zs, e, hz, _, _⟩ := opened_ints h0
  injection e with e1 e2 e3
  subst e1 e2 e3
  obtain ⟨_, _, _, xs, e, hx⟩ := opened_cell h1
  injection e with e1 e2 e3
  subst e1 e2 e3
  obtain ⟨_, _, _, ys, e, hy⟩ := opened_cell h2
  injection e with e1 e2 e3
  subst e1 e2 e3
  exact endDeaf_any hE hT hT.big hz hx.1 hy.1
end Go.Proofs.YtbnfhklpobephaaGreatDoor
