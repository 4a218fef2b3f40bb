/- A head and a tail, in memory. -/
import Derived.Test.YtefcgbkbgkllaaaDoorMdHear
namespace Go.Proofs.YtefcgbkbgkllaaaDoor
open Go Go.RowKit

/-- A head and a tail, in memory. -/
structure MAt (w W : World) (p q : Nat) (hm : Int) (b : Bool) (T tm : Int) : Prop where
  hd : HdAt W p hm b
  tl : TlAt W q T tm
  only : Only (fun _ => False) w W
theorem MAt.same {w W W' : World} {p q : Nat} {hm T tm : Int} {b : Bool} (h : MAt w W p q hm b T tm) (ho : Only (fun _ => False) W W') : MAt w W' p q hm b T tm := ⟨h.hd.same ho, h.tl.same ho, h.only.trans ho (fun _ h => h.elim)⟩
end Go.Proofs.YtefcgbkbgkllaaaDoor
