/- strconv.Itoa, as the program calls it: what it answers; nothing old turns. -/
import Derived.Test.YthbmhoeaimdjmaaDoorTabs
import Derived.Test.YthbmhoeaimdjmaaDoorShelf
namespace Go.Proofs.YthbmhoeaimdjmaaDoor
open Go Go.RowKit

/-- The library's table of powers of ten. -/
def Pow (W : World) : Prop := Lib.TabIs Tryd.prog W "internal/strconv.uint64pow10" .u64 Lib.pow10Tab
theorem Pow.only {W W' : World} (h : Pow W) (ho : Only (fun _ => False) W W') : Pow W' := tab_only h ho

theorem itoa_any {W : World} (h : Pow W) (n : Int) (h0 : -9223372036854775808 ≤ n) (h1 : n ≤ 9223372036854775807) :
    Calls Tryd.prog 56 #[.int .i64 n] W fun e w' => e = .returned (.string ⟨(Lib.itoa n).toArray⟩) ∧ Only (fun _ => False) W w' :=
  (Tryd.strconv_Itoa n h0 h1 W h).mono fun e w' ⟨he, k, os, hw⟩ => by
    subst hw
    refine ⟨he, ⟨rfl, rfl, rfl, by simp [Sort.grow], fun i hi _ => ?_⟩⟩
    have : i < W.heap.size := hi
    simp [Sort.grow, Array.getElem?_append_left, this]
end Go.Proofs.YthbmhoeaimdjmaaDoor
