/- What a row's list gives: the table of words, the sixteen errors, some of them. -/
import Derived.Test.YtefcgbkbgkllaaaDoorMdWords
import Derived.Test.YtefcgbkbgkllaaaDoorLaidFront
namespace Go.Proofs.YtefcgbkbgkllaaaDoor
open Go Go.RowKit
set_option maxRecDepth 100000

theorem bits_fact {W : World} {l : List (String × DataW Unit)} (h : laidMet Tryd.prog l W) (hm : ("truchman/mode.bits", Rows.laid_truchman_mode_bits) ∈ l) : BitsAt W := by
  have := plain_of h hm (g := 4) (t := 57) 6 (by kernel_rfl) (by kernel_rfl) (by kernel_rfl)
  have e : flatD Rows.laid_truchman_mode_bits = bitsC := by
    simp only [Rows.laid_truchman_mode_bits, flatD, flatDs]
    rfl
  rw [e] at this
  exact this
theorem errs_front {W : World} {l : List (String × DataW Unit)} (h : laidMet Tryd.prog l W) (hids : ((l.take 16).map fun x => Tryd.prog.globalNamed x.1) = errIds.map some)
    (hk : ∀ x ∈ l.take 16, ∃ text, x.2 = .iface "*errors.errorString" (.ptr (.agg [.lit (.string text)]))) : ∃ es, ErrsAt W es := by
  have h16 : laidMet Tryd.prog (l.take 16) W := laid_front (l2 := l.drop 16) (by rw [List.take_append_drop]; exact h)
  exact errs_of_list (l.take 16) h16 hids hk (by kernel_rfl)
end Go.Proofs.YtefcgbkbgkllaaaDoor
