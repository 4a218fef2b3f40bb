
/- Two texts, one behind the other. -/
import Derived.Test.YtgknhojjnnljkaaDoorBase
import Derived.Laws.Concat
namespace Go.Proofs.YtgknhojjnnljkaaDoor
open Go Go.RowKit

theorem sum_texts {P : Program} {w : World} (x y z : List UInt8) (h : x ++ y = z) (hl : x.length + y.length ≤ 9223372036854775807) :
    (Op.stringOp .add (ByteArray.mk x.toArray) (ByteArray.mk y.toArray)).run P w = .ok (.string (ByteArray.mk z.toArray)) w := by
  subst h
  have := run_string_add_sum (P := P) w (ByteArray.mk x.toArray) (ByteArray.mk y.toArray) (by simpa [ByteArray.size] using hl)
  rw [this, ByteArray.mk_append_mk]
end Go.Proofs.YtgknhojjnnljkaaDoor
