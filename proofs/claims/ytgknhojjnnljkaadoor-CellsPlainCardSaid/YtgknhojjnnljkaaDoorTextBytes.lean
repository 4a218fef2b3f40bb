
/- []byte(s). -/
import Derived.Test.YtgknhojjnnljkaaDoorText
import Derived.Lib.ConvBytes
namespace Go.Proofs.YtgknhojjnnljkaaDoor
open Go Go.RowKit
set_option maxRecDepth 100000

theorem text_bytes (w : World) (s : List UInt8) (hl : s.length ≤ 1048576) : ∃ cp W', (convert 9 34 (.string ⟨s.toArray⟩)).run Tryd.prog w = .ok (.slice (some ⟨w.heap.size, 0, none⟩) s.length cp) W' ∧ s.length ≤ cp ∧ cp ≤ 9223372036854775807 ∧ Hid (Src W' (some ⟨w.heap.size, 0, none⟩) s.length s) ∧ Hid (Only (fun _ => False) w W') := by
  have h := Go.Lib.run_convert_string_bytes (P := Tryd.prog) w 9 34 5 ⟨s.toArray⟩ Tryd.underlying9 Tryd.underlying34 Tryd.underlying5
  have hsz : (ByteArray.mk s.toArray).size = s.length := by simp [ByteArray.size]
  rw [hsz] at h
  refine ⟨grownCap w s.length 0 5, Go.Lib.bytesWorld w 5 ⟨s.toArray⟩, h, ?_, ?_, ⟨rfl, fun _ => ⟨_, rfl, fun j x hx => ?_⟩⟩, ⟨rfl, rfl, rfl, ?_, fun k hk _ => ?_⟩⟩
  · exact grownCap_ge w s.length 0 _
  · have := grownCap_le_maxLen w s.length 0 5 (by unfold maxLen; omega)
    simpa [maxLen] using this
  · have hj := (List.getElem?_eq_some_iff.1 hx).1
    rw [at_add, Go.Lib.bytesWorld_cell w _ _ j (by rw [hsz]; exact hj)]
    unfold B8
    congr 3
    simp [hx]
  · rw [Go.Lib.bytesWorld_size]
    omega
  · exact Go.Lib.bytesWorld_at_old w _ _ k hk
end Go.Proofs.YtgknhojjnnljkaaDoor
