/- Rows of tokens that can be read, whoever laid them. -/
import Derived.Test.YtbjabjkmagekfaaDoorTk
namespace Go.Proofs.YtbjabjkmagekfaaDoor
open Go Go.RowKit
set_option maxRecDepth 100000
set_option maxHeartbeats 4000000

/-- A row of tokens. -/
structure RdTk (w : World) (A : Option Addr) (n : Nat) (ps : List TkP) : Prop where
  len : ps.length = n
  at_ : ∀ (i : Nat) (x : TkP), ps[i]? = some x → ∃ g off, A = some ⟨g, off, none⟩ ∧ w.rangeAt g (off + i * 5) x.cells ∧ Reads w x.val x.t.body
theorem RdTk.only {S : Nat → Prop} {w w' : World} {A : Option Addr} {n : Nat} {ps : List TkP} (h : RdTk w A n ps) (ho : Only S w w') (hS : ∀ k, k < w.heap.size → ¬ S k) : RdTk w' A n ps :=
  ⟨h.len, fun i x hx => by
    obtain ⟨g, off, e, h1, h2⟩ := h.at_ i x hx
    refine ⟨g, off, e, fun j v hv => ?_, h2.only ho hS⟩
    have := h1 j v hv
    exact ho.cellv this (hS _ (World.block_lt_of_cell? w _ this))⟩
theorem RdTk.same {w w' : World} {A : Option Addr} {n : Nat} {ps : List TkP} (h : RdTk w A n ps) (ho : Only (fun _ => False) w w') : RdTk w' A n ps := h.only ho (fun _ _ h => h)
theorem Toks.rd {w : World} {B n c : Nat} {A : Option Addr} {ps : List TkP} (h : Toks w B (.slice A n c) ps) (hn : ps.length = n) : RdTk w A n ps :=
  ⟨hn, fun i x hx => by
    obtain ⟨g, e, _, _, h1, h2⟩ := h.at_ hx
    exact ⟨g, 0, e, by rw [Nat.zero_add]; exact h1, h2.reads⟩⟩

end Go.Proofs.YtbjabjkmagekfaaDoor
