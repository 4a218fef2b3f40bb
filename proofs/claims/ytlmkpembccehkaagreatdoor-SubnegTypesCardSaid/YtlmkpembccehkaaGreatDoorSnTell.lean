/- What a hub tells: one subnegotiation; which side a body speaks of. -/
import Derived.Test.YtlmkpembccehkaaGreatDoorBody
import Derived.BigQuiet
namespace Go.Proofs.YtlmkpembccehkaaGreatDoor
open Go Go.RowKit
set_option maxRecDepth 100000
set_option maxHeartbeats 4000000

/-- A subnegotiation that is told, of which the body is these bytes: no older than block B. -/
structure One (B : Nat) (w : World) (v : Value) (o : Int) (b : List UInt8) : Prop where
  form : ∃ N A n c, v = .slice (some ⟨N, 0, none⟩) 1 1 ∧ B ≤ N ∧ Blk w N 55 [.int .i64 o, .slice A n c] ∧ Src w A n b ∧ (0 < n → ∀ ad, A = some ad → B ≤ ad.block) ∧ n ≤ c ∧ c ≤ 9223372036854775807
theorem One.only {S : Nat → Prop} {B : Nat} {w w' : World} {v : Value} {o : Int} {b : List UInt8} (h : One B w v o b) (ho : Only S w w') (hS : ∀ i, B ≤ i → ¬ S i) : One B w' v o b := by
  obtain ⟨N, A, n, c, e, h1, h2, h3, h4, h5⟩ := h.form
  exact ⟨N, A, n, c, e, h1, h2.only ho (hS _ h1), h3.only ho (fun hn ad e => hS _ (h4 hn ad e)), h4, h5⟩
theorem One.low {B B' : Nat} {w : World} {v : Value} {o : Int} {b : List UInt8} (h : One B w v o b) (hB : B' ≤ B) : One B' w v o b := by
  obtain ⟨N, A, n, c, e, h1, h2, h3, h4, h5⟩ := h.form
  exact ⟨N, A, n, c, e, Nat.le_trans hB h1, h2, h3, fun hn ad e => Nat.le_trans hB (h4 hn ad e), h5⟩

theorem tell_any (w : World) (o : Int) (A : Option Addr) (n c : Nat) :
    Calls Tryz.prog 71 #[.int .i64 o, .slice A n c] w fun e w' => e = .returned (.slice (some ⟨w.heap.size, 0, none⟩) 1 1) ∧ Hid (Blk w' w.heap.size 55 [.int .i64 o, .slice A n c]) ∧ Hid (Only (fun _ => False) w w') := by
  go_enter Tryz.func71, Tryz.ntmps71
  go_wp2
  go_ret
  exact ⟨rfl, Blk.new w 55 [.int .i64 o, .slice A n c], (Only.refl _ _).alloc _⟩
/-- Nothing is told, or one subnegotiation of this option, whose body isn't too long. -/
def Tol (w : World) (v : Value) (o : Int) : Prop :=
  v = .slice none 0 0 ∨ ∃ N A n c b, v = .slice (some ⟨N, 0, none⟩) 1 1 ∧ Blk w N 55 [.int .i64 o, .slice A n c] ∧ Src w A n b ∧ n ≤ 256
theorem Tol.only {S : Nat → Prop} {w w' : World} {v : Value} {o : Int} (h : Tol w v o) (ho : Only S w w') (hS : ∀ i, i < w.heap.size → ¬ S i) : Tol w' v o := by
  rcases h with h | ⟨N, A, n, c, b, e, h1, h2, h3⟩
  · exact .inl h
  · exact .inr ⟨N, A, n, c, b, e, h1.only ho (hS _ h1.lt), h2.only ho (fun hn ad e => hS _ (h2.lt hn ad e)), h3⟩
theorem One.tol {B : Nat} {w : World} {v : Value} {o : Int} {b : List UInt8} (h : One B w v o b) (hb : b.length ≤ 256) : Tol w v o := by
  obtain ⟨N, A, n, c, e, h1, h2, h3, h4, h5⟩ := h.form
  exact .inr ⟨N, A, n, c, b, e, h2, h3, by rw [← h3.1]; exact hb⟩

/-- The side of which a body speaks. -/
theorem snSide_any (w : World) (b : Bool) : Calls Tryz.prog 68 #[.bool b] w fun e w' => e = .returned (.int .i64 (if b then 0 else 1)) ∧ w' = w := by
  cases b
  all_goals
    go_enter Tryz.func68, Tryz.ntmps68
    go_wp2
    go_ret
    exact ⟨rfl, rfl⟩
end Go.Proofs.YtlmkpembccehkaaGreatDoor
