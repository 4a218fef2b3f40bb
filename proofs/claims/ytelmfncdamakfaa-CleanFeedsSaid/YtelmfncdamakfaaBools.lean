/- Slices of bools. -/
import Derived.Test.YtelmfncdamakfaaText
import Derived.BigQuiet
namespace Go.Proofs.Ytelmfncdamakfaa
open Go Go.RowKit
set_option maxRecDepth 100000
set_option maxHeartbeats 4000000

/-- A slice of bools. -/
def Flg (w : World) (A : Option Addr) (n : Nat) (rs : List Bool) : Prop :=
  rs.length = n ∧ (0 < n → ∃ ad, A = some ad ∧ ∀ (j : Nat) (r : Bool), rs[j]? = some r → w.cell? (ad.add j) = some (.bool r))
theorem Flg.only {S : Nat → Prop} {w w' : World} {A : Option Addr} {n : Nat} {rs : List Bool} (h : Flg w A n rs) (ho : Only S w w') (hS : 0 < n → ∀ ad, A = some ad → ¬ S ad.block) : Flg w' A n rs :=
  ⟨h.1, fun hn => by
    obtain ⟨ad, e, hc⟩ := h.2 hn
    exact ⟨ad, e, fun j x hx => ho.cellv (hc j x hx) (by rw [block_add]; exact hS hn ad e)⟩⟩
theorem Flg.same {w w' : World} {A : Option Addr} {n : Nat} {rs : List Bool} (h : Flg w A n rs) (ho : Only (fun _ => False) w w') : Flg w' A n rs := h.only ho (fun _ _ _ h => h)

theorem Flg.lt {w : World} {A : Option Addr} {n : Nat} {rs : List Bool} (h : Flg w A n rs) (hn : 0 < n) : ∀ ad, A = some ad → ad.block < w.heap.size := by
  obtain ⟨ad, e, hc⟩ := h.2 hn
  intro ad' e'
  rw [e] at e'
  injection e' with e'
  subst e'
  have hl := h.1
  have h1 := World.block_lt_of_cell? w _ (hc 0 (rs[0]'(by omega)) (List.getElem?_eq_getElem (by omega)))
  rwa [block_add] at h1
theorem Flg.below {S : Nat → Prop} {w w' : World} {A : Option Addr} {n : Nat} {rs : List Bool} (h : Flg w A n rs) (ho : Only S w w') (hS : ∀ k, k < w.heap.size → ¬ S k) : Flg w' A n rs := h.only ho (fun hn ad e => hS _ (h.lt hn ad e))

/-- Would a 0, not raw, be left out at place k? -/
def Bh (s : List UInt8) (rs : List Bool) (k : Nat) (b : Bool) : Prop :=
  (k = 0 ∧ b = false) ∨ ∃ j y q, k = j + 1 ∧ s[j]? = some y ∧ rs[j]? = some q ∧ b = (decide (y.toNat = 13) && !q)

theorem zip_at {s : List UInt8} {rs : List Bool} {k : Nat} {x : UInt8} {r : Bool} (hx : s[k]? = some x) (hr : rs[k]? = some r) : (s.zip rs)[k]? = some (x, r) := by
  rw [List.getElem?_zip_eq_some]
  exact ⟨hx, hr⟩

theorem info_bool : (Try.prog.info? 4).map (fun i => (i.zero, i.size, i.bytes)) = some (some (.bool false), 1, 1) := by kernel_rfl
theorem made_bools (m : Nat) : madeCells #[.bool false] m = (List.replicate m (.bool false)).toArray := by
  apply Array.ext
  · simp [madeCells]
  · intro i h1 h2
    simp [madeCells, Nat.mod_one]
theorem make_bools (m : Nat) (hc : m ≤ 281474976710656) (W : World) : (Instr.makeSlice 29 (.int .i64 (m : Int)) (.int .i64 (m : Int))).run Try.prog W = .ok (.slice (some ⟨W.heap.size, 0, none⟩) m m) (W.alloc (.cells (List.replicate m (.bool false)).toArray 4)) := by
  obtain ⟨i, hi, hz, h1, h2⟩ := info_parts info_bool
  have h := run_make (P := Try.prog) W 29 4 i (.bool false) Try.underlying29 hi hz .i64 .i64 m m (by omega) (by omega) (by rw [h2]; omega) (by omega)
  rw [h, h1, Nat.mul_one]
  simp only [Int.toNat_natCast]
  rw [← made_bools]
  rfl

end Go.Proofs.Ytelmfncdamakfaa
