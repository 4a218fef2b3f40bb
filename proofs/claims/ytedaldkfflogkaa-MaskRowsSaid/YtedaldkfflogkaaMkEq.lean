/- A mask is itself by '=='; masks and bytes that came in. -/
import Derived.Test.YtedaldkfflogkaaMk
import Derived.Test.YtedaldkfflogkaaOpenBytes
import Derived.ChangeKeysEq
import Derived.Laws.StructEq
namespace Go.Proofs.Ytedaldkfflogkaa
open Go Go.ChangeShapes Go.WideShapes Go.ChangeAt Go.RowKit
set_option maxRecDepth 100000
set_option maxHeartbeats 4000000

theorem part_byte (W : World) (xs : Array Value) (j : Nat) (v : Value) (h : xs[j]? = some v) : (part 5 xs j).run Try.prog W = .ok v W := by
  have hs : ∀ W, (sizeOf 5).run Try.prog W = .ok 1 W := fun W => by kernel_rfl
  have hg : ∀ W, (isAgg 5).run Try.prog W = .ok false W := fun W => by kernel_rfl
  simp [part, hs, hg, go_sem, h]
theorem eqItems_same (W : World) (m : List UInt8) : ∀ is : List Nat, (∀ j ∈ is, j < m.length) → (Op.eqItems 9999 5 1 (m.map B8).toArray (m.map B8).toArray is).run Try.prog W = .ok true W
  | [], _ => by simp [Op.eqItems]
  | j :: is, h => by
    have hj := h j (by simp)
    have hp := part_byte W (m.map B8).toArray (j * 1) (B8 m[j]) (by simp [hj])
    have he : (Op.equalIn 9999 5 (B8 m[j]) (B8 m[j])).run Try.prog W = .ok true W := by
      rw [show (9999 : Nat) = 9998 + 1 from rfl]
      unfold B8
      rw [run_equalIn_int W 9998 _ _ .u8 _ _ Try.underlying5]
      simp
    have ih := eqItems_same W m is (fun k hk => h k (by simp [hk]))
    simp only [Op.eqItems, Sem.run_bind, hp, he, Result.andThen_ok, Bool.not_true, Bool.false_eq_true, if_false]
    exact ih
theorem eq_mask (W : World) {m : List UInt8} (hl : m.length = 32) : (Op.equalIn 10000 24 (.agg (m.map B8).toArray) (.agg (m.map B8).toArray)).run Try.prog W = .ok true W := by
  obtain ⟨i, hi, _⟩ := info_parts info_byte
  rw [show (10000 : Nat) = 9999 + 1 from rfl, run_equalIn_array W 9999 _ _ Try.underlying24 hi, show Try.prog.cellsOf 5 = 1 from by kernel_rfl]
  exact eqItems_same W m _ (fun j hj => by rw [List.mem_range] at hj; omega)
theorem guard_mask : Try.prog.eqGuardType Try.prog.depth 24 = false := by kernel_rfl

theorem open_mask {H : Type} {enc : TypeId × Value → H} {W : World} {r : Reach} {b0 : Nat} {v : Value} {d : DataW H} {p : List MemPlace}
    (hv : Value.okWide Try.prog W r b0 24 v) (h : DataW.Trod enc Try.prog W 0 (fun _ => true) true 24 v d p) :
    ∃ m : List UInt8, v = mkV m ∧ m.length = 32 := by
  obtain ⟨zs, h1, h2, h3⟩ := open_array_ints Try.underlying24 Try.underlying5 (by kernel_rfl) (by kernel_rfl) hv h
  refine ⟨zs.map fun z => UInt8.ofNat z.toNat, ?_, by rw [List.length_map, h1]⟩
  rw [h2, mkV, List.map_map]
  congr 2
  refine List.map_congr_left fun z hz => ?_
  have hb := bounds_u8 (h3 z hz)
  show Value.int .u8 z = .int .u8 ((UInt8.ofNat z.toNat).toNat : Int)
  congr 1
  rw [UInt8.toNat_ofNat']
  omega
theorem open_byte {H : Type} {enc : TypeId × Value → H} {W : World} {r : Reach} {b0 : Nat} {v : Value} {d : DataW H} {p : List MemPlace}
    (hv : Value.okWide Try.prog W r b0 5 v) (h : DataW.Trod enc Try.prog W 0 (fun _ => true) true 5 v d p) :
    ∃ c : UInt8, v = B8 c ∧ True := by
  obtain ⟨x, rfl, _, _, hx⟩ := open_int Try.underlying5 hv h
  refine ⟨UInt8.ofNat x.toNat, ?_, trivial⟩
  have hb := bounds_u8 hx
  show Value.int .u8 x = .int .u8 ((UInt8.ofNat x.toNat).toNat : Int)
  congr 1
  rw [UInt8.toNat_ofNat']
  omega
end Go.Proofs.Ytedaldkfflogkaa
