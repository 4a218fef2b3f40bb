/- strconv.Itoa and strconv.Atoi, as the program calls them: what they answer; nothing old turns. -/
import Derived.Test.YtdcalfmmcciicaaDoorTabs
import Derived.Test.YtdcalfmmcciicaaDoorShelf
namespace Go.Proofs.YtdcalfmmcciicaaDoor
open Go Go.RowKit

/-- The library's table of powers of ten. -/
def Pow (W : World) : Prop := Lib.TabIs Tryd.prog W "internal/strconv.uint64pow10" .u64 Lib.pow10Tab
theorem Pow.only {W W' : World} (h : Pow W) (ho : Only (fun _ => False) W W') : Pow W' := tab_only h ho

theorem itoa_any {W : World} (h : Pow W) (n : Int) (h0 : -9223372036854775808 ≤ n) (h1 : n ≤ 9223372036854775807) :
    Calls Tryd.prog 24 #[.int .i64 n] W fun e w' => e = .returned (.string ⟨(Lib.itoa n).toArray⟩) ∧ Only (fun _ => False) W w' :=
  (Tryd.strconv_Itoa n h0 h1 W h).mono fun e w' ⟨he, k, os, hw⟩ => by
    subst hw
    refine ⟨he, ⟨rfl, rfl, rfl, by simp [Sort.grow], fun i hi _ => ?_⟩⟩
    have : i < W.heap.size := hi
    simp [Sort.grow, Array.getElem?_append_left, this]

theorem atoi_any {W : World} (s : List UInt8) (hs : s.length ≤ 281474976710656) (he1 : ErrAt Tryd.prog W "strconv.ErrSyntax") (he2 : ErrAt Tryd.prog W "strconv.ErrRange") :
    Calls Tryd.prog 25 #[.string ⟨s.toArray⟩] W fun e w' => (∃ (v : Int) (x : Value), e = .returned (.tuple #[.int .i64 v, x]) ∧
      (Lib.atoiAll s = .ok v ∧ x = .nilIface ∨ (∀ u, Lib.atoiAll s ≠ .ok u) ∧ ∃ T N, x = .iface T (.pointer (some ⟨N, 0, none⟩)))) ∧ Only (fun _ => False) W w' := by
  have hsz : (ByteArray.mk s.toArray).size ≤ 281474976710656 := by simpa [ByteArray.size] using hs
  have key : ∀ w', Below W.heap.size W w' → Only (fun _ => False) W w' := fun w' hb => ⟨hb.os, hb.tape, hb.output, hb.size, fun k hk _ => hb.block k hk⟩
  cases h : Lib.atoiAll s with
  | ok v =>
    refine (Tryd.strconv_Atoi_ok ⟨s.toArray⟩ (by omega) v (by simpa using h) W).mono fun e w' ⟨he, hw⟩ => ⟨⟨v, _, he, .inl ⟨rfl, rfl⟩⟩, ?_⟩
    rcases hw with rfl | ⟨t, rfl⟩
    · exact Only.refl _ _
    · exact key _ (Lib.bytesWorld_below _ _ _)
  | range =>
    obtain ⟨u, v, h1⟩ := he2
    refine (Tryd.strconv_Atoi_range_var ⟨s.toArray⟩ hsz (by simpa using h) u v W h1).mono fun e w' ⟨N, he, _, _, hb⟩ => ⟨⟨_, _, he, .inr ⟨fun u h => (by cases h), _, N, rfl⟩⟩, key _ hb⟩
  | _ =>
    obtain ⟨u, v, h1⟩ := he1
    refine (Any.strconv_Atoi_syntax_var Tryd.laysC172 ⟨s.toArray⟩ hsz (by simpa using h) u v W h1).mono fun e w' ⟨N, he, _, _, hb⟩ => ⟨⟨_, _, he, .inr ⟨fun u h => (by cases h), _, N, rfl⟩⟩, key _ hb⟩
end Go.Proofs.YtdcalfmmcciicaaDoor
