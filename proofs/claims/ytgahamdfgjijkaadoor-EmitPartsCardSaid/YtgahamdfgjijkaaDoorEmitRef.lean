/- The document's own answers of layer 6: Data, Verb, Sub, Token. -/
import Derived.Test.YtgahamdfgjijkaaDoorEmitSay
import Derived.Test.YtgahamdfgjijkaaDoorStr
import Derived.BigQuiet
import Derived.Deep.RegionHeldLaw
namespace Go.Proofs.YtgahamdfgjijkaaDoor
open Go Go.RowKit
set_option maxRecDepth 100000
set_option maxHeartbeats 4000000

theorem dataRef_any (w : World) (s : List UInt8) (hlen : s.length ≤ 100000) :
    Calls Tryd.prog 14 #[.string ⟨s.toArray⟩] w fun e w' => e = .returned (.string ⟨(dbl s).toArray⟩) ∧ w = w' := by
  have HLen := Lib.hid hlen
  go_enter Tryd.func14, Tryd.ntmps14
  go_wp2
  go_loopw [3, 4] (fun b a W => ∃ (k : Nat) (f : List UInt8), a = .int .i64 (k : Int) ∧ b = .string ⟨f.toArray⟩ ∧ k ≤ s.length ∧ f.length ≤ 2 * k ∧ Hid (f = dbl (s.take k)) ∧ w = W) (fun _ a _ => s.length - (intOf a).toNat)
  case atStart => exact ⟨0, [], rfl, rfl, Nat.zero_le _, by simp, rfl, rfl⟩
  case round =>
    obtain ⟨k, f, rfl, rfl, hkl, hfk, HF, rfl⟩ := hrel
    by_cases hlt : k < s.length
    · obtain ⟨x, hx⟩ : ∃ x, s[k]? = some x := ⟨_, List.getElem?_eq_getElem hlt⟩
      have hix := str_get hx (by show k < s.length; omega)
      have HX := Lib.hid hx
      have HS := Lib.hid (take_snoc hx)
      clear hx
      by_cases h255 : x.toNat = 255
      · have hb : (((x.toNat : Nat) : Int) == 255) = true := by simp [h255]
        have H5 := Lib.hid h255
        go_wp2
        go_roundw
        case rel =>
          refine ⟨k + 1, f ++ [x] ++ [255], by go_num, by rw [str_snoc HX.out]; exact congrArg Value.string (str_two _ _), by omega, by simp only [List.length_append, List.length_singleton]; omega, ?_, trivial⟩
          have e : (255 : UInt8) = x := UInt8.toNat_inj.1 (by rw [H5.out]; rfl)
          show _ = _
          rw [HS.out, dbl_two _ _ H5.out, HF.out, e]
        case measure => simp [intOf]; omega
      · have hb : (((x.toNat : Nat) : Int) == 255) = false := by simp; omega
        have H5 := Lib.hid h255
        go_wp2
        go_roundw
        case rel =>
          refine ⟨k + 1, f ++ [x], by go_num, by rw [str_snoc HX.out], by omega, by simp only [List.length_append, List.length_singleton]; omega, ?_, trivial⟩
          show _ = _
          rw [HS.out, dbl_one _ _ H5.out, HF.out]
        case measure => simp [intOf]; omega
    · go_wp2
      go_ret
      obtain rfl : k = s.length := by omega
      rw [HF.out, List.take_length]
      exact ⟨rfl, rfl⟩

theorem text_new (w : World) (xs : List UInt8) (n : Nat) (hn : xs.length = n) (cs : Array Value) (hc : cs = (xs.map B8).toArray) (g : Nat) (hg : w.heap.size = g) :
    (convert 24 9 (.slice (some ⟨g, 0, none⟩) n n)).run Tryd.prog (w.alloc (.cells cs 5)) = .ok (.string ⟨xs.toArray⟩) (w.alloc (.cells cs 5)) := by
  subst hg
  exact text_of (P := Tryd.prog) (src_new w xs cs 5 (0, 0) n hc hn) n 24 9 5 Tryd.underlying24 Tryd.underlying5 Tryd.underlying9

theorem verbRef_any (w : World) (c o : Int) (hc : 0 ≤ c ∧ c ≤ 255) (ho : 0 ≤ o ∧ o ≤ 255) :
    Calls Tryd.prog 21 #[.int .i64 c, .int .i64 o] w fun e w' => e = .returned (.string ⟨([255, b8 c, b8 o] : List UInt8).toArray⟩) ∧ Only (fun _ => False) w w' := by
  have hw : IntKind.u8.wrap c = c := by rw [IntKind.wrap_u8]; omega
  have hw2 : IntKind.u8.wrap o = o := by rw [IntKind.wrap_u8]; omega
  have HC : #[Value.int .u8 255, Value.int .u8 c, Value.int .u8 o] = ([255, b8 c, b8 o].map B8).toArray := by
    have := b8_int hc.1 hc.2
    have := b8_int ho.1 ho.2
    simp only [List.map_cons, List.map_nil, B8, *]
    rfl
  obtain ⟨L, hL⟩ : ∃ L, L = [255, b8 c, b8 o] := ⟨_, rfl⟩
  have hcv := text_new w [255, b8 c, b8 o] 3 rfl _ HC _ rfl
  rw [← hL] at hcv ⊢
  clear hc ho HC hL
  go_enter Tryd.func21, Tryd.ntmps21
  go_wp2
  go_ret
  exact ⟨rfl, (Only.refl _ _).alloc _⟩
end Go.Proofs.YtgahamdfgjijkaaDoor
