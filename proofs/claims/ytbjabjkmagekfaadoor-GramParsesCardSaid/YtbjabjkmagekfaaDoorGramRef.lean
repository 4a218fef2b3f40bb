/- The document's own answers of layer 7: sub, item. -/
import Derived.Test.YtbjabjkmagekfaaDoorGramLaw
import Derived.Test.YtbjabjkmagekfaaDoorIacRef
namespace Go.Proofs.YtbjabjkmagekfaaDoor
open Go Go.RowKit
set_option maxRecDepth 100000
set_option maxHeartbeats 8000000

/-- An item's cells, as the document has it. -/
def riCells (x : It) (f t : Int) : List Value := [.int .i64 x.kind, .int .i64 f, .int .i64 t, .int .i64 x.code, .int .i64 x.opt, .string ⟨x.body.toArray⟩]
theorem size_ritem : (Tryd.prog.info? 44).map (·.size) = some 6 := by kernel_rfl
theorem ri_one (x : It) (f t : Int) : ∀ v ∈ riCells x f t, v.oneCell' = true := by
  intro v hv
  simp only [riCells, List.mem_cons, List.not_mem_nil, or_false] at hv
  rcases hv with rfl | rfl | rfl | rfl | rfl | rfl <;> rfl
/-- What the document's item answers. -/
def cutIt : Cut → It
  | .got x _ => x
  | _ => .none
def cutN : Cut → Int
  | .got _ n => n
  | .few => 0
  | .bad => -1
def RItem (w : World) (r : Cut) (e : Ending) (w' : World) : Prop := e = .returned (.tuple #[.agg (riCells (cutIt r) 0 0).toArray, .int .i64 (cutN r)]) ∧ Only (fun _ => False) w w'

theorem gsub_ref (w : World) (s : List UInt8) (c d e : UInt8) (l : List UInt8) (hs : s = c :: d :: e :: l) (hlen : s.length ≤ 100000) :
    Calls Tryd.prog 31 #[.string ⟨s.toArray⟩] w (RItem w (subCut (e.toNat : Int) [] 3 l)) := by
  obtain ⟨R, hR⟩ : ∃ R, R = subCut (e.toNat : Int) [] 3 l := ⟨_, rfl⟩
  rw [← hR]
  have H0 := Lib.hid (show subCut (e.toNat : Int) [] 3 (s.drop 3) = R by rw [hs, hR]; rfl)
  have he : s[2]? = some e := by rw [hs]; rfl
  have h3 : 3 ≤ s.length := by rw [hs]; simp
  have hi2 := str_get he (by show 2 < s.length; omega)
  have hwe : wrap64 ((e.toNat : Nat) : Int) = (e.toNat : Int) := wrap64_nat _ (by have := e.toNat_lt; omega)
  clear hs hR he
  go_enter Tryd.func31, Tryd.ntmps31
  go_wp2
  go_loopw [4, 5] (fun b a W => ∃ (k : Nat) (f : List UInt8), a = .int .i64 (k : Int) ∧ b = .string ⟨f.toArray⟩ ∧ 3 ≤ k ∧ k ≤ s.length ∧ f.length ≤ k ∧ Hid (subCut (e.toNat : Int) f k (s.drop k) = R) ∧ W = w.alloc (.cells #[.int .i64 0, .int .i64 0, .int .i64 0, .int .i64 0, .int .i64 0, .string ⟨#[]⟩] 44)) (fun _ a _ => s.length - (intOf a).toNat)
  case atStart => exact ⟨3, [], rfl, rfl, Nat.le_refl _, h3, by simp, H0.out, rfl⟩
  case round =>
    obtain ⟨k, f, rfl, rfl, hk3, hkl, hfk, hrel, rfl⟩ := hrel
    by_cases hlt : k < s.length
    · obtain ⟨x, hx⟩ : ∃ x, s[k]? = some x := ⟨_, List.getElem?_eq_getElem hlt⟩
      have hix := str_get hx (by show k < s.length; omega)
      have hdr : s.drop k = x :: s.drop (k + 1) := by rw [List.drop_eq_getElem_cons hlt, (List.getElem?_eq_some_iff.1 hx).2]
      have HD := Lib.hid hdr
      have HX := Lib.hid hx
      have HR := hrel
      clear hdr hx hrel
      by_cases h255 : x.toNat = 255
      · have hb : (((x.toNat : Nat) : Int) != 255) = false := by simp [h255]
        by_cases hend : k + 1 = s.length
        · have hd1 : (((k : Nat) : Int) == (s.length : Int) - 1) = true := by simp; omega
          go_wp2
          have eR : R = .few := by
            have := HR.out
            rw [HD.out, List.drop_eq_nil_of_le (by omega), subCut_one _ _ _ _ h255] at this
            exact this.symm
          rw [eR]
          refine ret_cell2 rfl _ rfl _ (riCells .none 0 0) _ (Blk.new' _ _ _ rfl) Tryd.underlying44 rfl size_ritem rfl ?_
          exact ⟨rfl, (Only.refl _ _).alloc _⟩
        · have hd1 : (((k : Nat) : Int) == (s.length : Int) - 1) = false := by simp; omega
          obtain ⟨y, hy⟩ : ∃ y, s[k + 1]? = some y := ⟨_, List.getElem?_eq_getElem (by omega)⟩
          have hiy := str_get hy (by show k + 1 < s.length; omega)
          have hdy : s.drop (k + 1) = y :: s.drop (k + 2) := by rw [List.drop_eq_getElem_cons (by omega), (List.getElem?_eq_some_iff.1 hy).2]
          rw [hdy] at HD
          clear hdy hy
          by_cases hy255 : y.toNat = 255
          · have hb2 : (((y.toNat : Nat) : Int) != 255) = false := by simp [hy255]
            have hb3 : (((y.toNat : Nat) : Int) == 240) = false := by simp; omega
            go_wp2
            go_roundw
            case rel =>
              refine ⟨k + 2, f ++ [255], by go_num, by rw [← str_two], by omega, by omega, by simp; omega, ?_, trivial⟩
              have := HR.out
              rw [HD.out, subCut, if_pos h255, if_pos hy255] at this
              exact this
            case measure => simp [intOf]; omega
          · have hb2 : (((y.toNat : Nat) : Int) != 255) = true := by simp; omega
            by_cases hy240 : y.toNat = 240
            · have hb3 : (((y.toNat : Nat) : Int) == 240) = true := by simp [hy240]
              have eR : R = .got ⟨5, 0, (e.toNat : Int), f⟩ (k + 2) := by
                have := HR.out
                rw [HD.out, subCut_end _ _ _ _ _ h255 hy240] at this
                exact this.symm
              go_wp2
              rw [eR]
              refine ret_cell2 rfl _ rfl _ (riCells ⟨5, 0, (e.toNat : Int), f⟩ 0 0) _ (Blk.new' _ _ _ rfl) Tryd.underlying44 rfl size_ritem rfl ?_
              exact ⟨rfl, (Only.refl _ _).alloc _⟩
            · have hb3 : (((y.toNat : Nat) : Int) == 240) = false := by simp; omega
              go_wp2
              have eR : R = .bad := by
                have := HR.out
                rw [HD.out, subCut_bad _ _ _ _ _ h255 hy240 hy255] at this
                exact this.symm
              rw [eR]
              refine ret_cell2 rfl _ rfl _ (riCells .none 0 0) _ (Blk.new' _ _ _ rfl) Tryd.underlying44 rfl size_ritem rfl ?_
              exact ⟨rfl, (Only.refl _ _).alloc _⟩
      · have hb : (((x.toNat : Nat) : Int) != 255) = true := by simp; omega
        go_wp2
        go_roundw
        case rel =>
          refine ⟨k + 1, f ++ [x], by go_num, by rw [str_snoc HX.out], by omega, by omega, by simp; omega, ?_, trivial⟩
          have := HR.out
          rw [HD.out, subCut_plain _ _ _ _ h255] at this
          exact this
        case measure => simp [intOf]; omega
    · obtain rfl : k = s.length := by omega
      go_wp2
      have eR : R = .few := by
        have := hrel.out
        rw [List.drop_length, subCut] at this
        exact this.symm
      rw [eR]
      refine ret_cell2 rfl _ rfl _ (riCells .none 0 0) _ (Blk.new' _ _ _ rfl) Tryd.underlying44 rfl size_ritem rfl ?_
      exact ⟨rfl, (Only.refl _ _).alloc _⟩
end Go.Proofs.YtbjabjkmagekfaaDoor
