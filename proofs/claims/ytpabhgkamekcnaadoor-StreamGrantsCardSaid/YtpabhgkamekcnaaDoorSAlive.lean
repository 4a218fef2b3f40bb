/- The chapter's example, as the statements of layer 3 ask it first. -/
import Derived.Test.YtpabhgkamekcnaaDoorStrIn
import Derived.Test.YtpabhgkamekcnaaDoorStrOut
import Derived.Lib.SlBytesConst
namespace Go.Proofs.YtpabhgkamekcnaaDoor
open Go Go.RowKit
set_option maxRecDepth 100000

section
variable {w W W' : World} {m : Me} {s s' : St}
/-- What a stream of the call's own turns, nothing that was there sees. -/
theorem Left.only_new (hW : Only (fun _ => False) w W) (h : IsStr w.heap.size W m s) (hL : Left w.heap.size W m s' W') : ∃ m', m'.p = m.p ∧ IsStr w.heap.size W' m' s' ∧ Only (fun _ => False) w W' := by
  obtain ⟨m', h1, h2, h3, _⟩ := hL
  exact ⟨m', h1, h2, hW.trans h3 (fun i hi => .inr (h.has_lt i hi).1)⟩
end

set_option maxHeartbeats 1000000 in
theorem salive_any (w : World) {es : List Addr} (hes : ErrsOf w [0, 1, 13] es) : Calls Tryd.prog 6 #[] w fun e w' => e = .returned (.bool true) ∧ Only (fun _ => False) w w' := by
  have kc := fun (w : World) (C : Array Value) (n c : Nat) => Lib.run_convert_bytes_const (P := Tryd.prog) w 35 5 C n c Tryd.underlying35 Tryd.underlying5
  have HE := Lib.hid hes
  clear hes
  go_enter Tryd.func6, Tryd.ntmps6
  go_wp2_with fail
  refine (strNew w 8 (by omega) (by omega)).mono ?_
  rintro e w1 ⟨m, rfl, h1, o1⟩
  have H1 := Lib.hid h1
  have O1 := Lib.hid o1
  clear h1 o1
  go_wp2_with fail
  obtain ⟨W2, hW2⟩ : ∃ W2, W2 = (w1.alloc (.cells #[.int .u8 97, .int .u8 98] 5 (2, 3))).alloc (.cells #[.int .i64 1] 3) := ⟨_, rfl⟩
  have OA := Lib.hid (show Only (fun _ => False) w1 W2 by rw [hW2]; exact ((Only.refl _ w1).alloc _).alloc _)
  have HSrc := Lib.hid (show Src W2 (some ⟨w1.heap.size, 0, none⟩) 2 [97, 98] by
    rw [hW2]
    exact (src_new w1 [97, 98] _ _ (2, 3) 2 rfl rfl).only (S := fun _ => False) ((Only.refl _ _).alloc _) (fun _ _ _ h => h))
  have HInt := Lib.hid (show IntsAt W2 (some ⟨w1.heap.size + 1, 0, none⟩) 1 [1] by
    rw [hW2]
    refine ⟨rfl, fun j x hx => ?_⟩
    match j, hx with
    | 0, hx =>
      simp only [List.getElem?_cons_zero, Option.some.injEq] at hx
      subst hx
      refine ⟨_, _, rfl, ?_, by omega, by omega⟩
      simp)
  have hz2 : W2.heap.size = w1.heap.size + 2 := by rw [hW2]; simp
  rw [← hW2]
  have hhas : ∀ i, m.has i → i < w1.heap.size := fun i hi => (H1.out.has_lt i hi).2
  have C := strDeliver (H1.out.same OA.out) (by have := O1.out.size; omega) (HE.out.only (O1.out.trans OA.out (fun i hi => hi.elim))) (some ⟨w1.heap.size, 0, none⟩) 2 2 [97, 98] HSrc.out (by omega) (by omega)
    (by rintro _ ad ⟨⟩; exact ⟨fun h => absurd (hhas _ h) (by show ¬ w1.heap.size < w1.heap.size; omega), by show w1.heap.size < W2.heap.size; omega⟩) (some ⟨w1.heap.size + 1, 0, none⟩) 1 1 [1] HInt.out
    (by rintro _ ad ⟨⟩ h; exact absurd (hhas _ h) (by show ¬ w1.heap.size + 1 < w1.heap.size; omega)) (by simp [fresh]) (by omega)
  have hn : delNum (fresh 8) 2 [1] = 0 := by rfl
  have hst : delSt (fresh 8) [97, 98] [1] = ⟨8, [97, 98], 0, [1], false, [], 0⟩ := by rfl
  rw [hn, hst] at C
  have HC := Lib.hid C
  have O2 := Lib.hid (O1.out.trans OA.out (fun i hi => hi.elim))
  have H2 := Lib.hid (H1.out.same OA.out)
  clear hW2 hz2 hhas C hn hst HSrc HInt H1 O1 OA kc
  refine HC.out.mono ?_
  rintro e w3 ⟨v3, rfl, hv3, hL3⟩
  obtain rfl : v3 = .nilIface := by
    rcases hv3 with ⟨_, h⟩ | ⟨i, a, h, _⟩
    · exact h
    · omega
  obtain ⟨m3, hp3, h3, o3⟩ := Left.only_new O2.out H2.out hL3
  have H3 := Lib.hid h3
  have O3 := Lib.hid o3
  clear hv3 hL3 h3 o3 HC H2 O2
  rw [← hp3]
  clear hp3
  clear m
  have kc := fun (w : World) (C : Array Value) (n c : Nat) => Lib.run_convert_bytes_const (P := Tryd.prog) w 35 5 C n c Tryd.underlying35 Tryd.underlying5
  go_wp2_with fail
  refine (strNext H3.out).mono ?_
  rintro e w4 ⟨he, hL4⟩
  obtain rfl : e = .returned (.tuple #[.int .u8 97, .bool false, .bool true]) := he
  have hst : nextSt ⟨8, [97, 98], 0, [1], false, [], 0⟩ = ⟨8, [97, 98], 1, [1], false, [], 0⟩ := by rfl
  rw [hst] at hL4
  obtain ⟨m4, hp4, h4, o4⟩ := Left.only_new O3.out H3.out hL4
  have H4 := Lib.hid h4
  have O4 := Lib.hid o4
  clear hL4 hst h4 o4 H3 O3
  rw [← hp4]
  clear hp4
  clear m3
  go_wp2_with fail
  refine (strNext H4.out).mono ?_
  rintro e w5 ⟨he, hL5⟩
  obtain rfl : e = .returned (.tuple #[.int .u8 98, .bool true, .bool true]) := he
  have hst : nextSt ⟨8, [97, 98], 1, [1], false, [], 0⟩ = ⟨8, [97, 98], 2, [], false, [], 0⟩ := by rfl
  rw [hst] at hL5
  obtain ⟨m5, hp5, h5, o5⟩ := Left.only_new O4.out H4.out hL5
  have H5 := Lib.hid h5
  have O5 := Lib.hid o5
  clear hL5 hst h5 o5 H4 O4
  rw [← hp5]
  clear hp5
  clear m4
  go_wp2_with fail
  refine (strRead H5.out).mono ?_
  rintro e w6 ⟨rfl, q, rfl⟩
  have H6 := Lib.hid (H5.out.same ((Only.refl _ w5).drewN q))
  have O6 := Lib.hid (O5.out.drewN q)
  clear H5 O5
  generalize w5.drewN q = w6 at *
  go_wp2_with fail
  have OA := Lib.hid ((Only.refl (fun _ => False) w6).alloc (.cells #[.int .u8 99] 5 (1, 2)))
  obtain ⟨W7, hW7⟩ : ∃ W7, W7 = w6.alloc (.cells #[.int .u8 99] 5 (1, 2)) := ⟨_, rfl⟩
  rw [← hW7] at OA ⊢
  have HSrc := Lib.hid (show Src W7 (some ⟨w6.heap.size, 0, none⟩) 1 [99] by
    rw [hW7]
    exact src_new w6 [99] _ _ (1, 2) 1 rfl rfl)
  have O7 := Lib.hid (O6.out.trans OA.out (fun i hi => hi.elim))
  have H7 := Lib.hid (H6.out.same OA.out)
  have C := strSend H7.out (HE.out.only O7.out) (some ⟨w6.heap.size, 0, none⟩) 1 1 [99] HSrc.out (by omega) (by omega)
    (by rintro _ ad ⟨⟩ h; exact absurd (H6.out.has_lt _ h).2 (by show ¬ w6.heap.size < w6.heap.size; omega)) (by simp)
  have hn : sendNum ⟨8, [97, 98], 2, [], false, [], 0⟩ 1 = 0 := by rfl
  have hst : sendSt ⟨8, [97, 98], 2, [], false, [], 0⟩ [99] = ⟨8, [97, 98], 2, [], false, [99], 0⟩ := by rfl
  rw [hn, hst] at C
  have HC := Lib.hid C
  clear hW7 hn hst C HSrc OA H6 O6
  refine HC.out.mono ?_
  rintro e w8 ⟨v8, rfl, hv8, hL8⟩
  obtain rfl : v8 = .nilIface := by
    rcases hv8 with ⟨_, h⟩ | ⟨i, a, h, _⟩
    · exact h
    · omega
  obtain ⟨m8, hp8, h8, o8⟩ := Left.only_new O7.out H7.out hL8
  have H8 := Lib.hid h8
  have O8 := Lib.hid o8
  clear hv8 hL8 h8 o8 HC H7 O7
  rw [← hp8]
  clear hp8
  clear m5
  go_wp2_with fail
  have C := strGrant H8.out 1 O8.out.size (by simp)
  have hn : grantNum ⟨8, [97, 98], 2, [], false, [99], 0⟩ 1 = 1 := by rfl
  rw [hn] at C
  have HC := Lib.hid C
  clear hn C
  refine HC.out.mono ?_
  rintro e w9 ⟨rfl, hL9⟩
  obtain ⟨m9, _, _, o9⟩ := Left.only_new O8.out H8.out hL9
  have O9 := Lib.hid o9
  clear hL9 o9 HC
  go_wp2
  go_ret
  exact ⟨rfl, O9.out⟩
end Go.Proofs.YtpabhgkamekcnaaDoor
