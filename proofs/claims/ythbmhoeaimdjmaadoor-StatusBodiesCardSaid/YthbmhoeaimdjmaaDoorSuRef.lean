/- Layer 17's document, walked: Body, Parse. -/
import Derived.Test.YthbmhoeaimdjmaaDoorSuParse
namespace Go.Proofs.YthbmhoeaimdjmaaDoor
open Go Go.RowKit
set_option maxRecDepth 100000
set_option maxHeartbeats 4000000

theorem rsuBody_any {w : World} {A : Option Addr} {n c : Nat} {l : List En} (h : EnAt w A n l) (hn : n ≤ 1000) :
    Calls Tryd.prog 8 #[.slice A n c] w fun e w' => e = .returned (.tuple #[.string ⟨(suBody l).toArray⟩, .int .i64 (suNum l : Int)]) ∧ Only (fun _ => False) w w' := by
  have H := Lib.hid h
  have hl := h.1
  clear h
  obtain ⟨z, hz⟩ : ∃ z, z = (suNum l : Int) := ⟨_, rfl⟩
  obtain ⟨S, hS⟩ : ∃ S, S = suBody l := ⟨_, rfl⟩
  rw [← hz, ← hS]
  have HZ := Lib.hid hz
  have HS := Lib.hid hS
  clear hz hS
  by_cases h120 : 120 < n
  · have hd : decide ((120 : Int) < (n : Int)) = true := by simp; omega
    have hz4 : suNum l = 4 := by rw [suNum, if_pos (by omega)]
    have HZ4 : Hid (z = 4 ∧ S = []) := ⟨by rw [HZ.out, hz4]; rfl, by rw [HS.out, suBody, hz4, if_neg (by decide)]⟩
    clear hl hz4
    go_enter Tryd.func8, Tryd.ntmps8
    go_wp2
    go_ret2
    rw [HZ4.out.1, HZ4.out.2]
    exact ⟨rfl, Only.refl _ _⟩
  · have hd : decide ((120 : Int) < (n : Int)) = false := by simp; omega
    have HN : Hid (suNum l = enBad l) := by show suNum l = enBad l; rw [suNum, if_neg (by omega)]
    have HL := Lib.hid hl
    clear hl
    go_enter Tryd.func8, Tryd.ntmps8
    go_wp2
    go_loopw [4, 12] (fun v i W => ∃ (k : Nat) (acc : List UInt8), k ≤ n ∧ v = .string ⟨acc.toArray⟩ ∧ i = .int .i64 (k : Int) ∧ Hid (acc.length = 2 * k + 1 ∧ acc ++ enBytes (l.drop k) = 0 :: enBytes l ∧ enBad (l.drop k) = enBad l ∧ Only (fun _ => False) w W)) (fun _ i _ => n - (intOf i).toNat)
    case atStart => exact ⟨0, [0], by omega, rfl, rfl, rfl, rfl, rfl, Only.refl _ _⟩
    case round =>
      obtain ⟨k, acc, hk, rfl, rfl, hrel⟩ := hrel
      have HR := hrel
      clear hrel
      by_cases hlt : k < n
      · have hlt2 : (k : Int) < (n : Int) := by omega
        obtain ⟨x, hx⟩ : ∃ x, l[k]? = some x := ⟨_, List.getElem?_eq_getElem (by rw [H.out.1]; omega)⟩
        obtain ⟨b, off, rfl, hbl, hrg⟩ := (H.out.same HR.out.2.2.2).2 k x hx
        have hd0 : l.drop k = x :: l.drop (k + 1) := by
          obtain ⟨h1, e⟩ := List.getElem?_eq_some_iff.1 hx
          rw [List.drop_eq_getElem_cons h1, e]
        have HD := Lib.hid hd0
        have HRg := Lib.hid hrg
        obtain ⟨xv, xo⟩ := x
        clear hx hrg hd0
        obtain ⟨p0, hp0⟩ : ∃ p, decide (xv < 251) = p := ⟨_, rfl⟩
        obtain ⟨p1, hp1⟩ : ∃ p, decide (254 < xv) = p := ⟨_, rfl⟩
        obtain ⟨q0, hq0⟩ : ∃ p, decide (xo < 0) = p := ⟨_, rfl⟩
        obtain ⟨q1, hq1⟩ : ∃ p, decide (255 < xo) = p := ⟨_, rfl⟩
        have HP0 := Lib.hid hp0
        have HP1 := Lib.hid hp1
        have HQ0 := Lib.hid hq0
        have HQ1 := Lib.hid hq1
        have hb9 : (p0 = true ∨ p1 = true) → enBad l = 9 := fun h => by
          rw [← HR.out.2.2.1, HD.out, enBad_cons, decide_eq_false (fun h' => by
            rcases h with h | h
            · rw [h] at hp0; have := of_decide_eq_true hp0; omega
            · rw [h] at hp1; have := of_decide_eq_true hp1; omega), if_neg (by decide)]
        have hb1 : p0 = false → p1 = false → (q0 = true ∨ q1 = true) → enBad l = 1 := fun h0 h1 h => by
          rw [h0] at hp0
          rw [h1] at hp1
          have := of_decide_eq_false hp0
          have := of_decide_eq_false hp1
          rw [← HR.out.2.2.1, HD.out, enBad_cons, decide_eq_true (by omega), if_pos rfl, decide_eq_false (fun h' => by
            rcases h with h | h
            · rw [h] at hq0; have := of_decide_eq_true hq0; omega
            · rw [h] at hq1; have := of_decide_eq_true hq1; omega), if_neg (by decide)]
        have HB9 := Lib.hid hb9
        have HB1 := Lib.hid hb1
        clear hb9 hb1
        have hways : (p0 = true) ∨ (p0 = false ∧ p1 = true) ∨ (p0 = false ∧ p1 = false ∧ q0 = true) ∨ (p0 = false ∧ p1 = false ∧ q0 = false ∧ q1 = true) ∨ (p0 = false ∧ p1 = false ∧ q0 = false ∧ q1 = false) := by
          cases p0 <;> cases p1 <;> cases q0 <;> cases q1 <;> simp
        rcases hways with rfl | ⟨rfl, rfl⟩ | ⟨rfl, rfl, rfl⟩ | ⟨rfl, rfl, rfl, rfl⟩ | ⟨rfl, rfl, rfl, rfl⟩
        iterate 4
          focus
            go_wp2_with (first
              | ((with_reducible show wpList _ _ _ (⟨some 15, _, _, _, _, _⟩ :: _) _ _); refine wpList_load_mid rfl 71 _ rfl b (off + k * 2) rfl [.int .i64 xv, .int .i64 xo] _ HRg.out Tryd.underlying71 rfl size_ren ?_)
              | fail)
            go_ret2
            first
              | (have e9 := HB9.out (by simp); rw [HZ.out, HS.out, suBody, HN.out, e9, if_neg (by decide)]; exact ⟨rfl, HR.out.2.2.2.alloc _⟩)
              | (have e9 := HB1.out (by simp) (by simp) (by simp); rw [HZ.out, HS.out, suBody, HN.out, e9, if_neg (by decide)]; exact ⟨rfl, HR.out.2.2.2.alloc _⟩)
        have h0 := of_decide_eq_false HP0.out
        have h1 := of_decide_eq_false HP1.out
        have h2 := of_decide_eq_false HQ0.out
        have h3 := of_decide_eq_false HQ1.out
        have hw1 : IntKind.u8.wrap xv = xv := IntWalk.u8_in _ (by omega)
        have hw2 : IntKind.u8.wrap xo = xo := IntWalk.u8_in _ (by omega)
        have hb1 : B8 (b8 xv) = .int .u8 xv := by unfold B8; rw [b8_int (by omega) (by omega)]
        have hb2 : B8 (b8 xo) = .int .u8 xo := by unfold B8; rw [b8_int (by omega) (by omega)]
        obtain ⟨ys, hys⟩ : ∃ ys, ys = [b8 xv, b8 xo] := ⟨_, rfl⟩
        have hcn := text_new (wr.alloc (.cells #[.int .i64 xv, .int .i64 xo] 71)) ys 2 (by rw [hys]; rfl) #[.int .u8 xv, .int .u8 xo] (by rw [hys, List.map_cons, List.map_cons, List.map_nil, hb1, hb2]) (wr.heap.size + 1) (by simp)
        obtain ⟨acc2, hacc2⟩ : ∃ acc2, acc2 = acc ++ ys := ⟨_, rfl⟩
        have hadd := fun W => sum_texts (P := Tryd.prog) (w := W) acc ys acc2 hacc2.symm (by have := HR.out.1; rw [hys]; simp; omega)
        have HR2 : Hid (acc2.length = 2 * (k + 1) + 1 ∧ acc2 ++ enBytes (l.drop (k + 1)) = 0 :: enBytes l ∧ enBad (l.drop (k + 1)) = enBad l) := by
          obtain ⟨r1, r2, r3, _⟩ := HR.out
          refine ⟨by rw [hacc2, hys, List.length_append, r1]; simp; omega, ?_, ?_⟩
          · rw [hacc2, hys, ← r2, HD.out, enBytes, List.append_assoc]
            rfl
          · rw [← r3, HD.out, enBad_cons, decide_eq_true (by omega), if_pos rfl, decide_eq_true (by omega), if_pos rfl]
        clear h0 h1 h2 h3 hb1 hb2 hys hacc2 HB9 HB1
        go_wp2_with (first
          | ((with_reducible show wpList _ _ _ (⟨some 15, _, _, _, _, _⟩ :: _) _ _); refine wpList_load_mid rfl 71 _ rfl b (off + k * 2) rfl [.int .i64 xv, .int .i64 xo] _ HRg.out Tryd.underlying71 rfl size_ren ?_)
          | fail)
        go_roundw
        case rel => exact ⟨k + 1, acc2, by omega, rfl, by go_num, HR2.out.1, HR2.out.2.1, HR2.out.2.2, (HR.out.2.2.2.alloc _).alloc _⟩
        case measure => simp [intOf]; omega
      · obtain rfl : k = n := by omega
        have hF : Hid (S = acc ∧ z = 0) := by
          obtain ⟨r1, r2, r3, _⟩ := HR.out
          have hdr : l.drop k = [] := List.drop_eq_nil_of_le (by rw [HL.out]; exact Nat.le_refl _)
          rw [hdr] at r2 r3
          have e0 : enBad l = 0 := r3.symm
          rw [enBytes, List.append_nil] at r2
          refine ⟨?_, by rw [HZ.out, HN.out, e0]; rfl⟩
          rw [HS.out, suBody, HN.out, e0, if_pos rfl, r2]
        go_wp2
        go_ret2
        rw [hF.out.1, hF.out.2]
        exact ⟨rfl, HR.out.2.2.2⟩

/-- What Parse of the document answers. -/
def RParsed (w : World) (asks : Bool) (num : Nat) (l : List En) (e : Ending) (w' : World) : Prop :=
  ∃ A m c, e = .returned (.tuple #[.slice A m c, .bool asks, .int .i64 (num : Int)]) ∧ EnAt w' A m l ∧ Only (fun _ => False) w w'
section
variable (w : World)
theorem rsuP_short : Calls Tryd.prog 14 #[.string ⟨#[]⟩] w fun e w' => e = .returned (.tuple #[.slice none 0 0, .bool false, .int .i64 3]) ∧ Only (fun _ => False) w w' := by
  go_enter Tryd.func14, Tryd.ntmps14
  go_wp2
  go_ret3
  exact ⟨rfl, Only.refl _ _⟩
theorem rsuP_asks : Calls Tryd.prog 14 #[.string ⟨#[1]⟩] w fun e w' => e = .returned (.tuple #[.slice none 0 0, .bool true, .int .i64 0]) ∧ Only (fun _ => False) w w' := by
  go_enter Tryd.func14, Tryd.ntmps14
  go_wp2
  go_ret3
  exact ⟨rfl, Only.refl _ _⟩
theorem rsuP_long (s : List UInt8) {x : UInt8} {r : List UInt8} (hx : s = x :: r) (h1 : x.toNat = 1) (hr : 0 < r.length) : Calls Tryd.prog 14 #[.string ⟨s.toArray⟩] w fun e w' => e = .returned (.tuple #[.slice none 0 0, .bool false, .int .i64 4]) ∧ Only (fun _ => False) w w' := by
  obtain ⟨n, hn⟩ : ∃ n, n = s.length := ⟨_, rfl⟩
  have hl : (ByteArray.mk s.toArray).size = n := by rw [hn]; rfl
  have hn2 : 1 ≤ n := by rw [hn, hx]; simp
  have g0 := str_get (s := s) (k := 0) (x := x) (by rw [hx]; rfl)
  have hb : (s == [1]) = false := beq_eq_false_iff_ne.2 (fun e => by rw [hx] at e; injection e with _ e; subst e; simp at hr)
  have h01 : (0 : Int) < (n : Int) := by omega
  have hd : ((n : Int) == 0) = false := by simp; omega
  have e1 : ((x.toNat : Int) == 1) = true := by simp; omega
  clear hx hn h1 hr
  go_enter Tryd.func14, Tryd.ntmps14
  go_wp2
  go_ret3
  exact ⟨rfl, Only.refl _ _⟩
theorem rsuP_form (s : List UInt8) {x : UInt8} {r : List UInt8} (hx : s = x :: r) (h1 : 1 < x.toNat) : Calls Tryd.prog 14 #[.string ⟨s.toArray⟩] w fun e w' => e = .returned (.tuple #[.slice none 0 0, .bool false, .int .i64 5]) ∧ Only (fun _ => False) w w' := by
  obtain ⟨n, hn⟩ : ∃ n, n = s.length := ⟨_, rfl⟩
  have hl : (ByteArray.mk s.toArray).size = n := by rw [hn]; rfl
  have hn2 : 1 ≤ n := by rw [hn, hx]; simp
  have g0 := str_get (s := s) (k := 0) (x := x) (by rw [hx]; rfl)
  have hb : (s == [1]) = false := beq_eq_false_iff_ne.2 (fun e => by rw [hx] at e; injection e with e _; subst e; exact absurd h1 (by decide))
  have h01 : (0 : Int) < (n : Int) := by omega
  have hd : ((n : Int) == 0) = false := by simp; omega
  have e1 : ((x.toNat : Int) == 1) = false := by simp; omega
  have e2 : decide ((1 : Int) < (x.toNat : Int)) = true := by simp; omega
  clear hx hn h1
  go_enter Tryd.func14, Tryd.ntmps14
  go_wp2
  go_ret3
  exact ⟨rfl, Only.refl _ _⟩
theorem rsuP_odd (s : List UInt8) {x : UInt8} {r : List UInt8} (hx : s = x :: r) (h1 : x.toNat = 0) (hr : r.length % 2 = 1) (hn1 : r.length ≤ 1000) : Calls Tryd.prog 14 #[.string ⟨s.toArray⟩] w fun e w' => e = .returned (.tuple #[.slice none 0 0, .bool false, .int .i64 3]) ∧ Only (fun _ => False) w w' := by
  obtain ⟨n, hn⟩ : ∃ n, n = s.length := ⟨_, rfl⟩
  have hl : (ByteArray.mk s.toArray).size = n := by rw [hn]; rfl
  have hn2 : 1 ≤ n ∧ n = r.length + 1 := by rw [hn, hx]; simp
  have g0 := str_get (s := s) (k := 0) (x := x) (by rw [hx]; rfl)
  have hb : (s == [1]) = false := beq_eq_false_iff_ne.2 (fun e => by rw [hx] at e; injection e with e _; subst e; exact absurd h1 (by decide))
  have h01 : (0 : Int) < (n : Int) := by omega
  have hd : ((n : Int) == 0) = false := by simp; omega
  have e1 : ((x.toNat : Int) == 1) = false := by simp; omega
  have e2 : decide ((1 : Int) < (x.toNat : Int)) = false := by simp; omega
  obtain ⟨q, hq⟩ : ∃ q, (n : Int).tmod 2 = q := ⟨_, rfl⟩
  have hqb : (q == 0) = true := by rw [← hq, Int.tmod_eq_emod_of_nonneg (by omega)]; simp; omega
  clear hx hn h1 hr hn2
  go_enter Tryd.func14, Tryd.ntmps14
  go_wp2
  go_ret3
  exact ⟨rfl, Only.refl _ _⟩
theorem rsuP_told (s : List UInt8) {x : UInt8} {r : List UInt8} (hx : s = x :: r) (h1 : x.toNat = 0) (hr : r.length % 2 = 0) (hn1 : r.length ≤ 1000) : Calls Tryd.prog 14 #[.string ⟨s.toArray⟩] w fun e w' =>
    RParsed w false (toNum r) (toList r) e w' := by
  obtain ⟨n, hn⟩ : ∃ n, n = s.length := ⟨_, rfl⟩
  have hl : (ByteArray.mk s.toArray).size = n := by rw [hn]; rfl
  have hn2 : 1 ≤ n ∧ n = r.length + 1 := by rw [hn, hx]; simp
  have g0 := str_get (s := s) (k := 0) (x := x) (by rw [hx]; rfl)
  have hb : (s == [1]) = false := beq_eq_false_iff_ne.2 (fun e => by rw [hx] at e; injection e with e _; subst e; exact absurd h1 (by decide))
  have h01 : (0 : Int) < (n : Int) := by omega
  have hd : ((n : Int) == 0) = false := by simp; omega
  have e1 : ((x.toNat : Int) == 1) = false := by simp; omega
  have e2 : decide ((1 : Int) < (x.toNat : Int)) = false := by simp; omega
  obtain ⟨q, hq⟩ : ∃ q, (n : Int).tmod 2 = q := ⟨_, rfl⟩
  have hqb : (q == 0) = false := by rw [← hq, Int.tmod_eq_emod_of_nonneg (by omega)]; simp; omega
  have HGet : Hid (∀ k z, r[k]? = some z → s[k + 1]? = some z) := fun k z hz => by rw [hx]; exact hz
  have HLen : Hid (n = r.length + 1 ∧ r.length % 2 = 0) := ⟨hn2.2, hr⟩
  have hn1000 : n ≤ 1001 := by omega
  clear hx hn h1 hr hn2 hn1
  have HB0 : Hid ((w.alloc (.cells #[] 71)).ownsRow w.heap.size 71 2 (.slice (some ⟨w.heap.size, 0, none⟩) (0 : Nat) 0) 0 (csE [])) := own_of_blk (cur := []) (Blk.new w _ []) rfl rfl (by omega) (by omega) (Nat.le_refl _)
  have HO0 : Hid (Only (fun _ => False) w (w.alloc (.cells #[] 71))) := (Only.refl _ _).alloc _
  go_enter Tryd.func14, Tryd.ntmps14
  go_wp2
  generalize w.alloc (.cells #[] 71) = w0 at *
  clear g0
  go_loopw [5, 6] (fun v i W => ∃ (j cb k : Nat) (B : Option Addr), k = 2 * j + 1 ∧ k ≤ n ∧ v = .slice B j cb ∧ i = .int .i64 (k : Int) ∧ Hid (∃ done, W.ownsRow w.heap.size 71 2 (.slice B j cb) j (csE done) ∧ done.length = j ∧ done ++ enPairs (r.drop (2 * j)) = enPairs r ∧ enKind (r.drop (2 * j)) = enKind r ∧ Only (fun _ => False) w W)) (fun _ i _ => n - (intOf i).toNat)
  case atStart => exact ⟨0, 0, 1, _, rfl, by omega, rfl, rfl, [], HB0.out, rfl, rfl, rfl, HO0.out⟩
  case round =>
    clear HB0 HO0
    obtain ⟨j, cb, k, B, hkj, hk, rfl, rfl, hrel⟩ := hrel
    obtain ⟨done, hown, hdl, hcat, hkd, hon⟩ := hrel.out
    have HOw := Lib.hid hown
    have HDl := Lib.hid hdl
    have HCat := Lib.hid hcat
    have HKd := Lib.hid hkd
    have HOn := Lib.hid hon
    have HKj := Lib.hid hkj
    have hj : j ≤ 1000 := by omega
    have hk1 : k < n → k + 1 < n := by have := HLen.out; omega
    clear hrel hown hdl hcat hkd hon
    by_cases hlt : k < n
    · have hlt1 := hk1 hlt
      have hlt2 : (k : Int) < (n : Int) := by omega
      have hlt3 : (k : Int) + 1 < (n : Int) := by omega
      have hrl := HLen.out.1
      obtain ⟨x, hx⟩ : ∃ x, r[2 * j]? = some x := ⟨_, List.getElem?_eq_getElem (by omega)⟩
      obtain ⟨y, hy⟩ : ∃ y, r[2 * j + 1]? = some y := ⟨_, List.getElem?_eq_getElem (by omega)⟩
      have hd0 : r.drop (2 * j) = x :: y :: r.drop (2 * (j + 1)) := by
        obtain ⟨h1, e1⟩ := List.getElem?_eq_some_iff.1 hx
        obtain ⟨h2, e2⟩ := List.getElem?_eq_some_iff.1 hy
        rw [List.drop_eq_getElem_cons h1, e1, List.drop_eq_getElem_cons h2, e2]
        rfl
      have g1 := str_get (s := s) (k := k) (x := x) (by rw [hkj]; exact HGet.out _ _ hx)
      obtain ⟨k1, hk1e⟩ : ∃ k1, k1 = k + 1 := ⟨_, rfl⟩
      have hkw : IntKind.i64.wrap ((k : Int) + 1) = (k1 : Int) := by rw [IntWalk.i64_in _ (by omega)]; omega
      have hlt4 : (k1 : Int) < (n : Int) := by omega
      have g2 := str_get (s := s) (k := k1) (x := y) (by rw [hk1e, hkj]; exact HGet.out _ _ hy)
      have HD := Lib.hid hd0
      have hk2' : k + 2 ≤ n := by omega
      have hx255 : x.toNat ≤ 255 := by have := x.toNat_lt; omega
      have hy255 : y.toNat ≤ 255 := by have := y.toNat_lt; omega
      have hwx : IntKind.i64.wrap (x.toNat : Int) = (x.toNat : Int) := IntWalk.i64_in _ (by omega)
      have hwy : IntKind.i64.wrap (y.toNat : Int) = (y.toNat : Int) := IntWalk.i64_in _ (by omega)
      obtain ⟨p0, hp0⟩ : ∃ p, decide ((x.toNat : Int) < 251) = p := ⟨_, rfl⟩
      obtain ⟨p1, hp1⟩ : ∃ p, decide ((254 : Int) < (x.toNat : Int)) = p := ⟨_, rfl⟩
      have HP0 := Lib.hid hp0
      have HP1 := Lib.hid hp1
      have hbad : Hid (p0 = true ∨ p1 = true → enKind r = false) := fun h => by
        rw [← HKd.out, HD.out, enKind, decide_eq_false (fun h' => by
          rcases h with h | h
          · have := HP0.out; rw [h] at this; have := of_decide_eq_true this; omega
          · have := HP1.out; rw [h] at this; have := of_decide_eq_true this; omega), Bool.false_and]
      clear hx hy hd0 hk1 hrl hkj hk1e hlt3 hlt1
      have HK2 := Lib.hid hk2'
      clear hk2'
      have hways : (p0 = true) ∨ (p0 = false ∧ p1 = true) ∨ (p0 = false ∧ p1 = false) := by cases p0 <;> cases p1 <;> simp
      rcases hways with rfl | ⟨rfl, rfl⟩ | ⟨rfl, rfl⟩
      iterate 2
        focus
          go_wp2
          go_ret3
          have hk9 := hbad.out (by simp)
          have hl2 := HLen.out
          have z1 : toNum r = 9 := by rw [toNum, if_neg (by omega), hk9]; rfl
          have z2 : toList r = [] := by rw [toList, hk9, if_neg (fun h => by cases h.2)]
          rw [z1, z2]
          exact ⟨none, 0, 0, rfl, LsOf.nil _ _ _ _, HOn.out⟩
      have HKd2 : Hid (enKind (r.drop (2 * (j + 1))) = enKind r) := by
        show enKind (r.drop (2 * (j + 1))) = enKind r
        have h0 := of_decide_eq_false HP0.out
        have h1 := of_decide_eq_false HP1.out
        rw [← HKd.out, HD.out, enKind, decide_eq_true (by omega), Bool.true_and]
      have HCat2 : Hid ((done ++ [⟨x.toNat, y.toNat⟩]) ++ enPairs (r.drop (2 * (j + 1))) = enPairs r) := by
        show (done ++ [⟨x.toNat, y.toNat⟩]) ++ enPairs (r.drop (2 * (j + 1))) = enPairs r
        rw [← HCat.out, HD.out, enPairs, List.append_assoc]
        rfl
      have HOw1 : Hid ((wr.alloc (.cells #[.int .i64 (x.toNat : Int), .int .i64 (y.toNat : Int)] 71)).drew.ownsRow w.heap.size 71 2 (.slice B j cb) j (csE done)) := own_same HOw.out (((Only.refl _ _).alloc _).drew)
      go_wp2
      go_region_held3 (fun _ => True) (trivial)
        (first
          | ((with_reducible show (if Region.wanted ⟨some 56, _, _, _, _, _⟩ _ = true then _ else _)); refine step_rowRK rfl (.tmp 44) (.tmp 55) 25 rfl 71 _ 2 16 Tryd.underlying25 info_ren rfl (by omega) (by omega) w.heap.size B j cb (csE done) rfl HOw1.out (some ⟨wr.heap.size, 0, none⟩) 1 1 [.int .i64 (x.toNat : Int), .int .i64 (y.toNat : Int)] rfl rfl (fun _ => ⟨_, rfl, fun q u hj => by rw [at_add]; exact ((Blk.new wr 71 [.int .i64 (x.toNat : Int), .int .i64 (y.toNat : Int)]).drew.cell q).trans hj⟩) (En.cs_one ⟨x.toNat, y.toNat⟩) (by omega) (Nat.le_trans HOn.out.size (by simp; try omega)) ?_; intro A7 c7 w7 hR7 hG7))
      all_goals
        have HOn7 : Hid (Only (fun _ => False) w w7) := Only.grown ((HOn.out.alloc _).drew) hG7.out (fun k hk => .inr (own_lt HOw1.out k hk).1)
        go_wp2
        go_roundw
        case rel => exact ⟨j + 1, c7, k + 2, A7, by have := HKj.out; omega, HK2.out, rfl, by go_num, done ++ [⟨x.toNat, y.toNat⟩], by rw [csE_append, csE_one]; exact hR7.out, by rw [List.length_append, HDl.out]; rfl, HCat2.out, HKd2.out, HOn7.out⟩
        case measure => simp [intOf]; omega
    · obtain rfl : k = n := by omega
      have hl2 := HLen.out
      have hdr : r.drop (2 * j) = [] := List.drop_eq_nil_of_le (by omega)
      have hkt : enKind r = true := by rw [← HKd.out, hdr]; rfl
      have hdn : done = enPairs r := by have := HCat.out; rw [hdr, enPairs, List.append_nil] at this; exact this; simp
      have z1 : Hid (toNum r = 0) := by show toNum r = 0; rw [toNum, if_neg (by omega), hkt]; rfl
      have z2 : Hid (toList r = done) := by show toList r = done; rw [toList, hkt, if_pos ⟨by omega, rfl⟩, hdn]
      clear hl2 hdr hkt hdn hk1 hkj
      go_wp2
      go_ret3
      rw [z1.out, z2.out]
      exact ⟨B, j, cb, rfl, LsOf.of_own (cs := En.cs) (m := 2) (fun _ => rfl) HOw.out HDl.out, HOn.out⟩
/-- Parse of the document. -/
theorem rsuParse_any (b : List UInt8) (hn : b.length ≤ 1000) : Calls Tryd.prog 14 #[.string ⟨b.toArray⟩] w fun e w' =>
    RParsed w (paAsks b) (paNum b) (paList b) e w' := by
  cases b with
  | nil => exact (rsuP_short w).mono fun e w' ⟨he, ho⟩ => ⟨none, 0, 0, he, LsOf.nil _ _ _ _, ho⟩
  | cons x r =>
    rw [List.length_cons] at hn
    rcases (by omega : x.toNat = 1 ∨ 1 < x.toNat ∨ x.toNat = 0) with h | h | h
    · have z2 : paList (x :: r) = [] := by rw [paList, if_neg (fun h => by omega)]
      rw [z2]
      cases r with
      | nil =>
        obtain rfl : x = 1 := UInt8.toNat.inj h
        exact (rsuP_asks w).mono fun e w' ⟨he, ho⟩ => ⟨none, 0, 0, he, LsOf.nil _ _ _ _, ho⟩
      | cons y r =>
        have z1 : paNum (x :: y :: r) = 4 := by rw [paNum, if_pos h, if_neg (by simp)]
        have z3 : paAsks (x :: y :: r) = false := beq_eq_false_iff_ne.2 (fun e => by injection e with _ e; cases e)
        rw [z1, z3]
        exact (rsuP_long w _ rfl h (by simp)).mono fun e w' ⟨he, ho⟩ => ⟨none, 0, 0, he, LsOf.nil _ _ _ _, ho⟩
    · have z1 : paNum (x :: r) = 5 := by rw [paNum, if_neg (by omega), if_pos (by omega)]
      have z2 : paList (x :: r) = [] := by rw [paList, if_neg (fun h => by omega)]
      have z3 : paAsks (x :: r) = false := beq_eq_false_iff_ne.2 (fun e => by injection e with e _; subst e; exact absurd h (by decide))
      rw [z1, z2, z3]
      exact (rsuP_form w _ rfl h).mono fun e w' ⟨he, ho⟩ => ⟨none, 0, 0, he, LsOf.nil _ _ _ _, ho⟩
    · obtain ⟨z1, z2, z3⟩ := paNum_zero (r := r) h
      rw [z1, z2, z3]
      by_cases hr : r.length % 2 = 1
      · have z4 : toNum r = 3 := by rw [toNum, if_pos hr]
        have z5 : toList r = [] := by rw [toList, if_neg (fun h => by omega)]
        rw [z4, z5]
        exact (rsuP_odd w _ rfl h hr (by omega)).mono fun e w' ⟨he, ho⟩ => ⟨none, 0, 0, he, LsOf.nil _ _ _ _, ho⟩
      · exact rsuP_told w _ rfl h (by omega) (by omega)
end
end Go.Proofs.YthbmhoeaimdjmaaDoor
