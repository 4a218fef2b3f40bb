/- Package status: Ask, Body. -/
import Derived.Test.YthbmhoeaimdjmaaDoorSuOf
import Derived.Test.YthbmhoeaimdjmaaDoorQsTb
import Derived.Test.YthbmhoeaimdjmaaDoorNumIs
namespace Go.Proofs.YthbmhoeaimdjmaaDoor
open Go Go.RowKit
set_option maxRecDepth 100000
set_option maxHeartbeats 4000000

theorem suAsk_any (w : World) : Calls Tryd.prog 15 #[] w fun e w' => e = .returned (.slice (some ⟨w.heap.size, 0, none⟩) 1 1) ∧ Src w' (some ⟨w.heap.size, 0, none⟩) 1 [1] ∧ Only (fun _ => False) w w' := by
  go_enter Tryd.func15, Tryd.ntmps15
  go_wp2
  go_ret
  exact ⟨rfl, src_new w [1] #[.int .u8 1] 5 (0, 0) 1 rfl rfl, (Only.refl _ _).alloc _⟩

theorem suOption_any (W : World) (c : Int) : Calls Tryd.prog 24 #[.int .i64 c] W fun e w' => e = .returned (.bool (decide (0 ≤ c ∧ c ≤ 255))) ∧ w' = W := by
  by_cases h1 : c < 0
  · go_enter Tryd.func24, Tryd.ntmps24
    go_wp2
    go_ret
    refine ⟨congrArg (fun b => Ending.returned (Value.bool b)) ?_, rfl⟩
    first | (simp; done) | (simp; omega)
  · go_enter Tryd.func24, Tryd.ntmps24
    go_wp2
    go_ret
    refine ⟨congrArg (fun b => Ending.returned (Value.bool b)) ?_, rfl⟩
    first | (simp; done) | (simp; omega)

/-- What a call answers: bytes, or an error. -/
def Answered (w : World) (es : List Addr) (num : Nat) (b : List UInt8) (e : Ending) (w' : World) : Prop :=
  ∃ A m c E, e = .returned (.tuple #[.slice A m c, E]) ∧ ErrV es E num ∧ Src w' A m b ∧ (m ≤ c ∧ c ≤ 9223372036854775807) ∧ Only (fun _ => False) w w'

theorem suBody_any {w : World} {es : List Addr} (hE : ErrsAt w es) {A : Option Addr} {n c : Nat} {l : List En} (h : EnAt w A n l) (hn : n ≤ 1000) :
    Calls Tryd.prog 7 #[.slice A n c] w (Answered w es (suNum l) (suBody l)) := by
  have H := Lib.hid h
  have HE := Lib.hid hE
  have hl := h.1
  clear h hE
  by_cases h120 : 120 < n
  · have hd : decide ((120 : Int) < (n : Int)) = true := by simp; omega
    obtain ⟨a, ha⟩ : ∃ a, es[3]? = some a := ⟨_, List.getElem?_eq_getElem (by rw [HE.out.len]; omega)⟩
    have hc := HE.out.at_ 3 0 a rfl ha
    unfold errV at hc
    have HA := Lib.hid ha
    have HNum : Hid (suNum l = 4) := by show suNum l = 4; rw [suNum, if_pos (by omega)]
    clear ha hl
    go_enter Tryd.func7, Tryd.ntmps7
    go_wp2
    go_quiet (fail)
    go_wp2
    go_ret2
    rw [HNum.out]
    exact ⟨none, 0, 0, errV a, rfl, ErrV.err HA.out 4 rfl, by rw [suBody, HNum.out, if_neg (by decide)]; exact Src.nil _ _, ⟨Nat.le_refl _, by omega⟩, (Only.refl _ _).drewN _⟩
  · have hd : decide ((120 : Int) < (n : Int)) = false := by simp; omega
    have HN : Hid (suNum l = enBad l) := by show suNum l = enBad l; rw [suNum, if_neg (by omega)]
    have HB0 : Hid (Body (w.alloc (.cells #[.int .u8 0] 5)) w.heap.size (.slice (some ⟨w.heap.size, 0, none⟩) (1 : Nat) 1) [0]) := (show World.ownsRow _ w.heap.size 5 1 (.slice (some ⟨w.heap.size, 0, none⟩) (1 : Nat) 1) 1 [.int .u8 0] from own_of_blk (cur := [.int .u8 0]) (Blk.new w _ [.int .u8 0]) rfl rfl (by omega) (by omega) (Nat.le_refl _))
    have HO0 : Hid (Only (fun _ => False) w (w.alloc (.cells #[.int .u8 0] 5))) := (Only.refl _ _).alloc _
    have HL := Lib.hid hl
    clear hl
    go_enter Tryd.func7, Tryd.ntmps7
    go_wp2
    generalize w.alloc (.cells #[.int .u8 0] 5) = w0 at *
    go_loopw [4, 14] (fun v i W => ∃ (k m cb : Nat) (B : Option Addr), k ≤ n ∧ m = 2 * k + 1 ∧ v = .slice B m cb ∧ i = .int .i64 (k : Int) ∧ Hid (∃ acc, Body W w.heap.size (.slice B m cb) acc ∧ m = acc.length ∧ acc ++ enBytes (l.drop k) = 0 :: enBytes l ∧ enBad (l.drop k) = enBad l ∧ Only (fun _ => False) w W)) (fun _ i _ => n - (intOf i).toNat)
    case atStart => exact ⟨0, 1, 1, _, by omega, by omega, rfl, rfl, [0], HB0.out, rfl, rfl, rfl, HO0.out⟩
    case round =>
      clear HB0 HO0
      obtain ⟨k, m, cb, B, hk, hm, rfl, rfl, hrel⟩ := hrel
      obtain ⟨acc, hacc, hml, hcat, hbad, hon⟩ := hrel.out
      have hcap : m ≤ cb ∧ cb ≤ 9223372036854775807 := by
        obtain ⟨A', c', e, h1, _⟩ := hacc.form
        injection e with e1 e2 e3
        omega
      have HAc := Lib.hid hacc
      have HML := Lib.hid hml
      have HCat := Lib.hid hcat
      have HBad := Lib.hid hbad
      have HOn := Lib.hid hon
      have HM := Lib.hid hm
      have hm2 : m ≤ 1000 := by omega
      clear hrel hacc hml hcat hbad hon hm
      by_cases hlt : k < n
      · have hlt2 : (k : Int) < (n : Int) := by omega
        obtain ⟨x, hx⟩ : ∃ x, l[k]? = some x := ⟨_, List.getElem?_eq_getElem (by rw [H.out.1]; omega)⟩
        obtain ⟨b, off, rfl, hbl, hrg⟩ := (H.out.same HOn.out).2 k x hx
        have hd0 : l.drop k = x :: l.drop (k + 1) := by
          obtain ⟨h1, e⟩ := List.getElem?_eq_some_iff.1 hx
          rw [List.drop_eq_getElem_cons h1, e]
        have HD := Lib.hid hd0
        have HRg := Lib.hid hrg
        obtain ⟨xv, xo⟩ := x
        have HVb := Lib.hid (fun W => verb_any W xv)
        have HOp := Lib.hid (fun W => suOption_any W xo)
        obtain ⟨p, hp⟩ : ∃ p, p = decide (251 ≤ xv ∧ xv ≤ 254) := ⟨_, rfl⟩
        obtain ⟨q, hq⟩ : ∃ q, q = decide (0 ≤ xo ∧ xo ≤ 255) := ⟨_, rfl⟩
        rw [← hp] at HVb
        rw [← hq] at HOp
        have HP := Lib.hid hp
        have HQ := Lib.hid hq
        clear hx hrg hd0 hp hq
        cases p
        · obtain ⟨a, ha⟩ : ∃ a, es[8]? = some a := ⟨_, List.getElem?_eq_getElem (by rw [HE.out.len]; omega)⟩
          have HC : Hid (∀ W, Only (fun _ => False) w W → W.cell? ⟨1, 0, none⟩ = some (errV a)) := fun W ho => (HE.out.only ho).at_ 8 _ a rfl ha
          have HA := Lib.hid ha
          clear ha
          have hc : ∀ ob, (wr.alloc ob).cell? ⟨1, 0, none⟩ = some (.iface 164 (.pointer (some a))) := fun ob => HC.out _ (HOn.out.alloc _)
          go_wp2_with (first
            | ((with_reducible show wpList _ _ _ (⟨some 17, _, _, _, _, _⟩ :: _) _ _); refine wpList_load_mid rfl 70 _ rfl b (off + k * 2) rfl [.int .i64 xv, .int .i64 xo] _ HRg.out Tryd.underlying70 rfl size_en ?_)
            | (go_at_call 23; refine (HVb.out _).mono ?_; rintro e w5 ⟨rfl, e5⟩; subst w5)
            | fail)
          go_quiet (fail)
          go_wp2
          go_ret2
          have hz : suNum l = 9 := by
            rw [HN.out, ← HBad.out, HD.out, enBad, ← HP.out, if_neg (by decide)]
          rw [hz]
          exact ⟨none, 0, 0, errV a, rfl, ErrV.err HA.out 9 rfl, by rw [suBody, hz, if_neg (by decide)]; exact Src.nil _ _, ⟨Nat.le_refl _, by omega⟩, (HOn.out.alloc _).drewN _⟩
        · cases q
          · obtain ⟨a, ha⟩ : ∃ a, es[0]? = some a := ⟨_, List.getElem?_eq_getElem (by rw [HE.out.len]; omega)⟩
            have HC : Hid (∀ W, Only (fun _ => False) w W → W.cell? ⟨2, 0, none⟩ = some (errV a)) := fun W ho => (HE.out.only ho).at_ 0 _ a rfl ha
            have HA := Lib.hid ha
            clear ha
            have hc : ∀ ob, (wr.alloc ob).cell? ⟨2, 0, none⟩ = some (.iface 164 (.pointer (some a))) := fun ob => HC.out _ (HOn.out.alloc _)
            go_wp2_with (first
              | ((with_reducible show wpList _ _ _ (⟨some 17, _, _, _, _, _⟩ :: _) _ _); refine wpList_load_mid rfl 70 _ rfl b (off + k * 2) rfl [.int .i64 xv, .int .i64 xo] _ HRg.out Tryd.underlying70 rfl size_en ?_)
              | (go_at_call 23; refine (HVb.out _).mono ?_; rintro e w5 ⟨rfl, e5⟩; subst w5)
              | (go_at_call 24; refine (HOp.out _).mono ?_; rintro e w5 ⟨rfl, e5⟩; subst w5)
              | fail)
            go_quiet (fail)
            go_wp2
            go_ret2
            have hz : suNum l = 1 := by
              rw [HN.out, ← HBad.out, HD.out, enBad, ← HP.out, if_pos rfl, ← HQ.out, if_neg (by decide)]
            rw [hz]
            exact ⟨none, 0, 0, errV a, rfl, ErrV.err HA.out 1 rfl, by rw [suBody, hz, if_neg (by decide)]; exact Src.nil _ _, ⟨Nat.le_refl _, by omega⟩, (HOn.out.alloc _).drewN _⟩
          · have hv := of_decide_eq_true HP.out.symm
            have ho := of_decide_eq_true HQ.out.symm
            have hw1 : IntKind.u8.wrap xv = xv := IntWalk.u8_in _ (by omega)
            have hw2 : IntKind.u8.wrap xo = xo := IntWalk.u8_in _ (by omega)
            have hb1 : B8 (b8 xv) = .int .u8 xv := by unfold B8; rw [b8_int (by omega) (by omega)]
            have hb2 : B8 (b8 xo) = .int .u8 xo := by unfold B8; rw [b8_int (by omega) (by omega)]
            have HSrc : Hid (∀ (W : World) (N : Nat), W.heap.size = N → Src (W.alloc (.cells #[.int .u8 xv, .int .u8 xo] 5)) (some ⟨N, 0, none⟩) 2 [b8 xv, b8 xo]) := fun W N hN => by
              subst hN
              exact src_new W [b8 xv, b8 xo] _ _ _ 2 (by rw [List.map_cons, List.map_cons, List.map_nil, hb1, hb2]) rfl
            have hBad2 : Hid (enBad (l.drop (k + 1)) = enBad l) := by
              show enBad (l.drop (k + 1)) = enBad l
              rw [← HBad.out, HD.out, enBad, ← HP.out, if_pos rfl, ← HQ.out, if_pos rfl]
            have hCat2 : Hid ((acc ++ [b8 xv, b8 xo]) ++ enBytes (l.drop (k + 1)) = 0 :: enBytes l) := by
              show (acc ++ [b8 xv, b8 xo]) ++ enBytes (l.drop (k + 1)) = 0 :: enBytes l
              rw [← HCat.out, HD.out, enBytes, List.append_assoc]
              rfl
            clear hv ho hb1 hb2
            go_wp2_with (first
              | ((with_reducible show wpList _ _ _ (⟨some 17, _, _, _, _, _⟩ :: _) _ _); refine wpList_load_mid rfl 70 _ rfl b (off + k * 2) rfl [.int .i64 xv, .int .i64 xo] _ HRg.out Tryd.underlying70 rfl size_en ?_)
              | (go_at_call 23; refine (HVb.out _).mono ?_; rintro e w5 ⟨rfl, e5⟩; subst w5)
              | (go_at_call 24; refine (HOp.out _).mono ?_; rintro e w5 ⟨rfl, e5⟩; subst w5)
              | (at_builtin; refine step_bytesG rfl _ _ rfl w.heap.size B m cb acc rfl (HAc.out.same (((Only.refl _ _).alloc _).alloc _)) HML.out (some ⟨wr.heap.size + 1, 0, none⟩) 2 2 [b8 xv, b8 xo] rfl (HSrc.out _ _ (by simp)) (by omega) (Nat.le_trans HOn.out.size (by simp; try omega)) ?_; intro A7 c7 w7 hB7 hG7)
              | fail)
            have HOn7 : Hid (Only (fun _ => False) w w7) := ((HOn.out.alloc _).alloc _).grown hG7.out (fun k hk => .inr (own_lt HAc.out k hk).1)
            go_roundw
            case rel => exact ⟨k + 1, m + 2, c7, A7, by omega, by have := HM.out; omega, rfl, by go_num, acc ++ [b8 xv, b8 xo], hB7.out, by rw [List.length_append, ← HML.out]; rfl, hCat2.out, hBad2.out, HOn7.out⟩
            case measure => simp [intOf]; omega
      · obtain rfl : k = n := by omega
        have hz : Hid (suNum l = 0) := by
          show suNum l = 0
          rw [HN.out, ← HBad.out, List.drop_eq_nil_of_le (by rw [HL.out]; exact Nat.le_refl _)]
          rfl
        have hsb : Hid (acc = suBody l) := by
          show acc = suBody l
          have := HCat.out
          rw [List.drop_eq_nil_of_le (by rw [HL.out]; exact Nat.le_refl _), enBytes, List.append_nil] at this
          rw [suBody, if_pos hz.out, this]
        go_wp2
        go_ret2
        rw [hz.out, ← hsb.out]
        exact ⟨B, m, cb, .nilIface, rfl, ErrV.nil es, HAc.out.src HML.out, hcap, HOn.out⟩
end Go.Proofs.YthbmhoeaimdjmaaDoor
