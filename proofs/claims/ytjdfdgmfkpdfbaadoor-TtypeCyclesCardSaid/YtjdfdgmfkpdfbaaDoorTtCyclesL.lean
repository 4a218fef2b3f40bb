/- TtypeCycles, walked. -/
import Derived.Test.YtjdfdgmfkpdfbaaDoorTtBodiesL
import Derived.Test.YtjdfdgmfkpdfbaaDoorTtList
namespace Go.Proofs.YtjdfdgmfkpdfbaaDoor
open Go Go.ChangeShapes Go.WideShapes Go.ChangeAt Go.RowKit
set_option maxRecDepth 100000
set_option maxHeartbeats 4000000

theorem tcycles_many (w : World) {A B : Option Addr} {n cap m cb : Nat} {ts us : List (List UInt8)} (hs : TSrc w A n ts) (hu : TSrc w B m us) (hn : n ≤ 9223372036854775807) (hm : m ≤ 9223372036854775807) (r : Int) (h : (fewT ts 20 60 && fewT us 30 60) = false) :
    Calls Tryd.prog 3 #[.slice A n cap, .slice B m cb, .int .i64 r] w (Fine w) := by
  have HA := Lib.hid (fun W => tt_alive W)
  have HF : Hid (∀ W, Only (fun _ => False) w W → Calls Tryd.prog 7 #[.slice A n cap, .int .i64 20, .int .i64 60] W fun e w' => e = .returned (.bool (fewT ts 20 60)) ∧ w' = W) := fun W ho => few_any (hs.same ho) hn 20 60
  have HG : Hid (∀ W, Only (fun _ => False) w W → Calls Tryd.prog 7 #[.slice B m cb, .int .i64 30, .int .i64 60] W fun e w' => e = .returned (.bool (fewT us 30 60)) ∧ w' = W) := fun W ho => few_any (hu.same ho) hm 30 60
  clear hs hu
  generalize fewT ts 20 60 = p at *
  generalize fewT us 30 60 = q at *
  cases p <;> cases q
  case true.true => cases h
  all_goals
    clear h
    go_enter Tryd.func3, Tryd.ntmps3
    go_wp2_with (first
      | (go_at_call 6; refine (HA.out _).mono ?_; rintro e w1 ⟨rfl, ho1⟩; have HO1 := Lib.hid ho1; clear ho1)
      | (go_at_call 7; (with_reducible refine (HF.out _ HO1.out).mono ?_); rintro e w' ⟨rfl, e1⟩; subst w')
      | (go_at_call 7; (with_reducible refine (HG.out _ HO1.out).mono ?_); rintro e w' ⟨rfl, e1⟩; subst w'))
    go_ret
    exact ⟨rfl, HO1.out⟩

/-- The number of the last one that is no type's error, or 0. -/
def badT (ts : List (List UInt8)) : Int := if ts.all okT then 0 else 6
theorem badT_snoc {ts : List (List UInt8)} {k : Nat} {x : List UInt8} (h : ts[k]? = some x) : badT (ts.take (k + 1)) = if okT x then badT (ts.take k) else 6 := by
  unfold badT
  rw [take_snoc h, List.all_append]
  cases hx : okT x <;> simp [hx]
theorem new_wrong {w : World} {es : List Addr} (hes : ErrsAt w es) {A : Option Addr} {n : Nat} (cap : Nat) {ts : List (List UInt8)} (hs : TSrc w A n ts) (hb : n < 1 ∨ 8 < n ∨ ts.all okT = false) :
    ∃ (num : Nat) (E : Value), num = newNum ts ∧ NumIs w E (num : Int) ∧ ((∃ a, E = errV a) ∧ ∀ W, Only (fun _ => False) w W → Calls Tryd.prog 13 #[.slice A n cap] W fun e w' => e = .returned (.tuple #[.pointer none, E]) ∧ Only (fun _ => False) W w') := by
  have key : ∀ (i g : Nat), i ∈ [0, 2, 3, 4, 5] → errIds[i]? = some g → newNum ts = i + 1 → (∀ W, Only (fun _ => False) w W → Calls Tryd.prog 13 #[.slice A n cap] W fun e w' => ∃ a, es[i]? = some a ∧ e = .returned (.tuple #[.pointer none, errV a]) ∧ Only (fun _ => False) W w') →
      ∃ (num : Nat) (E : Value), num = newNum ts ∧ NumIs w E (num : Int) ∧ ((∃ a, E = errV a) ∧ ∀ W, Only (fun _ => False) w W → Calls Tryd.prog 13 #[.slice A n cap] W fun e w' => e = .returned (.tuple #[.pointer none, E]) ∧ Only (fun _ => False) W w') := by
    intro i g hi hg hn h
    obtain ⟨a, ha, _⟩ := hes.sel13.get i g hi hg
    refine ⟨i + 1, errV a, hn.symm, num_is hes (ErrV.err ha _ rfl), ⟨a, rfl⟩, fun W ho => (h W ho).mono ?_⟩
    rintro e w' ⟨a', ha', rfl, ho'⟩
    rw [ha] at ha'
    injection ha' with ha'
    subst ha'
    exact ⟨rfl, ho'⟩
  by_cases h1 : n < 1 ∨ 8 < n
  · exact key 0 _ (by decide) rfl (by unfold newNum; rw [hs.1, if_pos h1]) (fun W ho => new_range (hes.sel13.only ho) A n cap h1)
  · have h2 : ts.all okT = false := by
      rcases hb with h | h | h
      · exact absurd (.inl h) h1
      · exact absurd (.inr h) h1
      · exact h
    exact key 5 _ (by decide) rfl (by unfold newNum; rw [hs.1, if_neg h1, h2]; rfl) (fun W ho => new_name (hes.sel13.only ho) cap (hs.same ho) (by omega) (by omega) h2)

theorem tcycles_few {w : World} {es : List Addr} (hes : ErrsAt w es) {A B : Option Addr} {n cap m cb : Nat} {ts us : List (List UInt8)} (hs : TSrc w A n ts) (hu : TSrc w B m us) (r : Int) (hmc : m ≤ cb) (h1 : fewT ts 20 60 = true) (h2 : fewT us 30 60 = true) :
    Calls Tryd.prog 3 #[.slice A n cap, .slice B m cb, .int .i64 r] w (Fine w) := by
  have hn20 : n ≤ 20 := by have := (fewT_iff.1 h1).1; rw [hs.1] at this; exact this
  have hm30 : m ≤ 30 := by have := (fewT_iff.1 h2).1; rw [hu.1] at this; exact this
  have HA := Lib.hid (fun W => tt_alive W)
  have HF : Hid (∀ W, Only (fun _ => False) w W → Calls Tryd.prog 7 #[.slice A n cap, .int .i64 20, .int .i64 60] W fun e w' => e = .returned (.bool true) ∧ w' = W) := fun W ho => by
    rw [← h1]
    exact few_any (hs.same ho) (by omega) 20 60
  have HG : Hid (∀ W, Only (fun _ => False) w W → Calls Tryd.prog 7 #[.slice B m cb, .int .i64 30, .int .i64 60] W fun e w' => e = .returned (.bool true) ∧ w' = W) := fun W ho => by
    rw [← h2]
    exact few_any (hu.same ho) (by omega) 30 60
  have HS := Lib.hid hs
  have HU := Lib.hid hu
  have HE := Lib.hid hes
  clear hs hu hes h1 h2
  go_enter Tryd.func3, Tryd.ntmps3
  go_wp2_with (first
    | (go_at_call 6; refine (HA.out _).mono ?_; rintro e w1 ⟨rfl, ho1⟩; have HO1 := Lib.hid ho1; clear ho1)
    | (go_at_call 7; (with_reducible refine (HF.out _ HO1.out).mono ?_); rintro e w' ⟨rfl, e1⟩; subst w')
    | (go_at_call 7; (with_reducible refine (HG.out _ HO1.out).mono ?_); rintro e w' ⟨rfl, e1⟩; subst w'))
  clear HF HG HA
  obtain ⟨q, hq⟩ : ∃ q, q = w1.heap.size := ⟨_, rfl⟩
  have hB : Hid (LsAt (w1.alloc (.cells #[.string ⟨#[]⟩, .string ⟨#[]⟩, .string ⟨#[]⟩, .string ⟨#[]⟩, .string ⟨#[]⟩, .string ⟨#[]⟩, .string ⟨#[]⟩, .string ⟨#[]⟩, .int .i64 0, .bool false] 28)) q Ls.none) := by
    rw [hq]
    exact ⟨Ls.none_ok, Blk.new w1 28 (cellsL Ls.none)⟩
  have hO : Hid (Only (fun _ => False) w (w1.alloc (.cells #[.string ⟨#[]⟩, .string ⟨#[]⟩, .string ⟨#[]⟩, .string ⟨#[]⟩, .string ⟨#[]⟩, .string ⟨#[]⟩, .string ⟨#[]⟩, .string ⟨#[]⟩, .int .i64 0, .bool false] 28))) := HO1.out.alloc _
  have HQ : Hid (w.heap.size ≤ q) := by rw [hq]; exact HO1.out.size
  rw [← hq]
  clear hq
  generalize w1.alloc (.cells #[.string ⟨#[]⟩, .string ⟨#[]⟩, .string ⟨#[]⟩, .string ⟨#[]⟩, .string ⟨#[]⟩, .string ⟨#[]⟩, .string ⟨#[]⟩, .string ⟨#[]⟩, .int .i64 0, .bool false] 28) = w3 at *
  go_loopw [34] (fun i W => ∃ k : Nat, k ≤ m ∧ i = .int .i64 (k : Int) ∧ Hid (LsAt W q (gatherT Ls.none (us.take k)) ∧ Only (fun _ => False) w W)) (fun i _ => m - (intOf i).toNat)
  case atStart => exact ⟨0, Nat.zero_le _, rfl, hB.out, hO.out⟩
  case round =>
    clear hB hO
    obtain ⟨k, hk, rfl, HD⟩ := hrel
    by_cases hlt : k < m
    · obtain ⟨bd, s, rfl, hx, hc⟩ := (HU.out.same HD.out.2).get hlt
      have HX := Lib.hid hx
      have hg := gatherT_snoc (l := Ls.none) hx
      obtain ⟨L, hL⟩ : ∃ L, L = gatherT Ls.none (us.take (k + 1)) := ⟨_, rfl⟩
      have HTk := Lib.hid (take_any HD.out.1 s)
      rw [← hg, ← hL] at HTk
      have HGa : Hid (∀ W, Only (fun _ => False) w W → Calls Tryd.prog 9 #[.slice (some bd) (k + 1) cb] W fun e w' => ∃ A' c', e = .returned (.tuple #[.slice A' L.names.length c', .bool L.whole]) ∧ Hid (TSrc w' A' L.names.length L.names) ∧ Hid (Only (fun _ => False) W w')) := fun W ho => by
        rw [hL]
        exact gather_any cb ((HU.out.same ho).take (k + 1) (by omega)) (by omega)
      have HWh : Hid (∀ W, LsAt W q L → Calls Tryd.prog 10 #[.pointer (some ⟨q, 0, none⟩)] W fun e w' => e = .returned (.bool L.whole) ∧ w' = W) := fun W h => whole_any h
      have HNm : Hid (∀ W, LsAt W q L → Calls Tryd.prog 12 #[.pointer (some ⟨q, 0, none⟩)] W fun e w' => ∃ A c, e = .returned (.slice A L.names.length c) ∧ Hid (TSrc w' A L.names.length L.names) ∧ Hid (Only (fun _ => False) W w')) := fun W h => names_any h
      have HL := Lib.hid hL
      have hLn : L.names.length ≤ 8 := by rw [hL]; exact (gatherT_ok Ls.none_ok _).most
      have HSm : Hid (∀ (W : World) (A' B' : Option Addr) (c' d' : Nat), TSrc W A' L.names.length L.names → TSrc W B' L.names.length L.names → Calls Tryd.prog 11 #[.slice A' L.names.length c', .slice B' L.names.length d'] W fun e w' => e = .returned (.bool true) ∧ w' = W) := fun W A' B' c' d' h h' => by
        have := sameTexts_any (ca := c') (cb := d') h h' (by omega)
        rw [decide_eq_true rfl] at this
        exact this
      obtain ⟨N, hN⟩ : ∃ N, N = L.names.length := ⟨_, rfl⟩
      obtain ⟨F, hF⟩ : ∃ F, F = L.whole := ⟨_, rfl⟩
      rw [← hN] at HGa HNm HSm
      rw [← hF] at HTk HGa HWh
      clear hx hg hL hLn hN hF
      have hs1 : (0 : Int) ≤ (k : Int) + 1 := by omega
      have hs2 : (k : Int) + 1 ≤ (cb : Int) := by omega
      go_wp2_with (first
        | (go_at_call 8; (with_reducible refine HTk.out.mono ?_); rintro e w4 ⟨rfl, hl4, ho4⟩; have HL4 := Lib.hid hl4; have HO4 : Hid (Only (fun _ => False) w w4) := HD.out.2.trans ho4 (fun i hi => .inr (by have := HQ.out; omega)); clear hl4 ho4)
        | (go_at_call 9; (with_reducible refine (HGa.out _ HO4.out).mono ?_); rintro e w5 ⟨A5, c5, rfl, hs5, ho5⟩; have HL5 := Lib.hid (HL4.out.same ho5.out); have HO5 : Hid (Only (fun _ => False) w w5) := HO4.out.trans ho5.out (fun _ h => h.elim); clear ho5 HL4 HO4)
        | (go_at_call 10; (with_reducible refine (HWh.out _ HL5.out).mono ?_); rintro e w' ⟨rfl, e1⟩; subst w')
        | (go_at_call 12; (with_reducible refine (HNm.out _ HL5.out).mono ?_); rintro e w6 ⟨A6, c6, rfl, hs6, ho6⟩; have HL6 := Lib.hid (HL5.out.same ho6.out); have HS5 := Lib.hid (hs5.out.same ho6.out); have HO6 : Hid (Only (fun _ => False) w w6) := HO5.out.trans ho6.out (fun _ h => h.elim); clear ho6 HL5 HO5)
        | (go_at_call 11; (with_reducible refine (HSm.out _ _ _ _ _ hs6.out HS5.out).mono ?_); rintro e w' ⟨rfl, e1⟩; subst w'))
      go_roundw
      case rel => exact ⟨k + 1, by omega, by go_num, by rw [← HL.out]; exact HL6.out, HO6.out⟩
      case measure => simp [intOf]; omega
    · have HO4 := Lib.hid HD.out.2
      obtain rfl : m = k := by omega
      clear hlt hk HD
      by_cases hb : n < 1 ∨ 8 < n ∨ ts.all okT = false
      · obtain ⟨num, E, hnum, hE, hN⟩ : ∃ (num : Nat) (E : Value), num = newNum ts ∧ NumIs w E (num : Int) ∧ ((∃ a, E = errV a) ∧ ∀ W, Only (fun _ => False) w W → Calls Tryd.prog 13 #[.slice A n cap] W fun e w' => e = .returned (.tuple #[.pointer none, E]) ∧ Only (fun _ => False) W w') := new_wrong HE.out cap HS.out hb
        obtain ⟨⟨a, rfl⟩, hN⟩ := hN
        have HNew := Lib.hid hN
        have HNu := Lib.hid hE
        have HNum : Hid (num = newNum ts) := hnum
        have HB := Lib.hid hb
        unfold errV at HNew HNu
        clear hN hE hnum hb
        obtain ⟨w4, hw4⟩ : ∃ w4, w4 = wr := ⟨_, rfl⟩
        subst hw4
        go_wp2_with (go_at_call 13; (with_reducible refine (HNew.out _ HO4.out).mono ?_); rintro e w5 ⟨rfl, ho5⟩; have HO5 : Hid (Only (fun _ => False) w w5) := HO4.out.trans ho5 (fun _ h => h.elim); clear ho5)
        go_loop [15, 74] (fun b i => ∃ k : Nat, k ≤ n ∧ b = .int .i64 (badT (ts.take k)) ∧ i = .int .i64 (k : Int)) (fun _ i => n - (intOf i).toNat)
        case atStart => exact ⟨0, Nat.zero_le _, rfl, rfl⟩
        case round =>
          obtain ⟨k, hk, rfl, rfl⟩ := hrel
          by_cases hlt : k < n
          · obtain ⟨ad, s, rfl, hx, hc⟩ := (HS.out.same HO5.out).get hlt
            have HX := Lib.hid hx
            have HRs := Lib.hid (fun W => rRight_any W s)
            have hbd := badT_snoc hx
            clear hx
            cases ho : okT s with
            | true =>
              rw [ho] at HRs hbd
              simp only [if_true] at hbd
              have HBd := Lib.hid hbd
              clear ho hbd
              go_wp2_with (go_at_call 14; (with_reducible refine (HRs.out _).mono ?_); rintro e w' ⟨rfl, e1⟩; subst w')
              go_round
              case rel => exact ⟨k + 1, by omega, by rw [HBd.out], by go_num⟩
              case measure => simp [intOf]; omega
            | false =>
              rw [ho] at HRs hbd
              simp only [Bool.false_eq_true, if_false] at hbd
              have HBd := Lib.hid hbd
              clear ho hbd
              go_wp2_with (go_at_call 14; (with_reducible refine (HRs.out _).mono ?_); rintro e w' ⟨rfl, e1⟩; subst w')
              go_round
              case rel => exact ⟨k + 1, by omega, by rw [HBd.out], by go_num⟩
              case measure => simp [intOf]; omega
          · obtain rfl : n = k := by omega
            rw [show ts.take n = ts from by rw [← HS.out.1, List.take_length]]
            by_cases c1 : n < 1
            · have hd : decide ((n : Int) < 1) = true := by simp; omega
              obtain rfl : num = 1 := by rw [HNum.out]; unfold newNum; rw [HS.out.1, if_pos (.inl c1)]
              clear c1 hlt
              have HNu1 : Hid (NumIs w (.iface 72 (.pointer (some a))) 1) := HNu
              go_wp2_with (go_at_call 15; (with_reducible refine (HNu1.out _ HO5.out).mono ?_); rintro e w6 ⟨rfl, ho6⟩; have HO6 : Hid (Only (fun _ => False) w w6) := HO5.out.trans ho6 (fun _ h => h.elim); clear ho6)
              go_ret
              exact ⟨rfl, HO6.out⟩
            · have hd : decide ((n : Int) < 1) = false := by simp; omega
              by_cases c2 : 8 < n
              · have hd2 : decide ((8 : Int) < (n : Int)) = true := by simp; omega
                obtain rfl : num = 1 := by rw [HNum.out]; unfold newNum; rw [HS.out.1, if_pos (.inr c2)]
                clear c1 c2 hlt
                have HNu1 : Hid (NumIs w (.iface 72 (.pointer (some a))) 1) := HNu
                go_wp2_with (go_at_call 15; (with_reducible refine (HNu1.out _ HO5.out).mono ?_); rintro e w6 ⟨rfl, ho6⟩; have HO6 : Hid (Only (fun _ => False) w w6) := HO5.out.trans ho6 (fun _ h => h.elim); clear ho6)
                go_ret
                exact ⟨rfl, HO6.out⟩
              · have hd2 : decide ((8 : Int) < (n : Int)) = false := by simp; omega
                have hall : ts.all okT = false := by
                  rcases HB.out with h | h | h
                  · exact absurd h c1
                  · exact absurd h c2
                  · exact h
                obtain rfl : num = 6 := by rw [HNum.out]; unfold newNum; rw [HS.out.1, if_neg (by omega), hall]; rfl
                have hbad : badT ts = 6 := by unfold badT; rw [hall]; rfl
                rw [hbad]
                clear c1 c2 hlt hall hbad
                have HNu1 : Hid (NumIs w (.iface 72 (.pointer (some a))) 6) := HNu
                go_wp2_with (go_at_call 15; (with_reducible refine (HNu1.out _ HO5.out).mono ?_); rintro e w6 ⟨rfl, ho6⟩; have HO6 : Hid (Only (fun _ => False) w w6) := HO5.out.trans ho6 (fun _ h => h.elim); clear ho6)
                go_ret
                exact ⟨rfl, HO6.out⟩
      · have hn1 : 1 ≤ n := by omega
        have hn8 : n ≤ 8 := by omega
        have hall : ts.all okT = true := by
          cases h : ts.all okT with
          | true => rfl
          | false => exact absurd (.inr (.inr h)) hb
        have hbad : badT ts = 0 := by unfold badT; rw [hall]; rfl
        have HNew : Hid (∀ W, Only (fun _ => False) w W → Calls Tryd.prog 13 #[.slice A n cap] W fun e w' => ∃ p, e = .returned (.tuple #[.pointer (some ⟨p, 0, none⟩), .nilIface]) ∧ CycAt w' p ts 0 ∧ W.heap.size ≤ p ∧ Only (fun _ => False) W w') := fun W ho => new_ok cap (HS.out.same ho) hn1 hn8 hall
        have HNu : Hid (NumIs w .nilIface 0) := num_is HE.out (ErrV.nil es)
        have HBad := Lib.hid hbad
        have hd : decide ((n : Int) < 1) = false := by simp; omega
        have hd2 : decide ((8 : Int) < (n : Int)) = false := by simp; omega
        clear hb hall hbad
        obtain ⟨w4, hw4⟩ : ∃ w4, w4 = wr := ⟨_, rfl⟩
        subst hw4
        go_wp2_with (go_at_call 13; (with_reducible refine (HNew.out _ HO4.out).mono ?_); rintro e w5 ⟨p, rfl, hc5, hp5, ho5⟩; have HO5 : Hid (Only (fun _ => False) w w5) := HO4.out.trans ho5 (fun _ h => h.elim); have HP5 : Hid (w.heap.size ≤ p) := Nat.le_trans HO4.out.size hp5; have HC5 := Lib.hid hc5; clear ho5 hp5 hc5)
        go_loop [15, 74] (fun b i => ∃ k : Nat, k ≤ n ∧ b = .int .i64 (badT (ts.take k)) ∧ i = .int .i64 (k : Int)) (fun _ i => n - (intOf i).toNat)
        case atStart => exact ⟨0, Nat.zero_le _, rfl, rfl⟩
        case round =>
          obtain ⟨k, hk, rfl, rfl⟩ := hrel
          by_cases hlt : k < n
          · obtain ⟨ad, s, rfl, hx, hc⟩ := (HS.out.same HO5.out).get hlt
            have HX := Lib.hid hx
            have HRs := Lib.hid (fun W => rRight_any W s)
            have hbd := badT_snoc hx
            clear hx
            cases ho : okT s with
            | true =>
              rw [ho] at HRs hbd
              simp only [if_true] at hbd
              have HBd := Lib.hid hbd
              clear ho hbd
              go_wp2_with (go_at_call 14; (with_reducible refine (HRs.out _).mono ?_); rintro e w' ⟨rfl, e1⟩; subst w')
              go_round
              case rel => exact ⟨k + 1, by omega, by rw [HBd.out], by go_num⟩
              case measure => simp [intOf]; omega
            | false =>
              rw [ho] at HRs hbd
              simp only [Bool.false_eq_true, if_false] at hbd
              have HBd := Lib.hid hbd
              clear ho hbd
              go_wp2_with (go_at_call 14; (with_reducible refine (HRs.out _).mono ?_); rintro e w' ⟨rfl, e1⟩; subst w')
              go_round
              case rel => exact ⟨k + 1, by omega, by rw [HBd.out], by go_num⟩
              case measure => simp [intOf]; omega
          · obtain rfl : n = k := by omega
            rw [show ts.take n = ts from by rw [← HS.out.1, List.take_length]]
            rw [HBad.out]
            clear hlt hk
            go_wp2_with (go_at_call 15; (with_reducible refine (HNu.out _ HO5.out).mono ?_); rintro e w6 ⟨rfl, ho6⟩; have HO6 : Hid (Only (fun _ => False) w w6) := HO5.out.trans ho6 (fun _ h => h.elim); have HC6 := Lib.hid (HC5.out.same ho6); clear ho6)
            have hl := HS.out.1
            have HNx : Hid (∀ (W : World) (k : Nat), CycAt W p ts (k % (n + 1)) → Calls Tryd.prog 17 #[.pointer (some ⟨p, 0, none⟩)] W fun e w' => e = .returned (.string ⟨(ansT ts k).toArray⟩) ∧ CycAt w' p ts ((k + 1) % (n + 1)) ∧ Only (· = p) W w') := fun W k h => by
              rw [← hl] at h ⊢
              exact next_any h (by omega) (by omega)
            have HRs : Hid (∀ (W : World) (k : Nat), CycAt W p ts k → Calls Tryd.prog 16 #[.pointer (some ⟨p, 0, none⟩)] W fun e w' => e = .returned (.tuple #[]) ∧ CycAt w' p ts 0 ∧ Only (· = p) W w') := fun W k h => reset_any h
            have HAn : Hid (∀ (W : World) (k : Nat), Only (fun _ => False) w W → k ≤ 1048576 → Calls Tryd.prog 18 #[.slice A n cap, .int .i64 (k : Int)] W fun e w' => e = .returned (.string ⟨(ansT ts k).toArray⟩) ∧ w' = W) := fun W k ho hk => rAnswer_any cap (HS.out.same ho) hn1 hn8 k hk
            clear hl
            go_loopw [18, 103] (fun c i W => ∃ k j : Nat, k ≤ j ∧ j ≤ 24 ∧ c = .int .i64 (k : Int) ∧ i = .int .i64 (j : Int) ∧ Hid (CycAt W p ts (k % (n + 1)) ∧ Only (fun _ => False) w W)) (fun _ i _ => 24 - (intOf i).toNat)
            case atStart => exact ⟨0, 0, Nat.le_refl _, by omega, rfl, rfl, by rw [Nat.zero_mod]; exact HC6.out, HO6.out⟩
            case round =>
              obtain ⟨k, j, hkj, hj, rfl, rfl, HD⟩ := hrel
              by_cases hlt : j < 24
              · have hlt2 : (j : Int) < 24 := by omega
                obtain ⟨b, hb⟩ : ∃ b, ((j : Int) == r) = b := ⟨_, rfl⟩
                cases b
                · obtain ⟨s, hs⟩ : ∃ s, s = ansT ts k := ⟨_, rfl⟩
                  have HNk := Lib.hid (HNx.out wr k HD.out.1)
                  have HAk := Lib.hid (fun W ho => HAn.out W k ho (by omega))
                  rw [← hs] at HNk HAk
                  have hss : (s == s) = true := by simp
                  clear hs
                  go_wp2_with (first
                    | (go_at_call 17; (with_reducible refine HNk.out.mono ?_); rintro e w7 ⟨rfl, hc7, ho7⟩; have HC7 := Lib.hid hc7; have HO7 : Hid (Only (fun _ => False) w w7) := HD.out.2.trans ho7 (fun i hi => .inr (by have := HP5.out; omega)); clear hc7 ho7)
                    | (go_at_call 18; (with_reducible refine (HAk.out _ HO7.out).mono ?_); rintro e w' ⟨rfl, e1⟩; subst w'))
                  go_roundw
                  case rel => exact ⟨k + 1, j + 1, by omega, by omega, by go_num, by go_num, HC7.out, HO7.out⟩
                  case measure => simp [intOf]; omega
                · obtain ⟨s, hs⟩ : ∃ s, s = ansT ts 0 := ⟨_, rfl⟩
                  have HRk := Lib.hid (HRs.out wr _ HD.out.1)
                  have HN0 : Hid (∀ (W : World), CycAt W p ts 0 → Calls Tryd.prog 17 #[.pointer (some ⟨p, 0, none⟩)] W fun e w' => e = .returned (.string ⟨s.toArray⟩) ∧ CycAt w' p ts (1 % (n + 1)) ∧ Only (· = p) W w') := fun W h => by
                    rw [hs]
                    exact HNx.out W 0 (by rw [Nat.zero_mod]; exact h)
                  have HA0 : Hid (∀ W, Only (fun _ => False) w W → Calls Tryd.prog 18 #[.slice A n cap, .int .i64 0] W fun e w' => e = .returned (.string ⟨s.toArray⟩) ∧ w' = W) := fun W ho => by
                    rw [hs]
                    exact HAn.out W 0 ho (by omega)
                  have hss : (s == s) = true := by simp
                  clear hs
                  go_wp2_with (first
                    | (go_at_call 16; (with_reducible refine HRk.out.mono ?_); rintro e w7 ⟨rfl, hc7, ho7⟩; have HC7 := Lib.hid hc7; have HO7 : Hid (Only (fun _ => False) w w7) := HD.out.2.trans ho7 (fun i hi => .inr (by have := HP5.out; omega)); clear hc7 ho7)
                    | (go_at_call 17; (with_reducible refine (HN0.out _ HC7.out).mono ?_); rintro e w8 ⟨rfl, hc8, ho8⟩; have HC8 := Lib.hid hc8; have HO8 : Hid (Only (fun _ => False) w w8) := HO7.out.trans ho8 (fun i hi => .inr (by have := HP5.out; omega)); clear hc8 ho8)
                    | (go_at_call 18; (with_reducible refine (HA0.out _ HO8.out).mono ?_); rintro e w' ⟨rfl, e1⟩; subst w'))
                  go_roundw
                  case rel => exact ⟨1, j + 1, by omega, by omega, rfl, by go_num, HC8.out, HO8.out⟩
                  case measure => simp [intOf]; omega
              · obtain rfl : j = 24 := by omega
                go_wp2
                go_ret
                exact ⟨rfl, HD.out.2⟩

theorem ttypeCycles_walk (W : World) {A B : Option Addr} {n cap m cb f0 f1 : Nat} {H : Type} {enc : TypeId × Value → H} {x0 x1 : DataW H × List MemPlace} (h0 : DataW.trod enc Tryd.prog W 0 (fun _ => true) true f0 22 [.slice A n cap] = some x0) (h1 : DataW.trod enc Tryd.prog W 0 (fun _ => true) true f1 22 [.slice B m cb] = some x1) (r : Int) {es : List Addr} (hes : ErrsAt W es) :
    Calls Tryd.prog 3 #[.slice A n cap, .slice B m cb, .int .i64 r] W (Fine W) := by
  obtain ⟨ts, hs, hnc, hcap, _⟩ := opened_texts h0
  obtain ⟨us, hu, hmc, hcb, _⟩ := opened_texts h1
  cases h : (fewT ts 20 60 && fewT us 30 60) with
  | false => exact tcycles_many W hs hu (by omega) (by omega) r h
  | true =>
    rw [Bool.and_eq_true] at h
    exact tcycles_few hes hs hu r hmc h.1 h.2
end Go.Proofs.YtjdfdgmfkpdfbaaDoor
