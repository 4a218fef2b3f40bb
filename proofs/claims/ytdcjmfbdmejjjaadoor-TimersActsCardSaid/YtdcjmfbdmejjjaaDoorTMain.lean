/- TimersActs, walked: it answers true, whatever it is called with. -/
import Derived.Test.YtdcjmfbdmejjjaaDoorTAlive
import Derived.Test.YtdcjmfbdmejjjaaDoorFinish
import Derived.Deep.RegionHeld3
import Derived.BigQuiet
namespace Go.Proofs.YtdcjmfbdmejjjaaDoor
open Go Go.RowKit
set_option maxRecDepth 100000

theorem tacts_many (w : World) (a : Option Addr) (len cap : Nat) (hc : len ≤ 9223372036854775807) (h : 60 < len) :
    Calls Tryd.prog 3 #[.slice a len cap] w (Fine w) := by
  go_enter Tryd.func3, Tryd.ntmps3
  go_wp2_with fail
  refine (talive_any _).mono ?_
  rintro e w1 ⟨rfl, ho1⟩
  go_wp2
  go_ret
  exact ⟨rfl, ho1⟩

/-- The two agree. -/
def TActsRel (w : World) (p m : Nat) (W : World) : Prop :=
  ∃ now A c ts A' c' l, 0 ≤ now ∧ now ≤ 1099511627776 ∧ IsTm 0 W p now A c ts ∧ Good ts ∧ IsRf W m now A' c' l ∧ l.Perm ts ∧ Only (fun _ => False) w W

theorem TActsRel.same {w W W' : World} {p m : Nat} (h : TActsRel w p m W) (ho : Only (fun _ => False) W W') : TActsRel w p m W' := by
  obtain ⟨now, A, c, ts, A', c', l, h0, h1, ht, hg, hf, hp, hO⟩ := h
  exact ⟨now, A, c, ts, A', c', l, h0, h1, ht.same ho, hg, hf.same ho, hp, hO.trans ho (fun i hi => hi.elim)⟩
theorem tick_good {ts : List Tm} (h : Good ts) (now n : Int) : Good (tickList now n ts) := by
  unfold tickList
  split
  · exact h
  · exact h.filter _

section
variable {B p m c c' : Nat} {w w' : World} {now : Int} {A A' : Option Addr} {ts l : List Tm}
/-- What turns the one leaves the other. -/
theorem IsRf.beside (h : IsRf w m now A' c' l) {now' : Int} (ht : IsTm B w p now' A c ts) (ho : Only (· = p) w w') : IsRf w' m now A' c' l :=
  h.only ho (fun e => h.head.ne ht.head (by decide) e) (fun q hq e => own_ne h.row ht.head (by decide) q hq e)
theorem IsTm.beside {now' : Int} {ts' : List Tm} (ht : IsTm B w p now' A c ts') (h : IsRf w m now A' c' l) (ho : Only (· = m) w w') : IsTm B w' p now' A c ts' :=
  ht.only ho (fun e => ht.head.ne h.head (by decide) e) (fun q hq e => own_ne ht.row h.head (by decide) q hq e)
end

set_option maxHeartbeats 40000000 in
theorem tacts_ok (w : World) (a : Option Addr) (len cap : Nat) (l : List TAct) (ha : TActs w a len l) (hn : len ≤ 60) {es : List Addr} (hes : ErrsAt w es) :
    Calls Tryd.prog 3 #[.slice a len cap] w (Fine w) := by
  have b0 : decide ((60 : Int) < (len : Int)) = false := by simp; omega
  have HA := Lib.hid ha
  have HE := Lib.hid hes
  clear ha hes
  go_enter Tryd.func3, Tryd.ntmps3
  go_wp2_with fail
  refine (talive_any _).mono ?_
  rintro e w1 ⟨rfl, ho1⟩
  have HO1 := Lib.hid ho1
  clear ho1
  go_wp2_with fail
  refine (tmNew w1).mono ?_
  rintro e w2 ⟨rfl, h2, ho2⟩
  obtain ⟨p, hp⟩ : ∃ p, p = w1.heap.size := ⟨_, rfl⟩
  rw [← hp] at h2 ⊢
  have hwp : w.heap.size ≤ p := by have := HO1.out.size; omega
  have hpl := h2.head.lt
  have HR0 := Lib.hid (show TActsRel w p w2.heap.size (w2.alloc (.cells #[.int .i64 0, .slice none 0 0] 29)) from
    ⟨0, none, 0, [], none, 0, [], by omega, by omega, h2.same ((Only.refl _ w2).alloc _), Good.nil, ⟨Blk.new w2 _ [.int .i64 0, .slice none 0 0], own_nil _ _ _ _, by simp⟩, List.Perm.refl _, (HO1.out.trans ho2 (fun i hi => hi.elim)).alloc _⟩)
  have hwm : w.heap.size ≤ w2.heap.size := (HO1.out.trans ho2 (fun i hi => hi.elim)).size
  clear h2 ho2 HO1 hp
  go_wp2_with fail
  obtain ⟨W3, hW3⟩ : ∃ W3, W3 = w2.alloc (.cells #[.int .i64 0, .slice none 0 0] 29) := ⟨_, rfl⟩
  rw [← hW3]
  have HR1 := Lib.hid (show TActsRel w p w2.heap.size W3 by rw [hW3]; exact HR0.out)
  have hpm : p < w2.heap.size := hpl
  clear hW3 HR0 hpl b0
  generalize w2.heap.size = m at *
  go_loopw [33] (fun i W => ∃ k : Nat, k ≤ len ∧ i = .int .i64 (k : Int) ∧ Hid (TActsRel w p m W)) (fun i _ => len - (intOf i).toNat)
  case atStart => exact ⟨0, Nat.zero_le _, rfl, HR1.out⟩
  case round =>
    clear HR1
    obtain ⟨k, hk, rfl, hr⟩ := hrel
    obtain ⟨now, A, c, ts, A', c', lr, h0, h1, ht, hg, hf, hp, ho⟩ := hr.out
    have HT := Lib.hid ht
    have HG := Lib.hid hg
    have HF := Lib.hid hf
    have HP := Lib.hid hp
    have HO := Lib.hid ho
    clear hr ht hg hf hp ho
    by_cases hlt : k < len
    · obtain ⟨x, hx⟩ : ∃ x, l[k]? = some x := ⟨_, List.getElem?_eq_getElem (by rw [HA.out.1]; exact hlt)⟩
      obtain ⟨b, off, rfl, hb, hcell, hx63⟩ := (HA.out.only HO.out).2 k x hx
      have d0 := hcell 0 _ rfl
      have d1 := hcell 1 _ rfl
      have d2 := hcell 2 _ rfl
      simp only [Nat.add_zero] at d0
      have hpN : p < wr.heap.size := HT.out.head.lt
      have hmN : m < wr.heap.size := HF.out.head.lt
      have Hal := Lib.hid ((Only.refl (fun _ => False) wr).alloc (.cells #[.int .i64 x.1, .int .i64 x.2.1, .int .i64 x.2.2] 31))
      have HN := Lib.hid (Blk.new wr 31 (tvals x))
      clear hx hcell
      have q1 : (wr.alloc (.cells #[.int .i64 x.1, .int .i64 x.2.1, .int .i64 x.2.2] 31)).cell? ⟨wr.heap.size, 1, none⟩ = some (.int .i64 x.2.1) := by
        have := HN.out.cell 1
        exact this
      have q2 : (wr.alloc (.cells #[.int .i64 x.1, .int .i64 x.2.1, .int .i64 x.2.2] 31)).cell? ⟨wr.heap.size, 2, none⟩ = some (.int .i64 x.2.2) := by
        have := HN.out.cell 2
        exact this
      have HT0 := Lib.hid (HT.out.same Hal.out)
      have HF0 := Lib.hid (HF.out.same Hal.out)
      have HO0 := Lib.hid (HO.out.trans Hal.out (fun i hi => hi.elim))
      have hz1 := HN.out.lt
      have Q1 := Lib.hid q1
      have Q2 := Lib.hid q2
      clear HN Hal HT HF HO q1 q2
      have hcases : x.1 = 0 ∨ x.1 = 1 ∨ x.1 = 2 ∨ (x.1 ≠ 0 ∧ x.1 ≠ 1 ∧ x.1 ≠ 2) := by omega
      rcases hcases with hk0 | hk0 | hk0 | ⟨hk0, hk1, hk2⟩
      focus
        have k0 : (x.1 == 0) = true := by rw [hk0]; rfl
        have k1 : (x.1 == 1) = false := by rw [hk0]; rfl
        have k2 : (x.1 == 2) = false := by rw [hk0]; rfl
        clear hk0
        go_wp2_with fail
        have q1 := Q1.out
        have q2 := Q2.out
        clear d0 d1 d2 Q1 Q2
        generalize wr.alloc (.cells #[.int .i64 x.1, .int .i64 x.2.1, .int .i64 x.2.2] 31) = W0 at *
        generalize wr.heap.size = N at *
        have HC1 := Lib.hid (set_any (w := W0.drew) (((HE.out.only HO0.out.drew)).in_ (by omega)) (HT0.out.same (Only.refl _ W0).drew) HG.out x.2.1 x.2.2)
        go_region_held3 (fun W => W.cell? ⟨N, 1, none⟩ = some (.int .i64 x.2.1) ∧ W.cell? ⟨N, 2, none⟩ = some (.int .i64 x.2.2))
          (first | exact ⟨q1, q2⟩ | exact ⟨q16, q26⟩ | exact ⟨q15, q25⟩ | exact ⟨q14, q24⟩)
          (first
            | (go_at_call 8; (with_reducible refine HC1.out.mono ?_); rintro e w4 ⟨v4, A4, c4, t4, rfl, hv4, ht4, hg4, hp4, ho4⟩; have Ht4 := Lib.hid ht4; have Hg4 := Lib.hid hg4; have Hp4 := Lib.hid hp4; have Ho4 := Lib.hid ho4; have q14 := ho4.cellv (show W0.drew.cell? _ = _ from q1) (by show ¬ N = p; omega); have q24 := ho4.cellv (show W0.drew.cell? _ = _ from q2) (by show ¬ N = p; omega); have HO4 := Lib.hid ((HO0.out.drew).trans ho4 (fun i hi => .inr (by omega))); have HF4 := Lib.hid ((HF0.out.same (Only.refl _ W0).drew).beside (HT0.out.same (Only.refl _ W0).drew) ho4); have HC2 := Lib.hid (num_any (HE.out.only HO4.out) hv4); clear hv4 ht4 hg4 hp4 ho4)
            | (go_at_call 7; (with_reducible refine HC2.out.mono ?_); rintro e w5 ⟨rfl, ho5⟩; have Ho5 := Lib.hid ho5; have q15 := ho5.cellv q14 (fun h => h); have q25 := ho5.cellv q24 (fun h => h); have HC3 := Lib.hid (rset_any (HF4.out.same ho5) HP.out HG.out x.2.1 x.2.2); clear ho5)
            | (go_at_call 9; (with_reducible refine HC3.out.mono ?_); rintro e w6 ⟨A6, c6, l6, rfl, hf6, hp6, ho6⟩; have q16 := ho6.cellv q15 (by show ¬ N = m; omega); have q26 := ho6.cellv q25 (by show ¬ N = m; omega); have HT6 := Lib.hid (show TActsRel w p m w6 from ⟨now, A4, c4, t4, A6, c6, l6, h0, h1, (Ht4.out.same Ho5.out).beside (HF4.out.same Ho5.out) ho6, Hg4.out, hf6, hp6.trans Hp4.out.symm, (HO4.out.trans Ho5.out (fun i hi => hi.elim)).trans ho6 (fun i hi => .inr (by omega))⟩); clear hf6 hp6 ho6))
        have bs : (((setNum now ts x.2.1 x.2.2 : Nat) : Int) != ((setNum now ts x.2.1 x.2.2 : Nat) : Int)) = false := by simp
        clear q14 q24 q15 q25 q26 HC1 HC2 HC3 Ht4 Hg4 Hp4 Ho4 HO4 HF4 Ho5 q1 q2 HT0 HF0 HO0
        generalize ((setNum now ts x.2.1 x.2.2 : Nat) : Int) = sn at *
        go_wp2_with fail
        clear bs
      rotate_left
      focus
        have k0 : (x.1 == 0) = false := by rw [hk0]; rfl
        have k1 : (x.1 == 1) = true := by rw [hk0]; rfl
        have k2 : (x.1 == 2) = false := by rw [hk0]; rfl
        clear hk0
        go_wp2_with fail
        have q1 := Q1.out
        have q2 := Q2.out
        clear d0 d1 d2 Q1 Q2
        generalize wr.alloc (.cells #[.int .i64 x.1, .int .i64 x.2.1, .int .i64 x.2.2] 31) = W0 at *
        generalize wr.heap.size = N at *
        have HC1 := Lib.hid (clear_any (w := W0.drew) (HT0.out.same (Only.refl _ W0).drew) x.2.1)
        go_region_held3 (fun W => W.cell? ⟨N, 1, none⟩ = some (.int .i64 x.2.1))
          (first | exact q1 | exact q16 | exact q14)
          (first
            | (go_at_call 10; (with_reducible refine HC1.out.mono ?_); rintro e w4 ⟨A4, c4, rfl, ht4, ho4⟩; have Ht4 := Lib.hid ht4; have Ho4 := Lib.hid ho4; have q14 := ho4.cellv (show W0.drew.cell? _ = _ from q1) (by show ¬ N = p; omega); have HO4 := Lib.hid ((HO0.out.drew).trans ho4 (fun i hi => .inr (by omega))); have HF4 := Lib.hid ((HF0.out.same (Only.refl _ W0).drew).beside (HT0.out.same (Only.refl _ W0).drew) ho4); have HC3 := Lib.hid (rclear_any HF4.out HP.out x.2.1); clear ht4 ho4)
            | (go_at_call 11; (with_reducible refine HC3.out.mono ?_); rintro e w6 ⟨A6, c6, l6, rfl, hf6, hp6, ho6⟩; have q16 := ho6.cellv q14 (by show ¬ N = m; omega); have HT6 := Lib.hid (show TActsRel w p m w6 from ⟨now, A4, c4, _, A6, c6, l6, h0, h1, Ht4.out.beside HF4.out ho6, HG.out.filter _, hf6, hp6, HO4.out.trans ho6 (fun i hi => .inr (by omega))⟩); clear hf6 hp6 ho6))
        clear q14 HC1 HC3 Ht4 Ho4 HO4 HF4 q1 q2 HT0 HF0 HO0
        obtain ⟨sb, hsb⟩ : ∃ sb, sb = ts.any fun y => y.1 == x.2.1 := ⟨_, rfl⟩
        rw [← hsb]
        have bs : (sb != sb) = false := by simp
        clear hsb
        go_wp2_with fail
        clear bs
      rotate_left
      focus
        have k0 : (x.1 == 0) = false := by rw [hk0]; rfl
        have k1 : (x.1 == 1) = false := by rw [hk0]; rfl
        have k2 : (x.1 == 2) = true := by rw [hk0]; rfl
        clear hk0
        go_wp2_with fail
        have q1 := Q1.out
        have q2 := Q2.out
        clear d0 d1 d2 Q1 Q2
        generalize wr.alloc (.cells #[.int .i64 x.1, .int .i64 x.2.1, .int .i64 x.2.2] 31) = W0 at *
        generalize wr.heap.size = N at *
        have HC1 := Lib.hid (tick_any (HE.out.only HO0.out |>.in_ (by omega)) HT0.out h0 h1 x.2.2)
        refine HC1.out.mono ?_
        rintro e w4 ⟨K4, kc4, v4, A4, c4, rfl, hv4, hk4, ht4, ho4⟩
        have q14 := ho4.cellv q1 (by show ¬ N = p; omega)
        have q24 := ho4.cellv q2 (by show ¬ N = p; omega)
        have HF4 := Lib.hid (HF0.out.beside HT0.out ho4)
        have HO4 := Lib.hid (HO0.out.trans ho4 (fun i hi => .inr (by omega)))
        have HV4 := Lib.hid hv4
        have HK4 := Lib.hid hk4
        have HT4 := Lib.hid ht4
        have HC2 := Lib.hid (rtick_any HF4.out HP.out HG.out h0 h1 x.2.2 hx63)
        have hkl4 := own_le hk4
        clear q1 q2 hv4 hk4 ht4 ho4 HC1
        go_wp2_with fail
        refine HC2.out.mono ?_
        rintro e w5 ⟨K5, kc5, A5, c5, l5, rfl, hk5, hf5, hp5, ho5⟩
        have q15 := ho5.cellv q14 (by show ¬ N = m; omega)
        have HK5 := Lib.hid hk5
        have HK45 := Lib.hid (own_only HK4.out ho5 (fun q hq => own_ne HK4.out HF4.out.head (by decide) q hq))
        have HO5 := Lib.hid (HO4.out.trans ho5 (fun i hi => .inr (by omega)))
        have hnow : 0 ≤ tickNow now x.2.2 ∧ tickNow now x.2.2 ≤ 1099511627776 := by
          unfold tickNow tickBad
          split
          · omega
          · rename_i hb
            simp only [decide_eq_true_eq] at hb
            omega
        have HR5 := Lib.hid (show TActsRel w p m w5 from ⟨_, A4, c4, _, A5, c5, l5, hnow.1, hnow.2, HT4.out.beside HF4.out ho5, tick_good HG.out now x.2.2, hf5, hp5, HO5.out⟩)
        have HC3 := Lib.hid (num_any (HE.out.only HO5.out) HV4.out)
        have hkl5 := own_le hk5
        clear q14 q24 hk5 hf5 hp5 ho5 HC2 hnow HT4 HF4 HO4 HK4 HT0 HF0 HO0
        generalize (tickOut now x.2.2 ts).length = on at *
        go_wp2_with fail
        refine HC3.out.mono ?_
        rintro e w6 ⟨rfl, ho6⟩
        have q16 := ho6.cellv q15 (fun h => h)
        have HT6 := Lib.hid (show TActsRel w p m w6 from HR5.out.same ho6)
        have HC4 := Lib.hid (same_ints (own_same HK45.out ho6) (own_same HK5.out ho6))
        have bs : (((tickNum now x.2.2 : Nat) : Int) != ((tickNum now x.2.2 : Nat) : Int)) = false := by simp
        generalize ((tickNum now x.2.2 : Nat) : Int) = sn at *
        clear q15 ho6 HC3 HR5 HO5 HK5 HK45 HV4
        go_wp2_with fail
        refine HC4.out.mono ?_
        rintro e w7 ⟨rfl, rfl⟩
        clear HC4
        go_wp2_with fail
        clear bs
      rotate_left
      focus
        have k0 : (x.1 == 0) = false := by simpa using hk0
        have k1 : (x.1 == 1) = false := by simpa using hk1
        have k2 : (x.1 == 2) = false := by simpa using hk2
        clear hk0 hk1 hk2
        go_wp2_with fail
        have q1 := Q1.out
        have q2 := Q2.out
        clear d0 d1 d2 Q1 Q2
        generalize wr.alloc (.cells #[.int .i64 x.1, .int .i64 x.2.1, .int .i64 x.2.2] 31) = W0 at *
        generalize wr.heap.size = N at *
        have q16 := q1
        have HT6 := Lib.hid (show TActsRel w p m W0 from ⟨now, A, c, ts, A', c', lr, h0, h1, HT0.out, HG.out, HF0.out, HP.out, HO0.out⟩)
        clear q1 q2 HT0 HF0 HO0
      all_goals
        clear h0 h1 HG HP
        obtain ⟨nowt, At, ct, tst, At', ct', lt, h0, h1, ht, hg, hf, hp, ho⟩ := HT6.out
        have HTt := Lib.hid ht
        have HFt := Lib.hid hf
        have HOt := Lib.hid ho
        have HGt := Lib.hid hg
        have HPt := Lib.hid hp
        have C := Lib.hid (next_any ht)
        clear ht hf ho hg hp HT6
        refine C.out.mono ?_
        rintro e w8 ⟨rfl, ho8⟩
        have HO8 := Lib.hid ho8
        have C2 := Lib.hid (rnext_any (HFt.out.same ho8) HPt.out HGt.out)
        have q18 := ho8.cellv q16 (fun h => h)
        clear ho8 C q16
        obtain ⟨v1, hv1⟩ : ∃ v1, v1 = n1 tst := ⟨_, rfl⟩
        obtain ⟨v2, hv2⟩ : ∃ v2, v2 = n2 tst := ⟨_, rfl⟩
        obtain ⟨v3, hv3⟩ : ∃ v3, v3 = n3 tst := ⟨_, rfl⟩
        obtain ⟨v4, hv4⟩ : ∃ v4, v4 = at1 tst x.2.1 := ⟨_, rfl⟩
        obtain ⟨v5, hv5⟩ : ∃ v5, v5 = at2 tst x.2.1 := ⟨_, rfl⟩
        rw [← hv1, ← hv2, ← hv3] at C2
        rw [← hv1, ← hv2, ← hv3]
        have HV4 := Lib.hid hv4
        have HV5 := Lib.hid hv5
        clear hv1 hv2 hv3 hv4 hv5
        go_wp2_with fail
        refine C2.out.mono ?_
        rintro e w9 ⟨rfl, ho9⟩
        have HO9 := Lib.hid (HO8.out.trans ho9 (fun i hi => hi.elim))
        have q19 := ho9.cellv q18 (fun h => h)
        have C3 := at_any (HTt.out.same HO9.out) x.2.1
        rw [← HV4.out, ← HV5.out] at C3
        have HC3 := Lib.hid C3
        clear ho9 C2 q18 HO8 C3
        go_wp2_with fail
        refine HC3.out.mono ?_
        rintro e w10 ⟨rfl, ho10⟩
        have HO10 := Lib.hid (HO9.out.trans ho10 (fun i hi => hi.elim))
        have q110 := ho10.cellv q19 (fun h => h)
        have C4 := rat_any (HFt.out.same HO10.out) HPt.out HGt.out x.2.1
        rw [← HV4.out, ← HV5.out] at C4
        have HC4 := Lib.hid C4
        clear ho10 HC3 q19 HO9 C4
        go_wp2_with fail
        refine HC4.out.mono ?_
        rintro e w11 ⟨rfl, ho11⟩
        have HO11 := Lib.hid (HO10.out.trans ho11 (fun i hi => hi.elim))
        have ht11 := HTt.out.same HO11.out
        have hf11 := HFt.out.same HO11.out
        have CN := Lib.hid (fun n => quietly (tmNow (ht11.same ((Only.refl (fun _ => False) w11).drewN n))))
        have CL := Lib.hid (fun n => quietly (tmLen (ht11.same ((Only.refl (fun _ => False) w11).drewN n))))
        have m0 := hf11.c0
        have m1 := hf11.c1
        have hlen := HPt.out.length_eq
        rw [hlen] at m1
        have hle := own_le hf11.row
        rw [hlen] at hle
        have HT11 := Lib.hid ht11
        have HF11 := Lib.hid hf11
        have x1 : (v1 != v1) = false := by simp
        have x2 : (v2 != v2) = false := by simp
        have x3 : (v3 != v3) = false := by simp
        have x4 : (v4 != v4) = false := by simp
        have x5 : (v5 != v5) = false := by simp
        have x6 : (nowt != nowt) = false := by simp
        clear ho11 HC4 q110 HO10 ht11 hf11 hlen
        go_wp2_with fail
        go_quiet ((first | (go_at_call 19; exact Calls.quiet_of (CN.out _)) | (go_at_call 20; exact Calls.quiet_of (CL.out _))))
        go_wp2_with fail
        go_roundw
        case rel => exact ⟨k + 1, by omega, by go_num, nowt, At, ct, tst, At', ct', lt, h0, h1, HT11.out.same ((Only.refl _ w11).drewN _), HGt.out, HF11.out.same ((Only.refl _ w11).drewN _), HPt.out, (HOt.out.trans HO11.out (fun i hi => hi.elim)).drewN _⟩
        case measure => simp [intOf]; omega
    · go_wp2
      go_ret
      exact ⟨rfl, HO.out⟩

theorem timersActs_walk (w : World) {H : Type} {enc : TypeId × Value → H} {fuel : Nat} {a : Option Addr} {len cap : Nat} {x : DataW H × List MemPlace} (hf : DataW.trod enc Tryd.prog w 0 (fun _ => true) true fuel 22 [.slice a len cap] = some x) {es : List Addr} (hes : ErrsAt w es) :
    Calls Tryd.prog 3 #[.slice a len cap] w (Fine w) := by
  obtain ⟨hlc, hcap, l, hl⟩ := open_tacts hf
  by_cases hn : 60 < len
  · exact tacts_many w a len cap (by omega) hn
  · exact tacts_ok w a len cap l hl (by omega) hes
end Go.Proofs.YtdcjmfbdmejjjaaDoor
