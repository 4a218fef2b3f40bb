/- SlcActs, walked. -/
import Derived.Test.YtojnhheeholaeaaDoorScRefNew
import Derived.Test.YtojnhheeholaeaaDoorScRefAsk
import Derived.Test.YtojnhheeholaeaaDoorScAlive
import Derived.Test.YtojnhheeholaeaaDoorScOpen
import Derived.Test.YtojnhheeholaeaaDoorScWaits
import Derived.Deep.RegionHeld3
namespace Go.Proofs.YtojnhheeholaeaaDoor
open Go Go.ChangeShapes Go.WideShapes Go.ChangeAt Go.RowKit
set_option maxRecDepth 100000
set_option maxHeartbeats 4000000

theorem size_act : (Tryd.prog.info? 36).map (·.size) = some 5 := by kernel_rfl
theorem eq_rtri (W : World) (f l v : Int) (a : Bool) : (Op.equalIn 10000 41 (.agg #[.int .i64 f, .int .i64 l, .int .i64 v, .bool a]) (.agg #[.int .i64 f, .int .i64 l, .int .i64 v, .bool a])).run Tryd.prog W = .ok true W := by
  have h2 : (Op.equalIn 9999 39 (.agg #[.int .i64 l, .int .i64 v]) (.agg #[.int .i64 l, .int .i64 v])).run Tryd.prog W = .ok true W := by
    rw [show (9999 : Nat) = 9998 + 1 from rfl, run_equalIn_struct W 9998 _ _ _ (by kernel_rfl) (by kernel_rfl)]
    have u3 : Tryd.prog.underlying 3 = some (.int .i64) := Tryd.underlying3
    simp only [Program.fieldsOf, Tryd.underlying39, Op.eqFields]
    simp [go_sem, u3, Result.andThen]
  rw [show (10000 : Nat) = 9999 + 1 from rfl, run_equalIn_struct W 9999 _ _ _ (by kernel_rfl) (by kernel_rfl)]
  have u3 : Tryd.prog.underlying 3 = some (.int .i64) := Tryd.underlying3
  have u4 : Tryd.prog.underlying 4 = some .bool := Tryd.underlying4
  have p2 : ∀ W, (part 39 #[.int .i64 f, .int .i64 l, .int .i64 v, .bool a] 1).run Tryd.prog W = .ok (.agg #[.int .i64 l, .int .i64 v]) W := fun W => by kernel_rfl
  simp only [Program.fieldsOf, Tryd.underlying41, Op.eqFields]
  simp [go_sem, u3, u4, Result.andThen, p2, h2]
theorem guard_rtri : Tryd.prog.eqGuardType Tryd.prog.depth 41 = false := by kernel_rfl
theorem same_rset (W : World) (a b : Int) : (Op.equalIn 10000 39 (.agg #[.int .i64 a, .int .i64 b]) (.agg #[.int .i64 a, .int .i64 b])).run Tryd.prog W = .ok true W := by
  rw [eq_rset]
  simp
theorem num_neg {w : World} {es : List Addr} (h : ErrsAt w es) {E : Value} {k : Nat} (hv : ErrV es E k) : ∀ W, Only (fun _ => False) w W → Calls Tryd.prog 15 #[E] W fun e w' => e = .returned (.int .i64 (k : Int)) ∧ Only (fun _ => False) W w' := fun _ ho => num_any (h.only ho) hv

theorem acts_long (w : World) {A A' : Option Addr} {n c m c' : Nat} (h : 40 < n ∨ 60 < m) : Calls Tryd.prog 3 #[.slice A n c, .slice A' m c'] w (Fine w) := by
  have HA := Lib.hid (fun W => sc_alive W)
  have hh : decide ((40 : Int) < (n : Int)) = true ∨ (decide ((40 : Int) < (n : Int)) = false ∧ decide ((60 : Int) < (m : Int)) = true) := by
    by_cases h1 : 40 < n
    · exact .inl (by simp; omega)
    · exact .inr ⟨by simp; omega, by simp; omega⟩
  clear h
  rcases hh with hd | ⟨hd, hd2⟩
  all_goals
    go_enter Tryd.func3, Tryd.ntmps3
    go_wp2_with (go_at_call 6; refine (HA.out _).mono ?_; rintro e w1 ⟨rfl, ho1⟩; have HO1 := Lib.hid ho1; clear ho1)
    go_ret
    exact ⟨rfl, HO1.out⟩

/-- Both sides, in memory. -/
structure AAt (w W : World) (p r : Nat) (S : Sd) : Prop where
  sc : SdAt W p S
  rf : RfAt W r S
  only : Only (fun _ => False) w W
theorem AAt.same {w W W' : World} {p r : Nat} {S : Sd} (h : AAt w W p r S) (ho : Only (fun _ => False) W W') : AAt w W' p r S := ⟨h.sc.same ho, h.rf.same ho, h.only.trans ho (fun _ h => h.elim)⟩

theorem acts_ok (w : World) {es : List Addr} (hes : ErrsAt w es) {A A' : Option Addr} {n c m c' : Nat} {l : List Se} {acs : List Ac} (hs : StAt w A n l) (hnc : n ≤ c) (hc : c ≤ 9223372036854775807) (ha : AcAt w A' m acs) (hn : n ≤ 40) (hm : m ≤ 60) :
    Calls Tryd.prog 3 #[.slice A n c, .slice A' m c'] w (Fine w) := by
  have HA := Lib.hid (fun W => sc_alive W)
  have HN : Hid (∀ W, Only (fun _ => False) w W → Calls Tryd.prog 7 #[.slice A n c] W fun e w' => ∃ p, e = .returned (.pointer (some ⟨p, 0, none⟩)) ∧ SdAt w' p (newS l) ∧ W.heap.size ≤ p ∧ Only (fun _ => False) W w') := fun W ho => new_any (hs.same ho) hnc hc
  have HSt : Hid (∀ W, Only (fun _ => False) w W → _) := fun W (ho : Only (fun _ => False) w W) => settings_any (c := c) (hs.same ho) (by omega)
  have HRn : Hid (∀ W (B : Option Addr) (cb : Nat), StAt W B n l → n ≤ cb → cb ≤ 9223372036854775807 → _) := fun W B cb (h : StAt W B n l) (h1 : n ≤ cb) (h2 : cb ≤ 9223372036854775807) => rnew_any h h1 h2
  have HAc := Lib.hid ha
  have HE := Lib.hid hes
  have hd : decide ((40 : Int) < (n : Int)) = false := by simp; omega
  have hd2 : decide ((60 : Int) < (m : Int)) = false := by simp; omega
  clear hs hnc hc ha hes
  go_enter Tryd.func3, Tryd.ntmps3
  go_wp2_with (first
    | (go_at_call 6; refine (HA.out _).mono ?_; rintro e w1 ⟨rfl, ho1⟩; have HO1 := Lib.hid ho1; clear ho1)
    | (go_at_call 7; refine (HN.out _ HO1.out).mono ?_; rintro e w2 ⟨p, rfl, hs2, hp2, ho2⟩; have HS2 := Lib.hid hs2; have HP2 : Hid (w1.heap.size ≤ p) := hp2; have HO2 : Hid (Only (fun _ => False) w w2) := HO1.out.trans ho2 (fun _ h => h.elim); clear hs2 hp2 ho2)
    | (go_at_call 9; refine (HSt.out _ HO2.out).mono ?_; rintro e w3 ⟨B3, c3, rfl, hs3, hn3, hc3, ho3⟩; have HT3 := Lib.hid hs3; have HS3 := Lib.hid (HS2.out.same ho3); have HO3 : Hid (Only (fun _ => False) w w3) := HO2.out.trans ho3 (fun _ h => h.elim); clear hs3 ho3)
    | (go_at_call 8; refine (HRn.out _ _ _ HT3.out hn3 hc3).mono ?_; rintro e w4 ⟨r, rfl, hs4, hp4, ho4⟩; have HA4 : Hid (AAt w w4 p r (newS l)) := ⟨HS3.out.same ho4, hs4, HO3.out.trans ho4 (fun _ h => h.elim)⟩; have HR4 : Hid (w3.heap.size ≤ r) := hp4; clear hs4 hp4 ho4)
    | fail)
  have hpr : p ≠ r := by have := HS3.out.lt; have := HR4.out; omega
  have HPw : Hid (w.heap.size ≤ p) := Nat.le_trans HO1.out.size HP2.out
  have HRw : Hid (w.heap.size ≤ r) := Nat.le_trans HO3.out.size HR4.out
  clear HS2 HS3 HT3 HO1 HO2 HO3 HP2 HR4 hn3 hc3 HA HN HSt HRn
  go_loopw [38] (fun i W => ∃ k : Nat, k ≤ m ∧ i = .int .i64 (k : Int) ∧ Hid (∃ S, AAt w W p r S)) (fun i _ => m - (intOf i).toNat)
  case atStart => exact ⟨0, Nat.zero_le _, rfl, newS l, HA4.out⟩
  case round =>
    obtain ⟨j, hj, rfl, hrel⟩ := hrel
    obtain ⟨S, hS⟩ := hrel.out
    have HAr := Lib.hid hS
    clear hrel hS
    by_cases hlt : j < m
    · have hlt2 : (j : Int) < (m : Int) := by omega
      obtain ⟨x, hx⟩ : ∃ x, acs[j]? = some x := ⟨_, List.getElem?_eq_getElem (by rw [HAc.out.1]; exact hlt)⟩
      obtain ⟨b, off, rfl, hbl, hrg⟩ := (HAc.out.same HAr.out.only).2 j x hx
      have HRg := Lib.hid hrg
      obtain ⟨ak, af, ⟨al, av⟩, aa⟩ := x
      clear hrg hx
      obtain ⟨X, hX⟩ : ∃ X, X = wr.heap.size := ⟨_, rfl⟩
      by_cases hk0 : ak = 0
      · subst hk0
        obtain ⟨S', ⟨uf, ⟨ul, uv⟩, ua⟩, is, hu⟩ : ∃ S' u is, hearS S ⟨af, ⟨al, av⟩, aa⟩ = (S', u, is) := ⟨_, _, _, rfl⟩
        have HP := Lib.hid (fun W (h : SdAt W p S) => hear_any h ⟨af, ⟨al, av⟩, aa⟩)
        have HQ := Lib.hid (fun W (h : RfAt W r S) => rhear_any h ⟨af, ⟨al, av⟩, aa⟩)
        rw [hu] at HP HQ
        clear hu
        have HOf := Lib.hid (fun W => of_any W ⟨af, ⟨al, av⟩, aa⟩)
        have HOu := Lib.hid (fun W => of_any W ⟨uf, ⟨ul, uv⟩, ua⟩)
        have heq : ∀ W, _ := fun W => eq_rtri W uf ul uv ua
        have hgr := guard_rtri
        go_wp2_with (first
          | ((with_reducible show wpList _ _ _ (⟨some 41, _, _, _, _, _⟩ :: _) _ _); refine wpList_load_mid rfl 36 _ rfl b (off + j * 5) rfl (Ac.cs ⟨0, ⟨af, ⟨al, av⟩, aa⟩⟩) _ HRg.out Tryd.underlying36 rfl size_act ?_)
          | (go_at_call 10; refine (HP.out _ (HAr.out.sc.same ((Only.refl _ _).alloc _))).mono ?_; rintro e w5 ⟨rfl, hs5, ho5⟩; have HX5 : Hid (Blk w5 wr.heap.size 36 (Ac.cs ⟨0, ⟨af, ⟨al, av⟩, aa⟩⟩)) := (Blk.new wr _ _).only ho5 (by have := HAr.out.sc.lt; omega); have HO5 : Hid (Only (· = p) wr w5) := ((Only.refl _ _).alloc _).trans ho5 (fun i hi => .inl hi); have HS5 := Lib.hid hs5; have HR5 := Lib.hid (HAr.out.rf.only HO5.out hpr.symm); obtain ⟨x1, x2, x3, x4⟩ : (w5.alloc (.cells #[.int .i64 uf, .int .i64 ul, .int .i64 uv, .bool ua] 34)).cell? ⟨wr.heap.size, 1, none⟩ = some (.int .i64 af) ∧ (w5.alloc (.cells #[.int .i64 uf, .int .i64 ul, .int .i64 uv, .bool ua] 34)).cell? ⟨wr.heap.size, 2, none⟩ = some (.int .i64 al) ∧ (w5.alloc (.cells #[.int .i64 uf, .int .i64 ul, .int .i64 uv, .bool ua] 34)).cell? ⟨wr.heap.size, 3, none⟩ = some (.int .i64 av) ∧ (w5.alloc (.cells #[.int .i64 uf, .int .i64 ul, .int .i64 uv, .bool ua] 34)).cell? ⟨wr.heap.size, 4, none⟩ = some (.bool aa) := ⟨(HX5.out.alloc _).cell 1, (HX5.out.alloc _).cell 2, (HX5.out.alloc _).cell 3, (HX5.out.alloc _).cell 4⟩; clear hs5 ho5)
          | ((with_reducible show Calls _ 12 _ _ _); refine (HOf.out _).mono ?_; rintro e w6 ⟨rfl, ho6⟩; have HO6 := Lib.hid ho6; clear ho6 x1 x2 x3 x4)
          | (go_at_call 11; refine (HQ.out _ ((HR5.out.same ((Only.refl _ _).alloc _)).same HO6.out)).mono ?_; rintro e w7 ⟨rfl, hr7, ho7⟩; have HR7' := Lib.hid hr7; have HO7' := Lib.hid ho7; clear hr7 ho7)
          | fail)
        have hp5 := HS5.out.lt
        have hr5 := HR5.out.lt
        have hX5 := HX5.out.lt
        have hXp : wr.heap.size ≠ p := by have := HAr.out.sc.lt; omega
        have hXr : wr.heap.size ≠ r := by have := HAr.out.rf.lt; omega
        have HX7 := Lib.hid ((((HX5.out.alloc ((.cells #[.int .i64 uf, .int .i64 ul, .int .i64 uv, .bool ua] 34))).only HO6.out (fun h => h)).only HO7'.out (by omega)).alloc ((.cells #[.int .i64 uf, .int .i64 ul, .int .i64 uv, .bool ua] 41)))
        have HT7 := Lib.hid (((((Blk.new w5 34 [.int .i64 uf, .int .i64 ul, .int .i64 uv, .bool ua])).only HO6.out (fun h => h)).only HO7'.out (by omega)).alloc ((.cells #[.int .i64 uf, .int .i64 ul, .int .i64 uv, .bool ua] 41)))
        have HU7 := Lib.hid (Blk.new w7 41 [.int .i64 uf, .int .i64 ul, .int .i64 uv, .bool ua])
        have HA7 : Hid (AAt w (w7.alloc ((.cells #[.int .i64 uf, .int .i64 ul, .int .i64 uv, .bool ua] 41))) p r S') := ⟨(((HS5.out.same ((Only.refl _ _).alloc ((.cells #[.int .i64 uf, .int .i64 ul, .int .i64 uv, .bool ua] 34)))).same HO6.out).only HO7'.out hpr).same ((Only.refl _ _).alloc _), HR7'.out.same ((Only.refl _ _).alloc _), (((((HAr.out.only.trans HO5.out (fun i hi => .inr (by have := HPw.out; omega))).alloc ((.cells #[.int .i64 uf, .int .i64 ul, .int .i64 uv, .bool ua] 34))).trans HO6.out (fun _ h => h.elim)).trans HO7'.out (fun i hi => .inr (by have := HRw.out; omega))).alloc _)⟩
        obtain ⟨T1, hT1⟩ : ∃ T, T = w5.heap.size := ⟨_, rfl⟩
        obtain ⟨T2, hT2⟩ : ∃ T, T = w7.heap.size := ⟨_, rfl⟩
        rw [← hT1] at HT7
        rw [← hT2] at HU7
        rw [← hX] at HX7
        rw [← hT1, ← hT2, ← hX]
        clear hX HX5 HS5 HR5 HO5 HR7' HO7' hT1 hT2 hp5 hr5 hX5 hXp hXr HO6
        generalize w7.alloc ((.cells #[.int .i64 uf, .int .i64 ul, .int .i64 uv, .bool ua] 41)) = w8 at *
        have HK8 : Hid (∀ W, Only (fun _ => False) w8 W → (W.cell? ⟨T1, 0, none⟩ = some (.int .i64 uf) ∧ W.cell? ⟨T1, 1, none⟩ = some (.int .i64 ul) ∧ W.cell? ⟨T1, 2, none⟩ = some (.int .i64 uv) ∧ W.cell? ⟨T1, 3, none⟩ = some (.bool ua)) ∧ W.cell? ⟨T2, 0, none⟩ = some (.int .i64 uf) ∧ W.cell? ⟨T2, 1, none⟩ = some (.int .i64 ul) ∧ W.cell? ⟨T2, 2, none⟩ = some (.int .i64 uv) ∧ W.cell? ⟨T2, 3, none⟩ = some (.bool ua)) := fun W ho =>
          ⟨⟨(HT7.out.only ho (fun h => h)).cell 0, (HT7.out.only ho (fun h => h)).cell 1, (HT7.out.only ho (fun h => h)).cell 2, (HT7.out.only ho (fun h => h)).cell 3⟩, (HU7.out.only ho (fun h => h)).cell 0, (HU7.out.only ho (fun h => h)).cell 1, (HU7.out.only ho (fun h => h)).cell 2, (HU7.out.only ho (fun h => h)).cell 3⟩
        go_region_held3 (fun W => (W.cell? ⟨T1, 0, none⟩ = some (.int .i64 uf) ∧ W.cell? ⟨T1, 1, none⟩ = some (.int .i64 ul) ∧ W.cell? ⟨T1, 2, none⟩ = some (.int .i64 uv) ∧ W.cell? ⟨T1, 3, none⟩ = some (.bool ua)) ∧ W.cell? ⟨T2, 0, none⟩ = some (.int .i64 uf) ∧ W.cell? ⟨T2, 1, none⟩ = some (.int .i64 ul) ∧ W.cell? ⟨T2, 2, none⟩ = some (.int .i64 uv) ∧ W.cell? ⟨T2, 3, none⟩ = some (.bool ua))
          (first | exact HK8.out _ (Only.refl _ _).drew | exact HK8.out _ HO20.out)
          (first
            | (go_at_call 12; (with_reducible refine (HOu.out _).mono ?_); rintro e w20 ⟨rfl, ho20⟩; have HO20 : Hid (Only (fun _ => False) w8 w20) := (Only.refl _ _).drew.trans ho20 (fun _ h => h.elim); clear ho20))
        have HX21 := Lib.hid (HX7.out.only HO20.out (fun h => h))
        have HA21 := Lib.hid (HA7.out.same HO20.out)
        clear HT7 HU7 HK8 HX7 HA7 HO20
        obtain ⟨⟨hl, hv⟩, hh⟩ : ∃ x, x = hasS S' af := ⟨_, rfl⟩
        have HH7 : Hid (∀ W, Only (fun _ => False) w20 W → Calls Tryd.prog 16 #[.pointer (some ⟨p, 0, none⟩), .int .i64 af] W fun e w' => e = .returned (Se.val ⟨hl, hv⟩) ∧ Only (fun _ => False) W w') := fun W ho => by
          have := has_any (HA21.out.sc.same ho) af
          rwa [← hh] at this
        have HW7 : Hid (∀ W, Only (fun _ => False) w20 W → _) := fun W (ho : Only (fun _ => False) w20 W) => waits_any (HA21.out.sc.same ho)
        have HV7 : Hid (∀ W, Only (fun _ => False) w20 W → _) := fun W (ho : Only (fun _ => False) w20 W) => rwaits_any (HA21.out.rf.same ho)
        have HR7 := Lib.hid (fun W => right_any W ⟨af, ⟨al, av⟩, aa⟩)
        have HQ7 := Lib.hid (fun W => rright_any W ⟨af, ⟨al, av⟩, aa⟩)
        have HO7 := Lib.hid (fun W => of_any W ⟨af, ⟨al, av⟩, aa⟩)
        obtain ⟨rb, hrb⟩ : ∃ b, b = Tr.right ⟨af, ⟨al, av⟩, aa⟩ := ⟨_, rfl⟩
        rw [← hrb] at HR7 HQ7
        obtain ⟨wn, hwn⟩ : ∃ n : Int, n = (waitsS S' : Int) := ⟨_, rfl⟩
        rw [← hwn] at HW7 HV7
        have heqs : ∀ W, _ := fun W => same_rset W hl hv
        have hgrs := guard_rset
        have hX6 := HX21.out.lt
        have hr6 := HA21.out.rf.lt
        obtain ⟨V, hV⟩ : ∃ V, V = w20.heap.size := ⟨_, rfl⟩
        have key : ∀ W0, Hid (Blk W0 V 39 [.int .i64 hl, .int .i64 hv]) → Hid (Blk W0 X 36 (Ac.cs ⟨0, ⟨af, ⟨al, av⟩, aa⟩⟩)) → Hid (∀ W, Only (fun _ => False) W0 W → (W.cell? ⟨V, 0, none⟩ = some (.int .i64 hl) ∧ W.cell? ⟨V, 1, none⟩ = some (.int .i64 hv)) ∧ W.cell? ⟨X, 1, none⟩ = some (.int .i64 af) ∧ W.cell? ⟨X, 2, none⟩ = some (.int .i64 al) ∧ W.cell? ⟨X, 3, none⟩ = some (.int .i64 av) ∧ W.cell? ⟨X, 4, none⟩ = some (.bool aa)) := fun W0 hv hx W ho =>
          ⟨⟨(hv.out.only ho (fun h => h)).cell 0, (hv.out.only ho (fun h => h)).cell 1⟩, (hx.out.only ho (fun h => h)).cell 1, (hx.out.only ho (fun h => h)).cell 2, (hx.out.only ho (fun h => h)).cell 3, (hx.out.only ho (fun h => h)).cell 4⟩
        have HKey := Lib.hid key
        cases hf : isF af
        · have hd3 : decide (0 < af) = false ∨ (decide (0 < af) = true ∧ decide (af < 19) = false) := by
            unfold isF at hf
            simp at hf ⊢
            omega
          obtain ⟨rfl, rfl⟩ : hl = 0 ∧ hv = 0 := by
            unfold hasS at hh
            rw [if_neg (by rw [hf]; decide)] at hh
            injection hh with h1 h2
            exact ⟨h1, h2⟩
          clear hf hh hrb hwn key
          rcases hd3 with hd3 | ⟨hd3, hd4⟩
          all_goals
            go_wp2
            have HV0 : Hid (Blk (w20.alloc (.cells #[.int .i64 0, .int .i64 0] 39)) V 39 [.int .i64 0, .int .i64 0]) := Blk.new' _ _ _ (by rw [hV]; try simp)
            have HX0 := Lib.hid (HX21.out.alloc (.cells #[.int .i64 0, .int .i64 0] 39))
            have HO0 : Hid (Only (fun _ => False) w20 (w20.alloc (.cells #[.int .i64 0, .int .i64 0] 39))) := (Only.refl _ _).alloc _
            have HK := Lib.hid (HKey.out _ HV0 HX0).out
            rw [← hV]
            clear hV
            generalize w20.alloc (.cells #[.int .i64 0, .int .i64 0] 39) = w7 at *
            go_region_held3 (fun W => (W.cell? ⟨V, 0, none⟩ = some (.int .i64 0) ∧ W.cell? ⟨V, 1, none⟩ = some (.int .i64 0)) ∧ W.cell? ⟨X, 1, none⟩ = some (.int .i64 af) ∧ W.cell? ⟨X, 2, none⟩ = some (.int .i64 al) ∧ W.cell? ⟨X, 3, none⟩ = some (.int .i64 av) ∧ W.cell? ⟨X, 4, none⟩ = some (.bool aa))
              (first | exact HK.out _ (Only.refl _ _).drew | exact HK.out _ HO8.out | exact HK.out _ HO9.out | exact HK.out _ HO10.out | exact HK.out _ HO11.out | exact HK.out _ HO12.out | exact HK.out _ HO13.out)
              (first
                | (go_at_call 16; (with_reducible refine (HH7.out _ HO0.out.drew).mono ?_); rintro e w8 ⟨rfl, ho8⟩; have HO8 : Hid (Only (fun _ => False) w7 w8) := (Only.refl _ _).drew.trans ho8 (fun _ h => h.elim); clear ho8)
                | (go_at_call 17; (with_reducible refine (HW7.out _ (HO0.out.trans HO8.out (fun _ h => h.elim))).mono ?_); rintro e w9 ⟨rfl, ho9⟩; have HO9 : Hid (Only (fun _ => False) w7 w9) := HO8.out.trans ho9 (fun _ h => h.elim); clear ho9)
                | (go_at_call 18; (with_reducible refine (HV7.out _ (HO0.out.trans HO9.out (fun _ h => h.elim))).mono ?_); rintro e w10 ⟨rfl, ho10⟩; have HO10 : Hid (Only (fun _ => False) w7 w10) := HO9.out.trans ho10 (fun _ h => h.elim); clear ho10)
                | (go_at_call 19; (with_reducible refine (HR7.out _).mono ?_); rintro e w11 ⟨rfl, ho11⟩; have HO11 : Hid (Only (fun _ => False) w7 w11) := HO10.out.trans ho11 (fun _ h => h.elim); clear ho11)
                | (go_at_call 12; (with_reducible refine (HO7.out _).mono ?_); rintro e w12 ⟨rfl, ho12⟩; have HO12 : Hid (Only (fun _ => False) w7 w12) := HO11.out.trans ho12 (fun _ h => h.elim); clear ho12)
                | (go_at_call 20; (with_reducible refine (HQ7.out _).mono ?_); rintro e w13 ⟨rfl, ho13⟩; have HO13 : Hid (Only (fun _ => False) w7 w13) := HO12.out.trans ho13 (fun _ h => h.elim); clear ho13))
            go_wp2
            go_roundw
            case rel => exact ⟨j + 1, by omega, by go_num, S', HA21.out.same (HO0.out.trans HO13.out (fun _ h => h.elim))⟩
            case measure => simp [intOf]; omega
        · have hfj := isF_iff.1 hf
          obtain ⟨jj, hjj⟩ : ∃ jj : Nat, af = (jj : Int) := ⟨af.toNat, by omega⟩
          subst hjj
          have hd3 : (0 : Int) < (jj : Int) := by omega
          have hjp : 0 < jj := by omega
          have hjn : jj < 19 := by omega
          have hd4 : (jj : Int) < 19 := by omega
          obtain ⟨csr, hbr, hcr⟩ := HA21.out.rf
          have hrg : ∀ W, Blk W r 55 csr → W.rangeAt r (jj * 2) [.int .i64 hl, .int .i64 hv] := fun W hb => by
            have hi := plF_lt hf
            have he := plF_at hf
            have hJ := hcr.j (i := plF (jj : Int)) (j := jj) hi (by omega)
            unfold hasS at hh
            rw [if_pos hf] at hh
            have e1 := hJ.hasl
            have e2 := hJ.hasv
            simp only [← hh] at e1 e2
            intro q v hq
            rw [hb.cell]
            match q, hq with
            | 0, hq => exact e1.trans hq
            | 1, hq => exact e2.trans hq
          have HRr := Lib.hid (fun ob => hrg (w20.alloc ob) (hbr.alloc ob))
          clear hf hfj hh hrb hwn key hrg hbr hcr
          go_wp2_with (first
            | ((with_reducible show wpList _ _ _ (⟨some 115, _, _, _, _, _⟩ :: _) _ _); refine wpList_load_mid rfl 39 _ rfl r (jj * 2) rfl [.int .i64 hl, .int .i64 hv] _ (HRr.out _) Tryd.underlying39 rfl size_rset ?_)
            | fail)
          have HV0 : Hid (Blk (w20.alloc (.cells #[.int .i64 hl, .int .i64 hv] 39)) V 39 [.int .i64 hl, .int .i64 hv]) := Blk.new' _ _ _ (by rw [hV]; try simp)
          have HX0 := Lib.hid (HX21.out.alloc (.cells #[.int .i64 hl, .int .i64 hv] 39))
          have HO0 : Hid (Only (fun _ => False) w20 (w20.alloc (.cells #[.int .i64 hl, .int .i64 hv] 39))) := (Only.refl _ _).alloc _
          have HK := Lib.hid (HKey.out _ HV0 HX0).out
          rw [← hV]
          clear hV
          generalize w20.alloc (.cells #[.int .i64 hl, .int .i64 hv] 39) = w7 at *
          go_region_held3 (fun W => (W.cell? ⟨V, 0, none⟩ = some (.int .i64 hl) ∧ W.cell? ⟨V, 1, none⟩ = some (.int .i64 hv)) ∧ W.cell? ⟨X, 1, none⟩ = some (.int .i64 (jj : Int)) ∧ W.cell? ⟨X, 2, none⟩ = some (.int .i64 al) ∧ W.cell? ⟨X, 3, none⟩ = some (.int .i64 av) ∧ W.cell? ⟨X, 4, none⟩ = some (.bool aa))
            (first | exact HK.out _ (Only.refl _ _).drew | exact HK.out _ HO8.out | exact HK.out _ HO9.out | exact HK.out _ HO10.out | exact HK.out _ HO11.out | exact HK.out _ HO12.out | exact HK.out _ HO13.out)
            (first
              | (go_at_call 16; (with_reducible refine (HH7.out _ HO0.out.drew).mono ?_); rintro e w8 ⟨rfl, ho8⟩; have HO8 : Hid (Only (fun _ => False) w7 w8) := (Only.refl _ _).drew.trans ho8 (fun _ h => h.elim); clear ho8)
              | (go_at_call 17; (with_reducible refine (HW7.out _ (HO0.out.trans HO8.out (fun _ h => h.elim))).mono ?_); rintro e w9 ⟨rfl, ho9⟩; have HO9 : Hid (Only (fun _ => False) w7 w9) := HO8.out.trans ho9 (fun _ h => h.elim); clear ho9)
              | (go_at_call 18; (with_reducible refine (HV7.out _ (HO0.out.trans HO9.out (fun _ h => h.elim))).mono ?_); rintro e w10 ⟨rfl, ho10⟩; have HO10 : Hid (Only (fun _ => False) w7 w10) := HO9.out.trans ho10 (fun _ h => h.elim); clear ho10)
              | (go_at_call 19; (with_reducible refine (HR7.out _).mono ?_); rintro e w11 ⟨rfl, ho11⟩; have HO11 : Hid (Only (fun _ => False) w7 w11) := HO10.out.trans ho11 (fun _ h => h.elim); clear ho11)
              | (go_at_call 12; (with_reducible refine (HO7.out _).mono ?_); rintro e w12 ⟨rfl, ho12⟩; have HO12 : Hid (Only (fun _ => False) w7 w12) := HO11.out.trans ho12 (fun _ h => h.elim); clear ho12)
              | (go_at_call 20; (with_reducible refine (HQ7.out _).mono ?_); rintro e w13 ⟨rfl, ho13⟩; have HO13 : Hid (Only (fun _ => False) w7 w13) := HO12.out.trans ho13 (fun _ h => h.elim); clear ho13))
          go_wp2
          go_roundw
          case rel => exact ⟨j + 1, by omega, by go_num, S', HA21.out.same (HO0.out.trans HO13.out (fun _ h => h.elim))⟩
          case measure => simp [intOf]; omega
      · have hk1 : (ak == 0) = false := by simp [hk0]
        clear hk0
        by_cases hk0 : ak = 1
        · subst hk0
          obtain ⟨S', ⟨uf, ⟨ul, uv⟩, ua⟩, hu⟩ : ∃ S' u, askS S af ⟨al, av⟩ = (S', u) := ⟨_, _, rfl⟩
          have HP := Lib.hid (fun W (he : ErrsOf W [0, 4, 7, 9] es) (h : SdAt W p S) => ask_any he h af ⟨al, av⟩)
          have HQ := Lib.hid (fun W (h : RfAt W r S) => rask_any h af ⟨al, av⟩)
          rw [hu] at HP HQ
          clear hu
          obtain ⟨z, hz⟩ : ∃ z, z = askN S af ⟨al, av⟩ := ⟨_, rfl⟩
          rw [← hz] at HP HQ
          clear hz
          have HOf := Lib.hid (fun W => of_any W ⟨af, ⟨al, av⟩, aa⟩)
          have HOu := Lib.hid (fun W => of_any W ⟨uf, ⟨ul, uv⟩, ua⟩)
          have heq : ∀ W, _ := fun W => eq_rtri W uf ul uv ua
          have hgr := guard_rtri
          go_wp2_with (first
            | ((with_reducible show wpList _ _ _ (⟨some 41, _, _, _, _, _⟩ :: _) _ _); refine wpList_load_mid rfl 36 _ rfl b (off + j * 5) rfl (Ac.cs ⟨1, ⟨af, ⟨al, av⟩, aa⟩⟩) _ HRg.out Tryd.underlying36 rfl size_act ?_)
            | (go_at_call 13; refine (HP.out _ ((HE.out.of [0, 4, 7, 9]).only (HAr.out.only.alloc _)) (HAr.out.sc.same ((Only.refl _ _).alloc _))).mono ?_; rintro e w5 ⟨E, hE, _, rfl, hs5, ho5⟩; have HEv := Lib.hid (num_neg HE.out hE); clear hE; have HX5 : Hid (Blk w5 wr.heap.size 36 (Ac.cs ⟨1, ⟨af, ⟨al, av⟩, aa⟩⟩)) := (Blk.new wr _ _).only ho5 (by have := HAr.out.sc.lt; omega); have HO5 : Hid (Only (· = p) wr w5) := ((Only.refl _ _).alloc _).trans ho5 (fun i hi => .inl hi); have HS5 := Lib.hid hs5; have HR5 := Lib.hid (HAr.out.rf.only HO5.out hpr.symm); obtain ⟨x1, x2, x3, x4⟩ : (w5.alloc (.cells #[.int .i64 uf, .int .i64 ul, .int .i64 uv, .bool ua] 34)).cell? ⟨wr.heap.size, 1, none⟩ = some (.int .i64 af) ∧ (w5.alloc (.cells #[.int .i64 uf, .int .i64 ul, .int .i64 uv, .bool ua] 34)).cell? ⟨wr.heap.size, 2, none⟩ = some (.int .i64 al) ∧ (w5.alloc (.cells #[.int .i64 uf, .int .i64 ul, .int .i64 uv, .bool ua] 34)).cell? ⟨wr.heap.size, 3, none⟩ = some (.int .i64 av) ∧ (w5.alloc (.cells #[.int .i64 uf, .int .i64 ul, .int .i64 uv, .bool ua] 34)).cell? ⟨wr.heap.size, 4, none⟩ = some (.bool aa) := ⟨(HX5.out.alloc _).cell 1, (HX5.out.alloc _).cell 2, (HX5.out.alloc _).cell 3, (HX5.out.alloc _).cell 4⟩; clear hs5 ho5)
            | (go_at_call 14; refine (HQ.out _ (HR5.out.same ((Only.refl _ _).alloc _))).mono ?_; rintro e w7 ⟨rfl, hr7, ho7⟩; have HR7' := Lib.hid hr7; have HO7' := Lib.hid ho7; clear hr7 ho7)
            | fail)
          have hp5 := HS5.out.lt
          have hr5 := HR5.out.lt
          have hX5 := HX5.out.lt
          have hXp : wr.heap.size ≠ p := by have := HAr.out.sc.lt; omega
          have hXr : wr.heap.size ≠ r := by have := HAr.out.rf.lt; omega
          have HX7 := Lib.hid ((((HX5.out.alloc ((.cells #[.int .i64 uf, .int .i64 ul, .int .i64 uv, .bool ua] 34)))).only HO7'.out (by omega)).alloc ((.cells #[.int .i64 uf, .int .i64 ul, .int .i64 uv, .bool ua] 41)))
          have HT7 := Lib.hid (((((Blk.new w5 34 [.int .i64 uf, .int .i64 ul, .int .i64 uv, .bool ua]))).only HO7'.out (by omega)).alloc ((.cells #[.int .i64 uf, .int .i64 ul, .int .i64 uv, .bool ua] 41)))
          have HU7 := Lib.hid (Blk.new w7 41 [.int .i64 uf, .int .i64 ul, .int .i64 uv, .bool ua])
          have HA7 : Hid (AAt w (w7.alloc ((.cells #[.int .i64 uf, .int .i64 ul, .int .i64 uv, .bool ua] 41))) p r S') := ⟨(((HS5.out.same ((Only.refl _ _).alloc ((.cells #[.int .i64 uf, .int .i64 ul, .int .i64 uv, .bool ua] 34))))).only HO7'.out hpr).same ((Only.refl _ _).alloc _), HR7'.out.same ((Only.refl _ _).alloc _), (((((HAr.out.only.trans HO5.out (fun i hi => .inr (by have := HPw.out; omega))).alloc ((.cells #[.int .i64 uf, .int .i64 ul, .int .i64 uv, .bool ua] 34)))).trans HO7'.out (fun i hi => .inr (by have := HRw.out; omega))).alloc _)⟩
          obtain ⟨T1, hT1⟩ : ∃ T, T = w5.heap.size := ⟨_, rfl⟩
          obtain ⟨T2, hT2⟩ : ∃ T, T = w7.heap.size := ⟨_, rfl⟩
          rw [← hT1] at HT7
          rw [← hT2] at HU7
          rw [← hX] at HX7
          rw [← hT1, ← hT2, ← hX]
          clear hX HX5 HS5 HR5 HO5 HR7' HO7' hT1 hT2 hp5 hr5 hX5 hXp hXr
          generalize w7.alloc ((.cells #[.int .i64 uf, .int .i64 ul, .int .i64 uv, .bool ua] 41)) = w8 at *
          have HK8 : Hid (∀ W, Only (fun _ => False) w8 W → (W.cell? ⟨T1, 0, none⟩ = some (.int .i64 uf) ∧ W.cell? ⟨T1, 1, none⟩ = some (.int .i64 ul) ∧ W.cell? ⟨T1, 2, none⟩ = some (.int .i64 uv) ∧ W.cell? ⟨T1, 3, none⟩ = some (.bool ua)) ∧ W.cell? ⟨T2, 0, none⟩ = some (.int .i64 uf) ∧ W.cell? ⟨T2, 1, none⟩ = some (.int .i64 ul) ∧ W.cell? ⟨T2, 2, none⟩ = some (.int .i64 uv) ∧ W.cell? ⟨T2, 3, none⟩ = some (.bool ua)) := fun W ho =>
            ⟨⟨(HT7.out.only ho (fun h => h)).cell 0, (HT7.out.only ho (fun h => h)).cell 1, (HT7.out.only ho (fun h => h)).cell 2, (HT7.out.only ho (fun h => h)).cell 3⟩, (HU7.out.only ho (fun h => h)).cell 0, (HU7.out.only ho (fun h => h)).cell 1, (HU7.out.only ho (fun h => h)).cell 2, (HU7.out.only ho (fun h => h)).cell 3⟩
          go_region_held3 (fun W => (W.cell? ⟨T1, 0, none⟩ = some (.int .i64 uf) ∧ W.cell? ⟨T1, 1, none⟩ = some (.int .i64 ul) ∧ W.cell? ⟨T1, 2, none⟩ = some (.int .i64 uv) ∧ W.cell? ⟨T1, 3, none⟩ = some (.bool ua)) ∧ W.cell? ⟨T2, 0, none⟩ = some (.int .i64 uf) ∧ W.cell? ⟨T2, 1, none⟩ = some (.int .i64 ul) ∧ W.cell? ⟨T2, 2, none⟩ = some (.int .i64 uv) ∧ W.cell? ⟨T2, 3, none⟩ = some (.bool ua))
            (first | exact HK8.out _ (Only.refl _ _).drew | exact HK8.out _ HO20.out | exact HK8.out _ HO22.out)
            (first
              | (go_at_call 12; (with_reducible refine (HOu.out _).mono ?_); rintro e w20 ⟨rfl, ho20⟩; have HO20 : Hid (Only (fun _ => False) w8 w20) := (Only.refl _ _).drew.trans ho20 (fun _ h => h.elim); clear ho20)
              | (go_at_call 15; (with_reducible refine (HEv.out _ (HA7.out.only.trans HO20.out (fun _ h => h.elim))).mono ?_); rintro e w22 ⟨rfl, ho22⟩; have HO22 : Hid (Only (fun _ => False) w8 w22) := HO20.out.trans ho22 (fun _ h => h.elim); clear ho22))
          have HX21 := Lib.hid (HX7.out.only HO22.out (fun h => h))
          have HA21 := Lib.hid (HA7.out.same HO22.out)
          clear HT7 HU7 HK8 HX7 HA7 HO22
          obtain ⟨⟨hl, hv⟩, hh⟩ : ∃ x, x = hasS S' af := ⟨_, rfl⟩
          have HH7 : Hid (∀ W, Only (fun _ => False) w22 W → Calls Tryd.prog 16 #[.pointer (some ⟨p, 0, none⟩), .int .i64 af] W fun e w' => e = .returned (Se.val ⟨hl, hv⟩) ∧ Only (fun _ => False) W w') := fun W ho => by
            have := has_any (HA21.out.sc.same ho) af
            rwa [← hh] at this
          have HW7 : Hid (∀ W, Only (fun _ => False) w22 W → _) := fun W (ho : Only (fun _ => False) w22 W) => waits_any (HA21.out.sc.same ho)
          have HV7 : Hid (∀ W, Only (fun _ => False) w22 W → _) := fun W (ho : Only (fun _ => False) w22 W) => rwaits_any (HA21.out.rf.same ho)
          have HR7 := Lib.hid (fun W => right_any W ⟨af, ⟨al, av⟩, aa⟩)
          have HQ7 := Lib.hid (fun W => rright_any W ⟨af, ⟨al, av⟩, aa⟩)
          have HO7 := Lib.hid (fun W => of_any W ⟨af, ⟨al, av⟩, aa⟩)
          obtain ⟨rb, hrb⟩ : ∃ b, b = Tr.right ⟨af, ⟨al, av⟩, aa⟩ := ⟨_, rfl⟩
          rw [← hrb] at HR7 HQ7
          obtain ⟨wn, hwn⟩ : ∃ n : Int, n = (waitsS S' : Int) := ⟨_, rfl⟩
          rw [← hwn] at HW7 HV7
          have heqs : ∀ W, _ := fun W => same_rset W hl hv
          have hgrs := guard_rset
          have hX6 := HX21.out.lt
          have hr6 := HA21.out.rf.lt
          obtain ⟨V, hV⟩ : ∃ V, V = w22.heap.size := ⟨_, rfl⟩
          have key : ∀ W0, Hid (Blk W0 V 39 [.int .i64 hl, .int .i64 hv]) → Hid (Blk W0 X 36 (Ac.cs ⟨1, ⟨af, ⟨al, av⟩, aa⟩⟩)) → Hid (∀ W, Only (fun _ => False) W0 W → (W.cell? ⟨V, 0, none⟩ = some (.int .i64 hl) ∧ W.cell? ⟨V, 1, none⟩ = some (.int .i64 hv)) ∧ W.cell? ⟨X, 1, none⟩ = some (.int .i64 af) ∧ W.cell? ⟨X, 2, none⟩ = some (.int .i64 al) ∧ W.cell? ⟨X, 3, none⟩ = some (.int .i64 av) ∧ W.cell? ⟨X, 4, none⟩ = some (.bool aa)) := fun W0 hv hx W ho =>
            ⟨⟨(hv.out.only ho (fun h => h)).cell 0, (hv.out.only ho (fun h => h)).cell 1⟩, (hx.out.only ho (fun h => h)).cell 1, (hx.out.only ho (fun h => h)).cell 2, (hx.out.only ho (fun h => h)).cell 3, (hx.out.only ho (fun h => h)).cell 4⟩
          have HKey := Lib.hid key
          cases hf : isF af
          · have hd3 : decide (0 < af) = false ∨ (decide (0 < af) = true ∧ decide (af < 19) = false) := by
              unfold isF at hf
              simp at hf ⊢
              omega
            obtain ⟨rfl, rfl⟩ : hl = 0 ∧ hv = 0 := by
              unfold hasS at hh
              rw [if_neg (by rw [hf]; decide)] at hh
              injection hh with h1 h2
              exact ⟨h1, h2⟩
            clear hf hh hrb hwn key
            rcases hd3 with hd3 | ⟨hd3, hd4⟩
            all_goals
              go_wp2
              have HV0 : Hid (Blk (w22.alloc (.cells #[.int .i64 0, .int .i64 0] 39)) V 39 [.int .i64 0, .int .i64 0]) := Blk.new' _ _ _ (by rw [hV]; try simp)
              have HX0 := Lib.hid (HX21.out.alloc (.cells #[.int .i64 0, .int .i64 0] 39))
              have HO0 : Hid (Only (fun _ => False) w22 (w22.alloc (.cells #[.int .i64 0, .int .i64 0] 39))) := (Only.refl _ _).alloc _
              have HK := Lib.hid (HKey.out _ HV0 HX0).out
              rw [← hV]
              clear hV
              generalize w22.alloc (.cells #[.int .i64 0, .int .i64 0] 39) = w7 at *
              go_region_held3 (fun W => (W.cell? ⟨V, 0, none⟩ = some (.int .i64 0) ∧ W.cell? ⟨V, 1, none⟩ = some (.int .i64 0)) ∧ W.cell? ⟨X, 1, none⟩ = some (.int .i64 af) ∧ W.cell? ⟨X, 2, none⟩ = some (.int .i64 al) ∧ W.cell? ⟨X, 3, none⟩ = some (.int .i64 av) ∧ W.cell? ⟨X, 4, none⟩ = some (.bool aa))
                (first | exact HK.out _ (Only.refl _ _).drew | exact HK.out _ HO8.out | exact HK.out _ HO9.out | exact HK.out _ HO10.out | exact HK.out _ HO11.out | exact HK.out _ HO12.out | exact HK.out _ HO13.out)
                (first
                  | (go_at_call 16; (with_reducible refine (HH7.out _ HO0.out.drew).mono ?_); rintro e w8 ⟨rfl, ho8⟩; have HO8 : Hid (Only (fun _ => False) w7 w8) := (Only.refl _ _).drew.trans ho8 (fun _ h => h.elim); clear ho8)
                  | (go_at_call 17; (with_reducible refine (HW7.out _ (HO0.out.trans HO8.out (fun _ h => h.elim))).mono ?_); rintro e w9 ⟨rfl, ho9⟩; have HO9 : Hid (Only (fun _ => False) w7 w9) := HO8.out.trans ho9 (fun _ h => h.elim); clear ho9)
                  | (go_at_call 18; (with_reducible refine (HV7.out _ (HO0.out.trans HO9.out (fun _ h => h.elim))).mono ?_); rintro e w10 ⟨rfl, ho10⟩; have HO10 : Hid (Only (fun _ => False) w7 w10) := HO9.out.trans ho10 (fun _ h => h.elim); clear ho10)
                  | (go_at_call 19; (with_reducible refine (HR7.out _).mono ?_); rintro e w11 ⟨rfl, ho11⟩; have HO11 : Hid (Only (fun _ => False) w7 w11) := HO10.out.trans ho11 (fun _ h => h.elim); clear ho11)
                  | (go_at_call 12; (with_reducible refine (HO7.out _).mono ?_); rintro e w12 ⟨rfl, ho12⟩; have HO12 : Hid (Only (fun _ => False) w7 w12) := HO11.out.trans ho12 (fun _ h => h.elim); clear ho12)
                  | (go_at_call 20; (with_reducible refine (HQ7.out _).mono ?_); rintro e w13 ⟨rfl, ho13⟩; have HO13 : Hid (Only (fun _ => False) w7 w13) := HO12.out.trans ho13 (fun _ h => h.elim); clear ho13))
              go_wp2
              go_roundw
              case rel => exact ⟨j + 1, by omega, by go_num, S', HA21.out.same (HO0.out.trans HO13.out (fun _ h => h.elim))⟩
              case measure => simp [intOf]; omega
          · have hfj := isF_iff.1 hf
            obtain ⟨jj, hjj⟩ : ∃ jj : Nat, af = (jj : Int) := ⟨af.toNat, by omega⟩
            subst hjj
            have hd3 : (0 : Int) < (jj : Int) := by omega
            have hjp : 0 < jj := by omega
            have hjn : jj < 19 := by omega
            have hd4 : (jj : Int) < 19 := by omega
            obtain ⟨csr, hbr, hcr⟩ := HA21.out.rf
            have hrg : ∀ W, Blk W r 55 csr → W.rangeAt r (jj * 2) [.int .i64 hl, .int .i64 hv] := fun W hb => by
              have hi := plF_lt hf
              have he := plF_at hf
              have hJ := hcr.j (i := plF (jj : Int)) (j := jj) hi (by omega)
              unfold hasS at hh
              rw [if_pos hf] at hh
              have e1 := hJ.hasl
              have e2 := hJ.hasv
              simp only [← hh] at e1 e2
              intro q v hq
              rw [hb.cell]
              match q, hq with
              | 0, hq => exact e1.trans hq
              | 1, hq => exact e2.trans hq
            have HRr := Lib.hid (fun ob => hrg (w22.alloc ob) (hbr.alloc ob))
            clear hf hfj hh hrb hwn key hrg hbr hcr
            go_wp2_with (first
              | ((with_reducible show wpList _ _ _ (⟨some 115, _, _, _, _, _⟩ :: _) _ _); refine wpList_load_mid rfl 39 _ rfl r (jj * 2) rfl [.int .i64 hl, .int .i64 hv] _ (HRr.out _) Tryd.underlying39 rfl size_rset ?_)
              | fail)
            have HV0 : Hid (Blk (w22.alloc (.cells #[.int .i64 hl, .int .i64 hv] 39)) V 39 [.int .i64 hl, .int .i64 hv]) := Blk.new' _ _ _ (by rw [hV]; try simp)
            have HX0 := Lib.hid (HX21.out.alloc (.cells #[.int .i64 hl, .int .i64 hv] 39))
            have HO0 : Hid (Only (fun _ => False) w22 (w22.alloc (.cells #[.int .i64 hl, .int .i64 hv] 39))) := (Only.refl _ _).alloc _
            have HK := Lib.hid (HKey.out _ HV0 HX0).out
            rw [← hV]
            clear hV
            generalize w22.alloc (.cells #[.int .i64 hl, .int .i64 hv] 39) = w7 at *
            go_region_held3 (fun W => (W.cell? ⟨V, 0, none⟩ = some (.int .i64 hl) ∧ W.cell? ⟨V, 1, none⟩ = some (.int .i64 hv)) ∧ W.cell? ⟨X, 1, none⟩ = some (.int .i64 (jj : Int)) ∧ W.cell? ⟨X, 2, none⟩ = some (.int .i64 al) ∧ W.cell? ⟨X, 3, none⟩ = some (.int .i64 av) ∧ W.cell? ⟨X, 4, none⟩ = some (.bool aa))
              (first | exact HK.out _ (Only.refl _ _).drew | exact HK.out _ HO8.out | exact HK.out _ HO9.out | exact HK.out _ HO10.out | exact HK.out _ HO11.out | exact HK.out _ HO12.out | exact HK.out _ HO13.out)
              (first
                | (go_at_call 16; (with_reducible refine (HH7.out _ HO0.out.drew).mono ?_); rintro e w8 ⟨rfl, ho8⟩; have HO8 : Hid (Only (fun _ => False) w7 w8) := (Only.refl _ _).drew.trans ho8 (fun _ h => h.elim); clear ho8)
                | (go_at_call 17; (with_reducible refine (HW7.out _ (HO0.out.trans HO8.out (fun _ h => h.elim))).mono ?_); rintro e w9 ⟨rfl, ho9⟩; have HO9 : Hid (Only (fun _ => False) w7 w9) := HO8.out.trans ho9 (fun _ h => h.elim); clear ho9)
                | (go_at_call 18; (with_reducible refine (HV7.out _ (HO0.out.trans HO9.out (fun _ h => h.elim))).mono ?_); rintro e w10 ⟨rfl, ho10⟩; have HO10 : Hid (Only (fun _ => False) w7 w10) := HO9.out.trans ho10 (fun _ h => h.elim); clear ho10)
                | (go_at_call 19; (with_reducible refine (HR7.out _).mono ?_); rintro e w11 ⟨rfl, ho11⟩; have HO11 : Hid (Only (fun _ => False) w7 w11) := HO10.out.trans ho11 (fun _ h => h.elim); clear ho11)
                | (go_at_call 12; (with_reducible refine (HO7.out _).mono ?_); rintro e w12 ⟨rfl, ho12⟩; have HO12 : Hid (Only (fun _ => False) w7 w12) := HO11.out.trans ho12 (fun _ h => h.elim); clear ho12)
                | (go_at_call 20; (with_reducible refine (HQ7.out _).mono ?_); rintro e w13 ⟨rfl, ho13⟩; have HO13 : Hid (Only (fun _ => False) w7 w13) := HO12.out.trans ho13 (fun _ h => h.elim); clear ho13))
            go_wp2
            go_roundw
            case rel => exact ⟨j + 1, by omega, by go_num, S', HA21.out.same (HO0.out.trans HO13.out (fun _ h => h.elim))⟩
            case measure => simp [intOf]; omega
        · have hk2 : (ak == 1) = false := by simp [hk0]
          clear hk0
          have HX6 : Hid (Blk (wr.alloc (.cells #[.int .i64 ak, .int .i64 af, .int .i64 al, .int .i64 av, .bool aa] 36)) X 36 (Ac.cs ⟨ak, ⟨af, ⟨al, av⟩, aa⟩⟩)) := Blk.new' wr _ (Ac.cs ⟨ak, ⟨af, ⟨al, av⟩, aa⟩⟩) hX.symm
          have HA6 := Lib.hid (HAr.out.same ((Only.refl _ _).alloc (.cells #[.int .i64 ak, .int .i64 af, .int .i64 al, .int .i64 av, .bool aa] 36)))
          obtain ⟨⟨hl, hv⟩, hh⟩ : ∃ x, x = hasS S af := ⟨_, rfl⟩
          have HH7 : Hid (∀ W, Only (fun _ => False) (wr.alloc (.cells #[.int .i64 ak, .int .i64 af, .int .i64 al, .int .i64 av, .bool aa] 36)) W → Calls Tryd.prog 16 #[.pointer (some ⟨p, 0, none⟩), .int .i64 af] W fun e w' => e = .returned (Se.val ⟨hl, hv⟩) ∧ Only (fun _ => False) W w') := fun W ho => by
            have := has_any (HA6.out.sc.same ho) af
            rwa [← hh] at this
          have HW7 : Hid (∀ W, Only (fun _ => False) (wr.alloc (.cells #[.int .i64 ak, .int .i64 af, .int .i64 al, .int .i64 av, .bool aa] 36)) W → _) := fun W (ho : Only (fun _ => False) (wr.alloc (.cells #[.int .i64 ak, .int .i64 af, .int .i64 al, .int .i64 av, .bool aa] 36)) W) => waits_any (HA6.out.sc.same ho)
          have HV7 : Hid (∀ W, Only (fun _ => False) (wr.alloc (.cells #[.int .i64 ak, .int .i64 af, .int .i64 al, .int .i64 av, .bool aa] 36)) W → _) := fun W (ho : Only (fun _ => False) (wr.alloc (.cells #[.int .i64 ak, .int .i64 af, .int .i64 al, .int .i64 av, .bool aa] 36)) W) => rwaits_any (HA6.out.rf.same ho)
          have HR7 := Lib.hid (fun W => right_any W ⟨af, ⟨al, av⟩, aa⟩)
          have HQ7 := Lib.hid (fun W => rright_any W ⟨af, ⟨al, av⟩, aa⟩)
          have HO7 := Lib.hid (fun W => of_any W ⟨af, ⟨al, av⟩, aa⟩)
          obtain ⟨rb, hrb⟩ : ∃ b, b = Tr.right ⟨af, ⟨al, av⟩, aa⟩ := ⟨_, rfl⟩
          rw [← hrb] at HR7 HQ7
          obtain ⟨wn, hwn⟩ : ∃ n : Int, n = (waitsS S : Int) := ⟨_, rfl⟩
          rw [← hwn] at HW7 HV7
          have heqs : ∀ W, _ := fun W => same_rset W hl hv
          have hgrs := guard_rset
          have hX6 := HX6.out.lt
          have hr6 := HA6.out.rf.lt
          obtain ⟨V, hV⟩ : ∃ V, V = wr.heap.size + 1 := ⟨_, rfl⟩
          have key : ∀ W0, Hid (Blk W0 V 39 [.int .i64 hl, .int .i64 hv]) → Hid (Blk W0 X 36 (Ac.cs ⟨ak, ⟨af, ⟨al, av⟩, aa⟩⟩)) → Hid (∀ W, Only (fun _ => False) W0 W → (W.cell? ⟨V, 0, none⟩ = some (.int .i64 hl) ∧ W.cell? ⟨V, 1, none⟩ = some (.int .i64 hv)) ∧ W.cell? ⟨X, 1, none⟩ = some (.int .i64 af) ∧ W.cell? ⟨X, 2, none⟩ = some (.int .i64 al) ∧ W.cell? ⟨X, 3, none⟩ = some (.int .i64 av) ∧ W.cell? ⟨X, 4, none⟩ = some (.bool aa)) := fun W0 hv hx W ho =>
            ⟨⟨(hv.out.only ho (fun h => h)).cell 0, (hv.out.only ho (fun h => h)).cell 1⟩, (hx.out.only ho (fun h => h)).cell 1, (hx.out.only ho (fun h => h)).cell 2, (hx.out.only ho (fun h => h)).cell 3, (hx.out.only ho (fun h => h)).cell 4⟩
          have HKey := Lib.hid key
          cases hf : isF af
          · have hd3 : decide (0 < af) = false ∨ (decide (0 < af) = true ∧ decide (af < 19) = false) := by
              unfold isF at hf
              simp at hf ⊢
              omega
            obtain ⟨rfl, rfl⟩ : hl = 0 ∧ hv = 0 := by
              unfold hasS at hh
              rw [if_neg (by rw [hf]; decide)] at hh
              injection hh with h1 h2
              exact ⟨h1, h2⟩
            clear hf hh hrb hwn key
            rcases hd3 with hd3 | ⟨hd3, hd4⟩
            all_goals
              go_wp2_with (first
                | ((with_reducible show wpList _ _ _ (⟨some 41, _, _, _, _, _⟩ :: _) _ _); refine wpList_load_mid rfl 36 _ rfl b (off + j * 5) rfl (Ac.cs ⟨ak, ⟨af, ⟨al, av⟩, aa⟩⟩) _ HRg.out Tryd.underlying36 rfl size_act ?_)
                | fail)
              have HV0 : Hid (Blk ((wr.alloc (.cells #[.int .i64 ak, .int .i64 af, .int .i64 al, .int .i64 av, .bool aa] 36)).alloc (.cells #[.int .i64 0, .int .i64 0] 39)) V 39 [.int .i64 0, .int .i64 0]) := Blk.new' _ _ _ (by rw [hV]; try simp)
              have HX0 := Lib.hid (HX6.out.alloc (.cells #[.int .i64 0, .int .i64 0] 39))
              have HO0 : Hid (Only (fun _ => False) (wr.alloc (.cells #[.int .i64 ak, .int .i64 af, .int .i64 al, .int .i64 av, .bool aa] 36)) ((wr.alloc (.cells #[.int .i64 ak, .int .i64 af, .int .i64 al, .int .i64 av, .bool aa] 36)).alloc (.cells #[.int .i64 0, .int .i64 0] 39))) := (Only.refl _ _).alloc _
              have HK := Lib.hid (HKey.out _ HV0 HX0).out
              rw [← hV]
              rw [← hX]
              clear hX
              clear hV
              generalize (wr.alloc (.cells #[.int .i64 ak, .int .i64 af, .int .i64 al, .int .i64 av, .bool aa] 36)).alloc (.cells #[.int .i64 0, .int .i64 0] 39) = w7 at *
              go_region_held3 (fun W => (W.cell? ⟨V, 0, none⟩ = some (.int .i64 0) ∧ W.cell? ⟨V, 1, none⟩ = some (.int .i64 0)) ∧ W.cell? ⟨X, 1, none⟩ = some (.int .i64 af) ∧ W.cell? ⟨X, 2, none⟩ = some (.int .i64 al) ∧ W.cell? ⟨X, 3, none⟩ = some (.int .i64 av) ∧ W.cell? ⟨X, 4, none⟩ = some (.bool aa))
                (first | exact HK.out _ (Only.refl _ _).drew | exact HK.out _ HO8.out | exact HK.out _ HO9.out | exact HK.out _ HO10.out | exact HK.out _ HO11.out | exact HK.out _ HO12.out | exact HK.out _ HO13.out)
                (first
                  | (go_at_call 16; (with_reducible refine (HH7.out _ HO0.out.drew).mono ?_); rintro e w8 ⟨rfl, ho8⟩; have HO8 : Hid (Only (fun _ => False) w7 w8) := (Only.refl _ _).drew.trans ho8 (fun _ h => h.elim); clear ho8)
                  | (go_at_call 17; (with_reducible refine (HW7.out _ (HO0.out.trans HO8.out (fun _ h => h.elim))).mono ?_); rintro e w9 ⟨rfl, ho9⟩; have HO9 : Hid (Only (fun _ => False) w7 w9) := HO8.out.trans ho9 (fun _ h => h.elim); clear ho9)
                  | (go_at_call 18; (with_reducible refine (HV7.out _ (HO0.out.trans HO9.out (fun _ h => h.elim))).mono ?_); rintro e w10 ⟨rfl, ho10⟩; have HO10 : Hid (Only (fun _ => False) w7 w10) := HO9.out.trans ho10 (fun _ h => h.elim); clear ho10)
                  | (go_at_call 19; (with_reducible refine (HR7.out _).mono ?_); rintro e w11 ⟨rfl, ho11⟩; have HO11 : Hid (Only (fun _ => False) w7 w11) := HO10.out.trans ho11 (fun _ h => h.elim); clear ho11)
                  | (go_at_call 12; (with_reducible refine (HO7.out _).mono ?_); rintro e w12 ⟨rfl, ho12⟩; have HO12 : Hid (Only (fun _ => False) w7 w12) := HO11.out.trans ho12 (fun _ h => h.elim); clear ho12)
                  | (go_at_call 20; (with_reducible refine (HQ7.out _).mono ?_); rintro e w13 ⟨rfl, ho13⟩; have HO13 : Hid (Only (fun _ => False) w7 w13) := HO12.out.trans ho13 (fun _ h => h.elim); clear ho13))
              go_wp2
              go_roundw
              case rel => exact ⟨j + 1, by omega, by go_num, S, HA6.out.same (HO0.out.trans HO13.out (fun _ h => h.elim))⟩
              case measure => simp [intOf]; omega
          · have hfj := isF_iff.1 hf
            obtain ⟨jj, hjj⟩ : ∃ jj : Nat, af = (jj : Int) := ⟨af.toNat, by omega⟩
            subst hjj
            have hd3 : (0 : Int) < (jj : Int) := by omega
            have hjp : 0 < jj := by omega
            have hjn : jj < 19 := by omega
            have hd4 : (jj : Int) < 19 := by omega
            obtain ⟨csr, hbr, hcr⟩ := HA6.out.rf
            have hrg : ∀ W, Blk W r 55 csr → W.rangeAt r (jj * 2) [.int .i64 hl, .int .i64 hv] := fun W hb => by
              have hi := plF_lt hf
              have he := plF_at hf
              have hJ := hcr.j (i := plF (jj : Int)) (j := jj) hi (by omega)
              unfold hasS at hh
              rw [if_pos hf] at hh
              have e1 := hJ.hasl
              have e2 := hJ.hasv
              simp only [← hh] at e1 e2
              intro q v hq
              rw [hb.cell]
              match q, hq with
              | 0, hq => exact e1.trans hq
              | 1, hq => exact e2.trans hq
            have HRr := Lib.hid (fun ob => hrg ((wr.alloc (.cells #[.int .i64 ak, .int .i64 (jj : Int), .int .i64 al, .int .i64 av, .bool aa] 36)).alloc ob) (hbr.alloc ob))
            clear hf hfj hh hrb hwn key hrg hbr hcr
            go_wp2_with (first
              | ((with_reducible show wpList _ _ _ (⟨some 41, _, _, _, _, _⟩ :: _) _ _); refine wpList_load_mid rfl 36 _ rfl b (off + j * 5) rfl (Ac.cs ⟨ak, ⟨(jj : Int), ⟨al, av⟩, aa⟩⟩) _ HRg.out Tryd.underlying36 rfl size_act ?_)
              | ((with_reducible show wpList _ _ _ (⟨some 115, _, _, _, _, _⟩ :: _) _ _); refine wpList_load_mid rfl 39 _ rfl r (jj * 2) rfl [.int .i64 hl, .int .i64 hv] _ (HRr.out _) Tryd.underlying39 rfl size_rset ?_)
              | fail)
            have HV0 : Hid (Blk ((wr.alloc (.cells #[.int .i64 ak, .int .i64 (jj : Int), .int .i64 al, .int .i64 av, .bool aa] 36)).alloc (.cells #[.int .i64 hl, .int .i64 hv] 39)) V 39 [.int .i64 hl, .int .i64 hv]) := Blk.new' _ _ _ (by rw [hV]; try simp)
            have HX0 := Lib.hid (HX6.out.alloc (.cells #[.int .i64 hl, .int .i64 hv] 39))
            have HO0 : Hid (Only (fun _ => False) (wr.alloc (.cells #[.int .i64 ak, .int .i64 (jj : Int), .int .i64 al, .int .i64 av, .bool aa] 36)) ((wr.alloc (.cells #[.int .i64 ak, .int .i64 (jj : Int), .int .i64 al, .int .i64 av, .bool aa] 36)).alloc (.cells #[.int .i64 hl, .int .i64 hv] 39))) := (Only.refl _ _).alloc _
            have HK := Lib.hid (HKey.out _ HV0 HX0).out
            rw [← hV]
            rw [← hX]
            clear hX
            clear hV
            generalize (wr.alloc (.cells #[.int .i64 ak, .int .i64 (jj : Int), .int .i64 al, .int .i64 av, .bool aa] 36)).alloc (.cells #[.int .i64 hl, .int .i64 hv] 39) = w7 at *
            go_region_held3 (fun W => (W.cell? ⟨V, 0, none⟩ = some (.int .i64 hl) ∧ W.cell? ⟨V, 1, none⟩ = some (.int .i64 hv)) ∧ W.cell? ⟨X, 1, none⟩ = some (.int .i64 (jj : Int)) ∧ W.cell? ⟨X, 2, none⟩ = some (.int .i64 al) ∧ W.cell? ⟨X, 3, none⟩ = some (.int .i64 av) ∧ W.cell? ⟨X, 4, none⟩ = some (.bool aa))
              (first | exact HK.out _ (Only.refl _ _).drew | exact HK.out _ HO8.out | exact HK.out _ HO9.out | exact HK.out _ HO10.out | exact HK.out _ HO11.out | exact HK.out _ HO12.out | exact HK.out _ HO13.out)
              (first
                | (go_at_call 16; (with_reducible refine (HH7.out _ HO0.out.drew).mono ?_); rintro e w8 ⟨rfl, ho8⟩; have HO8 : Hid (Only (fun _ => False) w7 w8) := (Only.refl _ _).drew.trans ho8 (fun _ h => h.elim); clear ho8)
                | (go_at_call 17; (with_reducible refine (HW7.out _ (HO0.out.trans HO8.out (fun _ h => h.elim))).mono ?_); rintro e w9 ⟨rfl, ho9⟩; have HO9 : Hid (Only (fun _ => False) w7 w9) := HO8.out.trans ho9 (fun _ h => h.elim); clear ho9)
                | (go_at_call 18; (with_reducible refine (HV7.out _ (HO0.out.trans HO9.out (fun _ h => h.elim))).mono ?_); rintro e w10 ⟨rfl, ho10⟩; have HO10 : Hid (Only (fun _ => False) w7 w10) := HO9.out.trans ho10 (fun _ h => h.elim); clear ho10)
                | (go_at_call 19; (with_reducible refine (HR7.out _).mono ?_); rintro e w11 ⟨rfl, ho11⟩; have HO11 : Hid (Only (fun _ => False) w7 w11) := HO10.out.trans ho11 (fun _ h => h.elim); clear ho11)
                | (go_at_call 12; (with_reducible refine (HO7.out _).mono ?_); rintro e w12 ⟨rfl, ho12⟩; have HO12 : Hid (Only (fun _ => False) w7 w12) := HO11.out.trans ho12 (fun _ h => h.elim); clear ho12)
                | (go_at_call 20; (with_reducible refine (HQ7.out _).mono ?_); rintro e w13 ⟨rfl, ho13⟩; have HO13 : Hid (Only (fun _ => False) w7 w13) := HO12.out.trans ho13 (fun _ h => h.elim); clear ho13))
            go_wp2
            go_roundw
            case rel => exact ⟨j + 1, by omega, by go_num, S, HA6.out.same (HO0.out.trans HO13.out (fun _ h => h.elim))⟩
            case measure => simp [intOf]; omega
    · obtain rfl : j = m := by omega
      go_wp2
      go_ret
      exact ⟨rfl, HAr.out.only⟩

theorem slcActs_walk (w : World) {A A' : Option Addr} {n c m c' : Nat} {H : Type} {enc : TypeId × Value → H} {fuel fuel' : Nat} {x y : DataW H × List MemPlace}
    (hs : DataW.trod enc Tryd.prog w 0 (fun _ => true) true fuel 22 [.slice A n c] = some x) (ha : DataW.trod enc Tryd.prog w 0 (fun _ => true) true fuel' 23 [.slice A' m c'] = some y) {es : List Addr} (hes : ErrsAt w es) :
    Calls Tryd.prog 3 #[.slice A n c, .slice A' m c'] w (Fine w) := by
  obtain ⟨h1, h2, l, hl⟩ := open_sets hs
  obtain ⟨_, _, acs, hac⟩ := open_acts ha
  by_cases h : 40 < n ∨ 60 < m
  · exact acts_long w h
  · exact acts_ok w hes hl h1 h2 hac (by omega) (by omega)
end Go.Proofs.YtojnhheeholaeaaDoor
