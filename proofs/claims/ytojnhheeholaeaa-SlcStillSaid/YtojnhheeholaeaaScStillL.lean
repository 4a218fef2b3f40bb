/- SlcStill, walked. -/
import Derived.Test.YtojnhheeholaeaaScAlive
import Derived.Test.YtojnhheeholaeaaScOpen
import Derived.Deep.RegionHeld3
namespace Go.Proofs.Ytojnhheeholaeaa
open Go Go.ChangeShapes Go.WideShapes Go.ChangeAt Go.RowKit
set_option maxRecDepth 100000
set_option maxHeartbeats 4000000

/-- A side all of whose settings are right. -/
def Good (S : Sd) : Prop := ∀ i, (S i).Ok
theorem newS_good (l : List Se) : Good (newS l) := newS_ok l
theorem Good.set {S : Sd} (h : Good S) (i : Nat) {c : Ch} (hc : c.Ok) : Good (S.set i c) := fun j => by
  unfold Sd.set
  split
  · exact hc
  · exact h j
theorem Good.hear {S : Sd} (h : Good S) (t : Tr) : Good (hearS S t).1 := by
  cases hr : t.right
  · rw [hearS_not hr]; exact h
  · have hx : t.x.fine = true := by unfold Tr.right at hr; rw [Bool.and_eq_true] at hr; exact hr.2
    have hc := Ch.hear_ok (h (plF t.f)) hx t.ack
    unfold hearS
    rw [if_pos hr]
    split
    · next e => rw [e] at hc; exact h.set _ hc
    · next e => rw [e] at hc; exact h.set _ hc
/-- What is told: of the same function, as the side has it then, and right. -/
theorem told_is {S : Sd} (h : Good S) (t : Tr) (ht : (hearS S t).2.2 = true) : (hearS S t).2.1.f = t.f ∧ hasS (hearS S t).1 t.f = (hearS S t).2.1.x ∧ (hearS S t).2.1.right = true := by
  cases hr : t.right
  · rw [hearS_not hr] at ht; cases ht
  · by_cases hs : t.x = (S (plF t.f)).has ∨ t.ack = true
    · rw [hearS_still hr hs] at ht; cases ht
    · rw [hearS_told hr hs]
      unfold Tr.right at hr
      rw [Bool.and_eq_true] at hr
      refine ⟨rfl, ?_, ?_⟩
      · unfold hasS
        rw [if_pos hr.1]
        show ((S.set _ _) _).has = _
        rw [Sd.set_self]
      · show (isF t.f && (ansS t.x (S (plF t.f)).holds).1.fine) = true
        rw [hr.1, (ansS_ok hr.2 (h _).2.2.1 (h _).2.2.2).1]
        rfl
/-- What draws nothing. -/
theorem still_is {S : Sd} (t : Tr) (h : t.right = false ∨ t.ack = true ∨ t.x = hasS S t.f) : (hearS S t).2 = (Tr.zero, false) ∧ hasS (hearS S t).1 t.f = hasS S t.f := by
  cases hr : t.right
  · rw [hearS_not hr]; exact ⟨rfl, rfl⟩
  · have hf : isF t.f = true := by unfold Tr.right at hr; rw [Bool.and_eq_true] at hr; exact hr.1
    have e : hasS S t.f = (S (plF t.f)).has := by unfold hasS; rw [if_pos hf]
    rw [e] at h ⊢
    have hs : t.x = (S (plF t.f)).has ∨ t.ack = true := by
      rcases h with h | h | h
      · rw [hr] at h; cases h
      · exact .inr h
      · exact .inl h
    rw [hearS_still hr hs]
    refine ⟨rfl, ?_⟩
    unfold hasS
    rw [if_pos hf]
    show ((S.set _ _) _).has = _
    rw [Sd.set_self]
theorem moved_is {S : Sd} (t : Tr) (h : ¬ (t.right = false ∨ t.ack = true ∨ t.x = hasS S t.f)) : (hearS S t).2.2 = true := by
  cases hr : t.right
  · exact absurd (.inl hr) h
  · have hf : isF t.f = true := by unfold Tr.right at hr; rw [Bool.and_eq_true] at hr; exact hr.1
    have e : hasS S t.f = (S (plF t.f)).has := by unfold hasS; rw [if_pos hf]
    rw [e] at h
    rw [hearS_told hr (fun hs => h (hs.elim (fun h => .inr (.inr h)) (fun h => .inr (.inl h))))]
theorem eq_tri0 (W : World) : (Op.equalIn 10000 27 (.agg #[.int .i64 0, .int .i64 0, .int .i64 0, .bool false]) (.agg #[.int .i64 0, .int .i64 0, .int .i64 0, .bool false])).run Try.prog W = .ok true W := by kernel_rfl
theorem guard_tri : Try.prog.eqGuardType Try.prog.depth 27 = false := by kernel_rfl

theorem still_long (w : World) {A A' : Option Addr} {n c m c' : Nat} (t : Tr) (h : 40 < n ∨ 60 < m) : Calls Try.prog 3 #[.slice A n c, .slice A' m c', t.val] w (Fine w) := by
  have HA := Lib.hid (fun W => sc_alive W)
  obtain ⟨f, ⟨l, v⟩, k⟩ := t
  have hh : decide ((40 : Int) < (n : Int)) = true ∨ (decide ((40 : Int) < (n : Int)) = false ∧ decide ((60 : Int) < (m : Int)) = true) := by
    by_cases h1 : 40 < n
    · exact .inl (by simp; omega)
    · exact .inr ⟨by simp; omega, by simp; omega⟩
  clear h
  rcases hh with hd | ⟨hd, hd2⟩
  all_goals
    go_enter Try.func3, Try.ntmps3
    go_wp2_with (go_at_call 4; refine (HA.out _).mono ?_; rintro e w1 ⟨rfl, ho1⟩; have HO1 : Hid (Only (fun _ => False) w w1) := ((Only.refl _ _).alloc _).trans ho1 (fun _ h => h.elim); clear ho1)
    go_ret
    exact ⟨rfl, HO1.out⟩

theorem size_act : (Try.prog.info? 32).map (·.size) = some 5 := by kernel_rfl
theorem still_ok (w : World) {A A' : Option Addr} {n c m c' : Nat} {l : List Se} {acs : List Ac} (hs : StAt w A n l) (hnc : n ≤ c) (hc : c ≤ 9223372036854775807) (ha : AcAt w A' m acs) (t : Tr) (hn : n ≤ 40) (hm : m ≤ 60) :
    Calls Try.prog 3 #[.slice A n c, .slice A' m c', t.val] w (Fine w) := by
  have HA := Lib.hid (fun W => sc_alive W)
  have HN : Hid (∀ W, Only (fun _ => False) w W → Calls Try.prog 5 #[.slice A n c] W fun e w' => ∃ p, e = .returned (.pointer (some ⟨p, 0, none⟩)) ∧ SdAt w' p (newS l) ∧ W.heap.size ≤ p ∧ Only (fun _ => False) W w') := fun W ho => new_any (hs.same ho) hnc hc
  have HH : Hid (∀ W p S (t : Tr), SdAt W p S → _) := fun W p S t (h : SdAt W p S) => hear_any h t
  have HHas : Hid (∀ W p S f, SdAt W p S → _) := fun W p S f (h : SdAt W p S) => has_any h f
  have HR := Lib.hid (fun W t => right_any W t)
  have HAc := Lib.hid ha
  have HG := Lib.hid (newS_good l)
  have hd : decide ((40 : Int) < (n : Int)) = false := by simp; omega
  have hd2 : decide ((60 : Int) < (m : Int)) = false := by simp; omega
  obtain ⟨f, ⟨lv, vv⟩, k⟩ := t
  obtain ⟨T, hT⟩ : ∃ T : Tr, T = ⟨f, ⟨lv, vv⟩, k⟩ := ⟨_, rfl⟩
  have HT := Lib.hid hT
  clear hs hnc hc ha hT
  go_enter Try.func3, Try.ntmps3
  go_wp2_with (first
    | (go_at_call 4; refine (HA.out _).mono ?_; rintro e w1 ⟨rfl, ho1⟩; have HO1 : Hid (Only (fun _ => False) w w1) := ((Only.refl _ _).alloc _).trans ho1 (fun _ h => h.elim); have HB1 : Hid (Blk w1 w.heap.size 27 (Tr.cs ⟨f, ⟨lv, vv⟩, k⟩)) := (Blk.new w _ _).only ho1 (fun h => h); clear ho1)
    | (go_at_call 5; refine (HN.out _ HO1.out).mono ?_; rintro e w2 ⟨p, rfl, hs2, hp2, ho2⟩; have HS2 := Lib.hid hs2; have HP2 : Hid (w1.heap.size ≤ p) := hp2; have HO2 : Hid (Only (fun _ => False) w w2) := HO1.out.trans ho2 (fun _ h => h.elim); have HB2 := Lib.hid (HB1.out.only ho2 (fun h => h)); clear hs2 hp2 ho2)
    | fail)
  obtain ⟨N, hN⟩ : ∃ N, N = w.heap.size := ⟨_, rfl⟩
  have HNw := Lib.hid hN
  have hNp : N < p := by have := HB1.out.lt; have := HP2.out; omega
  rw [← hN] at HB2 ⊢
  clear hN HB1
  go_loopw [33] (fun i W => ∃ k : Nat, k ≤ m ∧ i = .int .i64 (k : Int) ∧ Hid (∃ S, SdAt W p S ∧ Good S ∧ Only (fun i => i = p) w2 W)) (fun i _ => m - (intOf i).toNat)
  case atStart => exact ⟨0, Nat.zero_le _, rfl, newS l, HS2.out, HG.out, Only.refl _ _⟩
  case round =>
    obtain ⟨j, hj, rfl, hrel⟩ := hrel
    obtain ⟨S, hS, hgd, hon⟩ := hrel.out
    have HS := Lib.hid hS
    have HGd := Lib.hid hgd
    have HOn := Lib.hid hon
    have HOw : Hid (Only (fun _ => False) w wr) := HO2.out.trans hon (fun i hi => .inr (by have := HNw.out; omega))
    have HBn := Lib.hid (HB2.out.only hon (by omega))
    clear hrel hS hgd hon
    by_cases hlt : j < m
    · have hlt2 : (j : Int) < (m : Int) := by omega
      obtain ⟨x, hx⟩ : ∃ x, acs[j]? = some x := ⟨_, List.getElem?_eq_getElem (by rw [HAc.out.1]; exact hlt)⟩
      obtain ⟨b, off, rfl, hbl, hrg⟩ := (HAc.out.same HOw.out).2 j x hx
      have HRg := Lib.hid hrg
      obtain ⟨ak, af, ⟨al, av⟩, aa⟩ := x
      obtain ⟨U, hU⟩ : ∃ U : Tr, U = ⟨af, ⟨al, av⟩, aa⟩ := ⟨_, rfl⟩
      have HHU := Lib.hid (fun W (h : SdAt W p S) => HH.out W p S U h)
      obtain ⟨S', ⟨uf, ⟨ul, uv⟩, ua⟩, is, hHr⟩ : ∃ S' u is, hearS S U = (S', u, is) := ⟨_, _, _, rfl⟩
      have hto := told_is HGd.out U
      have hg' := HGd.out.hear U
      rw [hHr] at HHU hto hg'
      have HGd' := Lib.hid hg'
      have HTo := Lib.hid hto
      rw [hU] at HHU HTo
      clear hrg hx hHr hg' hto hU
      by_cases hk0 : ak = 0
      · subst hk0
        cases is
        · go_wp2_with (first
            | ((with_reducible show wpList _ _ _ (⟨some 36, _, _, _, _, _⟩ :: _) _ _); refine wpList_load_mid rfl 32 _ rfl b (off + j * 5) rfl (Ac.cs ⟨0, ⟨af, ⟨al, av⟩, aa⟩⟩) _ HRg.out Try.underlying32 rfl size_act ?_)
            | (go_at_call 6; refine (HHU.out _ (HS.out.same ((Only.refl _ _).alloc _))).mono ?_; rintro e w3 ⟨rfl, hs3, ho3⟩; have HS3 := Lib.hid hs3; have HO3 : Hid (Only (fun i => i = p) wr w3) := ((Only.refl _ _).alloc _).trans ho3 (fun i hi => .inl hi); have HX3 : Hid (Blk w3 wr.heap.size 32 (Ac.cs ⟨0, ⟨af, ⟨al, av⟩, aa⟩⟩)) := (Blk.new wr _ _).only ho3 (by have := HS.out.lt; omega); clear hs3 ho3)
            | fail)
          go_quiet (fail)
          have HS4 := Lib.hid (HS3.out.same (((Only.refl _ _).alloc (.cells #[.int .i64 uf, .int .i64 ul, .int .i64 uv, .bool ua] 27)).drewN nq))
          have HO4 := Lib.hid ((HOn.out.trans HO3.out (fun i hi => .inl hi)).trans (((Only.refl (fun _ => False) _).alloc (.cells #[.int .i64 uf, .int .i64 ul, .int .i64 uv, .bool ua] 27)).drewN nq) (fun _ h => h.elim))
          generalize ((w3.alloc (.cells #[.int .i64 uf, .int .i64 ul, .int .i64 uv, .bool ua] 27)).drewN nq) = w4 at *
          go_wp2
          go_roundw
          case rel => exact ⟨j + 1, by omega, by go_num, S', HS4.out, HGd'.out, HO4.out⟩
          case measure => simp [intOf]; omega
        · obtain ⟨hto1, hto2, hto3⟩ := HTo.out rfl
          simp only at hto1 hto2
          subst hto1
          have HRU := Lib.hid (fun W => HR.out W ⟨uf, ⟨ul, uv⟩, ua⟩)
          rw [hto3] at HRU
          have HHU2 := Lib.hid (fun W (h : SdAt W p S') => HHas.out W p S' uf h)
          rw [hto2] at HHU2
          have heq : ∀ W, _ := fun W => same_set W ul uv
          have hgr := guard_set
          clear hto2 hto3 HTo
          go_wp2_with (first
            | ((with_reducible show wpList _ _ _ (⟨some 36, _, _, _, _, _⟩ :: _) _ _); refine wpList_load_mid rfl 32 _ rfl b (off + j * 5) rfl (Ac.cs ⟨0, ⟨uf, ⟨al, av⟩, aa⟩⟩) _ HRg.out Try.underlying32 rfl size_act ?_)
            | (go_at_call 6; refine (HHU.out _ (HS.out.same ((Only.refl _ _).alloc _))).mono ?_; rintro e w3 ⟨rfl, hs3, ho3⟩; have HS3 := Lib.hid hs3; have HO3 : Hid (Only (fun i => i = p) wr w3) := ((Only.refl _ _).alloc _).trans ho3 (fun i hi => .inl hi); have HX3 : Hid (Blk w3 wr.heap.size 32 (Ac.cs ⟨0, ⟨uf, ⟨al, av⟩, aa⟩⟩)) := (Blk.new wr _ _).only ho3 (by have := HS.out.lt; omega); clear hs3 ho3)
            | fail)
          have HS4 := Lib.hid (HS3.out.same ((Only.refl _ _).alloc (.cells #[.int .i64 uf, .int .i64 ul, .int .i64 uv, .bool ua] 27)))
          have HO4 := Lib.hid ((HOn.out.trans HO3.out (fun i hi => .inl hi)).alloc (.cells #[.int .i64 uf, .int .i64 ul, .int .i64 uv, .bool ua] 27))
          have HX4 := Lib.hid (HX3.out.alloc (.cells #[.int .i64 uf, .int .i64 ul, .int .i64 uv, .bool ua] 27))
          have HY4 := Lib.hid (Blk.new w3 27 [.int .i64 uf, .int .i64 ul, .int .i64 uv, .bool ua])
          obtain ⟨Y, hY⟩ : ∃ Y, Y = w3.heap.size := ⟨_, rfl⟩
          obtain ⟨X, hX⟩ : ∃ X, X = wr.heap.size := ⟨_, rfl⟩
          rw [← hY] at HY4 ⊢
          rw [← hX] at HX4 ⊢
          clear hY hX HX3
          generalize w3.alloc (.cells #[.int .i64 uf, .int .i64 ul, .int .i64 uv, .bool ua] 27) = w4 at *
          have HK : Hid (∀ W, Only (fun _ => False) w4 W → (W.cell? ⟨Y, 0, none⟩ = some (.int .i64 uf) ∧ W.cell? ⟨Y, 1, none⟩ = some (.int .i64 ul) ∧ W.cell? ⟨Y, 2, none⟩ = some (.int .i64 uv) ∧ W.cell? ⟨Y, 3, none⟩ = some (.bool ua)) ∧ W.cell? ⟨X, 1, none⟩ = some (.int .i64 uf)) := fun W ho =>
            ⟨⟨(HY4.out.only ho (fun h => h)).cell 0, (HY4.out.only ho (fun h => h)).cell 1, (HY4.out.only ho (fun h => h)).cell 2, (HY4.out.only ho (fun h => h)).cell 3⟩, (HX4.out.only ho (fun h => h)).cell 1⟩
          go_region_held3 (fun W => (W.cell? ⟨Y, 0, none⟩ = some (.int .i64 uf) ∧ W.cell? ⟨Y, 1, none⟩ = some (.int .i64 ul) ∧ W.cell? ⟨Y, 2, none⟩ = some (.int .i64 uv) ∧ W.cell? ⟨Y, 3, none⟩ = some (.bool ua)) ∧ W.cell? ⟨X, 1, none⟩ = some (.int .i64 uf))
            (first | exact HK.out _ (Only.refl _ _).drew | exact HK.out _ HO5.out | exact HK.out _ HO6.out)
            (first
              | (go_at_call 7; (with_reducible refine (HHU2.out _ (HS4.out.same (Only.refl _ _).drew)).mono ?_); rintro e w5 ⟨rfl, ho5⟩; have HO5 : Hid (Only (fun _ => False) w4 w5) := (Only.refl _ _).drew.trans ho5 (fun _ h => h.elim); clear ho5)
              | (go_at_call 8; (with_reducible refine (HRU.out _).mono ?_); rintro e w6 ⟨rfl, ho6⟩; have HO6 : Hid (Only (fun _ => False) w4 w6) := HO5.out.trans ho6 (fun _ h => h.elim); clear ho6))
          go_wp2
          go_roundw
          case rel => exact ⟨j + 1, by omega, by go_num, S', HS4.out.same HO6.out, HGd'.out, HO4.out.trans HO6.out (fun _ h => h.elim)⟩
          case measure => simp [intOf]; omega
      · have hk1 : (ak == 0) = false := by simp [hk0]
        clear hk0
        go_wp2_with (first
          | ((with_reducible show wpList _ _ _ (⟨some 36, _, _, _, _, _⟩ :: _) _ _); refine wpList_load_mid rfl 32 _ rfl b (off + j * 5) rfl (Ac.cs ⟨ak, ⟨af, ⟨al, av⟩, aa⟩⟩) _ HRg.out Try.underlying32 rfl size_act ?_)
          | fail)
        go_roundw
        case rel => exact ⟨j + 1, by omega, by go_num, S, HS.out.same ((Only.refl _ _).alloc _), HGd.out, HOn.out.alloc _⟩
        case measure => simp [intOf]; omega
    · obtain rfl : j = m := by omega
      have hT : T = ⟨f, ⟨lv, vv⟩, k⟩ := HT.out
      obtain ⟨⟨hl, hv⟩, hh⟩ : ∃ x, x = hasS S f := ⟨_, rfl⟩
      obtain ⟨S', ⟨uf, ⟨ul, uv⟩, ua⟩, is, hHr⟩ : ∃ S' u is, hearS S T = (S', u, is) := ⟨_, _, _, rfl⟩
      have H1 : Hid (∀ W, SdAt W p S → Calls Try.prog 7 #[.pointer (some ⟨p, 0, none⟩), .int .i64 f] W fun e w' => e = .returned (Se.val ⟨hl, hv⟩) ∧ Only (fun _ => False) W w') := fun W h => by
        have := HHas.out W p S f h
        rwa [← hh] at this
      have H2 : Hid (∀ W, SdAt W p S → Calls Try.prog 6 #[.pointer (some ⟨p, 0, none⟩), Tr.val ⟨f, ⟨lv, vv⟩, k⟩] W fun e w' => e = .returned (.tuple #[Tr.val ⟨uf, ⟨ul, uv⟩, ua⟩, .bool is]) ∧ SdAt w' p S' ∧ Only (· = p) W w') := fun W h => by
        have := HH.out W p S T h
        rw [hHr, hT] at this
        exact this
      have hst := still_is (S := S) T
      have hmv := moved_is (S := S) T
      have hto := told_is HGd.out T
      have e1 : hasS S T.f = ⟨hl, hv⟩ := by rw [hh, hT]
      have e2 : T.x = ⟨lv, vv⟩ := by rw [hT]
      have e3 : T.ack = k := by rw [hT]
      have e4 : hasS S' T.f = hasS S' f := by rw [hT]
      rw [hHr, e1, e2, e3] at hst hmv
      rw [hHr] at hto
      simp only at hst hmv hto
      rw [e4] at hst hto
      have HRT := Lib.hid (fun W => HR.out W T)
      obtain ⟨r, hr⟩ : ∃ r, r = T.right := ⟨_, rfl⟩
      rw [← hr] at hst hmv HRT
      rw [hT] at HRT
      have heq1 : ∀ W, _ := fun W => eq_set W lv vv hl hv
      obtain ⟨g, hg⟩ : ∃ g, g = decide ((⟨lv, vv⟩ : Se) = ⟨hl, hv⟩) := ⟨_, rfl⟩
      rw [← hg] at heq1
      have hgr := guard_set
      have HB3 := HBn.out
      clear hlt HHas HR HN HA HH HT hh e1 e2 e3 e4 hr hHr hT
      by_cases hc : r = false ∨ k = true ∨ (⟨lv, vv⟩ : Se) = ⟨hl, hv⟩
      · obtain ⟨hz, hhas⟩ := hst hc
        simp only [Prod.mk.injEq] at hz
        obtain ⟨hu, rfl⟩ := hz
        simp only [Tr.zero, Tr.mk.injEq, Se.mk.injEq] at hu
        obtain ⟨rfl, ⟨rfl, rfl⟩, rfl⟩ := hu
        have hc3 : r = false ∨ (r = true ∧ k = true) ∨ (r = true ∧ k = false ∧ g = true) := by
          rcases hc with h | h | h
          · exact .inl h
          · cases r
            · exact .inl rfl
            · exact .inr (.inl ⟨rfl, h⟩)
          · cases r
            · exact .inl rfl
            · cases k
              · exact .inr (.inr ⟨rfl, rfl, by rw [hg]; exact decide_eq_true h⟩)
              · exact .inr (.inl ⟨rfl, rfl⟩)
        have H3 : Hid (∀ W, SdAt W p S' → Calls Try.prog 7 #[.pointer (some ⟨p, 0, none⟩), .int .i64 f] W fun e w' => e = .returned (Se.val ⟨hl, hv⟩) ∧ Only (fun _ => False) W w') := fun W h => by
          have := has_any h f
          rwa [hhas] at this
        have heq2 : ∀ W, _ := fun W => same_set W hl hv
        have heq3 : ∀ W, _ := fun W => eq_tri0 W
        have hgr3 := guard_tri
        clear hst hmv hto hc hhas hg
        have HKN : Hid (∀ W, Blk W N 27 (Tr.cs ⟨f, ⟨lv, vv⟩, k⟩) → W.cell? ⟨N, 0, none⟩ = some (.int .i64 f) ∧ W.cell? ⟨N, 1, none⟩ = some (.int .i64 lv) ∧ W.cell? ⟨N, 2, none⟩ = some (.int .i64 vv) ∧ W.cell? ⟨N, 3, none⟩ = some (.bool k)) := fun W h => ⟨h.cell 0, h.cell 1, h.cell 2, h.cell 3⟩
        rcases hc3 with rfl | ⟨rfl, rfl⟩ | ⟨rfl, rfl, rfl⟩
        all_goals
          have b0 : wr.cell? ⟨N, 0, none⟩ = some (.int .i64 f) := HB3.cell 0
          have HB3 := Lib.hid HB3
          have hwr := HS.out.lt
          go_wp2_with (first
            | ((with_reducible show Calls _ 7 _ _ _); refine (H1.out _ HS.out).mono ?_; rintro e w3 ⟨rfl, ho3⟩; have HL3 : Hid (p < w3.heap.size) := Nat.lt_of_lt_of_le HS.out.lt ho3.size; have HO3 : Hid (Only (fun _ => False) wr (w3.alloc (.cells #[.int .i64 hl, .int .i64 hv] 25))) := ho3.alloc _; have HV3 := Lib.hid (Blk.new w3 25 [.int .i64 hl, .int .i64 hv]); obtain ⟨n0, n1, n2, n3⟩ := HKN.out (w3.alloc (.cells #[.int .i64 hl, .int .i64 hv] 25)) ((HB3.out.only ho3 (fun h => h)).alloc _); clear ho3)
            | (go_at_call 8; refine (HRT.out _).mono ?_; rintro e w4 ⟨rfl, ho4⟩; have HO4 : Hid (Only (fun _ => False) wr w4) := HO3.out.trans ho4 (fun _ h => h.elim); have HV4 := Lib.hid (HV3.out.only ho4 (fun h => h)); obtain ⟨v0, v1⟩ : w4.cell? ⟨w3.heap.size, 0, none⟩ = some (.int .i64 hl) ∧ w4.cell? ⟨w3.heap.size, 1, none⟩ = some (.int .i64 hv) := ⟨HV4.out.cell 0, HV4.out.cell 1⟩; obtain ⟨m0, m1, m2, m3⟩ := HKN.out w4 (HB3.out.only HO4.out (fun h => h)); clear ho4 n0 n1 n2 n3)
            | ((with_reducible show Calls _ 6 _ _ _); refine (H2.out _ (HS.out.same HO4.out)).mono ?_; rintro e w5 ⟨rfl, hs5, ho5⟩; have HS5 := Lib.hid hs5; have HO5 := Lib.hid ho5; clear hs5 ho5)
            | fail)
          obtain ⟨V, hV⟩ : ∃ V, V = w3.heap.size := ⟨_, rfl⟩
          have hVp : V ≠ p := by have := HL3.out; omega
          rw [← hV] at HV4 ⊢
          have HN5 := Lib.hid (((HB3.out.only HO4.out (fun h => h)).only HO5.out (by omega)).alloc (.cells #[.int .i64 0, .int .i64 0, .int .i64 0, .bool false] 27))
          have HV5 := Lib.hid ((HV4.out.only HO5.out (by omega)).alloc (.cells #[.int .i64 0, .int .i64 0, .int .i64 0, .bool false] 27))
          have HZ5 := Lib.hid (Blk.new w5 27 [.int .i64 0, .int .i64 0, .int .i64 0, .bool false])
          have HS6 := Lib.hid (HS5.out.same ((Only.refl _ _).alloc (.cells #[.int .i64 0, .int .i64 0, .int .i64 0, .bool false] 27)))
          have HO6 : Hid (Only (fun _ => False) w (w5.alloc (.cells #[.int .i64 0, .int .i64 0, .int .i64 0, .bool false] 27))) := ((HOw.out.trans HO4.out (fun _ h => h.elim)).trans HO5.out (fun i hi => .inr (by have := HNw.out; omega))).alloc _
          obtain ⟨Z, hZ⟩ : ∃ Z, Z = w5.heap.size := ⟨_, rfl⟩
          rw [← hZ] at HZ5 ⊢
          generalize w5.alloc (.cells #[.int .i64 0, .int .i64 0, .int .i64 0, .bool false] 27) = w6 at *
          clear hV hZ HV3 HV4 v0 v1 m0 m1 m2 m3
          have HK : Hid (∀ W, Only (fun _ => False) w6 W → (W.cell? ⟨Z, 0, none⟩ = some (.int .i64 0) ∧ W.cell? ⟨Z, 1, none⟩ = some (.int .i64 0) ∧ W.cell? ⟨Z, 2, none⟩ = some (.int .i64 0) ∧ W.cell? ⟨Z, 3, none⟩ = some (.bool false)) ∧ W.cell? ⟨V, 0, none⟩ = some (.int .i64 hl) ∧ W.cell? ⟨V, 1, none⟩ = some (.int .i64 hv) ∧ W.cell? ⟨N, 0, none⟩ = some (.int .i64 f)) := fun W ho =>
            ⟨⟨(HZ5.out.only ho (fun h => h)).cell 0, (HZ5.out.only ho (fun h => h)).cell 1, (HZ5.out.only ho (fun h => h)).cell 2, (HZ5.out.only ho (fun h => h)).cell 3⟩, (HV5.out.only ho (fun h => h)).cell 0, (HV5.out.only ho (fun h => h)).cell 1, (HN5.out.only ho (fun h => h)).cell 0⟩
          go_region_held3 (fun W => (W.cell? ⟨Z, 0, none⟩ = some (.int .i64 0) ∧ W.cell? ⟨Z, 1, none⟩ = some (.int .i64 0) ∧ W.cell? ⟨Z, 2, none⟩ = some (.int .i64 0) ∧ W.cell? ⟨Z, 3, none⟩ = some (.bool false)) ∧ W.cell? ⟨V, 0, none⟩ = some (.int .i64 hl) ∧ W.cell? ⟨V, 1, none⟩ = some (.int .i64 hv) ∧ W.cell? ⟨N, 0, none⟩ = some (.int .i64 f))
            (first | exact HK.out _ (Only.refl _ _).drew | exact HK.out _ HO7.out)
            (first
              | (go_at_call 7; (with_reducible refine (H3.out _ (HS6.out.same (Only.refl _ _).drew)).mono ?_); rintro e w7 ⟨rfl, ho7⟩; have HO7 : Hid (Only (fun _ => False) w6 w7) := (Only.refl _ _).drew.trans ho7 (fun _ h => h.elim); clear ho7))
          go_wp2
          go_ret
          exact ⟨rfl, HO6.out.trans HO7.out (fun _ h => h.elim)⟩
      · obtain rfl : is = true := hmv hc
        have hhas := (hto rfl).2.1
        obtain rfl : r = true := by
          cases r
          · exact absurd (.inl rfl) hc
          · rfl
        obtain rfl : k = false := by
          cases k
          · rfl
          · exact absurd (.inr (.inl rfl)) hc
        obtain rfl : g = false := by
          rw [hg]
          exact decide_eq_false (fun e => hc (.inr (.inr e)))
        have H3 : Hid (∀ W, SdAt W p S' → Calls Try.prog 7 #[.pointer (some ⟨p, 0, none⟩), .int .i64 f] W fun e w' => e = .returned (Se.val ⟨ul, uv⟩) ∧ Only (fun _ => False) W w') := fun W h => by
          have := has_any h f
          rwa [hhas] at this
        have heq2 : ∀ W, _ := fun W => same_set W ul uv
        have HKN : Hid (∀ W, Blk W N 27 (Tr.cs ⟨f, ⟨lv, vv⟩, false⟩) → W.cell? ⟨N, 0, none⟩ = some (.int .i64 f) ∧ W.cell? ⟨N, 1, none⟩ = some (.int .i64 lv) ∧ W.cell? ⟨N, 2, none⟩ = some (.int .i64 vv) ∧ W.cell? ⟨N, 3, none⟩ = some (.bool false)) := fun W h => ⟨h.cell 0, h.cell 1, h.cell 2, h.cell 3⟩
        clear hst hmv hto hc hhas hg
        have b0 : wr.cell? ⟨N, 0, none⟩ = some (.int .i64 f) := HB3.cell 0
        have HB3 := Lib.hid HB3
        have hwr := HS.out.lt
        go_wp2_with (first
          | ((with_reducible show Calls _ 7 _ _ _); refine (H1.out _ HS.out).mono ?_; rintro e w3 ⟨rfl, ho3⟩; have HL3 : Hid (p < w3.heap.size) := Nat.lt_of_lt_of_le HS.out.lt ho3.size; have HO3 : Hid (Only (fun _ => False) wr (w3.alloc (.cells #[.int .i64 hl, .int .i64 hv] 25))) := ho3.alloc _; have HV3 := Lib.hid (Blk.new w3 25 [.int .i64 hl, .int .i64 hv]); obtain ⟨n0, n1, n2, n3⟩ := HKN.out (w3.alloc (.cells #[.int .i64 hl, .int .i64 hv] 25)) ((HB3.out.only ho3 (fun h => h)).alloc _); clear ho3)
          | (go_at_call 8; refine (HRT.out _).mono ?_; rintro e w4 ⟨rfl, ho4⟩; have HO4 : Hid (Only (fun _ => False) wr w4) := HO3.out.trans ho4 (fun _ h => h.elim); have HV4 := Lib.hid (HV3.out.only ho4 (fun h => h)); obtain ⟨v0, v1⟩ : w4.cell? ⟨w3.heap.size, 0, none⟩ = some (.int .i64 hl) ∧ w4.cell? ⟨w3.heap.size, 1, none⟩ = some (.int .i64 hv) := ⟨HV4.out.cell 0, HV4.out.cell 1⟩; obtain ⟨m0, m1, m2, m3⟩ := HKN.out w4 (HB3.out.only HO4.out (fun h => h)); clear ho4 n0 n1 n2 n3)
          | ((with_reducible show Calls _ 6 _ _ _); refine (H2.out _ (HS.out.same HO4.out)).mono ?_; rintro e w5 ⟨rfl, hs5, ho5⟩; have HS5 := Lib.hid hs5; have HO5 := Lib.hid ho5; clear hs5 ho5)
          | fail)
        obtain ⟨V, hV⟩ : ∃ V, V = w3.heap.size := ⟨_, rfl⟩
        have hVp : V ≠ p := by have := HL3.out; omega
        rw [← hV] at HV4 ⊢
        have HN5 := Lib.hid (((HB3.out.only HO4.out (fun h => h)).only HO5.out (by omega)).alloc (.cells #[.int .i64 uf, .int .i64 ul, .int .i64 uv, .bool ua] 27))
        have HV5 := Lib.hid ((HV4.out.only HO5.out (by omega)).alloc (.cells #[.int .i64 uf, .int .i64 ul, .int .i64 uv, .bool ua] 27))
        have HZ5 := Lib.hid (Blk.new w5 27 [.int .i64 uf, .int .i64 ul, .int .i64 uv, .bool ua])
        have HS6 := Lib.hid (HS5.out.same ((Only.refl _ _).alloc (.cells #[.int .i64 uf, .int .i64 ul, .int .i64 uv, .bool ua] 27)))
        have HO6 : Hid (Only (fun _ => False) w (w5.alloc (.cells #[.int .i64 uf, .int .i64 ul, .int .i64 uv, .bool ua] 27))) := ((HOw.out.trans HO4.out (fun _ h => h.elim)).trans HO5.out (fun i hi => .inr (by have := HNw.out; omega))).alloc _
        obtain ⟨Z, hZ⟩ : ∃ Z, Z = w5.heap.size := ⟨_, rfl⟩
        rw [← hZ] at HZ5 ⊢
        generalize w5.alloc (.cells #[.int .i64 uf, .int .i64 ul, .int .i64 uv, .bool ua] 27) = w6 at *
        clear hV hZ HV3 HV4 v0 v1 m0 m1 m2 m3
        have HK : Hid (∀ W, Only (fun _ => False) w6 W → W.cell? ⟨Z, 1, none⟩ = some (.int .i64 ul) ∧ W.cell? ⟨Z, 2, none⟩ = some (.int .i64 uv) ∧ W.cell? ⟨N, 0, none⟩ = some (.int .i64 f)) := fun W ho =>
          ⟨(HZ5.out.only ho (fun h => h)).cell 1, (HZ5.out.only ho (fun h => h)).cell 2, (HN5.out.only ho (fun h => h)).cell 0⟩
        go_region_held3 (fun W => W.cell? ⟨Z, 1, none⟩ = some (.int .i64 ul) ∧ W.cell? ⟨Z, 2, none⟩ = some (.int .i64 uv) ∧ W.cell? ⟨N, 0, none⟩ = some (.int .i64 f))
          (first | exact HK.out _ (Only.refl _ _).drew | exact HK.out _ HO7.out)
          (first
            | (go_at_call 7; (with_reducible refine (H3.out _ (HS6.out.same (Only.refl _ _).drew)).mono ?_); rintro e w7 ⟨rfl, ho7⟩; have HO7 : Hid (Only (fun _ => False) w6 w7) := (Only.refl _ _).drew.trans ho7 (fun _ h => h.elim); clear ho7))
        go_wp2
        go_ret
        exact ⟨rfl, HO6.out.trans HO7.out (fun _ h => h.elim)⟩

theorem slcStill_walk (w : World) {A A' : Option Addr} {n c m c' : Nat} {H : Type} {enc : TypeId × Value → H} {fuel fuel' : Nat} {x y : DataW H × List MemPlace} {t : Tr}
    (hs : DataW.trod enc Try.prog w 0 (fun _ => true) true fuel 22 [.slice A n c] = some x) (ha : DataW.trod enc Try.prog w 0 (fun _ => true) true fuel' 23 [.slice A' m c'] = some y) (_ : True) :
    Calls Try.prog 3 #[.slice A n c, .slice A' m c', t.val] w (Fine w) := by
  obtain ⟨h1, h2, l, hl⟩ := open_sets hs
  obtain ⟨_, _, acs, hac⟩ := open_acts ha
  by_cases h : 40 < n ∨ 60 < m
  · exact still_long w t h
  · exact still_ok w hl h1 h2 hac t (by omega) (by omega)
end Go.Proofs.Ytojnhheeholaeaa
