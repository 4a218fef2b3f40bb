/- GramPrefix answers true, whatever it is called with. -/
import Derived.Test.YtbjabjkmagekfaaDoorGramLaw
import Derived.Test.YtbjabjkmagekfaaDoorOpenBytes
namespace Go.Proofs.YtbjabjkmagekfaaDoor
open Go Go.RowKit
set_option maxRecDepth 100000
set_option maxHeartbeats 8000000

theorem prefix_long {w : World} {es : List Addr} (hes : ErrsIs w [2, 4] es) (A : Option Addr) (n c : Nat) (raw : Bool) (at_ : Int) (h : 600 < n) :
    Calls Tryd.prog 4 #[.slice A n c, .bool raw, .int .i64 at_] w (Fine w) := by
  have HA := Lib.hid (galive_any hes)
  have d : decide ((600 : Int) < (n : Int)) = true := by simp; omega
  clear hes
  go_enter Tryd.func4, Tryd.ntmps4
  go_wp2_with (first | (go_at_call 7; refine HA.out.mono ?_; rintro e w1 ⟨rfl, ho1⟩))
  go_ret
  exact ⟨rfl, ho1⟩
theorem prefix_wrong {w : World} {es : List Addr} (hes : ErrsIs w [2, 4] es) (A : Option Addr) (n c : Nat) (xs : List UInt8) (hs : Src w A n xs) (hc : n ≤ c) (raw : Bool) (at_ : Int) (hn : n ≤ 600) (hp : parseFrom raw 0 xs = .none) :
    Calls Tryd.prog 4 #[.slice A n c, .bool raw, .int .i64 at_] w (Fine w) := by
  have HA := Lib.hid (galive_any hes)
  have d : decide ((600 : Int) < (n : Int)) = false := by simp; omega
  have HP : Hid (∀ W, Only (fun _ => False) w W → Calls Tryd.prog 9 #[.slice A n c, .bool raw] W fun e w' => ∃ A' c' a, e = .returned (.tuple #[.slice A' 0 c', .iface 88 (.pointer (some a))]) ∧ Hid (es[4]? = some a) ∧ Hid (Only (fun _ => False) W w')) := fun W ho => parse_wrong (hes.only ho) (hs.only ho (fun _ _ _ h => h)) c raw (by omega) hc hp
  clear hes hs hp
  go_enter Tryd.func4, Tryd.ntmps4
  go_wp2_with (first
    | (go_at_call 7; refine HA.out.mono ?_; rintro e w1 ⟨rfl, ho1⟩; have HO1 := Lib.hid ho1; clear ho1)
    | (go_at_call 9; refine (HP.out w1 HO1.out).mono ?_; rintro e w2 ⟨A2, c2, a2, rfl, ha2, ho2⟩))
  go_ret
  exact ⟨rfl, HO1.out.trans ho2.out (fun _ h => h.elim)⟩

theorem prefix_ok {w : World} {es : List Addr} (hes : ErrsIs w [2, 4] es) (A : Option Addr) (n c : Nat) (xs : List UInt8) (hs : Src w A n xs) (hc : n ≤ c) (raw : Bool) (at_ : Int) (hn : n ≤ 600) (l : List Pl) (r : Nat) (hp : parseFrom raw 0 xs = some (l, r)) :
    Calls Tryd.prog 4 #[.slice A n c, .bool raw, .int .i64 at_] w (Fine w) := by
  have HA := Lib.hid (galive_any hes)
  have d : decide ((600 : Int) < (n : Int)) = false := by simp; omega
  obtain ⟨m, hm⟩ : ∃ m, m = l.length := ⟨_, rfl⟩
  have HP : Hid (∀ W, Only (fun _ => False) w W → Calls Tryd.prog 9 #[.slice A n c, .bool raw] W fun e w' => ∃ A' c' ps, e = .returned (.tuple #[.slice A' m c', .nilIface]) ∧ Hid (List.length ps = m ∧ ps.map PlP.p = l ∧ Items w' W.heap.size (.slice A' m c') ps) ∧ Hid (Only (fun _ => False) W w')) := fun W ho => parse_good (hes.only ho) (hs.only ho (fun _ _ _ h => h)) c raw (by omega) hc hp m hm
  obtain ⟨K, hK, hKe⟩ := u64_rem at_ (n + 1) (by omega)
  obtain ⟨j, r', hp', hj, hbord⟩ := parse_prefix hp (xs.take K) (xs.drop K) (List.take_append_drop K xs).symm
  have hl := hs.1
  have hr' := (parse_rest hp').1
  have hr0 := (parse_rest hp).1
  have hKl : (xs.take K).length = K := by rw [List.length_take]; omega
  rw [hKl] at hbord hr'
  have hjl : j = (l.take j).length := by rw [List.length_take]; omega
  obtain ⟨Z, hZ⟩ : ∃ Z : Int, Z = (K : Int) := ⟨_, rfl⟩
  have hZK : Z.toNat = K := by rw [hZ]; exact Int.toNat_natCast K
  have HP2 : Hid (∀ W, Only (fun _ => False) w W → Calls Tryd.prog 9 #[.slice A Z.toNat c, .bool raw] W fun e w' => ∃ A' c' ps, e = .returned (.tuple #[.slice A' j c', .nilIface]) ∧ Hid (List.length ps = j ∧ ps.map PlP.p = l.take j ∧ Items w' W.heap.size (.slice A' j c') ps) ∧ Hid (Only (fun _ => False) W w')) := fun W ho => by
    rw [hZK]
    exact parse_good (hes.only ho) ((hs.only ho (fun _ _ _ h => h)).take K (by omega)) c raw (by omega) (by omega) hp' j hjl
  have HR2 : Hid (∀ W, Only (fun _ => False) w W → Calls Tryd.prog 13 #[.slice A Z.toNat c, .bool raw] W fun e w' => e = .returned (.int .i64 (r' : Int)) ∧ Hid (Only (fun _ => False) W w')) := fun W ho => by
    have := rest_any (c := c) (hes.only ho) ((hs.only ho (fun _ _ _ h => h)).take K (by omega)) raw (by omega) (by omega)
    rw [rest_good hp'] at this
    rw [hZK]
    exact this
  have HBo : Hid (∀ W, Only (fun _ => False) w W → Calls Tryd.prog 14 #[.slice A n c, .bool raw, .int .i64 Z] W fun e w' => e = .returned (.bool (borderOf raw xs Z)) ∧ Hid (Only (fun _ => False) W w')) := fun W ho => border_any (hes.only ho) (hs.only ho (fun _ _ _ h => h)) raw (by omega) hc _
  have hB1 : r' = 0 → borderOf raw xs Z = true := fun h0 => by
    rw [hZ]
    unfold borderOf
    rw [hp]
    simp only [Bool.or_eq_true, decide_eq_true_eq, List.any_eq_true]
    rcases hbord h0 with h | ⟨x, hx, h⟩
    · right; omega
    · left; right
      exact ⟨x, hx, by omega⟩
  have HB1 := Lib.hid hB1
  have hKe' : (IntKind.u64.wrap at_).tmod ((n : Int) + 1) = (K : Int) := by rw [← hKe]; rfl
  have hKe2 : wrap64 ((IntKind.u64.wrap at_).tmod ((n : Int) + 1)) = Z := by rw [hKe', hZ]; exact wrap64_nat K (by omega)
  have hKc : Z ≤ (c : Int) := by omega
  have hK0 : (0 : Int) ≤ Z := by omega
  have dj : decide (m < j) = false := by simp; omega
  have dr : decide (Z < (r' : Int)) = false := by simp; omega
  have hjm : j ≤ m := by omega
  have hm6 : m ≤ 600 := by have := (parse_rest hp).2; omega
  clear hes hs hp hp' hbord hr' hr0 hKl hl hjl hm hB1 hj hKe hKe' hK hZ hZK
  go_enter Tryd.func4, Tryd.ntmps4
  go_wp2_with (first
    | (go_at_call 7; refine HA.out.mono ?_; rintro e w1 ⟨rfl, ho1⟩; have HO1 := Lib.hid ho1; clear ho1)
    | (go_at_call 9; (with_reducible refine (HP.out w1 HO1.out).mono ?_); rintro e w2 ⟨A2, c2, ps2, rfl, hI2, ho2⟩; have HO2 : Hid (Only (fun _ => False) w w2) := HO1.out.trans ho2.out (fun _ h => h.elim)))
  rw [hKe2]
  clear hKe2
  refine (HP2.out w2 HO2.out).mono ?_
  rintro e w3 ⟨A3, c3, ps3, rfl, hI3, ho3⟩
  have HO3 : Hid (Only (fun _ => False) w w3) := HO2.out.trans ho3.out (fun _ h => h.elim)
  go_wp2_with (first
    | (go_at_call 13; (with_reducible refine (HR2.out w3 HO3.out).mono ?_); rintro e w4 ⟨rfl, ho4⟩; have HO4 : Hid (Only (fun _ => False) w w4) := HO3.out.trans ho4.out (fun _ h => h.elim)))
  generalize IntKind.u64.wrap at_ = U
  generalize U.tmod ((n : Int) + 1) = U2
  go_loopw [62] (fun i W => ∃ k : Nat, k ≤ j ∧ i = .int .i64 (k : Int) ∧ Hid (Only (fun _ => False) w4 W)) (fun i _ => j - (intOf i).toNat)
  case atStart => exact ⟨0, Nat.zero_le _, rfl, Only.refl _ _⟩
  case round =>
    obtain ⟨k, hk, rfl, HO⟩ := hrel
    by_cases hlt : k < j
    · obtain ⟨x, hx⟩ : ∃ x, l[k]? = some x := ⟨_, List.getElem?_eq_getElem (by have := hI2.out.1; have h2 := congrArg List.length hI2.out.2.1; rw [List.length_map] at h2; omega)⟩
      have hxt : (l.take j)[k]? = some x := by rw [List.getElem?_take, if_pos hlt]; exact hx
      obtain ⟨y, hy, hyp⟩ := item_of hI2.out.2.1 hx
      obtain ⟨z, hz, hzp⟩ := item_of hI3.out.2.1 hxt
      obtain ⟨g2, rfl, _, hg2, hr2, _⟩ := (hI2.out.2.2.same ((ho3.out.trans ho4.out (fun _ h => h.elim)).trans HO.out (fun _ h => h.elim))).at_ hy
      obtain ⟨g3, rfl, _, hg3, hr3, _⟩ := (hI3.out.2.2.same (ho4.out.trans HO.out (fun _ h => h.elim))).at_ hz
      obtain ⟨fk, hfk⟩ : ∃ fk : Int, fk = x.it.kind := ⟨_, rfl⟩
      obtain ⟨ff, hff⟩ : ∃ ff : Int, ff = (x.from_ : Int) := ⟨_, rfl⟩
      obtain ⟨ft, hft⟩ : ∃ ft : Int, ft = (x.to_ : Int) := ⟨_, rfl⟩
      have y0 : wr.cell? ⟨g2, k * 6, none⟩ = some (.int .i64 fk) := hr2 0 _ (by unfold PlP.cells; rw [hyp, hfk]; rfl)
      have y1 : wr.cell? ⟨g2, k * 6 + 1, none⟩ = some (.int .i64 ff) := hr2 1 _ (by unfold PlP.cells; rw [hyp, hff]; rfl)
      have y2 : wr.cell? ⟨g2, k * 6 + 2, none⟩ = some (.int .i64 ft) := hr2 2 _ (by unfold PlP.cells; rw [hyp, hft]; rfl)
      obtain ⟨cs, hcs⟩ : ∃ cs, cs = z.cells := ⟨_, rfl⟩
      have HRA : Hid (wr.rangeAt g3 (k * 6) cs) := by rw [hcs]; exact hr3
      have HCL : Hid (cs.length = 6) := by rw [hcs]; rfl
      have HCO : Hid (∀ v ∈ cs, v.oneCell' = true) := by rw [hcs]; exact z.cells_one
      have HC0 : Hid (cs[0]? = some (.int .i64 fk) ∧ cs[1]? = some (.int .i64 ff) ∧ cs[2]? = some (.int .i64 ft)) := by
        rw [hcs, hfk, hff, hft]
        unfold PlP.cells
        rw [hzp]
        exact ⟨rfl, rfl, rfl⟩
      have hkm : (k : Int) < (m : Int) := by omega
      have hkm' : k < m := by omega
      have n0 : (fk != fk) = false := by simp
      have n1 : (ff != ff) = false := by simp
      have n2 : (ft != ft) = false := by simp
      clear hx hxt hy hyp hz hzp hr2 hr3 hfk hff hft hcs
      go_wp2_with (first
        | ((with_reducible show wpList _ _ _ (⟨some 66, _, _, _, _, _⟩ :: _) _ _); refine wpList_load_mid rfl 42 (.tmp 65) rfl g3 (k * 6) rfl cs _ HRA.out Tryd.underlying42 rfl (by rw [HCL.out]; exact size_item) ?_)
        | ((with_reducible show wpList _ _ _ (⟨none, .store 42 _ _, _, _, _, _⟩ :: _) _ _); refine step_store rfl 42 _ _ rfl wr.heap.size rfl cs rfl _ (itCells It.none 0 0 (.slice none 0 0)) (Blk.new _ _ _) (by rw [HCL.out]; exact size_item) HCL.out.symm HCO.out ?_; intro w5 hB5 hz5 ho5; have HO5 : Hid (Only (fun _ => False) wr w5) := (((Only.refl (fun _ => False) wr).alloc _).trans ho5 (fun i hi => .inr (by omega))); have q0 : w5.cell? ⟨wr.heap.size, 0, none⟩ = some (.int .i64 fk) := (by rw [hB5.out.cell]; exact HC0.out.1); have q1 : w5.cell? ⟨wr.heap.size, 1, none⟩ = some (.int .i64 ff) := (by rw [hB5.out.cell]; exact HC0.out.2.1); have q2 : w5.cell? ⟨wr.heap.size, 2, none⟩ = some (.int .i64 ft) := (by rw [hB5.out.cell]; exact HC0.out.2.2); have r0 := HO5.out.cellv y0 (fun h => h); have r1 := HO5.out.cellv y1 (fun h => h); have r2 := HO5.out.cellv y2 (fun h => h)))
      go_quiet (fail)
      go_wp2
      go_roundw
      case rel => exact ⟨k + 1, by omega, by go_num, (HO.out.trans HO5.out (fun _ h => h.elim)).drewN _⟩
      case measure => simp [intOf]; omega
    · have HOr : Hid (Only (fun _ => False) w wr) := HO4.out.trans HO.out (fun _ h => h.elim)
      rcases Nat.eq_zero_or_pos r' with h0 | h0
      · have d0 : decide ((0 : Int) < (r' : Int)) = false := by simp; omega
        have HB2 : borderOf raw xs Z = true := HB1.out h0
        go_wp2_with (first
          | (go_at_call 13; (with_reducible refine (HR2.out wr HOr.out).mono ?_); rintro e w5 ⟨rfl, ho5⟩; have HO5 : Hid (Only (fun _ => False) w w5) := HOr.out.trans ho5.out (fun _ h => h.elim))
          | (go_at_call 14; (with_reducible refine (HBo.out w5 HO5.out).mono ?_); rintro e w6 ⟨rfl, ho6⟩))
        go_ret
        exact ⟨rfl, HO5.out.trans ho6.out (fun _ h => h.elim)⟩
      · have d0 : decide ((0 : Int) < (r' : Int)) = true := by simp; omega
        have hne : ¬ r' = 0 := by omega
        go_wp2_with (first
          | (go_at_call 13; (with_reducible refine (HR2.out wr HOr.out).mono ?_); rintro e w5 ⟨rfl, ho5⟩; have HO5 : Hid (Only (fun _ => False) w w5) := HOr.out.trans ho5.out (fun _ h => h.elim)))
        go_ret
        exact ⟨rfl, HO5.out⟩

theorem gramPrefix_walk (W : World) {H : Type} {enc : TypeId × Value → H} {fuel : Nat} {A : Option Addr} {n c : Nat} {x : DataW H × List MemPlace} (hf : DataW.trod enc Tryd.prog W 0 (fun _ => true) true fuel 22 [.slice A n c] = some x) (raw : Bool) (at_ : Int) {es : List Addr} (hes : ErrsIs W [2, 4] es) :
    Calls Tryd.prog 4 #[.slice A n c, .bool raw, .int .i64 at_] W (Fine W) := by
  obtain ⟨A', n', c', xs, e, h1, h2, h3⟩ := opened_cell hf
  injection e with e1 e2 e3
  subst e1 e2 e3
  by_cases h : 600 < n
  · exact prefix_long hes A n c raw at_ h
  · cases hp : parseFrom raw 0 xs with
    | none => exact prefix_wrong hes A n c xs h1 h2 raw at_ (by omega) hp
    | some q => exact prefix_ok hes A n c xs h1 h2 raw at_ (by omega) q.1 q.2 hp
end Go.Proofs.YtbjabjkmagekfaaDoor
