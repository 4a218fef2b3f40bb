/- StreamParts, walked: it answers true, whatever it is called with. -/
import Derived.Test.YtpabhgkamekcnaaDoorSAlive
import Derived.Test.YtpabhgkamekcnaaDoorSLists
import Derived.BigQuiet
namespace Go.Proofs.YtpabhgkamekcnaaDoor
open Go Go.RowKit
set_option maxRecDepth 100000

theorem sparts_many (w : World) (A : Option Addr) (n c : Nat) (M : Option Addr) (k kc : Nat) (P : Option Addr) (r rc : Nat) (hc : n ≤ 9223372036854775807) (hc2 : k ≤ 9223372036854775807) (hc3 : r ≤ 9223372036854775807) (h : 300 < n ∨ 40 < k ∨ 60 < r) {es : List Addr} (hes : ErrsOf w [0, 1, 13] es) :
    Calls Tryd.prog 4 #[.slice A n c, .slice M k kc, .slice P r rc] w (Fine w) := by
  have h' : 300 < n ∨ (n ≤ 300 ∧ 40 < k) ∨ (n ≤ 300 ∧ k ≤ 40 ∧ 60 < r) := by omega
  have HC := Lib.hid (salive_any w hes)
  clear hes h
  rcases h' with h1 | ⟨h1, h2⟩ | ⟨h1, h2, h3⟩
  · go_enter Tryd.func4, Tryd.ntmps4
    go_wp2_with fail
    refine HC.out.mono ?_
    rintro e w1 ⟨rfl, ho1⟩
    go_wp2
    go_ret
    exact ⟨rfl, ho1⟩
  · have b1 : decide ((300 : Int) < (n : Int)) = false := by simp; omega
    have b2 : decide ((40 : Int) < (k : Int)) = true := by simp; omega
    go_enter Tryd.func4, Tryd.ntmps4
    go_wp2_with fail
    refine HC.out.mono ?_
    rintro e w1 ⟨rfl, ho1⟩
    go_wp2
    go_ret
    exact ⟨rfl, ho1⟩
  · have b1 : decide ((300 : Int) < (n : Int)) = false := by simp; omega
    have b2 : decide ((40 : Int) < (k : Int)) = false := by simp; omega
    have b3 : decide ((60 : Int) < (r : Int)) = true := by simp; omega
    go_enter Tryd.func4, Tryd.ntmps4
    go_wp2_with fail
    refine HC.out.mono ?_
    rintro e w1 ⟨rfl, ho1⟩
    go_wp2
    go_ret
    exact ⟨rfl, ho1⟩

/-- What a stream has to which these bytes came, and these marks. -/
def ps (xs : List UInt8) (l : List Int) : St := ⟨400, xs, 0, l, false, [], 0⟩
theorem ErrV.zero {es : List Addr} {v : Value} (h : ErrV es v 0) : v = .nilIface := by
  rcases h with ⟨_, h⟩ | ⟨i, a, h, _⟩
  · exact h
  · omega
theorem ErrV.some {es : List Addr} {v : Value} {k : Nat} (h : ErrV es v k) (hk : k ≠ 0) : ∃ a, v = errV a := by
  rcases h with ⟨h, _⟩ | ⟨i, a, _, _, h⟩
  · exact absurd h hk
  · exact ⟨a, h⟩
/-- Behind the parts up to at. -/
def SPRel (w : World) (p q : Nat) (xs : List UInt8) (l : List Int) (at_ : Nat) (W : World) : Prop :=
  TwoAt w W p q (ps xs l) (ps (xs.take at_) (l.filter (under (at_ : Int))))
theorem ps_part (xs : List UInt8) (l : List Int) (a b : Nat) (hab : a ≤ b) (hb : b ≤ xs.length) (hx : xs.length ≤ 300) (hp : l.Pairwise (· < ·)) :
    delNum (ps (xs.take a) (l.filter (under (a : Int)))) (b - a) (ownOf a b l) = 0 ∧
      delSt (ps (xs.take a) (l.filter (under (a : Int)))) ((xs.drop a).take (b - a)) (ownOf a b l) = ps (xs.take b) (l.filter (under (b : Int))) := by
  have hl : ((xs.drop a).take (b - a)).length = b - a := by rw [List.length_take, List.length_drop]; omega
  have e : delNum (ps (xs.take a) (l.filter (under (a : Int)))) (b - a) (ownOf a b l) = 0 := by
    unfold delNum
    rw [if_neg (by simp [ps]), if_neg (by rw [own_places hp rfl]; simp), if_neg]
    show ¬ 4096 - ((xs.take a).length - 0) < b - a
    rw [List.length_take]
    omega
  refine ⟨e, ?_⟩
  unfold delSt
  rw [hl, e, if_pos rfl]
  have e1 : xs.take a ++ (xs.drop a).take (b - a) = xs.take b := by
    rw [← List.take_add, show a + (b - a) = b from by omega]
  have e2 : l.filter (under (a : Int)) ++ (ownOf a b l).map ((((xs.take a).length : Nat) : Int) + ·) = l.filter (under (b : Int)) := by
    rw [List.length_take, Nat.min_eq_left (by omega), own_back, filter_split hp (by omega)]
  show St.mk 400 (xs.take a ++ (xs.drop a).take (b - a)) 0 (l.filter (under (a : Int)) ++ (ownOf a b l).map ((((xs.take a).length : Nat) : Int) + ·)) false [] 0 = _
  rw [e1, e2]
  rfl

theorem src_sub {w : World} {A : Option Addr} {n at_ T : Nat} {xs : List UInt8} (h : Src w A n xs) (h1 : at_ ≤ T) (h2 : T ≤ n) (D : Option Addr) (hD : T = at_ ∨ D = A.map fun x => x.add at_) : Src w D (T - at_) ((xs.drop at_).take (T - at_)) := by
  have hl := h.1
  refine ⟨by rw [List.length_take, List.length_drop]; omega, fun hp => ?_⟩
  obtain ⟨ad, rfl, hc⟩ := h.2 (by omega)
  obtain rfl : D = _ := hD.resolve_left (by omega)
  refine ⟨_, rfl, fun j x hx => ?_⟩
  rw [List.getElem?_take] at hx
  split at hx
  · rw [List.getElem?_drop] at hx
    rw [Go.Deep.add_add]
    exact hc _ x hx
  · cases hx
/-- The row of a part's own places, behind so many marks. -/
def OwnRel (W0 : World) (l : List Int) (a b jj : Nat) (ov : Value) (W : World) : Prop :=
  RowAt W W0.heap.size 3 1 ov (ownOf a b (l.take jj)).length (ints (ownOf a b (l.take jj))) ∧ Only (fun _ => False) W0 W
theorem own_step {l : List Int} {jj : Nat} {y : Int} (hy : l[jj]? = some y) (a b : Nat) : ownOf a b (l.take (jj + 1)) = ownOf a b (l.take jj) ++ if within a b y then [y - a] else [] := by
  unfold ownOf
  rw [List.take_add_one, hy, List.filter_append, List.map_append]
  congr 1
  cases hb : within a b y <;> simp [hb]
theorem own_length (l : List Int) (a b jj : Nat) : (ownOf a b (l.take jj)).length ≤ jj := by
  unfold ownOf
  rw [List.length_map]
  exact Nat.le_trans (List.length_filter_le _ _) (List.length_take_le _ _)

/-- Two streams that are alike, on which nothing was sent. -/
def NextRel (w : World) (p q : Nat) (W : World) : Prop := ∃ u : St, u.room = 400 ∧ u.closed = false ∧ u.sent = [] ∧ u.out = 0 ∧ TwoAt w W p q u u
theorem next_keeps (u : St) (h : u.room = 400 ∧ u.closed = false ∧ u.sent = [] ∧ u.out = 0) : (nextSt u).room = 400 ∧ (nextSt u).closed = false ∧ (nextSt u).sent = [] ∧ (nextSt u).out = 0 := by
  unfold nextSt
  split
  · exact h
  · exact h
/-- So many sends later: all that was sent is the text. -/
def SendRel (w : World) (p q j : Nat) (sv : Value) (W : World) : Prop := ∃ s u : St, u.sent.length ≤ 300 * j ∧ u.closed = false ∧ sv = .string ⟨u.sent.toArray⟩ ∧ TwoAt w W p q s u

set_option maxHeartbeats 8000000 in
theorem sparts_ok (w : World) (A : Option Addr) (n c0 : Nat) (xs : List UInt8) (M : Option Addr) (k kc : Nat) (l : List Int) (P : Option Addr) (r rc : Nat) (pl : List Int) (hs : Src w A n xs) (hnc : n ≤ c0) (hc63 : c0 ≤ 9223372036854775807) (hl : IntsAt w M k l) (hpl : IntsAt w P r pl)
    (h1 : n ≤ 300) (h2 : k ≤ 40) (h3 : r ≤ 60) {es : List Addr} (hes : ErrsOf w [0, 1, 13] es) :
    Calls Tryd.prog 4 #[.slice A n c0, .slice M k kc, .slice P r rc] w (Fine w) := by
  have b1 : decide ((300 : Int) < (n : Int)) = false := by simp; omega
  have b2 : decide ((40 : Int) < (k : Int)) = false := by simp; omega
  have b3 : decide ((60 : Int) < (r : Int)) = false := by simp; omega
  have HX := Lib.hid hs.1
  have HS := Lib.hid hs
  have HL := Lib.hid hl
  have HP := Lib.hid hpl
  have HE := Lib.hid hes
  clear hs hl hpl hes
  go_enter Tryd.func4, Tryd.ntmps4
  go_wp2_with fail
  refine (salive_any w HE.out).mono ?_
  rintro e w1 ⟨rfl, ho1⟩
  have HO1 := Lib.hid ho1
  clear ho1
  go_wp2_with fail
  refine (strNew w1 400 (by omega) (by omega)).mono ?_
  rintro e w2 ⟨ms, rfl, s2, ho2⟩
  have HS2 := Lib.hid s2
  have HO2 := Lib.hid ho2
  clear s2 ho2
  go_wp2_with fail
  refine (strNew w2 400 (by omega) (by omega)).mono ?_
  rintro e w3 ⟨mt, rfl, t3, ho3⟩
  have HT3 := Lib.hid (two_new HO1.out HS2.out HO2.out t3 ho3)
  generalize ms.p = p at *
  generalize mt.p = q at *
  clear t3 ho3 HS2 HO1 HO2 b1 b2 b3
  clear ms mt
  go_wp2_with fail
  have HD := Lib.hid (two_deliver HT3.out (Only.refl _ _) HE.out A n c0 xs HS.out hnc hc63 M k kc l (HL.out.only HT3.out.only (fun _ _ _ h => h)) (fun hk ad e => .inr (HL.out.lt hk ad e)) (by show 0 + n ≤ _; omega) (by omega))
  clear HT3
  refine HD.out.mono ?_
  rintro e w4 ⟨v4, rfl, hv4, hT4⟩
  by_cases hn0 : delNum (fresh 400) n l = 0
  · rw [hn0] at hv4
    obtain rfl := hv4.zero
    have hpp : places n 0 l = true := by
      cases hq : places n 0 l
      · unfold delNum at hn0
        rw [if_neg (by simp [fresh]), if_pos hq] at hn0
        omega
      · rfl
    have hst : delSt (fresh 400) xs l = ps xs l := by
      unfold delSt
      rw [HX.out, hn0, if_pos rfl]
      show St.mk 400 ([] ++ xs) 0 ([] ++ l.map ((((0 : Nat)) : Int) + ·)) false [] 0 = _
      rw [List.nil_append, List.nil_append]
      show St.mk 400 xs 0 (l.map ((0 : Int) + ·)) false [] 0 = _
      rw [map_zero]
      rfl
    rw [hst] at hT4
    obtain ⟨hp1, hp2⟩ := places_spec hpp
    have HP1 := Lib.hid hp1
    have HP2 := Lib.hid hp2
    have HR0 := Lib.hid (show SPRel w p q xs l 0 w4 by
      unfold SPRel
      have e : l.filter (under ((0 : Nat) : Int)) = [] := filter_none (fun x hx => (hp2 x hx).1)
      rw [e, List.take_zero]
      exact hT4)
    clear hv4 hT4 HD hn0 hpp hst hp1 hp2
    go_wp2_with fail
    go_loopw [11, 12] (fun a i W => ∃ (at_ j : Nat), at_ ≤ n ∧ j ≤ r + 1 ∧ i = .int .i64 (j : Int) ∧ a = .int .i64 (at_ : Int) ∧ (j = r + 1 → at_ = n) ∧ Hid (SPRel w p q xs l at_ W)) (fun _ i _ => r + 1 - (intOf i).toNat)
    case atStart => exact ⟨0, 0, Nat.zero_le _, Nat.zero_le _, rfl, rfl, by omega, HR0.out⟩
    case round =>
      clear HR0
      obtain ⟨at_, j, hat, hj, rfl, rfl, hend, hr⟩ := hrel
      by_cases hlt : j ≤ r
      · have HT := Lib.hid hr.out
        clear hr
        obtain ⟨i1, hi1, iz0, iz1, iz2⟩ := info_parts info_int
        by_cases hjr : j < r
        focus
          obtain ⟨x, hx⟩ : ∃ x, pl[j]? = some x := ⟨_, List.getElem?_eq_getElem (by rw [HP.out.1]; exact hjr)⟩
          obtain ⟨g, off, rfl, hc, hx0, hx1⟩ := HP.out.2 j x hx
          have c := HT.out.only.cellv hc (fun h => h)
          clear hx hc
          go_wp2_with fail
          obtain ⟨K, hK, hKe⟩ := u64_rem x (n - at_ + 1) (by omega)
          have hKe' : (IntKind.u64.wrap x).tmod ((n : Int) - (at_ : Int) + 1) = (K : Int) := by
            rw [← hKe]
            congr 1
            omega
          rw [hKe', wrap64_nat K (by omega), show (at_ : Int) + (K : Int) = ((at_ + K : Nat) : Int) from by omega, wrap64_nat (at_ + K) (by omega)]
          generalize IntKind.u64.wrap x = U
          obtain ⟨T, hT⟩ : ∃ T, T = at_ + K := ⟨_, rfl⟩
          rw [← hT]
          have hT1 : at_ ≤ T := by omega
          have hT2 : T ≤ n := by omega
          have HTn := Lib.hid (show j = r → T = n from fun h => absurd h (by omega))
          clear hT hKe hKe' c
        rotate_left
        focus
          have bj : decide ((j : Int) < (r : Int)) = false := by simp; omega
          go_wp2_with fail
          obtain ⟨T, hT⟩ : ∃ T, T = n := ⟨_, rfl⟩
          have hT1 : at_ ≤ T := by omega
          have hT2 : T ≤ n := by omega
          have HTn := Lib.hid (show j = r → T = n from fun _ => hT)
          subst hT
        all_goals
          obtain ⟨W0, hW0⟩ : ∃ W0, W0 = wr := ⟨_, rfl⟩
          subst hW0
          have HOwn0 := Lib.hid (show OwnRel W0 l at_ T 0 (.slice (some ⟨W0.heap.size, 0, none⟩) 0 0) (W0.alloc (.cells #[] 3)) from
            ⟨⟨by simp [ownOf, ints], .inr ⟨W0.heap.size, 0, 0, [], by simp [ownOf], Nat.le_refl _, Blk.new W0 3 [], by simp [ownOf], by omega, by simp, fun j u h => by simp [ownOf, ints] at h⟩⟩, (Only.refl _ W0).alloc _⟩)
          go_loopw [14, 99] (fun ov i W => ∃ jj : Nat, jj ≤ k ∧ i = .int .i64 (jj : Int) ∧ Hid (OwnRel W0 l at_ T jj ov W)) (fun _ i _ => k - (intOf i).toNat)
          case atStart => exact ⟨0, Nat.zero_le _, rfl, HOwn0.out⟩
          case round =>
            clear HOwn0
            obtain ⟨jj, hjj, rfl, ho⟩ := hrel
            obtain ⟨OA, oc, rfl, ho1, ho2⟩ := ho.out.1.form
            have hol := own_length l at_ T jj
            obtain ⟨L, hL⟩ : ∃ L, L = (ownOf at_ T (l.take jj)).length := ⟨_, rfl⟩
            have HOw := ho.out
            unfold OwnRel at HOw
            rw [← hL] at HOw ho1 hol
            rw [← hL]
            have HOw := Lib.hid HOw
            have HLen := Lib.hid hL
            clear ho hL
            by_cases hlt : jj < k
            · obtain ⟨y, hy⟩ : ∃ y, l[jj]? = some y := ⟨_, List.getElem?_eq_getElem (by rw [HL.out.1]; exact hlt)⟩
              obtain ⟨g, off, rfl, hc, hy0, hy1⟩ := HL.out.2 jj y hy
              have HO2 := Lib.hid (HT.out.only.trans HOw.out.2 (fun i h => h.elim))
              have c := HO2.out.cellv hc (fun h => h)
              have HStep := Lib.hid (own_step hy at_ T)
              have HRel : ∀ (ov : Value) (W : World) (on : List Int), on = ownOf at_ T (l.take jj) ++ (if within at_ T y then [y - at_] else []) → RowAt W W0.heap.size 3 1 ov on.length (ints on) → Only (fun _ => False) W0 W → OwnRel W0 l at_ T (jj + 1) ov W := by
                intro ov W on hon h1 h2
                unfold OwnRel
                rw [own_step hy, ← hon]
                exact ⟨h1, h2⟩
              have HRel := Lib.hid HRel
              clear hy hc
              by_cases hy1 : y < at_
              · have by1 : decide ((at_ : Int) ≤ y) = false := by simp; omega
                have Hw := Lib.hid (show within at_ T y = false by simp [within]; omega)
                go_wp2
                go_roundw
                case rel =>
                  refine ⟨jj + 1, by omega, by go_num, HRel.out _ _ _ rfl ?_ HOw.out.2⟩
                  rw [Hw.out, if_neg (by simp), List.append_nil, ← HLen.out]
                  exact HOw.out.1
                case measure => simp [intOf]; omega
              · by_cases hy2 : y < T
                · have Hw := Lib.hid (show within at_ T y = true by simp [within]; omega)
                  have Hal := Lib.hid ((Only.refl (fun _ => False) wr).alloc (.cells #[.int .i64 (y - at_)] 3))
                  have Hbl := Lib.hid (Blk.new wr 3 [.int .i64 (y - at_)])
                  have hz0 := HOw.out.2.size
                  have hy3 : (at_ : Int) ≤ y := by omega
                  go_wp2_with (at_builtin; refine step_append_row rfl (.tmp 111) (.tmp 115) 36 rfl W0.heap.size 3 i1 _ 1 8 Tryd.underlying36 hi1 iz0 iz1 iz2 rfl (by omega) _ L _ rfl (HOw.out.1.only Hal.out (fun _ _ h => h)) ⟨wr.heap.size, 0, none⟩ 1 1 [.int .i64 (y - at_)] rfl rfl (fun i u hu => by rw [show (⟨wr.heap.size, 0, none⟩ : Addr).add i = ⟨wr.heap.size, i, none⟩ from by unfold Addr.add; split <;> simp_all, Hbl.out.cell]; exact hu) (by intro u hu; simp only [List.mem_singleton] at hu; subst hu; rfl) (by omega) (by omega) (by simp; omega) ?_; intro A3 c3' w3 hc31 hc32 hr3)
                  go_roundw
                  case rel =>
                    refine ⟨jj + 1, by omega, by go_num, HRel.out _ _ (ownOf at_ T (l.take jj) ++ [y - at_]) (by rw [Hw.out, if_pos rfl]) ?_ ?_⟩
                    · rw [List.length_append, ← HLen.out]
                      have := hr3.out.1
                      rw [show ints (ownOf at_ T (l.take jj)) ++ [Value.int .i64 (y - at_)] = ints (ownOf at_ T (l.take jj) ++ [y - at_]) from by simp [ints]] at this
                      exact this
                    · exact (HOw.out.2.alloc _).grown hr3.out.2.1 (fun q hq => .inr (HOw.out.1.lt q hq).1)
                  case measure => simp [intOf]; omega
                · have by1 : decide ((at_ : Int) ≤ y) = true := by simp; omega
                  have by2 : decide (y < (T : Int)) = false := by simp; omega
                  have Hw := Lib.hid (show within at_ T y = false by simp [within]; omega)
                  go_wp2
                  go_roundw
                  case rel =>
                    refine ⟨jj + 1, by omega, by go_num, HRel.out _ _ _ rfl ?_ HOw.out.2⟩
                    rw [Hw.out, if_neg (by simp), List.append_nil, ← HLen.out]
                    exact HOw.out.1
                  case measure => simp [intOf]; omega
            · obtain rfl : jj = k := by omega
              have htk : l.take jj = l := List.take_of_length_le (by rw [HL.out.1]; exact Nat.le_refl _)
              rw [htk] at HOw HLen
              have hbound : ∀ x ∈ ownOf at_ T l, -9223372036854775808 ≤ x ∧ x ≤ 9223372036854775807 := by
                intro x hx
                obtain ⟨y, hy, rfl⟩ := List.mem_map.1 hx
                have := (List.mem_filter.1 hy).2
                simp only [within, Bool.and_eq_true, decide_eq_true_eq] at this
                omega
              obtain ⟨hI, hIb⟩ := RowAt.ints HOw.out.1 hbound
              have HI := Lib.hid hI
              clear htk hbound hI
              have HSub := Lib.hid (fun D hD => src_sub (D := D) HS.out hT1 hT2 hD)
              have HPart := Lib.hid (ps_part xs l at_ T hT1 (by rw [HX.out]; exact hT2) (by rw [HX.out]; exact h1) HP1.out)
              have hLk := own_length l at_ T jj
              have HT0 := Lib.hid HT.out.swap
              have hL40 : L ≤ 40 := by omega
              clear hLk hol HT
              obtain ⟨D, hD⟩ : ∃ D, D = if c0 = at_ then A else A.map fun x => x.add at_ := ⟨_, rfl⟩
              have HSD := Lib.hid (HSub.out D (by
                rw [hD]
                by_cases hca : c0 = at_
                · exact .inl (by omega)
                · exact .inr (if_neg hca)))
              have hD' := hD.symm
              clear hD HSub
              go_wp2_with fail
              clear hD'
              all_goals
                refine (two_deliver HT0.out HOw.out.2 HE.out _ _ _ _ HSD.out (by omega) (by omega) _ _ _ _ HI.out (fun hn ad e => .inl (hIb hn ad e)) (by show (xs.take at_).length + _ ≤ _; rw [List.length_take]; omega) (by omega)).mono ?_
                rintro e w5 ⟨v5, rfl, hv5, hT5⟩
                rw [HPart.out.1] at hv5
                rw [HPart.out.2] at hT5
                obtain rfl := hv5.zero
                have HT5 := Lib.hid hT5.swap
                clear hv5 hT5 HT0
                go_wp2
                go_roundw
                case rel => exact ⟨T, j + 1, hT2, by omega, by go_num, rfl, fun h => by first | rfl | exact HTn.out (by omega), HT5.out⟩
                case measure => simp [intOf]; omega
      · obtain rfl : at_ = n := hend (by omega)
        have HT := Lib.hid (show TwoAt w wr p q (ps xs l) (ps xs l) by
          have := hr.out
          unfold SPRel at this
          rw [List.take_of_length_le (by rw [HX.out]; exact Nat.le_refl _), filter_all (fun x hx => (HP2.out x hx).2)] at this
          exact this)
        have HU0 := Lib.hid (show NextRel w p q wr from ⟨ps xs l, rfl, rfl, rfl, rfl, HT.out⟩)
        clear hr HT hend
        go_wp2_with fail
        go_loopw [130] (fun i W => ∃ jj : Nat, jj ≤ at_ + 1 ∧ i = .int .i64 (jj : Int) ∧ Hid (NextRel w p q W)) (fun i _ => at_ + 1 - (intOf i).toNat)
        case atStart => exact ⟨0, Nat.zero_le _, rfl, HU0.out⟩
        case round =>
          clear HU0
          obtain ⟨jj, hjj, rfl, hr⟩ := hrel
          by_cases hlt2 : jj < at_ + 1
          · obtain ⟨u, hu1, hu2, hu3, hu4, hT⟩ := hr.out
            have HT := Lib.hid hT
            have HU := Lib.hid (And.intro hu1 (And.intro hu2 (And.intro hu3 hu4)))
            clear hr hu1 hu2 hu3 hu4 hT
            have bl : decide ((jj : Int) < (at_ : Int) + 1) = true := by simp; omega
            go_wp2_with fail
            refine (two_next HT.out).mono ?_
            rintro e w5 ⟨rfl, hT5⟩
            have HT5 := Lib.hid hT5.swap
            clear hT5 HT
            go_wp2_with fail
            refine (two_next HT5.out).mono ?_
            rintro e w6 ⟨rfl, hT6⟩
            have HT6 := Lib.hid hT6.swap
            clear hT6 HT5
            have HN := Lib.hid (next_keeps u HU.out)
            generalize nextC u = n1 at *
            generalize nextM u = n2 at *
            generalize nextIs u = n3 at *
            unfold B8
            have e1 : (((n1.toNat : Nat) : Int) != ((n1.toNat : Nat) : Int)) = false := by simp
            have e2 : (n2 != n2) = false := by simp
            have e3 : (n3 != n3) = false := by simp
            go_wp2
            go_roundw
            case rel => exact ⟨jj + 1, by omega, by go_num, nextSt u, HN.out.1, HN.out.2.1, HN.out.2.2.1, HN.out.2.2.2, HT6.out⟩
            case measure => simp [intOf]; omega
          · have bl : decide ((jj : Int) < (at_ : Int) + 1) = false := by simp; omega
            have HV0 := Lib.hid (show SendRel w p q 0 (.string ⟨([] : List UInt8).toArray⟩) wr by
              obtain ⟨u, hu1, hu2, hu3, hu4, hT⟩ := hr.out
              exact ⟨u, u, by rw [hu3]; exact Nat.zero_le _, hu2, by rw [hu3], hT⟩)
            clear hr
            go_wp2_with fail
            go_loopw [23, 160] (fun sv i W => ∃ kk : Nat, kk ≤ r ∧ i = .int .i64 (kk : Int) ∧ Hid (SendRel w p q kk sv W)) (fun _ i _ => r - (intOf i).toNat)
            case atStart => exact ⟨0, Nat.zero_le _, rfl, HV0.out⟩
            case round =>
              clear HV0
              obtain ⟨kk, hkk, rfl, hr⟩ := hrel
              obtain ⟨s0, u, hul, huc, rfl, hT⟩ := hr.out
              have HT := Lib.hid hT.swap
              have HUc := Lib.hid huc
              clear hr huc hT
              by_cases hlt3 : kk < r
              · obtain ⟨x, hx⟩ : ∃ x, pl[kk]? = some x := ⟨_, List.getElem?_eq_getElem (by rw [HP.out.1]; exact hlt3)⟩
                obtain ⟨g, off, rfl, hc, hx0, hx1⟩ := HP.out.2 kk x hx
                have c := HT.out.only.cellv hc (fun h => h)
                clear hx hc hx0 hx1
                go_wp2_with fail
                refine (two_send HT.out HE.out A at_ c0 xs HS.out hnc hc63 (by omega)).mono ?_
                rintro e w5 ⟨v5, rfl, hv5, hT5⟩
                have HT5 := Lib.hid hT5
                have hul2 : (sendSt u xs).sent.length ≤ 300 * (kk + 1) := by
                  unfold sendSt
                  split
                  · show (u.sent ++ xs).length ≤ _
                    rw [List.length_append, HX.out]
                    omega
                  · omega
                have HU2 := Lib.hid (show (sendSt u xs).closed = false by
                  unfold sendSt
                  split
                  · exact HUc.out
                  · exact HUc.out)
                obtain ⟨u2, hu2⟩ : ∃ u2, u2 = sendSt u xs := ⟨_, rfl⟩
                rw [← hu2] at HT5 HU2 hul2
                clear hT5 HT c
                by_cases hs0 : sendNum u at_ = 0
                focus
                  rw [hs0] at hv5
                  obtain rfl := hv5.zero
                  have hsent : u.sent ++ xs = u2.sent := by
                    rw [hu2]
                    unfold sendSt
                    rw [HX.out, if_pos hs0]
                  have ht := text_of (HS.out.only HT5.out.only (fun _ _ _ h => h)) c0 35 9 5 Tryd.underlying35 Tryd.underlying5 Tryd.underlying9
                  have hsum := fun w => add_texts (P := Tryd.prog) (w := w) u.sent xs u2.sent hsent (by rw [HX.out]; omega)
                  clear hv5 hs0 hsent hu2
                  go_wp2_with fail
                  clear ht hsum
                rotate_left
                focus
                  obtain ⟨a, rfl⟩ := hv5.some hs0
                  have hsent : u.sent = u2.sent := by
                    rw [hu2]
                    unfold sendSt
                    rw [HX.out, if_neg hs0]
                  unfold errV
                  clear hv5 hs0 hu2
                  rw [hsent]
                  go_wp2_with fail
                  clear hsent
                all_goals
                  refine (two_grant HT5.out x (by omega)).mono ?_
                  rintro e w6 ⟨rfl, hT6⟩
                  have hob : (grantSt u2 x).out ≤ u2.sent.length := by
                    obtain ⟨m6, _, _, _, h6, _⟩ := hT6
                    exact h6.ou.back
                  have HT6 := Lib.hid hT6
                  clear hT6 HT5
                  generalize grantNum u2 x = gn at *
                  go_wp2_with fail
                  refine (two_wire HT6.out (by show u2.sent.length ≤ _; omega)).mono ?_
                  rintro e w7 ⟨A7, c7, rfl, hs7, hT7, ho7⟩
                  obtain ⟨y, hy⟩ : ∃ y, y = u2.sent.take (grantSt u2 x).out := ⟨_, rfl⟩
                  have ht7 := text_of (show Src w7 A7 (grantSt u2 x).out y by rw [hy]; exact hs7) c7 35 9 5 Tryd.underlying35 Tryd.underlying5 Tryd.underlying9
                  have hex : (ByteArray.mk u2.sent.toArray).extract 0 y.length = ByteArray.mk y.toArray := by rw [hy]; exact text_upto _ _ hob
                  have hyl : y.length ≤ u2.sent.length := by rw [hy, List.length_take]; omega
                  have HT7 := Lib.hid (show TwoAt w w7 p q s0 (grantSt u2 x) from hT7.swap)
                  have hyl2 : u2.sent.length ≤ 9223372036854775807 := by omega
                  have HSt := Lib.hid (show (grantSt u2 x).sent = u2.sent from rfl)
                  have HCl := Lib.hid (show (grantSt u2 x).closed = false from HU2.out)
                  clear hs7 hT7 ho7 hy HT6
                  generalize (grantSt u2 x).out = o2 at *
                  go_wp2
                  go_roundw
                  case rel => exact ⟨kk + 1, by omega, by go_num, s0, grantSt u2 x, by rw [HSt.out]; exact hul2, HCl.out, by rw [HSt.out], HT7.out⟩
                  case measure => simp [intOf]; omega
              · go_wp2
                go_ret
                exact ⟨rfl, HT.out.only⟩
  · obtain ⟨a, rfl⟩ := hv4.some hn0
    have HT4 := Lib.hid hT4.only
    clear hv4 hT4 HD hn0
    unfold errV
    go_wp2
    go_ret
    exact ⟨rfl, HT4.out⟩

theorem streamParts_walk (w : World) {H : Type} {enc : TypeId × Value → H} {fuel0 fuel1 fuel2 : Nat} {A M P : Option Addr} {n c k kc r rc : Nat} {x y z : DataW H × List MemPlace} (hf0 : DataW.trod enc Tryd.prog w 0 (fun _ => true) true fuel0 35 [.slice A n c] = some x)
    (hf1 : DataW.trod enc Tryd.prog w 0 (fun _ => true) true fuel1 36 [.slice M k kc] = some y) (hf2 : DataW.trod enc Tryd.prog w 0 (fun _ => true) true fuel2 36 [.slice P r rc] = some z) {es : List Addr} (hes : ErrsOf w [0, 1, 13] es) :
    Calls Tryd.prog 4 #[.slice A n c, .slice M k kc, .slice P r rc] w (Fine w) := by
  obtain ⟨A', n', c', xs, e, h1, h2, h3⟩ := opened_cell hf0
  injection e with e1 e2 e3
  subst e1 e2 e3
  obtain ⟨h4, h5, l, hl⟩ := opened_ints hf1
  obtain ⟨h6, h7, pl, hpl⟩ := opened_ints hf2
  by_cases h : 300 < n ∨ 40 < k ∨ 60 < r
  · exact sparts_many w A n c M k kc P r rc (by omega) (by omega) (by omega) h hes
  · exact sparts_ok w A n c xs M k kc l P r rc pl h1 h2 h3 hl hpl (by omega) (by omega) (by omega) hes
end Go.Proofs.YtpabhgkamekcnaaDoor
