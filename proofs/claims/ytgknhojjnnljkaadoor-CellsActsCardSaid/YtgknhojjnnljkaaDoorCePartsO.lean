/- CellsParts, where there are screens. -/
import Derived.Test.YtgknhojjnnljkaaDoorCePartsL
namespace Go.Proofs.YtgknhojjnnljkaaDoor
open Go Go.RowKit
set_option maxRecDepth 100000
set_option maxHeartbeats 4000000

/-- Two screens side by side, both made behind w. -/
structure PRel (w : World) (s0 s1 : Int) (ps : Nat) (Fs : Nat → Prop) (S : Sc) (pt : Nat) (T : Sc) (W : World) : Prop where
  b : Blk W w.heap.size 22 [.int .i64 s0, .int .i64 s1]
  s : ScAt W ps Fs S
  fs : ∀ k, Fs k → w.heap.size < k
  t : ∃ Ft, ScAt W pt Ft T ∧ (∀ k, Fs k → ¬ Ft k) ∧ ∀ k, Ft k → w.heap.size < k
  o : Only (fun _ => False) w W
theorem PRel.gone {w : World} {s0 s1 : Int} {ps pt : Nat} {Fs Ft : Nat → Prop} {S T T' : Sc} {W W' : World} (h : PRel w s0 s1 ps Fs S pt T W) (hd : ∀ k, Fs k → ¬ Ft k) (hf : ∀ k, Ft k → w.heap.size < k) (hg : Goes pt Ft T' W W') : PRel w s0 s1 ps Fs S pt T' W' := by
  obtain ⟨F', h1, h2, h3⟩ := hg
  have hz := h.o.size
  have hb := h.b.lt
  refine ⟨h.b.only h2 (fun e => Nat.lt_irrefl _ (hf _ e)), h.s.only h2 hd, h.fs, ⟨F', h1, fun k hk hk' => ?_, fun k hk => ?_⟩, h.o.trans h2 (fun i hi => .inr (Nat.le_of_lt (hf i hi)))⟩
  · rcases h3 k hk' with h4 | h4
    · exact hd k hk h4
    · have := h.s.lt k hk; omega
  · rcases h3 k hk with h4 | h4
    · exact hf k h4
    · omega
theorem PRel.same {w : World} {s0 s1 : Int} {ps pt : Nat} {Fs : Nat → Prop} {S T : Sc} {W W' : World} (h : PRel w s0 s1 ps Fs S pt T W) (ho : Only (fun _ => False) W W') : PRel w s0 s1 ps Fs S pt T W' := by
  obtain ⟨Ft, h1, h2, h3⟩ := h.t
  exact ⟨h.b.only ho (fun h => h), h.s.same ho, h.fs, ⟨Ft, h1.same ho, h2, h3⟩, h.o.trans ho (fun _ h => h.elim)⟩

/-- Where the cursor stands, as the law asks it. -/
theorem at_facts {s : Sc} (h : s.Ok) {c R : Nat} (hc : s.c = c) (hR : s.rows.length = R) :
    (FloatKind.f64.format.order (fl (s.x : Int)) 0 == some .lt) = false ∧ (FloatKind.f64.format.order (fl (s.x : Int)) (fl (c : Int)) == some .gt || FloatKind.f64.format.order (fl (s.x : Int)) (fl (c : Int)) == some .eq) = false ∧
    (FloatKind.f64.format.order (fl (s.y : Int)) 0 == some .lt) = false ∧ (FloatKind.f64.format.order (fl (s.y : Int)) (fl (R : Int)) == some .gt || FloatKind.f64.format.order (fl (s.y : Int)) (fl (R : Int)) == some .eq) = false := by
  have hx := h.hx
  have hy := h.hy
  have h1 := h.c2
  have h2 := h.r2
  subst hc hR
  refine ⟨?_, ?_, ?_, ?_⟩
  · have := fl_lt (n := (s.x : Int)) (k := 0) (by omega) (by omega) (by omega) (by omega)
    rw [fl_zero] at this
    rw [this, decide_eq_false (by omega)]
  · rw [fl_ge (by omega) (by omega) (by omega) (by omega), decide_eq_false (by omega)]
  · have := fl_lt (n := (s.y : Int)) (k := 0) (by omega) (by omega) (by omega) (by omega)
    rw [fl_zero] at this
    rw [this, decide_eq_false (by omega)]
  · rw [fl_ge (by omega) (by omega) (by omega) (by omega), decide_eq_false (by omega)]
theorem eq_facts {s : Sc} (h : s.Ok) : (FloatKind.f64.format.order (fl (s.x : Int)) (fl (s.x : Int)) == some .eq) = true ∧ (FloatKind.f64.format.order (fl (s.y : Int)) (fl (s.y : Int)) == some .eq) = true := by
  have hx := h.hx
  have hy := h.hy
  have h1 := h.c2
  have h2 := h.r2
  constructor
  · rw [fl_eq (by omega) (by omega) (by omega) (by omega), decide_eq_true rfl]
  · rw [fl_eq (by omega) (by omega) (by omega) (by omega), decide_eq_true rfl]
/-- All screens of one make have its columns and rows. -/
theorem next_dim (s : Sc) (h : 1 ≤ s.rows.length) : s.next.c = s.c ∧ s.next.rows.length = s.rows.length := by
  unfold Sc.next
  split
  · exact ⟨rfl, rfl⟩
  · refine ⟨rfl, ?_⟩
    show (s.rows.drop 1 ++ [blank s.c]).length = _
    rw [List.length_append, List.length_drop, List.length_singleton]; omega
theorem put_dim {s : Sc} (h : s.Ok) (b : UInt8) : (s.put b).c = s.c ∧ (s.put b).rows.length = s.rows.length := by
  have hr := h.r1
  unfold Sc.put
  split
  · have e : (s.mark b).rows.length = s.rows.length := List.length_set
    unfold Sc.step
    split
    · exact ⟨rfl, e⟩
    · have := next_dim ⟨(s.mark b).c, 0, (s.mark b).y, (s.mark b).rows⟩ (by show 1 ≤ (s.mark b).rows.length; omega)
      exact ⟨this.1, this.2.trans e⟩
  split
  · exact ⟨rfl, rfl⟩
  split
  · exact ⟨rfl, rfl⟩
  split
  · exact next_dim s hr
  split
  · exact ⟨rfl, rfl⟩
  split
  · exact ⟨rfl, List.length_replicate⟩
  · exact ⟨rfl, rfl⟩
theorem puts_dim {s : Sc} (h : s.Ok) : ∀ l : List UInt8, (s.puts l).c = s.c ∧ (s.puts l).rows.length = s.rows.length := by
  intro l
  induction l generalizing s with
  | nil => exact ⟨rfl, rfl⟩
  | cons b l ih =>
    have h1 := ih (h.put b)
    have h2 := put_dim h b
    exact ⟨h1.1.trans h2.1, h1.2.trans h2.2⟩

theorem parts_ok {w : World} {c R : Nat} (hc1 : 1 ≤ c) (hc2 : c ≤ 60) (hR1 : 1 ≤ R) (hR2 : R ≤ 60) {A : Option Addr} {n cap : Nat} {xs : List UInt8} (hs : Src w A n xs) (hcap : n ≤ cap) (_ : cap ≤ 9223372036854775807) (hn : n ≤ 300)
    {B : Option Addr} {m d : Nat} {zs : List Int} (hz : Ints w B m zs) (hm : m ≤ 30) :
    Calls Tryd.prog 4 #[pairV (c : Int) (R : Int), .slice A n cap, .slice B m d] w (Fine w) := by
  have HC := pair_cells w (c : Int) (R : Int)
  have HO := Lib.hid ((Only.refl (fun _ => False) w).alloc (.cells #[.int .i64 (c : Int), .int .i64 (R : Int)] 22))
  have hsz : (w.alloc (.cells #[.int .i64 (c : Int), .int .i64 (R : Int)] 22)).heap.size = w.heap.size + 1 := by simp
  have HBk := Lib.hid (Blk.new w 22 [.int .i64 (c : Int), .int .i64 (R : Int)])
  have HA := Lib.hid (fun W => ce_alive W)
  have HN := Lib.hid (fun W => new_ok (w := W) hc1 hc2 hR1 hR2)
  have HN2 := HN
  have HS := Lib.hid hs
  have HZ := Lib.hid hz
  have HSz := Lib.hid hsz
  have hok0 := newSc_ok hc1 hc2 hR1 hR2
  have Hok := Lib.hid hok0
  have i1 : ¬ (300 : Int) < (n : Int) := by omega
  have i2 : ¬ (30 : Int) < (m : Int) := by omega
  have i3 : ¬ (60 : Int) < (c : Int) := by omega
  have i4 : ¬ (60 : Int) < (R : Int) := by omega
  have HW : Hid (∀ (W : World) (p : Nat) (F : Nat → Prop), ScAt W p F (newSc c R) → Only (fun _ => False) w W → (∀ k, F k → w.heap.size < k) → Calls Tryd.prog 11 #[.pointer (some ⟨p, 0, none⟩), .slice A n cap] W fun e w' => e = .returned (.tuple #[]) ∧ Hid (Goes p F ((newSc c R).puts xs) W w')) := fun W p F h ho hF =>
    write_any h cap (hs.only ho (fun _ _ _ h => h)) (by omega) (fun h0 ad e hf => by have h1 := hs.lt h0 ad e; have h2 := hF _ hf; omega)
  clear hs hz hsz hok0
  go_enter Tryd.func4, Tryd.ntmps4
  go_wp2_with (first
    | (go_at_call 6; (with_reducible refine (HA.out _).mono ?_); rintro e w1 ⟨rfl, ho1⟩; obtain ⟨c0, c1⟩ := HC.out w1 ho1.out; have HO1 := Lib.hid (HO.out.trans ho1.out (fun _ h => h.elim)); have HB1 := Lib.hid (HBk.out.only ho1.out (fun h => h)); clear HA)
    | (go_at_call 7; (with_reducible refine (HN.out _).mono ?_); rintro e w2 ⟨ps, Fs, rfl, hs2, hF2, ho2⟩; obtain ⟨c2, c3⟩ := HC.out w2 (ho1.out.trans ho2.out (fun _ h => h.elim)); have HO2 := Lib.hid (HO1.out.trans ho2.out (fun _ h => h.elim)); have HB2 := Lib.hid (HB1.out.only ho2.out (fun h => h)); clear HN)
    | (go_at_call 7; (with_reducible refine (HN2.out _).mono ?_); rintro e w3 ⟨pt, Ft, rfl, ht3, hF3, ho3⟩; have HO3 := Lib.hid (HO2.out.trans ho3.out (fun _ h => h.elim)); have HB3 := Lib.hid (HB2.out.only ho3.out (fun h => h)); have HS3 := Lib.hid (hs2.out.same ho3.out); have HLs : Hid (∀ k, Fs k → w.heap.size < k) := (fun k hk => by have h1 := hF2.out k hk; have h2 := HSz.out; have h3 := ho1.out.size; omega); have HLt : Hid (∀ k, Ft k → w.heap.size < k ∧ w2.heap.size ≤ k) := (fun k hk => by have h1 := hF3.out k hk; have h2 := HB2.out.lt; omega); have HDis : Hid (∀ k, Ft k → ¬ Fs k) := (fun k hk hk' => by have h1 := hs2.out.lt k hk'; have h2 := HLt.out k hk; omega))
    | (go_at_call 11; (with_reducible refine (HW.out _ _ _ HS3.out HO3.out HLs.out).mono ?_); rintro e w4 ⟨rfl, hg4⟩)
    | fail)
  obtain ⟨S, hS⟩ : ∃ S, S = (newSc c R).puts xs := ⟨_, rfl⟩
  have HP0 : Hid (∃ Fs4, PRel w c R ps Fs4 S pt ((newSc c R).puts (xs.take 0)) w4) := by
    obtain ⟨Fs4, h1, h2, h3⟩ := hg4.out
    rw [← hS] at h1
    refine ⟨Fs4, HB3.out.only h2 (fun hk => Nat.lt_irrefl _ (HLs.out _ hk)), h1, fun k hk => ?_, ⟨Ft, ht3.out.only h2 HDis.out, fun k hk hk' => ?_, fun k hk => (HLt.out k hk).1⟩, HO3.out.trans h2 (fun i hi => .inr (Nat.le_of_lt (HLs.out i hi)))⟩
    · rcases h3 k hk with h4 | h4
      · exact HLs.out k h4
      · have := HB3.out.lt; omega
    · rcases h3 k hk with h4 | h4
      · exact HDis.out k hk' h4
      · have := ht3.out.lt k hk'; omega
  have HSp := Lib.hid hS
  clear hg4 HS3 HB3 HLs HLt HDis HO3 ht3 hF3 ho3 HB2 HO2 hs2 hF2 ho2 HO1 HB1 ho1 HN2 HW c0 c1 c2 c3 HC HO HBk HSz hS i3 i4
  obtain ⟨Fs4, hP0⟩ := HP0.out
  have HP0 := Lib.hid hP0
  clear hP0
  go_loopw [11, 12, 13, 14] (fun a i _ _ W => ∃ (q k : Nat), q ≤ n ∧ k ≤ m + 1 ∧ i = .int .i64 (k : Int) ∧ a = .int .i64 (q : Int) ∧ Hid (k = m + 1 → q = n) ∧ Hid (PRel w c R ps Fs4 S pt ((newSc c R).puts (xs.take q)) W)) (fun _ i _ _ _ => m + 1 - (intOf i).toNat)
  case atStart => exact ⟨0, 0, Nat.zero_le _, Nat.zero_le _, rfl, rfl, (show Hid (0 = m + 1 → 0 = n) from fun h => by omega), HP0⟩
  case round =>
    clear HP0
    obtain ⟨q, k, hq, hk, rfl, rfl, HE, HP⟩ := hrel
    by_cases hlt : k ≤ m
    · obtain ⟨Ft, ht, hdis, hft⟩ := HP.out.t
      have hcell := HP.out.b
      have b0 : wr.cell? ⟨w.heap.size, 0, none⟩ = some (.int .i64 (c : Int)) := hcell.cell 0
      have b1 : wr.cell? ⟨w.heap.size, 1, none⟩ = some (.int .i64 (R : Int)) := hcell.cell 1
      have HT := Lib.hid (And.intro ht (And.intro hdis hft))
      obtain ⟨D, hD⟩ : ∃ D, (if cap = q then A else Option.map (fun x => x.add q) A) = D := ⟨_, rfl⟩
      have HSr : Hid (∀ T, q ≤ T → T ≤ n → Calls Tryd.prog 11 #[.pointer (some ⟨pt, 0, none⟩), .slice D (T - q) (cap - q)] wr fun e w' => e = .returned (.tuple #[]) ∧ Hid (Goes pt Ft ((newSc c R).puts (xs.take T)) wr w')) := fun T h1 h2 => by
        have hsr := (HS.out.only HP.out.o (fun _ _ _ h => h)).piece q T h1 h2 D (fun h0 ad e => by rw [← hD, if_neg (by omega), e]; rfl)
        have e : (newSc c R).puts (xs.take T) = ((newSc c R).puts (xs.take q)).puts ((xs.take T).drop q) := by
          rw [← puts_append]
          congr 1
          have := List.take_append_drop q (xs.take T)
          rw [List.take_take, Nat.min_eq_left h1] at this
          exact this.symm
        rw [e]
        refine write_any ht (cap - q) hsr (by omega) (fun h0 ad e2 hf => ?_)
        have hn0 : 0 < n := by omega
        obtain ⟨ad0, eA, _⟩ := HS.out.2 hn0
        have h3 := HS.out.lt hn0 ad0 eA
        have h4 := hft _ hf
        rw [← hD, eA] at e2
        split at e2
        · injection e2 with e2
          subst e2
          omega
        · injection e2 with e2
          have : ad.block = ad0.block := by rw [← e2]; exact block_add _ _
          omega
      have HCur : Hid (∀ (T : Nat) (W : World) (F : Nat → Prop), ScAt W pt F ((newSc c R).puts (xs.take T)) → Calls Tryd.prog 20 #[.pointer (some ⟨pt, 0, none⟩)] W fun e w' => e = .returned (.complex .f64 (fl (((newSc c R).puts (xs.take T)).x : Int)) (fl (((newSc c R).puts (xs.take T)).y : Int))) ∧ w' = W) := fun T W F h => cursor_any h
      have HFar : Hid (∀ (T : Nat) (W : World) (F : Nat → Prop), ScAt W pt F ((newSc c R).puts (xs.take T)) → Calls Tryd.prog 22 #[.pointer (some ⟨pt, 0, none⟩), .complex .f64 (fl (((newSc c R).puts (xs.take T)).x : Int)) (fl (((newSc c R).puts (xs.take T)).y : Int))] W fun e w' => e = .returned (.int .i64 0) ∧ w' = W) := fun T W F h => by
        have := far_in h h.ok.hx h.ok.hy (.inl rfl) (.inl rfl)
        rw [Int.sub_self, Int.sub_self] at this
        exact this
      have HDim := Lib.hid (fun T => puts_dim Hok.out (xs.take T))
      have HOkT := Lib.hid (fun T => Hok.out.puts (xs.take T))
      clear ht hdis hft hcell
      by_cases hjr : k < m
      focus
        obtain ⟨x, hx⟩ : ∃ x, zs[k]? = some x := ⟨_, List.getElem?_eq_getElem (by rw [HZ.out.1]; exact hjr)⟩
        obtain ⟨ad, rfl, hc⟩ := HZ.out.2 (by omega)
        have c4 := HP.out.o.cellv (hc k x hx) (fun h => h)
        clear hx hc
        obtain ⟨K, hK, hKe⟩ := u64_rem x (n - q + 1) (by omega)
        obtain ⟨T, hT⟩ : ∃ T, T = q + K := ⟨_, rfl⟩
        have hT1 : q ≤ T := by omega
        have hT2 : T ≤ n := by omega
        have hK1 : wrap64 ((IntKind.u64.wrap x).tmod ((n : Int) - (q : Int) + 1)) = (K : Int) := by
          rw [show (n : Int) - (q : Int) + 1 = ((n - q + 1 : Nat) : Int) from by omega, hKe, wrap64_nat K (by omega)]
        have hK2 : wrap64 ((q : Int) + (K : Int)) = (T : Int) := by rw [← Int.natCast_add, ← hT, wrap64_nat T (by omega)]
        have HTe := Lib.hid (show k + 1 = m + 1 → T = n from fun h => by omega)
        have hkm : (k : Int) < (m : Int) := by omega
        clear hKe hK hT
      rotate_left
      focus
        obtain ⟨T, hT⟩ : ∃ T, T = n := ⟨_, rfl⟩
        have hT1 : q ≤ T := by omega
        have hT2 : T ≤ n := by omega
        have HTe := Lib.hid (show k + 1 = m + 1 → T = n from fun _ => hT)
        have hkm : ¬ (k : Int) < (m : Int) := by omega
        subst hT
      all_goals
        have j1 : (q : Int) ≤ (T : Int) := Int.ofNat_le.2 hT1
        have j3 : T ≤ cap := Nat.le_trans hT2 hcap
        have j2 : (T : Int) ≤ (cap : Int) := Int.ofNat_le.2 j3
        have j4 : (k : Int) ≤ (m : Int) := Int.ofNat_le.2 hlt
        have HWr := Lib.hid (HSr.out T hT1 hT2)
        have HCu := Lib.hid (HCur.out T)
        have HFa := Lib.hid (HFar.out T)
        have hdim := HDim.out T
        have hfacts := at_facts (HOkT.out T) (c := c) (R := R) hdim.1 (hdim.2.trans List.length_replicate)
        obtain ⟨g1, g2, g3, g4⟩ := hfacts
        clear hdim HSr HCur HFar HDim HOkT
        have HGo : Hid (∀ W, Goes pt Ft ((newSc c R).puts (xs.take T)) wr W → PRel w c R ps Fs4 S pt ((newSc c R).puts (xs.take T)) W) := fun W h => HP.out.gone HT.out.2.1 HT.out.2.2 h
        generalize hST : (newSc c R).puts (xs.take T) = ST at *
        have HST := Lib.hid hST
        clear hST
        generalize fl (ST.x : Int) = fx at *
        generalize fl (ST.y : Int) = fy at *
        go_wp2_with (first
          | (go_at_call 11; (with_reducible refine HWr.out.mono ?_); rintro e w5 ⟨rfl, hg5⟩; have HP5 := Lib.hid (HGo.out _ hg5.out); obtain ⟨F5, ht5, hdis5, hft5⟩ := HP5.out.t; have HT5 := Lib.hid ht5; have b2 : w5.cell? ⟨w.heap.size, 0, none⟩ = some (.int .i64 (c : Int)) := HP5.out.b.cell 0; have b3 : w5.cell? ⟨w.heap.size, 1, none⟩ = some (.int .i64 (R : Int)) := HP5.out.b.cell 1; clear ht5 hdis5 hft5 hg5)
          | (go_at_call 20; (with_reducible refine (HCu.out _ _ HT5.out).mono ?_); rintro e w6 ⟨rfl, e2⟩; subst w6)
          | (go_at_call 22; (with_reducible refine (HFa.out _ _ HT5.out).mono ?_); rintro e w6 ⟨rfl, e2⟩; subst w6)
          | fail)
        go_roundw
        case rel =>
          refine ⟨T, k + 1, hT2, by omega, by go_num, rfl, (fun h => by first | rfl | exact HTe.out h), ?_⟩
          rw [HST.out]
          exact HP5
        case measure => simp [intOf]; omega
    · obtain rfl : k = m + 1 := by omega
      obtain rfl : q = n := HE.out rfl
      have hxs : xs.take q = xs := List.take_of_length_le (by rw [HS.out.1]; exact Nat.le_refl _)
      rw [hxs, ← HSp.out] at HP
      obtain ⟨Ft, ht, hdis, hft⟩ := HP.out.t
      have hC1 := Lib.hid (cursor_any HP.out.s)
      have hC2 := Lib.hid (cursor_any ht)
      obtain ⟨e1, e2⟩ := eq_facts ht.ok
      have hL1 := Lib.hid (lines_any HP.out.s)
      have hL2 : Hid (∀ W, Only (fun _ => False) wr W → Calls Tryd.prog 19 #[.pointer (some ⟨pt, 0, none⟩)] W fun e w' => ∃ N, e = .returned (.slice (some ⟨N, 0, none⟩) S.rows.length S.rows.length) ∧ Hid (TSrc w' (some ⟨N, 0, none⟩) S.rows.length S.lines) ∧ Hid (Only (fun _ => False) W w')) := fun W ho => lines_any (ht.same ho)
      have hr2 := ht.ok.r2
      have j4 : ¬ ((m + 1 : Nat) : Int) ≤ (m : Int) := by omega
      have HOw := Lib.hid HP.out.o
      clear ht hdis hft HP hxs HSp
      generalize fl (S.x : Int) = fx at *
      generalize fl (S.y : Int) = fy at *
      generalize S.rows.length = RR at *
      generalize S.lines = ls at *
      go_wp2_with (first
        | (go_at_call 20; (with_reducible refine hC1.out.mono ?_); rintro e w6 ⟨rfl, e3⟩; subst w6)
        | (go_at_call 20; (with_reducible refine hC2.out.mono ?_); rintro e w6 ⟨rfl, e3⟩; subst w6)
        | (go_at_call 19; (with_reducible refine hL1.out.mono ?_); rintro e w7 ⟨N1, rfl, ht7, ho7⟩)
        | (go_at_call 19; (with_reducible refine (hL2.out _ ho7.out).mono ?_); rintro e w8 ⟨N2, rfl, ht8, ho8⟩; have hST := Lib.hid (sameTexts_any (ca := RR) (cb := RR) (ht7.out.same ho8.out) ht8.out (by omega)); rw [decide_eq_true rfl] at hST)
        | (go_at_call 18; (with_reducible refine hST.out.mono ?_); rintro e w9 ⟨rfl, e3⟩; subst w9)
        | fail)
      go_ret
      exact ⟨rfl, (HOw.out.trans ho7.out (fun _ h => h.elim)).trans ho8.out (fun _ h => h.elim)⟩
end Go.Proofs.YtgknhojjnnljkaaDoor
