/- Several texts in one. -/
import Derived.Test.YtbnfhklpobephaaGreatDoorKAlloc
import Derived.Lib.SliceRun
import Derived.Test.YtbnfhklpobephaaGreatDoorKTt
import Derived.BigQuiet
import Derived.Deep.RegionHeld3
import Derived.LaidEql
import Derived.LaidLaws
import Derived.Stop.Asserts
import Derived.RowKitTokens
import Derived.Outline
/- Rows of strings: two of them compared, a copy of one. -/
namespace Go.Proofs.YtbnfhklpobephaaGreatDoor
open Go Go.RowKit
set_option maxRecDepth 100000
set_option maxHeartbeats 4000000

theorem sameTexts_any {w : World} {A B : Option Addr} {n m ca cb : Nat} {xs ys : List (List UInt8)} (h : TSrc w A n xs) (h' : TSrc w B m ys) (hn : n ≤ 9223372036854775807) :
    Calls Tryz.prog 55 #[.slice A n ca, .slice B m cb] w fun e w' => e = .returned (.bool (decide (xs = ys))) ∧ w' = w := by
  obtain ⟨F, hF⟩ : ∃ F, F = decide (xs = ys) := ⟨_, rfl⟩
  have HF := Lib.hid hF
  rw [← hF]
  clear hF
  have H1 := Lib.hid h
  have H2 := Lib.hid h'
  clear h h'
  by_cases hm : n = m
  · subst hm
    go_enter Tryz.func55, Tryz.ntmps55
    go_wp2
    go_loop [14] (fun i => ∃ k : Nat, k ≤ n ∧ i = .int .i64 (k : Int) ∧ Hid (xs.take k = ys.take k)) (fun i => n - (intOf i).toNat)
    case atStart => exact ⟨0, Nat.zero_le _, rfl, by simp [Hid]⟩
    case round =>
      obtain ⟨k, hk, rfl, HD⟩ := hrel
      by_cases hlt : k < n
      · obtain ⟨ad, x, rfl, hx, hc⟩ := H1.out.get hlt
        obtain ⟨bd, y, rfl, hy, hd⟩ := H2.out.get hlt
        have HX := Lib.hid hx
        have HY := Lib.hid hy
        clear hx hy
        by_cases he : x = y
        · subst he
          have hxx : (x == x) = true := by simp
          go_wp2
          go_round
          case rel => exact ⟨k + 1, by omega, by go_num, by rw [Hid, take_snoc HX.out, take_snoc HY.out, HD.out]⟩
          case measure => simp [intOf]; omega
        · have hxy : (x == y) = false := by simp [he]
          go_wp2
          go_ret
          refine ⟨?_, rfl⟩
          rw [HF.out, decide_eq_false]
          · rfl
          · intro h
            subst h
            have h1 := HX.out
            rw [HY.out] at h1
            injection h1 with h1
            exact he h1.symm
      · obtain rfl : k = n := by omega
        go_wp2
        go_ret
        refine ⟨?_, rfl⟩
        have hd := HD.out
        rw [List.take_of_length_le (by rw [H1.out.1]; exact Nat.le_refl _), List.take_of_length_le (by rw [H2.out.1]; exact Nat.le_refl _)] at hd
        rw [HF.out, decide_eq_true hd]
        rfl
  · have hd : (n == m) = false := by simp; omega
    have hd2 : (n != m) = true := by simp; omega
    go_enter Tryz.func55, Tryz.ntmps55
    go_wp2
    go_ret
    refine ⟨?_, rfl⟩
    rw [HF.out, decide_eq_false]
    · rfl
    · intro h
      subst h
      exact hm (H1.out.1.symm.trans H2.out.1)

theorem clone_texts {w : World} {A : Option Addr} {n c : Nat} {ts : List (List UInt8)} (hs : TSrc w A n ts) (hn63 : n ≤ 1048576) :
    Calls Tryz.prog 133 #[.slice A n c] w fun e w' => ∃ A' c', e = .returned (.slice A' n c') ∧ TSrc w' A' n ts ∧ n ≤ c' ∧ c' ≤ 9223372036854775807 ∧ Only (fun _ => False) w w' := by
  obtain ⟨i0, hi0, hz0, hz1, hz2⟩ := info_parts info_str
  have hl : ts.length = n := hs.1
  have qn : ∀ (w : World) (a : Option Addr) (n c n' c' : Nat), (binOp .eql 27 (.slice a n c) (.slice none n' c')).run Tryz.prog w = .ok (.bool a.isNone) w := fun w a n c n' c' => Lib.run_eql_slice_nil w _ _ a n c n' c' Tryz.underlying27
  have HO := Lib.hid (((Only.refl (fun _ => False) w).alloc (.cells #[] 9)))
  have HE := Lib.hid (own_of_blk (B := 0) (c := 0) (s := 1) (n := 0) (xs := []) (Blk.new w 9 []) rfl rfl (by omega) (by omega) (Nat.zero_le _))
  have HS := Lib.hid hs
  have HL := Lib.hid hl
  clear hs hl
  cases A with
  | none =>
    have h0 : n = 0 := by
      rcases Nat.eq_zero_or_pos n with h | h
      · exact h
      · obtain ⟨_, h, _⟩ := HS.out.2 h
        cases h
    subst h0
    go_enter Tryz.func133, Tryz.ntmps133
    go_wp2
    go_ret
    exact ⟨_, _, rfl, HS.out, Nat.le_refl _, by omega, Only.refl _ _⟩
  | some ad =>
    have HN : Hid (∀ (j : Nat) (u : Value), (ts.map S8)[j]? = some u → (w.alloc (.cells #[] 9)).cell? (ad.add j) = some u) := fun j u hj => by
      have hn : 0 < n := by
        have := (List.getElem?_eq_some_iff.1 hj).1
        rw [List.length_map, HL.out] at this
        omega
      obtain ⟨ad', e, hc⟩ := HS.out.2 hn
      injection e with e
      subst e
      rw [List.getElem?_map] at hj
      cases hx : ts[j]? with
      | none => rw [hx] at hj; cases hj
      | some s =>
        rw [hx] at hj
        injection hj with hj
        subst hj
        exact HO.out.cellv (hc j s hx) (fun h => h)
    go_enter Tryz.func133, Tryz.ntmps133
    go_wp2_with (at_builtin; refine step_append_own rfl (.tmp 5) (.tmp 6) 27 rfl 0 9 i0 _ 1 16 Tryz.underlying27 hi0 hz0 hz1 hz2 rfl (by omega) _ 0 [] rfl HE.out (some ad) n c (ts.map S8) rfl (by rw [List.length_map, HL.out]; omega) (fun hn => ⟨ad, rfl, HN.out⟩) (S8_one _) (by omega) (by omega) (Nat.zero_le _) ?_; intro A' c' w2 hl1 hl2 hq; have HQ := Lib.hid hq.out; clear hq)
    go_ret
    obtain ⟨hown, hgr, _⟩ := HQ.out
    rw [Nat.zero_add, List.nil_append] at hown
    refine ⟨A', c', rfl, TSrc.of_own hown, by omega, hl2, HO.out.grown hgr (fun q hq => .inr (by cases hq; exact Nat.le_refl _))⟩
end Go.Proofs.YtbnfhklpobephaaGreatDoor
/- Lists of types, within a block from place 7 on: Take, Names, ends. -/
namespace Go.Proofs.YtbnfhklpobephaaGreatDoor
open Go Go.RowKit
set_option maxRecDepth 100000
set_option maxHeartbeats 4000000

/-- A list in memory. -/
structure LiAt (w : World) (p mo : Nat) (t : TypeId) (pre post : List Value) (l : Ls) : Prop where
  ok : l.Ok
  blk : InB w p t pre post mo (cellsL l)
section
variable {w w' : World} {p mo : Nat} {t : TypeId} {pre post : List Value} {l : Ls}
theorem LiAt.same (h : LiAt w p mo t pre post l) (ho : Only (fun _ => False) w w') : LiAt w' p mo t pre post l := ⟨h.ok, h.blk.same ho⟩
theorem LiAt.only {S : Nat → Prop} (h : LiAt w p mo t pre post l) (ho : Only S w w') (hS : ¬ S p) : LiAt w' p mo t pre post l := ⟨h.ok, h.blk.only ho hS⟩
theorem LiAt.at8 (h : LiAt w p mo t pre post l) : w.cell? ⟨p, mo + 8, none⟩ = some (.int .i64 (l.names.length : Int)) := h.blk.val (cellsL_count h.ok)
theorem LiAt.at9 (h : LiAt w p mo t pre post l) : w.cell? ⟨p, mo + 9, none⟩ = some (.bool l.whole) := h.blk.val (cellsL_whole h.ok)
theorem LiAt.src (h : LiAt w p mo t pre post l) : TSrc w (some ⟨p, mo, none⟩) l.names.length l.names := ⟨rfl, fun _ => ⟨_, rfl, fun j x hj => by
  rw [show (⟨p, mo, none⟩ : Addr).add j = ⟨p, mo + j, none⟩ from by unfold Addr.add; split <;> simp_all]
  exact h.blk.val (cellsL_name hj)⟩⟩

theorem liEnds_any (h : LiAt w p mo t pre post l) (s : List UInt8) : Calls Tryz.prog 232 #[.pointer (some ⟨p, mo, none⟩), .string ⟨s.toArray⟩] w fun e w' => e = .returned (.bool (decide (l.names.getLast? = some s))) ∧ Only (fun _ => False) w w' := by
  have c8 := h.at8
  have h8 := h.ok.most
  obtain ⟨n, hn⟩ : ∃ n, n = l.names.length := ⟨_, rfl⟩
  rw [← hn] at c8 h8
  rcases Nat.eq_zero_or_pos n with h0 | h0
  · have hl : l.names = [] := List.eq_nil_of_length_eq_zero (by omega)
    rw [hl]
    clear hn hl h
    subst h0
    go_enter Tryz.func232, Tryz.ntmps232
    go_wp2
    go_quiet (fail)
    go_wp2
    go_ret
    exact ⟨rfl, (Only.refl _ _).drewN _⟩
  · obtain ⟨j, rfl⟩ : ∃ j, n = j + 1 := ⟨n - 1, by omega⟩
    have hx : l.names[j]? = some (l.names[j]'(by omega)) := List.getElem?_eq_getElem _
    obtain ⟨x, hx'⟩ : ∃ x, x = l.names[j]'(by omega) := ⟨_, rfl⟩
    rw [← hx'] at hx
    have hlast : l.names.getLast? = some x := by rw [List.getLast?_eq_getElem?, ← hn, Nat.add_sub_cancel, hx]
    have cj := h.blk.val (cellsL_name hx)
    rw [hlast]
    obtain ⟨b, hb⟩ : ∃ b, (x == s) = b := ⟨_, rfl⟩
    have hb2 : decide (some x = some s) = b := by
      rw [← hb]
      by_cases he : x = s
      · subst he; simp
      · rw [decide_eq_false (by simpa using he)]; simp [he]
    rw [hb2]
    have e1 : IntKind.i64.wrap (((j + 1 : Nat) : Int) - 1) = (j : Int) := (IntWalk.i64_in _ (by omega)).trans (by omega)
    have hd : decide ((0 : Int) < ((j + 1 : Nat) : Int)) = true := by simp
    obtain ⟨J, hJ⟩ : ∃ J : Int, J = ((j + 1 : Nat) : Int) := ⟨_, rfl⟩
    have hj8 : j < 8 := by omega
    rw [← hJ] at c8 e1 hd
    clear hx hx' hlast hb2 hn h hJ h0
    cases b
    all_goals
      go_enter Tryz.func232, Tryz.ntmps232
      go_wp2
      go_quiet (fail)
      go_wp2
      go_ret
      exact ⟨rfl, (Only.refl _ _).drewN _⟩

theorem liNames_any (h : LiAt w p mo t pre post l) : Calls Tryz.prog 105 #[.pointer (some ⟨p, mo, none⟩)] w fun e w' => ∃ A c, e = .returned (.slice A l.names.length c) ∧ Hid (TSrc w' A l.names.length l.names) ∧ Hid (Only (fun _ => False) w w') := by
  have hs := h.src
  have h8 := h.ok.most
  obtain ⟨n, hn⟩ : ∃ n, n = l.names.length := ⟨_, rfl⟩
  have HC : Hid (∀ W, Only (fun _ => False) w W → W.cell? ⟨p, mo + 8, none⟩ = some (.int .i64 (n : Int))) := fun W ho => by
    rw [hn]
    exact (h.same ho).at8
  rw [← hn] at hs h8 ⊢
  have HCl := Lib.hid (fun W (ho : Only (fun _ => False) w W) => clone_texts (c := 8) (hs.same ho) (by omega))
  have b0 : (0 : Int) ≤ (n : Int) := by omega
  have b8 : (n : Int) ≤ 8 := by omega
  clear hs hn h
  go_enter Tryz.func105, Tryz.ntmps105
  go_wp2
  go_region_held3 (fun W => W.cell? ⟨p, mo + 8, none⟩ = some (.int .i64 (n : Int)))
    (first | exact HC.out _ (Only.refl _ _).drew | exact HC.out _ ho1)
    (first | (go_at_call 133; (with_reducible refine (HCl.out _ (Only.refl _ _).drew).mono ?_); rintro e w1 ⟨A', c', rfl, hs1, hl1, hl2, ho1'⟩; have HS1 := Lib.hid hs1; have ho1 : Only (fun _ => False) w w1 := (Only.refl _ _).drew.trans ho1' (fun _ h => h.elim); clear hs1 ho1'))
  go_wp2
  go_ret
  exact ⟨A', c', rfl, HS1.out, ho1⟩

theorem liTake_any (h : LiAt w p mo t pre post l) (s : List UInt8) : Calls Tryz.prog 222 #[.pointer (some ⟨p, mo, none⟩), .string ⟨s.toArray⟩] w fun e w' => e = .returned (.bool (l.take s).whole) ∧ LiAt w' p mo t pre post (l.take s) ∧ Only (· = p) w w' := by
  have c9 := h.at9
  have HR := Lib.hid (fun W => ttright_any W s)
  have HE := Lib.hid (liEnds_any h s)
  cases hw : l.whole with
  | true =>
    rw [hw] at c9
    rw [Ls.take_full hw, hw]
    have H := Lib.hid h
    clear h hw HE HR
    go_enter Tryz.func222, Tryz.ntmps222
    go_wp2
    go_ret
    exact ⟨rfl, H.out, Only.refl _ _⟩
  | false =>
    rw [hw] at c9
    cases ho : okT s with
    | false =>
      rw [Ls.take_bad ho, hw]
      rw [ho] at HR
      have H := Lib.hid h
      clear h hw HE ho
      go_enter Tryz.func222, Tryz.ntmps222
      go_wp2_with (go_at_call 132; (with_reducible refine (HR.out _).mono ?_); rintro e w1 ⟨rfl, e1⟩; subst w1)
      go_ret
      exact ⟨rfl, H.out, Only.refl _ _⟩
    | true =>
      rw [ho] at HR
      have HOk : Hid (l.take s).Ok := h.ok.take s
      by_cases hl : l.names.getLast? = some s
      · rw [Ls.take_end hw ho hl] at HOk ⊢
        rw [decide_eq_true hl] at HE
        have H := Lib.hid h
        have HW := Lib.hid c9
        clear h hw ho hl c9
        have HB : ∀ W, Only (fun _ => False) w W → LiAt W p mo t pre post l := fun W ho => H.out.same ho
        have HB := Lib.hid HB
        go_enter Tryz.func222, Tryz.ntmps222
        have c9 : w.cell? ⟨p, mo + 9, none⟩ = some (.bool false) := HW.out
        go_wp2_with (first
          | (go_at_call 132; (with_reducible refine (HR.out _).mono ?_); rintro e w1 ⟨rfl, e1⟩; subst w1)
          | (go_at_call 232; (with_reducible refine HE.out.mono ?_); rintro e w2 ⟨rfl, ho2⟩; have c9' : w2.cell? ⟨p, mo + 9, none⟩ = some (.bool false) := (ho2.cellv HW.out (fun h => h)); have f9 := (HB.out w2 ho2).blk.frozen (mo + 9); have HO2 := Lib.hid ho2; clear ho2))
        go_ret
        refine ⟨rfl, ⟨HOk.out, ?_⟩, HO2.out.mono (fun _ h => h.elim) |>.trans ((Only.refl (· = p) w2).setCell (p := ⟨p, mo + 9, none⟩) (.inl rfl) _) (fun i hi => .inl hi)⟩
        have := (HB.out w2 HO2.out).blk.setCell (i := 9) (by rw [cellsL_len H.out.ok]; omega) (.bool true)
        rw [cellsL_end H.out.ok] at this
        exact this
      · rw [Ls.take_new hw ho hl] at HOk ⊢
        rw [decide_eq_false hl] at HE
        have hroom := h.ok.room hw
        have h8 := h.at8
        have hv : ∃ v, w.cell? ⟨p, mo + l.names.length, none⟩ = some v := by
          rw [h.blk.cell (by rw [cellsL_len h.ok]; omega)]
          exact ⟨_, List.getElem?_eq_getElem (by rw [cellsL_len h.ok]; omega)⟩
        obtain ⟨v, hv⟩ := hv
        obtain ⟨n, hn⟩ : ∃ n, n = l.names.length := ⟨_, rfl⟩
        have HN := Lib.hid hn
        rw [← hn] at h8 hv hroom ⊢
        have H := Lib.hid h
        have HW := Lib.hid c9
        have HV := Lib.hid hv
        have H8 := Lib.hid h8
        obtain ⟨b, hb⟩ : ∃ b, b = decide (n + 1 = 8) := ⟨_, rfl⟩
        have hb1 : (((n : Int) + 1) == 8) = b := by
          rw [hb]
          by_cases he : n + 1 = 8
          · rw [decide_eq_true he]; simp; omega
          · rw [decide_eq_false he]; simp; omega
        have HBb := Lib.hid hb
        have HB : ∀ W, Only (fun _ => False) w W → LiAt W p mo t pre post l := fun W ho => H.out.same ho
        have HB := Lib.hid HB
        clear h hw ho hl hn hv h8 hb
        go_enter Tryz.func222, Tryz.ntmps222
        go_wp2_with (first
          | (go_at_call 132; (with_reducible refine (HR.out _).mono ?_); rintro e w1 ⟨rfl, e1⟩; subst w1)
          | (go_at_call 232; (with_reducible refine HE.out.mono ?_); rintro e w2 ⟨rfl, ho2⟩; have c9' := (ho2.cellv HW.out (fun h => h)); have c8' := (ho2.cellv H8.out (fun h => h)); have cn' := (ho2.cellv HV.out (fun h => h)); have f9 := (HB.out w2 ho2).blk.frozen (mo + 9); have f8 := (HB.out w2 ho2).blk.frozen (mo + 8); have fn := (HB.out w2 ho2).blk.frozen (mo + n); have HO2 := Lib.hid ho2; clear ho2 c9))
        go_region
        have hB3 : InB (w2.setCell ⟨p, mo + n, none⟩ (.string ⟨s.toArray⟩)).drew p t pre post mo ((cellsL l).set n (S8 s)) := ((HB.out w2 HO2.out).blk.setCell (i := n) (by rw [cellsL_len H.out.ok]; omega) (S8 s)).drew
        have hO3 : Only (· = p) w (w2.setCell ⟨p, mo + n, none⟩ (.string ⟨s.toArray⟩)).drew := ((HO2.out.mono (T := (· = p)) (fun _ h => h.elim)).setCell (p := ⟨p, mo + n, none⟩) (.inl rfl) _).drew
        generalize (w2.setCell ⟨p, mo + n, none⟩ (.string ⟨s.toArray⟩)).drew = W3 at *
        have HB3 := Lib.hid hB3
        have HO3 := Lib.hid hO3
        clear c9' c8' cn' f9 f8 fn hB3 hO3
        have c8 : W3.cell? ⟨p, mo + 8, none⟩ = some (.int .i64 (n : Int)) := by
          refine HB3.out.val (i := 8) ?_
          rw [List.getElem?_set_ne (by omega), cellsL_count H.out.ok, ← HN.out]
        have f8 := HB3.out.frozen (mo + 8)
        have HC9 : ∃ v, W3.cell? ⟨p, mo + 9, none⟩ = some v := by
          refine ⟨.bool l.whole, HB3.out.val (i := 9) ?_⟩
          rw [List.getElem?_set_ne (by omega), cellsL_whole H.out.ok]
        obtain ⟨v9, c9⟩ := HC9
        have f9 := HB3.out.frozen (mo + 9)
        go_wp2
        go_ret
        have hB := (HB3.out.setCell (i := 8) (by rw [List.length_set, cellsL_len H.out.ok]; omega) (.int .i64 ((n : Int) + 1))).setCell (i := 9) (by rw [List.length_set, List.length_set, cellsL_len H.out.ok]; omega) (.bool b)
        rw [HN.out, cellsL_new H.out.ok (by rw [← HN.out]; exact hroom), ← HN.out] at hB
        rw [HBb.out] at hB ⊢
        refine ⟨rfl, ⟨?_, hB⟩, (HO3.out.setCell (p := ⟨p, mo + 8, none⟩) (.inl rfl) _).setCell (p := ⟨p, mo + 9, none⟩) (.inl rfl) _⟩
        have := HOk.out
        rw [← HN.out] at this
        exact this
end
end Go.Proofs.YtbnfhklpobephaaGreatDoor
/- Masks: which numbers they are, what two of them share, their bits as the machine has them, their words, what a body says: as plain functions. -/
namespace Go.Proofs.YtbnfhklpobephaaGreatDoor
open Go Go.RowKit
set_option maxRecDepth 100000
set_option maxHeartbeats 4000000

/-- A mask: of the numbers from 0 to 31 those without 4. -/
def isMask (m : Int) : Bool := decide (0 ≤ m ∧ m < 32 ∧ m % 8 < 4)
theorem isMask_iff {m : Int} : isMask m = true ↔ 0 ≤ m ∧ m < 32 ∧ m % 8 < 4 := by simp [isMask]
theorem isMask_cases {m : Int} (h : isMask m = true) : m = 0 ∨ m = 1 ∨ m = 2 ∨ m = 3 ∨ m = 8 ∨ m = 9 ∨ m = 10 ∨ m = 11 ∨ m = 16 ∨ m = 17 ∨ m = 18 ∨ m = 19 ∨ m = 24 ∨ m = 25 ∨ m = 26 ∨ m = 27 := by
  rw [isMask_iff] at h
  omega
/-- What holds of sixteen numbers holds of every mask. -/
theorem mask_all {p : Int → Prop} (h : ∀ n : Fin 28, isMask (n.val : Int) = true → p (n.val : Int)) {m : Int} (hm : isMask m = true) : p m := by
  have h1 := isMask_iff.1 hm
  have h2 : m < 28 := by omega
  have := h ⟨m.toNat, by omega⟩ (by rw [show ((⟨m.toNat, by omega⟩ : Fin 28).val : Int) = m from by simp; omega]; exact hm)
  rwa [show ((⟨m.toNat, by omega⟩ : Fin 28).val : Int) = m from by simp; omega] at this

/-- A number that a machine's word holds. -/
def In64 (m : Int) : Prop := -9223372036854775808 ≤ m ∧ m ≤ 9223372036854775807

theorem wrap_of (x : BitVec 64) : IntKind.wrap .i64 (x.toNat : Int) = x.toInt := by
  have hx := x.isLt
  rw [IntWalk.i64_left, BitVec.toInt_eq_toNat_bmod, Int.bmod_def]
  unfold wrap64
  omega
theorem ofInt_wrap (x : BitVec 64) : BitVec.ofInt 64 (IntKind.wrap .i64 (x.toNat : Int)) = x := by
  rw [wrap_of, BitVec.ofInt_toInt]
theorem and_not_part (x m : BitVec 64) (h : x &&& ~~~m = 0#64) : x &&& m = x := by
  apply BitVec.eq_of_getLsbD_eq
  intro i hi
  have h1 := congrArg (fun y => BitVec.getLsbD y i) h
  simp [hi] at h1 ⊢
  exact h1
/-- A part of 27. -/
theorem part_mask (x : BitVec 64) (h : x &&& 27#64 = x) : isMask x.toInt = true := by
  have h1 := congrArg BitVec.toNat h
  rw [BitVec.toNat_and] at h1
  have h27 : (27#64).toNat = 27 := rfl
  rw [h27] at h1
  have hle : x.toNat ≤ 27 := by rw [← h1]; exact Nat.and_le_right
  have e : x.toInt = (x.toNat : Int) := by rw [BitVec.toInt_eq_toNat_of_lt (by omega)]
  rw [e]
  have key : ∀ n : Fin 28, n.val &&& 27 = n.val → isMask (n.val : Int) = true := by decide +kernel
  exact key ⟨x.toNat, by omega⟩ h1

/-- Whether a number has bits beside the mask's. -/
theorem right_bits {m : Int} (hm : In64 m) : (bits .andNot .i64 m 27 == 0) = isMask m := by
  cases h : isMask m with
  | true =>
    have key : ∀ n : Fin 28, isMask (n.val : Int) = true → (bits .andNot .i64 (n.val : Int) 27 == 0) = true := by decide +kernel
    exact mask_all (p := fun m => (bits .andNot .i64 m 27 == 0) = true) key h
  | false =>
    rw [Bool.eq_false_iff]
    intro hb
    rw [beq_iff_eq] at hb
    have e : bits .andNot .i64 m 27 = IntKind.wrap .i64 ((BitVec.ofInt 64 m &&& ~~~(27#64)).toNat : Int) := rfl
    rw [e, wrap_of] at hb
    have hz : BitVec.ofInt 64 m &&& ~~~(27#64) = 0#64 := BitVec.eq_of_toInt_eq (by rw [hb]; rfl)
    have hp := part_mask _ (and_not_part _ _ hz)
    rw [BitVec.toInt_ofInt, show (m.bmod (2 ^ 64)) = m from by unfold In64 at hm; rw [Int.bmod_def]; omega] at hp
    rw [hp] at h
    cases h

/-- What a tail that was told a number can do. -/
def canOf (can : Int) : Int := bits .and .i64 can 27
theorem canOf_mask (can : Int) : isMask (canOf can) = true := by
  have e : canOf can = IntKind.wrap .i64 ((BitVec.ofInt 64 can &&& 27#64).toNat : Int) := rfl
  rw [e, wrap_of]
  refine part_mask _ ?_
  rw [BitVec.and_assoc, BitVec.and_self]
/-- The bits, in the order of their words. -/
def bitV : Nat → Int
  | 0 => 1
  | 1 => 2
  | 2 => 8
  | _ => 16
/-- Whether a mask has a bit. -/
def hasB (m : Int) (k : Nat) : Bool := decide (m / bitV k % 2 = 1)
theorem can_bit (can : Int) (k : Nat) : bits .and .i64 can (bitV k) = bits .and .i64 (canOf can) (bitV k) := by
  have e1 : bits .and .i64 can (bitV k) = IntKind.wrap .i64 ((BitVec.ofInt 64 can &&& BitVec.ofInt 64 (bitV k)).toNat : Int) := rfl
  have e2 : bits .and .i64 (canOf can) (bitV k) = IntKind.wrap .i64 ((BitVec.ofInt 64 (canOf can) &&& BitVec.ofInt 64 (bitV k)).toNat : Int) := rfl
  have e3 : canOf can = IntKind.wrap .i64 ((BitVec.ofInt 64 can &&& 27#64).toNat : Int) := rfl
  rw [e1, e2, e3, ofInt_wrap, BitVec.and_assoc]
  have : 27#64 &&& BitVec.ofInt 64 (bitV k) = BitVec.ofInt 64 (bitV k) := by unfold bitV; split <;> rfl
  rw [this]
theorem mask_bit {m : Int} (hm : isMask m = true) (k : Nat) (hk : k < 4) : (bits .and .i64 m (bitV k) == 0) = !hasB m k := by
  have key : ∀ n : Fin 28, isMask (n.val : Int) = true → ∀ k : Fin 4, (bits .and .i64 (n.val : Int) (bitV k.val) == 0) = !hasB (n.val : Int) k.val := by decide +kernel
  exact mask_all (p := fun m => ∀ k : Fin 4, (bits .and .i64 m (bitV k.val) == 0) = !hasB m k.val) key hm ⟨k, hk⟩
theorem can_has (can : Int) (k : Nat) (hk : k < 4) : (bits .and .i64 can (bitV k) == 0) = !hasB (canOf can) k := by
  rw [can_bit, mask_bit (canOf_mask can) k hk]

/-- The bits that are in both, as far as so many. -/
def bothTo (a b : Int) : Nat → Int
  | 0 => 0
  | k + 1 => bothTo a b k + (if hasB a k && hasB b k then bitV k else 0)
/-- What two masks share. -/
def both (a b : Int) : Int := bothTo a b 4
theorem bothTo_in (a b : Int) : ∀ k, k ≤ 4 → 0 ≤ bothTo a b k ∧ bothTo a b k ≤ 16 * k
  | 0, _ => ⟨Int.le_refl _, Int.le_refl _⟩
  | k + 1, h => by
    have ih := bothTo_in a b k (by omega)
    have hv : 0 ≤ bitV k ∧ bitV k ≤ 16 := by unfold bitV; split <;> decide
    rw [bothTo]
    split <;> omega
theorem and_both {a b : Int} (ha : isMask a = true) (hb : isMask b = true) : bits .and .i64 a b = both a b := by
  have key : ∀ x : Fin 28, isMask (x.val : Int) = true → ∀ y : Fin 28, isMask (y.val : Int) = true → bits .and .i64 (x.val : Int) (y.val : Int) = both (x.val : Int) (y.val : Int) := by decide +kernel
  exact mask_all (p := fun a => ∀ b, isMask b = true → bits .and .i64 a b = both a b) (fun x hx b hb => mask_all (p := fun b => bits .and .i64 (x.val : Int) b = both (x.val : Int) b) (fun y hy => key x hx y hy) hb) ha b hb
theorem both_mask {a b : Int} (ha : isMask a = true) (hb : isMask b = true) : isMask (both a b) = true := by
  have key : ∀ x : Fin 28, isMask (x.val : Int) = true → ∀ y : Fin 28, isMask (y.val : Int) = true → isMask (both (x.val : Int) (y.val : Int)) = true := by decide +kernel
  exact mask_all (p := fun a => ∀ b, isMask b = true → isMask (both a b) = true) (fun x hx b hb => mask_all (p := fun b => isMask (both (x.val : Int) b) = true) (fun y hy => key x hx y hy) hb) ha b hb
/-- A mask with Ack. -/
theorem or_four {m : Int} (hm : isMask m = true) : bits .or .i64 m 4 = m + 4 := by
  have key : ∀ n : Fin 28, isMask (n.val : Int) = true → bits .or .i64 (n.val : Int) 4 = (n.val : Int) + 4 := by decide +kernel
  exact mask_all (p := fun m => bits .or .i64 m 4 = m + 4) key hm

/-- A number without 4. -/
def clr (y : Nat) : Int := if y / 4 % 2 = 1 then (y : Int) - 4 else y
def ackB (y : Nat) : Bool := decide (y / 4 % 2 = 1)
theorem clr_bits (y : Nat) (hy : y < 256) : bits .andNot .i64 (y : Int) 4 = clr y := by
  have key : ∀ n : Fin 256, bits .andNot .i64 (n.val : Int) 4 = clr n.val := by decide +kernel
  exact key ⟨y, hy⟩
theorem clr_in (y : Nat) (hy : y < 256) : 0 ≤ clr y ∧ clr y ≤ 255 := by
  unfold clr
  split <;> omega
theorem ack_ne (y : Nat) (hy : y < 256) : ((y : Int) != clr y) = ackB y := by
  have key : ∀ n : Fin 256, ((n.val : Int) != clr n.val) = ackB n.val := by decide +kernel
  exact key ⟨y, hy⟩
/-- What a body says: the mask, whether it has Ack, the error's number. -/
def saysM : List UInt8 → Int × Bool × Nat
  | [] => (0, false, 3)
  | [_] => (0, false, 3)
  | [x, y] => if x.toNat = 1 then (if isMask (clr y.toNat) then (clr y.toNat, ackB y.toNat, 0) else (0, false, 5)) else (0, false, 9)
  | _ => (0, false, 4)
/-- A mask's body. -/
def bodyM (m : Int) : List UInt8 := [1, b8 m]
theorem saysM_body {m : Int} (hm : isMask m = true) : saysM (bodyM m) = (m, false, 0) := by
  have key : ∀ n : Fin 28, isMask (n.val : Int) = true → saysM (bodyM (n.val : Int)) = ((n.val : Int), false, 0) := by decide +kernel
  exact mask_all (p := fun m => saysM (bodyM m) = (m, false, 0)) key hm
theorem saysM_ack {m : Int} (hm : isMask m = true) : saysM (bodyM (m + 4)) = (m, true, 0) := by
  have key : ∀ n : Fin 28, isMask (n.val : Int) = true → saysM (bodyM ((n.val : Int) + 4)) = ((n.val : Int), true, 0) := by decide +kernel
  exact mask_all (p := fun m => saysM (bodyM (m + 4)) = (m, true, 0)) key hm
theorem saysM_mask : ∀ {b : List UInt8}, (saysM b).2.2 = 0 → isMask (saysM b).1 = true
  | [], h => by simp [saysM] at h
  | [_], h => by simp [saysM] at h
  | [x, y], h => by
    rw [saysM] at h ⊢
    by_cases h1 : x.toNat = 1
    · rw [if_pos h1] at h ⊢
      cases h2 : isMask (clr y.toNat) with
      | true =>
        rw [if_pos rfl]
        exact h2
      | false =>
        rw [h2] at h
        simp at h
    · rw [if_neg h1] at h
      simp at h
  | _ :: _ :: _ :: _, h => by simp [saysM] at h

/-- The words. -/
def wordM : Nat → List UInt8
  | 0 => [101, 100, 105, 116]
  | 1 => [116, 114, 97, 112]
  | 2 => [115, 111, 102, 116]
  | _ => [108, 105, 116]
/-- The words of a mask's bits, as far as so many. -/
def wordsTo (m : Int) : Nat → List (List UInt8)
  | 0 => []
  | k + 1 => if hasB m k then wordsTo m k ++ [wordM k] else wordsTo m k
/-- .. with a + between. -/
def textTo (m : Int) : Nat → List UInt8
  | 0 => []
  | k + 1 => if hasB m k then (if textTo m k = [] then wordM k else (textTo m k ++ [43]) ++ wordM k) else textTo m k
def textM (m : Int) : List UInt8 := if textTo m 4 = [] then [110, 111, 110, 101] else textTo m 4
end Go.Proofs.YtbnfhklpobephaaGreatDoor
/- Errors of package api, where a seat has some of the sixteen alone: what the program's text lays. -/
namespace Go.Proofs.YtbnfhklpobephaaGreatDoor
open Go Go.ChangeShapes Go.WideShapes Go.ChangeAt Go.RowKit Go.Extern.Stop Go.Stop Go.Extern

/-- An error of errors.New's make, es a value. -/
def errV (a : Addr) : Value := .iface 409 (.pointer (some a))

theorem star : "*" ++ "errors.errorString" = "*errors.errorString" := by decide
theorem rowErr (u : TypeId) (h : Tryz.prog.typeName? 3 u = some "*errors.errorString") : u = 409 :=
  typeName_ptr_named (nm := "errors.errorString") (by rw [star]; kernel_rfl) (by kernel_rfl) (by decide) u (by rw [star]; exact h)

set_option maxRecDepth 100000 in
/-- What a list of such variables gives: of each the cell that holds it, and its own row of cells; no two are one. -/
theorem laid_list {W : World} : ∀ (laid : List (String × DataW Unit)) (ps : List MemPlace), DataW.LaidVars Tryz.prog W laid ps →
    (∀ x ∈ laid, ∃ text, x.2 = .iface "*errors.errorString" (.ptr (.agg [.lit (.string text)]))) →
    (∀ x ∈ laid, ∀ g, Tryz.prog.globalNamed x.1 = some g → (Tryz.prog.globals[g]?).map (·.type) = some 38) →
    (∀ b off, MemPlace.cell b off ∈ ps → (∃ c t, W.heap[b]? = some (.cells c t (0, 0))) ∧ ∀ u v, W.cell? ⟨b, off, none⟩ = some (.iface u v) → Value.okWide Tryz.prog W .any 0 u v) → ps.Nodup →
    ∃ es : List Addr, es.length = laid.length ∧ es.Nodup ∧ (∀ a ∈ es, MemPlace.cell a.block a.off ∈ ps) ∧
      ∀ (i : Nat) (x : String × DataW Unit) (a : Addr), laid[i]? = some x → es[i]? = some a → ∃ g, Tryz.prog.globalNamed x.1 = some g ∧ W.cell? ⟨g, 0, none⟩ = some (errV a) ∧ ∃ c t, W.heap[a.block]? = some (.cells c t (0, 0))
  | [], ps, _, _, _, _, _ => ⟨[], rfl, List.nodup_nil, (fun _ h => by cases h), (fun i x a h => by cases h)⟩
  | (n, d) :: r, ps, h, hk, ht, hrows, hnd => by
    obtain ⟨g, t, cs, fuel, p, q, hg, hty, hv, hd, hr, rfl⟩ := h
    obtain rfl := Option.some.inj ((ht _ (List.mem_cons_self ..) g hg).symm.trans hty)
    obtain ⟨text, htext⟩ := hk _ (List.mem_cons_self ..)
    simp only at htext
    subst htext
    have hcell := World.var?_cell hg hv 0
    obtain ⟨l⟩ := cs
    have ok : ∀ u v, l = [.iface u v] → Value.okWide Tryz.prog W .any 0 u v := fun u v e => by
      subst e
      exact (hrows g 0 (by simp [MemPlace.row])).2 u v (by simpa using hcell)
    obtain ⟨a, s, rfl, _, _, _, rfl⟩ := errorString_of_trod Tryz.underlying38 rowErr Tryz.underlying409 Tryz.underlying434 rfl rfl Tryz.underlying9 (by kernel_rfl) (by kernel_rfl) hd ok
    obtain ⟨hn1, hn2, hn3⟩ := List.nodup_append.1 hnd
    obtain ⟨es, h1, h2, h3, h4⟩ := laid_list r q hr (fun x hx => hk x (List.mem_cons_of_mem _ hx)) (fun x hx => ht x (List.mem_cons_of_mem _ hx)) (fun b off hb => hrows b off (List.mem_append_right _ hb)) hn2
    refine ⟨a :: es, by simp [h1], List.nodup_cons.2 ⟨fun ha => ?_, h2⟩, fun b hb => ?_, fun i x b hx hb => ?_⟩
    · exact hn3 (MemPlace.cell a.block a.off) (List.mem_append_right _ (by simp [MemPlace.row])) _ (h3 a ha) rfl
    · rcases List.mem_cons.1 hb with rfl | hb
      · exact List.mem_append_left _ (List.mem_append_right _ (by simp [MemPlace.row]))
      · exact List.mem_append_right _ (h3 b hb)
    · match i, hx, hb with
      | 0, hx, hb =>
        simp only [List.getElem?_cons_zero, Option.some.injEq] at hx hb
        subst hx hb
        exact ⟨g, hg, by simpa [errV] using hcell, (hrows a.block a.off (List.mem_append_left _ (List.mem_append_right _ (by simp [MemPlace.row])))).1⟩
      | i + 1, hx, hb => exact h4 i x b (by simpa using hx) (by simpa using hb)

/-- The variables, by their numbers; beyond 1000: those that this seat lacks. -/
def errIds : List Nat := [0, 1000001, 2, 3, 4, 5, 6, 7, 8, 9, 1000010, 1000011, 1000012, 1000013, 1000014, 1000015]

/-- The errors that this seat has lie where they were laid. -/
structure ErrsAt (W : World) (es : List Addr) : Prop where
  len : es.length = 16
  at_ : ∀ (i g : Nat) (a : Addr) (_ : errIds[i]? = some g) (_ : es[i]? = some a) (_ : g < 1000 := by decide), W.cell? ⟨g, 0, none⟩ = some (errV a)
theorem ErrsAt.only {W W' : World} {es : List Addr} (h : ErrsAt W es) (ho : Only (fun _ => False) W W') : ErrsAt W' es :=
  ⟨h.len, fun i g a hi ha hg => ho.cellv (h.at_ i g a hi ha hg) (fun h => h)⟩
end Go.Proofs.YtbnfhklpobephaaGreatDoor
