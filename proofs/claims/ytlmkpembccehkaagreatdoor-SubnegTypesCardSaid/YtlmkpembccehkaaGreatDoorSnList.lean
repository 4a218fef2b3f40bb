/- Lists of types, within a block from place 7 on: Take, Names, ends. -/
import Derived.Test.YtlmkpembccehkaaGreatDoorTtAll
import Derived.Test.YtlmkpembccehkaaGreatDoorSnIn
import Derived.BigQuiet
import Derived.Deep.RegionHeld3
namespace Go.Proofs.YtlmkpembccehkaaGreatDoor
open Go Go.RowKit
set_option maxRecDepth 100000
set_option maxHeartbeats 4000000

/-- A list in memory. -/
structure LiAt (w : World) (p : Nat) (t : TypeId) (pre post : List Value) (l : Ls) : Prop where
  ok : l.Ok
  blk : InB w p t pre post 7 (cellsL l)
section
variable {w w' : World} {p : Nat} {t : TypeId} {pre post : List Value} {l : Ls}
theorem LiAt.same (h : LiAt w p t pre post l) (ho : Only (fun _ => False) w w') : LiAt w' p t pre post l := ⟨h.ok, h.blk.same ho⟩
theorem LiAt.only {S : Nat → Prop} (h : LiAt w p t pre post l) (ho : Only S w w') (hS : ¬ S p) : LiAt w' p t pre post l := ⟨h.ok, h.blk.only ho hS⟩
theorem LiAt.at8 (h : LiAt w p t pre post l) : w.cell? ⟨p, 15, none⟩ = some (.int .i64 (l.names.length : Int)) := h.blk.val (cellsL_count h.ok)
theorem LiAt.at9 (h : LiAt w p t pre post l) : w.cell? ⟨p, 16, none⟩ = some (.bool l.whole) := h.blk.val (cellsL_whole h.ok)
theorem LiAt.src (h : LiAt w p t pre post l) : TSrc w (some ⟨p, 7, none⟩) l.names.length l.names := ⟨rfl, fun _ => ⟨_, rfl, fun j x hj => by
  rw [show (⟨p, 7, none⟩ : Addr).add j = ⟨p, 7 + j, none⟩ from by unfold Addr.add; split <;> simp_all]
  exact h.blk.val (cellsL_name hj)⟩⟩

theorem liEnds_any (h : LiAt w p t pre post l) (s : List UInt8) : Calls Tryz.prog 88 #[.pointer (some ⟨p, 7, none⟩), .string ⟨s.toArray⟩] w fun e w' => e = .returned (.bool (decide (l.names.getLast? = some s))) ∧ Only (fun _ => False) w w' := by
  have c8 := h.at8
  have h8 := h.ok.most
  obtain ⟨n, hn⟩ : ∃ n, n = l.names.length := ⟨_, rfl⟩
  rw [← hn] at c8 h8
  rcases Nat.eq_zero_or_pos n with h0 | h0
  · have hl : l.names = [] := List.eq_nil_of_length_eq_zero (by omega)
    rw [hl]
    clear hn hl h
    subst h0
    go_enter Tryz.func88, Tryz.ntmps88
    go_wp2
    go_quiet (fail)
    go_wp2
    go_ret
    exact ⟨rfl, (Only.refl _ _).drewN _⟩
  · obtain ⟨j, rfl⟩ : ∃ j, n = j + 1 := ⟨n - 1, by omega⟩
    have hx : l.names[j]? = some (l.names[j]'(by omega)) := List.getElem?_eq_getElem _
    obtain ⟨x, hx'⟩ : ∃ x, x = l.names[j]'(by omega) := ⟨_, rfl⟩
    rw [← hx'] at hx
    have hlast : l.names.getLast? = some x := by rw [List.getLast?_eq_getElem?, ← hn, Nat.add_sub_cancel, hx]
    have cj := h.blk.val (cellsL_name hx)
    rw [hlast]
    obtain ⟨b, hb⟩ : ∃ b, (x == s) = b := ⟨_, rfl⟩
    have hb2 : decide (some x = some s) = b := by
      rw [← hb]
      by_cases he : x = s
      · subst he; simp
      · rw [decide_eq_false (by simpa using he)]; simp [he]
    rw [hb2]
    have e1 : IntKind.i64.wrap (((j + 1 : Nat) : Int) - 1) = (j : Int) := (IntWalk.i64_in _ (by omega)).trans (by omega)
    have hd : decide ((0 : Int) < ((j + 1 : Nat) : Int)) = true := by simp
    obtain ⟨J, hJ⟩ : ∃ J : Int, J = ((j + 1 : Nat) : Int) := ⟨_, rfl⟩
    have hj8 : j < 8 := by omega
    rw [← hJ] at c8 e1 hd
    clear hx hx' hlast hb2 hn h hJ h0
    cases b
    all_goals
      go_enter Tryz.func88, Tryz.ntmps88
      go_wp2
      go_quiet (fail)
      go_wp2
      go_ret
      exact ⟨rfl, (Only.refl _ _).drewN _⟩

theorem liNames_any (h : LiAt w p t pre post l) : Calls Tryz.prog 35 #[.pointer (some ⟨p, 7, none⟩)] w fun e w' => ∃ A c, e = .returned (.slice A l.names.length c) ∧ Hid (TSrc w' A l.names.length l.names) ∧ Hid (Only (fun _ => False) w w') := by
  have hs := h.src
  have h8 := h.ok.most
  obtain ⟨n, hn⟩ : ∃ n, n = l.names.length := ⟨_, rfl⟩
  have HC : Hid (∀ W, Only (fun _ => False) w W → W.cell? ⟨p, 15, none⟩ = some (.int .i64 (n : Int))) := fun W ho => by
    rw [hn]
    exact (h.same ho).at8
  rw [← hn] at hs h8 ⊢
  have HCl := Lib.hid (fun W (ho : Only (fun _ => False) w W) => clone_texts (c := 8) (hs.same ho) (by omega))
  have b0 : (0 : Int) ≤ (n : Int) := by omega
  have b8 : (n : Int) ≤ 8 := by omega
  clear hs hn h
  go_enter Tryz.func35, Tryz.ntmps35
  go_wp2
  go_region_held3 (fun W => W.cell? ⟨p, 15, none⟩ = some (.int .i64 (n : Int)))
    (first | exact HC.out _ (Only.refl _ _).drew | exact HC.out _ ho1)
    (first | (go_at_call 44; (with_reducible refine (HCl.out _ (Only.refl _ _).drew).mono ?_); rintro e w1 ⟨A', c', rfl, hs1, hl1, hl2, ho1'⟩; have HS1 := Lib.hid hs1; have ho1 : Only (fun _ => False) w w1 := (Only.refl _ _).drew.trans ho1' (fun _ h => h.elim); clear hs1 ho1'))
  go_wp2
  go_ret
  exact ⟨A', c', rfl, HS1.out, ho1⟩

theorem liTake_any (h : LiAt w p t pre post l) (s : List UInt8) : Calls Tryz.prog 70 #[.pointer (some ⟨p, 7, none⟩), .string ⟨s.toArray⟩] w fun e w' => e = .returned (.bool (l.take s).whole) ∧ LiAt w' p t pre post (l.take s) ∧ Only (· = p) w w' := by
  have c9 := h.at9
  have HR := Lib.hid (fun W => ttright_any W s)
  have HE := Lib.hid (liEnds_any h s)
  cases hw : l.whole with
  | true =>
    rw [hw] at c9
    rw [Ls.take_full hw, hw]
    have H := Lib.hid h
    clear h hw HE HR
    go_enter Tryz.func70, Tryz.ntmps70
    go_wp2
    go_ret
    exact ⟨rfl, H.out, Only.refl _ _⟩
  | false =>
    rw [hw] at c9
    cases ho : okT s with
    | false =>
      rw [Ls.take_bad ho, hw]
      rw [ho] at HR
      have H := Lib.hid h
      clear h hw HE ho
      go_enter Tryz.func70, Tryz.ntmps70
      go_wp2_with (go_at_call 43; (with_reducible refine (HR.out _).mono ?_); rintro e w1 ⟨rfl, e1⟩; subst w1)
      go_ret
      exact ⟨rfl, H.out, Only.refl _ _⟩
    | true =>
      rw [ho] at HR
      have HOk : Hid (l.take s).Ok := h.ok.take s
      by_cases hl : l.names.getLast? = some s
      · rw [Ls.take_end hw ho hl] at HOk ⊢
        rw [decide_eq_true hl] at HE
        have H := Lib.hid h
        have HW := Lib.hid c9
        clear h hw ho hl c9
        have HB : ∀ W, Only (fun _ => False) w W → LiAt W p t pre post l := fun W ho => H.out.same ho
        have HB := Lib.hid HB
        go_enter Tryz.func70, Tryz.ntmps70
        have c9 : w.cell? ⟨p, 16, none⟩ = some (.bool false) := HW.out
        go_wp2_with (first
          | (go_at_call 43; (with_reducible refine (HR.out _).mono ?_); rintro e w1 ⟨rfl, e1⟩; subst w1)
          | (go_at_call 88; (with_reducible refine HE.out.mono ?_); rintro e w2 ⟨rfl, ho2⟩; have c9' : w2.cell? ⟨p, 16, none⟩ = some (.bool false) := (ho2.cellv HW.out (fun h => h)); have f9 := (HB.out w2 ho2).blk.frozen 16; have HO2 := Lib.hid ho2; clear ho2))
        go_ret
        refine ⟨rfl, ⟨HOk.out, ?_⟩, HO2.out.mono (fun _ h => h.elim) |>.trans ((Only.refl (· = p) w2).setCell (p := ⟨p, 16, none⟩) (.inl rfl) _) (fun i hi => .inl hi)⟩
        have := (HB.out w2 HO2.out).blk.setCell (i := 9) (by rw [cellsL_len H.out.ok]; omega) (.bool true)
        rw [cellsL_end H.out.ok] at this
        exact this
      · rw [Ls.take_new hw ho hl] at HOk ⊢
        rw [decide_eq_false hl] at HE
        have hroom := h.ok.room hw
        have h8 := h.at8
        have hv : ∃ v, w.cell? ⟨p, 7 + l.names.length, none⟩ = some v := by
          rw [h.blk.cell (by rw [cellsL_len h.ok]; omega)]
          exact ⟨_, List.getElem?_eq_getElem (by rw [cellsL_len h.ok]; omega)⟩
        obtain ⟨v, hv⟩ := hv
        obtain ⟨n, hn⟩ : ∃ n, n = l.names.length := ⟨_, rfl⟩
        have HN := Lib.hid hn
        rw [← hn] at h8 hv hroom ⊢
        have H := Lib.hid h
        have HW := Lib.hid c9
        have HV := Lib.hid hv
        have H8 := Lib.hid h8
        obtain ⟨b, hb⟩ : ∃ b, b = decide (n + 1 = 8) := ⟨_, rfl⟩
        have hb1 : (((n : Int) + 1) == 8) = b := by
          rw [hb]
          by_cases he : n + 1 = 8
          · rw [decide_eq_true he]; simp; omega
          · rw [decide_eq_false he]; simp; omega
        have HBb := Lib.hid hb
        have HB : ∀ W, Only (fun _ => False) w W → LiAt W p t pre post l := fun W ho => H.out.same ho
        have HB := Lib.hid HB
        clear h hw ho hl hn hv h8 hb
        go_enter Tryz.func70, Tryz.ntmps70
        go_wp2_with (first
          | (go_at_call 43; (with_reducible refine (HR.out _).mono ?_); rintro e w1 ⟨rfl, e1⟩; subst w1)
          | (go_at_call 88; (with_reducible refine HE.out.mono ?_); rintro e w2 ⟨rfl, ho2⟩; have c9' := (ho2.cellv HW.out (fun h => h)); have c8' := (ho2.cellv H8.out (fun h => h)); have cn' := (ho2.cellv HV.out (fun h => h)); have f9 := (HB.out w2 ho2).blk.frozen 16; have f8 := (HB.out w2 ho2).blk.frozen 15; have fn := (HB.out w2 ho2).blk.frozen (7 + n); have HO2 := Lib.hid ho2; clear ho2 c9))
        go_region
        have hB3 : InB (w2.setCell ⟨p, 7 + n, none⟩ (.string ⟨s.toArray⟩)).drew p t pre post 7 ((cellsL l).set n (S8 s)) := ((HB.out w2 HO2.out).blk.setCell (i := n) (by rw [cellsL_len H.out.ok]; omega) (S8 s)).drew
        have hO3 : Only (· = p) w (w2.setCell ⟨p, 7 + n, none⟩ (.string ⟨s.toArray⟩)).drew := ((HO2.out.mono (T := (· = p)) (fun _ h => h.elim)).setCell (p := ⟨p, 7 + n, none⟩) (.inl rfl) _).drew
        generalize (w2.setCell ⟨p, 7 + n, none⟩ (.string ⟨s.toArray⟩)).drew = W3 at *
        have HB3 := Lib.hid hB3
        have HO3 := Lib.hid hO3
        clear c9' c8' cn' f9 f8 fn hB3 hO3
        have c8 : W3.cell? ⟨p, 15, none⟩ = some (.int .i64 (n : Int)) := by
          refine HB3.out.val (i := 8) ?_
          rw [List.getElem?_set_ne (by omega), cellsL_count H.out.ok, ← HN.out]
        have f8 := HB3.out.frozen 15
        have HC9 : ∃ v, W3.cell? ⟨p, 16, none⟩ = some v := by
          refine ⟨.bool l.whole, HB3.out.val (i := 9) ?_⟩
          rw [List.getElem?_set_ne (by omega), cellsL_whole H.out.ok]
        obtain ⟨v9, c9⟩ := HC9
        have f9 := HB3.out.frozen 16
        go_wp2
        go_ret
        have hB := (HB3.out.setCell (i := 8) (by rw [List.length_set, cellsL_len H.out.ok]; omega) (.int .i64 ((n : Int) + 1))).setCell (i := 9) (by rw [List.length_set, List.length_set, cellsL_len H.out.ok]; omega) (.bool b)
        rw [HN.out, cellsL_new H.out.ok (by rw [← HN.out]; exact hroom), ← HN.out] at hB
        rw [HBb.out] at hB ⊢
        refine ⟨rfl, ⟨?_, hB⟩, (HO3.out.setCell (p := ⟨p, 15, none⟩) (.inl rfl) _).setCell (p := ⟨p, 16, none⟩) (.inl rfl) _⟩
        have := HOk.out
        rw [← HN.out] at this
        exact this
end
end Go.Proofs.YtlmkpembccehkaaGreatDoor
