/- Lists of types: Take, Names, Whole. -/
import Derived.Test.YtjdfdgmfkpdfbaaDoorTtRight
import Derived.Test.YtjdfdgmfkpdfbaaDoorTextsTwo
import Derived.BigQuiet
import Derived.Deep.RegionHeld3
namespace Go.Proofs.YtjdfdgmfkpdfbaaDoor
open Go Go.RowKit
set_option maxRecDepth 100000
set_option maxHeartbeats 4000000

/-- A list's cells. -/
def cellsL (l : Ls) : List Value := (l.names.map S8 ++ List.replicate (8 - l.names.length) (S8 [])) ++ [.int .i64 (l.names.length : Int), .bool l.whole]
section
variable {l : Ls} (h : l.Ok)
include h
theorem cellsL_front : (l.names.map S8 ++ List.replicate (8 - l.names.length) (S8 [])).length = 8 := by
  have := h.most
  simp
  omega
theorem cellsL_len : (cellsL l).length = 10 := by
  unfold cellsL
  rw [List.length_append, cellsL_front h]
  rfl
omit h in
theorem cellsL_name {i : Nat} {s : List UInt8} (hi : l.names[i]? = some s) : (cellsL l)[i]? = some (S8 s) := by
  have := (List.getElem?_eq_some_iff.1 hi).1
  unfold cellsL
  rw [List.append_assoc, List.getElem?_append_left (by rw [List.length_map]; exact this), List.getElem?_map, hi]
  rfl
theorem cellsL_count : (cellsL l)[8]? = some (.int .i64 (l.names.length : Int)) := by
  unfold cellsL
  rw [List.getElem?_append_right (by rw [cellsL_front h]; omega), cellsL_front h]
  rfl
theorem cellsL_whole : (cellsL l)[9]? = some (.bool l.whole) := by
  unfold cellsL
  rw [List.getElem?_append_right (by rw [cellsL_front h]; omega), cellsL_front h]
  rfl
theorem cellsL_end (b : Bool) : (cellsL l).set 9 (.bool b) = cellsL ⟨l.names, b⟩ := by
  unfold cellsL
  rw [List.set_append_right _ _ (by rw [cellsL_front h]; omega), cellsL_front h]
  rfl
theorem cellsL_new (hr : l.names.length < 8) (s : List UInt8) (b : Bool) : (((cellsL l).set l.names.length (S8 s)).set 8 (.int .i64 ((l.names.length : Int) + 1))).set 9 (.bool b) = cellsL ⟨l.names ++ [s], b⟩ := by
  have hf := cellsL_front h
  have hF : (l.names.map S8 ++ List.replicate (8 - l.names.length) (S8 [])).set l.names.length (S8 s) = (l.names ++ [s]).map S8 ++ List.replicate (8 - (l.names ++ [s]).length) (S8 []) := by
    rw [List.set_append_right _ _ (by simp), List.length_map, Nat.sub_self, show 8 - l.names.length = (8 - (l.names ++ [s]).length) + 1 from by simp; omega, List.replicate_succ, List.set_cons_zero]
    simp
  unfold cellsL
  rw [List.set_append_left _ _ (by rw [hf]; exact hr), hF]
  have hl : ((l.names ++ [s]).map S8 ++ List.replicate (8 - (l.names ++ [s]).length) (S8 [])).length = 8 := by
    simp
    omega
  rw [List.set_append_right _ _ (by rw [hl]; omega), List.set_append_right _ _ (by rw [hl]; omega), hl]
  simp
end

/-- A list in memory. -/
structure LsAt (w : World) (p : Nat) (l : Ls) : Prop where
  ok : l.Ok
  blk : Blk w p 28 (cellsL l)
section
variable {w w' : World} {p : Nat} {l : Ls}
theorem LsAt.same (h : LsAt w p l) (ho : Only (fun _ => False) w w') : LsAt w' p l := ⟨h.ok, h.blk.only ho (fun h => h)⟩
theorem LsAt.only {S : Nat → Prop} (h : LsAt w p l) (ho : Only S w w') (hS : ¬ S p) : LsAt w' p l := ⟨h.ok, h.blk.only ho hS⟩

theorem whole_any (h : LsAt w p l) : Calls Tryd.prog 10 #[.pointer (some ⟨p, 0, none⟩)] w fun e w' => e = .returned (.bool l.whole) ∧ w' = w := by
  have c9 := (h.blk.cell 9).trans (cellsL_whole h.ok)
  clear h
  go_enter Tryd.func10, Tryd.ntmps10
  go_wp2
  go_ret
  exact ⟨rfl, rfl⟩

theorem ends_any (h : LsAt w p l) (s : List UInt8) : Calls Tryd.prog 24 #[.pointer (some ⟨p, 0, none⟩), .string ⟨s.toArray⟩] w fun e w' => e = .returned (.bool (decide (l.names.getLast? = some s))) ∧ Only (fun _ => False) w w' := by
  have c8 := (h.blk.cell 8).trans (cellsL_count h.ok)
  have h8 := h.ok.most
  obtain ⟨n, hn⟩ : ∃ n, n = l.names.length := ⟨_, rfl⟩
  rw [← hn] at c8 h8
  rcases Nat.eq_zero_or_pos n with h0 | h0
  · have hl : l.names = [] := List.eq_nil_of_length_eq_zero (by omega)
    rw [hl]
    clear hn hl h
    subst h0
    go_enter Tryd.func24, Tryd.ntmps24
    go_wp2
    go_quiet (fail)
    go_wp2
    go_ret
    exact ⟨rfl, (Only.refl _ _).drewN _⟩
  · obtain ⟨j, rfl⟩ : ∃ j, n = j + 1 := ⟨n - 1, by omega⟩
    have hx : l.names[j]? = some (l.names[j]'(by omega)) := List.getElem?_eq_getElem _
    obtain ⟨x, hx'⟩ : ∃ x, x = l.names[j]'(by omega) := ⟨_, rfl⟩
    rw [← hx'] at hx
    have hlast : l.names.getLast? = some x := by rw [List.getLast?_eq_getElem?, ← hn, Nat.add_sub_cancel, hx]
    have cj := (h.blk.cell j).trans (cellsL_name hx)
    rw [hlast]
    obtain ⟨b, hb⟩ : ∃ b, (x == s) = b := ⟨_, rfl⟩
    have hb2 : decide (some x = some s) = b := by
      rw [← hb]
      by_cases he : x = s
      · subst he; simp
      · rw [decide_eq_false (by simpa using he)]; simp [he]
    rw [hb2]
    have e1 : IntKind.i64.wrap (((j + 1 : Nat) : Int) - 1) = (j : Int) := (IntWalk.i64_in _ (by omega)).trans (by omega)
    have hd : decide ((0 : Int) < ((j + 1 : Nat) : Int)) = true := by simp
    obtain ⟨J, hJ⟩ : ∃ J : Int, J = ((j + 1 : Nat) : Int) := ⟨_, rfl⟩
    have hj8 : j < 8 := by omega
    rw [← hJ] at c8 e1 hd
    clear hx hx' hlast hb2 hn h hJ h0
    cases b
    all_goals
      go_enter Tryd.func24, Tryd.ntmps24
      go_wp2
      go_quiet (fail)
      go_wp2
      go_ret
      exact ⟨rfl, (Only.refl _ _).drewN _⟩

theorem names_any (h : LsAt w p l) : Calls Tryd.prog 12 #[.pointer (some ⟨p, 0, none⟩)] w fun e w' => ∃ A c, e = .returned (.slice A l.names.length c) ∧ Hid (TSrc w' A l.names.length l.names) ∧ Hid (Only (fun _ => False) w w') := by
  have hs : TSrc w (some ⟨p, 0, none⟩) l.names.length l.names := TSrc.of_blk h.blk rfl (fun j x hj => cellsL_name hj)
  have h8 := h.ok.most
  obtain ⟨n, hn⟩ : ∃ n, n = l.names.length := ⟨_, rfl⟩
  have HB := Lib.hid h.blk
  have HC : Hid (∀ W, Only (fun _ => False) w W → W.cell? ⟨p, 8, none⟩ = some (.int .i64 (n : Int))) := fun W ho => by
    rw [hn]
    exact ((h.blk.only ho (fun h => h)).cell 8).trans (cellsL_count h.ok)
  rw [← hn] at hs h8 ⊢
  have HCl := Lib.hid (fun W (ho : Only (fun _ => False) w W) => clone_texts (c := 8) (hs.same ho) (by omega))
  have b0 : (0 : Int) ≤ (n : Int) := by omega
  have b8 : (n : Int) ≤ 8 := by omega
  clear hs hn h
  go_enter Tryd.func12, Tryd.ntmps12
  go_wp2
  go_region_held3 (fun W => W.cell? ⟨p, 8, none⟩ = some (.int .i64 (n : Int)))
    (first | exact HC.out _ (Only.refl _ _).drew | exact HC.out _ ho1)
    (first | (go_at_call 25; (with_reducible refine (HCl.out _ (Only.refl _ _).drew).mono ?_); rintro e w1 ⟨A', c', rfl, hs1, hl1, hl2, ho1'⟩; have HS1 := Lib.hid hs1; have ho1 : Only (fun _ => False) w w1 := (Only.refl _ _).drew.trans ho1' (fun _ h => h.elim); clear hs1 ho1'))
  go_wp2
  go_ret
  exact ⟨A', c', rfl, HS1.out, ho1⟩

theorem take_any (h : LsAt w p l) (s : List UInt8) : Calls Tryd.prog 8 #[.pointer (some ⟨p, 0, none⟩), .string ⟨s.toArray⟩] w fun e w' => e = .returned (.bool (l.take s).whole) ∧ LsAt w' p (l.take s) ∧ Only (· = p) w w' := by
  have c9 := (h.blk.cell 9).trans (cellsL_whole h.ok)
  have HR := Lib.hid (fun W => right_any W s)
  have HE := Lib.hid (ends_any h s)
  cases hw : l.whole with
  | true =>
    rw [hw] at c9
    rw [Ls.take_full hw, hw]
    have H := Lib.hid h
    clear h hw HE HR
    go_enter Tryd.func8, Tryd.ntmps8
    go_wp2
    go_ret
    exact ⟨rfl, H.out, Only.refl _ _⟩
  | false =>
    rw [hw] at c9
    cases ho : okT s with
    | false =>
      rw [Ls.take_bad ho, hw]
      rw [ho] at HR
      have H := Lib.hid h
      clear h hw HE ho
      go_enter Tryd.func8, Tryd.ntmps8
      go_wp2_with (go_at_call 20; (with_reducible refine (HR.out _).mono ?_); rintro e w1 ⟨rfl, e1⟩; subst w1)
      go_ret
      exact ⟨rfl, H.out, Only.refl _ _⟩
    | true =>
      rw [ho] at HR
      have HOk : Hid (l.take s).Ok := h.ok.take s
      by_cases hl : l.names.getLast? = some s
      · rw [Ls.take_end hw ho hl] at HOk ⊢
        rw [decide_eq_true hl] at HE
        have H := Lib.hid h
        have HW := Lib.hid c9
        clear h hw ho hl c9
        have HB : ∀ W, Only (fun _ => False) w W → LsAt W p l := fun W ho => H.out.same ho
        have HB := Lib.hid HB
        go_enter Tryd.func8, Tryd.ntmps8
        have c9 : w.cell? ⟨p, 9, none⟩ = some (.bool false) := HW.out
        go_wp2_with (first
          | (go_at_call 20; (with_reducible refine (HR.out _).mono ?_); rintro e w1 ⟨rfl, e1⟩; subst w1)
          | (go_at_call 24; (with_reducible refine HE.out.mono ?_); rintro e w2 ⟨rfl, ho2⟩; have c9' : w2.cell? ⟨p, 9, none⟩ = some (.bool false) := (ho2.cellv HW.out (fun h => h)); have f9 := (HB.out w2 ho2).blk.frozen 9; have HO2 := Lib.hid ho2; clear ho2))
        go_ret
        refine ⟨rfl, ⟨HOk.out, ?_⟩, HO2.out.mono (fun _ h => h.elim) |>.trans ((Only.refl (· = p) w2).setCell (p := ⟨p, 9, none⟩) (.inl rfl) _) (fun i hi => .inl hi)⟩
        have := (HB.out w2 HO2.out).blk.setCell 9 (.bool true)
        rw [cellsL_end H.out.ok] at this
        exact this
      · rw [Ls.take_new hw ho hl] at HOk ⊢
        rw [decide_eq_false hl] at HE
        have hroom := h.ok.room hw
        have h8 := (h.blk.cell 8).trans (cellsL_count h.ok)
        have hv : ∃ v, w.cell? ⟨p, l.names.length, none⟩ = some v := by
          rw [h.blk.cell]
          exact ⟨_, List.getElem?_eq_getElem (by rw [cellsL_len h.ok]; omega)⟩
        obtain ⟨v, hv⟩ := hv
        obtain ⟨n, hn⟩ : ∃ n, n = l.names.length := ⟨_, rfl⟩
        have HN := Lib.hid hn
        rw [← hn] at h8 hv hroom ⊢
        have H := Lib.hid h
        have HW := Lib.hid c9
        have HV := Lib.hid hv
        have H8 := Lib.hid h8
        obtain ⟨b, hb⟩ : ∃ b, b = decide (n + 1 = 8) := ⟨_, rfl⟩
        have hb1 : (((n : Int) + 1) == 8) = b := by
          rw [hb]
          by_cases he : n + 1 = 8
          · rw [decide_eq_true he]; simp; omega
          · rw [decide_eq_false he]; simp; omega
        have HBb := Lib.hid hb
        have HB : ∀ W, Only (fun _ => False) w W → LsAt W p l := fun W ho => H.out.same ho
        have HB := Lib.hid HB
        clear h hw ho hl hn hv h8 hb
        go_enter Tryd.func8, Tryd.ntmps8
        go_wp2_with (first
          | (go_at_call 20; (with_reducible refine (HR.out _).mono ?_); rintro e w1 ⟨rfl, e1⟩; subst w1)
          | (go_at_call 24; (with_reducible refine HE.out.mono ?_); rintro e w2 ⟨rfl, ho2⟩; have c9' := (ho2.cellv HW.out (fun h => h)); have c8' := (ho2.cellv H8.out (fun h => h)); have cn' := (ho2.cellv HV.out (fun h => h)); have f9 := (HB.out w2 ho2).blk.frozen 9; have f8 := (HB.out w2 ho2).blk.frozen 8; have fn := (HB.out w2 ho2).blk.frozen n; have HO2 := Lib.hid ho2; clear ho2 c9))
        go_region
        have hB3 : Blk (w2.setCell ⟨p, n, none⟩ (.string ⟨s.toArray⟩)).drew p 28 ((cellsL l).set n (S8 s)) := ((HB.out w2 HO2.out).blk.setCell n (S8 s)).drew
        have hO3 : Only (· = p) w (w2.setCell ⟨p, n, none⟩ (.string ⟨s.toArray⟩)).drew := ((HO2.out.mono (T := (· = p)) (fun _ h => h.elim)).setCell (p := ⟨p, n, none⟩) (.inl rfl) _).drew
        generalize (w2.setCell ⟨p, n, none⟩ (.string ⟨s.toArray⟩)).drew = W3 at *
        have HB3 := Lib.hid hB3
        have HO3 := Lib.hid hO3
        clear c9' c8' cn' f9 f8 fn hB3 hO3
        have c8 : W3.cell? ⟨p, 8, none⟩ = some (.int .i64 (n : Int)) := by
          rw [HB3.out.cell, List.getElem?_set_ne (by omega), cellsL_count H.out.ok, ← HN.out]
        have f8 := HB3.out.frozen 8
        have HC9 : ∃ v, W3.cell? ⟨p, 9, none⟩ = some v := by
          rw [HB3.out.cell, List.getElem?_set_ne (by omega), cellsL_whole H.out.ok]
          exact ⟨_, rfl⟩
        obtain ⟨v9, c9⟩ := HC9
        have f9 := HB3.out.frozen 9
        go_wp2
        go_ret
        have hB := (HB3.out.setCell 8 (.int .i64 ((n : Int) + 1))).setCell 9 (.bool b)
        rw [HN.out, cellsL_new H.out.ok (by rw [← HN.out]; exact hroom), ← HN.out] at hB
        rw [HBb.out] at hB ⊢
        refine ⟨rfl, ⟨?_, hB⟩, (HO3.out.setCell (p := ⟨p, 8, none⟩) (.inl rfl) _).setCell (p := ⟨p, 9, none⟩) (.inl rfl) _⟩
        have := HOk.out
        rw [← HN.out] at this
        exact this
end
end Go.Proofs.YtjdfdgmfkpdfbaaDoor
