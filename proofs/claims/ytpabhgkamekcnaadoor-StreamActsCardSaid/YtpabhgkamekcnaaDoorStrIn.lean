/- Package stream: what comes in: Next, arePlaces, Deliver. -/
import Derived.Test.YtpabhgkamekcnaaDoorStream
import Derived.BigQuiet
namespace Go.Proofs.YtpabhgkamekcnaaDoor
open Go Go.RowKit
set_option maxRecDepth 100000

theorem info_int : (Tryd.prog.info? 3).map (fun i => (i.zero, i.size, i.bytes)) = some (some (.int .i64 0), 1, 8) := by kernel_rfl

section
variable {B : Nat} {w w' : World} {m : Me} {s : St}
/-- Next. -/
def nextC (s : St) : UInt8 := (s.came[s.read]?).getD 0
def nextM (s : St) : Bool := s.ms.head? == some (s.read : Int)
def nextIs (s : St) : Bool := decide (s.read < s.came.length)
def nextSt (s : St) : St := if s.read < s.came.length then { s with read := s.read + 1, ms := if s.ms.head? = some (s.read : Int) then s.ms.tail else s.ms } else s

theorem IsStr.no_marks (h : IsStr B w m s) (hr : s.read = s.came.length) : s.ms = [] := by
  cases hm : s.ms with
  | nil => rfl
  | cons x l =>
    have := h.inside x (by rw [hm]; exact List.mem_cons_self ..)
    omega

def NextAns (B : Nat) (w : World) (m : Me) (s : St) (e : Ending) (w' : World) : Prop :=
  e = .returned (.tuple #[B8 (nextC s), .bool (nextM s), .bool (nextIs s)]) ∧ Left B w m (nextSt s) w'

/-- Its own block alone has turned: how many were read, and the row of marks. -/
theorem IsStr.rebuild (h : IsStr B w m s) (rd : Nat) (h1 : s.read ≤ rd) (h2 : rd ≤ s.came.length) (ms : List Int) (M : Value) (hB : Blk w' m.p 58 (fsOf ⟨m.p, m.g1, m.g2, M, m.V⟩ ⟨s.room, s.came, rd, ms, s.closed, s.sent, s.out⟩)) (ho : Only (· = m.p) w w')
    (hM : RowAt w' B 3 1 M ms.length (ints ms)) (hr : ms.Pairwise (· < ·)) (hi : ∀ x ∈ ms, (rd : Int) ≤ x ∧ x < (s.came.length : Int)) : IsStr B w' ⟨m.p, m.g1, m.g2, M, m.V⟩ ⟨s.room, s.came, rd, ms, s.closed, s.sent, s.out⟩ := by
  obtain ⟨c1, hc1, hl1, hx1⟩ := h.inn.body
  obtain ⟨c2, hc2, hl2, hx2⟩ := h.ou.body
  have := h.inn.fits
  refine ⟨⟨hB, rfl, rfl, rfl, ⟨c1, hc1.only ho (Ne.symm h.inn.ne), hl1, fun i x hi => hx1 i x (Nat.le_trans h1 hi)⟩, h.inn.ne, h.inn.pos, h.inn.top, h2, Nat.le_trans this (Nat.add_le_add_right h1 _), h.inn.far⟩,
    ⟨hB, rfl, rfl, rfl, ⟨c2, hc2.only ho (Ne.symm h.ou.ne), hl2, hx2⟩, h.ou.ne, h.ou.pos, h.ou.top, h.ou.back, h.ou.fits, h.ou.far⟩, hM, own_only h.wire ho (fun q hq => h.v_ne q hq), h.g12, h.v12, h.lo, hr, hi⟩

theorem strNext_none (h : IsStr B w m s) (hr : s.read = s.came.length) : Calls Tryd.prog 18 #[.pointer (some ⟨m.p, 0, none⟩)] w (NextAns B w m s) := by
  have hm := h.no_marks hr
  have C1 := Lib.hid (strRead h)
  have H := Lib.hid h
  have HR := Lib.hid hr
  have HM := Lib.hid hm
  clear h hr hm
  go_enter Tryd.func18, Tryd.ntmps18
  go_wp2_with fail
  refine C1.out.mono ?_
  rintro e w1 ⟨rfl, q, rfl⟩
  have C2 := Lib.hid (take_eq (H.out.same ((Only.refl _ w).drewN q)).inn 1 0 (by rw [HR.out]; unfold asked; omega) _ rfl)
  go_wp2_with fail
  refine C2.out.mono ?_
  rintro e w2 ⟨A, rfl, _, r2, o2⟩
  have R2 := Lib.hid r2
  have O2 := Lib.hid (((Only.refl (· = m.p) w).drewN q).trans o2 (fun i hi => .inl hi))
  clear r2 o2 C2 C1
  go_wp2
  go_ret3
  have e1 : nextC s = 0 := by unfold nextC; rw [HR.out]; simp
  have e2 : nextM s = false := by unfold nextM; rw [HM.out]; rfl
  have e3 : nextIs s = false := by unfold nextIs; rw [HR.out]; simp
  have e4 : nextSt s = s := by unfold nextSt; rw [HR.out, if_neg (by omega)]
  unfold NextAns
  rw [e1, e2, e3, e4]
  have h := H.out
  exact ⟨rfl, m, rfl, h.rebuild s.read (Nat.le_refl _) h.inn.back s.ms m.M R2.out.head O2.out (h.marks.only O2.out (fun k hk => (h.m_ne k hk).1)) h.rising h.inside, O2.out.mono (fun i hi => .inl (.inl hi)), fun i h => .inl h⟩

theorem strNext_some (h : IsStr B w m s) (hr : s.read < s.came.length) : Calls Tryd.prog 18 #[.pointer (some ⟨m.p, 0, none⟩)] w (NextAns B w m s) := by
  have C1 := Lib.hid (strRead h)
  obtain ⟨b, hb⟩ : ∃ b, s.came[s.read]? = some b := ⟨_, List.getElem?_eq_getElem hr⟩
  have hfst : first s.came s.read 1 = [b] := by
    unfold first
    rw [List.drop_eq_getElem_cons hr, (List.getElem?_eq_some_iff.1 hb).2]
    rfl
  have hrf : s.read ≤ 1099511627776 := by have := h.inn.far; omega
  have H := Lib.hid h
  have HR := Lib.hid hr
  have HF := Lib.hid hfst
  have e1 : nextC s = b := by unfold nextC; rw [hb]; rfl
  have e3 : nextIs s = true := by unfold nextIs; exact decide_eq_true hr
  have E1 := Lib.hid e1
  have E3 := Lib.hid e3
  clear hr e1 e3 hb hfst
  have fin : ∀ (rd : Nat) (q : Nat) (w2 : World) (A : Option Addr), rd = s.read → Made (w.drewN q).heap.size 5 w2 A 1 (first s.came s.read 1) → Only (· = m.p) (w.drewN q) w2 → ∃ N, A = some ⟨N, 0, none⟩ ∧ w2.cell? ⟨N, 0, none⟩ = some (.int .u8 (b.toNat : Int)) ∧ N ≠ m.p := by
    intro rd q w2 A _ hm ho
    rw [HF.out] at hm
    rcases hm.2 with ⟨h0, _⟩ | ⟨N, rfl, hN, hB⟩
    · cases h0
    · refine ⟨N, rfl, by rw [hB.cell 0]; rfl, ?_⟩
      have := H.out.head.lt
      have hz : (w.drewN q).heap.size = w.heap.size := rfl
      omega
  have HFin := Lib.hid fin
  clear fin
  by_cases hm : s.ms.head? = some (s.read : Int)
  · obtain ⟨r, hms⟩ : ∃ r, s.ms = (s.read : Int) :: r := by
      cases hq : s.ms with
      | nil => rw [hq] at hm; cases hm
      | cons x l =>
        rw [hq] at hm
        simp only [List.head?_cons, Option.some.injEq] at hm
        exact ⟨l, by rw [hm]⟩
    have hmk := h.marks
    rw [hms] at hmk
    obtain ⟨g, o, c, hM, hc1, hc63, hBg, hgl, hcell⟩ := hmk.places (by simp)
    have d0 := hcell 0 _ rfl
    have c3 := h.c 3 _ rfl
    simp only [List.length_cons] at hM hc1
    rw [hM] at c3
    have hgp : g ≠ m.p := by
      have := (h.m_ne g (by rw [hM]; rfl)).1
      exact this
    have E2 := Lib.hid (show nextM s = true by unfold nextM; rw [hm]; simp)
    have E4 := Lib.hid (show nextSt s = ⟨s.room, s.came, s.read + 1, r, s.closed, s.sent, s.out⟩ by unfold nextSt; rw [if_pos HR.out, if_pos hm, hms]; rfl)
    have HMk := Lib.hid hmk
    have HM := Lib.hid hM
    have HMs := Lib.hid hms
    obtain ⟨n, hn⟩ : ∃ n, n = r.length := ⟨_, rfl⟩
    rw [← hn] at c3 hc1
    have HN := Lib.hid hn
    obtain ⟨rd, hrd⟩ : ∃ rd, rd = s.read := ⟨_, rfl⟩
    rw [← hrd] at d0 hrf
    have HRd := Lib.hid hrd
    have C1' := C1.out
    rw [← hrd] at C1'
    have C1' := Lib.hid C1'
    have D0 := Lib.hid d0
    have C3 := Lib.hid c3
    clear h hm hmk hM hms hcell hn hrd C1 d0 c3
    go_enter Tryd.func18, Tryd.ntmps18
    go_wp2_with fail
    refine C1'.out.mono ?_
    rintro e w1 ⟨rfl, q, rfl⟩
    have C2 := Lib.hid (take_eq (H.out.same ((Only.refl _ w).drewN q)).inn 1 1 (by have := HR.out; unfold asked; omega) _ rfl)
    go_wp2_with fail
    refine C2.out.mono ?_
    rintro e w2 ⟨A, rfl, hmade, r2, o2⟩
    obtain ⟨N, rfl, dN, hNp⟩ := HFin.out rd q w2 A HRd.out hmade o2
    have d0 : w2.cell? ⟨g, o, none⟩ = some (.int .i64 (rd : Int)) := by
      have h1 := D0.out
      rw [Nat.add_zero] at h1
      exact o2.cellv h1 hgp
    have hB2 := r2.head
    have c3 : w2.cell? ⟨m.p, 3, none⟩ = some (.slice (some ⟨g, o, none⟩) (n + 1) c) := by
      rw [hB2.cell 3]
      show some m.M = _
      rw [HM.out, HN.out]
    have hfz := hB2.frozen 3
    have R2 := Lib.hid r2
    have O2 := Lib.hid (((Only.refl (· = m.p) w).drewN q).trans o2 (fun i hi => .inl hi))
    clear r2 o2 C2 C1' hmade hB2
    have fin2 : ∀ o', (o' = o + 1 ∨ (c = 1 ∧ o' = o)) → NextAns B w m s (.returned (.tuple #[B8 b, .bool true, .bool true])) (w2.setCell ⟨m.p, 3, none⟩ (.slice (some ⟨g, o', none⟩) n (c - 1))) := by
      intro o' ho'
      have h := H.out
      have hset : Only (· = m.p) w2 (w2.setCell ⟨m.p, 3, none⟩ (.slice (some ⟨g, o', none⟩) n (c - 1))) := (Only.refl (· = m.p) w2).setCell (p := ⟨m.p, 3, none⟩) (.inl rfl) _
      have hO := O2.out.trans hset (fun i hi => .inl hi)
      have hrise := h.rising
      rw [HMs.out] at hrise
      have hins := h.inside
      rw [HMs.out] at hins
      have hmk := HMk.out
      rw [HM.out] at hmk
      have hmk2 : RowAt w B 3 1 (.slice (some ⟨g, o', none⟩) n (c - 1)) r.length (ints r) := by
        have := RowAt.tail (xs := ints r) hmk o' ho'
        rw [HN.out]
        exact this
      unfold NextAns
      rw [E1.out, E2.out, E3.out, E4.out]
      refine ⟨rfl, ⟨m.p, m.g1, m.g2, .slice (some ⟨g, o', none⟩) n (c - 1), m.V⟩, rfl, h.rebuild (s.read + 1) (by omega) HR.out r _ (R2.out.head.setCell 3 _) hO (hmk2.only hO (fun k hk => by cases hk; exact hgp)) (List.pairwise_cons.1 hrise).2 (fun x hx => ?_), hO.mono (fun i hi => .inl (.inl hi)), ?_⟩
      · have h1 := (List.pairwise_cons.1 hrise).1 x hx
        have h2 := hins x (List.mem_cons_of_mem _ hx)
        show ((s.read + 1 : Nat) : Int) ≤ x ∧ _
        omega
      · rintro i (h1 | h1 | h1 | h1 | h1)
        · exact .inl (.inl h1)
        · exact .inl (.inr (.inl h1))
        · exact .inl (.inr (.inr (.inl h1)))
        · refine .inl (.inr (.inr (.inr (.inl ?_))))
          rw [HM.out]
          exact h1
        · exact .inl (.inr (.inr (.inr (.inr h1))))
    have Fin2 := Lib.hid fin2
    clear fin2
    go_wp2
    all_goals
      go_ret3
      first | exact Fin2.out (o + 1) (.inl rfl) | (have hf := Fin2.out o (.inr ⟨by omega, rfl⟩); rw [show c - 1 = 0 from by omega] at hf; exact hf)
  · obtain ⟨V0, n, c, hM, hn1, hc63, hne⟩ : ∃ A n c, m.M = .slice A n c ∧ n ≤ c ∧ c ≤ 9223372036854775807 ∧ (n = 0 ∨ ∃ g o x, A = some ⟨g, o, none⟩ ∧ 0 < n ∧ w.cell? ⟨g, o, none⟩ = some (.int .i64 x) ∧ x ≠ (s.read : Int) ∧ g ≠ m.p) := by
      have hmk := h.marks
      cases hq : s.ms with
      | nil =>
        obtain ⟨A, c, hA, h1, h2⟩ := hmk.form
        rw [hq] at hA
        exact ⟨A, 0, c, hA, Nat.zero_le _, h2, .inl rfl⟩
      | cons x r =>
        rw [hq] at hmk
        obtain ⟨g, o, c, hM, hc1, hc63, hBg, hgl, hcell⟩ := hmk.places (by simp)
        refine ⟨_, _, c, hM, hc1, hc63, .inr ⟨g, o, x, rfl, by simp, ?_, ?_, ?_⟩⟩
        · have := hcell 0 _ rfl
          exact this
        · rintro rfl
          rw [hq] at hm
          exact hm rfl
        · exact (h.m_ne g (by rw [hM]; rfl)).1
    have E2 := Lib.hid (show nextM s = false by unfold nextM; simpa using hm)
    have E4 := Lib.hid (show nextSt s = ⟨s.room, s.came, s.read + 1, s.ms, s.closed, s.sent, s.out⟩ by unfold nextSt; rw [if_pos HR.out, if_neg hm])
    have HM := Lib.hid hM
    have Hm := Lib.hid hm
    obtain ⟨rd, hrd⟩ : ∃ rd, rd = s.read := ⟨_, rfl⟩
    rw [← hrd] at hne hrf
    have HRd := Lib.hid hrd
    have C1' := C1.out
    rw [← hrd] at C1'
    have C1' := Lib.hid C1'
    have HNe := Lib.hid hne
    clear h hm hM hrd C1 hne
    go_enter Tryd.func18, Tryd.ntmps18
    go_wp2_with fail
    refine C1'.out.mono ?_
    rintro e w1 ⟨rfl, q, rfl⟩
    have C2 := Lib.hid (take_eq (H.out.same ((Only.refl _ w).drewN q)).inn 1 1 (by have := HR.out; unfold asked; omega) _ rfl)
    go_wp2_with fail
    refine C2.out.mono ?_
    rintro e w2 ⟨A, rfl, hmade, r2, o2⟩
    obtain ⟨N, rfl, dN, hNp⟩ := HFin.out rd q w2 A HRd.out hmade o2
    have hB2 := r2.head
    have c3 : w2.cell? ⟨m.p, 3, none⟩ = some (.slice V0 n c) := by
      rw [hB2.cell 3]
      show some m.M = _
      rw [HM.out]
    have R2 := Lib.hid r2
    have O2 := Lib.hid (((Only.refl (· = m.p) w).drewN q).trans o2 (fun i hi => .inl hi))
    have fin2 : NextAns B w m s (.returned (.tuple #[B8 b, .bool false, .bool true])) w2 := by
      have h := H.out
      unfold NextAns
      rw [E1.out, E2.out, E3.out, E4.out]
      refine ⟨rfl, m, rfl, h.rebuild (s.read + 1) (by omega) HR.out s.ms m.M R2.out.head O2.out (h.marks.only O2.out (fun k hk => (h.m_ne k hk).1)) h.rising (fun x hx => ?_), O2.out.mono (fun i hi => .inl (.inl hi)), fun i h => .inl h⟩
      have h2 := h.inside x hx
      have h3 : (s.read : Int) ≠ x := by
        rintro rfl
        have h1 := h.rising
        have h4 := h.inside
        have h5 := Hm.out
        cases hq : s.ms with
        | nil => rw [hq] at hx; cases hx
        | cons y l =>
          rw [hq] at hx h1 h4 h5
          rcases List.mem_cons.1 hx with h6 | h6
          · subst h6
            exact h5 rfl
          · have h7 := (List.pairwise_cons.1 h1).1 _ h6
            have h8 := h4 y (List.mem_cons_self ..)
            omega
      show ((s.read + 1 : Nat) : Int) ≤ x ∧ _
      omega
    have Fin2 := Lib.hid fin2
    rcases HNe.out with rfl | ⟨g, o, x, rfl, hn0, dx, hxr, hgp⟩
    · clear r2 o2 C2 C1' hmade hB2 fin2
      go_wp2
      go_ret3
      exact Fin2.out
    · have d0 := o2.cellv (show (w.drewN q).cell? _ = _ from dx) hgp
      have bx : (x == (rd : Int)) = false := by simpa using hxr
      clear r2 o2 C2 C1' hmade hB2 fin2 dx
      go_wp2
      go_ret3
      exact Fin2.out
theorem strNext (h : IsStr B w m s) : Calls Tryd.prog 18 #[.pointer (some ⟨m.p, 0, none⟩)] w (NextAns B w m s) := by
  have := h.inn.back
  by_cases hr : s.read = s.came.length
  · exact strNext_none h hr
  · exact strNext_some h (by omega)

/-! Deliver. -/
/-- A slice of integers, wherever it lies. -/
def IntsAt (w : World) (A : Option Addr) (n : Nat) (l : List Int) : Prop :=
  l.length = n ∧ ∀ (j : Nat) (x : Int), l[j]? = some x → ∃ b off, A = some ⟨b, off, none⟩ ∧ w.cell? ⟨b, off + j, none⟩ = some (.int .i64 x) ∧ -9223372036854775808 ≤ x ∧ x ≤ 9223372036854775807
theorem IntsAt.only {S : Nat → Prop} {A : Option Addr} {n : Nat} {l : List Int} (h : IntsAt w A n l) (ho : Only S w w') (hS : 0 < n → ∀ ad, A = some ad → ¬ S ad.block) : IntsAt w' A n l :=
  ⟨h.1, fun j x hx => by
    obtain ⟨b, off, rfl, h1, h2⟩ := h.2 j x hx
    have hn : 0 < n := by have := (List.getElem?_eq_some_iff.1 hx).1; have := h.1; omega
    exact ⟨b, off, rfl, ho.cellv h1 (hS hn ⟨b, off, none⟩ rfl), h2⟩⟩

/-- Places of n bytes, from f on, rising. -/
def places (n : Nat) : Int → List Int → Bool
  | _, [] => true
  | f, x :: l => decide (f ≤ x) && decide (x < (n : Int)) && places n (x + 1) l
theorem places_spec {n : Nat} : ∀ {l : List Int} {f : Int}, places n f l = true → l.Pairwise (· < ·) ∧ ∀ x ∈ l, f ≤ x ∧ x < (n : Int)
  | [], _, _ => ⟨List.Pairwise.nil, by intro x hx; cases hx⟩
  | x :: l, f, h => by
    simp only [places, Bool.and_eq_true, decide_eq_true_eq] at h
    obtain ⟨h1, h2⟩ := places_spec h.2
    refine ⟨List.pairwise_cons.2 ⟨fun y hy => ?_, h1⟩, fun y hy => ?_⟩
    · have := h2 y hy
      omega
    · rcases List.mem_cons.1 hy with rfl | hy
      · exact h.1
      · have := h2 y hy
        omega

theorem arePlaces_any {A : Option Addr} {k c : Nat} {l : List Int} (h : IntsAt w A k l) (hk63 : k ≤ 9223372036854775807) (n : Nat) (hn : n ≤ 1099511627776) :
    Calls Tryd.prog 35 #[.slice A k c, .int .i64 (n : Int)] w fun e w' => e = .returned (.bool (places n 0 l)) ∧ w = w' := by
  have H := Lib.hid h
  have HL := Lib.hid h.1
  clear h
  go_enter Tryd.func35, Tryd.ntmps35
  go_wp2
  go_loop [5, 10] (fun f i => ∃ (j : Nat) (fr : Int), j ≤ k ∧ i = .int .i64 (j : Int) ∧ f = .int .i64 fr ∧ 0 ≤ fr ∧ fr ≤ (n : Int) ∧ Hid (places n 0 l = places n fr (l.drop j))) (fun _ i => k - (intOf i).toNat)
  case atStart => exact ⟨0, 0, Nat.zero_le _, rfl, rfl, by omega, by omega, rfl⟩
  case round =>
    obtain ⟨j, fr, hj, rfl, rfl, hf0, hfn, hp⟩ := hrel
    by_cases hlt : j < k
    · obtain ⟨x, hx⟩ : ∃ x, l[j]? = some x := ⟨_, List.getElem?_eq_getElem (by rw [HL.out]; exact hlt)⟩
      obtain ⟨b, off, rfl, d, hx0, hx1⟩ := H.out.2 j x hx
      have hdr : l.drop j = x :: l.drop (j + 1) := by
        rw [List.drop_eq_getElem_cons (by rw [HL.out]; exact hlt), (List.getElem?_eq_some_iff.1 hx).2]
      have HP := Lib.hid (show places n 0 l = (decide (fr ≤ x) && decide (x < (n : Int)) && places n (x + 1) (l.drop (j + 1))) by rw [hp.out, hdr]; rfl)
      clear hx hp hdr
      by_cases h1 : x < fr
      · go_wp2
        go_ret
        rw [HP.out, decide_eq_false (by omega : ¬ fr ≤ x)]
        exact ⟨rfl, rfl⟩
      · by_cases h2 : (n : Int) ≤ x
        · go_wp2
          go_ret
          rw [HP.out, decide_eq_false (by omega : ¬ x < (n : Int)), Bool.and_false, Bool.false_and]
          exact ⟨rfl, rfl⟩
        · have b2 : decide ((n : Int) ≤ x) = false := by simpa using h2
          have b1 : decide (x < fr) = false := by simpa using h1
          go_wp2
          go_round
          case rel =>
            refine ⟨j + 1, x + 1, by omega, by go_num, rfl, by omega, by omega, ?_⟩
            show places n 0 l = _
            rw [HP.out, decide_eq_true (by omega : fr ≤ x), decide_eq_true (by omega : x < (n : Int))]
            rfl
          case measure => simp [intOf]; omega
    · have hd : l.drop j = [] := List.drop_eq_nil_of_le (by rw [HL.out]; omega)
      go_wp2
      go_ret
      rw [hp.out, hd]
      exact ⟨rfl, rfl⟩

def delNum (s : St) (n : Nat) (l : List Int) : Nat := if s.closed then 14 else if places n 0 l = false then 1 else if 4096 - (s.came.length - s.read) < n then 2 else 0
def delSt (s : St) (xs : List UInt8) (l : List Int) : St := if delNum s xs.length l = 0 then { s with came := s.came ++ xs, ms := s.ms ++ l.map ((s.came.length : Int) + ·) } else s

def DelAns (B : Nat) (w : World) (es : List Addr) (m : Me) (num : Nat) (s' : St) (e : Ending) (w' : World) : Prop :=
  ∃ v, e = .returned v ∧ ErrV es v num ∧ Left B w m s' w'

theorem strDeliver_closed (h : IsStr B w m s) {es : List Addr} (hes : ErrsOf w [0, 1, 13] es) (A : Option Addr) (n c : Nat) (M : Option Addr) (k kc : Nat) (hcl : s.closed = true) :
    Calls Tryd.prog 17 #[.pointer (some ⟨m.p, 0, none⟩), .slice A n c, .slice M k kc] w (DelAns B w es m 14 s) := by
  have c4 := h.c 4 _ rfl
  obtain ⟨a, ha, d⟩ := hes.get 13 _ (by decide) rfl
  rw [hcl] at c4
  have HV := Lib.hid (ErrV.err (k := 14) ha rfl)
  have H := Lib.hid h
  clear h hcl hes ha
  unfold errV at d HV
  go_enter Tryd.func17, Tryd.ntmps17
  go_wp2
  go_ret
  exact ⟨_, rfl, HV.out, Left.same H.out (Only.refl _ _)⟩

theorem strDeliver_range (h : IsStr B w m s) {es : List Addr} (hes : ErrsOf w [0, 1, 13] es) (A : Option Addr) (n c : Nat) (M : Option Addr) (k kc : Nat) (l : List Int) (hl : IntsAt w M k l) (hk : k ≤ 9223372036854775807) (hn : n ≤ 1099511627776) (hcl : s.closed = false) (hp : places n 0 l = false) :
    Calls Tryd.prog 17 #[.pointer (some ⟨m.p, 0, none⟩), .slice A n c, .slice M k kc] w (DelAns B w es m 1 s) := by
  have c4 := h.c 4 _ rfl
  obtain ⟨a, ha, d⟩ := hes.get 0 _ (by decide) rfl
  rw [hcl] at c4
  have C := arePlaces_any (c := kc) hl hk n hn
  rw [hp] at C
  have HC := Lib.hid C
  have HV := Lib.hid (ErrV.err (k := 1) ha rfl)
  have H := Lib.hid h
  clear h hcl hes ha hp hl C
  unfold errV at d HV
  go_enter Tryd.func17, Tryd.ntmps17
  go_wp2_with (go_at_call 35; refine HC.out.mono ?_; rintro e w1 ⟨rfl, rfl⟩)
  go_ret
  exact ⟨_, rfl, HV.out, Left.same H.out (Only.refl _ _)⟩

theorem strDeliver_full (h : IsStr B w m s) {es : List Addr} (hes : ErrsOf w [0, 1, 13] es) (A : Option Addr) (n c : Nat) (M : Option Addr) (k kc : Nat) (l : List Int) (hl : IntsAt w M k l) (hk : k ≤ 9223372036854775807) (hn : n ≤ 1099511627776) (hcl : s.closed = false) (hp : places n 0 l = true) (hf : 4096 - (s.came.length - s.read) < n) :
    Calls Tryd.prog 17 #[.pointer (some ⟨m.p, 0, none⟩), .slice A n c, .slice M k kc] w (DelAns B w es m 2 s) := by
  have c4 := h.c 4 _ rfl
  obtain ⟨a, ha, d⟩ := hes.get 1 _ (by decide) rfl
  rw [hcl] at c4
  have C := arePlaces_any (c := kc) hl hk n hn
  rw [hp] at C
  have HC := Lib.hid C
  have HC2 := Lib.hid (room_eq h.inn _ rfl)
  have HV := Lib.hid (ErrV.err (k := 2) ha rfl)
  have H := Lib.hid h
  have HD := Lib.hid d
  clear h hcl hes ha hp hl C d
  unfold errV at HD HV
  generalize 4096 - (s.came.length - s.read) = R at *
  go_enter Tryd.func17, Tryd.ntmps17
  go_wp2_with (first
    | (go_at_call 35; refine HC.out.mono ?_; rintro e w1 ⟨rfl, rfl⟩)
    | (go_at_call 33; refine HC2.out.mono ?_; rintro e w1 ⟨rfl, r1, o1⟩; have d := o1.cellv HD.out (fun h => h); have HO := Lib.hid o1; clear r1 o1))
  go_ret
  exact ⟨_, rfl, HV.out, Left.same H.out HO.out⟩

/-- Rising places between two numbers are no more than lie there. -/
theorem rising_len : ∀ {l : List Int} {a b : Int}, l.Pairwise (· < ·) → (∀ x ∈ l, a ≤ x ∧ x < b) → a ≤ b → (l.length : Int) ≤ b - a
  | [], a, b, _, _, h => by simp; omega
  | x :: l, a, b, hp, hi, h => by
    have h1 := hi x (List.mem_cons_self ..)
    have h2 := List.pairwise_cons.1 hp
    have := rising_len (a := x + 1) (b := b) h2.2 (fun y hy => ⟨by have := h2.1 y hy; omega, (hi y (List.mem_cons_of_mem _ hy)).2⟩) (by omega)
    simp only [List.length_cons]
    omega

/-- Behind j marks. -/
def DelRel (B : Nat) (w : World) (m : Me) (s : St) (l : List Int) (j : Nat) (W : World) : Prop :=
  ∃ Mv, Blk W m.p 58 (fsOf ⟨m.p, m.g1, m.g2, Mv, m.V⟩ s) ∧ RowAt W B 3 1 Mv (s.ms.length + j) (ints (s.ms ++ (l.take j).map ((s.came.length : Int) + ·))) ∧
    Only (fun i => i = m.p ∨ m.M.ownBlock = some i) w W ∧ ∀ i, Mv.ownBlock = some i → m.M.ownBlock = some i ∨ w.heap.size ≤ i

set_option maxHeartbeats 1000000 in
theorem strDeliver_ok (h : IsStr B w m s) (hB0 : B ≤ w.heap.size) {es : List Addr} (A : Option Addr) (n c : Nat) (xs : List UInt8) (hs : Src w A n xs) (hnc : n ≤ c) (hc63 : c ≤ 9223372036854775807) (hag : 0 < n → ∀ ad, A = some ad → ¬ m.has ad.block ∧ ad.block < w.heap.size)
    (M : Option Addr) (k kc : Nat) (l : List Int) (hl : IntsAt w M k l) (hmg : 0 < k → ∀ ad, M = some ad → ¬ m.has ad.block) (hfar : s.came.length + n ≤ 1099511627776) (hk1 : k ≤ 1000)
    (hcl : s.closed = false) (hp : places n 0 l = true) (hf : n ≤ 4096 - (s.came.length - s.read)) :
    Calls Tryd.prog 17 #[.pointer (some ⟨m.p, 0, none⟩), .slice A n c, .slice M k kc] w (DelAns B w es m 0 { s with came := s.came ++ xs, ms := s.ms ++ l.map ((s.came.length : Int) + ·) }) := by
  have c4 := h.c 4 _ rfl
  rw [hcl] at c4
  have hfar1 : s.came.length ≤ 1099511627776 := by omega
  have hn40 : n ≤ 1099511627776 := by omega
  have C := arePlaces_any (c := kc) hl (by omega) n hn40
  rw [hp] at C
  obtain ⟨i0, hi0, hz0, hz1, hz2⟩ := info_parts info_int
  have hmsl : s.ms.length ≤ 4096 := by
    have h1 := rising_len h.rising h.inside (by have := h.inn.back; omega)
    have := h.inn.fits
    omega
  have HC := Lib.hid C
  have HC2 := Lib.hid (room_eq h.inn _ rfl)
  have H := Lib.hid h
  have HS := Lib.hid hs
  have HL := Lib.hid hl
  have HP := Lib.hid hp
  have HF := Lib.hid hf
  obtain ⟨R, hR⟩ : ∃ R, R = 4096 - (s.came.length - s.read) := ⟨_, rfl⟩
  rw [← hR] at HC2 hf
  have HR := Lib.hid hR
  obtain ⟨ca, hca⟩ : ∃ ca, ca = s.came.length := ⟨_, rfl⟩
  have HCa := Lib.hid hca
  have hca40 : ca ≤ 1099511627776 := by omega
  have bf : decide ((R : Int) < (n : Int)) = false := by simp; omega
  have HR0 := Lib.hid (show DelRel B w m s l 0 w from ⟨m.M, h.head, by simpa using h.marks, Only.refl _ _, fun i h => .inl h⟩)
  clear h hcl hp hl C hs hR hca
  go_enter Tryd.func17, Tryd.ntmps17
  go_wp2_with fail
  refine HC.out.mono ?_
  rintro e w1 ⟨rfl, rfl⟩
  clear HC
  go_wp2_with fail
  refine HC2.out.mono ?_
  rintro e w1 ⟨rfl, r1, o1⟩
  have HO := Lib.hid o1
  have C3 := Lib.hid (counts_any r1)
  clear r1 o1 HC2
  go_wp2_with fail
  refine C3.out.mono ?_
  rintro e w2 ⟨rfl, q, rfl⟩
  rw [← HCa.out]
  have HO2 := Lib.hid (HO.out.drewN q)
  clear C3 HO bf c4
  have HR1 := Lib.hid (show DelRel B w m s l 0 (w1.drewN q) from by
    obtain ⟨Mv, h1, h2, h3, h4⟩ := HR0.out
    exact ⟨Mv, h1.only HO2.out (fun h => h), h2.only HO2.out (fun _ _ h => h), h3.trans HO2.out (fun _ h => h.elim), h4⟩)
  clear HR0 HO2
  generalize w1.drewN q = w2 at *
  go_wp2_with fail
  go_loopw [42] (fun i W => ∃ j : Nat, j ≤ k ∧ i = .int .i64 (j : Int) ∧ Hid (DelRel B w m s l j W)) (fun i _ => k - (intOf i).toNat)
  case atStart => exact ⟨0, Nat.zero_le _, rfl, HR1.out⟩
  case round =>
    clear HR1
    obtain ⟨j, hj, rfl, hr⟩ := hrel
    obtain ⟨Mv, hB1, hrow, ho, hnew⟩ := hr.out
    have hle := hrow.form
    obtain ⟨MA, Mc, rfl, hM1, hM2⟩ := hle
    have hB1' := hB1
    have c3 : wr.cell? ⟨m.p, 3, none⟩ = some (.slice MA (s.ms.length + j) Mc) := by rw [hB1.cell 3]; rfl
    have hsz := ho.size
    have HB1 := Lib.hid hB1
    have HRow := Lib.hid hrow
    have HO := Lib.hid ho
    have HNew := Lib.hid hnew
    clear hr hB1 hB1' hrow ho hnew
    by_cases hlt : j < k
    · obtain ⟨x, hx⟩ : ∃ x, l[j]? = some x := ⟨_, List.getElem?_eq_getElem (by rw [HL.out.1]; exact hlt)⟩
      obtain ⟨b, off, rfl, d, hx0, hx1⟩ := HL.out.2 j x hx
      have hbm : ¬ m.has b := hmg (by omega) _ rfl
      have d := HO.out.cellv d (by rintro (h1 | h1); exact hbm (.inl h1); exact hbm (.inr (.inr (.inr (.inl h1)))))
      obtain ⟨hx2, hx3⟩ := (places_spec HP.out).2 x (List.mem_of_getElem? hx)
      have HT := Lib.hid (show ints (s.ms ++ (l.take (j + 1)).map ((s.came.length : Int) + ·)) = ints (s.ms ++ (l.take j).map ((s.came.length : Int) + ·)) ++ [.int .i64 ((ca : Int) + x)] by
        rw [List.take_add_one, hx, HCa.out]
        simp [ints])
      clear hx
      have Hbl := Lib.hid (Blk.new wr 3 [.int .i64 ((ca : Int) + x)])
      have Hal := Lib.hid ((Only.refl (fun _ => False) wr).alloc (.cells #[.int .i64 ((ca : Int) + x)] 3))
      obtain ⟨L, hL⟩ : ∃ L, L = s.ms.length := ⟨_, rfl⟩
      rw [← hL] at c3 hM1 hmsl
      have HLs := Lib.hid hL
      have HRow' := HRow.out
      rw [← hL] at HRow'
      have HRow' := Lib.hid HRow'
      have hfz0 := HB1.out.frozen 3
      clear hL
      go_wp2_with (at_builtin; refine step_append_row rfl (.tmp 50) (.tmp 54) 36 rfl B 3 i0 _ 1 8 Tryd.underlying36 hi0 hz0 hz1 hz2 rfl (by omega) _ (L + j) _ rfl (HRow'.out.only Hal.out (fun _ _ h => h)) ⟨wr.heap.size, 0, none⟩ 1 1 [.int .i64 ((ca : Int) + x)] rfl rfl (fun i u hu => by rw [show (⟨wr.heap.size, 0, none⟩ : Addr).add i = ⟨wr.heap.size, i, none⟩ from by unfold Addr.add; split <;> simp_all, Hbl.out.cell]; exact hu) (by intro u hu; simp only [List.mem_singleton] at hu; subst hu; rfl) (by omega) (by omega) (by simp; omega) ?_; intro A3 c3' w3 hc31 hc32 hr3; have hne3 := RowAt.ne HRow'.out HB1.out (by decide); have HBl3 := Lib.hid (show Blk w3 m.p 58 (fsOf ⟨m.p, m.g1, m.g2, .slice MA (s.ms.length + j) Mc, m.V⟩ s) from (hr3.out.2.1.block _ (by have := HB1.out.lt; simp; omega) (fun e => hne3 m.p e.symm rfl)).trans (HB1.out.alloc _)); have c33 : w3.cell? ⟨m.p, 3, none⟩ = some (.slice MA (s.ms.length + j) Mc) := (by rw [HBl3.out.cell 3]; rfl); have hfz3 := HBl3.out.frozen 3)
      go_roundw
      case rel =>
        have h := H.out
        have hset : Only (· = m.p) w3 (w3.setCell ⟨m.p, 3, none⟩ (.slice A3 (L + j + 1) c3')) := (Only.refl (· = m.p) w3).setCell (p := ⟨m.p, 3, none⟩) (.inl rfl) _
        have hnewb : ∀ i, (Value.slice MA (L + j) Mc).ownBlock = some i → m.M.ownBlock = some i ∨ w.heap.size ≤ i := by rw [HLs.out]; exact HNew.out
        have hO3 : Only (fun i => i = m.p ∨ m.M.ownBlock = some i) w w3 := (HO.out.alloc _).grown hr3.out.2.1 (fun q hq => by
          rcases hnewb q hq with h1 | h1
          · exact .inl (.inr h1)
          · exact .inr h1)
        refine ⟨j + 1, by omega, by go_num, .slice A3 (L + j + 1) c3', HBl3.out.setCell 3 _, ?_, hO3.trans hset (fun i hi => .inl (.inl hi)), fun i hi => ?_⟩
        · rw [HT.out]
          have := hr3.out.1.only hset (fun q hq e => RowAt.ne hr3.out.1 HBl3.out (by decide) q hq e)
          rw [HLs.out] at this ⊢
          exact this
        · rcases hr3.out.2.2 i hi with h2 | h2
          · exact hnewb i h2
          · have := hO3.size
            right
            simp at h2
            omega
      case measure => simp [intOf]; omega
    · obtain rfl : j = k := by omega
      have htk : l.take j = l := List.take_of_length_le (by rw [HL.out.1]; exact Nat.le_refl _)
      have h := H.out
      have hS1 : ¬ (m.g1 = m.p ∨ m.M.ownBlock = some m.g1) := by
        rintro (h1 | h1)
        · exact h.inn.ne h1.symm
        · exact (h.m_ne _ h1).2.1 rfl
      have hS2 : ¬ (m.g2 = m.p ∨ m.M.ownBlock = some m.g2) := by
        rintro (h1 | h1)
        · exact h.ou.ne h1.symm
        · exact (h.m_ne _ h1).2.2.1 rfl
      have rin : InRing wr m.p 0 58 (fsOf ⟨m.p, m.g1, m.g2, .slice MA (s.ms.length + j) Mc, m.V⟩ s) m.g1 4096 s.came s.read := h.inn.beside HB1.out (fun t cs hb => hb.only HO.out hS1) rfl rfl rfl
      have hxw := (HS.out.only HO.out (fun hn ad e => by
        have := (hag hn ad e).1
        rintro (h1 | h1)
        · exact this (.inl h1)
        · exact this (.inr (.inr (.inr (.inl h1))))))
      have CP := Lib.hid (put_any rin A n c xs hxw hnc hc63 (fun hn ad e hg => (hag hn ad e).1 (.inr (.inl hg))) hfar)
      have HX := Lib.hid HS.out.1
      have HTk := Lib.hid htk
      have RO := Lib.hid (h.ou.beside HB1.out (fun t cs hb => hb.only HO.out hS2) rfl rfl rfl)
      have HW := Lib.hid (own_only h.wire HO.out (fun q hq => by
        rintro (h1 | h1)
        · exact h.v_ne q hq h1
        · exact (h.m_ne q h1).2.2.2 hq))
      clear htk h hS1 hS2 rin hxw c3
      go_wp2_with fail
      refine CP.out.mono ?_
      rintro e w4 ⟨p4, rfl, hp4, r4, o4⟩
      have hkn : p4 = n := by rw [hp4]; unfold fitting; have := HF.out; omega
      subst hkn
      have htk : xs.take p4 = xs := List.take_of_length_le (by rw [HX.out]; exact Nat.le_refl _)
      rw [htk] at r4
      have R4 := Lib.hid r4
      have O4 := Lib.hid o4
      clear hp4 r4 o4 htk CP
      go_wp2
      go_ret
      have h := H.out
      have hP := places_spec HP.out
      have hin := h.inside
      have hbk := h.inn.back
      have hrow := HRow.out
      rw [HTk.out] at hrow
      have hxl := HX.out
      have h4 : ∀ q, (Value.slice MA (s.ms.length + j) Mc).ownBlock = some q → ¬ (q = m.p ∨ q = m.g1) := by
        intro q hq
        obtain ⟨c1, b1, _⟩ := R4.out.body
        rintro (h1 | h1)
        · exact RowAt.ne hrow HB1.out (by decide) q hq h1
        · obtain ⟨c0, b0, _⟩ := h.inn.body
          exact RowAt.ne hrow (b0.only HO.out (by
            rintro (h1 | h1)
            · exact h.inn.ne h1.symm
            · exact (h.m_ne _ h1).2.1 rfl)) (by decide) q hq h1
      refine ⟨_, rfl, ErrV.nil _, ⟨m.p, m.g1, m.g2, .slice MA (s.ms.length + j) Mc, m.V⟩, rfl, ⟨R4.out, RO.out.beside R4.out.head (fun t cs hb => hb.only O4.out ?_) rfl rfl rfl, ?_, own_only HW.out O4.out ?_, h.g12, h.v12, h.lo, ?_, ?_⟩, ?_, ?_⟩
      · rintro (h1 | h1)
        · exact h.ou.ne h1.symm
        · exact h.g12 h1.symm
      · have := hrow.only O4.out h4
        show RowAt w4 B _ 1 _ (s.ms ++ l.map _).length _
        rw [List.length_append, List.length_map, HL.out.1]
        exact this
      · intro q hq
        rintro (h1 | h1)
        · exact h.v_ne q hq h1
        · exact (h.v12 q hq).1 h1
      · show (s.ms ++ l.map _).Pairwise (· < ·)
        rw [List.pairwise_append]
        refine ⟨h.rising, ?_, ?_⟩
        · rw [List.pairwise_map]
          exact hP.1.imp (fun h => by omega)
        · intro a ha b hb
          obtain ⟨y, hy, rfl⟩ := List.mem_map.1 hb
          have h1 := hin a ha
          have h2 := hP.2 y hy
          omega
      · intro x hx
        have hl : ((s.came ++ xs).length : Int) = (s.came.length : Int) + (p4 : Int) := by rw [List.length_append, hxl]; omega
        show (s.read : Int) ≤ x ∧ x < ((s.came ++ xs).length : Int)
        rw [hl]
        rcases List.mem_append.1 hx with h1 | h1
        · have := hin x h1
          omega
        · obtain ⟨y, hy, rfl⟩ := List.mem_map.1 h1
          have h2 := hP.2 y hy
          omega
      · refine (HO.out.mono (fun i hi => .inl ?_)).trans O4.out (fun i hi => .inl ?_)
        · rcases hi with h1 | h1
          · exact .inl h1
          · exact .inr (.inr (.inr (.inl h1)))
        · rcases hi with h1 | h1
          · exact .inl h1
          · exact .inr (.inl h1)
      · rintro i (h1 | h1 | h1 | h1 | h1)
        · exact .inl (.inl h1)
        · exact .inl (.inr (.inl h1))
        · exact .inl (.inr (.inr (.inl h1)))
        · rcases HNew.out i h1 with h2 | h2
          · exact .inl (.inr (.inr (.inr (.inl h2))))
          · exact .inr h2
        · exact .inl (.inr (.inr (.inr (.inr h1))))

theorem strDeliver (h : IsStr B w m s) (hB0 : B ≤ w.heap.size) {es : List Addr} (hes : ErrsOf w [0, 1, 13] es) (A : Option Addr) (n c : Nat) (xs : List UInt8) (hs : Src w A n xs) (hnc : n ≤ c) (hc63 : c ≤ 9223372036854775807) (hag : 0 < n → ∀ ad, A = some ad → ¬ m.has ad.block ∧ ad.block < w.heap.size)
    (M : Option Addr) (k kc : Nat) (l : List Int) (hl : IntsAt w M k l) (hmg : 0 < k → ∀ ad, M = some ad → ¬ m.has ad.block) (hfar : s.came.length + n ≤ 1099511627776) (hk1 : k ≤ 1000) :
    Calls Tryd.prog 17 #[.pointer (some ⟨m.p, 0, none⟩), .slice A n c, .slice M k kc] w (DelAns B w es m (delNum s n l) (delSt s xs l)) := by
  have hxl := hs.1
  unfold delSt
  rw [hxl]
  cases hcl : s.closed
  · by_cases hp : places n 0 l = false
    · have e : delNum s n l = 1 := by simp [delNum, hcl, hp]
      rw [e, if_neg (by omega)]
      exact strDeliver_range h hes A n c M k kc l hl (by omega) (by omega) hcl hp
    · have hp' : places n 0 l = true := by simpa using hp
      by_cases hf : 4096 - (s.came.length - s.read) < n
      · have e : delNum s n l = 2 := by simp [delNum, hcl, hp', hf]
        rw [e, if_neg (by omega)]
        exact strDeliver_full h hes A n c M k kc l hl (by omega) (by omega) hcl hp' hf
      · have e : delNum s n l = 0 := by simp [delNum, hcl, hp', hf]
        rw [e, if_pos rfl, ← hcl]
        exact strDeliver_ok h hB0 A n c xs hs hnc hc63 hag M k kc l hl hmg hfar hk1 hcl hp' (by omega)
  · have e : delNum s n l = 14 := by simp [delNum, hcl]
    rw [e, if_neg (by omega)]
    exact strDeliver_closed h hes A n c M k kc hcl
end
end Go.Proofs.YtpabhgkamekcnaaDoor
