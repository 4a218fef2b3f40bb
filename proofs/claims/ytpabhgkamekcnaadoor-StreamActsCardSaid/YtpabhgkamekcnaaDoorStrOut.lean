/- Package stream: what goes out: Send, Grant, Wire. -/
import Derived.Test.YtpabhgkamekcnaaDoorStream
import Derived.Lib.SliceRun
namespace Go.Proofs.YtpabhgkamekcnaaDoor
open Go Go.RowKit
set_option maxRecDepth 100000

theorem info_u8 : (Tryd.prog.info? 5).map (fun i => (i.zero, i.size, i.bytes)) = some (some (.int .u8 0), 1, 1) := by kernel_rfl

section
variable {B : Nat} {w w' : World} {m : Me} {s : St}
def sendNum (s : St) (n : Nat) : Nat := if s.closed then 14 else if s.room - (s.sent.length - s.out) < n then 2 else 0
def sendSt (s : St) (xs : List UInt8) : St := if sendNum s xs.length = 0 then { s with sent := s.sent ++ xs } else s

def SendAns (B : Nat) (w : World) (es : List Addr) (m : Me) (num : Nat) (s' : St) (e : Ending) (w' : World) : Prop :=
  ∃ v, e = .returned v ∧ ErrV es v num ∧ Left B w m s' w'

theorem strSend (h : IsStr B w m s) {es : List Addr} (hes : ErrsOf w [0, 1, 13] es) (A : Option Addr) (n c : Nat) (xs : List UInt8) (hs : Src w A n xs) (hnc : n ≤ c) (hc63 : c ≤ 9223372036854775807)
    (hag : 0 < n → ∀ ad, A = some ad → ¬ m.has ad.block) (hfar : s.sent.length + n ≤ 1099511627776) :
    Calls Tryd.prog 19 #[.pointer (some ⟨m.p, 0, none⟩), .slice A n c] w (SendAns B w es m (sendNum s n) (sendSt s xs)) := by
  have hxl := hs.1
  have c4 := h.c 4 _ rfl
  by_cases hcl : s.closed = true
  · obtain ⟨a, ha, d⟩ := hes.get 13 _ (by decide) rfl
    rw [hcl] at c4
    have HV := Lib.hid (ErrV.err (k := 14) ha rfl)
    have H := Lib.hid h
    have HB := Lib.hid hcl
    have HX := Lib.hid hxl
    clear h hcl hes ha hs hxl
    unfold errV at d HV
    go_enter Tryd.func19, Tryd.ntmps19
    go_wp2
    go_ret
    have e : sendNum s n = 14 := by simp [sendNum, HB.out]
    have e2 : sendSt s xs = s := by simp [sendSt, sendNum, HB.out]
    rw [e, e2]
    exact ⟨_, rfl, HV.out, Left.same H.out (Only.refl _ _)⟩
  · have hcf : s.closed = false := by simpa using hcl
    rw [hcf] at c4
    have C := room_eq h.ou _ rfl
    obtain ⟨R, hR⟩ : ∃ R, R = s.room - (s.sent.length - s.out) := ⟨_, rfl⟩
    rw [← hR] at C
    have HR := Lib.hid hR
    have HC := Lib.hid C
    have H := Lib.hid h
    have HB := Lib.hid hcf
    have HX := Lib.hid hxl
    have HS := Lib.hid hs
    obtain ⟨a, ha, d⟩ := hes.get 1 _ (by decide) rfl
    have HV := Lib.hid (ErrV.err (k := 2) ha rfl)
    have HD := Lib.hid d
    unfold errV at HV HD
    clear C h hs hxl hR hcl hcf hes ha d
    by_cases hf : R < n
    · go_enter Tryd.func19, Tryd.ntmps19
      go_wp2_with (go_at_call 33; refine HC.out.mono ?_; rintro e w1 ⟨rfl, r1, o1⟩; have d := o1.cellv HD.out (fun h => h); have HO := Lib.hid o1; clear r1 o1)
      go_ret
      have e : sendNum s n = 2 := by rw [sendNum, HB.out, ← HR.out]; simp [hf]
      have e2 : sendSt s xs = s := by rw [sendSt, HX.out, e]; rfl
      rw [e, e2]
      exact ⟨_, rfl, HV.out, Left.same H.out HO.out⟩
    · have e : sendNum s n = 0 := by rw [sendNum, HB.out, ← HR.out]; simp [hf]
      have e2 : sendSt s xs = { s with sent := s.sent ++ xs } := by rw [sendSt, HX.out, e]; rfl
      rw [e, e2]
      have HE := Lib.hid e
      clear e e2
      have bf : decide ((R : Int) < (n : Int)) = false := by simp; omega
      go_enter Tryd.func19, Tryd.ntmps19
      go_wp2_with (go_at_call 33; refine HC.out.mono ?_; rintro e w1 ⟨rfl, r1, o1⟩; have HO := Lib.hid o1; have R1 := Lib.hid r1; clear r1 o1)
      have h1 := H.out.same HO.out
      have CP := Lib.hid (put_any R1.out A n c xs (HS.out.only HO.out (fun _ _ _ h => h)) hnc hc63 (fun hn ad he hg => hag hn ad he (.inr (.inr (.inl hg)))) hfar)
      have H1 := Lib.hid h1
      clear h1 bf
      refine CP.out.mono ?_
      rintro e w2 ⟨k, rfl, hk, r2, o2⟩
      have hkn : k = n := by rw [hk]; unfold fitting; have := HR.out; omega
      subst hkn
      have htk : xs.take k = xs := List.take_of_length_le (by rw [HX.out]; exact Nat.le_refl _)
      rw [htk] at r2
      have R2 := Lib.hid r2
      have O2 := Lib.hid o2
      clear hk r2 o2 htk CP
      go_wp2
      go_ret
      refine ⟨_, rfl, ErrV.nil _, ?_⟩
      have h1 := H1.out
      have r2 := R2.out
      have hB : Blk w2 m.p _ (fsOf m { s with sent := s.sent ++ xs }) := r2.head
      refine ⟨m, rfl, ⟨h1.inn.beside hB (fun t cs hb => hb.only O2.out (by rintro (h | h); exact h1.inn.ne h.symm; exact h1.g12 h)) rfl rfl rfl, r2, h1.marks.only O2.out (fun q hq => by rintro (h | h); exact (h1.m_ne q hq).1 h; exact (h1.m_ne q hq).2.2.1 h), ?_, h1.g12, h1.v12, h1.lo, h1.rising, h1.inside⟩,
        (HO.out.mono (fun _ h => h.elim)).trans O2.out (fun i hi => .inl (by rcases hi with rfl | rfl; exact .inl rfl; exact .inr (.inr (.inl rfl)))), fun i h => .inl h⟩
      have hw := own_only h1.wire O2.out (fun q hq => by rintro (h | h); exact h1.v_ne q hq h; exact (h1.v12 q hq).2 h)
      show w2.ownsRow B _ 1 m.V s.out (((s.sent ++ xs).take s.out).map B8)
      rw [List.take_append_of_le_length h1.ou.back]
      exact hw

/-- Grant. -/
def grantNum (s : St) (n : Int) : Nat := if s.closed then 0 else asked n (s.sent.length - s.out)
def grantSt (s : St) (n : Int) : St := { s with out := s.out + grantNum s n }
theorem run_append_zero {P : Program} (w : World) (t ty e : TypeId) (i : TypeInfo) (ht : P.underlying t = some (.slice e)) (hi : P.info? e = some i) (base : Option Addr) (n c : Nat) (hle : n ≤ c) (A : Option Addr) (c2 : Nat) :
    (Builtin.append_ #[t, t] ty #[.slice base n c, .slice A 0 c2]).run P w = .ok (.slice base n c) w := by
  cases A with
  | none => exact run_append_nothing w t t ty e i ht hi base n c hle _ (Go.Src.ofNil w ht c2)
  | some a => exact run_append_nothing w t t ty e i ht hi base n c hle _ (Go.Src.ofSlice w ht a 0 c2 [] (by simp) (by intro j u h; cases h) (by intro u h; cases h))
theorem bytes_one (l : List UInt8) : ∀ u ∈ l.map B8, u.oneCell' = true := by
  intro u hu
  obtain ⟨x, _, rfl⟩ := List.mem_map.1 hu
  rfl
theorem take_first {all : List UInt8} {went k : Nat} : (all.take went).map B8 ++ (first all went k).map B8 = (all.take (went + k)).map B8 := by
  rw [← List.map_append]
  congr 1
  unfold first
  rw [List.take_add]

theorem strGrant (h : IsStr B w m s) (n : Int) (hB0 : B ≤ w.heap.size) (hfar : s.sent.length ≤ 1099511627776) :
    Calls Tryd.prog 20 #[.pointer (some ⟨m.p, 0, none⟩), .int .i64 n] w fun e w' => e = .returned (.int .i64 ((grantNum s n : Nat) : Int)) ∧ Left B w m (grantSt s n) w' := by
  have c4 := h.c 4 _ rfl
  by_cases hcl : s.closed = true
  · rw [hcl] at c4
    have H := Lib.hid h
    have HB := Lib.hid hcl
    clear h hcl
    go_enter Tryd.func20, Tryd.ntmps20
    go_wp2
    go_ret
    have e : grantNum s n = 0 := by simp [grantNum, HB.out]
    have e2 : grantSt s n = s := by rw [grantSt, e]; rfl
    rw [e, e2]
    exact ⟨rfl, Left.same H.out (Only.refl _ _)⟩
  · have hcf : s.closed = false := by simpa using hcl
    rw [hcf] at c4
    obtain ⟨i0, hi0, hz0, hz1, hz2⟩ := info_parts info_u8
    obtain ⟨k, hk⟩ : ∃ k, k = asked n (s.sent.length - s.out) := ⟨_, rfl⟩
    have e : grantNum s n = k := by simp [grantNum, hcf, hk]
    have e2 : grantSt s n = { s with out := s.out + k } := by rw [grantSt, e]
    have hkl : k ≤ s.sent.length - s.out := by rw [hk]; exact asked_le _ _
    have hbk := h.ou.back
    have hfit := h.ou.fits
    have htop := h.ou.top
    have C := take_eq h.ou n k hk.symm _ rfl
    rw [e, e2]
    obtain ⟨V0, cV, hV, hV1, hV2⟩ := own_form h.wire
    have cV0 := h.c 8 _ rfl
    have HC := Lib.hid C
    have H := Lib.hid h
    have HV := Lib.hid hV
    clear C h hcl hcf hk e e2 cV0
    go_enter Tryd.func20, Tryd.ntmps20
    go_wp2_with fail
    refine HC.out.mono ?_
    rintro e w1 ⟨A, rfl, hmade, r1, o1⟩
    have h0 := H.out
    have hB1 : Blk w1 m.p _ (fsOf m { s with out := s.out + k }) := r1.head
    have R1 := Lib.hid r1
    have HM := Lib.hid hmade
    have HO := Lib.hid o1
    have HW := Lib.hid (own_only h0.wire o1 (fun q hq => h0.v_ne q hq))
    have HMk := Lib.hid (h0.marks.only o1 (fun q hq => (h0.m_ne q hq).1))
    have HI := Lib.hid (h0.inn.beside hB1 (fun t cs hb => hb.only o1 (Ne.symm h0.inn.ne)) rfl rfl rfl)
    have HB1 := Lib.hid hB1
    have cv : w1.cell? ⟨m.p, 8, none⟩ = some (.slice V0 s.out cV) := by rw [hB1.cell 8, ← HV.out]; rfl
    have hfz := hB1.frozen 8
    have hsz := o1.size
    clear h0 hB1 r1 hmade o1 HC
    by_cases hk0 : k = 0
    · subst hk0
      go_wp2_with (at_builtin; refine Lib.wpList_append_run _ rfl (.tmp 19) (.tmp 20) 35 35 rfl _ _ rfl rfl _ _ (run_append_zero (P := Tryd.prog) _ 35 _ 5 i0 Tryd.underlying35 hi0 V0 s.out cV hV1 A 0) ?_)
      go_ret
      refine ⟨rfl, m, rfl, ?_, ((HO.out.mono (fun i hi => .inl (.inl hi)))).trans ((Only.refl (· = m.p) w1).setCell (p := ⟨m.p, 8, none⟩) (.inl rfl) (.slice V0 s.out cV)) (fun i hi => .inl (.inl hi)), fun i h => .inl h⟩
      have h0 := H.out
      have hset : Only (· = m.p) w1 (w1.setCell ⟨m.p, 8, none⟩ (.slice V0 s.out cV)) := (Only.refl (· = m.p) w1).setCell (p := ⟨m.p, 8, none⟩) (.inl rfl) _
      have hBn : Blk (w1.setCell ⟨m.p, 8, none⟩ (.slice V0 s.out cV)) m.p 58 (fsOf m s) := by
        have := HB1.out.setCell 8 (.slice V0 s.out cV)
        rw [← HV.out] at this ⊢
        exact this
      exact ⟨HI.out.beside hBn (fun t cs hb => hb.far (p := ⟨m.p, 8, none⟩) (Ne.symm h0.inn.ne) _) rfl rfl rfl, R1.out.beside hBn (fun t cs hb => hb.far (p := ⟨m.p, 8, none⟩) (Ne.symm h0.ou.ne) _) rfl rfl rfl,
        HMk.out.only hset (fun q hq => (h0.m_ne q hq).1), own_only HW.out hset (fun q hq => h0.v_ne q hq), h0.g12, h0.v12, h0.lo, h0.rising, h0.inside⟩
    · obtain ⟨N, rfl, hN, hNb⟩ : ∃ N, A = some ⟨N, 0, none⟩ ∧ w.heap.size ≤ N ∧ Blk w1 N 5 ((first s.sent s.out k).map B8) := by
        rcases HM.out.2 with ⟨h0, _⟩ | h1
        · exact absurd h0 hk0
        · exact h1
      have HN := Lib.hid hNb
      clear hNb
      have hn1 := HM.out.1
      have HF := Lib.hid hn1
      clear hn1
      go_wp2_with (at_builtin; refine wpList_append_lies _ rfl (.tmp 19) (.tmp 20) 35 rfl B 5 i0 _ 1 1 Tryd.underlying35 hi0 hz0 hz1 hz2 rfl (by omega) _ s.out _ rfl (by rw [← HV.out]; exact HW.out) ⟨N, 0, none⟩ k k ((first s.sent s.out k).map B8) rfl (by rw [List.length_map, HF.out]; omega) (fun j u hj => by rw [show (⟨N, 0, none⟩ : Addr).add j = ⟨N, j, none⟩ from by unfold Addr.add; split <;> simp_all, HN.out.cell]; exact hj) (bytes_one _) (by omega) (by unfold maxLen; omega) (by omega) (by omega) _ rfl ?_; intro g' cap w2 hown hgr hat hlt'; have HOw := Lib.hid hown; have HG := Lib.hid hgr; have HA := Lib.hid hat; have hle2 := own_le hown; have hgp : g' ≠ m.p := own_ne hown (show Blk w2 m.p _ _ from (hgr.block _ HB1.out.lt (fun e => by have := own_ne HW.out HB1.out (by decide) m.p (by rw [HV.out]; exact e.symm); exact this rfl)).trans HB1.out) (by decide) g' rfl; have HBl := Lib.hid (show Blk w2 m.p _ (fsOf m { s with out := s.out + k }) from (hgr.block _ HB1.out.lt (fun e => by have := own_ne HW.out HB1.out (by decide) m.p (by rw [HV.out]; exact e.symm); exact this rfl)).trans HB1.out); have hfz2 := HBl.out.frozen 8; have cv2 : w2.cell? ⟨m.p, 8, none⟩ = some m.V := HBl.out.cell 8; clear hown hgr hat)
      go_ret
      have h0 := H.out
      have hset : Only (· = m.p) w2 (w2.setCell ⟨m.p, 8, none⟩ (.slice (some ⟨g', 0, none⟩) (s.out + k) cap)) := (Only.refl (· = m.p) w2).setCell (p := ⟨m.p, 8, none⟩) (.inl rfl) _
      have hgo : Only (fun i => m.V.ownBlock = some i) w1 w2 := (Only.refl _ w1).grown HG.out (fun q hq => .inl (by rw [HV.out]; exact hq))
      have hBn : Blk (w2.setCell ⟨m.p, 8, none⟩ (.slice (some ⟨g', 0, none⟩) (s.out + k) cap)) m.p 58 (fsOf ⟨m.p, m.g1, m.g2, m.M, .slice (some ⟨g', 0, none⟩) (s.out + k) cap⟩ { s with out := s.out + k }) := HBl.out.setCell 8 _
      have hlt1 := HI.out.g_lt
      have hlt2 := R1.out.g_lt
      have hold : ∀ i, m.V.ownBlock = some i → i ≠ m.p ∧ i ≠ m.g1 ∧ i ≠ m.g2 ∧ m.M.ownBlock ≠ some i := fun i hi => ⟨h0.v_ne i hi, (h0.v12 i hi).1, (h0.v12 i hi).2, fun hm => (h0.m_ne i hm).2.2.2 hi⟩
      have hnew : ∀ i, some g' = some i → m.V.ownBlock = some i ∨ w1.heap.size ≤ i := fun i hi => by
        rcases HA.out with h1 | h1
        · left
          rw [HV.out]
          exact h1.trans hi
        · right
          injection hi with hi
          omega
      refine ⟨rfl, ⟨m.p, m.g1, m.g2, m.M, .slice (some ⟨g', 0, none⟩) (s.out + k) cap⟩, rfl, ?_, ?_, ?_⟩
      · refine ⟨InRing.beside (InRing.only HI.out hgo (fun e => (hold _ e).1 rfl) (fun e => (hold _ e).2.1 rfl)) hBn (fun t cs hb => hb.far (p := ⟨m.p, 8, none⟩) (Ne.symm h0.inn.ne) _) rfl rfl rfl,
          InRing.beside (InRing.only R1.out hgo (fun e => (hold _ e).1 rfl) (fun e => (hold _ e).2.2.1 rfl)) hBn (fun t cs hb => hb.far (p := ⟨m.p, 8, none⟩) (Ne.symm h0.ou.ne) _) rfl rfl rfl,
          (HMk.out.only hgo (fun q hq e => (hold q e).2.2.2 hq)).only hset (fun q hq => (h0.m_ne q hq).1), ?_, h0.g12, ?_, h0.lo, h0.rising, h0.inside⟩
        · have := own_only HOw.out hset (fun q hq => by injection hq with hq; rw [← hq]; exact hgp)
          rw [take_first] at this
          exact this
        · intro q hq
          rcases hnew q hq with h1 | h1
          · exact ⟨(hold q h1).2.1, (hold q h1).2.2.1⟩
          · show q ≠ m.g1 ∧ q ≠ m.g2
            omega
      · exact ((HO.out.mono (fun i hi => .inl (.inl hi))).trans hgo (fun i hi => .inl (.inr (.inr (.inr (.inr hi)))))).trans hset (fun i hi => .inl (.inl hi))
      · rintro i (h1 | h1 | h1 | h1 | h1)
        · exact .inl (.inl h1)
        · exact .inl (.inr (.inl h1))
        · exact .inl (.inr (.inr (.inl h1)))
        · exact .inl (.inr (.inr (.inr (.inl h1))))
        · rcases hnew i h1 with h2 | h2
          · exact .inl (.inr (.inr (.inr (.inr h2))))
          · exact .inr (by omega)

/-- Wire. -/
theorem clone_any {V : Value} {n : Nat} {bs : List UInt8} (h : w.ownsRow B 5 1 V n (bs.map B8)) (hn63 : n ≤ 1099511627776) :
    Calls Tryd.prog 34 #[V] w fun e w' => ∃ A c, e = .returned (.slice A n c) ∧ Src w' A n bs ∧ n ≤ c ∧ c ≤ 9223372036854775807 ∧ Only (fun _ => False) w w' := by
  obtain ⟨i0, hi0, hz0, hz1, hz2⟩ := info_parts info_u8
  have hbl : bs.length = n := by have := h.1; simpa using this
  have qn : ∀ (w : World) (a : Option Addr) (n c n' c' : Nat), (binOp .eql 35 (.slice a n c) (.slice none n' c')).run Tryd.prog w = .ok (.bool a.isNone) w := fun w a n c n' c' => Lib.run_eql_slice_nil w _ _ a n c n' c' Tryd.underlying35
  rcases h.2 with ⟨rfl, rfl⟩ | ⟨g, cap, cur, rfl, hb, hg, hnc, hcm, hcs, htk⟩
  · obtain rfl : bs = [] := List.eq_nil_of_length_eq_zero hbl
    go_enter Tryd.func34, Tryd.ntmps34
    go_wp2
    go_ret
    exact ⟨_, _, rfl, Src.nil _ _, Nat.le_refl _, by omega, Only.refl _ _⟩
  · have hcm' : cap ≤ 9223372036854775807 := by simpa [maxLen] using hcm
    have H := Lib.hid h
    have HBl := Lib.hid hbl
    clear h hbl hg hcs htk hcm
    have HO := Lib.hid (((Only.refl (fun _ => False) w).alloc (.cells #[] 5)))
    have HE := Lib.hid (own_of_blk (B := 0) (c := 0) (s := 1) (n := 0) (xs := []) (Blk.new w 5 []) rfl rfl (by omega) (by omega) (Nat.zero_le _))
    by_cases hn0 : n = 0
    · subst hn0
      obtain rfl : bs = [] := List.eq_nil_of_length_eq_zero HBl.out
      go_enter Tryd.func34, Tryd.ntmps34
      go_wp2_with (at_builtin; refine Lib.wpList_append_run _ rfl (.tmp 5) (.tmp 6) 35 35 rfl _ _ rfl rfl _ _ (run_append_zero (P := Tryd.prog) _ 35 _ 5 i0 Tryd.underlying35 hi0 _ 0 0 (Nat.le_refl _) _ _) ?_)
      go_ret
      exact ⟨_, _, rfl, Src.nil _ _, Nat.le_refl _, by omega, HO.out⟩
    · have hat := (own_at H.out (by omega))
      obtain ⟨g1, hg1, _, hglt, hcell⟩ := hat
      injection hg1 with hg1
      injection hg1 with hg1
      subst hg1
      have HC := Lib.hid hcell
      clear hcell
      go_enter Tryd.func34, Tryd.ntmps34
      go_wp2_with (at_builtin; refine wpList_append_lies _ rfl (.tmp 5) (.tmp 6) 35 rfl 0 5 i0 _ 1 1 Tryd.underlying35 hi0 hz0 hz1 hz2 rfl (by omega) _ 0 [] rfl HE.out ⟨g, 0, none⟩ n cap (bs.map B8) rfl (by rw [List.length_map, HBl.out]; omega) (fun j u hj => by rw [show (⟨g, 0, none⟩ : Addr).add j = ⟨g, j, none⟩ from by unfold Addr.add; split <;> simp_all]; exact HO.out.cellv (HC.out j u hj) (fun h => h)) (bytes_one _) (by omega) (by unfold maxLen; omega) (by omega) (Nat.zero_le _) _ rfl ?_; intro g' cap' w2 hown hgr hat hlt'; have HOw := Lib.hid hown; have HG := Lib.hid hgr; have hle2 := own_le hown; clear hown hgr hat)
      go_ret
      have ho2 : Only (fun _ => False) w w2 := (HO.out).grown HG.out (fun q hq => .inr (by cases hq; exact Nat.le_refl _))
      refine ⟨some ⟨g', 0, none⟩, cap', rfl, ?_, by omega, by omega, ho2⟩
      have hown := HOw.out
      rw [Nat.zero_add, List.nil_append] at hown
      obtain ⟨cur, hcb, hcl, hct, _⟩ := own_blk hown
      refine hcb.src HBl.out (fun j x hj => ?_)
      have hj' : (bs.map B8)[j]? = some (B8 x) := by rw [List.getElem?_map, hj]; rfl
      rw [← hct, List.getElem?_take] at hj'
      split at hj'
      · rw [Nat.zero_add]; exact hj'
      · cases hj'
theorem strWire (h : IsStr B w m s) (hfar : s.sent.length ≤ 1099511627776) : Calls Tryd.prog 16 #[.pointer (some ⟨m.p, 0, none⟩)] w fun e w' => ∃ A c, e = .returned (.slice A s.out c) ∧ Src w' A s.out (s.sent.take s.out) ∧ Only (fun _ => False) w w' := by
  have c8 := h.c 8 _ rfl
  have hb := h.ou.back
  have C := Lib.hid (clone_any h.wire (by omega))
  clear h
  generalize m.V = V at *
  go_enter Tryd.func16, Tryd.ntmps16
  go_wp2_with (go_at_call 34; refine C.out.mono ?_; rintro e w' ⟨A, c, rfl, hs, hnc, hc63, ho⟩; have HS := Lib.hid hs; have HO := Lib.hid ho; clear hs ho)
  go_ret
  exact ⟨_, _, rfl, HS.out, HO.out⟩
end
end Go.Proofs.YtpabhgkamekcnaaDoor
