
/- What comes of a verb at an end. -/
import Derived.Test.YtbnfhklpobephaaGreatDoorJEnTurn
import Derived.Test.YtbnfhklpobephaaGreatDoorJHsHear
namespace Go.Proofs.YtbnfhklpobephaaGreatDoor
open Go Go.RowKit
set_option maxRecDepth 100000
set_option maxHeartbeats 4000000

theorem info_nt : (Tryz.prog.info? 87).map (fun i => (i.zero, i.size, i.bytes)) = some (some (.agg (#[.int .i64 0, .int .i64 0, .int .i64 0, .int .i64 0, .bool false] : Array Value)), 5, 40) := by kernel_rfl
theorem Ee.send_len (e : Ee) (k : Int) (b : List UInt8) : (e.send k b).out.length ≤ e.out.length + 1 := by
  unfold Ee.send
  split
  · omega
  · simp
theorem Ee.sendV_len (e : Ee) (v o : Int) : (e.sendV v o).out.length ≤ e.out.length + 1 := by
  unfold Ee.sendV
  split
  · exact Ee.send_len _ _ _
  · omega
theorem Ee.sendS_len (e : Ee) (o : Int) (t : Option (List UInt8)) : (e.sendS o t).out.length ≤ e.out.length + 1 := by
  cases t with
  | none => exact Nat.le_succ _
  | some b => exact Ee.send_len _ _ _
/-- A verb's heard, laid behind a call or ahead of it. -/
structure HvAt (w1 w7 : World) (N : Nat) (cs : List Value) (p mo : Nat) (tp : TypeId) (pre post : List Value) (M R : Nat → Prop) (ag : Nat → Nat → Bool) (E : Ee) : Prop where
  box : Blk w7 N 309 cs
  new : w1.heap.size ≤ N
  is : IsEe w7 p mo tp pre post M R ag E
  only : Only (· = p) w1 w7
section
variable {w w1 w5 : World} {es : List Addr} {p mo : Nat} {tp : TypeId} {pre post : List Value} {M R : Nat → Prop} {ag : Nat → Nat → Bool} {E : Ee} {A : Option Addr} {n c : Nat} {cut : Bool}
theorem HvAt.first (k : IsEe w5 p mo tp pre post M R ag E) (ho : Only (· = p) w1 w5) : ∀ a b c d, HvAt w1 (w5.alloc (.cells #[a, b, c, d] 309)) w5.heap.size [a, b, c, d] p mo tp pre post M R ag E := fun a b c d =>
  ⟨Blk.new w5 _ [a, b, c, d], ho.size, k.same ((Only.refl _ _).alloc _), ho.alloc _⟩
theorem HvAt.second (k : IsEe w5 p mo tp pre post M R ag E) (ho : Only (· = p) w1 w5) (hz : Blk w5 w1.heap.size 309 [.int .i64 0, .int .i64 0, .bool false, .bool false]) (hM : ∀ i, M i → i < w1.heap.size) (hR : ∀ i, R i → i < w1.heap.size) : ∀ a b c d, HvAt w1 ((((w5.setCell ⟨w1.heap.size, 0, none⟩ a).setCell ⟨w1.heap.size, 1, none⟩ b).setCell ⟨w1.heap.size, 2, none⟩ c).setCell ⟨w1.heap.size, 3, none⟩ d) w1.heap.size [a, b, c, d] p mo tp pre post M R ag E := fun a b c d => by
  have h := ((((Only.refl (· = w1.heap.size) w5).setCell (p := ⟨w1.heap.size, 0, none⟩) (.inl rfl) a).setCell (p := ⟨w1.heap.size, 1, none⟩) (.inl rfl) b).setCell (p := ⟨w1.heap.size, 2, none⟩) (.inl rfl) c).setCell (p := ⟨w1.heap.size, 3, none⟩) (.inl rfl) d
  exact ⟨(((hz.setCell 0 _).setCell 1 _).setCell 2 _).setCell 3 _, Nat.le_refl _, k.far h (fun i hi e => by have := hM i hi; omega) (fun i hi e => by have := hR i hi; omega), ho.trans h (fun i hi => .inr (by omega))⟩
theorem enVerb (k : IsEe w p mo tp pre post M R ag E) (hes : ErrsAt w es) (hT : TbW w) (hbd : E.out.length ≤ 99990) (hcn : E.sent ≤ 1000000) (hh : E.heard ≤ 1000000) (hts : E.T.sent ≤ 1000000) (hth : E.T.heard ≤ 1000000) {v o : Nat} (hv : 251 ≤ v ∧ v ≤ 254) (ho : o < 256) :
    HearsE 116 w p mo tp pre post M R ag (tkV 3 (v : Int) (o : Int) A n c cut) ((E.hearVerb ag v o).1, [], (E.hearVerb ag v o).2) := by
  have HK := Lib.hid k
  obtain ⟨w0, hw0⟩ : ∃ w0, w0 = w.alloc (.cells (tkL 3 v o A n c cut).toArray 178) := ⟨_, rfl⟩
  have hw0' : w.alloc (.cells #[.int .i64 3, .int .i64 (v : Int), .int .i64 (o : Int), .slice A n c, .bool cut] 178) = w0 := hw0.symm
  have HBk : Hid (Blk w0 w.heap.size 178 (tkL 3 v o A n c cut)) := by rw [hw0]; exact Blk.new w _ _
  have HO0 : Hid (Only (fun _ => False) w w0) := by rw [hw0]; exact (Only.refl _ _).alloc _
  have HZ0 : Hid (w0.heap.size = w.heap.size + 1) := by rw [hw0]; show _ = _; simp
  have HW0 := Lib.hid hw0'
  clear hw0 hw0'
  have hk0 := k.same HO0.out
  have c48 := hk0.cells.1.1
  have f48 := hk0.cells.2 (mo + 1948)
  obtain ⟨a0, ha0⟩ : ∃ a0, a0 = E.heard := ⟨_, rfl⟩
  have hk1 := hk0.incHeard
  rw [← ha0] at c48 hh hk1
  have ho1 : Only (· = p) w0 (w0.setCell ⟨p, mo + 1948, none⟩ (.int .i64 ((a0 : Int) + 1))) := (Only.refl (· = p) _).setCell (p := ⟨p, mo + 1948, none⟩) (.inl rfl) _
  obtain ⟨w1, hw1⟩ : ∃ w1, w1 = w0.setCell ⟨p, mo + 1948, none⟩ (.int .i64 ((a0 : Int) + 1)) := ⟨_, rfl⟩
  rw [← hw1] at hk1 ho1
  have HK1 := Lib.hid hk1
  have HO1 := Lib.hid ho1
  have hqp : w.heap.size ≠ p := by have := k.lt; omega
  have HS : Hid (∀ W, Only M w1 W → W.cell? ⟨w.heap.size, 1, none⟩ = some (.int .i64 (v : Int)) ∧ W.cell? ⟨w.heap.size, 2, none⟩ = some (.int .i64 (o : Int))) := fun W ho => by
    have hb := (HBk.out.only HO1.out hqp).only ho (fun hm => by have := HK.out.mlt _ hm; omega)
    exact ⟨hb.cell 1, hb.cell 2⟩
  have HG : Hid (Goes w.heap.size w M R w1 M R) := ⟨(HO0.out.mono (fun _ h => h.elim)).trans ho1 (fun i hi => .inl (hi ▸ k.mp)), fun _ h => .inl h, fun _ h => .inl h⟩
  have HEs : Hid (∀ W, Only M w1 W → ErrsAt W es) := fun W ho => hes.far (HG.out.only.trans ho (fun _ h => .inl h)) (fun i hi hm => by have := HK.out.m18 i hm; omega)
  have HTw : Hid (∀ W, Only M w1 W → TbW W) := fun W ho => hT.far (HG.out.only.trans ho (fun _ h => .inl h)) (fun i hi hm => by have := HK.out.m18 i hm; omega)
  have HZ1 : Hid (w.heap.size < w1.heap.size) := by have := HO1.out.size; have := HZ0.out; show _ < _; omega
  have HW1 := Lib.hid hw1.symm
  clear hw1 hk0 hk1 ho1 hes hT
  by_cases h6 : o = 6
  · have H6 : Hid ((o : Int) = 6) := by show _ = _; omega
    have hX : E.hearVerb ag v o = (({ E with heard := a0 + 1 } : Ee).hearMark v, [⟨2, v, 0, 0, false⟩]) := by subst h6; rw [ha0]; rfl
    have HMk : Hid (∀ W, IsEe W p mo tp pre post M R ag { E with heard := a0 + 1 } → ErrsAt W es → Calls Tryz.prog 162 #[.pointer (some ⟨p, mo, none⟩), .int .i64 (v : Int)] W fun e w' => ∃ N, e = .returned (.slice (some ⟨N, 0, none⟩) 1 1) ∧ Hid (Blk w' N 87 (Nt.cs ⟨2, v, 0, 0, false⟩)) ∧ W.heap.size ≤ N ∧ Hid (EnGoes W.heap.size W p mo tp pre post M R ag (({ E with heard := a0 + 1 } : Ee).hearMark v) w')) := fun W hk he => enMark hk he (by show E.out.length ≤ _; omega) hcn v
    rw [hX]
    obtain ⟨X, hX2⟩ : ∃ X, X = ({ E with heard := a0 + 1 } : Ee).hearMark v := ⟨_, rfl⟩
    rw [← hX2] at HMk ⊢
    obtain ⟨E1, hE1⟩ : ∃ E1, E1 = ({ E with heard := a0 + 1 } : Ee) := ⟨_, rfl⟩
    rw [← hE1] at HMk HK1
    clear hX hX2 hE1 ha0 h6 k hcn hth hts hbd
    go_enter Tryz.func116, Tryz.ntmps116
    go_upto_region 1 with fail
    rw [HW0.out]
    clear HW0
    go_upto_region 2 with fail
    rw [HW1.out]
    clear HW1 c48 f48
    have s1 := (HS.out _ (Only.refl _ _)).1
    have s2 := (HS.out _ (Only.refl _ _)).2
    rw [H6.out] at s2
    go_wp2_with (go_at_call 162; (with_reducible refine (HMk.out _ HK1.out (HEs.out _ (Only.refl _ _))).mono ?_); rintro e w2 ⟨N, rfl, hb2, hN2, hg2⟩)
    go_ret2
    have hz1 := HZ1.out
    exact ⟨_, _, rfl, ⟨EnGoes.seq HG.out (Nat.le_refl _) hg2.out (by omega), noDat _ _, oneNts hb2.out (by omega)⟩⟩
  · have h6i : ((o : Int) == 6) = false := by simpa using (by omega : ¬ (o : Int) = 6)
    have hX : E.hearVerb ag v o = ((if E.verbTurns ag v o then (E.heardT ag v o).turn (sideV v) o else E.heardT ag v o),
      (if E.verbTurns ag v o then [(E.heardT ag v o).turnN (sideV v) o] else []) ++ (if (E.T.hear ag v o).2.2.2 then [⟨4, 0, sideV v, o, false⟩] else [])) := by
      unfold Ee.hearVerb
      rw [if_neg h6]
    have HTh : Hid (∀ W, Only (fun _ => False) w1 W → Calls Tryz.prog 163 #[.pointer (some ⟨p, mo + 263, none⟩), .int .i64 (v : Int), .int .i64 (o : Int)] W fun e w' => e = .returned (.tuple #[.agg #[.int .i64 (sideV v : Int), .int .i64 (toldV (sideV v) (E.T.hear ag v o).2.2.1 : Int), .bool (E.verbTurns ag v o), .bool (E.T.hear ag v o).2.2.2], .nilIface]) ∧ Hid (IsEe w' p mo tp pre post M R ag ({ E with heard := a0 + 1, T := (E.T.hear ag v o).1 } : Ee) ∧ Only (· = p) W w')) := fun W hoW => by
      obtain ⟨a1, a2, a3, a4, a5, a6, a7, kk⟩ := HK1.out.same hoW
      have hp := kk.p18
      refine (thear_some (HTw.out W (hoW.mono (fun _ h => h.elim))) kk.tbAt hv ho hts hth (by omega)).mono ?_
      rintro e w' ⟨rfl, h2, h3⟩
      obtain ⟨x2, kx⟩ := kk.ofTb h3 h2
      exact ⟨rfl, ⟨a1, x2, a3, a4, a5, a6, a7, kx⟩, h3⟩
    have hE3 : E.heardT ag v o = ({ E with heard := a0 + 1, T := (E.T.hear ag v o).1 } : Ee).sendV (toldV (sideV v) (E.T.hear ag v o).2.2.1 : Int) o := by rw [ha0]; rfl
    have hEt : (E.hearVerb ag v o).1.out.length = (E.hearVerb ag v o).1.out.length := rfl
    obtain ⟨E2, hE2⟩ : ∃ E2, E2 = ({ E with heard := a0 + 1, T := (E.T.hear ag v o).1 } : Ee) := ⟨_, rfl⟩
    have hl2 : E2.out.length ≤ 99990 := by rw [hE2]; exact hbd
    have hc2 : E2.sent ≤ 1000000 := by rw [hE2]; exact hcn
    obtain ⟨si, hsi⟩ : ∃ s : Int, s = (sideV v : Int) := ⟨_, rfl⟩
    obtain ⟨tv, htv⟩ : ∃ s : Int, s = (toldV (sideV v) (E.T.hear ag v o).2.2.1 : Int) := ⟨_, rfl⟩
    obtain ⟨tu, htu⟩ : ∃ s, s = E.verbTurns ag v o := ⟨_, rfl⟩
    obtain ⟨wr, hwr⟩ : ∃ s, s = (E.T.hear ag v o).2.2.2 := ⟨_, rfl⟩
    obtain ⟨E3, hE3'⟩ : ∃ E3, E3 = E.heardT ag v o := ⟨_, rfl⟩
    rw [← hE2, ← htv] at hE3
    rw [← hE3'] at hE3 hX
    rw [← hE2, ← hsi, ← htv, ← htu, ← hwr] at HTh
    rw [← hsi, ← htu, ← hwr] at hX
    obtain ⟨oi, hoi⟩ : ∃ s : Int, s = (o : Int) := ⟨_, rfl⟩
    obtain ⟨vi, hvi⟩ : ∃ s : Int, s = (v : Int) := ⟨_, rfl⟩
    rw [← hoi] at hE3 hX HTh HS HW0 h6i
    rw [← hvi] at HTh HS HW0
    obtain ⟨X, hXX⟩ : ∃ X, X = E.hearVerb ag v o := ⟨_, rfl⟩
    rw [← hXX] at hX ⊢
    rw [← hoi, ← hvi]
    have HSV : Hid (∀ W M R, IsEe W p mo tp pre post M R ag E2 → ErrsAt W es → Calls Tryz.prog 66 #[.pointer (some ⟨p, mo, none⟩), .int .i64 tv, .int .i64 oi] W fun e w' => e = .returned (.tuple #[]) ∧ Hid (EnGoes W.heap.size W p mo tp pre post M R ag E3 w')) := fun W M R hk he => by
      rw [hE3]
      exact enSendV hk he (by omega) hc2 tv oi
    have hl3 : E3.out.length ≤ 99991 := by
      rw [hE3]
      have := Ee.sendV_len E2 tv oi
      omega
    have HTu : Hid (∀ W M R, IsEe W p mo tp pre post M R ag E3 → ErrsAt W es → Calls Tryz.prog 67 #[.pointer (some ⟨p, mo, none⟩), .int .i64 si, .int .i64 oi] W fun e w' => e = .returned (.agg #[.int .i64 3, .int .i64 0, .int .i64 si, .int .i64 oi, .bool (E3.on si oi)]) ∧ Hid (EnGoes W.heap.size W p mo tp pre post M R ag (E3.turn si oi) w')) := fun W M R hk he => enTurn hk he (by omega) si oi
    obtain ⟨on, hon⟩ : ∃ on, on = E3.on si oi := ⟨_, rfl⟩
    have hX3 : X = ((if tu then E3.turn si oi else E3), (if tu then [⟨3, 0, si, oi, on⟩] else []) ++ (if wr then [⟨4, 0, si, oi, false⟩] else [])) := by rw [hX, hon]; rfl
    rw [← hon] at HTu
    have HX := Lib.hid hX3
    obtain ⟨i, hi, hz, hi1, hi2⟩ := infoK info_nt
    have HI := Lib.hid hi
    have HZ := Lib.hid hz
    have HI1 := Lib.hid hi1
    have HI2 := Lib.hid hi2
    clear hX hX3 hE2 hl2 hc2 hsi htv htu hwr hE3 hE3' hoi hvi hXX hl3 hon ha0 h6 k hcn hth hts hbd HTw hi hz hi1 hi2 hEt
    go_enter Tryz.func116, Tryz.ntmps116
    go_upto_region 1 with fail
    rw [HW0.out]
    clear HW0
    go_upto_region 2 with fail
    rw [HW1.out]
    clear HW1 c48 f48
    have s1 := (HS.out _ (Only.refl _ _)).1
    have s2 := (HS.out _ (Only.refl _ _)).2
    go_upto_region 4 with fail
    clear s1 s2
    apply twice1 (C := fun N W7 => Hid (HvAt w1 W7 N [.int .i64 si, .int .i64 tv, .bool tu, .bool wr] p mo tp pre post M R ag E2))
    case k =>
      intro key
      go_region_held3 (fun W => W.cell? ⟨w.heap.size, 1, none⟩ = some (.int .i64 vi) ∧ W.cell? ⟨w.heap.size, 2, none⟩ = some (.int .i64 oi))
        (first | exact HS.out _ (Only.refl _ _).drew | exact HS.out _ ((Only.refl _ _).alloc _).drew | exact HS.out _ ho5.out | exact HS.out _ (ho5.out.alloc _) | exact HS.out _ (HvAt.only (HE.out _ _ _ _) |>.mono (fun i hi => .inl (hi ▸ HK.out.mp))))
        (first
          | ((with_reducible show Calls _ _ _ (World.drew w1) _); refine (HTh.out _ (Only.refl _ _).drew).mono ?_; rintro e w5 ⟨rfl, h5⟩; have hp5 : Only (· = p) w1 w5 := (Only.refl (· = p) w1).drew.trans h5.out.2 (fun _ h => .inl h); have HE := Lib.hid (HvAt.first h5.out.1 hp5); have ho5 : Hid (Only M w1 w5) := hp5.mono (fun i hi => .inl (hi ▸ HK.out.mp)); clear h5 hp5)
          | ((with_reducible show Calls _ _ _ (World.drew (World.alloc _ _)) _); refine (HTh.out _ ((Only.refl _ _).alloc _).drew).mono ?_; rintro e w5 ⟨rfl, h5⟩; have hp5 : Only (· = p) w1 w5 := (((Only.refl (· = p) w1).alloc _).drew).trans h5.out.2 (fun _ h => .inl h); have hz := (Blk.new w1 309 [.int .i64 0, .int .i64 0, .bool false, .bool false]).drew.only h5.out.2 (fun e => by have := HK1.out.lt; omega); have z0 : w5.cell? ⟨w1.heap.size, 0, none⟩ = some (.int .i64 0) := hz.cell 0; have z1 : w5.cell? ⟨w1.heap.size, 1, none⟩ = some (.int .i64 0) := hz.cell 1; have z2 : w5.cell? ⟨w1.heap.size, 2, none⟩ = some (.bool false) := hz.cell 2; have z3 : w5.cell? ⟨w1.heap.size, 3, none⟩ = some (.bool false) := hz.cell 3; have f0 := hz.frozen 0; have f1 := hz.frozen 1; have f2 := hz.frozen 2; have f3 := hz.frozen 3; have HE := Lib.hid (HvAt.second h5.out.1 hp5 hz HK1.out.mlt HK1.out.rlt); have ho5 : Hid (Only M w1 w5) := hp5.mono (fun i hi => .inl (hi ▸ HK.out.mp)); clear h5 hz hp5))
      all_goals (first
        | (obtain ⟨W7, hW7⟩ : ∃ W7, W7 = w5.alloc (.cells #[.int .i64 si, .int .i64 tv, .bool tu, .bool wr] 309) := ⟨_, rfl⟩
           rw [← hW7]
           have H0 : Hid (HvAt w1 W7 w5.heap.size [.int .i64 si, .int .i64 tv, .bool tu, .bool wr] p mo tp pre post M R ag E2) := hW7 ▸ HE.out _ _ _ _
           obtain ⟨N, hN⟩ : ∃ N, N = w5.heap.size := ⟨_, rfl⟩
           rw [← hN] at H0 ⊢
           exact key N W7 H0)
        | (obtain ⟨W7, hW7⟩ : ∃ W7, W7 = ((((w5.setCell ⟨w1.heap.size, 0, none⟩ (.int .i64 si)).setCell ⟨w1.heap.size, 1, none⟩ (.int .i64 tv)).setCell ⟨w1.heap.size, 2, none⟩ (.bool tu)).setCell ⟨w1.heap.size, 3, none⟩ (.bool wr)) := ⟨_, rfl⟩
           rw [← hW7]
           have H0 : Hid (HvAt w1 W7 w1.heap.size [.int .i64 si, .int .i64 tv, .bool tu, .bool wr] p mo tp pre post M R ag E2) := hW7 ▸ HE.out _ _ _ _
           obtain ⟨N, hN⟩ : ∃ N, N = w1.heap.size := ⟨_, rfl⟩
           rw [← hN] at H0 ⊢
           exact key N W7 H0))
    case h =>
      intro N W7 H0
      have HK7 := Lib.hid H0.out.is
      have HO7 : Hid (Only M w1 W7) := H0.out.only.mono (fun i hi => .inl (hi ▸ HK.out.mp))
      have HNl : Hid (w1.heap.size ≤ N ∧ N < W7.heap.size) := ⟨H0.out.new, H0.out.box.lt⟩
      have HN7 : Hid (∀ (w8 : World) (M8 : Nat → Prop), Only M W7 w8 → (∀ i, M8 i → M i ∨ W7.heap.size ≤ i) → ∀ W, Only M8 w8 W → W.rangeAt N 0 [.int .i64 si, .int .i64 tv, .bool tu, .bool wr]) := fun w8 M8 hg hm W ho => by
        have h1 := HNl.out
        have h2 := HZ1.out
        refine range_of ((H0.out.box.only hg (fun hm' => ?_)).only ho (fun hm' => ?_))
        · have := HK.out.mlt _ hm'; omega
        · rcases hm _ hm' with h | h
          · have := HK.out.mlt _ h; omega
          · omega
      have n1 : W7.cell? ⟨N, 1, none⟩ = some (.int .i64 tv) := H0.out.box.cell 1
      have t7 := (HS.out _ HO7.out).2
      have HZ7 : Hid (w.heap.size ≤ W7.heap.size) := by have h1 := HO7.out.size; have h2 := HZ1.out; show _ ≤ _; omega
      clear H0
      have HGo : Hid (∀ w8 M8 R8 w', Goes W7.heap.size W7 M R w8 M8 R8 → ∀ E', EnGoes w8.heap.size w8 p mo tp pre post M8 R8 ag E' w' → EnGoes w.heap.size w p mo tp pre post M R ag E' w') := fun w8 M8 R8 w' g E' hh => by
        have hz1 := HZ1.out
        have h7 : Goes w.heap.size w M R W7 M R := ⟨HG.out.only.trans HO7.out (fun _ h => .inl h), fun _ h => .inl h, fun _ h => .inl h⟩
        have hz7 := HZ7.out
        have hg8 := g.only.size
        exact EnGoes.seq (h7.trans (g.low hz7) rfl) (Nat.le_refl _) hh (by omega)
      go_upto_region 9 with (go_at_call 66; (with_reducible refine (HSV.out _ _ _ HK7.out (HEs.out _ HO7.out)).mono ?_); rintro e w8 ⟨rfl, h8⟩; obtain ⟨M8, R8, k8, g8⟩ := h8.out; have HK8 := Lib.hid k8; have HG8 := Lib.hid g8; have HO8 : Hid (Only M w1 w8) := HO7.out.trans g8.only (fun _ h => .inl h); have HN8 : Hid (∀ W, Only M8 w8 W → W.rangeAt N 0 [.int .i64 si, .int .i64 tv, .bool tu, .bool wr]) := HN7.out w8 M8 g8.only g8.gm; have hb8 := HN8.out _ (Only.refl _ _); have n0 : w8.cell? ⟨N, 0, none⟩ = some (.int .i64 si) := hb8 0 _ rfl; have n2 : w8.cell? ⟨N, 2, none⟩ = some (.bool tu) := hb8 2 _ rfl; have n3 : w8.cell? ⟨N, 3, none⟩ = some (.bool wr) := hb8 3 _ rfl; have t2 := (HS.out _ HO8.out).2; have HZ8 : Hid (w.heap.size ≤ w8.heap.size) := (by have h1 := HZ7.out; have h2 := HG8.out.only.size; show _ ≤ _; omega); clear h8 k8 g8 hb8)
      obtain ⟨nv, hnv⟩ : ∃ nv, nv = Value.slice none 0 0 := ⟨_, rfl⟩
      have HNv := Lib.hid hnv
      have HNvO : Hid (∀ W B, World.ownsRow W B 87 5 nv 0 []) := fun W B => by rw [hnv]; exact own_nil _ _ _ _
      have HNvB : Hid (∀ i, ¬ nv.ownBlock = some i) := fun i hi => by rw [hnv] at hi; simp [Value.ownBlock] at hi
      have HNvD : Hid (∀ B W, ∃ A n c, nv = .slice A n c ∧ Src W A n [] ∧ (0 < n → ∀ ad, A = some ad → B ≤ ad.block)) := fun B W => by rw [hnv]; exact noDat B W
      have HNvN : Hid (∀ B W, ∃ A n c, nv = .slice A n c ∧ NtAt W A n [] ∧ n ≤ 3 ∧ (0 < n → ∀ ad, A = some ad → B ≤ ad.block)) := fun B W => by rw [hnv]; exact noNts B W
      rw [← hnv]
      clear hnv
      cases tu <;> cases wr
      · have hXr : X = (E3, []) := HX.out
        go_wp2
        go_ret2
        refine ⟨_, _, rfl, ?_⟩
        try rw [hXr]
        refine ⟨HGo.out _ _ _ _ HG8.out _ (EnGoes.still HK8.out (Only.refl _ _)), ?_, ?_⟩
        · first | exact noDat _ _ | exact HNvD.out _ _
        · first | exact noNts _ _ | exact HNvN.out _ _
      · have hXr : X = (E3, [⟨4, 0, si, oi, false⟩]) := HX.out
        go_wp2_with (first
          | ((with_reducible show wpList _ _ _ (⟨some 62, _, _, _, _, _⟩ :: _) _ _); refine step_append_own rfl (.tmp 55) (.tmp 61) 71 rfl w.heap.size 87 i _ 5 40 Tryz.underlying71 HI.out HZ.out HI1.out HI2.out rfl (by omega) nv 0 [] rfl (HNvO.out _ _) _ 1 1 [.int .i64 4, .int .i64 0, .int .i64 si, .int .i64 oi, .bool false] rfl rfl (fun _ => ⟨_, rfl, fun j u hj => by rw [at_add]; exact ((Blk.new' (n := w8.heap.size) w8 87 [.int .i64 4, .int .i64 0, .int .i64 si, .int .i64 oi, .bool false] rfl).cell j).trans hj⟩) (Nt.one ⟨4, 0, si, oi, false⟩) (by omega) (by omega) (by have := HZ8.out; simp; omega) ?_; intro A11 c11 w11 hq1 hq2 hq3; have HOw11 := Lib.hid hq3.out.1; have HO11 : Hid (Only (fun i => (nv).ownBlock = some i) w8 w11) := Only.grown ((Only.refl _ _).alloc _) hq3.out.2.1 (fun k hk => .inl hk); have HO11n : Hid (Only (fun _ => False) w8 w11) := HO11.out.mono (fun i hi => (HNvB.out i hi).elim); clear hq1 hq2 hq3))
        go_ret2
        refine ⟨_, _, rfl, ?_⟩
        try rw [hXr]
        refine ⟨EnGoes.then_ (HGo.out _ _ _ _ HG8.out _ (EnGoes.still HK8.out (Only.refl _ _))) HO11n.out, ?_, ⟨A11, _, c11, rfl, LsOf.of_own (cs := Nt.cs) (m := 5) (fun _ => rfl) (l := ([⟨4, 0, si, oi, false⟩] : List Nt)) HOw11.out rfl, by omega, fun h0 ad e => by obtain ⟨g, e', h1, _⟩ := own_at HOw11.out h0; rw [e'] at e; injection e with e; subst e; exact h1⟩⟩
        · first | exact noDat _ _ | exact HNvD.out _ _
      · have hXr : X = (E3.turn si oi, [⟨3, 0, si, oi, on⟩]) := HX.out
        go_wp2_with (first
          | (go_at_call 67; (with_reducible refine (HTu.out _ _ _ HK8.out (HEs.out _ HO8.out)).mono ?_); rintro e w9 ⟨rfl, h9⟩; obtain ⟨M9, R9, k9, g9⟩ := h9.out; have HK9 := Lib.hid k9; have HG9 := Lib.hid g9; have HO9 : Hid (Only M w1 w9) := HO8.out.trans g9.only (fun i hi => (HG8.out.gm i hi).imp id (fun h => by have := HO7.out.size; omega)); have hb9 := HN8.out _ g9.only; have HZ9 : Hid (w.heap.size ≤ w9.heap.size) := (by have h1 := HO9.out.size; have h2 := HZ1.out; show _ ≤ _; omega); clear h9 k9 g9)
          | ((with_reducible show wpList _ _ _ (⟨some 52, _, _, _, _, _⟩ :: _) _ _); refine step_append_own rfl (.tmp 44) (.tmp 51) 71 rfl w9.heap.size 87 i _ 5 40 Tryz.underlying71 HI.out HZ.out HI1.out HI2.out rfl (by omega) nv 0 [] rfl (HNvO.out _ _) _ 1 1 [.int .i64 3, .int .i64 0, .int .i64 si, .int .i64 oi, .bool on] rfl rfl (fun _ => ⟨_, rfl, fun j u hj => by rw [at_add]; exact ((Blk.new' (n := w9.heap.size) w9 87 [.int .i64 3, .int .i64 0, .int .i64 si, .int .i64 oi, .bool on] rfl).cell j).trans hj⟩) (Nt.one ⟨3, 0, si, oi, on⟩) (by omega) (by omega) (by simp) ?_; intro A10 c10 w10 hq1 hq2 hq3; have HOw10 := Lib.hid hq3.out.1; have HO10 : Hid (Only (fun i => (nv).ownBlock = some i) w9 w10) := Only.grown ((Only.refl _ _).alloc _) hq3.out.2.1 (fun k hk => .inl hk); have HO10n : Hid (Only (fun _ => False) w9 w10) := HO10.out.mono (fun i hi => (HNvB.out i hi).elim); have n10 : w10.cell? ⟨N, 0, none⟩ = some (.int .i64 si) := HO10n.out.cellv (hb9 0 _ rfl) (fun h => h); have n13 : w10.cell? ⟨N, 3, none⟩ = some (.bool false) := HO10n.out.cellv (hb9 3 _ rfl) (fun h => h); have t12 : w10.cell? ⟨w.heap.size, 2, none⟩ = some (.int .i64 oi) := (HS.out _ (HO9.out.trans HO10n.out (fun _ h => h.elim))).2; have HZ10 : Hid (w.heap.size ≤ w10.heap.size) := (by have h1 := HZ9.out; have h2 := HO10n.out.size; show _ ≤ _; omega); clear hq1 hq2 hq3))
        go_ret2
        refine ⟨_, _, rfl, ?_⟩
        try rw [hXr]
        refine ⟨EnGoes.then_ (HGo.out _ _ _ _ HG8.out _ ⟨_, _, HK9.out, HG9.out⟩) HO10n.out, ?_, ⟨A10, _, c10, rfl, LsOf.of_own (cs := Nt.cs) (m := 5) (fun _ => rfl) (l := ([⟨3, 0, si, oi, on⟩] : List Nt)) HOw10.out rfl, by omega, fun h0 ad e => by obtain ⟨g, e', h1, _⟩ := own_at HOw10.out h0; rw [e'] at e; injection e with e; subst e; (have h0 := HZ9.out; show w.heap.size ≤ g; omega)⟩⟩
        · first | exact noDat _ _ | exact HNvD.out _ _
      · have hXr : X = (E3.turn si oi, [⟨3, 0, si, oi, on⟩, ⟨4, 0, si, oi, false⟩]) := HX.out
        go_wp2_with (first
          | (go_at_call 67; (with_reducible refine (HTu.out _ _ _ HK8.out (HEs.out _ HO8.out)).mono ?_); rintro e w9 ⟨rfl, h9⟩; obtain ⟨M9, R9, k9, g9⟩ := h9.out; have HK9 := Lib.hid k9; have HG9 := Lib.hid g9; have HO9 : Hid (Only M w1 w9) := HO8.out.trans g9.only (fun i hi => (HG8.out.gm i hi).imp id (fun h => by have := HO7.out.size; omega)); have hb9 := HN8.out _ g9.only; have HZ9 : Hid (w.heap.size ≤ w9.heap.size) := (by have h1 := HO9.out.size; have h2 := HZ1.out; show _ ≤ _; omega); clear h9 k9 g9)
          | ((with_reducible show wpList _ _ _ (⟨some 52, _, _, _, _, _⟩ :: _) _ _); refine step_append_own rfl (.tmp 44) (.tmp 51) 71 rfl w9.heap.size 87 i _ 5 40 Tryz.underlying71 HI.out HZ.out HI1.out HI2.out rfl (by omega) nv 0 [] rfl (HNvO.out _ _) _ 1 1 [.int .i64 3, .int .i64 0, .int .i64 si, .int .i64 oi, .bool on] rfl rfl (fun _ => ⟨_, rfl, fun j u hj => by rw [at_add]; exact ((Blk.new' (n := w9.heap.size) w9 87 [.int .i64 3, .int .i64 0, .int .i64 si, .int .i64 oi, .bool on] rfl).cell j).trans hj⟩) (Nt.one ⟨3, 0, si, oi, on⟩) (by omega) (by omega) (by simp) ?_; intro A10 c10 w10 hq1 hq2 hq3; obtain ⟨nv2, hnv2⟩ : ∃ nv2, nv2 = Value.slice A10 (0 + 1) c10 := ⟨_, rfl⟩; rw [← hnv2] at hq3 ⊢; clear hnv2; have HOw10 := Lib.hid hq3.out.1; have HO10 : Hid (Only (fun i => (nv).ownBlock = some i) w9 w10) := Only.grown ((Only.refl _ _).alloc _) hq3.out.2.1 (fun k hk => .inl hk); have HO10n : Hid (Only (fun _ => False) w9 w10) := HO10.out.mono (fun i hi => (HNvB.out i hi).elim); have n10 : w10.cell? ⟨N, 0, none⟩ = some (.int .i64 si) := HO10n.out.cellv (hb9 0 _ rfl) (fun h => h); have n13 : w10.cell? ⟨N, 3, none⟩ = some (.bool true) := HO10n.out.cellv (hb9 3 _ rfl) (fun h => h); have t12 : w10.cell? ⟨w.heap.size, 2, none⟩ = some (.int .i64 oi) := (HS.out _ (HO9.out.trans HO10n.out (fun _ h => h.elim))).2; have HZ10 : Hid (w.heap.size ≤ w10.heap.size) := (by have h1 := HZ9.out; have h2 := HO10n.out.size; show _ ≤ _; omega); clear hq1 hq2 hq3)
          | ((with_reducible show wpList _ _ _ (⟨some 62, _, _, _, _, _⟩ :: _) _ _); refine step_append_own rfl (.tmp 55) (.tmp 61) 71 rfl w9.heap.size 87 i _ 5 40 Tryz.underlying71 HI.out HZ.out HI1.out HI2.out rfl (by omega) nv2 (0 + 1) ([] ++ [.int .i64 3, .int .i64 0, .int .i64 si, .int .i64 oi, .bool on]) rfl (own_same HOw10.out ((Only.refl _ _).alloc _)) _ 1 1 [.int .i64 4, .int .i64 0, .int .i64 si, .int .i64 oi, .bool false] rfl rfl (fun _ => ⟨_, rfl, fun j u hj => by rw [at_add]; exact ((Blk.new' (n := w10.heap.size) w10 87 [.int .i64 4, .int .i64 0, .int .i64 si, .int .i64 oi, .bool false] rfl).cell j).trans hj⟩) (Nt.one ⟨4, 0, si, oi, false⟩) (by omega) (by omega) (by have := HO10n.out.size; simp; omega) ?_; intro A11 c11 w11 hq1 hq2 hq3; have HOw11 := Lib.hid hq3.out.1; have HO11 : Hid (Only (fun i => (nv2).ownBlock = some i) w10 w11) := Only.grown ((Only.refl _ _).alloc _) hq3.out.2.1 (fun k hk => .inl hk); have HO11n : Hid (Only (fun _ => False) w9 w11) := HO10n.out.trans HO11.out (fun i hi => .inr (own_lt HOw10.out i hi).1); clear hq1 hq2 hq3))
        go_ret2
        refine ⟨_, _, rfl, ?_⟩
        try rw [hXr]
        refine ⟨EnGoes.then_ (HGo.out _ _ _ _ HG8.out _ ⟨_, _, HK9.out, HG9.out⟩) HO11n.out, ?_, ⟨A11, _, c11, rfl, LsOf.of_own (cs := Nt.cs) (m := 5) (fun _ => rfl) (l := ([⟨3, 0, si, oi, on⟩, ⟨4, 0, si, oi, false⟩] : List Nt)) HOw11.out rfl, by omega, fun h0 ad e => by obtain ⟨g, e', h1, _⟩ := own_at HOw11.out h0; rw [e'] at e; injection e with e; subst e; (have h0 := HZ9.out; show w.heap.size ≤ g; omega)⟩⟩
        · first | exact noDat _ _ | exact HNvD.out _ _
end
end Go.Proofs.YtbnfhklpobephaaGreatDoor
