/- TableRests: a side hears what the other one sent first. -/
import Derived.Test.YtpobglejobgmlaaDoorTbSide
import Derived.Deep.RegionHeld3
namespace Go.Proofs.YtpobglejobgmlaaDoor
open Go Go.RowKit
set_option maxRecDepth 100000
set_option maxHeartbeats 4000000

/-- A variable of what came of a verb, laid behind a call or ahead of it; between, the table in block p has turned. -/
structure HdAt (w w' : World) (p M : Nat) (cs : List Value) (ag : Nat → Nat → Bool) (T : Tb) : Prop where
  hd : Blk w' M 36 cs
  new : w.heap.size ≤ M
  only : Only (· = p) w w'
  tab : TbAt w' p ag T
theorem HdAt.first {w w5 : World} {p : Nat} {ag : Nat → Nat → Bool} {T : Tb} (ho : Only (· = p) w.drew w5) (ht : TbAt w5 p ag T) : ∀ a b c d, HdAt w (w5.alloc (.cells #[a, b, c, d] 36)) p w5.heap.size [a, b, c, d] ag T := fun a b c d =>
  ⟨Blk.new w5 _ [a, b, c, d], ho.size, (((Only.refl (· = p) w).drew).trans ho (fun _ h => .inl h)).alloc _, ht.same (alloc_only _)⟩
theorem HdAt.second {w w5 : World} {p : Nat} {ag : Nat → Nat → Bool} {T : Tb} (ho : Only (· = p) (w.alloc (.cells #[.int .i64 0, .int .i64 0, .bool false, .bool false] 36)).drew w5) (ht : TbAt w5 p ag T) (hp : p < w.heap.size) (hz : Blk w5 w.heap.size 36 [.int .i64 0, .int .i64 0, .bool false, .bool false]) : ∀ a b c d, HdAt w ((((w5.setCell ⟨w.heap.size, 0, none⟩ a).setCell ⟨w.heap.size, 1, none⟩ b).setCell ⟨w.heap.size, 2, none⟩ c).setCell ⟨w.heap.size, 3, none⟩ d) p w.heap.size [a, b, c, d] ag T := fun a b c d => by
  have h := ((((Only.refl (· = w.heap.size) w5).setCell (p := ⟨w.heap.size, 0, none⟩) (.inl rfl) a).setCell (p := ⟨w.heap.size, 1, none⟩) (.inl rfl) b).setCell (p := ⟨w.heap.size, 2, none⟩) (.inl rfl) c).setCell (p := ⟨w.heap.size, 3, none⟩) (.inl rfl) d
  exact ⟨(((hz.setCell 0 _).setCell 1 _).setCell 2 _).setCell 3 _, Nat.le_refl _, (((Only.refl (· = p) w).alloc _).drew.trans ho (fun _ h => .inl h)).trans h (fun i hi => .inr (by omega)), ht.only h (by omega)⟩

theorem tail_row {w W : World} {o p : Nat} {ag : Nat → Nat → Bool} {T : Tb} {g off n c : Nat} {D : Option Addr} {e : Nat × Nat} {l : List (Nat × Nat)} (h : SdV w o p ag T (some ⟨g, off, none⟩) n c (e :: l)) (ho : Only (fun _ => False) w W)
    (hD : (if c = 1 then some (⟨g, off, none⟩ : Addr) else some ⟨g, off + 2, none⟩) = D) : SdAt (W.setCell ⟨o, 1, none⟩ (.slice D (n - 1) (c - 1))) o p ag T l ∧ Only (· = o) w (W.setCell ⟨o, 1, none⟩ (.slice D (n - 1) (c - 1))) := by
  have h2 := (Only.refl (· = o) W).setCell (p := ⟨o, 1, none⟩) (.inl rfl) (.slice D (n - 1) (c - 1))
  have h' := h.same ho
  have hl := h.len
  have hc := h.cap
  simp only [List.length_cons] at hl
  refine ⟨⟨D, n - 1, c - 1, h'.blk.setCell 1 _, h'.tab.only h2 (h'.tab.ne h'.blk (by decide)).symm, by omega, by omega, fun hn => ?_⟩, (ho.mono (T := (· = o)) (fun _ h => h.elim)).trans h2 (fun i hi => .inl hi)⟩
  obtain ⟨g', off', cur, e, hg, hj⟩ := h'.row (by omega)
  injection e with e
  injection e with e1 e2
  subst e1 e2
  rw [if_neg (by omega)] at hD
  refine ⟨g, off + 2, cur, hD.symm, hg.only h2 (hg.ne h'.blk (by decide)), fun j u hu => ?_⟩
  rw [show off + 2 + j = off + (j + 2) by omega]
  exact hj (j + 2) u (by rw [pairsC_cons]; simpa using hu)

theorem side_hear {W0 w : World} (hT : TbW W0) (hO : Only (fun _ => False) W0 w) {s p o q : Nat} {ag ag' : Nat → Nat → Bool} {T U : Tb} {l1 l2 : List (Nat × Nat)} {v x : Nat} (hs : SdAt w s p ag T l1) (ho : SdAt w o q ag' U ((v, x) :: l2))
    (hso : s ≠ o) (hpq : p ≠ q) (hbs : W0.heap.size ≤ s) (hbo : W0.heap.size ≤ o) (hbp : W0.heap.size ≤ p) (hv : 251 ≤ v ∧ v ≤ 254) (hx : x < 256) (hn : l1.length ≤ 1000) (hts : T.sent ≤ 1000000) (hth : T.heard ≤ 1000000)
    (hw : (hearQ (T.st (sideV v) x) (forV v) (ag (sideV v) x)).2.2 = false) :
    Calls Tryd.prog 23 #[.pointer (some ⟨s, 0, none⟩), .pointer (some ⟨o, 0, none⟩)] w fun e w' =>
      e = .returned (.bool true) ∧ SdAt w' s p ag (T.hear ag v x).1 (l1 ++ sendV (sideV v) (hearQ (T.st (sideV v) x) (forV v) (ag (sideV v) x)).2.1 x) ∧ SdAt w' o q ag' U l2 ∧ Only (fun i => i = s ∨ i = o ∨ i = p) w w' := by
  obtain ⟨A1, n1, c1, hs⟩ := hs
  obtain ⟨A2, n2, c2, ho⟩ := ho
  have hl2 := ho.len
  have hn2 : 0 < n2 := by rw [← hl2]; simp
  have hc2 := ho.cap
  obtain ⟨g, off, cur, rfl, hg, hcur⟩ := ho.row hn2
  have hgo : g ≠ o := hg.ne ho.blk (by decide)
  have k0 : w.cell? ⟨o, 1, none⟩ = some (.slice (some ⟨g, off, none⟩) n2 c2) := ho.blk.cell 1
  have k0' : ∀ ob, (w.alloc ob).cell? ⟨o, 1, none⟩ = some (.slice (some ⟨g, off, none⟩) n2 c2) := fun ob => (ho.blk.alloc ob).cell 1
  have fo : ∀ ob, (w.alloc ob).frozen? ⟨o, 1, none⟩ = false := fun ob => (ho.blk.alloc ob).frozen 1
  have hrg : w.rangeAt g off [.int .i64 (v : Int), .int .i64 (x : Int)] := fun j u hj => by
    rw [hg.cell]
    refine hcur j u ?_
    rw [pairsC_cons]
    rcases j with _ | _ | j
    · exact hj
    · exact hj
    · simp at hj
  have HRg := Lib.hid hrg
  have HS := Lib.hid hs
  have HO := Lib.hid ho
  have HT := Lib.hid hT
  have HW0 := Lib.hid hO
  have hls := hs.blk.lt
  have hlo := ho.blk.lt
  have hi0 : (0 : Int) < (n2 : Int) := by omega
  have hi1 : (1 : Int) ≤ (n2 : Int) := by omega
  have hi3 : (n2 : Int) ≤ (c2 : Int) := by omega
  obtain ⟨D, hD⟩ : ∃ D, (if c2 = 1 then some (⟨g, off, none⟩ : Addr) else some ⟨g, off + 2, none⟩) = D := ⟨_, rfl⟩
  have HD := Lib.hid hD
  have hpo : o ≠ p := hs.tab.ne ho.blk (by decide)
  have hqs : s ≠ q := ho.tab.ne hs.blk (by decide)
  have hlp := hs.tab.lt
  obtain ⟨T', hT'⟩ : ∃ T', T' = (T.hear ag v x).1 := ⟨_, rfl⟩
  have HHr0 : ∀ W, TbW W → TbAt W p ag T → Calls Tryd.prog 8 #[.pointer (some ⟨p, 0, none⟩), .int .i64 (v : Int), .int .i64 (x : Int)] W fun e w' => e = .returned (.tuple #[heardV T ag v x, .nilIface]) ∧ TbAt w' p ag T' ∧ Only (· = p) W w' := fun W h1 h2 => by
    rw [hT']; exact thear_some h1 h2 hv hx hts hth
  have HSend0 : ∀ W, SdAt W s p ag T' l1 → Calls Tryd.prog 24 #[.pointer (some ⟨s, 0, none⟩), .int .i64 (toldV (sideV v) (hearQ (T.st (sideV v) x) (forV v) (ag (sideV v) x)).2.1 : Int), .int .i64 (x : Int)] W fun e w' => e = .returned (.tuple #[]) ∧ SdAt w' s p ag T' (l1 ++ sendV (sideV v) (hearQ (T.st (sideV v) x) (forV v) (ag (sideV v) x)).2.1 x) ∧ Only (· = s) W w' := fun W h =>
    send_any h _ _ x hn
  unfold heardV at HHr0
  simp only [hw] at HHr0
  obtain ⟨l3, hl3⟩ : ∃ l3, l3 = l1 ++ sendV (sideV v) (hearQ (T.st (sideV v) x) (forV v) (ag (sideV v) x)).2.1 x := ⟨_, rfl⟩
  rw [← hl3] at HSend0
  obtain ⟨tv, htv⟩ : ∃ tv, tv = (toldV (sideV v) (hearQ (T.st (sideV v) x) (forV v) (ag (sideV v) x)).2.1 : Int) := ⟨_, rfl⟩
  rw [← htv] at HHr0 HSend0
  obtain ⟨sv, hsv⟩ : ∃ sv, sv = (sideV v : Int) := ⟨_, rfl⟩
  rw [← hsv] at HHr0
  obtain ⟨tn, htn⟩ : ∃ tn, tn = turnedQ (hearQ (T.st (sideV v) x) (forV v) (ag (sideV v) x)).1 (T.st (sideV v) x) := ⟨_, rfl⟩
  rw [← htn] at HHr0
  rw [← hT', ← hl3]
  have HHr1 := Lib.hid HHr0
  have HSend := Lib.hid HSend0
  clear hrg hs ho hT hO hg hcur hl2 hgo hl3 htv hsv htn hT' HHr0 HSend0 hw hv hts hth
  go_enter Tryd.func23, Tryd.ntmps23
  go_wp2_with (first
    | ((with_reducible show wpList _ _ _ (⟨some 13, _, _, _, _, _⟩ :: _) _ _); refine wpList_load_mid rfl 100 _ rfl g off rfl [.int .i64 (v : Int), .int .i64 (x : Int)] _ HRg.out Tryd.underlying100 rfl (by kernel_rfl) ?_)
    | fail)
  obtain ⟨N, hN⟩ : ∃ N, N = w.heap.size := ⟨_, rfl⟩
  obtain ⟨W3, hW3⟩ : ∃ W3, W3 = (w.setCell ⟨o, 1, none⟩ (.slice D (n2 - 1) (c2 - 1))).alloc (.cells #[.int .i64 (v : Int), .int .i64 (x : Int)] 100) := ⟨_, rfl⟩
  have HTl : Hid (SdAt W3 o q ag' U l2 ∧ Only (· = o) w W3) := by rw [hW3]; have h := tail_row HO.out (Only.refl _ _) HD.out; exact ⟨h.1.same (alloc_only _), h.2.alloc _⟩
  have HV : Hid (Blk W3 N 100 [.int .i64 (v : Int), .int .i64 (x : Int)]) := by rw [hW3, hN]; exact Blk.new' _ _ [.int .i64 (v : Int), .int .i64 (x : Int)] (by simp)
  rw [← hN, ← hW3]
  have HS3 : Hid (SdV W3 s p ag T A1 n1 c1 l1) := HS.out.only HTl.out.2 hso (fun h => hpo h.symm) (fun g cur hg => hg.ne HO.out.blk (by decide))
  have HHr : Hid (∀ W, Only (fun _ => False) W3 W → Calls Tryd.prog 8 #[.pointer (some ⟨p, 0, none⟩), .int .i64 (v : Int), .int .i64 (x : Int)] W fun e w' => e = .returned (.tuple #[.agg #[.int .i64 sv, .int .i64 tv, .bool tn, .bool false], .nilIface]) ∧ TbAt w' p ag T' ∧ Only (· = p) W w') := fun W h =>
    HHr1.out W (HT.out.only ((HW0.out.trans HTl.out.2 (fun i hi => .inr (by omega))).trans h (fun _ h => h.elim))) (HS3.out.tab.same h)
  have hNp : N ≠ p := by omega
  have hsp : s ≠ p := HS3.out.tab.ne HS3.out.blk (by decide)
  have HK : Hid (∀ W, Only (· = p) W3 W → (W.cell? ⟨s, 0, none⟩ = some (.pointer (some ⟨p, 0, none⟩)) ∧ W.cell? ⟨N, 0, none⟩ = some (.int .i64 (v : Int))) ∧ W.cell? ⟨N, 1, none⟩ = some (.int .i64 (x : Int))) := fun W h =>
    ⟨⟨(HS3.out.blk.only h hsp).cell 0, (HV.out.only h hNp).cell 0⟩, (HV.out.only h hNp).cell 1⟩
  have hp3 : p < W3.heap.size := HS3.out.tab.lt
  clear hW3 hN k0 k0' fo
  apply twice1 (C := fun M W7 => Hid (HdAt W3 W7 p M [.int .i64 sv, .int .i64 tv, .bool tn, .bool false] ag T'))
  case k =>
    intro key
    go_region_held3 (fun W => (W.cell? ⟨s, 0, none⟩ = some (.pointer (some ⟨p, 0, none⟩)) ∧ W.cell? ⟨N, 0, none⟩ = some (.int .i64 (v : Int))) ∧ W.cell? ⟨N, 1, none⟩ = some (.int .i64 (x : Int)))
      (first | exact HK.out _ (Only.refl _ _).drew | exact HK.out _ ((Only.refl _ _).alloc _).drew | exact HK.out _ ho5.out | exact HK.out _ (ho5.out.alloc _) | exact HK.out _ (HdAt.only (HE.out _ _ _ _)))
      (first
        | ((with_reducible show Calls _ _ _ (World.drew W3) _); refine (HHr.out _ (Only.refl _ _).drew).mono ?_; rintro e w5 ⟨rfl, ht, ho⟩; have ho5 := Lib.hid (((Only.refl (· = p) W3).drew).trans ho (fun _ h => .inl h)); have HE := Lib.hid (HdAt.first ho ht); clear ho ht)
        | ((with_reducible show Calls _ _ _ (World.drew (World.alloc _ _)) _); refine (HHr.out _ ((Only.refl _ _).alloc _).drew).mono ?_; rintro e w5 ⟨rfl, ht, ho⟩; have ho5 := Lib.hid ((((Only.refl (· = p) W3).alloc _).drew).trans ho (fun _ h => .inl h)); have hz := (Blk.new W3 36 [.int .i64 0, .int .i64 0, .bool false, .bool false]).drew.only ho (by omega); have z0 : w5.cell? ⟨W3.heap.size, 0, none⟩ = some (.int .i64 0) := hz.cell 0; have z1 : w5.cell? ⟨W3.heap.size, 1, none⟩ = some (.int .i64 0) := hz.cell 1; have z2 : w5.cell? ⟨W3.heap.size, 2, none⟩ = some (.bool false) := hz.cell 2; have z3 : w5.cell? ⟨W3.heap.size, 3, none⟩ = some (.bool false) := hz.cell 3; have f0 := hz.frozen 0; have f1 := hz.frozen 1; have f2 := hz.frozen 2; have f3 := hz.frozen 3; have HE := Lib.hid (HdAt.second ho ht hp3 hz); clear ho hz ht))
    all_goals (first
      | (obtain ⟨W7, hW7⟩ : ∃ W7, W7 = w5.alloc (.cells #[.int .i64 sv, .int .i64 tv, .bool tn, .bool false] 36) := ⟨_, rfl⟩
         rw [← hW7]
         have H0 : Hid (HdAt W3 W7 p w5.heap.size [.int .i64 sv, .int .i64 tv, .bool tn, .bool false] ag T') := hW7 ▸ HE.out _ _ _ _
         obtain ⟨M, hM⟩ : ∃ M, M = w5.heap.size := ⟨_, rfl⟩
         rw [← hM] at H0 ⊢
         exact key M W7 H0)
      | (obtain ⟨W7, hW7⟩ : ∃ W7, W7 = ((((w5.setCell ⟨W3.heap.size, 0, none⟩ (.int .i64 sv)).setCell ⟨W3.heap.size, 1, none⟩ (.int .i64 tv)).setCell ⟨W3.heap.size, 2, none⟩ (.bool tn)).setCell ⟨W3.heap.size, 3, none⟩ (.bool false)) := ⟨_, rfl⟩
         rw [← hW7]
         have H0 : Hid (HdAt W3 W7 p W3.heap.size [.int .i64 sv, .int .i64 tv, .bool tn, .bool false] ag T') := hW7 ▸ HE.out _ _ _ _
         obtain ⟨M, hM⟩ : ∃ M, M = W3.heap.size := ⟨_, rfl⟩
         rw [← hM] at H0 ⊢
         exact key M W7 H0))
  case h =>
    intro M W7 H0
    have m1 := H0.out.hd.cell 1
    have m3 := H0.out.hd.cell 3
    have n1 := (HK.out _ H0.out.only).2
    simp only [List.getElem?_cons_zero, List.getElem?_cons_succ] at m1 m3
    have HS7 : Hid (SdAt W7 s p ag T' l1) := ⟨_, _, _, HS3.out.turn H0.out.tab H0.out.only⟩
    go_wp2_with (first
      | (go_at_call 24; refine (HSend.out _ HS7.out).mono ?_; rintro e w9 ⟨rfl, hs9, ho9⟩; have HS9 := Lib.hid hs9; have HO9 := Lib.hid ho9; clear hs9 ho9)
      | fail)
    go_ret
    have hq' : SdAt W7 o q ag' U l2 := HTl.out.1.only H0.out.only hpo (fun h => hpq h.symm) (fun g cur hg => HS3.out.tab.ne hg (by decide))
    obtain ⟨A7, n7, c7, h7⟩ := HS7.out
    refine ⟨rfl, HS9.out, hq'.only HO9.out (fun h => hso h.symm) (fun h => hqs h.symm) (fun g cur hg => hg.ne h7.blk (by decide)), ?_⟩
    exact ((HTl.out.2.mono (T := fun i => i = s ∨ i = o ∨ i = p) (fun _ h => .inl (.inr (.inl h)))).trans H0.out.only (fun _ h => .inl (.inr (.inr h)))).trans HO9.out (fun _ h => .inl (.inl h))
end Go.Proofs.YtpobglejobgmlaaDoor
