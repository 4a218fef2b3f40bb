/- QstateRests: a side hears what the other one sent first. -/
import Derived.Test.YthfancfmmphakaaDoorQsSide
import Derived.Deep.RegionHeld3
namespace Go.Proofs.YthfancfmmphakaaDoor
open Go Go.RowKit
set_option maxRecDepth 100000
set_option maxHeartbeats 4000000

/-- The cells that are read ahead of hearing. -/
theorem hear_cells {w : World} {p q g off : Nat} {cp cq cur : List Value} {k0 k1 v2 v3 u2 b : Value} (hp : Blk w p 39 cp) (hq : Blk w q 39 cq) (hg : Blk w g 4 cur)
    (h0 : cp = [k0, k1, v2, v3]) (h1 : cq[2]? = some u2) (h2 : cur[off]? = some b) :
    ∀ W, Only (fun i => w.heap.size ≤ i) w W → W.cell? ⟨p, 0, none⟩ = some k0 ∧ W.cell? ⟨p, 1, none⟩ = some k1 ∧ W.cell? ⟨p, 3, none⟩ = some v3 ∧ W.cell? ⟨q, 2, none⟩ = some u2 ∧ W.cell? ⟨g, off, none⟩ = some b := fun W ho => by
  subst h0
  have l1 := hp.lt
  have l2 := hq.lt
  have l3 := hg.lt
  have e1 := hp.only ho (by omega)
  have e2 := hq.only ho (by omega)
  have e3 := hg.only ho (by omega)
  exact ⟨e1.cell 0, e1.cell 1, e1.cell 3, by rw [e2.cell, h1], by rw [e3.cell, h2]⟩

/-- Behind the call, the move's variable laid behind it, or ahead of it. -/
def FAt5 (w w' : World) (M : Nat) (cs : List Value) : Prop := Blk w' M 26 cs ∧ w.heap.size ≤ M ∧ Only (fun _ => False) w w'
theorem FAt5.first {w w5 : World} (ho : Only (fun _ => False) w.drew w5) : ∀ a b c d, FAt5 w (w5.alloc (.cells #[a, b, c, d] 26)) w5.heap.size [a, b, c, d] := fun a b c d =>
  ⟨Blk.new w5 _ [a, b, c, d], ho.size, (((Only.refl (fun _ => False) w).drew).trans ho (fun _ h => h.elim)).alloc _⟩
theorem FAt5.second {w w5 : World} (ho : Only (fun _ => False) (w.alloc (.cells mv0.toArray 26)).drew w5) (hz : Blk w5 w.heap.size 26 mv0) : ∀ a b c d, FAt5 w ((((w5.setCell ⟨w.heap.size, 0, none⟩ a).setCell ⟨w.heap.size, 1, none⟩ b).setCell ⟨w.heap.size, 2, none⟩ c).setCell ⟨w.heap.size, 3, none⟩ d) w.heap.size [a, b, c, d] := fun a b c d => by
  have h := ((((Only.refl (· = w.heap.size) w5).setCell (p := ⟨w.heap.size, 0, none⟩) (.inl rfl) a).setCell (p := ⟨w.heap.size, 1, none⟩) (.inl rfl) b).setCell (p := ⟨w.heap.size, 2, none⟩) (.inl rfl) c).setCell (p := ⟨w.heap.size, 3, none⟩) (.inl rfl) d
  exact ⟨(((hz.setCell 0 _).setCell 1 _).setCell 2 _).setCell 3 _, Nat.le_refl _, (((Only.refl (fun _ => False) w).alloc _).drew.trans ho (fun _ h => h.elim)).trans h (fun i hi => .inr (by omega))⟩

theorem SideAt.beside {w w' : World} {p q : Nat} {s : Qs} {l : List Bool} {ag : Bool} (h : SideAt w p s l ag) {cs : List Value} (hq : Blk w q 39 cs) (hne : p ≠ q) (ho : Only (· = q) w w') : SideAt w' p s l ag := by
  obtain ⟨A, n, c, h⟩ := h
  exact ⟨A, n, c, h.beside hq hne ho⟩
/-- Ahead of sending: what was heard is taken off. -/
theorem hear_mid {w W : World} {p q g off n1 c1 n2 c2 : Nat} {sx sy : Qs} {A1 D : Option Addr} {l1 l2 : List Bool} {ax ay b : Bool} (hx : SideV w p sx A1 n1 c1 l1 ax) (hy : SideV w q sy (some ⟨g, off, none⟩) n2 c2 (b :: l2) ay) (hpq : p ≠ q) (ho : Only (fun _ => False) w W)
    (hD : (if c2 = 1 then some (⟨g, off, none⟩ : Addr) else some ⟨g, off + 1, none⟩) = D) :
    SideV (W.setCell ⟨q, 2, none⟩ (.slice D (n2 - 1) (c2 - 1))) p sx A1 n1 c1 l1 ax ∧ SideAt (W.setCell ⟨q, 2, none⟩ (.slice D (n2 - 1) (c2 - 1))) q sy l2 ay ∧ Only (fun i => i = p ∨ i = q) w (W.setCell ⟨q, 2, none⟩ (.slice D (n2 - 1) (c2 - 1))) := by
  have h2 := (Only.refl (· = q) W).setCell (p := ⟨q, 2, none⟩) (.inl rfl) (.slice D (n2 - 1) (c2 - 1))
  have hx' := hx.same ho
  have hy' := hy.same ho
  have hl := hy.len
  have hc := hy.cap
  simp only [List.length_cons] at hl
  refine ⟨hx'.beside hy'.blk hpq h2, ⟨D, n2 - 1, c2 - 1, hy'.blk.setCell 2 _, by omega, by omega, fun hn => ?_⟩, (ho.mono (T := fun i => i = p ∨ i = q) (fun _ h => h.elim)).trans h2 (fun i hi => .inl (.inr hi))⟩
  obtain ⟨g', off', cur, e, hg, hj⟩ := hy'.row (by omega)
  injection e with e
  injection e with e1 e2
  subst e1 e2
  rw [if_neg (by omega)] at hD
  refine ⟨g, off + 1, cur, hD.symm, hg.only h2 (hg.ne hy'.blk (by decide)), fun j x hx => ?_⟩
  rw [show off + 1 + j = off + (j + 1) by omega]
  exact hj (j + 1) x (by simpa using hx)

theorem side_hear {w : World} (hT : QsW w) {p q : Nat} (hpq : p ≠ q) {sx sy : Qs} {ax ay b : Bool} {l1 l2 : List Bool} (hx : SideAt w p sx l1 ax) (hy : SideAt w q sy (b :: l2) ay) (hn : l1.length ≤ 1000) (hw : (hearQ sx b ax).2.2 = false) (hk : (hearQ sx b ax).2.1 ≤ 2) :
    Calls Tryd.prog 12 #[.pointer (some ⟨p, 0, none⟩), .pointer (some ⟨q, 0, none⟩)] w fun e w' =>
      e = .returned (.bool true) ∧ SideAt w' p (hearQ sx b ax).1 (l1 ++ sentQ (hearQ sx b ax).2.1) ax ∧ SideAt w' q sy l2 ay ∧ Only (fun i => i = p ∨ i = q) w w' := by
  obtain ⟨A1, n1, c1, hx⟩ := hx
  obtain ⟨A2, n2, c2, hy⟩ := hy
  have hl2 := hy.len
  have hn2 : 0 < n2 := by rw [← hl2]; simp
  have hc2 := hy.cap
  obtain ⟨g, off, cur, rfl, hg, hcur⟩ := hy.row hn2
  have hgq : g ≠ q := hg.ne hy.blk (by decide)
  have hgp : g ≠ p := hg.ne hx.blk (by decide)
  have hcell := Lib.hid (hear_cells hx.blk hy.blk hg rfl rfl (by have := hcur 0 b rfl; rwa [Nat.add_zero] at this))
  obtain ⟨m, hm⟩ : ∃ m, m = hearQ sx b ax := ⟨_, rfl⟩
  rw [← hm] at hw hk ⊢
  obtain ⟨ms, mk, mw⟩ := m
  simp only at hw hk ⊢
  subst hw
  have HH := fun W ho => (hear_some (hT.only ho) (sx.kind : Int) sx.opp b ax (qsOf_kind sx)).mono (R' := fun e w' => e = .returned (.tuple #[.agg #[.int .i64 (ms.kind : Int), .bool ms.opp, .int .i64 (mk : Int), .bool false], .nilIface]) ∧ Only (fun _ => False) W w') (fun e w' h => by unfold Moved hearC at h; rw [← hm] at h; exact h)
  obtain ⟨kx, hkx⟩ : ∃ kx, kx = (sx.kind : Int) := ⟨_, rfl⟩
  obtain ⟨ox, hox⟩ : ∃ ox, ox = sx.opp := ⟨_, rfl⟩
  rw [← hkx, ← hox] at HH
  have hcell' := hcell.out
  rw [← hkx, ← hox] at hcell'
  have HC := Lib.hid hcell'
  have HHr := Lib.hid HH
  obtain ⟨zk, hzk⟩ : ∃ zk, zk = (ms.kind : Int) := ⟨_, rfl⟩
  obtain ⟨zo, hzo⟩ : ∃ zo, zo = ms.opp := ⟨_, rfl⟩
  obtain ⟨zm, hzm⟩ : ∃ zm, zm = (mk : Int) := ⟨_, rfl⟩
  have HX := Lib.hid hx
  have HY := Lib.hid hy
  have hlp := hx.blk.lt
  have hlq := hy.blk.lt
  have hi1 : (0 : Int) < (n2 : Int) := by omega
  simp only [← hzk, ← hzo, ← hzm] at HH
  have HHr := Lib.hid HH
  have HZK := Lib.hid hzk
  have HZO := Lib.hid hzo
  have HZM := Lib.hid hzm
  have HM := Lib.hid hm
  have HT := Lib.hid hT
  have HG := Lib.hid hg
  have HCur := Lib.hid hcur
  have HL2 := Lib.hid hl2
  have HSend : Hid (∀ W, SideAt W p sx l1 ax → Calls Tryd.prog 11 #[.pointer (some ⟨p, 0, none⟩), .agg #[.int .i64 zk, .bool zo, .int .i64 zm, .bool false]] W fun e w' =>
      e = .returned (.tuple #[]) ∧ SideAt w' p ms (l1 ++ sentQ mk) ax ∧ Only (· = p) W w') := fun W h => by
    rw [hzk, hzo, hzm]
    exact send_any h hn ms mk false hk
  clear hkx hox hcell hcell' HH hzk hzo hzm hx hy hm hT hg hcur hl2
  go_enter Tryd.func12, Tryd.ntmps12
  go_wp2
  go_region_held3 (fun W => W.cell? ⟨p, 0, none⟩ = some (.int .i64 kx) ∧ W.cell? ⟨p, 1, none⟩ = some (.bool ox) ∧ W.cell? ⟨p, 3, none⟩ = some (.bool ax) ∧ W.cell? ⟨q, 2, none⟩ = some (.slice (some ⟨g, off, none⟩) n2 c2) ∧ W.cell? ⟨g, off, none⟩ = some (.bool b))
    (first | exact HC.out _ (Only.refl _ _).drew | exact HC.out _ ((Only.refl _ _).alloc _).drew | exact HC.out _ ho5.out | exact HC.out _ (ho5.out.alloc _) | exact HC.out _ ((((ho5.out.setCell (p := ⟨w.heap.size, 0, none⟩) (.inl (Nat.le_refl _)) _).setCell (p := ⟨w.heap.size, 1, none⟩) (.inl (Nat.le_refl _)) _).setCell (p := ⟨w.heap.size, 2, none⟩) (.inl (Nat.le_refl _)) _).setCell (p := ⟨w.heap.size, 3, none⟩) (.inl (Nat.le_refl _)) _))
    (first
      | ((with_reducible show Calls _ _ _ (World.drew w) _); refine (HHr.out _ (Only.refl _ _).drew).mono ?_; rintro e w5 ⟨rfl, ho⟩; have ho5 := Lib.hid (((Only.refl (fun i => w.heap.size ≤ i) w).drew).trans ho (fun _ h => h.elim)); have HE := Lib.hid (FAt5.first ho); clear ho)
      | ((with_reducible show Calls _ _ _ (World.drew (World.alloc _ _)) _); refine (HHr.out _ ((Only.refl _ _).alloc _).drew).mono ?_; rintro e w5 ⟨rfl, ho⟩; have ho5 := Lib.hid ((((Only.refl (fun i => w.heap.size ≤ i) w).alloc _).drew).trans ho (fun _ h => h.elim)); have hz := (Blk.new w 26 mv0).drew.only ho (fun h => h); have z0 : w5.cell? ⟨w.heap.size, 0, none⟩ = some (.int .i64 0) := hz.cell 0; have z1 : w5.cell? ⟨w.heap.size, 1, none⟩ = some (.bool false) := hz.cell 1; have z2 : w5.cell? ⟨w.heap.size, 2, none⟩ = some (.int .i64 0) := hz.cell 2; have z3 : w5.cell? ⟨w.heap.size, 3, none⟩ = some (.bool false) := hz.cell 3; have f0 := hz.frozen 0; have f1 := hz.frozen 1; have f2 := hz.frozen 2; have f3 := hz.frozen 3; have HE := Lib.hid (FAt5.second ho hz); clear ho hz))
  all_goals
    have hF := HE.out (.int .i64 zk) (.bool zo) (.int .i64 zm) (.bool false)
    obtain ⟨hB, hM, hO⟩ := hF
    have hS := HC.out _ (hO.mono (T := fun i => w.heap.size ≤ i) (fun _ h => h.elim))
    obtain ⟨_, _, _, s2, _⟩ := hS
    have f2 := (HY.out.blk.only hO (fun h => h)).frozen 2
    have m0 := fun u => (hB.far (p := ⟨q, 2, none⟩) (by show _ ≠ q; omega) u).cell 0
    have m1 := fun u => (hB.far (p := ⟨q, 2, none⟩) (by show _ ≠ q; omega) u).cell 1
    have m2 := fun u => (hB.far (p := ⟨q, 2, none⟩) (by show _ ≠ q; omega) u).cell 2
    have m3 := fun u => (hB.far (p := ⟨q, 2, none⟩) (by show _ ≠ q; omega) u).cell 3
    simp only [List.getElem?_cons_zero, List.getElem?_cons_succ] at m0 m1 m2 m3
    obtain ⟨D, hD⟩ : ∃ D, (if c2 = 1 then some (⟨g, off, none⟩ : Addr) else some ⟨g, off + 1, none⟩) = D := ⟨_, rfl⟩
    have HD := Lib.hid hD
    have hi2 : (1 : Int) ≤ (n2 : Int) := by omega
    have hi3 : (n2 : Int) ≤ (c2 : Int) := by omega
    have HB := Lib.hid hB
    have HO := Lib.hid hO
    clear hB hO
    have HMid := Lib.hid (hear_mid HX.out HY.out hpq HO.out HD.out)
    go_wp2_with (go_at_call 11; refine (HSend.out _ ⟨_, _, _, HMid.out.1⟩).mono ?_; rintro e w9 ⟨rfl, hs9, ho9⟩)
    go_ret
    obtain ⟨h1, h2, h3⟩ := HMid.out
    exact ⟨rfl, hs9, h2.beside h1.blk hpq.symm ho9, h3.trans ho9 (fun i hi => .inl (.inl hi))⟩
end Go.Proofs.YthfancfmmphakaaDoor
