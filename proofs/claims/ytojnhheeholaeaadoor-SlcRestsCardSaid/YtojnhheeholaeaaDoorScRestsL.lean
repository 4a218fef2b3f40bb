/- SlcRests, walked. -/
import Derived.Test.YtojnhheeholaeaaDoorScAsk
import Derived.Test.YtojnhheeholaeaaDoorScAlive
import Derived.Test.YtojnhheeholaeaaDoorScOpen
import Derived.Test.YtojnhheeholaeaaDoorScWaits
import Derived.Test.YtojnhheeholaeaaDoorScHeard
namespace Go.Proofs.YtojnhheeholaeaaDoor
open Go Go.ChangeShapes Go.WideShapes Go.ChangeAt Go.RowKit
set_option maxRecDepth 100000
set_option maxHeartbeats 4000000

theorem size_act : (Tryd.prog.info? 36).map (·.size) = some 5 := by kernel_rfl
theorem ask_no {W : World} {es : List Addr} (hes : ErrsOf W [0, 4, 7, 9] es) {p : Nat} {S : Sd} (h : SdAt W p S) (f : Int) (x : Se) (hn : askN S f x ≠ 0) :
    Calls Tryd.prog 13 #[.pointer (some ⟨p, 0, none⟩), .int .i64 f, x.val] W fun e w' => ∃ a : Addr, e = .returned (.tuple #[Tr.zero.val, errV a]) ∧ SdAt w' p S ∧ Only (· = p) W w' := by
  refine (ask_any hes h f x).mono ?_
  rintro e w' ⟨E, hE, _, rfl, hs, ho⟩
  have e1 : askS S f x = (S, Tr.zero) := by unfold askS; rw [if_neg hn]
  rw [e1] at hs ⊢
  rcases hE with ⟨h0, _⟩ | ⟨i, a, _, _, rfl⟩
  · exact absurd h0 hn
  · exact ⟨a, rfl, hs, ho⟩

/-- Both sides and both rows, in memory. -/
structure JAt (w W : World) (p q : Nat) (A1 : Option Addr) (n1 c1 : Nat) (A2 : Option Addr) (n2 c2 : Nat) (C S : Sd) (L1 L2 : List Tr) : Prop where
  sc : SdAt W p C
  ss : SdAt W q S
  r1 : RowT W w.heap.size (.slice A1 n1 c1) L1
  r2 : RowT W w.heap.size (.slice A2 n2 c2) L2
  l1 : n1 = L1.length
  l2 : n2 = L2.length
  apart : ∀ k, (Value.slice A1 n1 c1).ownBlock = some k → (Value.slice A2 n2 c2).ownBlock ≠ some k
  only : Only (fun _ => False) w W
section
variable {w W W' : World} {p q : Nat} {A1 A2 : Option Addr} {n1 c1 n2 c2 : Nat} {C S : Sd} {L1 L2 : List Tr}
theorem JAt.same (h : JAt w W p q A1 n1 c1 A2 n2 c2 C S L1 L2) (ho : Only (fun _ => False) W W') : JAt w W' p q A1 n1 c1 A2 n2 c2 C S L1 L2 :=
  ⟨h.sc.same ho, h.ss.same ho, h.r1.same ho, h.r2.same ho, h.l1, h.l2, h.apart, h.only.trans ho (fun _ h => h.elim)⟩
/-- The other side has heard. -/
theorem JAt.srv {A1' A2' : Option Addr} {n1' c1' n2' c2' : Nat} {S' : Sd} {L1' L2' : List Tr} (h : JAt w W p q A1 n1 c1 A2 n2 c2 C S L1 L2) (hpq : p ≠ q) (hq : w.heap.size ≤ q) (ho : Only (· = q) W W') (hs : SdAt W' q S') (h1 : RowT W' w.heap.size (.slice A1' n1' c1') L1') (h2 : RowT W' w.heap.size (.slice A2' n2' c2') L2') (e1 : n1' = L1'.length) (e2 : n2' = L2'.length)
    (k1 : ∀ k, (Value.slice A1' n1' c1').ownBlock = some k → (Value.slice A1 n1 c1).ownBlock = some k) (k2 : ∀ k, (Value.slice A2' n2' c2').ownBlock = some k → (Value.slice A2 n2 c2).ownBlock = some k ∨ W.heap.size ≤ k) : JAt w W' p q A1' n1' c1' A2' n2' c2' C S' L1' L2' :=
  ⟨h.sc.only ho hpq, hs, h1, h2, e1, e2, fun k hk hk' => by
    have hk1 := k1 k hk
    rcases k2 k hk' with hh | hh
    · exact h.apart k hk1 hh
    · have := (RowAt.lt h.r1 k hk1).2
      omega, h.only.trans ho (fun i hi => .inr (by omega))⟩
/-- The one has heard. -/
theorem JAt.cli {A1' A2' : Option Addr} {n1' c1' n2' c2' : Nat} {C' : Sd} {L1' L2' : List Tr} (h : JAt w W p q A1 n1 c1 A2 n2 c2 C S L1 L2) (hpq : p ≠ q) (hp : w.heap.size ≤ p) (ho : Only (· = p) W W') (hs : SdAt W' p C') (h1 : RowT W' w.heap.size (.slice A1' n1' c1') L1') (h2 : RowT W' w.heap.size (.slice A2' n2' c2') L2') (e1 : n1' = L1'.length) (e2 : n2' = L2'.length)
    (k2 : ∀ k, (Value.slice A2' n2' c2').ownBlock = some k → (Value.slice A2 n2 c2).ownBlock = some k) (k1 : ∀ k, (Value.slice A1' n1' c1').ownBlock = some k → (Value.slice A1 n1 c1).ownBlock = some k ∨ W.heap.size ≤ k) : JAt w W' p q A1' n1' c1' A2' n2' c2' C' S L1' L2' :=
  ⟨hs, h.ss.only ho hpq.symm, h1, h2, e1, e2, fun k hk hk' => by
    have hk2 := k2 k hk'
    rcases k1 k hk with hh | hh
    · exact h.apart k hh hk2
    · have := (RowAt.lt h.r2 k hk2).2
      omega, h.only.trans ho (fun i hi => .inr (by omega))⟩
end

theorem JAt.row {w W : World} {p q : Nat} {A1 A2 : Option Addr} {n1 c1 n2 c2 : Nat} {C S : Sd} {L1 L2 : List Tr} (h : JAt w W p q A1 n1 c1 A2 n2 c2 C S L1 L2) : RowAt W w.heap.size 34 4 (.slice A1 n1 c1) n1 (csT L1) := by
  have := h.r1
  unfold RowT at this
  rw [← h.l1] at this
  exact this
theorem JAt.asked {w W W' : World} {p q : Nat} {A1 A2 : Option Addr} {n1 c1 n2 c2 : Nat} {C C' S : Sd} {L1 L2 : List Tr} (h : JAt w W p q A1 n1 c1 A2 n2 c2 C S L1 L2) (hpq : p ≠ q) (hp : w.heap.size ≤ p) (ho : Only (· = p) W W') (hs : SdAt W' p C') : JAt w W' p q A1 n1 c1 A2 n2 c2 C' S L1 L2 :=
  ⟨hs, h.ss.only ho hpq.symm, h.r1.beside h.sc ho, h.r2.beside h.sc ho, h.l1, h.l2, h.apart, h.only.trans ho (fun i hi => .inr (by omega))⟩

/-- What one calls 'heard' by: whatever the row. -/
theorem heard_srv {w W : World} {p q : Nat} {A1 A2 : Option Addr} {n1 c1 n2 c2 : Nat} {C S : Sd} {L1 L2 : List Tr} (h : JAt w W p q A1 n1 c1 A2 n2 c2 C S L1 L2) (hj : Joined C S L1 L2) (hpq : p ≠ q) (hq : w.heap.size ≤ q) (hb : wsum L1 + wsum L2 ≤ 1000) :
    Calls Tryd.prog 25 #[.pointer (some ⟨q, 0, none⟩), .slice A1 n1 c1, .slice A2 n2 c2] W fun e w' => ∃ A1' n1' c1' A2' n2' c2' S' L1' L2', e = .returned (.tuple #[.slice A1' n1' c1', .slice A2' n2' c2']) ∧
      JAt w w' p q A1' n1' c1' A2' n2' c2' C S' L1' L2' ∧ Joined C S' L1' L2' ∧ wsum L1' + wsum L2' + (if L1 = [] then 0 else 1) ≤ wsum L1 + wsum L2 ∧ (L1 = [] → L2' = L2) := by
  cases L1 with
  | nil =>
    obtain rfl : n1 = 0 := h.l1
    refine (heard_nil W q A1 A2 c1 n2 c2).mono ?_
    rintro e w' ⟨rfl, rfl⟩
    exact ⟨A1, 0, c1, A2, n2, c2, S, [], L2, rfl, h, hj, by simp, fun _ => rfl⟩
  | cons t L1 =>
    have hn := wsum_len L2
    refine (heard_some h.ss h.r1 h.r2 h.l1 h.l2 (by omega) h.only.size).mono ?_
    rintro e w' ⟨A1', c1', A2', n2', c2', rfl, hs, h1, e2, h2, k1, k2, ho⟩
    obtain ⟨g1, g2⟩ := hj.srv
    exact ⟨A1', L1.length, c1', A2', n2', c2', _, L1, _, rfl, h.srv hpq hq ho hs h1 h2 rfl e2 k1 k2, g1, by rw [if_neg (by simp)]; exact g2, fun h => by cases h⟩
theorem heard_cli {w W : World} {p q : Nat} {A1 A2 : Option Addr} {n1 c1 n2 c2 : Nat} {C S : Sd} {L1 L2 : List Tr} (h : JAt w W p q A1 n1 c1 A2 n2 c2 C S L1 L2) (hj : Joined C S L1 L2) (hpq : p ≠ q) (hp : w.heap.size ≤ p) (hb : wsum L1 + wsum L2 ≤ 1000) :
    Calls Tryd.prog 25 #[.pointer (some ⟨p, 0, none⟩), .slice A2 n2 c2, .slice A1 n1 c1] W fun e w' => ∃ A1' n1' c1' A2' n2' c2' C' L1' L2', e = .returned (.tuple #[.slice A2' n2' c2', .slice A1' n1' c1']) ∧
      JAt w w' p q A1' n1' c1' A2' n2' c2' C' S L1' L2' ∧ Joined C' S L1' L2' ∧ wsum L1' + wsum L2' + (if L2 = [] then 0 else 1) ≤ wsum L1 + wsum L2 := by
  cases L2 with
  | nil =>
    obtain rfl : n2 = 0 := h.l2
    refine (heard_nil W p A2 A1 c2 n1 c1).mono ?_
    rintro e w' ⟨rfl, rfl⟩
    exact ⟨A1, n1, c1, A2, 0, c2, C, L1, [], rfl, h, hj, by simp⟩
  | cons t L2 =>
    have hn := wsum_len L1
    refine (heard_some h.sc h.r2 h.r1 h.l2 h.l1 (by omega) h.only.size).mono ?_
    rintro e w' ⟨A2', c2', A1', n1', c1', rfl, hs, h2, e1, h1, k2, k1, ho⟩
    obtain ⟨g1, g2⟩ := hj.cli
    exact ⟨A1', n1', c1', A2', L2.length, c2', _, _, L2, rfl, h.cli hpq hp ho hs h1 h2 e1 rfl k2 k1, g1, by rw [if_neg (by simp)]; exact g2⟩
/-- A side whatever, its row of asked triples grown. -/
theorem JAt.told {w W W' : World} {p q : Nat} {A1 A2 A1' : Option Addr} {n1 c1 n2 c2 c1' : Nat} {C S : Sd} {L1 L2 : List Tr} {t : Tr} (h : JAt w W p q A1 n1 c1 A2 n2 c2 C S L1 L2)
    (h1 : RowAt W' w.heap.size 34 4 (.slice A1' (n1 + 1) c1') (n1 + 1) (csT L1 ++ t.cs)) (hg : W.grownBy W' (Value.slice A1 n1 c1).ownBlock) (k1 : ∀ k, (Value.slice A1' (n1 + 1) c1').ownBlock = some k → (Value.slice A1 n1 c1).ownBlock = some k ∨ W.heap.size ≤ k) : JAt w W' p q A1' (n1 + 1) c1' A2 n2 c2 C S (L1 ++ [t]) L2 := by
  have ho : Only (fun i => (Value.slice A1 n1 c1).ownBlock = some i) W W' := Only.grown (Only.refl _ _) hg (fun k hk => .inl hk)
  obtain ⟨cc, hcb, hcc⟩ := h.sc
  obtain ⟨cs, hsb, hsc⟩ := h.ss
  refine ⟨⟨cc, hcb.only ho (fun e => RowAt.ne h.r1 hcb (by decide) _ e rfl), hcc⟩, ⟨cs, hsb.only ho (fun e => RowAt.ne h.r1 hsb (by decide) _ e rfl), hsc⟩, ?_, RowAt.only h.r2 ho (fun k hk e => h.apart k e hk), ?_, h.l2, fun k hk hk' => ?_, h.only.trans ho (fun i hi => .inr (RowAt.lt h.r1 i hi).1)⟩
  · unfold RowT
    rw [csT_append, csT_one, List.length_append, List.length_singleton, ← h.l1]
    exact h1
  · rw [List.length_append, List.length_singleton, ← h.l1]
  · rcases k1 k hk with hh | hh
    · exact h.apart k hh hk'
    · have := (RowAt.lt h.r2 k hk').2
      omega
theorem rests_long (w : World) {A A' A'' : Option Addr} {n c m c' l c'' : Nat} (h : 40 < n ∨ 40 < m ∨ 60 < l) : Calls Tryd.prog 5 #[.slice A n c, .slice A' m c', .slice A'' l c''] w (Fine w) := by
  have HA := Lib.hid (fun W => sc_alive W)
  have hh : decide ((40 : Int) < (n : Int)) = true ∨ (decide ((40 : Int) < (n : Int)) = false ∧ decide ((40 : Int) < (m : Int)) = true) ∨ (decide ((40 : Int) < (n : Int)) = false ∧ decide ((40 : Int) < (m : Int)) = false ∧ decide ((60 : Int) < (l : Int)) = true) := by
    by_cases h1 : 40 < n
    · exact .inl (by simp; omega)
    · by_cases h2 : 40 < m
      · exact .inr (.inl ⟨by simp; omega, by simp; omega⟩)
      · exact .inr (.inr ⟨by simp; omega, by simp; omega, by simp; omega⟩)
  clear h
  rcases hh with hd | ⟨hd, hd2⟩ | ⟨hd, hd2, hd3⟩
  all_goals
    go_enter Tryd.func5, Tryd.ntmps5
    go_wp2_with (go_at_call 6; refine (HA.out _).mono ?_; rintro e w1 ⟨rfl, ho1⟩; have HO1 := Lib.hid ho1; clear ho1)
    go_ret
    exact ⟨rfl, HO1.out⟩

theorem RowT.zero {w : World} {B g : Nat} (h : Blk w g 34 []) (hB : B ≤ g) : RowT w B (.slice (some ⟨g, 0, none⟩) 0 0) [] :=
  ⟨rfl, .inr ⟨g, 0, 0, [], rfl, hB, h, Nat.le_refl _, by omega, by simp, fun j u hj => by simp [csT] at hj⟩⟩
theorem rests_ok (w : World) {es : List Addr} (hes : ErrsOf w [0, 4, 7, 9] es) {A A' A'' : Option Addr} {n c m c' l c'' : Nat} {l1 l2 : List Se} {acs : List Ac} (h1 : StAt w A n l1) (hn1 : n ≤ c) (hc1 : c ≤ 9223372036854775807) (h2 : StAt w A' m l2) (hn2 : m ≤ c') (hc2 : c' ≤ 9223372036854775807) (ha : AcAt w A'' l acs) (hn : n ≤ 40) (hm : m ≤ 40) (hl : l ≤ 60) :
    Calls Tryd.prog 5 #[.slice A n c, .slice A' m c', .slice A'' l c''] w (Fine w) := by
  have HA := Lib.hid (fun W => sc_alive W)
  have HN1 : Hid (∀ W, Only (fun _ => False) w W → Calls Tryd.prog 7 #[.slice A n c] W fun e w' => ∃ p, e = .returned (.pointer (some ⟨p, 0, none⟩)) ∧ SdAt w' p (newS l1) ∧ W.heap.size ≤ p ∧ Only (fun _ => False) W w') := fun W ho => new_any (h1.same ho) hn1 hc1
  have HN2 : Hid (∀ W, Only (fun _ => False) w W → Calls Tryd.prog 7 #[.slice A' m c'] W fun e w' => ∃ p, e = .returned (.pointer (some ⟨p, 0, none⟩)) ∧ SdAt w' p (newS l2) ∧ W.heap.size ≤ p ∧ Only (fun _ => False) W w') := fun W ho => new_any (h2.same ho) hn2 hc2
  have HAc := Lib.hid ha
  have HE := Lib.hid hes
  have hd : decide ((40 : Int) < (n : Int)) = false := by simp; omega
  have hd2 : decide ((40 : Int) < (m : Int)) = false := by simp; omega
  have hd3 : decide ((60 : Int) < (l : Int)) = false := by simp; omega
  have HJ := Lib.hid (new_joined l1 l2)
  clear h1 h2 ha hes
  go_enter Tryd.func5, Tryd.ntmps5
  go_wp2_with (first
    | (go_at_call 6; refine (HA.out _).mono ?_; rintro e w1 ⟨rfl, ho1⟩; have HO1 := Lib.hid ho1; clear ho1)
    | ((with_reducible show Calls _ 7 _ w1 _); refine (HN1.out _ HO1.out).mono ?_; rintro e w2 ⟨p, rfl, hs2, hp2, ho2⟩; have HS2 := Lib.hid hs2; have HP2 : Hid (w1.heap.size ≤ p) := hp2; have HO2 : Hid (Only (fun _ => False) w w2) := HO1.out.trans ho2 (fun _ h => h.elim); clear hs2 hp2 ho2)
    | ((with_reducible show Calls _ 7 _ w2 _); refine (HN2.out _ HO2.out).mono ?_; rintro e w3 ⟨q, rfl, hs3, hp3, ho3⟩; have HS3 := Lib.hid hs3; have HP3 : Hid (w2.heap.size ≤ q) := hp3; have HC3 := Lib.hid (HS2.out.same ho3); have HO3 : Hid (Only (fun _ => False) w w3) := HO2.out.trans ho3 (fun _ h => h.elim); clear hs3 hp3 ho3)
    | fail)
  have hpl := HS2.out.lt
  have hql := HS3.out.lt
  have hpq : p ≠ q := by have := HP3.out; omega
  have HPw : Hid (w.heap.size ≤ p) := Nat.le_trans HO1.out.size HP2.out
  have HQw : Hid (w.heap.size ≤ q) := Nat.le_trans HO2.out.size HP3.out
  have HJ0 : Hid (JAt w ((w3.alloc (.cells #[] 34)).alloc (.cells #[] 34)) p q (some ⟨w3.heap.size, 0, none⟩) 0 0 (some ⟨w3.heap.size + 1, 0, none⟩) 0 0 (newS l1) (newS l2) [] []) := by
    have hsz := HO3.out.size
    refine ⟨HC3.out.same (((Only.refl _ _).alloc _).alloc _), HS3.out.same (((Only.refl _ _).alloc _).alloc _), RowT.zero ((Blk.new w3 _ []).alloc _) hsz, RowT.zero (Blk.new' _ _ [] (by simp)) (by omega), rfl, rfl, fun k hk hk' => ?_, (HO3.out.alloc _).alloc _⟩
    simp [Value.ownBlock] at hk hk'
    omega
  obtain ⟨N1, hN1⟩ : ∃ N, N = (some (⟨w3.heap.size, 0, none⟩ : Addr)) := ⟨_, rfl⟩
  obtain ⟨N2, hN2⟩ : ∃ N, N = (some (⟨w3.heap.size + 1, 0, none⟩ : Addr)) := ⟨_, rfl⟩
  rw [← hN1, ← hN2] at HJ0
  generalize (w3.alloc (.cells #[] 34)).alloc (.cells #[] 34) = w4 at *
  rw [← hN1, ← hN2]
  clear hN1 hN2 hpl hql HS2 HS3 HC3 HP2 HP3 HO1 HO2 HO3 HA HN1 HN2
  go_loopw [9, 10, 46] (fun a b i W => ∃ (k : Nat) (A1 : Option Addr) (n1 c1 : Nat) (A2 : Option Addr) (n2 c2 : Nat), k ≤ l ∧ a = .slice A1 n1 c1 ∧ b = .slice A2 n2 c2 ∧ i = .int .i64 (k : Int) ∧ Hid (∃ C S L1 L2, JAt w W p q A1 n1 c1 A2 n2 c2 C S L1 L2 ∧ Joined C S L1 L2 ∧ wsum L1 + wsum L2 ≤ 5 * k)) (fun _ _ i _ => l - (intOf i).toNat)
  case atStart => exact ⟨0, N1, 0, 0, N2, 0, 0, Nat.zero_le _, rfl, rfl, rfl, newS l1, newS l2, [], [], HJ0.out, HJ.out, Nat.le_refl _⟩
  case round =>
    obtain ⟨k, A1, n1, c1, A2, n2, c2, hk, rfl, rfl, rfl, hrel⟩ := hrel
    obtain ⟨C, S, L1, L2, hj, hjo, hw⟩ := hrel.out
    have HJr := Lib.hid hj
    have HJo := Lib.hid hjo
    have HW := Lib.hid hw
    clear hrel hj hjo hw HJ0 HJ
    by_cases hlt : k < l
    · have hlt2 : (k : Int) < (l : Int) := by omega
      obtain ⟨x, hx⟩ : ∃ x, acs[k]? = some x := ⟨_, List.getElem?_eq_getElem (by rw [HAc.out.1]; exact hlt)⟩
      obtain ⟨b, off, rfl, hbl, hrg⟩ := (HAc.out.same HJr.out.only).2 k x hx
      have HRg := Lib.hid hrg
      obtain ⟨ak, af, ⟨al, av⟩, aa⟩ := x
      clear hrg hx
      by_cases hk1 : ak = 1
      · subst hk1
        by_cases han : askN C af ⟨al, av⟩ = 0
        · have HAk := Lib.hid (fun W (h : SdAt W p C) => ask_ok h af ⟨al, av⟩ han)
          obtain ⟨gj, gw⟩ := HJo.out.ask han
          have HGj := Lib.hid gj
          have HGw := Lib.hid gw
          have hn1b : n1 ≤ 300 := by
            have h1 := wsum_len L1
            have h2 := HW.out
            have h3 := HJr.out.l1
            omega
          obtain ⟨i, hi, hz, h1, h2⟩ := infoK info_tri
          have HI := Lib.hid hi
          have HZ := Lib.hid hz
          have HI1 := Lib.hid h1
          have HI2 := Lib.hid h2
          clear han gj gw hi hz h1 h2
          go_wp2_with (first
            | ((with_reducible show wpList _ _ _ (⟨some 49, _, _, _, _, _⟩ :: _) _ _); refine wpList_load_mid rfl 36 _ rfl b (off + k * 5) rfl (Ac.cs ⟨1, ⟨af, ⟨al, av⟩, aa⟩⟩) _ HRg.out Tryd.underlying36 rfl size_act ?_)
            | (go_at_call 13; refine (HAk.out _ (HJr.out.sc.same ((Only.refl _ _).alloc _))).mono ?_; rintro e w5 ⟨rfl, hs5, ho5⟩; have HJ5 := Lib.hid ((HJr.out.asked hpq HPw.out (((Only.refl _ _).alloc _).trans ho5 (fun i hi => .inl hi)) hs5).same (((Only.refl _ _).alloc (.cells #[.int .i64 af, .int .i64 al, .int .i64 av, .bool false] 34)).alloc (.cells #[.int .i64 af, .int .i64 al, .int .i64 av, .bool false] 34))); clear hs5 ho5)
            | ((with_reducible show wpList _ _ _ (⟨some 77, _, _, _, _, _⟩ :: _) _ _); refine step_append_row rfl (.tmp 74) (.tmp 76) 61 rfl w.heap.size 34 i _ 4 32 Tryd.underlying61 HI.out HZ.out HI1.out HI2.out rfl (by omega) (.slice A1 n1 c1) n1 (csT L1) rfl HJ5.out.row ⟨w5.heap.size + 1, 0, none⟩ 1 1 (Tr.cs ⟨af, ⟨al, av⟩, false⟩) rfl rfl (fun j u hj => by rw [at_add]; exact ((Blk.new' _ _ (Tr.cs ⟨af, ⟨al, av⟩, false⟩) (by simp)).cell j).trans hj) (Tr.cs_one _) (by omega) (by omega) HJ5.out.only.size ?_; intro A7 c7 w7 hq1 hq2 hq3; have HJ7 := Lib.hid (HJ5.out.told hq3.out.1 hq3.out.2.1 hq3.out.2.2); clear hq1 hq2 hq3)
            | fail)
          go_roundw
          case rel => exact ⟨k + 1, A7, n1 + 1, c7, A2, n2, c2, by omega, rfl, rfl, by go_num, _, S, _, L2, HJ7.out, HGj.out, by have := HW.out; have := HGw.out; omega⟩
          case measure => simp [intOf]; omega
        · have HAk := Lib.hid (fun W (he : ErrsOf W [0, 4, 7, 9] es) (h : SdAt W p C) => ask_no he h af ⟨al, av⟩ han)
          clear han
          unfold errV at HAk
          go_wp2_with (first
            | ((with_reducible show wpList _ _ _ (⟨some 49, _, _, _, _, _⟩ :: _) _ _); refine wpList_load_mid rfl 36 _ rfl b (off + k * 5) rfl (Ac.cs ⟨1, ⟨af, ⟨al, av⟩, aa⟩⟩) _ HRg.out Tryd.underlying36 rfl size_act ?_)
            | (go_at_call 13; refine (HAk.out _ (HE.out.only (HJr.out.only.alloc _)) (HJr.out.sc.same ((Only.refl _ _).alloc _))).mono ?_; rintro e w5 ⟨ea, rfl, hs5, ho5⟩; have HJ5 := Lib.hid ((HJr.out.asked hpq HPw.out (((Only.refl _ _).alloc _).trans ho5 (fun i hi => .inl hi)) hs5).same ((Only.refl _ _).alloc (.cells #[.int .i64 Tr.zero.f, .int .i64 Tr.zero.x.l, .int .i64 Tr.zero.x.v, .bool Tr.zero.ack] 34))); clear hs5 ho5)
            | fail)
          go_roundw
          case rel => exact ⟨k + 1, A1, n1, c1, A2, n2, c2, by omega, rfl, rfl, by go_num, C, S, L1, L2, HJ5.out, HJo.out, by have := HW.out; omega⟩
          case measure => simp [intOf]; omega
      · have hk2 : (ak == 1) = false := by simp [hk1]
        clear hk1
        have hwb : wsum L1 + wsum L2 ≤ 1000 := by have := HW.out; omega
        have HHs := Lib.hid (fun W (h : JAt w W p q A1 n1 c1 A2 n2 c2 C S L1 L2) => heard_srv h HJo.out hpq HQw.out hwb)
        have HHc := Lib.hid (fun W (h : JAt w W p q A1 n1 c1 A2 n2 c2 C S L1 L2) => heard_cli h HJo.out hpq HPw.out hwb)
        cases aa
        · go_wp2_with (first
            | ((with_reducible show wpList _ _ _ (⟨some 49, _, _, _, _, _⟩ :: _) _ _); refine wpList_load_mid rfl 36 _ rfl b (off + k * 5) rfl (Ac.cs ⟨ak, ⟨af, ⟨al, av⟩, false⟩⟩) _ HRg.out Tryd.underlying36 rfl size_act ?_)
            | (go_at_call 25; refine (HHc.out _ (HJr.out.same ((Only.refl _ _).alloc _))).mono ?_; rintro e w5 ⟨A1', n1', c1', A2', n2', c2', C', L1', L2', rfl, hj5, hjo5, hw5⟩; have HJ5 := Lib.hid hj5; have HJo5 := Lib.hid hjo5; have HW5 := Lib.hid hw5; clear hj5 hjo5 hw5)
            | fail)
          go_roundw
          case rel => exact ⟨k + 1, A1', n1', c1', A2', n2', c2', by omega, rfl, rfl, by go_num, C', S, L1', L2', HJ5.out, HJo5.out, by have := HW.out; have := HW5.out; omega⟩
          case measure => simp [intOf]; omega
        · go_wp2_with (first
            | ((with_reducible show wpList _ _ _ (⟨some 49, _, _, _, _, _⟩ :: _) _ _); refine wpList_load_mid rfl 36 _ rfl b (off + k * 5) rfl (Ac.cs ⟨ak, ⟨af, ⟨al, av⟩, true⟩⟩) _ HRg.out Tryd.underlying36 rfl size_act ?_)
            | (go_at_call 25; refine (HHs.out _ (HJr.out.same ((Only.refl _ _).alloc _))).mono ?_; rintro e w5 ⟨A1', n1', c1', A2', n2', c2', S', L1', L2', rfl, hj5, hjo5, hw5, _⟩; have HJ5 := Lib.hid hj5; have HJo5 := Lib.hid hjo5; have HW5 := Lib.hid hw5; clear hj5 hjo5 hw5)
            | fail)
          go_roundw
          case rel => exact ⟨k + 1, A1', n1', c1', A2', n2', c2', by omega, rfl, rfl, by go_num, C, S', L1', L2', HJ5.out, HJo5.out, by have := HW.out; have := HW5.out; omega⟩
          case measure => simp [intOf]; omega
    · obtain rfl : k = l := by omega
      clear hlt
      go_wp2
      go_loopw [9, 10, 15] (fun a b i W => ∃ (τ : Nat) (A1 : Option Addr) (n1 c1 : Nat) (A2 : Option Addr) (n2 c2 : Nat), τ ≤ 5 * k ∧ a = .slice A1 n1 c1 ∧ b = .slice A2 n2 c2 ∧ i = .int .i64 (τ : Int) ∧ Hid (∃ C S L1 L2, JAt w W p q A1 n1 c1 A2 n2 c2 C S L1 L2 ∧ Joined C S L1 L2 ∧ wsum L1 + wsum L2 + τ ≤ 5 * k)) (fun _ _ i _ => 5 * k - (intOf i).toNat)
      case atStart => exact ⟨0, A1, n1, c1, A2, n2, c2, Nat.zero_le _, rfl, rfl, rfl, C, S, L1, L2, HJr.out, HJo.out, HW.out⟩
      case round =>
        clear HJr HJo HW
        obtain ⟨τ, A1, n1, c1, A2, n2, c2, hτ, rfl, rfl, rfl, hrel⟩ := hrel
        obtain ⟨C, S, L1, L2, hj, hjo, hw⟩ := hrel.out
        have hb1 : n1 ≤ 300 := by have := wsum_len L1; have := hj.l1; omega
        have hb2 : n2 ≤ 300 := by have := wsum_len L2; have := hj.l2; omega
        have hwb : wsum L1 + wsum L2 ≤ 1000 := by omega
        have HJr := Lib.hid hj
        have HJo := Lib.hid hjo
        have HW := Lib.hid hw
        clear hrel hj hjo hw
        by_cases hz : 0 < n1 + n2
        · have hz2 : (0 : Int) < (n1 : Int) + (n2 : Int) := by omega
          have hτ2 : (τ : Int) ≤ 12 * (k : Int) + 12 := by omega
          have hne : L1 ≠ [] ∨ L2 ≠ [] := by
            have h1 := HJr.out.l1
            have h2 := HJr.out.l2
            cases L1 with
            | nil =>
              cases L2 with
              | nil => simp at h1 h2; omega
              | cons _ _ => exact .inr (by simp)
            | cons _ _ => exact .inl (by simp)
          have HNe := Lib.hid hne
          have HHs := Lib.hid (fun W (h : JAt w W p q A1 n1 c1 A2 n2 c2 C S L1 L2) => heard_srv h HJo.out hpq HQw.out hwb)
          clear hne hz
          go_wp2_with (first
            | ((with_reducible show Calls _ 25 _ wr _); refine (HHs.out _ HJr.out).mono ?_; rintro e w5 ⟨B1, m1, d1, B2, m2, d2, S', M1, M2, rfl, hj5, hjo5, hw5, he5⟩; have HJ5 := Lib.hid hj5; have HJo5 := Lib.hid hjo5; have HW5 := Lib.hid hw5; have HE5 := Lib.hid he5; clear hj5 hjo5 hw5 he5)
            | ((with_reducible show Calls _ 25 _ w5 _); refine (heard_cli HJ5.out HJo5.out hpq HPw.out (by have := HW5.out; omega)).mono ?_; rintro e w6 ⟨D1, o1, e1, D2, o2, e2, C', O1, O2, rfl, hj6, hjo6, hw6⟩; have HJ6 := Lib.hid hj6; have HJo6 := Lib.hid hjo6; have HW6 := Lib.hid hw6; clear hj6 hjo6 hw6)
            | fail)
          have hdec : wsum O1 + wsum O2 + 1 ≤ wsum L1 + wsum L2 := by
            have h5 := HW5.out
            have h6 := HW6.out
            by_cases h1 : L1 = []
            · have h2 : L2 ≠ [] := by
                rcases HNe.out with h | h
                · exact absurd h1 h
                · exact h
              rw [HE5.out h1, if_neg h2] at h6
              rw [if_pos h1, HE5.out h1] at h5
              omega
            · rw [if_neg h1] at h5
              omega
          have HDec := Lib.hid hdec
          clear hdec
          go_roundw
          case rel => exact ⟨τ + 1, D1, o1, e1, D2, o2, e2, by have := HDec.out; have := HW.out; omega, rfl, rfl, by go_num, C', S', O1, O2, HJ6.out, HJo6.out, by have := HDec.out; have := HW.out; omega⟩
          case measure =>
            have := HDec.out
            have := HW.out
            simp [intOf]
            omega
        · obtain rfl : n1 = 0 := by omega
          obtain rfl : n2 = 0 := by omega
          have e1 : L1 = [] := List.eq_nil_of_length_eq_zero HJr.out.l1.symm
          have e2 : L2 = [] := List.eq_nil_of_length_eq_zero HJr.out.l2.symm
          subst e1 e2
          obtain ⟨hh, hw1, hw2⟩ := HJo.out.rest
          have HHh := Lib.hid hh
          have HWc : Hid (∀ W, Only (fun _ => False) wr W → Calls Tryd.prog 17 #[.pointer (some ⟨p, 0, none⟩)] W fun e w' => e = .returned (.int .i64 0) ∧ Only (fun _ => False) W w') := fun W ho => by
            have := waits_any (HJr.out.sc.same ho)
            rwa [hw1] at this
          have HWs : Hid (∀ W, Only (fun _ => False) wr W → Calls Tryd.prog 17 #[.pointer (some ⟨q, 0, none⟩)] W fun e w' => e = .returned (.int .i64 0) ∧ Only (fun _ => False) W w') := fun W ho => by
            have := waits_any (HJr.out.ss.same ho)
            rwa [hw2] at this
          clear hz hh hw1 hw2
          go_wp2
          go_loopw [118] (fun i W => ∃ j : Nat, j ≤ 18 ∧ i = .int .i64 (j : Int) ∧ Hid (Only (fun _ => False) wr W)) (fun i _ => 18 - (intOf i).toNat)
          case atStart => exact ⟨0, Nat.zero_le _, rfl, Only.refl _ _⟩
          case round =>
            obtain ⟨j, hj, rfl, hrel⟩ := hrel
            have HRel := Lib.hid hrel.out
            clear hrel
            by_cases hlt : j < 18
            · have hlt2 : (j : Int) < 18 := by omega
              obtain ⟨⟨hv, hx⟩, hhv⟩ : ∃ x, x = hasS C ((j : Int) + 1) := ⟨_, rfl⟩
              have HP1 := Lib.hid (has_any (HJr.out.sc.same HRel.out) ((j : Int) + 1))
              have HQ1 : Hid (∀ W, Only (fun _ => False) wr W → Calls Tryd.prog 16 #[.pointer (some ⟨q, 0, none⟩), .int .i64 ((j : Int) + 1)] W fun e w' => e = .returned (Se.val ⟨hv, hx⟩) ∧ Only (fun _ => False) W w') := fun W ho => by
                have := has_any ((HJr.out.ss.same HRel.out).same ho) ((j : Int) + 1)
                rwa [← HHh.out, ← hhv] at this
              rw [← hhv] at HP1
              have heq : ∀ W, _ := fun W => same_set W hv hx
              have hgr := guard_set
              clear hhv
              go_wp2_with (first
                | ((with_reducible show Calls _ 16 _ wr _); refine HP1.out.mono ?_; rintro e w7 ⟨rfl, ho7⟩; have HO7 := Lib.hid ho7; clear ho7)
                | ((with_reducible show Calls _ 16 _ w7 _); refine (HQ1.out _ HO7.out).mono ?_; rintro e w8 ⟨rfl, ho8⟩; have HO8 : Hid (Only (fun _ => False) wr w8) := HO7.out.trans ho8 (fun _ h => h.elim); clear ho8)
                | fail)
              go_roundw
              case rel => exact ⟨j + 1, by omega, by go_num, HRel.out.trans HO8.out (fun _ h => h.elim)⟩
              case measure => simp [intOf]; omega
            · obtain rfl : j = 18 := by omega
              go_wp2_with (first
                | ((with_reducible show Calls _ 17 _ wr _); refine (HWc.out _ HRel.out).mono ?_; rintro e w7 ⟨rfl, ho7⟩; have HO7 : Hid (Only (fun _ => False) _ w7) := HRel.out.trans ho7 (fun _ h => h.elim); clear ho7)
                | ((with_reducible show Calls _ 17 _ w7 _); refine (HWs.out _ HO7.out).mono ?_; rintro e w8 ⟨rfl, ho8⟩; have HO8 : Hid (Only (fun _ => False) _ w8) := HO7.out.trans ho8 (fun _ h => h.elim); clear ho8)
                | fail)
              go_ret
              exact ⟨rfl, HJr.out.only.trans HO8.out (fun _ h => h.elim)⟩

theorem slcRests_walk (w : World) {A A' A'' : Option Addr} {n c m c' l c'' : Nat} {H : Type} {enc : TypeId × Value → H} {fuel fuel' fuel'' : Nat} {x y z : DataW H × List MemPlace}
    (h1 : DataW.trod enc Tryd.prog w 0 (fun _ => true) true fuel 22 [.slice A n c] = some x) (h2 : DataW.trod enc Tryd.prog w 0 (fun _ => true) true fuel' 22 [.slice A' m c'] = some y) (ha : DataW.trod enc Tryd.prog w 0 (fun _ => true) true fuel'' 23 [.slice A'' l c''] = some z)
    {es : List Addr} (hes : ErrsOf w [0, 4, 7, 9] es) : Calls Tryd.prog 5 #[.slice A n c, .slice A' m c', .slice A'' l c''] w (Fine w) := by
  obtain ⟨k1, k2, l1, hl1⟩ := open_sets h1
  obtain ⟨k3, k4, l2, hl2⟩ := open_sets h2
  obtain ⟨_, _, acs, hac⟩ := open_acts ha
  by_cases h : 40 < n ∨ 40 < m ∨ 60 < l
  · exact rests_long w h
  · exact rests_ok w hes hl1 k1 k2 hl2 k3 k4 hac (by omega) (by omega) (by omega)
end Go.Proofs.YtojnhheeholaeaaDoor
