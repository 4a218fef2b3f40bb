/- Types' bodies: Ask, Body, Parse. -/
import Derived.Test.YtjdfdgmfkpdfbaaDoorTtRight
import Derived.Test.YtjdfdgmfkpdfbaaDoorErrSel
import Derived.Lib.AppendStr
import Derived.BigQuiet
namespace Go.Proofs.YtjdfdgmfkpdfbaaDoor
open Go Go.RowKit
set_option maxRecDepth 100000
set_option maxHeartbeats 4000000

theorem ask_any (w : World) : Calls Tryd.prog 23 #[] w fun e w' => e = .returned (.slice (some ⟨w.heap.size, 0, none⟩) 1 1) ∧ Hid (Src w' (some ⟨w.heap.size, 0, none⟩) 1 [1]) ∧ Hid (Only (fun _ => False) w w') := by
  go_enter Tryd.func23, Tryd.ntmps23
  go_wp2
  go_ret
  exact ⟨rfl, src_new w [1] _ 5 _ 1 rfl rfl, (Only.refl _ _).alloc _⟩

theorem body_bad {w : World} {es : List Addr} (hes : ErrsOf w [0, 2, 3, 4, 5] es) {s : List UInt8} (h : okT s = false) :
    Calls Tryd.prog 19 #[.string ⟨s.toArray⟩] w fun e w' => ∃ a, es[5]? = some a ∧ e = .returned (.tuple #[.slice none 0 0, errV a]) ∧ Only (fun _ => False) w w' := by
  obtain ⟨a, ha, hc⟩ := hes.get 5 1 (by decide) rfl
  unfold errV at hc
  have HA := Lib.hid ha
  have HR := Lib.hid (fun W => right_any W s)
  rw [h] at HR
  clear ha hes h
  go_enter Tryd.func19, Tryd.ntmps19
  go_wp2_with (go_at_call 20; (with_reducible refine (HR.out _).mono ?_); rintro e w1 ⟨rfl, e1⟩; subst w1)
  go_quiet (fail)
  go_wp2
  go_ret2
  exact ⟨a, HA.out, rfl, (Only.refl _ _).drewN _⟩

theorem strCells_map (s : List UInt8) : Lib.strCells ⟨s.toArray⟩ = s.map B8 := by
  unfold Lib.strCells
  rfl
theorem body_ok (w : World) {s : List UInt8} (h : okT s = true) :
    Calls Tryd.prog 19 #[.string ⟨s.toArray⟩] w fun e w' => ∃ A c, e = .returned (.tuple #[.slice A (s.length + 1) c, .nilIface]) ∧ Hid (Src w' A (s.length + 1) (0 :: s)) ∧ Hid (Only (fun _ => False) w w') := by
  have HR := Lib.hid (fun W => right_any W s)
  rw [h] at HR
  have hl := (okT_iff.1 h).2.1
  obtain ⟨i, hi, hz, h1, h2⟩ := info_parts info_byte
  have HE := Lib.hid (own_of_blk (B := w.heap.size) (c := 1) (s := 1) (n := 1) (xs := [.int .u8 0]) (Blk.new w 5 [.int .u8 0]) rfl rfl (by omega) (by omega) (Nat.le_refl _))
  obtain ⟨n, hn⟩ : ∃ n, n = s.length := ⟨_, rfl⟩
  have hsz : (ByteArray.mk s.toArray).size = n := by rw [hn]; rfl
  have HN := Lib.hid hn
  rw [← hn] at hl ⊢
  clear h hn
  go_enter Tryd.func19, Tryd.ntmps19
  go_wp2_with (first
    | (go_at_call 20; (with_reducible refine (HR.out _).mono ?_); rintro e w1 ⟨rfl, e1⟩; subst w1)
    | (at_builtin; refine Lib.wpList_append_own_string _ rfl _ _ 43 9 rfl w.heap.size 5 i Tryd.underlying43 Tryd.underlying9 hi hz h1 h2 _ 1 [.int .u8 0] rfl HE.out ⟨s.toArray⟩ rfl (by rw [hsz]; unfold maxLen; omega) (by rw [hsz]; omega) (by simp) ?_; intro v2 w2 hown hgr _; rw [hsz] at hown; obtain ⟨A2, c2, rfl, hle2, hm2⟩ := own_form hown; have HOw := Lib.hid hown; have HG := Lib.hid hgr; clear hown hgr))
  go_ret2
  rw [strCells_map] at HOw
  have hb : Body w2 w.heap.size (.slice A2 (1 + n) c2) (0 :: s) := by
    unfold Body
    have := HOw.out
    rw [List.length_cons, ← HN.out, Nat.add_comm n 1]
    exact this
  refine ⟨A2, c2, by rw [Nat.add_comm n 1]; rfl, ?_, ((Only.refl _ _).alloc _).grown HG.out (fun q hq => .inr (by cases hq; exact Nat.le_refl _))⟩
  have := hb.src (by rw [List.length_cons, ← HN.out]; omega)
  rw [Nat.add_comm n 1]
  exact this


section
variable {w : World} {es : List Addr} {A : Option Addr} {n : Nat} {b r : List UInt8} {c : UInt8}
/-- The first byte lies where the slice begins. -/
theorem Src.head (hs : Src w A n (c :: r)) : ∃ ad, A = some ad ∧ w.cell? ad = some (.int .u8 (c.toNat : Int)) ∧ n = r.length + 1 := by
  have hl := hs.1
  rw [List.length_cons] at hl
  obtain ⟨ad, rfl, hx⟩ := hs.2 (by omega)
  have c0 := hx 0 c rfl
  rw [show ad.add 0 = ad from by simp [Addr.add]] at c0
  exact ⟨ad, rfl, c0, hl.symm⟩
theorem parse_short (hes : ErrsOf w [0, 2, 3, 4, 5] es) (A : Option Addr) (cap : Nat) :
    Calls Tryd.prog 21 #[.slice A 0 cap] w fun e w' => ∃ a, es[2]? = some a ∧ e = .returned (.tuple #[.string ⟨#[]⟩, .bool false, errV a]) ∧ Only (fun _ => False) w w' := by
  obtain ⟨a, ha, hc⟩ := hes.get 2 2 (by decide) rfl
  unfold errV at hc
  have HA := Lib.hid ha
  clear ha hes
  go_enter Tryd.func21, Tryd.ntmps21
  go_wp2
  go_quiet (fail)
  go_wp2
  go_ret3
  exact ⟨a, HA.out, rfl, (Only.refl _ _).drewN _⟩
theorem parse_long (hes : ErrsOf w [0, 2, 3, 4, 5] es) (cap : Nat) (hs : Src w A n (c :: r)) (hn : n ≤ 1048576) (hnc : n ≤ cap) (_hcap : cap ≤ 9223372036854775807) (h1 : c.toNat = 1) (hr : 0 < r.length) :
    Calls Tryd.prog 21 #[.slice A n cap] w fun e w' => ∃ a, es[3]? = some a ∧ e = .returned (.tuple #[.string ⟨#[]⟩, .bool false, errV a]) ∧ Only (fun _ => False) w w' := by
  obtain ⟨a, ha, hc⟩ := hes.get 3 3 (by decide) rfl
  unfold errV at hc
  have HA := Lib.hid ha
  obtain ⟨ad, rfl, c0, hl⟩ := hs.head
  rw [h1] at c0
  clear hs hes ha
  go_enter Tryd.func21, Tryd.ntmps21
  go_wp2
  go_quiet (fail)
  go_wp2
  go_ret3
  exact ⟨a, HA.out, rfl, (Only.refl _ _).drewN _⟩
theorem parse_form (hes : ErrsOf w [0, 2, 3, 4, 5] es) (cap : Nat) (hs : Src w A n (c :: r)) (hn : n ≤ 1048576) (_hnc : n ≤ cap) (_hcap : cap ≤ 9223372036854775807) (h1 : 1 < c.toNat) :
    Calls Tryd.prog 21 #[.slice A n cap] w fun e w' => ∃ a, es[4]? = some a ∧ e = .returned (.tuple #[.string ⟨#[]⟩, .bool false, errV a]) ∧ Only (fun _ => False) w w' := by
  obtain ⟨a, ha, hc⟩ := hes.get 4 4 (by decide) rfl
  unfold errV at hc
  have HA := Lib.hid ha
  obtain ⟨ad, rfl, c0, hl⟩ := hs.head
  have e1 : ((c.toNat : Int) == 1) = false := by simp; omega
  have e2 : ((c.toNat : Int) == 0) = false := by simp; omega
  obtain ⟨D, hD⟩ : ∃ D, (if cap = 1 then some ad else some ⟨ad.block, ad.off + 1, none⟩) = D := ⟨_, rfl⟩
  clear hs hes ha
  go_enter Tryd.func21, Tryd.ntmps21
  go_wp2
  go_quiet (fail)
  go_wp2
  go_ret3
  exact ⟨a, HA.out, rfl, (Only.refl _ _).drewN _⟩
theorem parse_asks (cap : Nat) (hs : Src w A n [c]) (hnc : n ≤ cap) (_hcap : cap ≤ 9223372036854775807) (h1 : c.toNat = 1) :
    Calls Tryd.prog 21 #[.slice A n cap] w fun e w' => e = .returned (.tuple #[.string ⟨#[]⟩, .bool true, .nilIface]) ∧ Only (fun _ => False) w w' := by
  obtain ⟨ad, rfl, c0, hl⟩ := hs.head
  rw [h1] at c0
  obtain rfl : n = 1 := hl
  obtain ⟨D, hD⟩ : ∃ D, (if cap = 1 then some ad else some ⟨ad.block, ad.off + 1, none⟩) = D := ⟨_, rfl⟩
  clear hs
  go_enter Tryd.func21, Tryd.ntmps21
  go_wp2
  go_ret3
  exact ⟨rfl, Only.refl _ _⟩
/-- What stands behind the first byte, as a text. -/
theorem rest_text (cap : Nat) (hs : Src w A n (c :: r)) {ad : Addr} (hA : A = some ad) {D : Option Addr} (hD : (if cap = 1 then some ad else some ⟨ad.block, ad.off + 1, none⟩) = D) (hnc : n ≤ cap) :
    (convert 43 9 (.slice D (n - 1) (cap - 1))).run Tryd.prog w = .ok (.string ⟨r.toArray⟩) w :=
  text_of (P := Tryd.prog) (hs.tail D (fun h1 ad' e => by
    rw [hA] at e
    injection e with e
    subst e
    rw [← hD, if_neg (by omega)]
    simp [Addr.add])) (cap - 1) 43 9 5 Tryd.underlying43 Tryd.underlying5 Tryd.underlying9
theorem parse_bad (hes : ErrsOf w [0, 2, 3, 4, 5] es) (cap : Nat) (hs : Src w A n (c :: r)) (hn : n ≤ 1048576) (hnc : n ≤ cap) (_hcap : cap ≤ 9223372036854775807) (h1 : c.toNat = 0) (ho : okT r = false) :
    Calls Tryd.prog 21 #[.slice A n cap] w fun e w' => ∃ a, es[5]? = some a ∧ e = .returned (.tuple #[.string ⟨#[]⟩, .bool false, errV a]) ∧ Only (fun _ => False) w w' := by
  obtain ⟨a, ha, hc⟩ := hes.get 5 1 (by decide) rfl
  unfold errV at hc
  have HA := Lib.hid ha
  have HR := Lib.hid (fun W => right_any W r)
  rw [ho] at HR
  obtain ⟨ad, hA, c0, hl⟩ := hs.head
  obtain ⟨D, hD⟩ : ∃ D, (if cap = 1 then some ad else some ⟨ad.block, ad.off + 1, none⟩) = D := ⟨_, rfl⟩
  have hT := rest_text cap hs hA hD hnc
  subst hA
  rw [h1] at c0
  have hn1 : 1 ≤ n := by omega
  clear hs hes ha ho hl
  go_enter Tryd.func21, Tryd.ntmps21
  go_wp2_with (go_at_call 20; (with_reducible refine (HR.out _).mono ?_); rintro e w1 ⟨rfl, e1⟩; subst w1)
  go_quiet (fail)
  go_wp2
  go_ret3
  exact ⟨a, HA.out, rfl, (Only.refl _ _).drewN _⟩
theorem parse_name (cap : Nat) (hs : Src w A n (c :: r)) (hn : n ≤ 1048576) (hnc : n ≤ cap) (_hcap : cap ≤ 9223372036854775807) (h1 : c.toNat = 0) (ho : okT r = true) :
    Calls Tryd.prog 21 #[.slice A n cap] w fun e w' => e = .returned (.tuple #[.string ⟨r.toArray⟩, .bool false, .nilIface]) ∧ Only (fun _ => False) w w' := by
  have HR := Lib.hid (fun W => right_any W r)
  rw [ho] at HR
  obtain ⟨ad, hA, c0, hl⟩ := hs.head
  obtain ⟨D, hD⟩ : ∃ D, (if cap = 1 then some ad else some ⟨ad.block, ad.off + 1, none⟩) = D := ⟨_, rfl⟩
  have hT := rest_text cap hs hA hD hnc
  subst hA
  rw [h1] at c0
  have hn1 : 1 ≤ n := by omega
  clear hs ho hl
  go_enter Tryd.func21, Tryd.ntmps21
  go_wp2_with (go_at_call 20; (with_reducible refine (HR.out _).mono ?_); rintro e w1 ⟨rfl, e1⟩; subst w1)
  go_ret3
  exact ⟨rfl, Only.refl _ _⟩
/-- Parse of any bytes. -/
theorem parse_any (hes : ErrsOf w [0, 2, 3, 4, 5] es) (cap : Nat) (hs : Src w A n b) (hn : n ≤ 1048576) (hnc : n ≤ cap) (hcap : cap ≤ 9223372036854775807) :
    ∃ E, ErrV es E (saysT b).2.2 ∧ Calls Tryd.prog 21 #[.slice A n cap] w fun e w' => e = .returned (.tuple #[.string ⟨(saysT b).1.toArray⟩, .bool (saysT b).2.1, E]) ∧ Only (fun _ => False) w w' := by
  have key : ∀ (i : Nat) (hi : i ∈ [0, 2, 3, 4, 5]) (g : Nat), errIds[i]? = some g → saysT b = ([], false, i + 1) → (Calls Tryd.prog 21 #[.slice A n cap] w fun e w' => ∃ a, es[i]? = some a ∧ e = .returned (.tuple #[.string ⟨#[]⟩, .bool false, errV a]) ∧ Only (fun _ => False) w w') →
      ∃ E, ErrV es E (saysT b).2.2 ∧ Calls Tryd.prog 21 #[.slice A n cap] w fun e w' => e = .returned (.tuple #[.string ⟨(saysT b).1.toArray⟩, .bool (saysT b).2.1, E]) ∧ Only (fun _ => False) w w' := by
    intro i hi g hg hb h
    obtain ⟨a, ha, _⟩ := hes.get i g hi hg
    rw [hb]
    refine ⟨errV a, ErrV.err ha _ rfl, h.mono ?_⟩
    rintro e w' ⟨a', ha', rfl, ho⟩
    rw [ha] at ha'
    injection ha' with ha'
    subst ha'
    exact ⟨rfl, ho⟩
  cases b with
  | nil =>
    obtain rfl : n = 0 := hs.1.symm
    exact key 2 (by decide) _ rfl rfl (parse_short hes A cap)
  | cons c r =>
    rcases (by omega : c.toNat = 1 ∨ 1 < c.toNat ∨ c.toNat = 0) with h | h | h
    · cases r with
      | nil =>
        have hb : saysT [c] = ([], true, 0) := by simp [saysT, h]
        rw [hb]
        exact ⟨_, ErrV.nil es, parse_asks cap hs hnc hcap h⟩
      | cons x r =>
        exact key 3 (by decide) _ rfl (by simp [saysT, h]) (parse_long hes cap hs hn hnc hcap h (by simp))
    · exact key 4 (by decide) _ rfl (by simp [saysT, h, show ¬ c.toNat = 1 from by omega]) (parse_form hes cap hs hn hnc hcap h)
    · cases ho : okT r with
      | false => exact key 5 (by decide) _ rfl (by simp [saysT, h, ho]) (parse_bad hes cap hs hn hnc hcap h ho)
      | true =>
        have hb : saysT (c :: r) = (r, false, 0) := by simp [saysT, h, ho]
        rw [hb]
        exact ⟨_, ErrV.nil es, parse_name cap hs hn hnc hcap h ho⟩
end
end Go.Proofs.YtjdfdgmfkpdfbaaDoor
