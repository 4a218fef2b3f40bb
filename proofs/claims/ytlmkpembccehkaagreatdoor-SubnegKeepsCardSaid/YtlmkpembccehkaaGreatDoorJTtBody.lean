/- Several texts in one. -/
import Derived.Test.YtlmkpembccehkaaGreatDoorJTtRight
import Derived.Test.YtlmkpembccehkaaGreatDoorJErrs
import Derived.Lib.AppendStr
import Derived.BigQuiet
import Derived.Test.YtlmkpembccehkaaGreatDoorJTbSt
/- Types' bodies: Ask, Body, Parse. -/
namespace Go.Proofs.YtlmkpembccehkaaGreatDoor
open Go Go.RowKit
set_option maxRecDepth 100000
set_option maxHeartbeats 4000000

theorem ttask_any (w : World) : Calls Tryz.prog 72 #[] w fun e w' => e = .returned (.slice (some ⟨w.heap.size, 0, none⟩) 1 1) ∧ Hid (Src w' (some ⟨w.heap.size, 0, none⟩) 1 [1]) ∧ Hid (Only (fun _ => False) w w') := by
  go_enter Tryz.func72, Tryz.ntmps72
  go_wp2
  go_ret
  exact ⟨rfl, src_new w [1] _ 5 _ 1 rfl rfl, (Only.refl _ _).alloc _⟩

theorem ttbody_bad {w : World} {es : List Addr} (hes : ErrsOf w [0, 2, 3, 4, 5] es) {s : List UInt8} (h : okT s = false) :
    Calls Tryz.prog 86 #[.string ⟨s.toArray⟩] w fun e w' => ∃ a, es[5]? = some a ∧ e = .returned (.tuple #[.slice none 0 0, errV a]) ∧ Only (fun _ => False) w w' := by
  obtain ⟨a, ha, hc⟩ := hes.get 5 4 (by decide) rfl
  unfold errV at hc
  have HA := Lib.hid ha
  have HR := Lib.hid (fun W => ttright_any W s)
  rw [h] at HR
  clear ha hes h
  go_enter Tryz.func86, Tryz.ntmps86
  go_wp2_with (go_at_call 43; (with_reducible refine (HR.out _).mono ?_); rintro e w1 ⟨rfl, e1⟩; subst w1)
  go_quiet (fail)
  go_wp2
  go_ret2
  exact ⟨a, HA.out, rfl, (Only.refl _ _).drewN _⟩

theorem strCells_map (s : List UInt8) : Lib.strCells ⟨s.toArray⟩ = s.map B8 := by
  unfold Lib.strCells
  rfl
theorem ttbody_ok (w : World) {s : List UInt8} (h : okT s = true) :
    Calls Tryz.prog 86 #[.string ⟨s.toArray⟩] w fun e w' => ∃ A c, e = .returned (.tuple #[.slice A (s.length + 1) c, .nilIface]) ∧ Hid (Src w' A (s.length + 1) (0 :: s)) ∧ Hid (Only (fun _ => False) w w') := by
  have HR := Lib.hid (fun W => ttright_any W s)
  rw [h] at HR
  have hl := (okT_iff.1 h).2.1
  obtain ⟨i, hi, hz, h1, h2⟩ := info_parts info_byte
  have HE := Lib.hid (own_of_blk (B := w.heap.size) (c := 1) (s := 1) (n := 1) (xs := [.int .u8 0]) (Blk.new w 5 [.int .u8 0]) rfl rfl (by omega) (by omega) (Nat.le_refl _))
  obtain ⟨n, hn⟩ : ∃ n, n = s.length := ⟨_, rfl⟩
  have hsz : (ByteArray.mk s.toArray).size = n := by rw [hn]; rfl
  have HN := Lib.hid hn
  rw [← hn] at hl ⊢
  clear h hn
  go_enter Tryz.func86, Tryz.ntmps86
  go_wp2_with (first
    | (go_at_call 43; (with_reducible refine (HR.out _).mono ?_); rintro e w1 ⟨rfl, e1⟩; subst w1)
    | (at_builtin; refine Lib.wpList_append_own_string _ rfl _ _ 45 9 rfl w.heap.size 5 i Tryz.underlying45 Tryz.underlying9 hi hz h1 h2 _ 1 [.int .u8 0] rfl HE.out ⟨s.toArray⟩ rfl (by rw [hsz]; unfold maxLen; omega) (by rw [hsz]; omega) (by simp) ?_; intro v2 w2 hown hgr _; rw [hsz] at hown; obtain ⟨A2, c2, rfl, hle2, hm2⟩ := own_form hown; have HOw := Lib.hid hown; have HG := Lib.hid hgr; clear hown hgr))
  go_ret2
  rw [strCells_map] at HOw
  have hb : Body w2 w.heap.size (.slice A2 (1 + n) c2) (0 :: s) := by
    unfold Body
    have := HOw.out
    rw [List.length_cons, ← HN.out, Nat.add_comm n 1]
    exact this
  refine ⟨A2, c2, by rw [Nat.add_comm n 1]; rfl, ?_, ((Only.refl _ _).alloc _).grown HG.out (fun q hq => .inr (by cases hq; exact Nat.le_refl _))⟩
  have := hb.src (by rw [List.length_cons, ← HN.out]; omega)
  rw [Nat.add_comm n 1]
  exact this


section
variable {w : World} {es : List Addr} {A : Option Addr} {n : Nat} {b r : List UInt8} {c : UInt8}
theorem ttparse_short (hes : ErrsOf w [0, 2, 3, 4, 5] es) (A : Option Addr) (cap : Nat) :
    Calls Tryz.prog 67 #[.slice A 0 cap] w fun e w' => ∃ a, es[2]? = some a ∧ e = .returned (.tuple #[.string ⟨#[]⟩, .bool false, errV a]) ∧ Only (fun _ => False) w w' := by
  obtain ⟨a, ha, hc⟩ := hes.get 2 9 (by decide) rfl
  unfold errV at hc
  have HA := Lib.hid ha
  clear ha hes
  go_enter Tryz.func67, Tryz.ntmps67
  go_wp2
  go_quiet (fail)
  go_wp2
  go_ret3
  exact ⟨a, HA.out, rfl, (Only.refl _ _).drewN _⟩
theorem ttparse_long (hes : ErrsOf w [0, 2, 3, 4, 5] es) (cap : Nat) (hs : Src w A n (c :: r)) (hn : n ≤ 1048576) (hnc : n ≤ cap) (_hcap : cap ≤ 9223372036854775807) (h1 : c.toNat = 1) (hr : 0 < r.length) :
    Calls Tryz.prog 67 #[.slice A n cap] w fun e w' => ∃ a, es[3]? = some a ∧ e = .returned (.tuple #[.string ⟨#[]⟩, .bool false, errV a]) ∧ Only (fun _ => False) w w' := by
  obtain ⟨a, ha, hc⟩ := hes.get 3 3 (by decide) rfl
  unfold errV at hc
  have HA := Lib.hid ha
  obtain ⟨ad, rfl, c0, hl⟩ := hs.head
  rw [h1] at c0
  clear hs hes ha
  go_enter Tryz.func67, Tryz.ntmps67
  go_wp2
  go_quiet (fail)
  go_wp2
  go_ret3
  exact ⟨a, HA.out, rfl, (Only.refl _ _).drewN _⟩
theorem ttparse_form (hes : ErrsOf w [0, 2, 3, 4, 5] es) (cap : Nat) (hs : Src w A n (c :: r)) (hn : n ≤ 1048576) (_hnc : n ≤ cap) (_hcap : cap ≤ 9223372036854775807) (h1 : 1 < c.toNat) :
    Calls Tryz.prog 67 #[.slice A n cap] w fun e w' => ∃ a, es[4]? = some a ∧ e = .returned (.tuple #[.string ⟨#[]⟩, .bool false, errV a]) ∧ Only (fun _ => False) w w' := by
  obtain ⟨a, ha, hc⟩ := hes.get 4 5 (by decide) rfl
  unfold errV at hc
  have HA := Lib.hid ha
  obtain ⟨ad, rfl, c0, hl⟩ := hs.head
  have e1 : ((c.toNat : Int) == 1) = false := by simp; omega
  have e2 : ((c.toNat : Int) == 0) = false := by simp; omega
  obtain ⟨D, hD⟩ : ∃ D, (if cap = 1 then some ad else some ⟨ad.block, ad.off + 1, none⟩) = D := ⟨_, rfl⟩
  clear hs hes ha
  go_enter Tryz.func67, Tryz.ntmps67
  go_wp2
  go_quiet (fail)
  go_wp2
  go_ret3
  exact ⟨a, HA.out, rfl, (Only.refl _ _).drewN _⟩
theorem ttparse_asks (cap : Nat) (hs : Src w A n [c]) (hnc : n ≤ cap) (_hcap : cap ≤ 9223372036854775807) (h1 : c.toNat = 1) :
    Calls Tryz.prog 67 #[.slice A n cap] w fun e w' => e = .returned (.tuple #[.string ⟨#[]⟩, .bool true, .nilIface]) ∧ Only (fun _ => False) w w' := by
  obtain ⟨ad, rfl, c0, hl⟩ := hs.head
  rw [h1] at c0
  obtain rfl : n = 1 := hl
  obtain ⟨D, hD⟩ : ∃ D, (if cap = 1 then some ad else some ⟨ad.block, ad.off + 1, none⟩) = D := ⟨_, rfl⟩
  clear hs
  go_enter Tryz.func67, Tryz.ntmps67
  go_wp2
  go_ret3
  exact ⟨rfl, Only.refl _ _⟩
/-- What stands behind the first byte, as a text. -/
theorem rest_text (cap : Nat) (hs : Src w A n (c :: r)) {ad : Addr} (hA : A = some ad) {D : Option Addr} (hD : (if cap = 1 then some ad else some ⟨ad.block, ad.off + 1, none⟩) = D) (hnc : n ≤ cap) :
    (convert 45 9 (.slice D (n - 1) (cap - 1))).run Tryz.prog w = .ok (.string ⟨r.toArray⟩) w :=
  text_of (P := Tryz.prog) (hs.tail D (fun h1 ad' e => by
    rw [hA] at e
    injection e with e
    subst e
    rw [← hD, if_neg (by omega)]
    simp [Addr.add])) (cap - 1) 45 9 5 Tryz.underlying45 Tryz.underlying5 Tryz.underlying9
theorem ttparse_bad (hes : ErrsOf w [0, 2, 3, 4, 5] es) (cap : Nat) (hs : Src w A n (c :: r)) (hn : n ≤ 1048576) (hnc : n ≤ cap) (_hcap : cap ≤ 9223372036854775807) (h1 : c.toNat = 0) (ho : okT r = false) :
    Calls Tryz.prog 67 #[.slice A n cap] w fun e w' => ∃ a, es[5]? = some a ∧ e = .returned (.tuple #[.string ⟨#[]⟩, .bool false, errV a]) ∧ Only (fun _ => False) w w' := by
  obtain ⟨a, ha, hc⟩ := hes.get 5 4 (by decide) rfl
  unfold errV at hc
  have HA := Lib.hid ha
  have HR := Lib.hid (fun W => ttright_any W r)
  rw [ho] at HR
  obtain ⟨ad, hA, c0, hl⟩ := hs.head
  obtain ⟨D, hD⟩ : ∃ D, (if cap = 1 then some ad else some ⟨ad.block, ad.off + 1, none⟩) = D := ⟨_, rfl⟩
  have hT := rest_text cap hs hA hD hnc
  subst hA
  rw [h1] at c0
  have hn1 : 1 ≤ n := by omega
  clear hs hes ha ho hl
  go_enter Tryz.func67, Tryz.ntmps67
  go_wp2_with (go_at_call 43; (with_reducible refine (HR.out _).mono ?_); rintro e w1 ⟨rfl, e1⟩; subst w1)
  go_quiet (fail)
  go_wp2
  go_ret3
  exact ⟨a, HA.out, rfl, (Only.refl _ _).drewN _⟩
theorem ttparse_name (cap : Nat) (hs : Src w A n (c :: r)) (hn : n ≤ 1048576) (hnc : n ≤ cap) (_hcap : cap ≤ 9223372036854775807) (h1 : c.toNat = 0) (ho : okT r = true) :
    Calls Tryz.prog 67 #[.slice A n cap] w fun e w' => e = .returned (.tuple #[.string ⟨r.toArray⟩, .bool false, .nilIface]) ∧ Only (fun _ => False) w w' := by
  have HR := Lib.hid (fun W => ttright_any W r)
  rw [ho] at HR
  obtain ⟨ad, hA, c0, hl⟩ := hs.head
  obtain ⟨D, hD⟩ : ∃ D, (if cap = 1 then some ad else some ⟨ad.block, ad.off + 1, none⟩) = D := ⟨_, rfl⟩
  have hT := rest_text cap hs hA hD hnc
  subst hA
  rw [h1] at c0
  have hn1 : 1 ≤ n := by omega
  clear hs ho hl
  go_enter Tryz.func67, Tryz.ntmps67
  go_wp2_with (go_at_call 43; (with_reducible refine (HR.out _).mono ?_); rintro e w1 ⟨rfl, e1⟩; subst w1)
  go_ret3
  exact ⟨rfl, Only.refl _ _⟩
/-- Parse of any bytes. -/
theorem ttparse_any (hes : ErrsOf w [0, 2, 3, 4, 5] es) (cap : Nat) (hs : Src w A n b) (hn : n ≤ 1048576) (hnc : n ≤ cap) (hcap : cap ≤ 9223372036854775807) :
    ∃ E, ErrV es E (saysT b).2.2 ∧ Calls Tryz.prog 67 #[.slice A n cap] w fun e w' => e = .returned (.tuple #[.string ⟨(saysT b).1.toArray⟩, .bool (saysT b).2.1, E]) ∧ Only (fun _ => False) w w' := by
  have key : ∀ (i : Nat) (hi : i ∈ [0, 2, 3, 4, 5]) (g : Nat), errIds[i]? = some g → saysT b = ([], false, i + 1) → (Calls Tryz.prog 67 #[.slice A n cap] w fun e w' => ∃ a, es[i]? = some a ∧ e = .returned (.tuple #[.string ⟨#[]⟩, .bool false, errV a]) ∧ Only (fun _ => False) w w') →
      ∃ E, ErrV es E (saysT b).2.2 ∧ Calls Tryz.prog 67 #[.slice A n cap] w fun e w' => e = .returned (.tuple #[.string ⟨(saysT b).1.toArray⟩, .bool (saysT b).2.1, E]) ∧ Only (fun _ => False) w w' := by
    intro i hi g hg hb h
    obtain ⟨a, ha, _⟩ := hes.get i g hi hg
    rw [hb]
    refine ⟨errV a, ErrV.err ha _ rfl, h.mono ?_⟩
    rintro e w' ⟨a', ha', rfl, ho⟩
    rw [ha] at ha'
    injection ha' with ha'
    subst ha'
    exact ⟨rfl, ho⟩
  cases b with
  | nil =>
    obtain rfl : n = 0 := hs.1.symm
    exact key 2 (by decide) _ rfl rfl (ttparse_short hes A cap)
  | cons c r =>
    rcases (by omega : c.toNat = 1 ∨ 1 < c.toNat ∨ c.toNat = 0) with h | h | h
    · cases r with
      | nil =>
        have hb : saysT [c] = ([], true, 0) := by simp [saysT, h]
        rw [hb]
        exact ⟨_, ErrV.nil es, ttparse_asks cap hs hnc hcap h⟩
      | cons x r =>
        exact key 3 (by decide) _ rfl (by simp [saysT, h]) (ttparse_long hes cap hs hn hnc hcap h (by simp))
    · exact key 4 (by decide) _ rfl (by simp [saysT, h, show ¬ c.toNat = 1 from by omega]) (ttparse_form hes cap hs hn hnc hcap h)
    · cases ho : okT r with
      | false => exact key 5 (by decide) _ rfl (by simp [saysT, h, ho]) (ttparse_bad hes cap hs hn hnc hcap h ho)
      | true =>
        have hb : saysT (c :: r) = (r, false, 0) := by simp [saysT, h, ho]
        rw [hb]
        exact ⟨_, ErrV.nil es, ttparse_name cap hs hn hnc hcap h ho⟩
end
end Go.Proofs.YtlmkpembccehkaaGreatDoor
/- A hub hears a body of Ttype. -/
namespace Go.Proofs.YtlmkpembccehkaaGreatDoor
open Go Go.RowKit
set_option maxRecDepth 100000
set_option maxHeartbeats 4000000

/-- Body of a type, an own row. -/
theorem ttbody_own (w : World) {s : List UInt8} (h : okT s = true) :
    Calls Tryz.prog 86 #[.string ⟨s.toArray⟩] w fun e w' => ∃ A c, e = .returned (.tuple #[.slice A (s.length + 1) c, .nilIface]) ∧ Hid (Body w' w.heap.size (.slice A (s.length + 1) c) (0 :: s)) ∧ Hid (Only (fun _ => False) w w') := by
  have HR := Lib.hid (fun W => ttright_any W s)
  rw [h] at HR
  have hl := (okT_iff.1 h).2.1
  obtain ⟨i, hi, hz, h1, h2⟩ := info_parts info_byte
  have HE := Lib.hid (own_of_blk (B := w.heap.size) (c := 1) (s := 1) (n := 1) (xs := [.int .u8 0]) (Blk.new w 5 [.int .u8 0]) rfl rfl (by omega) (by omega) (Nat.le_refl _))
  obtain ⟨n, hn⟩ : ∃ n, n = s.length := ⟨_, rfl⟩
  have hsz : (ByteArray.mk s.toArray).size = n := by rw [hn]; rfl
  have HN := Lib.hid hn
  rw [← hn] at hl ⊢
  clear h hn
  go_enter Tryz.func86, Tryz.ntmps86
  go_wp2_with (first
    | (go_at_call 43; (with_reducible refine (HR.out _).mono ?_); rintro e w1 ⟨rfl, e1⟩; subst w1)
    | (at_builtin; refine Lib.wpList_append_own_string _ rfl _ _ 45 9 rfl w.heap.size 5 i Tryz.underlying45 Tryz.underlying9 hi hz h1 h2 _ 1 [.int .u8 0] rfl HE.out ⟨s.toArray⟩ rfl (by rw [hsz]; unfold maxLen; omega) (by rw [hsz]; omega) (by simp) ?_; intro v2 w2 hown hgr _; rw [hsz] at hown; obtain ⟨A2, c2, rfl, hle2, hm2⟩ := own_form hown; have HOw := Lib.hid hown; have HG := Lib.hid hgr; clear hown hgr))
  go_ret2
  rw [strCells_map] at HOw
  have hb : Body w2 w.heap.size (.slice A2 (1 + n) c2) (0 :: s) := by
    unfold Body
    have := HOw.out
    rw [List.length_cons, ← HN.out, Nat.add_comm n 1]
    exact this
  refine ⟨A2, c2, by rw [Nat.add_comm n 1]; rfl, ?_, ((Only.refl _ _).alloc _).grown HG.out (fun q hq => .inr (by cases hq; exact Nat.le_refl _))⟩
  rw [Nat.add_comm n 1]
  exact hb
theorem Body.one {w w' : World} {B N : Nat} {A : Option Addr} {n c : Nat} {b : List UInt8} {o : Int} (h : Body w B (.slice A n c) b) (hn : n = b.length) (ho : Only (fun _ => False) w w') (hb : Blk w' N 55 [.int .i64 o, .slice A n c]) (hB : B ≤ N) : One B w' (.slice (some ⟨N, 0, none⟩) 1 1) o b := by
  have hs := h.src hn
  have hf := own_form h
  subst hn
  obtain ⟨A2, c2, e, h1, h2⟩ := hf
  injection e with e1 e2 e3
  subst e1 e3
  refine ⟨N, A, b.length, c, rfl, hB, hb, hs.only ho (fun _ _ _ h => h), fun hn ad e => ?_, h1, h2⟩
  obtain ⟨g, e', hg, _⟩ := own_at h (by simpa using hn)
  rw [e] at e'
  injection e' with e'
  subst e'
  exact hg
/-- A cycle that tells these types, and has told k answers. -/
structure CyOk (w : World) (h : Hb) (ts : List (List UInt8)) (k : Nat) : Prop where
  ca : ∃ A c, h.ca = .slice A ts.length c ∧ TSrc w A ts.length ts
  ck : h.ck = ((k % (ts.length + 1) : Nat) : Int)
  one : 1 ≤ ts.length
  most : ts.length ≤ 8
  okT : ∀ t ∈ ts, okT t = true
theorem ansT_ok {ts : List (List UInt8)} (h : 1 ≤ ts.length) (ho : ∀ t ∈ ts, okT t = true) (k : Nat) : okT (ansT ts k) = true := ho _ (List.mem_of_getElem? (ansT_get (by omega) k))
section
variable {w : World} {es : List Addr} {A : Option Addr} {n : Nat} {b : List UInt8} {p q : Nat} {h : Hb} {ag : Nat → Nat → Bool} {T : Tb}
theorem huNext_any (k : HuAt w p h) {ts : List (List UInt8)} {m : Nat} (hc : CyOk w h ts m) :
    Calls Tryz.prog 69 #[.pointer (some ⟨p, 0, none⟩)] w fun e w' => ∃ N, e = .returned (.tuple #[.slice (some ⟨N, 0, none⟩) 1 1, .nilIface]) ∧ Hid (One w.heap.size w' (.slice (some ⟨N, 0, none⟩) 1 1) 24 (0 :: ansT ts m)) ∧ Hid (HuAt w' p { h with ck := (((m + 1) % (ts.length + 1) : Nat) : Int) }) ∧ Hid (Only (· = p) w w') := by
  obtain ⟨A, c, hA, hs⟩ := hc.ca
  have hin := k.cyc
  rw [hA, hc.ck] at hin
  have HN := Lib.hid (cyNext_any hin hs hc.one hc.most)
  have hok := ansT_ok hc.one hc.okT m
  have hl := (okT_iff.1 hok).2.1
  have HB := Lib.hid (fun W => ttbody_own W hok)
  have HT := Lib.hid (fun W A n c => tell_any W 24 A n c)
  have HOk := Lib.hid k.ok
  have HA := Lib.hid hA
  obtain ⟨s, hs⟩ : ∃ s, s = ansT ts m := ⟨_, rfl⟩
  rw [← hs] at HN HB hl ⊢
  clear k hc hin hok hA hs
  go_enter Tryz.func69, Tryz.ntmps69
  go_wp2_with (first
    | (go_at_call 87; (with_reducible refine HN.out.mono ?_); rintro e w1 ⟨rfl, hi1, ho1⟩; have HI1 := Lib.hid hi1; have HO1 := Lib.hid ho1; clear hi1 ho1)
    | (go_at_call 86; (with_reducible refine (HB.out _).mono ?_); rintro e w2 ⟨A2, c2, rfl, hb2, ho2⟩)
    | (go_at_call 71; (with_reducible refine (HT.out _ _ _ _).mono ?_); rintro e w3 ⟨rfl, hb3, ho3⟩))
  go_ret2
  have hsz := HO1.out.size
  refine ⟨_, rfl, ?_, ?_, ?_⟩
  · exact (Body.one hb2.out (by simp) ho3.out hb3.out ho2.out.size).low hsz
  · have := HuAt.of_cyc HOk.out ((HI1.out.same ho2.out).same ho3.out)
    rw [← HA.out] at this
    exact this
  · exact (HO1.out.trans ho2.out (fun _ h => h.elim)).trans ho3.out (fun _ h => h.elim)
end
end Go.Proofs.YtlmkpembccehkaaGreatDoor
/- A hub hears a body of Ttype: all its ways. -/
namespace Go.Proofs.YtlmkpembccehkaaGreatDoor
open Go Go.RowKit
set_option maxRecDepth 100000
set_option maxHeartbeats 4000000

section
variable {w : World} {es : List Addr} {A : Option Addr} {n : Nat} {b : List UInt8} {p q : Nat} {h : Hb} {ag : Nat → Nat → Bool} {T : Tb}
/-- The side of which it speaks is on. -/
def onAt (T : Tb) (asks : Bool) (o : Int) : Bool := decide (T.get (if asks then 0 else 1) o = .yes)
theorem on_at (hT : TbAt w q ag T) (asks : Bool) (o : Int) (W : World) (ho : Only (fun _ => False) w W) : Calls Tryz.prog 66 #[.pointer (some ⟨q, 0, none⟩), .int .i64 (if asks then 0 else 1), .int .i64 o] W fun e w' => e = .returned (.bool (onAt T asks o)) ∧ Only (fun _ => False) W w' :=
  ton_any (hT.same ho) (if asks then 0 else 1) o
/-- The number of its error. -/
def tyNum (T : Tb) (b : List UInt8) : Nat := onNum (saysT b).2.2 (onAt T (saysT b).2.1 24)
theorem huType_bad (hE : ErrsAt w es) (k : HuAt w p h) (hT : TbAt w q ag T) (cap : Nat) (hs : Src w A n b) (hn : n ≤ 1048576) (hnc : n ≤ cap) (hcap : cap ≤ 9223372036854775807) (hbad : tyNum T b ≠ 0) :
    Calls Tryz.prog 52 #[.pointer (some ⟨p, 0, none⟩), .pointer (some ⟨q, 0, none⟩), .slice A n cap] w fun e w' => ∃ a, e = .returned (.tuple #[.slice none 0 0, .iface 191 (.pointer (some a))]) ∧ Hid (HuAt w' p h) ∧ Hid (Only (fun _ => False) w w') := by
  obtain ⟨E, hV, hP⟩ := ttparse_any (hE.of [0, 2, 3, 4, 5]) cap hs hn hnc hcap
  have HOn := Lib.hid (on_at hT (saysT b).2.1 24)
  have HSd := Lib.hid (fun W => snSide_any W (saysT b).2.1)
  unfold tyNum at hbad
  generalize (saysT b).1 = s at *
  generalize (saysT b).2.2 = z at *
  generalize hx : (saysT b).2.1 = x at *
  generalize onAt T x 24 = on at *
  have HP := Lib.hid hP
  have HK := Lib.hid k
  obtain ⟨a, ha, hst⟩ := (hE.of [9]).get 9 8 (by decide) rfl
  unfold errV at hst
  have HC : Hid (∀ W, Only (fun _ => False) w W → W.cell? ⟨8, 0, none⟩ = some (.iface 191 (.pointer (some a)))) := fun W ho => ho.cellv hst (fun h => h)
  have hways := hV.ways
  generalize hxi : (if x = true then (0 : Int) else 1) = xi at *
  clear hP hV k hT hE hs ha hst hx hxi hn hnc hcap
  rcases hways with ⟨rfl, rfl⟩ | ⟨hz, a0, rfl⟩
  · obtain rfl : on = false := by
      cases on with
      | false => rfl
      | true => exact absurd rfl hbad
    clear hbad
    go_enter Tryz.func52, Tryz.ntmps52
    go_wp2_with (first
      | (go_at_call 67; (with_reducible refine HP.out.mono ?_); rintro e w1 ⟨rfl, ho1⟩; have HO1 := Lib.hid ho1; clear ho1)
      | (go_at_call 68; (with_reducible refine (HSd.out _).mono ?_); rintro e w' ⟨rfl, e2⟩; subst w')
      | (go_at_call 66; (with_reducible refine (HOn.out _ HO1.out).mono ?_); rintro e w2 ⟨rfl, ho2⟩; have HO2 := Lib.hid (HO1.out.trans ho2 (fun _ h => h.elim)); have hc2 := HC.out _ HO2.out; clear ho2))
    go_quiet (fail)
    go_wp2
    go_ret2
    exact ⟨a, rfl, HK.out.same (HO2.out.drewN _), HO2.out.drewN _⟩
  · clear hbad
    go_enter Tryz.func52, Tryz.ntmps52
    go_wp2_with (first
      | (go_at_call 67; (with_reducible refine HP.out.mono ?_); rintro e w1 ⟨rfl, ho1⟩; have HO1 := Lib.hid ho1; clear ho1))
    go_ret2
    exact ⟨a0, rfl, HK.out.same HO1.out, HO1.out⟩
theorem huType_asks (hE : ErrsAt w es) (k : HuAt w p h) (hT : TbAt w q ag T) {ts : List (List UInt8)} {m : Nat} (hc : CyOk w h ts m) (cap : Nat) (hs : Src w A n b) (hn : n ≤ 1048576) (hnc : n ≤ cap) (hcap : cap ≤ 9223372036854775807) (hok : tyNum T b = 0) (hx : (saysT b).2.1 = true) :
    Calls Tryz.prog 52 #[.pointer (some ⟨p, 0, none⟩), .pointer (some ⟨q, 0, none⟩), .slice A n cap] w fun e w' => ∃ N, e = .returned (.tuple #[.slice (some ⟨N, 0, none⟩) 1 1, .nilIface]) ∧ Hid (One w.heap.size w' (.slice (some ⟨N, 0, none⟩) 1 1) 24 (0 :: ansT ts m)) ∧ Hid (HuAt w' p { h with ck := (((m + 1) % (ts.length + 1) : Nat) : Int) }) ∧ Hid (Only (· = p) w w') := by
  obtain ⟨E, hV, hP⟩ := ttparse_any (hE.of [0, 2, 3, 4, 5]) cap hs hn hnc hcap
  have HOn := Lib.hid (on_at hT (saysT b).2.1 24)
  have HSd := Lib.hid (fun W => snSide_any W (saysT b).2.1)
  have HNx : Hid (∀ W, Only (fun _ => False) w W → _) := fun W ho => huNext_any (k.same (w' := W) ho) (ts := ts) (m := m) ⟨by
    obtain ⟨A, c, h1, h2⟩ := hc.ca
    exact ⟨A, c, h1, h2.same ho⟩, hc.ck, hc.one, hc.most, hc.okT⟩
  unfold tyNum at hok
  rw [hx] at hP HOn HSd hok
  generalize (saysT b).1 = s at *
  generalize (saysT b).2.2 = z at *
  have hz0 : z = 0 := by unfold onNum at hok; split at hok <;> first | assumption | (exact absurd hok (by assumption))
  subst hz0
  have hon : onAt T true 24 = true := by
    cases h : onAt T true 24 with
    | true => rfl
    | false => rw [h] at hok; cases hok
  rw [hon] at HOn
  rw [show (if true = true then (0 : Int) else 1) = 0 from rfl] at HSd HOn
  obtain ⟨_, rfl⟩ | ⟨h, _⟩ := hV.ways
  case inr => exact absurd rfl h
  have HP := Lib.hid hP
  clear hP hV k hT hE hs hx hn hnc hcap hc hok hon
  go_enter Tryz.func52, Tryz.ntmps52
  go_wp2_with (first
    | (go_at_call 67; (with_reducible refine HP.out.mono ?_); rintro e w1 ⟨rfl, ho1⟩; have HO1 := Lib.hid ho1; clear ho1)
    | (go_at_call 68; (with_reducible refine (HSd.out _).mono ?_); rintro e w' ⟨rfl, e2⟩; subst w')
    | (go_at_call 66; (with_reducible refine (HOn.out _ HO1.out).mono ?_); rintro e w2 ⟨rfl, ho2⟩; have HO2 := Lib.hid (HO1.out.trans ho2 (fun _ h => h.elim)); clear ho2)
    | (go_at_call 69; (with_reducible refine (HNx.out _ HO2.out).mono ?_); rintro e w3 ⟨N, rfl, h1, h2, h3⟩))
  go_ret2
  exact ⟨N, rfl, h1.out.low HO2.out.size, h2.out, (Only.mono (T := (· = p)) HO2.out (fun _ h => h.elim)).trans h3.out (fun i hi => .inl hi)⟩
theorem huType_name (hE : ErrsAt w es) (k : HuAt w p h) (hT : TbAt w q ag T) (cap : Nat) (hs : Src w A n b) (hn : n ≤ 1048576) (hnc : n ≤ cap) (hcap : cap ≤ 9223372036854775807) (hok : tyNum T b = 0) (hx : (saysT b).2.1 = false) :
    Calls Tryz.prog 52 #[.pointer (some ⟨p, 0, none⟩), .pointer (some ⟨q, 0, none⟩), .slice A n cap] w fun e w' => ∃ v, e = .returned (.tuple #[v, .nilIface]) ∧ Hid (if (h.li.take (saysT b).1).whole = true then v = .slice none 0 0 else One w.heap.size w' v 24 [1]) ∧ Hid (HuAt w' p { h with li := h.li.take (saysT b).1 }) ∧ Hid (Only (· = p) w w') := by
  obtain ⟨E, hV, hP⟩ := ttparse_any (hE.of [0, 2, 3, 4, 5]) cap hs hn hnc hcap
  have HOn := Lib.hid (on_at hT (saysT b).2.1 24)
  have HSd := Lib.hid (fun W => snSide_any W (saysT b).2.1)
  unfold tyNum at hok
  rw [hx] at hP HOn HSd hok
  generalize (saysT b).1 = s at *
  generalize (saysT b).2.2 = z at *
  have HTk : Hid (∀ W, Only (fun _ => False) w W → _) := fun W ho => liTake_any ⟨k.ok.li, (k.same (w' := W) ho).in1⟩ s
  have hz0 : z = 0 := by unfold onNum at hok; split at hok <;> first | assumption | (exact absurd hok (by assumption))
  subst hz0
  have hon : onAt T false 24 = true := by
    cases h : onAt T false 24 with
    | true => rfl
    | false => rw [h] at hok; cases hok
  rw [hon] at HOn
  rw [show (if false = true then (0 : Int) else 1) = 1 from rfl] at HSd HOn
  obtain ⟨_, rfl⟩ | ⟨h, _⟩ := hV.ways
  case inr => exact absurd rfl h
  have HP := Lib.hid hP
  have HOk := Lib.hid k.ok
  have HLk := Lib.hid (k.ok.li.take s)
  have HT := Lib.hid (fun W A n c => tell_any W 24 A n c)
  have HA := Lib.hid ttask_any
  clear hP hV k hT hE hs hx hn hnc hcap hok hon
  cases hw : (h.li.take s).whole
  all_goals
    rw [hw] at HTk
    clear hw
    go_enter Tryz.func52, Tryz.ntmps52
    go_wp2_with (first
      | (go_at_call 67; (with_reducible refine HP.out.mono ?_); rintro e w1 ⟨rfl, ho1⟩; have HO1 := Lib.hid ho1; clear ho1)
      | (go_at_call 68; (with_reducible refine (HSd.out _).mono ?_); rintro e w' ⟨rfl, e2⟩; subst w')
      | (go_at_call 66; (with_reducible refine (HOn.out _ HO1.out).mono ?_); rintro e w2 ⟨rfl, ho2⟩; have HO2 := Lib.hid (HO1.out.trans ho2 (fun _ h => h.elim)); clear ho2)
      | (go_at_call 70; (with_reducible refine (HTk.out _ HO2.out).mono ?_); rintro e w3 ⟨rfl, hl3, ho3⟩; have HL3 := Lib.hid hl3; have HO3 : Hid (Only (· = p) w w3) := (Only.mono (T := (· = p)) HO2.out (fun _ h => h.elim)).trans ho3 (fun i hi => .inl hi); clear hl3 ho3)
      | (go_at_call 72; (with_reducible refine (HA.out _).mono ?_); rintro e w4 ⟨rfl, hs4, ho4⟩)
      | (go_at_call 71; (with_reducible refine (HT.out _ _ _ _).mono ?_); rintro e w5 ⟨rfl, hb5, ho5⟩))
    go_ret2
  · have HO5 : Only (fun _ => False) w3 w5 := ho4.out.trans ho5.out (fun _ h => h.elim)
    have hsz := HO3.out.size
    refine ⟨_, rfl, ?_, HuAt.of_list HLk.out HOk.out (HL3.out.blk.same HO5), HO3.out.trans HO5 (fun _ h => h.elim)⟩
    show One w.heap.size w5 (.slice (some ⟨w4.heap.size, 0, none⟩) 1 1) 24 [1]
    have h45 := ho4.out.size
    refine ⟨_, _, 1, 1, rfl, by omega, hb5.out, hs4.out.only ho5.out (fun _ _ _ h => h), fun _ ad e => ?_, by omega, by omega⟩
    injection e with e
    subst e
    exact hsz
  · exact ⟨_, rfl, rfl, HuAt.of_list HLk.out HOk.out HL3.out.blk, HO3.out⟩
end
end Go.Proofs.YtlmkpembccehkaaGreatDoor
