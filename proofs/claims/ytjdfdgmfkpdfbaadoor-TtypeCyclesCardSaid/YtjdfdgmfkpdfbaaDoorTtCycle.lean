/- Cycles: New, Next, Reset. -/
import Derived.Test.YtjdfdgmfkpdfbaaDoorTtRight
import Derived.Test.YtjdfdgmfkpdfbaaDoorTextsTwo
import Derived.Test.YtjdfdgmfkpdfbaaDoorErrSel
import Derived.BigQuiet
import Derived.Deep.RegionHeld3
namespace Go.Proofs.YtjdfdgmfkpdfbaaDoor
open Go Go.RowKit
set_option maxRecDepth 100000
set_option maxHeartbeats 4000000

/-- A cycle at its answer number k. -/
def CycAt (w : World) (p : Nat) (ts : List (List UInt8)) (k : Nat) : Prop :=
  ∃ (A : Option Addr) (c : Nat), Blk w p 55 [.slice A ts.length c, .int .i64 (k : Int)] ∧ TSrc w A ts.length ts ∧ (0 < ts.length → ∀ ad, A = some ad → ad.block ≠ p)
theorem CycAt.same {w w' : World} {p k : Nat} {ts : List (List UInt8)} (h : CycAt w p ts k) (ho : Only (fun _ => False) w w') : CycAt w' p ts k := by
  obtain ⟨A, c, hb, hs, hn⟩ := h
  exact ⟨A, c, hb.only ho (fun h => h), hs.same ho, hn⟩
theorem CycAt.far {S : Nat → Prop} {w w' : World} {p k : Nat} {ts : List (List UInt8)} (h : CycAt w p ts k) (ho : Only S w w') (hS : ∀ i, S i → w.heap.size ≤ i) : CycAt w' p ts k := by
  obtain ⟨A, c, hb, hs, hn⟩ := h
  exact ⟨A, c, hb.only ho (fun h => by have := hS _ h; have := hb.lt; omega), hs.old ho (fun i hi h => by have := hS _ h; omega), hn⟩
/-- What New answers: the error's number. -/
def newNum (ts : List (List UInt8)) : Nat := if ts.length < 1 ∨ 8 < ts.length then 1 else if ts.all okT then 0 else 6

theorem new_range {w : World} {es : List Addr} (hes : ErrsOf w [0, 2, 3, 4, 5] es) (A : Option Addr) (n c : Nat) (h : n < 1 ∨ 8 < n) :
    Calls Tryd.prog 13 #[.slice A n c] w fun e w' => ∃ a, es[0]? = some a ∧ e = .returned (.tuple #[.pointer none, errV a]) ∧ Only (fun _ => False) w w' := by
  obtain ⟨a, ha, hc⟩ := hes.get 0 0 (by decide) rfl
  unfold errV at hc
  have HA := Lib.hid ha
  clear ha hes
  rcases h with h | h
  · have hd : decide ((n : Int) < 1) = true := by simp; omega
    clear h
    go_enter Tryd.func13, Tryd.ntmps13
    go_wp2
    go_quiet (fail)
    go_wp2
    go_ret2
    exact ⟨a, HA.out, rfl, (Only.refl _ _).drewN _⟩
  · have hd : decide ((n : Int) < 1) = false := by simp; omega
    have hd2 : decide ((8 : Int) < (n : Int)) = true := by simp; omega
    clear h
    go_enter Tryd.func13, Tryd.ntmps13
    go_wp2
    go_quiet (fail)
    go_wp2
    go_ret2
    exact ⟨a, HA.out, rfl, (Only.refl _ _).drewN _⟩

theorem new_name {w : World} {es : List Addr} (hes : ErrsOf w [0, 2, 3, 4, 5] es) {A : Option Addr} {n : Nat} (c : Nat) {ts : List (List UInt8)} (hs : TSrc w A n ts) (h1 : 1 ≤ n) (h8 : n ≤ 8) (h : ts.all okT = false) :
    Calls Tryd.prog 13 #[.slice A n c] w fun e w' => ∃ a, es[5]? = some a ∧ e = .returned (.tuple #[.pointer none, errV a]) ∧ Only (fun _ => False) w w' := by
  obtain ⟨a, ha, hc⟩ := hes.get 5 1 (by decide) rfl
  unfold errV at hc
  have HA := Lib.hid ha
  have HS := Lib.hid hs
  have HR := Lib.hid (fun W s => right_any W s)
  have HB := Lib.hid h
  clear ha hes hs h
  have hd : decide ((n : Int) < 1) = false := by simp; omega
  have hd2 : decide ((8 : Int) < (n : Int)) = false := by simp; omega
  go_enter Tryd.func13, Tryd.ntmps13
  go_wp2
  go_loop [17] (fun i => ∃ k : Nat, k ≤ n ∧ i = .int .i64 (k : Int) ∧ Hid (∀ t ∈ ts.take k, okT t = true)) (fun i => n - (intOf i).toNat)
  case atStart => exact ⟨0, Nat.zero_le _, rfl, fun t ht => by simp at ht⟩
  case round =>
    obtain ⟨k, hk, rfl, HD⟩ := hrel
    by_cases hlt : k < n
    · obtain ⟨ad, s, rfl, hx, hcs⟩ := HS.out.get hlt
      have HX := Lib.hid hx
      have HRs := Lib.hid (fun W => HR.out W s)
      clear hx
      cases ho : okT s with
      | true =>
        rw [ho] at HRs
        have HO := Lib.hid ho
        clear ho
        go_wp2_with (go_at_call 20; (with_reducible refine (HRs.out _).mono ?_); rintro e w1 ⟨rfl, e1⟩; subst w1)
        go_round
        case rel =>
          refine ⟨k + 1, by omega, by go_num, fun t ht => ?_⟩
          rw [take_snoc HX.out] at ht
          rcases List.mem_append.1 ht with h | h
          · exact HD.out t h
          · simp only [List.mem_singleton] at h
            subst h
            exact HO.out
        case measure => simp [intOf]; omega
      | false =>
        rw [ho] at HRs
        clear ho
        go_wp2_with (go_at_call 20; (with_reducible refine (HRs.out _).mono ?_); rintro e w1 ⟨rfl, e1⟩; subst w1)
        go_quiet (fail)
        go_wp2
        go_ret2
        exact ⟨a, HA.out, rfl, (Only.refl _ _).drewN _⟩
    · exfalso
      obtain rfl : k = n := by omega
      have hd := HD.out
      rw [← HS.out.1, List.take_length] at hd
      have : ts.all okT = true := by simpa using hd
      rw [HB.out] at this
      cases this

theorem new_ok {w : World} {A : Option Addr} {n : Nat} (c : Nat) {ts : List (List UInt8)} (hs : TSrc w A n ts) (h1 : 1 ≤ n) (h8 : n ≤ 8) (h : ts.all okT = true) :
    Calls Tryd.prog 13 #[.slice A n c] w fun e w' => ∃ p, e = .returned (.tuple #[.pointer (some ⟨p, 0, none⟩), .nilIface]) ∧ CycAt w' p ts 0 ∧ w.heap.size ≤ p ∧ Only (fun _ => False) w w' := by
  have HS := Lib.hid hs
  have HR := Lib.hid (fun W s => right_any W s)
  have HB := Lib.hid h
  have HCl := Lib.hid (clone_texts (c := c) hs (by omega))
  clear hs h
  have hd : decide ((n : Int) < 1) = false := by simp; omega
  have hd2 : decide ((8 : Int) < (n : Int)) = false := by simp; omega
  go_enter Tryd.func13, Tryd.ntmps13
  go_wp2
  go_loop [17] (fun i => ∃ k : Nat, k ≤ n ∧ i = .int .i64 (k : Int)) (fun i => n - (intOf i).toNat)
  case atStart => exact ⟨0, Nat.zero_le _, rfl⟩
  case round =>
    obtain ⟨k, hk, rfl⟩ := hrel
    by_cases hlt : k < n
    · obtain ⟨ad, s, rfl, hx, hcs⟩ := HS.out.get hlt
      have ho : okT s = true := by
        have := HB.out
        rw [List.all_eq_true] at this
        exact this s (List.mem_of_getElem? hx)
      have HRs := Lib.hid (fun W => HR.out W s)
      rw [ho] at HRs
      clear hx ho
      go_wp2_with (go_at_call 20; (with_reducible refine (HRs.out _).mono ?_); rintro e w1 ⟨rfl, e1⟩; subst w1)
      go_round
      case rel => exact ⟨k + 1, by omega, by go_num⟩
      case measure => simp [intOf]; omega
    · go_wp2_with (go_at_call 25; refine HCl.out.mono ?_; rintro e w1 ⟨A', c', rfl, hs1, hl1, hl2, ho1⟩; have HS1 := Lib.hid hs1; have HO1 := Lib.hid ho1; clear hs1 ho1)
      go_ret2
      have hl := HS1.out.1
      subst hl
      have hb := Blk.new w1 55 [.slice A' ts.length c', .int .i64 0]
      exact ⟨w1.heap.size, rfl, ⟨A', c', hb, HS1.out.same ((Only.refl _ _).alloc _), fun hn ad e => Nat.ne_of_lt (HS1.out.lt hn ad e)⟩, HO1.out.size, HO1.out.alloc _⟩

theorem reset_any {w : World} {p k : Nat} {ts : List (List UInt8)} (h : CycAt w p ts k) : Calls Tryd.prog 16 #[.pointer (some ⟨p, 0, none⟩)] w fun e w' => e = .returned (.tuple #[]) ∧ CycAt w' p ts 0 ∧ Only (· = p) w w' := by
  obtain ⟨A, c, hb, hs, hne⟩ := h
  have c1 := hb.cell 1
  have hf := hb.frozen 1
  have HB := Lib.hid hb
  have HS := Lib.hid hs
  have HN := Lib.hid hne
  clear hb hs hne
  go_enter Tryd.func16, Tryd.ntmps16
  go_wp2
  refine bodyPost_end (results_none rfl _ _ _) rfl ?_
  have ho : Only (· = p) w (w.setCell ⟨p, 1, none⟩ (.int .i64 0)) := (Only.refl (· = p) w).setCell (p := ⟨p, 1, none⟩) (.inl rfl) _
  exact ⟨rfl, ⟨A, c, HB.out.setCell 1 _, HS.out.only ho (fun hn ad e => HN.out hn ad e), HN.out⟩, ho⟩

theorem next_walk {w : World} {p n m c : Nat} {ad : Addr} {s : List UInt8} (h1 : 1 ≤ n) (h8 : n ≤ 8) (hm : m ≤ n) (c0 : w.cell? ⟨p, 0, none⟩ = some (.slice (some ad) n c)) (c1 : w.cell? ⟨p, 1, none⟩ = some (.int .i64 (m : Int))) (hf : w.frozen? ⟨p, 1, none⟩ = false)
    (c2 : w.cell? (ad.add (min m (n - 1))) = some (.string ⟨s.toArray⟩)) :
    Calls Tryd.prog 17 #[.pointer (some ⟨p, 0, none⟩)] w fun e w' => e = .returned (.string ⟨s.toArray⟩) ∧ ∃ N, w' = (w.drewN N).setCell ⟨p, 1, none⟩ (.int .i64 (((m + 1) % (n + 1) : Nat) : Int)) := by
  obtain ⟨q, hq⟩ : ∃ q, q = min m (n - 1) := ⟨_, rfl⟩
  rw [← hq] at c2
  have hqn : q < n := by omega
  have e1 : IntKind.i64.wrap ((n : Int) - 1) = (n : Int) - 1 := IntWalk.i64_in _ (by omega)
  have e2 : min (m : Int) ((n : Int) - 1) = (q : Int) := by omega
  have hz : (n == 0) = false := by simp; omega
  obtain ⟨r, hr⟩ : ∃ r, r = (m + 1) % (n + 1) := ⟨_, rfl⟩
  rw [← hr]
  have hrn : r ≤ n := by rw [hr]; have := Nat.mod_lt (m + 1) (show 0 < n + 1 by omega); omega
  have e3 : ((m : Int) + 1).tmod ((n : Int) + 1) = (r : Int) := by
    rw [hr, Int.tmod_eq_emod_of_nonneg (by omega), Int.natCast_emod]
    rfl
  clear hq hr
  go_enter Tryd.func17, Tryd.ntmps17
  go_wp2
  go_quiet (fail)
  have c1' : (w.drewN nq).cell? ⟨p, 1, none⟩ = some (.int .i64 (m : Int)) := c1
  have hf' : (w.drewN nq).frozen? ⟨p, 1, none⟩ = false := hf
  go_wp2
  go_ret
  exact ⟨rfl, nq, rfl⟩

theorem next_any {w : World} {p k : Nat} {ts : List (List UInt8)} (h : CycAt w p ts (k % (ts.length + 1))) (h1 : 1 ≤ ts.length) (h8 : ts.length ≤ 8) : Calls Tryd.prog 17 #[.pointer (some ⟨p, 0, none⟩)] w fun e w' => e = .returned (.string ⟨(ansT ts k).toArray⟩) ∧ CycAt w' p ts ((k + 1) % (ts.length + 1)) ∧ Only (· = p) w w' := by
  have hg := ansT_get h1 k
  obtain ⟨A, c, hb, hs, hne⟩ := h
  obtain ⟨ad, hA, hc⟩ := hs.2 (by omega)
  subst hA
  have hm : k % (ts.length + 1) ≤ ts.length := by have := Nat.mod_lt k (show 0 < ts.length + 1 by omega); omega
  refine (next_walk (c := c) h1 h8 hm (hb.cell 0) (hb.cell 1) (hb.frozen 1) (hc _ _ hg)).mono ?_
  rintro e w' ⟨rfl, N, rfl⟩
  rw [Nat.mod_add_mod]
  have ho : Only (· = p) w ((w.drewN N).setCell ⟨p, 1, none⟩ (.int .i64 (((k + 1) % (ts.length + 1) : Nat) : Int))) := ((Only.refl (· = p) w).drewN N).setCell (p := ⟨p, 1, none⟩) (.inl rfl) _
  exact ⟨rfl, ⟨_, c, (hb.drewN N).setCell 1 _, hs.only ho (fun hn ad e => hne hn ad e), hne⟩, ho⟩
end Go.Proofs.YtjdfdgmfkpdfbaaDoor
