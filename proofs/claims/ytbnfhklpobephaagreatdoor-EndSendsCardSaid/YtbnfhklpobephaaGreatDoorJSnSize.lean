/- Several texts in one. -/
import Derived.Test.YtbnfhklpobephaaGreatDoorJRefuse
import Derived.Test.YtbnfhklpobephaaGreatDoorJNawsFit
import Derived.Test.YtbnfhklpobephaaGreatDoorJTbSay
import Derived.Test.YtbnfhklpobephaaGreatDoorJSnList
import Derived.Test.YtbnfhklpobephaaGreatDoorJSc
import Derived.BigQuiet
import Derived.Deep.RegionHeld3
import Derived.Test.YtbnfhklpobephaaGreatDoorJSnIn
import Derived.Lib.AppendStr
/- A hub hears a body of Naws. -/
namespace Go.Proofs.YtbnfhklpobephaaGreatDoor
open Go Go.RowKit
set_option maxRecDepth 100000
set_option maxHeartbeats 4000000

/-- What a size's body says: the error's number; both numbers. -/
def nsNum (b : List UInt8) : Nat := if b.length < 4 then 3 else if 4 < b.length then 4 else 0
def nsCol : List UInt8 → Int
  | [x, y, _, _] => two x y
  | _ => 0
def nsRow : List UInt8 → Int
  | [_, _, z, u] => two z u
  | _ => 0
section
variable {w : World} {es : List Addr} {A : Option Addr} {n : Nat} {b : List UInt8}
theorem nparse_any (hE : ErrsAt w es) (cap : Nat) (hs : Src w A n b) :
    ∃ E, ErrV es E (nsNum b) ∧ Calls Tryz.prog 218 #[.slice A n cap] w fun e w' => e = .returned (.tuple #[szVal (nsCol b) (nsRow b), E]) ∧ Only (fun _ => False) w w' := by
  have hl := hs.1
  unfold nsNum
  by_cases h1 : b.length < 4
  · rw [if_pos h1]
    obtain ⟨a, ha, _⟩ := (hE.of [0, 2, 3]).get 2 2 (by decide) rfl
    refine ⟨errV a, ErrV.err ha 3 rfl, (nparse_short (hE.of [0, 2, 3]) A n cap (by omega)).mono ?_⟩
    rintro e w' ⟨a', ha', rfl, ho⟩
    rw [ha] at ha'
    injection ha' with ha'
    subst ha'
    have e1 : nsCol b = 0 := by unfold nsCol; split <;> simp_all
    have e2 : nsRow b = 0 := by unfold nsRow; split <;> simp_all
    rw [e1, e2]
    exact ⟨rfl, ho⟩
  · rw [if_neg h1]
    by_cases h2 : 4 < b.length
    · rw [if_pos h2]
      obtain ⟨a, ha, _⟩ := (hE.of [0, 2, 3]).get 3 3 (by decide) rfl
      refine ⟨errV a, ErrV.err ha 4 rfl, (nparse_long (hE.of [0, 2, 3]) A n cap (by omega)).mono ?_⟩
      rintro e w' ⟨a', ha', rfl, ho⟩
      rw [ha] at ha'
      injection ha' with ha'
      subst ha'
      have e1 : nsCol b = 0 := by unfold nsCol; split <;> simp_all
      have e2 : nsRow b = 0 := by unfold nsRow; split <;> simp_all
      rw [e1, e2]
      exact ⟨rfl, ho⟩
    · rw [if_neg h2]
      match b, hs, h1, h2 with
      | [x, y, z, u], hs, _, _ =>
        obtain rfl : n = 4 := hs.1.symm
        exact ⟨.nilIface, ErrV.nil es, nparse_ok hs cap⟩
      | [], _, h1, _ => exact absurd (by decide) h1
      | [_], _, h1, _ => exact absurd (by simp) h1
      | [_, _], _, h1, _ => exact absurd (by simp) h1
      | [_, _, _], _, h1, _ => exact absurd (by simp) h1
      | _ :: _ :: _ :: _ :: _ :: _, _, _, h2 => exact absurd (by simp) h2
/-- The error's form. -/
theorem ErrV.ways {E : Value} {k : Nat} (h : ErrV es E k) : (k = 0 ∧ E = .nilIface) ∨ (k ≠ 0 ∧ ∃ a, E = .iface 409 (.pointer (some a))) := by
  rcases h with ⟨h, rfl⟩ | ⟨i, a, rfl, _, rfl⟩
  · exact .inl ⟨h, rfl⟩
  · exact .inr ⟨by omega, a, rfl⟩
/-- The error's number, where an option must be on. -/
def onNum (num : Nat) (on : Bool) : Nat := if num = 0 then (if on then 0 else 10) else num
variable {p q mo mq : Nat} {tp tq : TypeId} {pre post prq poq : List Value} {h : Hb} {ag : Nat → Nat → Bool} {T : Tb}
theorem huSize_any (hE : ErrsAt w es) (k : HuAt w p mo tp pre post h) (hT : TbAt w q mq tq prq poq ag T) (cap : Nat) (hs : Src w A n b) :
    Calls Tryz.prog 208 #[.pointer (some ⟨p, mo, none⟩), .pointer (some ⟨q, mq, none⟩), .slice A n cap] w fun e w' => ∃ E, e = .returned (.tuple #[.slice none 0 0, E]) ∧ Hid (ErrV es E (onNum (nsNum b) (decide (T.get 1 31 = .yes))) ∧
      HuAt w' p mo tp pre post (if onNum (nsNum b) (decide (T.get 1 31 = .yes)) = 0 then { h with pc := nsCol b, pr := nsRow b } else h)) ∧ Hid (Only (· = p) w w') := by
  obtain ⟨E, hV, hP⟩ := nparse_any hE cap hs
  obtain ⟨c, hc⟩ : ∃ c, c = nsCol b := ⟨_, rfl⟩
  obtain ⟨r, hr⟩ : ∃ r, r = nsRow b := ⟨_, rfl⟩
  obtain ⟨z, hz⟩ : ∃ z, z = nsNum b := ⟨_, rfl⟩
  rw [← hc, ← hr] at hP ⊢
  rw [← hz] at hV ⊢
  have HP := Lib.hid hP
  have HV := Lib.hid hV
  have HK := Lib.hid k
  have HOn : Hid (∀ W, Only (fun _ => False) w W → Calls Tryz.prog 49 #[.pointer (some ⟨q, mq, none⟩), .int .i64 1, .int .i64 31] W fun e w' => e = .returned (.bool (decide (T.get 1 31 = .yes))) ∧ Only (fun _ => False) W w') := fun W ho => ton_any (hT.same ho) 1 31
  generalize decide (T.get 1 31 = .yes) = on at *
  obtain ⟨a, ha, hst⟩ := (hE.of [9]).get 9 9 (by decide) rfl
  unfold errV at hst
  have HC : Hid (∀ W, Only (fun _ => False) w W → W.cell? ⟨9, 0, none⟩ = some (.iface 409 (.pointer (some a)))) := fun W ho => ho.cellv hst (fun h => h)
  have HA : Hid (ErrV es (errV a) 10) := ErrV.err ha 10 rfl
  have hways := hV.ways
  clear hP hV k hT hE hs hc hr hz ha hst
  unfold szVal at HP
  rcases hways with ⟨rfl, rfl⟩ | ⟨hz, a0, rfl⟩
  · cases on with
    | false =>
      go_enter Tryz.func208, Tryz.ntmps208
      go_wp2_with (first
        | (go_at_call 218; (with_reducible refine HP.out.mono ?_); rintro e w1 ⟨rfl, ho1⟩; have HO1 := Lib.hid ho1; clear ho1)
        | (go_at_call 49; (with_reducible refine (HOn.out _ (HO1.out.alloc _)).mono ?_); rintro e w2 ⟨rfl, ho2⟩; have HO2 := Lib.hid ((HO1.out.alloc _).trans ho2 (fun _ h => h.elim)); have hc2 := HC.out _ HO2.out; clear ho2))
      go_quiet (fail)
      go_wp2
      go_ret2
      exact ⟨_, rfl, ⟨HA.out, HK.out.same (HO2.out.drewN _)⟩, (HO2.out.drewN _).mono (fun _ h => h.elim)⟩
    | true =>
      go_enter Tryz.func208, Tryz.ntmps208
      go_wp2_with (first
        | (go_at_call 218; (with_reducible refine HP.out.mono ?_); rintro e w1 ⟨rfl, ho1⟩; have HO1 := Lib.hid ho1; clear ho1)
        | (go_at_call 49; (with_reducible refine (HOn.out _ (HO1.out.alloc _)).mono ?_); rintro e w2 ⟨rfl, ho2⟩; have HO2 := Lib.hid ((HO1.out.alloc _).trans ho2 (fun _ h => h.elim)); have hB2 := (Blk.new w1 26 [.int .i64 c, .int .i64 r]).only ho2 (fun h => h); have c0 : w2.cell? ⟨w1.heap.size, 0, none⟩ = some (.int .i64 c) := hB2.cell 0; have c1 : w2.cell? ⟨w1.heap.size, 1, none⟩ = some (.int .i64 r) := hB2.cell 1; have HK2 := Lib.hid (HK.out.same HO2.out); clear ho2 hB2)
        | ((with_reducible show wpList _ _ _ (⟨none, .store 26 (.tmp 27) _, _, _, _, _⟩ :: _) _ _); refine InB.store rfl 26 _ _ rfl HK2.out.peer rfl [.int .i64 c, .int .i64 r] rfl size_sz rfl (sz_one c r) ?_; intro w3 HB3 hz3 ho3))
      go_ret2
      exact ⟨_, rfl, ⟨ErrV.nil es, HuAt.of_peer HK2.out.ok HB3.out⟩, (Only.mono (T := (· = p)) HO2.out (fun _ h => h.elim)).trans ho3 (fun i hi => .inl hi)⟩
  · rw [show onNum z on = z from by unfold onNum; rw [if_neg hz], if_neg hz]
    go_enter Tryz.func208, Tryz.ntmps208
    go_wp2_with (first
      | (go_at_call 218; (with_reducible refine HP.out.mono ?_); rintro e w1 ⟨rfl, ho1⟩; have HO1 := Lib.hid ho1; clear ho1))
    go_ret2
    exact ⟨_, rfl, ⟨HV.out, HK.out.same (HO1.out.alloc _)⟩, (HO1.out.alloc _).mono (fun _ h => h.elim)⟩
end
end Go.Proofs.YtbnfhklpobephaaGreatDoor
/- Cycles: New, Next, Reset. -/
namespace Go.Proofs.YtbnfhklpobephaaGreatDoor
open Go Go.RowKit
set_option maxRecDepth 100000
set_option maxHeartbeats 4000000

/-- A cycle at its answer number k. -/
def CycAt (w : World) (p : Nat) (ts : List (List UInt8)) (k : Nat) : Prop :=
  ∃ (A : Option Addr) (c : Nat), Blk w p 103 [.slice A ts.length c, .int .i64 (k : Int)] ∧ TSrc w A ts.length ts ∧ (0 < ts.length → ∀ ad, A = some ad → ad.block ≠ p)
theorem CycAt.same {w w' : World} {p k : Nat} {ts : List (List UInt8)} (h : CycAt w p ts k) (ho : Only (fun _ => False) w w') : CycAt w' p ts k := by
  obtain ⟨A, c, hb, hs, hn⟩ := h
  exact ⟨A, c, hb.only ho (fun h => h), hs.same ho, hn⟩
theorem CycAt.far {S : Nat → Prop} {w w' : World} {p k : Nat} {ts : List (List UInt8)} (h : CycAt w p ts k) (ho : Only S w w') (hS : ∀ i, S i → w.heap.size ≤ i) : CycAt w' p ts k := by
  obtain ⟨A, c, hb, hs, hn⟩ := h
  exact ⟨A, c, hb.only ho (fun h => by have := hS _ h; have := hb.lt; omega), hs.old ho (fun i hi h => by have := hS _ h; omega), hn⟩
theorem ttnew_range {w : World} {es : List Addr} (hes : ErrsOf w [0, 2, 3, 4, 5] es) (A : Option Addr) (n c : Nat) (h : n < 1 ∨ 8 < n) :
    Calls Tryz.prog 80 #[.slice A n c] w fun e w' => ∃ a, es[0]? = some a ∧ e = .returned (.tuple #[.pointer none, errV a]) ∧ Only (fun _ => False) w w' := by
  obtain ⟨a, ha, hc⟩ := hes.get 0 0 (by decide) rfl
  unfold errV at hc
  have HA := Lib.hid ha
  clear ha hes
  rcases h with h | h
  · have hd : decide ((n : Int) < 1) = true := by simp; omega
    clear h
    go_enter Tryz.func80, Tryz.ntmps80
    go_wp2
    go_quiet (fail)
    go_wp2
    go_ret2
    exact ⟨a, HA.out, rfl, (Only.refl _ _).drewN _⟩
  · have hd : decide ((n : Int) < 1) = false := by simp; omega
    have hd2 : decide ((8 : Int) < (n : Int)) = true := by simp; omega
    clear h
    go_enter Tryz.func80, Tryz.ntmps80
    go_wp2
    go_quiet (fail)
    go_wp2
    go_ret2
    exact ⟨a, HA.out, rfl, (Only.refl _ _).drewN _⟩

theorem ttnew_name {w : World} {es : List Addr} (hes : ErrsOf w [0, 2, 3, 4, 5] es) {A : Option Addr} {n : Nat} (c : Nat) {ts : List (List UInt8)} (hs : TSrc w A n ts) (h1 : 1 ≤ n) (h8 : n ≤ 8) (h : ts.all okT = false) :
    Calls Tryz.prog 80 #[.slice A n c] w fun e w' => ∃ a, es[5]? = some a ∧ e = .returned (.tuple #[.pointer none, errV a]) ∧ Only (fun _ => False) w w' := by
  obtain ⟨a, ha, hc⟩ := hes.get 5 5 (by decide) rfl
  unfold errV at hc
  have HA := Lib.hid ha
  have HS := Lib.hid hs
  have HR := Lib.hid (fun W s => ttright_any W s)
  have HB := Lib.hid h
  clear ha hes hs h
  have hd : decide ((n : Int) < 1) = false := by simp; omega
  have hd2 : decide ((8 : Int) < (n : Int)) = false := by simp; omega
  go_enter Tryz.func80, Tryz.ntmps80
  go_wp2
  go_loop [17] (fun i => ∃ k : Nat, k ≤ n ∧ i = .int .i64 (k : Int) ∧ Hid (∀ t ∈ ts.take k, okT t = true)) (fun i => n - (intOf i).toNat)
  case atStart => exact ⟨0, Nat.zero_le _, rfl, fun t ht => by simp at ht⟩
  case round =>
    obtain ⟨k, hk, rfl, HD⟩ := hrel
    by_cases hlt : k < n
    · obtain ⟨ad, s, rfl, hx, hcs⟩ := HS.out.get hlt
      have HX := Lib.hid hx
      have HRs := Lib.hid (fun W => HR.out W s)
      clear hx
      cases ho : okT s with
      | true =>
        rw [ho] at HRs
        have HO := Lib.hid ho
        clear ho
        go_wp2_with (go_at_call 132; (with_reducible refine (HRs.out _).mono ?_); rintro e w1 ⟨rfl, e1⟩; subst w1)
        go_round
        case rel =>
          refine ⟨k + 1, by omega, by go_num, fun t ht => ?_⟩
          rw [take_snoc HX.out] at ht
          rcases List.mem_append.1 ht with h | h
          · exact HD.out t h
          · simp only [List.mem_singleton] at h
            subst h
            exact HO.out
        case measure => simp [intOf]; omega
      | false =>
        rw [ho] at HRs
        clear ho
        go_wp2_with (go_at_call 132; (with_reducible refine (HRs.out _).mono ?_); rintro e w1 ⟨rfl, e1⟩; subst w1)
        go_quiet (fail)
        go_wp2
        go_ret2
        exact ⟨a, HA.out, rfl, (Only.refl _ _).drewN _⟩
    · exfalso
      obtain rfl : k = n := by omega
      have hd := HD.out
      rw [← HS.out.1, List.take_length] at hd
      have : ts.all okT = true := by simpa using hd
      rw [HB.out] at this
      cases this

end Go.Proofs.YtbnfhklpobephaaGreatDoor
/- Within a block: a cycle's Next (from place 1 on). -/
namespace Go.Proofs.YtbnfhklpobephaaGreatDoor
open Go Go.RowKit
set_option maxRecDepth 100000
set_option maxHeartbeats 4000000

theorem cyNext_walk {w : World} {p mo n m c : Nat} {ad : Addr} {s : List UInt8} (h1 : 1 ≤ n) (h8 : n ≤ 8) (hm : m ≤ n) (c0 : w.cell? ⟨p, mo, none⟩ = some (.slice (some ad) n c)) (c1 : w.cell? ⟨p, mo + 1, none⟩ = some (.int .i64 (m : Int))) (hf : w.frozen? ⟨p, mo + 1, none⟩ = false)
    (c2 : w.cell? (ad.add (min m (n - 1))) = some (.string ⟨s.toArray⟩)) :
    Calls Tryz.prog 231 #[.pointer (some ⟨p, mo, none⟩)] w fun e w' => e = .returned (.string ⟨s.toArray⟩) ∧ ∃ N, w' = (w.drewN N).setCell ⟨p, mo + 1, none⟩ (.int .i64 (((m + 1) % (n + 1) : Nat) : Int)) := by
  obtain ⟨q, hq⟩ : ∃ q, q = min m (n - 1) := ⟨_, rfl⟩
  rw [← hq] at c2
  have hqn : q < n := by omega
  have e1 : IntKind.i64.wrap ((n : Int) - 1) = (n : Int) - 1 := IntWalk.i64_in _ (by omega)
  have e2 : min (m : Int) ((n : Int) - 1) = (q : Int) := by omega
  have hz : (n == 0) = false := by simp; omega
  obtain ⟨r, hr⟩ : ∃ r, r = (m + 1) % (n + 1) := ⟨_, rfl⟩
  rw [← hr]
  have hrn : r ≤ n := by rw [hr]; have := Nat.mod_lt (m + 1) (show 0 < n + 1 by omega); omega
  have e3 : ((m : Int) + 1).tmod ((n : Int) + 1) = (r : Int) := by
    rw [hr, Int.tmod_eq_emod_of_nonneg (by omega), Int.natCast_emod]
    rfl
  clear hq hr
  go_enter Tryz.func231, Tryz.ntmps231
  go_wp2
  go_quiet (fail)
  have c1' : (w.drewN nq).cell? ⟨p, mo + 1, none⟩ = some (.int .i64 (m : Int)) := c1
  have hf' : (w.drewN nq).frozen? ⟨p, mo + 1, none⟩ = false := hf
  go_wp2
  go_ret
  exact ⟨rfl, nq, rfl⟩

theorem cyNext_any {w : World} {p mo k c : Nat} {t : TypeId} {pre post : List Value} {A : Option Addr} {ts : List (List UInt8)} (hb : InB w p t pre post mo [.slice A ts.length c, .int .i64 ((k % (ts.length + 1) : Nat) : Int)]) (hs : TSrc w A ts.length ts) (h1 : 1 ≤ ts.length) (h8 : ts.length ≤ 8) :
    Calls Tryz.prog 231 #[.pointer (some ⟨p, mo, none⟩)] w fun e w' => e = .returned (.string ⟨(ansT ts k).toArray⟩) ∧ InB w' p t pre post mo [.slice A ts.length c, .int .i64 (((k + 1) % (ts.length + 1) : Nat) : Int)] ∧ Only (· = p) w w' := by
  have hg := ansT_get h1 k
  obtain ⟨ad, hA, hc⟩ := hs.2 (by omega)
  subst hA
  have hm : k % (ts.length + 1) ≤ ts.length := by have := Nat.mod_lt k (show 0 < ts.length + 1 by omega); omega
  refine (cyNext_walk (c := c) h1 h8 hm (hb.val (i := 0) rfl) (hb.val (i := 1) rfl) (hb.frozen (mo + 1)) (hc _ _ hg)).mono ?_
  rintro e w' ⟨rfl, N, rfl⟩
  rw [Nat.mod_add_mod]
  exact ⟨rfl, (hb.drewN N).setCell (i := 1) (by simp) _, ((Only.refl (· = p) w).drewN N).setCell (p := ⟨p, mo + 1, none⟩) (.inl rfl) _⟩
end Go.Proofs.YtbnfhklpobephaaGreatDoor
/- Types' bodies: Ask, Body, Parse. -/
namespace Go.Proofs.YtbnfhklpobephaaGreatDoor
open Go Go.RowKit
set_option maxRecDepth 100000
set_option maxHeartbeats 4000000

theorem ttask_any (w : World) : Calls Tryz.prog 217 #[] w fun e w' => e = .returned (.slice (some ⟨w.heap.size, 0, none⟩) 1 1) ∧ Hid (Src w' (some ⟨w.heap.size, 0, none⟩) 1 [1]) ∧ Hid (Only (fun _ => False) w w') := by
  go_enter Tryz.func217, Tryz.ntmps217
  go_wp2
  go_ret
  exact ⟨rfl, src_new w [1] _ 5 _ 1 rfl rfl, (Only.refl _ _).alloc _⟩

theorem strCells_map (s : List UInt8) : Lib.strCells ⟨s.toArray⟩ = s.map B8 := by
  unfold Lib.strCells
  rfl
section
variable {w : World} {es : List Addr} {A : Option Addr} {n : Nat} {b r : List UInt8} {c : UInt8}
theorem ttparse_short (hes : ErrsOf w [0, 2, 3, 4, 5] es) (A : Option Addr) (cap : Nat) :
    Calls Tryz.prog 219 #[.slice A 0 cap] w fun e w' => ∃ a, es[2]? = some a ∧ e = .returned (.tuple #[.string ⟨#[]⟩, .bool false, errV a]) ∧ Only (fun _ => False) w w' := by
  obtain ⟨a, ha, hc⟩ := hes.get 2 2 (by decide) rfl
  unfold errV at hc
  have HA := Lib.hid ha
  clear ha hes
  go_enter Tryz.func219, Tryz.ntmps219
  go_wp2
  go_quiet (fail)
  go_wp2
  go_ret3
  exact ⟨a, HA.out, rfl, (Only.refl _ _).drewN _⟩
theorem ttparse_long (hes : ErrsOf w [0, 2, 3, 4, 5] es) (cap : Nat) (hs : Src w A n (c :: r)) (hn : n ≤ 1048576) (hnc : n ≤ cap) (_hcap : cap ≤ 9223372036854775807) (h1 : c.toNat = 1) (hr : 0 < r.length) :
    Calls Tryz.prog 219 #[.slice A n cap] w fun e w' => ∃ a, es[3]? = some a ∧ e = .returned (.tuple #[.string ⟨#[]⟩, .bool false, errV a]) ∧ Only (fun _ => False) w w' := by
  obtain ⟨a, ha, hc⟩ := hes.get 3 3 (by decide) rfl
  unfold errV at hc
  have HA := Lib.hid ha
  obtain ⟨ad, rfl, c0, hl⟩ := hs.head
  rw [h1] at c0
  clear hs hes ha
  go_enter Tryz.func219, Tryz.ntmps219
  go_wp2
  go_quiet (fail)
  go_wp2
  go_ret3
  exact ⟨a, HA.out, rfl, (Only.refl _ _).drewN _⟩
theorem ttparse_form (hes : ErrsOf w [0, 2, 3, 4, 5] es) (cap : Nat) (hs : Src w A n (c :: r)) (hn : n ≤ 1048576) (_hnc : n ≤ cap) (_hcap : cap ≤ 9223372036854775807) (h1 : 1 < c.toNat) :
    Calls Tryz.prog 219 #[.slice A n cap] w fun e w' => ∃ a, es[4]? = some a ∧ e = .returned (.tuple #[.string ⟨#[]⟩, .bool false, errV a]) ∧ Only (fun _ => False) w w' := by
  obtain ⟨a, ha, hc⟩ := hes.get 4 4 (by decide) rfl
  unfold errV at hc
  have HA := Lib.hid ha
  obtain ⟨ad, rfl, c0, hl⟩ := hs.head
  have e1 : ((c.toNat : Int) == 1) = false := by simp; omega
  have e2 : ((c.toNat : Int) == 0) = false := by simp; omega
  obtain ⟨D, hD⟩ : ∃ D, (if cap = 1 then some ad else some ⟨ad.block, ad.off + 1, none⟩) = D := ⟨_, rfl⟩
  clear hs hes ha
  go_enter Tryz.func219, Tryz.ntmps219
  go_wp2
  go_quiet (fail)
  go_wp2
  go_ret3
  exact ⟨a, HA.out, rfl, (Only.refl _ _).drewN _⟩
theorem ttparse_asks (cap : Nat) (hs : Src w A n [c]) (hnc : n ≤ cap) (_hcap : cap ≤ 9223372036854775807) (h1 : c.toNat = 1) :
    Calls Tryz.prog 219 #[.slice A n cap] w fun e w' => e = .returned (.tuple #[.string ⟨#[]⟩, .bool true, .nilIface]) ∧ Only (fun _ => False) w w' := by
  obtain ⟨ad, rfl, c0, hl⟩ := hs.head
  rw [h1] at c0
  obtain rfl : n = 1 := hl
  obtain ⟨D, hD⟩ : ∃ D, (if cap = 1 then some ad else some ⟨ad.block, ad.off + 1, none⟩) = D := ⟨_, rfl⟩
  clear hs
  go_enter Tryz.func219, Tryz.ntmps219
  go_wp2
  go_ret3
  exact ⟨rfl, Only.refl _ _⟩
/-- What stands behind the first byte, as a text. -/
theorem rest_text (cap : Nat) (hs : Src w A n (c :: r)) {ad : Addr} (hA : A = some ad) {D : Option Addr} (hD : (if cap = 1 then some ad else some ⟨ad.block, ad.off + 1, none⟩) = D) (hnc : n ≤ cap) :
    (convert 45 9 (.slice D (n - 1) (cap - 1))).run Tryz.prog w = .ok (.string ⟨r.toArray⟩) w :=
  text_of (P := Tryz.prog) (hs.tail D (fun h1 ad' e => by
    rw [hA] at e
    injection e with e
    subst e
    rw [← hD, if_neg (by omega)]
    simp [Addr.add])) (cap - 1) 45 9 5 Tryz.underlying45 Tryz.underlying5 Tryz.underlying9
theorem ttparse_bad (hes : ErrsOf w [0, 2, 3, 4, 5] es) (cap : Nat) (hs : Src w A n (c :: r)) (hn : n ≤ 1048576) (hnc : n ≤ cap) (_hcap : cap ≤ 9223372036854775807) (h1 : c.toNat = 0) (ho : okT r = false) :
    Calls Tryz.prog 219 #[.slice A n cap] w fun e w' => ∃ a, es[5]? = some a ∧ e = .returned (.tuple #[.string ⟨#[]⟩, .bool false, errV a]) ∧ Only (fun _ => False) w w' := by
  obtain ⟨a, ha, hc⟩ := hes.get 5 5 (by decide) rfl
  unfold errV at hc
  have HA := Lib.hid ha
  have HR := Lib.hid (fun W => ttright_any W r)
  rw [ho] at HR
  obtain ⟨ad, hA, c0, hl⟩ := hs.head
  obtain ⟨D, hD⟩ : ∃ D, (if cap = 1 then some ad else some ⟨ad.block, ad.off + 1, none⟩) = D := ⟨_, rfl⟩
  have hT := rest_text cap hs hA hD hnc
  subst hA
  rw [h1] at c0
  have hn1 : 1 ≤ n := by omega
  clear hs hes ha ho hl
  go_enter Tryz.func219, Tryz.ntmps219
  go_wp2_with (go_at_call 132; (with_reducible refine (HR.out _).mono ?_); rintro e w1 ⟨rfl, e1⟩; subst w1)
  go_quiet (fail)
  go_wp2
  go_ret3
  exact ⟨a, HA.out, rfl, (Only.refl _ _).drewN _⟩
theorem ttparse_name (cap : Nat) (hs : Src w A n (c :: r)) (hn : n ≤ 1048576) (hnc : n ≤ cap) (_hcap : cap ≤ 9223372036854775807) (h1 : c.toNat = 0) (ho : okT r = true) :
    Calls Tryz.prog 219 #[.slice A n cap] w fun e w' => e = .returned (.tuple #[.string ⟨r.toArray⟩, .bool false, .nilIface]) ∧ Only (fun _ => False) w w' := by
  have HR := Lib.hid (fun W => ttright_any W r)
  rw [ho] at HR
  obtain ⟨ad, hA, c0, hl⟩ := hs.head
  obtain ⟨D, hD⟩ : ∃ D, (if cap = 1 then some ad else some ⟨ad.block, ad.off + 1, none⟩) = D := ⟨_, rfl⟩
  have hT := rest_text cap hs hA hD hnc
  subst hA
  rw [h1] at c0
  have hn1 : 1 ≤ n := by omega
  clear hs ho hl
  go_enter Tryz.func219, Tryz.ntmps219
  go_wp2_with (go_at_call 132; (with_reducible refine (HR.out _).mono ?_); rintro e w1 ⟨rfl, e1⟩; subst w1)
  go_ret3
  exact ⟨rfl, Only.refl _ _⟩
/-- Parse of any bytes. -/
theorem ttparse_any (hes : ErrsOf w [0, 2, 3, 4, 5] es) (cap : Nat) (hs : Src w A n b) (hn : n ≤ 1048576) (hnc : n ≤ cap) (hcap : cap ≤ 9223372036854775807) :
    ∃ E, ErrV es E (saysT b).2.2 ∧ Calls Tryz.prog 219 #[.slice A n cap] w fun e w' => e = .returned (.tuple #[.string ⟨(saysT b).1.toArray⟩, .bool (saysT b).2.1, E]) ∧ Only (fun _ => False) w w' := by
  have key : ∀ (i : Nat) (hi : i ∈ [0, 2, 3, 4, 5]) (g : Nat), errIds[i]? = some g → saysT b = ([], false, i + 1) → (Calls Tryz.prog 219 #[.slice A n cap] w fun e w' => ∃ a, es[i]? = some a ∧ e = .returned (.tuple #[.string ⟨#[]⟩, .bool false, errV a]) ∧ Only (fun _ => False) w w') →
      ∃ E, ErrV es E (saysT b).2.2 ∧ Calls Tryz.prog 219 #[.slice A n cap] w fun e w' => e = .returned (.tuple #[.string ⟨(saysT b).1.toArray⟩, .bool (saysT b).2.1, E]) ∧ Only (fun _ => False) w w' := by
    intro i hi g hg hb h
    obtain ⟨a, ha, _⟩ := hes.get i g hi hg
    rw [hb]
    refine ⟨errV a, ErrV.err ha _ rfl, h.mono ?_⟩
    rintro e w' ⟨a', ha', rfl, ho⟩
    rw [ha] at ha'
    injection ha' with ha'
    subst ha'
    exact ⟨rfl, ho⟩
  cases b with
  | nil =>
    obtain rfl : n = 0 := hs.1.symm
    exact key 2 (by decide) _ rfl rfl (ttparse_short hes A cap)
  | cons c r =>
    rcases (by omega : c.toNat = 1 ∨ 1 < c.toNat ∨ c.toNat = 0) with h | h | h
    · cases r with
      | nil =>
        have hb : saysT [c] = ([], true, 0) := by simp [saysT, h]
        rw [hb]
        exact ⟨_, ErrV.nil es, ttparse_asks cap hs hnc hcap h⟩
      | cons x r =>
        exact key 3 (by decide) _ rfl (by simp [saysT, h]) (ttparse_long hes cap hs hn hnc hcap h (by simp))
    · exact key 4 (by decide) _ rfl (by simp [saysT, h, show ¬ c.toNat = 1 from by omega]) (ttparse_form hes cap hs hn hnc hcap h)
    · cases ho : okT r with
      | false => exact key 5 (by decide) _ rfl (by simp [saysT, h, ho]) (ttparse_bad hes cap hs hn hnc hcap h ho)
      | true =>
        have hb : saysT (c :: r) = (r, false, 0) := by simp [saysT, h, ho]
        rw [hb]
        exact ⟨_, ErrV.nil es, ttparse_name cap hs hn hnc hcap h ho⟩
end
end Go.Proofs.YtbnfhklpobephaaGreatDoor
/- A hub hears a body of Ttype. -/
namespace Go.Proofs.YtbnfhklpobephaaGreatDoor
open Go Go.RowKit
set_option maxRecDepth 100000
set_option maxHeartbeats 4000000

/-- Body of a type, an own row. -/
theorem ttbody_own (w : World) {s : List UInt8} (h : okT s = true) :
    Calls Tryz.prog 230 #[.string ⟨s.toArray⟩] w fun e w' => ∃ A c, e = .returned (.tuple #[.slice A (s.length + 1) c, .nilIface]) ∧ Hid (Body w' w.heap.size (.slice A (s.length + 1) c) (0 :: s)) ∧ Hid (Only (fun _ => False) w w') := by
  have HR := Lib.hid (fun W => ttright_any W s)
  rw [h] at HR
  have hl := (okT_iff.1 h).2.1
  obtain ⟨i, hi, hz, h1, h2⟩ := info_parts info_byte
  have HE := Lib.hid (own_of_blk (B := w.heap.size) (c := 1) (s := 1) (n := 1) (xs := [.int .u8 0]) (Blk.new w 5 [.int .u8 0]) rfl rfl (by omega) (by omega) (Nat.le_refl _))
  obtain ⟨n, hn⟩ : ∃ n, n = s.length := ⟨_, rfl⟩
  have hsz : (ByteArray.mk s.toArray).size = n := by rw [hn]; rfl
  have HN := Lib.hid hn
  rw [← hn] at hl ⊢
  clear h hn
  go_enter Tryz.func230, Tryz.ntmps230
  go_wp2_with (first
    | (go_at_call 132; (with_reducible refine (HR.out _).mono ?_); rintro e w1 ⟨rfl, e1⟩; subst w1)
    | (at_builtin; refine Lib.wpList_append_own_string _ rfl _ _ 45 9 rfl w.heap.size 5 i Tryz.underlying45 Tryz.underlying9 hi hz h1 h2 _ 1 [.int .u8 0] rfl HE.out ⟨s.toArray⟩ rfl (by rw [hsz]; unfold maxLen; omega) (by rw [hsz]; omega) (by simp) ?_; intro v2 w2 hown hgr _; rw [hsz] at hown; obtain ⟨A2, c2, rfl, hle2, hm2⟩ := own_form hown; have HOw := Lib.hid hown; have HG := Lib.hid hgr; clear hown hgr))
  go_ret2
  rw [strCells_map] at HOw
  have hb : Body w2 w.heap.size (.slice A2 (1 + n) c2) (0 :: s) := by
    unfold Body
    have := HOw.out
    rw [List.length_cons, ← HN.out, Nat.add_comm n 1]
    exact this
  refine ⟨A2, c2, by rw [Nat.add_comm n 1]; rfl, ?_, ((Only.refl _ _).alloc _).grown HG.out (fun q hq => .inr (by cases hq; exact Nat.le_refl _))⟩
  rw [Nat.add_comm n 1]
  exact hb
theorem Body.one {w w' : World} {B N : Nat} {A : Option Addr} {n c : Nat} {b : List UInt8} {o : Int} (h : Body w B (.slice A n c) b) (hn : n = b.length) (ho : Only (fun _ => False) w w') (hb : Blk w' N 191 [.int .i64 o, .slice A n c]) (hB : B ≤ N) : One B w' (.slice (some ⟨N, 0, none⟩) 1 1) o b := by
  have hs := h.src hn
  have hf := own_form h
  subst hn
  obtain ⟨A2, c2, e, h1, h2⟩ := hf
  injection e with e1 e2 e3
  subst e1 e3
  refine ⟨N, A, b.length, c, rfl, hB, hb, hs.only ho (fun _ _ _ h => h), fun hn ad e => ?_, h1, h2⟩
  obtain ⟨g, e', hg, _⟩ := own_at h (by simpa using hn)
  rw [e] at e'
  injection e' with e'
  subst e'
  exact hg
/-- A cycle that tells these types, and has told k answers. -/
structure CyOk (w : World) (h : Hb) (ts : List (List UInt8)) (k : Nat) : Prop where
  ca : ∃ A c, h.ca = .slice A ts.length c ∧ TSrc w A ts.length ts
  ck : h.ck = ((k % (ts.length + 1) : Nat) : Int)
  one : 1 ≤ ts.length
  most : ts.length ≤ 8
  okT : ∀ t ∈ ts, okT t = true
theorem ansT_ok {ts : List (List UInt8)} (h : 1 ≤ ts.length) (ho : ∀ t ∈ ts, okT t = true) (k : Nat) : okT (ansT ts k) = true := ho _ (List.mem_of_getElem? (ansT_get (by omega) k))
section
variable {w : World} {es : List Addr} {A : Option Addr} {n : Nat} {b : List UInt8} {p q mo mq : Nat} {tp tq : TypeId} {pre post prq poq : List Value} {h : Hb} {ag : Nat → Nat → Bool} {T : Tb}
theorem huNext_any (k : HuAt w p mo tp pre post h) {ts : List (List UInt8)} {m : Nat} (hc : CyOk w h ts m) :
    Calls Tryz.prog 221 #[.pointer (some ⟨p, mo, none⟩)] w fun e w' => ∃ N, e = .returned (.tuple #[.slice (some ⟨N, 0, none⟩) 1 1, .nilIface]) ∧ Hid (One w.heap.size w' (.slice (some ⟨N, 0, none⟩) 1 1) 24 (0 :: ansT ts m)) ∧ Hid (HuAt w' p mo tp pre post { h with ck := (((m + 1) % (ts.length + 1) : Nat) : Int) }) ∧ Hid (Only (· = p) w w') := by
  obtain ⟨A, c, hA, hs⟩ := hc.ca
  have hin := k.cyc
  rw [hA, hc.ck] at hin
  have HN := Lib.hid (cyNext_any hin hs hc.one hc.most)
  have hok := ansT_ok hc.one hc.okT m
  have hl := (okT_iff.1 hok).2.1
  have HB := Lib.hid (fun W => ttbody_own W hok)
  have HT := Lib.hid (fun W A n c => tell_any W 24 A n c)
  have HOk := Lib.hid k.ok
  have HA := Lib.hid hA
  obtain ⟨s, hs⟩ : ∃ s, s = ansT ts m := ⟨_, rfl⟩
  rw [← hs] at HN HB hl ⊢
  clear k hc hin hok hA hs
  go_enter Tryz.func221, Tryz.ntmps221
  go_wp2_with (first
    | (go_at_call 231; (with_reducible refine HN.out.mono ?_); rintro e w1 ⟨rfl, hi1, ho1⟩; have HI1 := Lib.hid hi1; have HO1 := Lib.hid ho1; clear hi1 ho1)
    | (go_at_call 230; (with_reducible refine (HB.out _).mono ?_); rintro e w2 ⟨A2, c2, rfl, hb2, ho2⟩)
    | (go_at_call 212; (with_reducible refine (HT.out _ _ _ _).mono ?_); rintro e w3 ⟨rfl, hb3, ho3⟩))
  go_ret2
  have hsz := HO1.out.size
  refine ⟨_, rfl, ?_, ?_, ?_⟩
  · exact (Body.one hb2.out (by simp) ho3.out hb3.out ho2.out.size).low hsz
  · have := HuAt.of_cyc HOk.out ((HI1.out.same ho2.out).same ho3.out)
    rw [← HA.out] at this
    exact this
  · exact (HO1.out.trans ho2.out (fun _ h => h.elim)).trans ho3.out (fun _ h => h.elim)
end
end Go.Proofs.YtbnfhklpobephaaGreatDoor
