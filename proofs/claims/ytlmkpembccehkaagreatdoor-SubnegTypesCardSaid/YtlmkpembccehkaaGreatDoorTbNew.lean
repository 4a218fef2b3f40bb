
/- Package table: New. -/
import Derived.Test.YtlmkpembccehkaaGreatDoorQsTb
import Derived.Test.YtlmkpembccehkaaGreatDoorInts
namespace Go.Proofs.YtlmkpembccehkaaGreatDoor
open Go Go.RowKit
set_option maxRecDepth 100000
set_option maxHeartbeats 4000000

/-- What a policy agrees to. -/
def agOf (us hims : List Int) (s o : Nat) : Bool := (if s = 0 then us else hims).contains (o : Int)
theorem TbC.congr {cs : List Value} {ag ag' : Nat → Nat → Bool} {t : Tb} (h : TbC cs ag t) (e : ∀ s o, s < 2 → o < 256 → ag s o = ag' s o) : TbC cs ag' t :=
  ⟨h.len, h.kind, h.opp, fun i s o hs ho hi => by rw [h.agr i s o hs ho hi, e s o hs ho], h.heard, h.asked, h.sent⟩
theorem TbAt.congr {w : World} {p : Nat} {ag ag' : Nat → Nat → Bool} {t : Tb} (h : TbAt w p ag t) (e : ∀ s o, s < 2 → o < 256 → ag s o = ag' s o) : TbAt w p ag' t := by
  obtain ⟨cs, h, hc⟩ := h
  exact ⟨cs, h, hc.congr e⟩
/-- So far. -/
def agTo (us hims zs : List Int) (k j : Nat) (s o : Nat) : Bool := (decide (s < k) && agOf us hims s o) || (decide (s = k) && (zs.take j).contains (o : Int))
theorem contains_take (zs : List Int) (j : Nat) (z : Int) (h : zs[j]? = some z) (o : Int) : (zs.take (j + 1)).contains o = ((zs.take j).contains o || decide (o = z)) := by
  rw [List.take_add_one, h]
  simp [List.contains_eq_mem, Bool.decide_or]

theorem new_any {W : World} {A1 A2 : Option Addr} {n1 n2 : Nat} (c1 c2 : Nat) {us hims : List Int} (h1 : Ints W A1 n1 us) (h2 : Ints W A2 n2 hims) (hb1 : n1 ≤ 1000) (hb2 : n2 ≤ 1000) :
    Calls Tryz.prog 8 #[.agg #[.slice A1 n1 c1, .slice A2 n2 c2]] W fun e w' => ∃ p, e = .returned (.pointer (some ⟨p, 0, none⟩)) ∧ TbAt w' p (agOf us hims) Tb.zero ∧ W.heap.size ≤ p ∧ Only (fun _ => False) W w' := by
  have H1 := Lib.hid h1
  have H2 := Lib.hid h2
  clear h1 h2
  go_enter Tryz.func8, Tryz.ntmps8
  go_wp2_with (first
    | ((with_reducible show wpList _ _ _ (⟨some 8, _, _, _, _, _⟩ :: _) _ _); refine step_build rfl 96 #[] rfl tb0 built_table ?_)
    | ((with_reducible show wpList _ _ _ (⟨some 9, _, _, _, _, _⟩ :: _) _ _); refine step_box rfl 96 _ rfl tb0 rfl ?_)
    | fail)
  obtain ⟨p, hpp⟩ : ∃ p, p = W.heap.size + 1 := ⟨_, rfl⟩
  obtain ⟨W0, hW0⟩ : ∃ W0, W0 = (W.alloc (.cells #[.slice A1 n1 c1, .slice A2 n2 c2] 40)).alloc (.cells tb0.toArray 96) := ⟨_, rfl⟩
  have HT0 : Hid (TbAt W0 p (fun _ _ => false) Tb.zero) := ⟨tb0, by rw [hW0, hpp]; exact Blk.new' _ _ _ (by simp), tb0_c⟩
  have HO0 : Hid (Only (fun _ => False) W W0) := by rw [hW0]; exact ((Only.refl _ _).alloc _).alloc _
  have HPW : Hid (W.heap.size + 1 = p) := hpp.symm
  rw [← hpp, ← hW0]
  clear hpp hW0
  go_loopw [15] (fun i w => ∃ k : Nat, k ≤ 2 ∧ i = .int .i64 (k : Int) ∧ Hid (TbAt w p (fun s o => decide (s < k) && agOf us hims s o) Tb.zero ∧ Only (fun _ => False) W w)) (fun i _ => 2 - (intOf i).toNat)
  case atStart => exact ⟨0, by omega, rfl, HT0.out.congr (fun s o _ _ => by simp), HO0.out⟩
  case round =>
    obtain ⟨k, hk, rfl, hrel⟩ := hrel
    by_cases hlt : k < 2
    · obtain ⟨A, n, c, zs, hnb, hidx, hzs, hag⟩ : ∃ A n c zs, n ≤ 1000 ∧ (∀ w, (Instr.index 97 (.agg #[.slice A1 n1 c1, .slice A2 n2 c2]) (.int .i64 (k : Int))).run Tryz.prog w = .ok (.slice A n c) w) ∧ Ints W A n zs ∧ ∀ o : Nat, agOf us hims k o = zs.contains (o : Int) := by
        rcases (show k = 0 ∨ k = 1 by omega) with rfl | rfl
        · exact ⟨A1, n1, c1, us, hb1, fun w => by kernel_rfl, H1.out, fun o => by simp [agOf]⟩
        · exact ⟨A2, n2, c2, hims, hb2, fun w => by kernel_rfl, H2.out, fun o => by simp [agOf]⟩
      have HZ := Lib.hid hzs
      have HAg := Lib.hid hag
      have hk2 : (k : Int) < 2 := by omega
      clear hzs hag
      go_wp2
      obtain ⟨W1, hW1⟩ : ∃ W1, W1 = wr := ⟨_, rfl⟩
      subst hW1
      have HR := hrel
      clear hrel
      go_loopw [21] (fun i w => ∃ j : Nat, j ≤ n ∧ i = .int .i64 (j : Int) ∧ Hid (TbAt w p (agTo us hims zs k j) Tb.zero ∧ Only (fun _ => False) W w)) (fun i _ => n - (intOf i).toNat)
      case atStart => exact ⟨0, by omega, rfl, HR.out.1.congr (fun s o _ _ => by simp [agTo]), HR.out.2⟩
      case round =>
        clear HR
        obtain ⟨j, hj, rfl, hrel⟩ := hrel
        by_cases hjn : j < n
        · obtain ⟨z, hz⟩ : ∃ z, zs[j]? = some z := ⟨_, List.getElem?_eq_getElem (by rw [HZ.out.1]; exact hjn)⟩
          obtain ⟨ad, rfl, hcell⟩ := (HZ.out.only hrel.out.2 (fun _ _ _ h => h)).2 (by omega)
          have c0 := hcell j z hz
          have HZj := Lib.hid hz
          have hjn2 : (j : Int) < (n : Int) := by omega
          clear hcell hz
          by_cases hz : 0 ≤ z ∧ z ≤ 255
          · obtain ⟨o, rfl⟩ : ∃ o : Nat, z = (o : Int) := ⟨z.toNat, by omega⟩
            have ho : o < 256 := by omega
            have ho2 : (o : Int) < 256 := by omega
            have H3 : Hid (∀ W, Calls Tryz.prog 24 #[.int .i64 (o : Int)] W fun e w' => e = .returned (.bool true) ∧ w' = W) := fun W => by
              have := isOption_any W (o : Int)
              rwa [decide_eq_true (by omega)] at this
            obtain ⟨cs, hB, hC⟩ := hrel.out.1
            have ca : wr.cell? ⟨p, 1024 + k * 256 + o, none⟩ = some (.bool (agTo us hims zs k j k o)) := by rw [hB.cell]; exact hC.agr _ k o hlt ho (by omega)
            have fa := hB.frozen (1024 + k * 256 + o)
            have HB := Lib.hid hB
            have HC := Lib.hid hC
            obtain ⟨b, hb⟩ : ∃ b, b = agTo us hims zs k j k o := ⟨_, rfl⟩
            rw [← hb] at ca
            clear hB hC hz hb
            go_wp2_with (first
              | (go_at_call 24; refine (H3.out _).mono ?_; rintro e w' ⟨rfl, rfl⟩)
              | fail)
            go_roundw
            case rel =>
              refine ⟨j + 1, by omega, by go_num, ⟨_, HB.out.setCell _ _, (HC.out.setAg hlt ho (by omega) true).congr (fun s x _ _ => ?_)⟩, hrel.out.2.setCell (.inr (by have := HPW.out; show _ ≤ p; omega)) _⟩
              unfold agTo
              rw [contains_take zs j _ HZj.out]
              by_cases e1 : s = k
              · subst e1
                by_cases e2 : x = o
                · subst e2; simp
                · rw [if_neg (fun h => e2 h.2)]
                  have : decide ((x : Int) = (o : Int)) = false := decide_eq_false (by omega)
                  simp [this]
              · rw [if_neg (fun h => e1 h.1)]
                simp [e1]
            case measure => simp [intOf]; omega
          · have H3 : Hid (∀ W, Calls Tryz.prog 24 #[.int .i64 z] W fun e w' => e = .returned (.bool false) ∧ w' = W) := fun W => by
              have := isOption_any W z
              rwa [decide_eq_false hz] at this
            have HZn := Lib.hid hz
            clear hz
            go_wp2_with (first
              | (go_at_call 24; refine (H3.out _).mono ?_; rintro e w' ⟨rfl, rfl⟩)
              | fail)
            go_roundw
            case rel =>
              refine ⟨j + 1, by omega, by go_num, hrel.out.1.congr (fun s x _ hx => ?_), hrel.out.2⟩
              unfold agTo
              rw [contains_take zs j _ HZj.out]
              have : decide ((x : Int) = z) = false := decide_eq_false (fun e => HZn.out ⟨by omega, by omega⟩)
              simp [this]
            case measure => simp [intOf]; omega
        · obtain rfl : j = n := by omega
          go_wp2
          go_roundw
          case rel =>
            refine ⟨k + 1, by omega, by go_num, hrel.out.1.congr (fun s x _ _ => ?_), hrel.out.2⟩
            unfold agTo
            rw [List.take_of_length_le (Nat.le_of_eq HZ.out.1), ← HAg.out]
            by_cases e1 : s = k
            · subst e1; simp
            · have : decide (s < k + 1) = decide (s < k) := decide_eq_decide.2 (by omega)
              simp [e1, this]
          case measure => simp [intOf]; omega
    · obtain rfl : k = 2 := by omega
      go_wp2
      go_ret
      exact ⟨p, rfl, hrel.out.1.congr (fun s x hs _ => by simp [hs]), by have := HPW.out; omega, hrel.out.2⟩
end Go.Proofs.YtlmkpembccehkaaGreatDoor
