/- Several texts in one. -/
import Derived.Test.YtbnfhklpobephaaGreatDoorJTexts
import Derived.Test.YtbnfhklpobephaaGreatDoorJSc
import Derived.Test.YtbnfhklpobephaaGreatDoorJSnIn
import Derived.BigQuiet
import Derived.Deep.RegionHeld3
import Derived.LaidEql
import Derived.LaidLaws
import Derived.Stop.Asserts
import Derived.RowKitTokens
import Derived.Outline
/- Lists of types, within a block from place 7 on: Take, Names, ends. -/
namespace Go.Proofs.YtbnfhklpobephaaGreatDoor
open Go Go.RowKit
set_option maxRecDepth 100000
set_option maxHeartbeats 4000000

/-- A list in memory. -/
structure LiAt (w : World) (p mo : Nat) (t : TypeId) (pre post : List Value) (l : Ls) : Prop where
  ok : l.Ok
  blk : InB w p t pre post mo (cellsL l)
section
variable {w w' : World} {p mo : Nat} {t : TypeId} {pre post : List Value} {l : Ls}
theorem LiAt.same (h : LiAt w p mo t pre post l) (ho : Only (fun _ => False) w w') : LiAt w' p mo t pre post l := ⟨h.ok, h.blk.same ho⟩
theorem LiAt.only {S : Nat → Prop} (h : LiAt w p mo t pre post l) (ho : Only S w w') (hS : ¬ S p) : LiAt w' p mo t pre post l := ⟨h.ok, h.blk.only ho hS⟩
theorem LiAt.at8 (h : LiAt w p mo t pre post l) : w.cell? ⟨p, mo + 8, none⟩ = some (.int .i64 (l.names.length : Int)) := h.blk.val (cellsL_count h.ok)
theorem LiAt.at9 (h : LiAt w p mo t pre post l) : w.cell? ⟨p, mo + 9, none⟩ = some (.bool l.whole) := h.blk.val (cellsL_whole h.ok)
theorem LiAt.src (h : LiAt w p mo t pre post l) : TSrc w (some ⟨p, mo, none⟩) l.names.length l.names := ⟨rfl, fun _ => ⟨_, rfl, fun j x hj => by
  rw [show (⟨p, mo, none⟩ : Addr).add j = ⟨p, mo + j, none⟩ from by unfold Addr.add; split <;> simp_all]
  exact h.blk.val (cellsL_name hj)⟩⟩

theorem liEnds_any (h : LiAt w p mo t pre post l) (s : List UInt8) : Calls Tryz.prog 232 #[.pointer (some ⟨p, mo, none⟩), .string ⟨s.toArray⟩] w fun e w' => e = .returned (.bool (decide (l.names.getLast? = some s))) ∧ Only (fun _ => False) w w' := by
  have c8 := h.at8
  have h8 := h.ok.most
  obtain ⟨n, hn⟩ : ∃ n, n = l.names.length := ⟨_, rfl⟩
  rw [← hn] at c8 h8
  rcases Nat.eq_zero_or_pos n with h0 | h0
  · have hl : l.names = [] := List.eq_nil_of_length_eq_zero (by omega)
    rw [hl]
    clear hn hl h
    subst h0
    go_enter Tryz.func232, Tryz.ntmps232
    go_wp2
    go_quiet (fail)
    go_wp2
    go_ret
    exact ⟨rfl, (Only.refl _ _).drewN _⟩
  · obtain ⟨j, rfl⟩ : ∃ j, n = j + 1 := ⟨n - 1, by omega⟩
    have hx : l.names[j]? = some (l.names[j]'(by omega)) := List.getElem?_eq_getElem _
    obtain ⟨x, hx'⟩ : ∃ x, x = l.names[j]'(by omega) := ⟨_, rfl⟩
    rw [← hx'] at hx
    have hlast : l.names.getLast? = some x := by rw [List.getLast?_eq_getElem?, ← hn, Nat.add_sub_cancel, hx]
    have cj := h.blk.val (cellsL_name hx)
    rw [hlast]
    obtain ⟨b, hb⟩ : ∃ b, (x == s) = b := ⟨_, rfl⟩
    have hb2 : decide (some x = some s) = b := by
      rw [← hb]
      by_cases he : x = s
      · subst he; simp
      · rw [decide_eq_false (by simpa using he)]; simp [he]
    rw [hb2]
    have e1 : IntKind.i64.wrap (((j + 1 : Nat) : Int) - 1) = (j : Int) := (IntWalk.i64_in _ (by omega)).trans (by omega)
    have hd : decide ((0 : Int) < ((j + 1 : Nat) : Int)) = true := by simp
    obtain ⟨J, hJ⟩ : ∃ J : Int, J = ((j + 1 : Nat) : Int) := ⟨_, rfl⟩
    have hj8 : j < 8 := by omega
    rw [← hJ] at c8 e1 hd
    clear hx hx' hlast hb2 hn h hJ h0
    cases b
    all_goals
      go_enter Tryz.func232, Tryz.ntmps232
      go_wp2
      go_quiet (fail)
      go_wp2
      go_ret
      exact ⟨rfl, (Only.refl _ _).drewN _⟩

theorem liTake_any (h : LiAt w p mo t pre post l) (s : List UInt8) : Calls Tryz.prog 222 #[.pointer (some ⟨p, mo, none⟩), .string ⟨s.toArray⟩] w fun e w' => e = .returned (.bool (l.take s).whole) ∧ LiAt w' p mo t pre post (l.take s) ∧ Only (· = p) w w' := by
  have c9 := h.at9
  have HR := Lib.hid (fun W => ttright_any W s)
  have HE := Lib.hid (liEnds_any h s)
  cases hw : l.whole with
  | true =>
    rw [hw] at c9
    rw [Ls.take_full hw, hw]
    have H := Lib.hid h
    clear h hw HE HR
    go_enter Tryz.func222, Tryz.ntmps222
    go_wp2
    go_ret
    exact ⟨rfl, H.out, Only.refl _ _⟩
  | false =>
    rw [hw] at c9
    cases ho : okT s with
    | false =>
      rw [Ls.take_bad ho, hw]
      rw [ho] at HR
      have H := Lib.hid h
      clear h hw HE ho
      go_enter Tryz.func222, Tryz.ntmps222
      go_wp2_with (go_at_call 132; (with_reducible refine (HR.out _).mono ?_); rintro e w1 ⟨rfl, e1⟩; subst w1)
      go_ret
      exact ⟨rfl, H.out, Only.refl _ _⟩
    | true =>
      rw [ho] at HR
      have HOk : Hid (l.take s).Ok := h.ok.take s
      by_cases hl : l.names.getLast? = some s
      · rw [Ls.take_end hw ho hl] at HOk ⊢
        rw [decide_eq_true hl] at HE
        have H := Lib.hid h
        have HW := Lib.hid c9
        clear h hw ho hl c9
        have HB : ∀ W, Only (fun _ => False) w W → LiAt W p mo t pre post l := fun W ho => H.out.same ho
        have HB := Lib.hid HB
        go_enter Tryz.func222, Tryz.ntmps222
        have c9 : w.cell? ⟨p, mo + 9, none⟩ = some (.bool false) := HW.out
        go_wp2_with (first
          | (go_at_call 132; (with_reducible refine (HR.out _).mono ?_); rintro e w1 ⟨rfl, e1⟩; subst w1)
          | (go_at_call 232; (with_reducible refine HE.out.mono ?_); rintro e w2 ⟨rfl, ho2⟩; have c9' : w2.cell? ⟨p, mo + 9, none⟩ = some (.bool false) := (ho2.cellv HW.out (fun h => h)); have f9 := (HB.out w2 ho2).blk.frozen (mo + 9); have HO2 := Lib.hid ho2; clear ho2))
        go_ret
        refine ⟨rfl, ⟨HOk.out, ?_⟩, HO2.out.mono (fun _ h => h.elim) |>.trans ((Only.refl (· = p) w2).setCell (p := ⟨p, mo + 9, none⟩) (.inl rfl) _) (fun i hi => .inl hi)⟩
        have := (HB.out w2 HO2.out).blk.setCell (i := 9) (by rw [cellsL_len H.out.ok]; omega) (.bool true)
        rw [cellsL_end H.out.ok] at this
        exact this
      · rw [Ls.take_new hw ho hl] at HOk ⊢
        rw [decide_eq_false hl] at HE
        have hroom := h.ok.room hw
        have h8 := h.at8
        have hv : ∃ v, w.cell? ⟨p, mo + l.names.length, none⟩ = some v := by
          rw [h.blk.cell (by rw [cellsL_len h.ok]; omega)]
          exact ⟨_, List.getElem?_eq_getElem (by rw [cellsL_len h.ok]; omega)⟩
        obtain ⟨v, hv⟩ := hv
        obtain ⟨n, hn⟩ : ∃ n, n = l.names.length := ⟨_, rfl⟩
        have HN := Lib.hid hn
        rw [← hn] at h8 hv hroom ⊢
        have H := Lib.hid h
        have HW := Lib.hid c9
        have HV := Lib.hid hv
        have H8 := Lib.hid h8
        obtain ⟨b, hb⟩ : ∃ b, b = decide (n + 1 = 8) := ⟨_, rfl⟩
        have hb1 : (((n : Int) + 1) == 8) = b := by
          rw [hb]
          by_cases he : n + 1 = 8
          · rw [decide_eq_true he]; simp; omega
          · rw [decide_eq_false he]; simp; omega
        have HBb := Lib.hid hb
        have HB : ∀ W, Only (fun _ => False) w W → LiAt W p mo t pre post l := fun W ho => H.out.same ho
        have HB := Lib.hid HB
        clear h hw ho hl hn hv h8 hb
        go_enter Tryz.func222, Tryz.ntmps222
        go_wp2_with (first
          | (go_at_call 132; (with_reducible refine (HR.out _).mono ?_); rintro e w1 ⟨rfl, e1⟩; subst w1)
          | (go_at_call 232; (with_reducible refine HE.out.mono ?_); rintro e w2 ⟨rfl, ho2⟩; have c9' := (ho2.cellv HW.out (fun h => h)); have c8' := (ho2.cellv H8.out (fun h => h)); have cn' := (ho2.cellv HV.out (fun h => h)); have f9 := (HB.out w2 ho2).blk.frozen (mo + 9); have f8 := (HB.out w2 ho2).blk.frozen (mo + 8); have fn := (HB.out w2 ho2).blk.frozen (mo + n); have HO2 := Lib.hid ho2; clear ho2 c9))
        go_region
        have hB3 : InB (w2.setCell ⟨p, mo + n, none⟩ (.string ⟨s.toArray⟩)).drew p t pre post mo ((cellsL l).set n (S8 s)) := ((HB.out w2 HO2.out).blk.setCell (i := n) (by rw [cellsL_len H.out.ok]; omega) (S8 s)).drew
        have hO3 : Only (· = p) w (w2.setCell ⟨p, mo + n, none⟩ (.string ⟨s.toArray⟩)).drew := ((HO2.out.mono (T := (· = p)) (fun _ h => h.elim)).setCell (p := ⟨p, mo + n, none⟩) (.inl rfl) _).drew
        generalize (w2.setCell ⟨p, mo + n, none⟩ (.string ⟨s.toArray⟩)).drew = W3 at *
        have HB3 := Lib.hid hB3
        have HO3 := Lib.hid hO3
        clear c9' c8' cn' f9 f8 fn hB3 hO3
        have c8 : W3.cell? ⟨p, mo + 8, none⟩ = some (.int .i64 (n : Int)) := by
          refine HB3.out.val (i := 8) ?_
          rw [List.getElem?_set_ne (by omega), cellsL_count H.out.ok, ← HN.out]
        have f8 := HB3.out.frozen (mo + 8)
        have HC9 : ∃ v, W3.cell? ⟨p, mo + 9, none⟩ = some v := by
          refine ⟨.bool l.whole, HB3.out.val (i := 9) ?_⟩
          rw [List.getElem?_set_ne (by omega), cellsL_whole H.out.ok]
        obtain ⟨v9, c9⟩ := HC9
        have f9 := HB3.out.frozen (mo + 9)
        go_wp2
        go_ret
        have hB := (HB3.out.setCell (i := 8) (by rw [List.length_set, cellsL_len H.out.ok]; omega) (.int .i64 ((n : Int) + 1))).setCell (i := 9) (by rw [List.length_set, List.length_set, cellsL_len H.out.ok]; omega) (.bool b)
        rw [HN.out, cellsL_new H.out.ok (by rw [← HN.out]; exact hroom), ← HN.out] at hB
        rw [HBb.out] at hB ⊢
        refine ⟨rfl, ⟨?_, hB⟩, (HO3.out.setCell (p := ⟨p, mo + 8, none⟩) (.inl rfl) _).setCell (p := ⟨p, mo + 9, none⟩) (.inl rfl) _⟩
        have := HOk.out
        rw [← HN.out] at this
        exact this
end
end Go.Proofs.YtbnfhklpobephaaGreatDoor
/- Masks: which numbers they are, what two of them share, their bits as the machine has them, their words, what a body says: as plain functions. -/
namespace Go.Proofs.YtbnfhklpobephaaGreatDoor
open Go Go.RowKit
set_option maxRecDepth 100000
set_option maxHeartbeats 4000000

/-- A mask: of the numbers from 0 to 31 those without 4. -/
def isMask (m : Int) : Bool := decide (0 ≤ m ∧ m < 32 ∧ m % 8 < 4)
theorem isMask_iff {m : Int} : isMask m = true ↔ 0 ≤ m ∧ m < 32 ∧ m % 8 < 4 := by simp [isMask]
/-- What holds of sixteen numbers holds of every mask. -/
theorem mask_all {p : Int → Prop} (h : ∀ n : Fin 28, isMask (n.val : Int) = true → p (n.val : Int)) {m : Int} (hm : isMask m = true) : p m := by
  have h1 := isMask_iff.1 hm
  have h2 : m < 28 := by omega
  have := h ⟨m.toNat, by omega⟩ (by rw [show ((⟨m.toNat, by omega⟩ : Fin 28).val : Int) = m from by simp; omega]; exact hm)
  rwa [show ((⟨m.toNat, by omega⟩ : Fin 28).val : Int) = m from by simp; omega] at this

/-- A number that a machine's word holds. -/
def In64 (m : Int) : Prop := -9223372036854775808 ≤ m ∧ m ≤ 9223372036854775807

theorem wrap_of (x : BitVec 64) : IntKind.wrap .i64 (x.toNat : Int) = x.toInt := by
  have hx := x.isLt
  rw [IntWalk.i64_left, BitVec.toInt_eq_toNat_bmod, Int.bmod_def]
  unfold wrap64
  omega
theorem and_not_part (x m : BitVec 64) (h : x &&& ~~~m = 0#64) : x &&& m = x := by
  apply BitVec.eq_of_getLsbD_eq
  intro i hi
  have h1 := congrArg (fun y => BitVec.getLsbD y i) h
  simp [hi] at h1 ⊢
  exact h1
/-- A part of 27. -/
theorem part_mask (x : BitVec 64) (h : x &&& 27#64 = x) : isMask x.toInt = true := by
  have h1 := congrArg BitVec.toNat h
  rw [BitVec.toNat_and] at h1
  have h27 : (27#64).toNat = 27 := rfl
  rw [h27] at h1
  have hle : x.toNat ≤ 27 := by rw [← h1]; exact Nat.and_le_right
  have e : x.toInt = (x.toNat : Int) := by rw [BitVec.toInt_eq_toNat_of_lt (by omega)]
  rw [e]
  have key : ∀ n : Fin 28, n.val &&& 27 = n.val → isMask (n.val : Int) = true := by decide +kernel
  exact key ⟨x.toNat, by omega⟩ h1

/-- Whether a number has bits beside the mask's. -/
theorem right_bits {m : Int} (hm : In64 m) : (bits .andNot .i64 m 27 == 0) = isMask m := by
  cases h : isMask m with
  | true =>
    have key : ∀ n : Fin 28, isMask (n.val : Int) = true → (bits .andNot .i64 (n.val : Int) 27 == 0) = true := by decide +kernel
    exact mask_all (p := fun m => (bits .andNot .i64 m 27 == 0) = true) key h
  | false =>
    rw [Bool.eq_false_iff]
    intro hb
    rw [beq_iff_eq] at hb
    have e : bits .andNot .i64 m 27 = IntKind.wrap .i64 ((BitVec.ofInt 64 m &&& ~~~(27#64)).toNat : Int) := rfl
    rw [e, wrap_of] at hb
    have hz : BitVec.ofInt 64 m &&& ~~~(27#64) = 0#64 := BitVec.eq_of_toInt_eq (by rw [hb]; rfl)
    have hp := part_mask _ (and_not_part _ _ hz)
    rw [BitVec.toInt_ofInt, show (m.bmod (2 ^ 64)) = m from by unfold In64 at hm; rw [Int.bmod_def]; omega] at hp
    rw [hp] at h
    cases h

/-- What a tail that was told a number can do. -/
def canOf (can : Int) : Int := bits .and .i64 can 27
theorem canOf_mask (can : Int) : isMask (canOf can) = true := by
  have e : canOf can = IntKind.wrap .i64 ((BitVec.ofInt 64 can &&& 27#64).toNat : Int) := rfl
  rw [e, wrap_of]
  refine part_mask _ ?_
  rw [BitVec.and_assoc, BitVec.and_self]
/-- The bits, in the order of their words. -/
def bitV : Nat → Int
  | 0 => 1
  | 1 => 2
  | 2 => 8
  | _ => 16
/-- Whether a mask has a bit. -/
def hasB (m : Int) (k : Nat) : Bool := decide (m / bitV k % 2 = 1)
/-- The bits that are in both, as far as so many. -/
def bothTo (a b : Int) : Nat → Int
  | 0 => 0
  | k + 1 => bothTo a b k + (if hasB a k && hasB b k then bitV k else 0)
/-- What two masks share. -/
def both (a b : Int) : Int := bothTo a b 4
theorem and_both {a b : Int} (ha : isMask a = true) (hb : isMask b = true) : bits .and .i64 a b = both a b := by
  have key : ∀ x : Fin 28, isMask (x.val : Int) = true → ∀ y : Fin 28, isMask (y.val : Int) = true → bits .and .i64 (x.val : Int) (y.val : Int) = both (x.val : Int) (y.val : Int) := by decide +kernel
  exact mask_all (p := fun a => ∀ b, isMask b = true → bits .and .i64 a b = both a b) (fun x hx b hb => mask_all (p := fun b => bits .and .i64 (x.val : Int) b = both (x.val : Int) b) (fun y hy => key x hx y hy) hb) ha b hb
theorem both_mask {a b : Int} (ha : isMask a = true) (hb : isMask b = true) : isMask (both a b) = true := by
  have key : ∀ x : Fin 28, isMask (x.val : Int) = true → ∀ y : Fin 28, isMask (y.val : Int) = true → isMask (both (x.val : Int) (y.val : Int)) = true := by decide +kernel
  exact mask_all (p := fun a => ∀ b, isMask b = true → isMask (both a b) = true) (fun x hx b hb => mask_all (p := fun b => isMask (both (x.val : Int) b) = true) (fun y hy => key x hx y hy) hb) ha b hb
/-- A mask with Ack. -/
theorem or_four {m : Int} (hm : isMask m = true) : bits .or .i64 m 4 = m + 4 := by
  have key : ∀ n : Fin 28, isMask (n.val : Int) = true → bits .or .i64 (n.val : Int) 4 = (n.val : Int) + 4 := by decide +kernel
  exact mask_all (p := fun m => bits .or .i64 m 4 = m + 4) key hm

/-- A number without 4. -/
def clr (y : Nat) : Int := if y / 4 % 2 = 1 then (y : Int) - 4 else y
def ackB (y : Nat) : Bool := decide (y / 4 % 2 = 1)
theorem clr_bits (y : Nat) (hy : y < 256) : bits .andNot .i64 (y : Int) 4 = clr y := by
  have key : ∀ n : Fin 256, bits .andNot .i64 (n.val : Int) 4 = clr n.val := by decide +kernel
  exact key ⟨y, hy⟩
theorem clr_in (y : Nat) (hy : y < 256) : 0 ≤ clr y ∧ clr y ≤ 255 := by
  unfold clr
  split <;> omega
theorem ack_ne (y : Nat) (hy : y < 256) : ((y : Int) != clr y) = ackB y := by
  have key : ∀ n : Fin 256, ((n.val : Int) != clr n.val) = ackB n.val := by decide +kernel
  exact key ⟨y, hy⟩
/-- What a body says: the mask, whether it has Ack, the error's number. -/
def saysM : List UInt8 → Int × Bool × Nat
  | [] => (0, false, 3)
  | [_] => (0, false, 3)
  | [x, y] => if x.toNat = 1 then (if isMask (clr y.toNat) then (clr y.toNat, ackB y.toNat, 0) else (0, false, 5)) else (0, false, 9)
  | _ => (0, false, 4)
/-- A mask's body. -/
def bodyM (m : Int) : List UInt8 := [1, b8 m]
theorem saysM_mask : ∀ {b : List UInt8}, (saysM b).2.2 = 0 → isMask (saysM b).1 = true
  | [], h => by simp [saysM] at h
  | [_], h => by simp [saysM] at h
  | [x, y], h => by
    rw [saysM] at h ⊢
    by_cases h1 : x.toNat = 1
    · rw [if_pos h1] at h ⊢
      cases h2 : isMask (clr y.toNat) with
      | true =>
        rw [if_pos rfl]
        exact h2
      | false =>
        rw [h2] at h
        simp at h
    · rw [if_neg h1] at h
      simp at h
  | _ :: _ :: _ :: _, h => by simp [saysM] at h

end Go.Proofs.YtbnfhklpobephaaGreatDoor
/- Errors of package api, where a seat has some of the sixteen alone: what the program's text lays. -/
namespace Go.Proofs.YtbnfhklpobephaaGreatDoor
open Go Go.ChangeShapes Go.WideShapes Go.ChangeAt Go.RowKit Go.Extern.Stop Go.Stop Go.Extern

/-- An error of errors.New's make, es a value. -/
def errV (a : Addr) : Value := .iface 409 (.pointer (some a))

theorem star : "*" ++ "errors.errorString" = "*errors.errorString" := by decide
theorem rowErr (u : TypeId) (h : Tryz.prog.typeName? 3 u = some "*errors.errorString") : u = 409 :=
  typeName_ptr_named (nm := "errors.errorString") (by rw [star]; kernel_rfl) (by kernel_rfl) (by decide) u (by rw [star]; exact h)

set_option maxRecDepth 100000 in
/-- What a list of such variables gives: of each the cell that holds it, and its own row of cells; no two are one. -/
theorem laid_list {W : World} : ∀ (laid : List (String × DataW Unit)) (ps : List MemPlace), DataW.LaidVars Tryz.prog W laid ps →
    (∀ x ∈ laid, ∃ text, x.2 = .iface "*errors.errorString" (.ptr (.agg [.lit (.string text)]))) →
    (∀ x ∈ laid, ∀ g, Tryz.prog.globalNamed x.1 = some g → (Tryz.prog.globals[g]?).map (·.type) = some 38) →
    (∀ b off, MemPlace.cell b off ∈ ps → (∃ c t, W.heap[b]? = some (.cells c t (0, 0))) ∧ ∀ u v, W.cell? ⟨b, off, none⟩ = some (.iface u v) → Value.okWide Tryz.prog W .any 0 u v) → ps.Nodup →
    ∃ es : List Addr, es.length = laid.length ∧ es.Nodup ∧ (∀ a ∈ es, MemPlace.cell a.block a.off ∈ ps) ∧
      ∀ (i : Nat) (x : String × DataW Unit) (a : Addr), laid[i]? = some x → es[i]? = some a → ∃ g, Tryz.prog.globalNamed x.1 = some g ∧ W.cell? ⟨g, 0, none⟩ = some (errV a) ∧ ∃ c t, W.heap[a.block]? = some (.cells c t (0, 0))
  | [], ps, _, _, _, _, _ => ⟨[], rfl, List.nodup_nil, (fun _ h => by cases h), (fun i x a h => by cases h)⟩
  | (n, d) :: r, ps, h, hk, ht, hrows, hnd => by
    obtain ⟨g, t, cs, fuel, p, q, hg, hty, hv, hd, hr, rfl⟩ := h
    obtain rfl := Option.some.inj ((ht _ (List.mem_cons_self ..) g hg).symm.trans hty)
    obtain ⟨text, htext⟩ := hk _ (List.mem_cons_self ..)
    simp only at htext
    subst htext
    have hcell := World.var?_cell hg hv 0
    obtain ⟨l⟩ := cs
    have ok : ∀ u v, l = [.iface u v] → Value.okWide Tryz.prog W .any 0 u v := fun u v e => by
      subst e
      exact (hrows g 0 (by simp [MemPlace.row])).2 u v (by simpa using hcell)
    obtain ⟨a, s, rfl, _, _, _, rfl⟩ := errorString_of_trod Tryz.underlying38 rowErr Tryz.underlying409 Tryz.underlying434 rfl rfl Tryz.underlying9 (by kernel_rfl) (by kernel_rfl) hd ok
    obtain ⟨hn1, hn2, hn3⟩ := List.nodup_append.1 hnd
    obtain ⟨es, h1, h2, h3, h4⟩ := laid_list r q hr (fun x hx => hk x (List.mem_cons_of_mem _ hx)) (fun x hx => ht x (List.mem_cons_of_mem _ hx)) (fun b off hb => hrows b off (List.mem_append_right _ hb)) hn2
    refine ⟨a :: es, by simp [h1], List.nodup_cons.2 ⟨fun ha => ?_, h2⟩, fun b hb => ?_, fun i x b hx hb => ?_⟩
    · exact hn3 (MemPlace.cell a.block a.off) (List.mem_append_right _ (by simp [MemPlace.row])) _ (h3 a ha) rfl
    · rcases List.mem_cons.1 hb with rfl | hb
      · exact List.mem_append_left _ (List.mem_append_right _ (by simp [MemPlace.row]))
      · exact List.mem_append_right _ (h3 b hb)
    · match i, hx, hb with
      | 0, hx, hb =>
        simp only [List.getElem?_cons_zero, Option.some.injEq] at hx hb
        subst hx hb
        exact ⟨g, hg, by simpa [errV] using hcell, (hrows a.block a.off (List.mem_append_left _ (List.mem_append_right _ (by simp [MemPlace.row])))).1⟩
      | i + 1, hx, hb => exact h4 i x b (by simpa using hx) (by simpa using hb)

/-- The variables, by their numbers; beyond 1000: those that this seat lacks. -/
def errIds : List Nat := [0, 1000001, 2, 3, 4, 5, 6, 7, 8, 9, 1000010, 1000011, 1000012, 1000013, 1000014, 1000015]

/-- The errors that this seat has lie where they were laid. -/
structure ErrsAt (W : World) (es : List Addr) : Prop where
  len : es.length = 16
  at_ : ∀ (i g : Nat) (a : Addr) (_ : errIds[i]? = some g) (_ : es[i]? = some a) (_ : g < 1000 := by decide), W.cell? ⟨g, 0, none⟩ = some (errV a)
theorem ErrsAt.only {W W' : World} {es : List Addr} (h : ErrsAt W es) (ho : Only (fun _ => False) W W') : ErrsAt W' es :=
  ⟨h.len, fun i g a hi ha hg => ho.cellv (h.at_ i g a hi ha hg) (fun h => h)⟩
end Go.Proofs.YtbnfhklpobephaaGreatDoor
/- A seat without truchmannum.Num. -/
namespace Go.Proofs.YtbnfhklpobephaaGreatDoor
end Go.Proofs.YtbnfhklpobephaaGreatDoor
/- Of the sixteen errors those that a row lists, whichever: each by its number. -/
namespace Go.Proofs.YtbnfhklpobephaaGreatDoor
open Go Go.ChangeShapes Go.WideShapes Go.ChangeAt Go.RowKit

/-- Of the sixteen errors those of sel lie where they were laid. -/
structure ErrsOf (W : World) (sel : List Nat) (es : List Addr) : Prop where
  len : es.length = 16
  at_ : ∀ i ∈ sel, ∀ (g : Nat) (a : Addr), errIds[i]? = some g → es[i]? = some a → W.cell? ⟨g, 0, none⟩ = some (errV a)
theorem ErrsAt.of {W : World} {es : List Addr} (h : ErrsAt W es) (sel : List Nat) (hs : (sel.all fun i => decide (errIds.getD i 0 < 1000)) = true := by decide) : ErrsOf W sel es :=
  ⟨h.len, fun i hi g a hg ha => h.at_ i g a hg ha (by
    have h1 := List.all_eq_true.1 hs i hi
    rw [List.getD_eq_getElem?_getD, hg] at h1
    simpa using h1)⟩
/-- All that this seat has. -/
def errSel : List Nat := [0, 2, 3, 4, 5, 6, 7, 8, 9]
theorem ErrsOf.all {W : World} {es : List Addr} (h : ErrsOf W errSel es) : ErrsAt W es :=
  ⟨h.len, fun i g a hg ha hlt => h.at_ i (by
    have hi : i < 16 := by
      have := (List.getElem?_eq_some_iff.1 hg).1
      exact this
    have key : ∀ i < 16, errIds.getD i 0 < 1000 → i ∈ errSel := by decide
    refine key i hi ?_
    rw [List.getD_eq_getElem?_getD, hg]
    exact hlt) g a hg ha⟩
theorem ErrsOf.only {W W' : World} {sel : List Nat} {es : List Addr} (h : ErrsOf W sel es) (ho : Only (fun _ => False) W W') : ErrsOf W' sel es :=
  ⟨h.len, fun i hi g a hg ha => ho.cellv (h.at_ i hi g a hg ha) (fun h => h)⟩
/-- What may turn isn't what is listed: it was made later. -/
theorem ErrsOf.from_ {W W' : World} {sel : List Nat} {es : List Addr} {S : Nat → Prop} (h : ErrsOf W sel es) (ho : Only S W W') (hS : ∀ i ∈ sel, ∀ g, errIds[i]? = some g → ¬ S g) : ErrsOf W' sel es :=
  ⟨h.len, fun i hi g a hg ha => ho.cellv (h.at_ i hi g a hg ha) (hS i hi g hg)⟩
theorem ErrsOf.get {W : World} {sel : List Nat} {es : List Addr} (h : ErrsOf W sel es) (i g : Nat) (hi : i ∈ sel) (hg : errIds[i]? = some g) : ∃ a, es[i]? = some a ∧ W.cell? ⟨g, 0, none⟩ = some (errV a) := by
  have hl : i < es.length := by
    rw [h.len]
    have := (List.getElem?_eq_some_iff.1 hg).1
    have h16 : errIds.length = 16 := rfl
    omega
  exact ⟨_, List.getElem?_eq_getElem hl, h.at_ i hi g _ hg (List.getElem?_eq_getElem hl)⟩
theorem ErrsOf.le {W : World} {sel sel' : List Nat} {es : List Addr} (h : ErrsOf W sel es) (hs : ∀ i ∈ sel', i ∈ sel) : ErrsOf W sel' es := ⟨h.len, fun i hi => h.at_ i (hs i hi)⟩

/-- An error, or none, by its number; none is 0. -/
def ErrV (es : List Addr) (v : Value) (num : Nat) : Prop := (num = 0 ∧ v = .nilIface) ∨ ∃ i a, num = i + 1 ∧ es[i]? = some a ∧ v = errV a
theorem ErrV.nil (es : List Addr) : ErrV es .nilIface 0 := .inl ⟨rfl, rfl⟩
theorem ErrV.err {es : List Addr} {i : Nat} {a : Addr} (h : es[i]? = some a) (k : Nat) (hk : k = i + 1) : ErrV es (errV a) k := .inr ⟨i, a, hk, h, rfl⟩

/-- A row's list of some of them. -/
theorem errs_of_sel {W : World} (sel : List Nat) (laid : List (String × DataW Unit)) (h : laidMet Tryz.prog laid W) (hids : (laid.map fun x => Tryz.prog.globalNamed x.1) = sel.map fun i => errIds[i]?) (_ : sel.Nodup)
    (hk : ∀ x ∈ laid, ∃ text, x.2 = .iface "*errors.errorString" (.ptr (.agg [.lit (.string text)])))
    (hty : (sel.all fun i => (errIds[i]?).any fun g => (Tryz.prog.globals[g]?).map (·.type) == some 38) = true) (hsel : ∀ i ∈ sel, i < 16) : ∃ es, ErrsOf W sel es := by
  obtain ⟨ps, hv, hnd', hrows⟩ := h
  have hlen : laid.length = sel.length := by
    have := congrArg List.length hids
    simpa using this
  have h16 : errIds.length = 16 := rfl
  have hget : ∀ (j : Nat) (x : String × DataW Unit), laid[j]? = some x → ∃ i g, sel[j]? = some i ∧ errIds[i]? = some g ∧ Tryz.prog.globalNamed x.1 = some g := fun j x hx => by
    have h1 : (laid.map fun x => Tryz.prog.globalNamed x.1)[j]? = some (Tryz.prog.globalNamed x.1) := by rw [List.getElem?_map, hx]; rfl
    have hj : j < sel.length := by have := (List.getElem?_eq_some_iff.1 hx).1; omega
    rw [hids, List.getElem?_map, List.getElem?_eq_getElem hj] at h1
    simp only [Option.map_some, Option.some.injEq] at h1
    have hlt := hsel _ (List.getElem_mem hj)
    refine ⟨_, errIds[sel[j]]'(by omega), List.getElem?_eq_getElem hj, List.getElem?_eq_getElem (by omega), ?_⟩
    rw [← h1]
    exact List.getElem?_eq_getElem (by omega)
  obtain ⟨es, h1, h2, _, h4⟩ := laid_list laid ps hv hk (fun x hx g hg => by
    obtain ⟨j, hj⟩ := List.getElem?_of_mem hx
    obtain ⟨i, g', hi', hg', hg''⟩ := hget j x hj
    rw [hg] at hg''
    injection hg'' with e
    subst e
    have := List.all_eq_true.1 hty i (List.mem_of_getElem? hi')
    rw [hg'] at this
    simpa using this) hrows hnd'
  refine ⟨(List.range 16).map fun i => es.getD (sel.idxOf i) ⟨0, 0, none⟩, by simp, fun i hi g a hg ha => ?_⟩
  have hj : sel.idxOf i < sel.length := List.idxOf_lt_length_of_mem hi
  have hji : sel[sel.idxOf i]? = some i := by rw [List.getElem?_eq_getElem hj, List.getElem_idxOf hj]
  rw [List.getElem?_map, List.getElem?_range (hsel i hi)] at ha
  simp only [Option.map_some, Option.some.injEq] at ha
  generalize sel.idxOf i = j at *
  have hjl : j < laid.length := by omega
  have hje : es[j]? = some a := by
    rw [List.getD_eq_getElem?_getD, List.getElem?_eq_getElem (by omega)] at ha
    rw [List.getElem?_eq_getElem (by omega)]
    simpa using ha
  obtain ⟨g1, hg1, hc, _⟩ := h4 j _ a (List.getElem?_eq_getElem hjl) hje
  obtain ⟨i2, g2, hi2, hg2, hg3⟩ := hget j _ (List.getElem?_eq_getElem hjl)
  rw [hji] at hi2
  injection hi2 with e
  subst e
  rw [hg1] at hg3
  injection hg3 with e
  subst e
  rw [hg] at hg2
  injection hg2 with e
  subst e
  exact hc
end Go.Proofs.YtbnfhklpobephaaGreatDoor
