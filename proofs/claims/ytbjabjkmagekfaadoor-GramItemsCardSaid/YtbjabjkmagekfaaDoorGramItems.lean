/- GramItems answers true, whatever it is called with. -/
import Derived.Test.YtbjabjkmagekfaaDoorGramLaw
import Derived.Test.YtbjabjkmagekfaaDoorOpenBytes
namespace Go.Proofs.YtbjabjkmagekfaaDoor
open Go Go.RowKit
set_option maxRecDepth 100000
set_option maxHeartbeats 8000000

/-- Where the items up to the k-th end. -/
def posOf (l : List Pl) : Nat → Nat
  | 0 => 0
  | k + 1 => (l[k]?).elim 0 Pl.to_
theorem chain_pos {s e : Nat} {l : List Pl} (h : Chain s l e) : (∀ (k : Nat) (x : Pl), l[k]? = some x → x.from_ = match k with | 0 => s | k + 1 => (l[k]?).elim 0 Pl.to_) ∧ (match l.length with | 0 => s | k + 1 => (l[k]?).elim 0 Pl.to_) = e := by
  induction h with
  | nil k => exact ⟨fun k x h => (by cases h), rfl⟩
  | cons k n e x l hn h ih =>
    constructor
    · intro i y hy
      match i, hy with
      | 0, hy =>
        simp only [List.getElem?_cons_zero, Option.some.injEq] at hy
        rw [← hy]
      | i + 1, hy =>
        have := ih.1 i y (by simpa using hy)
        rw [this]
        cases i with
        | zero => rfl
        | succ i => rfl
    · have := ih.2
      rw [← this]
      cases l with
      | nil => rfl
      | cons y l => rfl
theorem pos_from {raw : Bool} {xs : List UInt8} {l : List Pl} {r : Nat} (hp : parseFrom raw 0 xs = some (l, r)) {k : Nat} {x : Pl} (hx : l[k]? = some x) : x.from_ = posOf l k := by
  obtain ⟨e, h, _⟩ := parse_chain hp
  have := (chain_pos h).1 k x hx
  rw [this]
  cases k <;> rfl
theorem pos_end {raw : Bool} {xs : List UInt8} {l : List Pl} {r : Nat} (hp : parseFrom raw 0 xs = some (l, r)) : posOf l l.length + r = xs.length := by
  obtain ⟨e, h, he⟩ := parse_chain hp
  have := (chain_pos h).2
  have e1 : posOf l l.length = e := by
    rw [← this]
    cases l.length <;> rfl
  omega

/-- An item by itself. -/
theorem piece_parse {raw : Bool} {s : List UInt8} {x : It} {n : Nat} (hc : cut raw s = .got x n) : (x.kind = 1 ∧ x.code = 13 ∧ raw = false ∧ parseFrom raw 0 (s.take n) = some ([], 1)) ∨ (¬ (x.kind = 1 ∧ x.code = 13 ∧ raw = false) ∧ parseFrom raw 0 (s.take n) = some ([⟨x, 0, n⟩], 0)) := by
  have hb := cut_bounds hc
  by_cases h : x.kind = 1 ∧ x.code = 13 ∧ raw = false
  · refine .inl ⟨h.1, h.2.1, h.2.2, ?_⟩
    obtain ⟨h1, h2, h3⟩ := h
    have hf := cut_form hc
    cases hf with
    | one c n h0 hn =>
      simp only at h2
      obtain rfl : n = 1 := by omega
      match s, h0 with
      | c' :: s, h0 =>
        simp only [List.getElem?_cons_zero, Option.some.injEq] at h0
        subst h0
        show parseFrom raw 0 [c'] = _
        refine parseFrom_few ?_ 0
        rw [cut_cons, if_neg (by omega), if_pos ⟨by omega, h3⟩]
        rfl
    | _ => simp at h1
  · refine .inr ⟨h, ?_⟩
    have hl : (s.take n).length = n := by rw [List.length_take]; omega
    rw [parseFrom_got (cut_take hc h), List.drop_eq_nil_of_le (by omega), parseFrom_few rfl, Nat.zero_add]
    rfl

theorem items_long {w : World} {es : List Addr} (hes : ErrsIs w [2, 4] es) (A : Option Addr) (n c : Nat) (raw : Bool) (h : 400 < n) :
    Calls Tryd.prog 6 #[.slice A n c, .bool raw] w (Fine w) := by
  have HA := Lib.hid (galive_any hes)
  have d : decide ((400 : Int) < (n : Int)) = true := by simp; omega
  clear hes
  go_enter Tryd.func6, Tryd.ntmps6
  go_wp2_with (first | (go_at_call 7; refine HA.out.mono ?_; rintro e w1 ⟨rfl, ho1⟩))
  go_ret
  exact ⟨rfl, ho1⟩
theorem items_wrong {w : World} {es : List Addr} (hes : ErrsIs w [2, 4] es) (A : Option Addr) (n c : Nat) (xs : List UInt8) (hs : Src w A n xs) (hc : n ≤ c) (raw : Bool) (hn : n ≤ 400) (hp : parseFrom raw 0 xs = .none) :
    Calls Tryd.prog 6 #[.slice A n c, .bool raw] w (Fine w) := by
  have HA := Lib.hid (galive_any hes)
  have d : decide ((400 : Int) < (n : Int)) = false := by simp; omega
  have HP : Hid (∀ W, Only (fun _ => False) w W → Calls Tryd.prog 9 #[.slice A n c, .bool raw] W fun e w' => ∃ A' c' a, e = .returned (.tuple #[.slice A' 0 c', .iface 88 (.pointer (some a))]) ∧ Hid (es[4]? = some a) ∧ Hid (Only (fun _ => False) W w')) := fun W ho => parse_wrong (hes.only ho) (hs.only ho (fun _ _ _ h => h)) c raw (by omega) hc hp
  have HR : Hid (∀ W, Only (fun _ => False) w W → Calls Tryd.prog 13 #[.slice A n c, .bool raw] W fun e w' => e = .returned (.int .i64 0) ∧ Hid (Only (fun _ => False) W w')) := fun W ho => by
    have := rest_any (c := c) (hes.only ho) (hs.only ho (fun _ _ _ h => h)) raw (by omega) (by omega)
    rw [rest_wrong hp] at this
    exact this
  clear hes hs hp
  go_enter Tryd.func6, Tryd.ntmps6
  go_wp2_with (first
    | (go_at_call 7; refine HA.out.mono ?_; rintro e w1 ⟨rfl, ho1⟩; have HO1 := Lib.hid ho1; clear ho1)
    | (go_at_call 9; refine (HP.out w1 HO1.out).mono ?_; rintro e w2 ⟨A2, c2, a2, rfl, ha2, ho2⟩; have HO2 : Hid (Only (fun _ => False) w w2) := HO1.out.trans ho2.out (fun _ h => h.elim))
    | (go_at_call 13; refine (HR.out w2 HO2.out).mono ?_; rintro e w3 ⟨rfl, ho3⟩))
  go_ret
  exact ⟨rfl, HO2.out.trans ho3.out (fun _ h => h.elim)⟩

theorem items_ok {w : World} {es : List Addr} (hes : ErrsIs w [2, 4] es) (A : Option Addr) (n c : Nat) (xs : List UInt8) (hs : Src w A n xs) (hc : n ≤ c) (raw : Bool) (hn : n ≤ 400) (l : List Pl) (r : Nat) (hp : parseFrom raw 0 xs = some (l, r)) :
    Calls Tryd.prog 6 #[.slice A n c, .bool raw] w (Fine w) := by
  have HA := Lib.hid (galive_any hes)
  have HE := Lib.hid hes
  have HS := Lib.hid hs
  have HPF := Lib.hid hp
  have d : decide ((400 : Int) < (n : Int)) = false := by simp; omega
  obtain ⟨m, hm⟩ : ∃ m, m = l.length := ⟨_, rfl⟩
  have HP : Hid (∀ W, Only (fun _ => False) w W → Calls Tryd.prog 9 #[.slice A n c, .bool raw] W fun e w' => ∃ A' c' ps, e = .returned (.tuple #[.slice A' m c', .nilIface]) ∧ Hid (List.length ps = m ∧ ps.map PlP.p = l ∧ Items w' W.heap.size (.slice A' m c') ps) ∧ Hid (Only (fun _ => False) W w')) := fun W ho => parse_good (hes.only ho) (hs.only ho (fun _ _ _ h => h)) c raw (by omega) hc hp m hm
  have HM := Lib.hid hm
  have hm4 : m ≤ 400 := by have := (parse_rest hp).2; have := hs.1; omega
  clear hes hs hp hm
  go_enter Tryd.func6, Tryd.ntmps6
  go_wp2_with (first
    | (go_at_call 7; refine HA.out.mono ?_; rintro e w1 ⟨rfl, ho1⟩; have HO1 := Lib.hid ho1; clear ho1)
    | (go_at_call 9; (with_reducible refine (HP.out w1 HO1.out).mono ?_); rintro e w2 ⟨A2, c2, ps2, rfl, hI2, ho2⟩; have HO2 : Hid (Only (fun _ => False) w w2) := HO1.out.trans ho2.out (fun _ h => h.elim)))
  go_loopw [7, 36] (fun a i W => ∃ k : Nat, k ≤ m ∧ i = .int .i64 (k : Int) ∧ a = .int .i64 (posOf l k : Int) ∧ Hid (Only (fun _ => False) w2 W)) (fun _ i _ => m - (intOf i).toNat)
  case atStart => exact ⟨0, Nat.zero_le _, rfl, rfl, Only.refl _ _⟩
  case round =>
    obtain ⟨k, hk, rfl, rfl, HO⟩ := hrel
    have HOr : Hid (Only (fun _ => False) w wr) := HO2.out.trans HO.out (fun _ h => h.elim)
    by_cases hlt : k < m
    · obtain ⟨x, hx⟩ : ∃ x, l[k]? = some x := ⟨_, List.getElem?_eq_getElem (by rw [← HM.out]; exact hlt)⟩
      obtain ⟨y, hy, hyp⟩ := item_of hI2.out.2.1 hx
      obtain ⟨g2, rfl, _, hg2, hr2, hb2⟩ := (hI2.out.2.2.same HO.out).at_ hy
      have hxf := pos_from HPF.out hx
      obtain ⟨_, hx1, hx2, hx3⟩ := (parse_alone HPF.out).2 x (List.mem_of_getElem? hx)
      rw [Nat.sub_zero] at hx3
      rw [Nat.zero_add, HS.out.1] at hx2
      have hpos : posOf l (k + 1) = x.to_ := by simp [posOf, hx]
      obtain ⟨⟨fk, fc, fo, fb⟩, F, T⟩ := x
      simp only at hxf hx1 hx2 hx3 hpos
      rw [← hxf]
      obtain ⟨yp, yad, ycap⟩ := y
      simp only at hyp
      subst hyp
      obtain ⟨L, hL⟩ : ∃ L, L = fb.length := ⟨_, rfl⟩
      obtain ⟨cs, hcs⟩ : ∃ cs, cs = [Value.int .i64 fk, .int .i64 (F : Int), .int .i64 (T : Int), .int .i64 fc, .int .i64 fo, .slice yad L ycap] := ⟨_, rfl⟩
      have HRA : Hid (wr.rangeAt g2 (k * 6) cs) := by rw [hcs, hL]; exact hr2
      have HCL : Hid (cs.length = 6) := by rw [hcs]; rfl
      have HCO : Hid (∀ v ∈ cs, v.oneCell' = true) := by rw [hcs]; exact it_one ⟨fk, fc, fo, fb⟩ _ _ _ _ _
      have HCS := Lib.hid hcs
      have HBy : Hid (∀ W, Only (fun _ => False) wr W → Src W yad L fb) := fun W ho => by
        have := hb2.src (A := yad) (n := fb.length) (c := ycap) rfl
        rw [← hL] at this
        exact this.only ho (fun _ _ _ h => h)
      have HL := Lib.hid hL
      have HX3 := Lib.hid hx3
      have HPos := Lib.hid hpos
      have e0 : ((F : Int) != (F : Int)) = false := by simp
      have e1 : decide ((T : Int) ≤ (F : Int)) = false := by simp; omega
      have e1' : decide (T ≤ F) = false := by simp; omega
      have e2 : decide ((n : Int) < (T : Int)) = false := by simp; omega
      have e2' : decide (n < T) = false := by simp; omega
      have hFT : (F : Int) ≤ (T : Int) := by omega
      have hTc : (T : Int) ≤ (c : Int) := by omega
      have hFT' : F ≤ T := by omega
      have hTc' : T ≤ c := by omega
      have hck : c ≠ F := by omega
      have hkm : (k : Int) < (m : Int) := by omega
      have hSr : ∀ W, Only (fun _ => False) wr W → Src W (Option.map (fun x => x.add F) A) (T - F) ((xs.drop F).take (T - F)) := fun W ho => by
        have h1 := HS.out.only (HOr.out.trans ho (fun _ h => h.elim)) (fun _ _ _ h => h)
        have := h1.piece F T (by omega) (by omega) (Option.map (fun x => x.add F) A) (fun _ ad e => by rw [e]; rfl)
        rwa [List.drop_take] at this
      have HSr := Lib.hid hSr
      have HPc := piece_parse hx3
      have hTF : T - F ≤ 400 := by omega
      clear hx hy hxf hr2 hb2 hx1 hx3 hpos hL hcs hSr hx2
      rcases HPc with ⟨h1, h13, hr, hpp⟩ | ⟨hno, hpp⟩
      · simp only at h1 h13
        subst h1 h13 hr
        have HPk : Hid (∀ W, Only (fun _ => False) wr W → Calls Tryd.prog 9 #[.slice (Option.map (fun x => x.add F) A) (T - F) (c - F), .bool false] W fun e w' => ∃ A' c' ps, e = .returned (.tuple #[.slice A' 0 c', .nilIface]) ∧ Hid (List.length ps = 0 ∧ ps.map PlP.p = [] ∧ Items w' W.heap.size (.slice A' 0 c') ps) ∧ Hid (Only (fun _ => False) W w')) := fun W ho => parse_good (HE.out.only (HOr.out.trans ho (fun _ h => h.elim))) (HSr.out W ho) (c - F) false (by omega) (by omega) hpp 0 rfl
        clear hpp
        go_wp2_with (first
          | ((with_reducible show wpList _ _ _ (⟨some 39, _, _, _, _, _⟩ :: _) _ _); refine wpList_load_mid rfl 42 (.tmp 38) rfl g2 (k * 6) rfl cs _ HRA.out Tryd.underlying42 rfl (by rw [HCL.out]; exact size_item) ?_)
          | ((with_reducible show wpList _ _ _ (⟨none, .store 42 _ _, _, _, _, _⟩ :: _) _ _); refine step_store rfl 42 _ _ rfl wr.heap.size rfl cs rfl _ (itCells It.none 0 0 (.slice none 0 0)) (Blk.new _ _ _) (by rw [HCL.out]; exact size_item) HCL.out.symm HCO.out ?_; intro w5 hB5 hz5 ho5; have HO5 : Hid (Only (fun _ => False) wr w5) := (((Only.refl (fun _ => False) wr).alloc _).trans ho5 (fun i hi => .inr (by omega))); have HB5 : Hid (Blk w5 wr.heap.size 42 [Value.int .i64 1, .int .i64 (F : Int), .int .i64 (T : Int), .int .i64 13, .int .i64 fo, .slice yad L ycap]) := (by rw [← HCS.out]; exact hB5.out); have q1 : w5.cell? ⟨wr.heap.size, 1, none⟩ = some (.int .i64 (F : Int)) := HB5.out.cell 1; have q2 : w5.cell? ⟨wr.heap.size, 2, none⟩ = some (.int .i64 (T : Int)) := HB5.out.cell 2)
          | (go_at_call 9; (with_reducible refine (HPk.out w5 HO5.out).mono ?_); rintro e w6 ⟨A6, c6, ps6, rfl, hI6, ho6⟩))
        have hB6 := HB5.out.only ho6.out (fun h => h)
        have HO6 : Hid (Only (fun _ => False) wr w6) := HO5.out.trans ho6.out (fun _ h => h.elim)
        have p0 : w6.cell? ⟨wr.heap.size, 0, none⟩ = some (.int .i64 1) := hB6.cell 0
        have p2 : w6.cell? ⟨wr.heap.size, 2, none⟩ = some (.int .i64 (T : Int)) := hB6.cell 2
        have p3 : w6.cell? ⟨wr.heap.size, 3, none⟩ = some (.int .i64 13) := hB6.cell 3
        clear hB6
        go_quiet (fail)
        go_wp2
        go_roundw
        case rel => exact ⟨k + 1, by omega, by go_num, by rw [HPos.out], (HO.out.trans HO6.out (fun _ h => h.elim)).drewN _⟩
        case measure => simp [intOf]; omega
      · simp only at hno
        by_cases h1 : fk = 1
        · by_cases h13 : fc = 13
          · have hr : raw = true := by cases raw with
              | true => rfl
              | false => exact absurd ⟨h1, h13, rfl⟩ hno
            subst hr
            have k1 : (fk == 1) = true := beq_iff_eq.2 h1
            have k13 : (fc == 13) = true := beq_iff_eq.2 h13
            clear hno h1 h13
            have HPk : Hid (∀ W, Only (fun _ => False) wr W → Calls Tryd.prog 9 #[.slice (Option.map (fun x => x.add F) A) (T - F) (c - F), .bool true] W fun e w' => ∃ A' c' ps, e = .returned (.tuple #[.slice A' 1 c', .nilIface]) ∧ Hid (List.length ps = 1 ∧ ps.map PlP.p = [⟨⟨fk, fc, fo, fb⟩, 0, T - F⟩] ∧ Items w' W.heap.size (.slice A' 1 c') ps) ∧ Hid (Only (fun _ => False) W w')) := fun W ho => parse_good (HE.out.only (HOr.out.trans ho (fun _ h => h.elim))) (HSr.out W ho) (c - F) true (by omega) (by omega) hpp 1 rfl
            clear hpp
            go_wp2_with (first
              | ((with_reducible show wpList _ _ _ (⟨some 39, _, _, _, _, _⟩ :: _) _ _); refine wpList_load_mid rfl 42 (.tmp 38) rfl g2 (k * 6) rfl cs _ HRA.out Tryd.underlying42 rfl (by rw [HCL.out]; exact size_item) ?_)
              | ((with_reducible show wpList _ _ _ (⟨none, .store 42 _ _, _, _, _, _⟩ :: _) _ _); refine step_store rfl 42 _ _ rfl wr.heap.size rfl cs rfl _ (itCells It.none 0 0 (.slice none 0 0)) (Blk.new _ _ _) (by rw [HCL.out]; exact size_item) HCL.out.symm HCO.out ?_; intro w5 hB5 hz5 ho5; have HO5 : Hid (Only (fun _ => False) wr w5) := (((Only.refl (fun _ => False) wr).alloc _).trans ho5 (fun i hi => .inr (by omega))); have HB5 : Hid (Blk w5 wr.heap.size 42 [Value.int .i64 fk, .int .i64 (F : Int), .int .i64 (T : Int), .int .i64 fc, .int .i64 fo, .slice yad L ycap]) := (by rw [← HCS.out]; exact hB5.out); have q1 : w5.cell? ⟨wr.heap.size, 1, none⟩ = some (.int .i64 (F : Int)) := HB5.out.cell 1; have q2 : w5.cell? ⟨wr.heap.size, 2, none⟩ = some (.int .i64 (T : Int)) := HB5.out.cell 2)
              | (go_at_call 9; (with_reducible refine (HPk.out w5 HO5.out).mono ?_); rintro e w6 ⟨A6, c6, ps6, rfl, hI6, ho6⟩))
            have hB6 := HB5.out.only ho6.out (fun h => h)
            have HO6 : Hid (Only (fun _ => False) wr w6) := HO5.out.trans ho6.out (fun _ h => h.elim)
            have p0 : w6.cell? ⟨wr.heap.size, 0, none⟩ = some (.int .i64 fk) := hB6.cell 0
            have p2 : w6.cell? ⟨wr.heap.size, 2, none⟩ = some (.int .i64 (T : Int)) := hB6.cell 2
            have p3 : w6.cell? ⟨wr.heap.size, 3, none⟩ = some (.int .i64 fc) := hB6.cell 3
            have p4 : w6.cell? ⟨wr.heap.size, 4, none⟩ = some (.int .i64 fo) := hB6.cell 4
            have p5 : w6.cell? ⟨wr.heap.size, 5, none⟩ = some (.slice yad L ycap) := hB6.cell 5
            obtain ⟨z, hz, hzp⟩ := item_of hI6.out.2.1 (k := 0) (x := ⟨⟨fk, fc, fo, fb⟩, 0, T - F⟩) rfl
            obtain ⟨g6, rfl, _, hg6, hr6, hb6⟩ := hI6.out.2.2.at_ hz
            obtain ⟨zp, zad, zcap⟩ := z
            simp only at hzp
            subst hzp
            rw [Nat.zero_mul] at hr6
            have s0 : w6.cell? ⟨g6, 0, none⟩ = some (.int .i64 fk) := hr6 0 _ rfl
            have s3 : w6.cell? ⟨g6, 3, none⟩ = some (.int .i64 fc) := hr6 3 _ rfl
            have s4 : w6.cell? ⟨g6, 4, none⟩ = some (.int .i64 fo) := hr6 4 _ rfl
            have s5 : w6.cell? ⟨g6, 5, none⟩ = some (.slice zad L zcap) := by rw [HL.out]; exact hr6 5 _ rfl
            have hcx : ∀ N, (convert 22 9 (.slice yad L ycap)).run Tryd.prog (w6.drewN N) = .ok (.string ⟨fb.toArray⟩) (w6.drewN N) := fun N => text_of (P := Tryd.prog) (HBy.out (w6.drewN N) (HO6.out.drewN N)) ycap 22 9 5 Tryd.underlying22 Tryd.underlying5 Tryd.underlying9
            have hcz : ∀ N, (convert 22 9 (.slice zad L zcap)).run Tryd.prog (w6.drewN N) = .ok (.string ⟨fb.toArray⟩) (w6.drewN N) := fun N => by
              have h1 := hb6.src (A := zad) (n := fb.length) (c := zcap) rfl
              rw [← HL.out] at h1
              exact text_of (P := Tryd.prog) (h1.only ((Only.refl (fun _ => False) w6).drewN N) (fun _ _ _ h => h)) zcap 22 9 5 Tryd.underlying22 Tryd.underlying5 Tryd.underlying9
            have n0 : (fk != fk) = false := by simp
            have n1 : (fc != fc) = false := by simp
            have n2 : (fo != fo) = false := by simp
            clear hr6 hb6 hB6
            go_quiet (fail)
            go_wp2
            go_roundw
            case rel => exact ⟨k + 1, by omega, by go_num, by rw [HPos.out], (HO.out.trans HO6.out (fun _ h => h.elim)).drewN _⟩
            case measure => simp [intOf]; omega
          · have k1 : (fk == 1) = true := beq_iff_eq.2 h1
            have k13 : (fc == 13) = false := beq_eq_false_iff_ne.2 h13
            clear hno h1 h13
            have HPk : Hid (∀ W, Only (fun _ => False) wr W → Calls Tryd.prog 9 #[.slice (Option.map (fun x => x.add F) A) (T - F) (c - F), .bool raw] W fun e w' => ∃ A' c' ps, e = .returned (.tuple #[.slice A' 1 c', .nilIface]) ∧ Hid (List.length ps = 1 ∧ ps.map PlP.p = [⟨⟨fk, fc, fo, fb⟩, 0, T - F⟩] ∧ Items w' W.heap.size (.slice A' 1 c') ps) ∧ Hid (Only (fun _ => False) W w')) := fun W ho => parse_good (HE.out.only (HOr.out.trans ho (fun _ h => h.elim))) (HSr.out W ho) (c - F) raw (by omega) (by omega) hpp 1 rfl
            clear hpp
            go_wp2_with (first
              | ((with_reducible show wpList _ _ _ (⟨some 39, _, _, _, _, _⟩ :: _) _ _); refine wpList_load_mid rfl 42 (.tmp 38) rfl g2 (k * 6) rfl cs _ HRA.out Tryd.underlying42 rfl (by rw [HCL.out]; exact size_item) ?_)
              | ((with_reducible show wpList _ _ _ (⟨none, .store 42 _ _, _, _, _, _⟩ :: _) _ _); refine step_store rfl 42 _ _ rfl wr.heap.size rfl cs rfl _ (itCells It.none 0 0 (.slice none 0 0)) (Blk.new _ _ _) (by rw [HCL.out]; exact size_item) HCL.out.symm HCO.out ?_; intro w5 hB5 hz5 ho5; have HO5 : Hid (Only (fun _ => False) wr w5) := (((Only.refl (fun _ => False) wr).alloc _).trans ho5 (fun i hi => .inr (by omega))); have HB5 : Hid (Blk w5 wr.heap.size 42 [Value.int .i64 fk, .int .i64 (F : Int), .int .i64 (T : Int), .int .i64 fc, .int .i64 fo, .slice yad L ycap]) := (by rw [← HCS.out]; exact hB5.out); have q1 : w5.cell? ⟨wr.heap.size, 1, none⟩ = some (.int .i64 (F : Int)) := HB5.out.cell 1; have q2 : w5.cell? ⟨wr.heap.size, 2, none⟩ = some (.int .i64 (T : Int)) := HB5.out.cell 2)
              | (go_at_call 9; (with_reducible refine (HPk.out w5 HO5.out).mono ?_); rintro e w6 ⟨A6, c6, ps6, rfl, hI6, ho6⟩))
            have hB6 := HB5.out.only ho6.out (fun h => h)
            have HO6 : Hid (Only (fun _ => False) wr w6) := HO5.out.trans ho6.out (fun _ h => h.elim)
            have p0 : w6.cell? ⟨wr.heap.size, 0, none⟩ = some (.int .i64 fk) := hB6.cell 0
            have p2 : w6.cell? ⟨wr.heap.size, 2, none⟩ = some (.int .i64 (T : Int)) := hB6.cell 2
            have p3 : w6.cell? ⟨wr.heap.size, 3, none⟩ = some (.int .i64 fc) := hB6.cell 3
            have p4 : w6.cell? ⟨wr.heap.size, 4, none⟩ = some (.int .i64 fo) := hB6.cell 4
            have p5 : w6.cell? ⟨wr.heap.size, 5, none⟩ = some (.slice yad L ycap) := hB6.cell 5
            obtain ⟨z, hz, hzp⟩ := item_of hI6.out.2.1 (k := 0) (x := ⟨⟨fk, fc, fo, fb⟩, 0, T - F⟩) rfl
            obtain ⟨g6, rfl, _, hg6, hr6, hb6⟩ := hI6.out.2.2.at_ hz
            obtain ⟨zp, zad, zcap⟩ := z
            simp only at hzp
            subst hzp
            rw [Nat.zero_mul] at hr6
            have s0 : w6.cell? ⟨g6, 0, none⟩ = some (.int .i64 fk) := hr6 0 _ rfl
            have s3 : w6.cell? ⟨g6, 3, none⟩ = some (.int .i64 fc) := hr6 3 _ rfl
            have s4 : w6.cell? ⟨g6, 4, none⟩ = some (.int .i64 fo) := hr6 4 _ rfl
            have s5 : w6.cell? ⟨g6, 5, none⟩ = some (.slice zad L zcap) := by rw [HL.out]; exact hr6 5 _ rfl
            have hcx : ∀ N, (convert 22 9 (.slice yad L ycap)).run Tryd.prog (w6.drewN N) = .ok (.string ⟨fb.toArray⟩) (w6.drewN N) := fun N => text_of (P := Tryd.prog) (HBy.out (w6.drewN N) (HO6.out.drewN N)) ycap 22 9 5 Tryd.underlying22 Tryd.underlying5 Tryd.underlying9
            have hcz : ∀ N, (convert 22 9 (.slice zad L zcap)).run Tryd.prog (w6.drewN N) = .ok (.string ⟨fb.toArray⟩) (w6.drewN N) := fun N => by
              have h1 := hb6.src (A := zad) (n := fb.length) (c := zcap) rfl
              rw [← HL.out] at h1
              exact text_of (P := Tryd.prog) (h1.only ((Only.refl (fun _ => False) w6).drewN N) (fun _ _ _ h => h)) zcap 22 9 5 Tryd.underlying22 Tryd.underlying5 Tryd.underlying9
            have n0 : (fk != fk) = false := by simp
            have n1 : (fc != fc) = false := by simp
            have n2 : (fo != fo) = false := by simp
            clear hr6 hb6 hB6
            go_quiet (fail)
            go_wp2
            go_roundw
            case rel => exact ⟨k + 1, by omega, by go_num, by rw [HPos.out], (HO.out.trans HO6.out (fun _ h => h.elim)).drewN _⟩
            case measure => simp [intOf]; omega
        · have k1 : (fk == 1) = false := beq_eq_false_iff_ne.2 h1
          clear hno h1
          have HPk : Hid (∀ W, Only (fun _ => False) wr W → Calls Tryd.prog 9 #[.slice (Option.map (fun x => x.add F) A) (T - F) (c - F), .bool raw] W fun e w' => ∃ A' c' ps, e = .returned (.tuple #[.slice A' 1 c', .nilIface]) ∧ Hid (List.length ps = 1 ∧ ps.map PlP.p = [⟨⟨fk, fc, fo, fb⟩, 0, T - F⟩] ∧ Items w' W.heap.size (.slice A' 1 c') ps) ∧ Hid (Only (fun _ => False) W w')) := fun W ho => parse_good (HE.out.only (HOr.out.trans ho (fun _ h => h.elim))) (HSr.out W ho) (c - F) raw (by omega) (by omega) hpp 1 rfl
          clear hpp
          go_wp2_with (first
            | ((with_reducible show wpList _ _ _ (⟨some 39, _, _, _, _, _⟩ :: _) _ _); refine wpList_load_mid rfl 42 (.tmp 38) rfl g2 (k * 6) rfl cs _ HRA.out Tryd.underlying42 rfl (by rw [HCL.out]; exact size_item) ?_)
            | ((with_reducible show wpList _ _ _ (⟨none, .store 42 _ _, _, _, _, _⟩ :: _) _ _); refine step_store rfl 42 _ _ rfl wr.heap.size rfl cs rfl _ (itCells It.none 0 0 (.slice none 0 0)) (Blk.new _ _ _) (by rw [HCL.out]; exact size_item) HCL.out.symm HCO.out ?_; intro w5 hB5 hz5 ho5; have HO5 : Hid (Only (fun _ => False) wr w5) := (((Only.refl (fun _ => False) wr).alloc _).trans ho5 (fun i hi => .inr (by omega))); have HB5 : Hid (Blk w5 wr.heap.size 42 [Value.int .i64 fk, .int .i64 (F : Int), .int .i64 (T : Int), .int .i64 fc, .int .i64 fo, .slice yad L ycap]) := (by rw [← HCS.out]; exact hB5.out); have q1 : w5.cell? ⟨wr.heap.size, 1, none⟩ = some (.int .i64 (F : Int)) := HB5.out.cell 1; have q2 : w5.cell? ⟨wr.heap.size, 2, none⟩ = some (.int .i64 (T : Int)) := HB5.out.cell 2)
            | (go_at_call 9; (with_reducible refine (HPk.out w5 HO5.out).mono ?_); rintro e w6 ⟨A6, c6, ps6, rfl, hI6, ho6⟩))
          have hB6 := HB5.out.only ho6.out (fun h => h)
          have HO6 : Hid (Only (fun _ => False) wr w6) := HO5.out.trans ho6.out (fun _ h => h.elim)
          have p0 : w6.cell? ⟨wr.heap.size, 0, none⟩ = some (.int .i64 fk) := hB6.cell 0
          have p2 : w6.cell? ⟨wr.heap.size, 2, none⟩ = some (.int .i64 (T : Int)) := hB6.cell 2
          have p3 : w6.cell? ⟨wr.heap.size, 3, none⟩ = some (.int .i64 fc) := hB6.cell 3
          have p4 : w6.cell? ⟨wr.heap.size, 4, none⟩ = some (.int .i64 fo) := hB6.cell 4
          have p5 : w6.cell? ⟨wr.heap.size, 5, none⟩ = some (.slice yad L ycap) := hB6.cell 5
          obtain ⟨z, hz, hzp⟩ := item_of hI6.out.2.1 (k := 0) (x := ⟨⟨fk, fc, fo, fb⟩, 0, T - F⟩) rfl
          obtain ⟨g6, rfl, _, hg6, hr6, hb6⟩ := hI6.out.2.2.at_ hz
          obtain ⟨zp, zad, zcap⟩ := z
          simp only at hzp
          subst hzp
          rw [Nat.zero_mul] at hr6
          have s0 : w6.cell? ⟨g6, 0, none⟩ = some (.int .i64 fk) := hr6 0 _ rfl
          have s3 : w6.cell? ⟨g6, 3, none⟩ = some (.int .i64 fc) := hr6 3 _ rfl
          have s4 : w6.cell? ⟨g6, 4, none⟩ = some (.int .i64 fo) := hr6 4 _ rfl
          have s5 : w6.cell? ⟨g6, 5, none⟩ = some (.slice zad L zcap) := by rw [HL.out]; exact hr6 5 _ rfl
          have hcx : ∀ N, (convert 22 9 (.slice yad L ycap)).run Tryd.prog (w6.drewN N) = .ok (.string ⟨fb.toArray⟩) (w6.drewN N) := fun N => text_of (P := Tryd.prog) (HBy.out (w6.drewN N) (HO6.out.drewN N)) ycap 22 9 5 Tryd.underlying22 Tryd.underlying5 Tryd.underlying9
          have hcz : ∀ N, (convert 22 9 (.slice zad L zcap)).run Tryd.prog (w6.drewN N) = .ok (.string ⟨fb.toArray⟩) (w6.drewN N) := fun N => by
            have h1 := hb6.src (A := zad) (n := fb.length) (c := zcap) rfl
            rw [← HL.out] at h1
            exact text_of (P := Tryd.prog) (h1.only ((Only.refl (fun _ => False) w6).drewN N) (fun _ _ _ h => h)) zcap 22 9 5 Tryd.underlying22 Tryd.underlying5 Tryd.underlying9
          have n0 : (fk != fk) = false := by simp
          have n1 : (fc != fc) = false := by simp
          have n2 : (fo != fo) = false := by simp
          clear hr6 hb6 hB6
          go_quiet (fail)
          go_wp2
          go_roundw
          case rel => exact ⟨k + 1, by omega, by go_num, by rw [HPos.out], (HO.out.trans HO6.out (fun _ h => h.elim)).drewN _⟩
          case measure => simp [intOf]; omega
    · obtain rfl : k = m := by omega
      have hend := pos_end HPF.out
      rw [← HM.out, HS.out.1] at hend
      obtain ⟨E, hE⟩ : ∃ E, E = posOf l k := ⟨_, rfl⟩
      rw [← hE] at hend ⊢
      have hrest := (parse_alone HPF.out).1
      rw [HS.out.1, show n - r = E by omega] at hrest
      have HR1 : Hid (∀ W, Only (fun _ => False) w W → Calls Tryd.prog 13 #[.slice A n c, .bool raw] W fun e w' => e = .returned (.int .i64 (r : Int)) ∧ Hid (Only (fun _ => False) W w')) := fun W ho => by
        have := rest_any (c := c) (HE.out.only ho) (HS.out.only ho (fun _ _ _ h => h)) raw (by omega) hc
        rw [rest_good HPF.out] at this
        exact this
      obtain ⟨D, hD⟩ : ∃ D, (if c = E then A else Option.map (fun x => x.add E) A) = D := ⟨_, rfl⟩
      have HR2 : Hid (∀ W, Only (fun _ => False) w W → Calls Tryd.prog 13 #[.slice D (n - E) (c - E), .bool raw] W fun e w' => e = .returned (.int .i64 (r : Int)) ∧ Hid (Only (fun _ => False) W w')) := fun W ho => by
        have hsE : Src W D (n - E) (xs.drop E) := by
          have h1 := (HS.out.only ho (fun _ _ _ h => h)).piece E n (by omega) (Nat.le_refl _) D (fun h0 ad e => by rw [← hD, if_neg (by omega), e]; rfl)
          rwa [List.take_of_length_le (by rw [HS.out.1]; omega)] at h1
        have := rest_any (c := c - E) (HE.out.only ho) hsE raw (by omega) (by omega)
        have e1 : restOf raw (xs.drop E) = r := by
          rw [rest_good (parseFrom_few hrest 0), List.length_drop, HS.out.1]
          omega
        rw [e1] at this
        exact this
      have s1 : ((E : Int) + (r : Int) == (n : Int)) = true := beq_iff_eq.2 (by omega)
      have s2 : ((r : Int) == (n : Int) - (E : Int)) = true := beq_iff_eq.2 (by omega)
      have hEn : E ≤ n := by omega
      have hEc : E ≤ c := by omega
      have hrn : r ≤ n := by omega
      clear hend hrest hE
      go_wp2_with (first
        | (go_at_call 13; (with_reducible refine (HR1.out wr HOr.out).mono ?_); rintro e w5 ⟨rfl, ho5⟩; have HO5 : Hid (Only (fun _ => False) w w5) := HOr.out.trans ho5.out (fun _ h => h.elim))
        | (go_at_call 13; (with_reducible refine (HR2.out w5 HO5.out).mono ?_); rintro e w6 ⟨rfl, ho6⟩))
      go_ret
      exact ⟨rfl, HO5.out.trans ho6.out (fun _ h => h.elim)⟩

theorem gramItems_walk (W : World) {H : Type} {enc : TypeId × Value → H} {fuel : Nat} {A : Option Addr} {n c : Nat} {x : DataW H × List MemPlace} (hf : DataW.trod enc Tryd.prog W 0 (fun _ => true) true fuel 22 [.slice A n c] = some x) (raw : Bool) {es : List Addr} (hes : ErrsIs W [2, 4] es) :
    Calls Tryd.prog 6 #[.slice A n c, .bool raw] W (Fine W) := by
  obtain ⟨A', n', c', xs, e, h1, h2, h3⟩ := opened_cell hf
  injection e with e1 e2 e3
  subst e1 e2 e3
  by_cases h : 400 < n
  · exact items_long hes A n c raw h
  · cases hp : parseFrom raw 0 xs with
    | none => exact items_wrong hes A n c xs h1 h2 raw (by omega) hp
    | some q => exact items_ok hes A n c xs h1 h2 raw (by omega) q.1 q.2 hp
end Go.Proofs.YtbjabjkmagekfaaDoor
