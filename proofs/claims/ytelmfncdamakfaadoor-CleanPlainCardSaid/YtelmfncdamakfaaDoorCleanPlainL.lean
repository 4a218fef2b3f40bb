/- CleanPlain, walked. -/
import Derived.Test.YtelmfncdamakfaaDoorCleanAlive
import Derived.Test.YtelmfncdamakfaaDoorCleanPl
import Derived.Test.YtelmfncdamakfaaDoorIacSame
import Derived.Test.YtelmfncdamakfaaDoorNvtOut
import Derived.Test.YtelmfncdamakfaaDoorEmitVerb
import Derived.Test.YtelmfncdamakfaaDoorSlices
import Derived.Deep.RegionHeld3
namespace Go.Proofs.YtelmfncdamakfaaDoor
open Go Go.ChangeShapes Go.WideShapes Go.ChangeAt Go.RowKit
set_option maxRecDepth 100000
set_option maxHeartbeats 4000000

theorem cplain_long (w : World) (A B : Option Addr) (n c m d : Nat) (raw : Bool) (h : 300 < n) : Calls Tryd.prog 3 #[.slice A n c, .slice B m d, .bool raw] w (Fine w) := by
  have hd : decide ((300 : Int) < (n : Int)) = true := by simp; omega
  go_enter Tryd.func3, Tryd.ntmps3
  go_wp2_with (first
    | (go_at_call 4; refine (clive_any _).mono ?_; rintro e w1 ⟨rfl, ho1⟩))
  go_ret
  exact ⟨rfl, ho1⟩
theorem cplain_many (w : World) (A B : Option Addr) (n c m d : Nat) (raw : Bool) (h : n ≤ 300) (h2 : 20 < m) : Calls Tryd.prog 3 #[.slice A n c, .slice B m d, .bool raw] w (Fine w) := by
  have hd : decide ((300 : Int) < (n : Int)) = false := by simp; omega
  have hd2 : decide ((20 : Int) < (m : Int)) = true := by simp; omega
  go_enter Tryd.func3, Tryd.ntmps3
  go_wp2_with (first
    | (go_at_call 4; refine (clive_any _).mono ?_; rintro e w1 ⟨rfl, ho1⟩))
  go_ret
  exact ⟨rfl, ho1⟩

/-- What is sent of the parts, as bytes and verbs. -/
def atomsAt (raw : Bool) : Nat → List (List UInt8) → List Atom
  | _, [] => []
  | i, p :: ps => ((out8 raw p).map Atom.data ++ [.verb (b8 (251 + (i % 4 : Nat))) (b8 (i : Nat))]) ++ atomsAt raw (i + 1) ps
theorem atoms_datas (raw : Bool) : ∀ (ps : List (List UInt8)) (i : Nat), datas (atomsAt raw i ps) = cat8 (ps.map (out8 raw))
  | [], _ => rfl
  | p :: ps, i => by
    simp only [atomsAt, datas_append, datas_data, atoms_datas raw ps, List.map_cons, cat8]
    simp [datas]
theorem atoms_ok (raw : Bool) : ∀ (ps : List (List UInt8)) (i : Nat), ∀ a ∈ atomsAt raw i ps, a.Ok
  | [], _ => fun a h => by cases h
  | p :: ps, i => fun a h => by
    simp only [atomsAt, List.mem_append, List.mem_map, List.mem_singleton] at h
    rcases h with (⟨x, _, rfl⟩ | rfl) | h
    · trivial
    · have := b8_nat (z := 251 + ((i % 4 : Nat) : Int)) (by omega) (by omega)
      show 251 ≤ (b8 _).toNat ∧ (b8 _).toNat ≤ 254
      rw [this]
      omega
    · exact atoms_ok raw ps (i + 1) a h
theorem atoms_snoc (raw : Bool) (ps : List (List UInt8)) (p : List UInt8) : ∀ i, atomsAt raw i (ps ++ [p]) = atomsAt raw i ps ++ ((out8 raw p).map Atom.data ++ [.verb (b8 (251 + ((i + ps.length) % 4 : Nat))) (b8 ((i + ps.length : Nat)))]) := by
  induction ps with
  | nil => intro i; simp [atomsAt]
  | cons q ps ih =>
    intro i
    simp only [List.cons_append, atomsAt, ih, List.append_assoc, List.length_cons]
    rw [show i + 1 + ps.length = i + (ps.length + 1) from by omega]
theorem cat8_snoc (ps : List (List UInt8)) (p : List UInt8) : cat8 (ps ++ [p]) = cat8 ps ++ p := by
  rw [cat8_append]
  simp [cat8]

/-- Where the second loop stands. -/
structure PlAt (w1 : World) (B : Nat) (raw : Bool) (ps : List (List UInt8)) (W : World) (k : Nat) (V : Value) (m : Nat) (ys : List UInt8) : Prop where
  only : Only (fun i => B ≤ i) w1 W
  row : Body W B V ys
  len : m = ys.length
  told : ys = encs (atomsAt raw 0 (ps.take k))

theorem cplain_ok (w : World) (A B : Option Addr) (n c m d : Nat) (xs : List UInt8) (hs : Src w A n xs) (l : List BytesV) (hz : SlicesAt w B m l) (raw : Bool) (hn : n ≤ 300) (hnc : n ≤ c) (hc63 : c ≤ 9223372036854775807) (hm : m ≤ 20) :
    Calls Tryd.prog 3 #[.slice A n c, .slice B m d, .bool raw] w (Fine w) := by
  have hd : decide ((300 : Int) < (n : Int)) = false := by simp; omega
  have hd2 : decide ((20 : Int) < (m : Int)) = false := by simp; omega
  have HS := Lib.hid hs
  have HZ := Lib.hid hz
  have hxl := hs.1
  obtain ⟨T, hT⟩ : ∃ T, T = (feeds .zero xs).1 := ⟨_, rfl⟩
  obtain ⟨K, hK⟩ : ∃ K, K = T.length := ⟨_, rfl⟩
  have hKl : K ≤ 300 := by have := feeds_length .zero xs; rw [hK, hT]; omega
  have HA : Hid (∀ W, Only (fun _ => False) w W → Calls Tryd.prog 5 #[.slice A n c] W fun e w' => ∃ A' c' b, e = .returned (.tuple #[.slice A' K c', .bool b]) ∧ Hid (∃ (B0 : Nat) (ps : List TkP), ps.length = K ∧ ps.map TkP.t = T ∧ Toks w' B0 (.slice A' K c') ps) ∧ Hid (Only (fun _ => False) W w')) := fun W ho => by
    refine (all_any (hs.only ho (fun _ _ _ h => h)) hnc hc63 (by omega)).mono ?_
    rintro e w' ⟨v, ps, rfl, ht, hp, ho⟩
    obtain ⟨A', c', rfl, _, _⟩ := ht.form
    have hpl : ps.length = K := by rw [hK, hT, ← hp, List.length_map]
    rw [hpl] at ht ⊢
    exact ⟨A', c', _, rfl, ⟨_, ps, hpl, by rw [hp, hT], ht⟩, ho⟩
  have HC : Hid (∀ W, Only (fun _ => False) w W → Calls Tryd.prog 6 #[.slice A n c, .slice none 0 0, .bool true] W fun e w' => ∃ A' c', e = .returned (.slice A' K c') ∧ Hid (∃ (B0 : Nat) (ps : List TkP), ps.length = K ∧ ps.map TkP.t = T ∧ Toks w' B0 (.slice A' K c') ps) ∧ Hid (Only (fun _ => False) W w')) := fun W ho => by
    refine (clean_all_any (c := c) (d := 0) (hs.only ho (fun _ _ _ h => h)) (Ints.nil W none) true (by omega) (by omega)).mono ?_
    rintro e w' ⟨A', c', ps, rfl, hp, ht, _, _, ho⟩
    have hp' := hp.out
    rw [← hxl, bts_plain] at hp'
    have hpp := plain_raw xs .zero 0
    rw [show (⟨.zero, false, false⟩ : Cl) = .zero from rfl] at hpp
    rw [hpp, ← hT] at hp'
    have hpl : ps.length = K := by rw [hK, ← hp', List.length_map]
    rw [hpl] at ht ⊢
    exact ⟨A', c', rfl, ⟨_, ps, hpl, hp', ht.out⟩, ho⟩
  have hneq : (((K : Int) != (K : Int)) : Bool) = false := by simp
  clear hs hz hT hK hxl
  go_enter Tryd.func3, Tryd.ntmps3
  go_wp2_with (first
    | (go_at_call 4; refine (clive_any _).mono ?_; rintro e w1 ⟨rfl, ho1⟩; have HO1 := Lib.hid ho1; clear ho1)
    | (go_at_call 5; (with_reducible refine (HA.out w1 HO1.out).mono ?_); rintro e w2 ⟨A2, c2, b2, rfl, ht2, ho2⟩; have HO2 : Hid (Only (fun _ => False) w w2) := HO1.out.trans ho2.out (fun _ h => h.elim))
    | (go_at_call 6; (with_reducible refine (HC.out w2 HO2.out).mono ?_); rintro e w8 ⟨A8, c8, rfl, ht8, ho8⟩; have HOW8 : Hid (Only (fun _ => False) w w8) := HO2.out.trans ho8.out (fun _ h => h.elim)))
  go_loopw [42] (fun iv' W => ∃ q : Nat, q ≤ K ∧ iv' = .int .i64 (q : Int) ∧ Hid (Only (fun _ => False) w8 W)) (fun iv' _ => K - (intOf iv').toNat)
  case atStart => exact ⟨0, Nat.zero_le _, rfl, Only.refl _ _⟩
  case round =>
    obtain ⟨q, hq, rfl, ho⟩ := hrel
    by_cases hlt : q < K
    · obtain ⟨_, ps1, hl1, hm1, hT1'⟩ := ht2.out
      obtain ⟨_, ps2, hl2, hm2, hT2'⟩ := ht8.out
      have hT1 := (hT1'.same ho8.out).same ho.out
      have hT2 := hT2'.same ho.out
      obtain ⟨a, ha⟩ : ∃ a, ps1[q]? = some a := ⟨_, List.getElem?_eq_getElem (by rw [hl1]; exact hlt)⟩
      obtain ⟨b, hb⟩ : ∃ b, ps2[q]? = some b := ⟨_, List.getElem?_eq_getElem (by rw [hl2]; exact hlt)⟩
      have hab : a.t = b.t := by
        have h1 : (ps1.map TkP.t)[q]? = some a.t := by rw [List.getElem?_map, ha]; rfl
        have h2 : (ps2.map TkP.t)[q]? = some b.t := by rw [List.getElem?_map, hb]; rfl
        rw [hm1, ← hm2, h2] at h1
        exact (Option.some.inj h1).symm
      obtain ⟨ga, rfl, _, hga, hra, hba⟩ := hT1.at_ ha
      obtain ⟨gb, rfl, _, hgb, hrb, hbb⟩ := hT2.at_ hb
      obtain ⟨⟨tk, tc, to_, tb, tcut⟩, aad, acap⟩ := a
      obtain ⟨⟨bk, bc, bo, bb, bcut⟩, bad, bcap⟩ := b
      obtain ⟨rfl, rfl, rfl, rfl, rfl⟩ : tk = bk ∧ tc = bc ∧ to_ = bo ∧ tb = bb ∧ tcut = bcut := by
        simp only at hab
        injection hab with h1 h2 h3 h4 h5
        exact ⟨h1, h2, h3, h4, h5⟩
      obtain ⟨tn, htn⟩ : ∃ tn, tn = tb.length := ⟨_, rfl⟩
      have HFb := Lib.hid (five_of hrb)
      have HRA := Lib.hid hba.reads
      have HRB := Lib.hid hbb.reads
      have HTN := Lib.hid htn
      obtain ⟨cs, hcs⟩ : ∃ cs, cs = tkCells ⟨tk, tc, to_, tb, tcut⟩ (.slice aad tn acap) := ⟨_, rfl⟩
      have HCS := Lib.hid hcs
      have HR' : Hid (wr.rangeAt ga (q * 5) cs) := by
        rw [hcs, htn]
        exact hra
      have hcl : cs.length = 5 := by rw [hcs]; rfl
      have HCL' := Lib.hid hcl
      have HCO := Lib.hid (show ∀ v ∈ cs, v.oneCell' = true by rw [hcs]; exact tk_one _ _ _ _)
      clear hra hrb hba hbb ha hb htn hcs hcl hT1 hT2 hT1' hT2' hm1 hm2 hl1 hl2 hab
      go_wp2_with (first
        | ((with_reducible show wpList _ _ _ (⟨some 46, _, _, _, _, _⟩ :: _) _ _); refine wpList_load_mid rfl 30 (.tmp 45) rfl ga (q * 5) rfl cs _ HR'.out Tryd.underlying30 rfl (by rw [HCL'.out]; exact size_tok) ?_)
        | ((with_reducible show wpList _ _ _ (⟨none, .store 30 _ _, _, _, _, _⟩ :: _) _ _); refine step_store rfl 30 _ _ rfl wr.heap.size rfl cs rfl _ (tkCells Tk.none (.slice none 0 0)) (Blk.new _ _ _) (by rw [HCL'.out]; exact size_tok) HCL'.out.symm HCO.out ?_; intro w4 hB4 hz4 ho4))
      have ho4' : Only (fun i => wr.heap.size ≤ i) wr w4 := ((Only.refl (fun i => wr.heap.size ≤ i) wr).alloc _).trans ho4 (fun i hi => .inl (by omega))
      obtain ⟨N, hN⟩ : ∃ N, N = wr.heap.size := ⟨_, rfl⟩
      have HB4 : Hid (Blk w4 N 30 (tkCells ⟨tk, tc, to_, tb, tcut⟩ (.slice aad tn acap))) := by
        have h := hB4.out
        rw [HCS.out, ← hN] at h
        exact h
      have hf4 : FiveAt w4 gb (q * 5) ⟨tk, tc, to_, tb, tcut⟩ bad tn bcap := by
        have := HFb.out.only ho4' (by omega)
        rw [HTN.out]
        exact this
      have HF4 := Lib.hid hf4
      have HSame : Hid (∀ W, Only (fun _ => False) w4 W → Calls Tryd.prog 7 #[.agg #[.int .i64 tk, .int .i64 tc, .int .i64 to_, .slice aad tn acap, .bool tcut], .agg #[.int .i64 tk, .int .i64 tc, .int .i64 to_, .slice bad tn bcap, .bool tcut]] W fun e w' => e = .returned (.bool true) ∧ Hid (Only (fun _ => False) W w')) := fun W ho => (same_flat tk tc to_ tb tcut aad bad tn acap bcap HTN.out (by rw [HTN.out]; obtain ⟨A', c', e, h1, h2⟩ := HRA.out; exact ⟨A', c', e, (h1.only ho4' (fun hn ad hA => by have := h1.lt hn ad hA; omega)).only ho (fun _ _ _ h => h), h2⟩) (by rw [HTN.out]; obtain ⟨A', c', e, h1, h2⟩ := HRB.out; exact ⟨A', c', e, (h1.only ho4' (fun hn ad hA => by have := h1.lt hn ad hA; omega)).only ho (fun _ _ _ h => h), h2⟩)).mono fun e w' ⟨h1, h2⟩ => ⟨h1, h2⟩
      have HO84 := Lib.hid (ho.out.trans ho4' (fun i hi => .inr (by have := ho.out.size; omega)))
      have HAl : Hid (∀ W, Only (fun _ => False) w4 W → (W.cell? ⟨N, 0, none⟩ = some (.int .i64 tk) ∧ W.cell? ⟨N, 1, none⟩ = some (.int .i64 tc) ∧ W.cell? ⟨N, 2, none⟩ = some (.int .i64 to_) ∧ W.cell? ⟨N, 3, none⟩ = some (.slice aad tn acap) ∧ W.cell? ⟨N, 4, none⟩ = some (.bool tcut)) ∧ W.cell? ⟨gb, q * 5, none⟩ = some (.int .i64 tk) ∧ W.cell? ⟨gb, q * 5 + 1, none⟩ = some (.int .i64 tc) ∧ W.cell? ⟨gb, q * 5 + 2, none⟩ = some (.int .i64 to_) ∧ W.cell? ⟨gb, q * 5 + 3, none⟩ = some (.slice bad tn bcap) ∧ W.cell? ⟨gb, q * 5 + 4, none⟩ = some (.bool tcut)) := fun W ho => by
        have h1 := HB4.out.only ho (fun h => h)
        obtain ⟨y0, y1, y2, y3, y4⟩ := HF4.out
        exact ⟨⟨by rw [h1.cell]; rfl, by rw [h1.cell]; rfl, by rw [h1.cell]; rfl, by rw [h1.cell]; rfl, by rw [h1.cell]; rfl⟩, ho.cellv y0 (fun h => h), ho.cellv y1 (fun h => h), ho.cellv y2 (fun h => h), ho.cellv y3 (fun h => h), ho.cellv y4 (fun h => h)⟩
      have hD4 : Only (fun _ => False) w4 w4.drew := (Only.refl _ w4).drew
      rw [← hN]
      clear hf4 hN ho4' ho4 hz4 hB4 HRA HRB HFb HR'
      go_region_held3 (fun W => (W.cell? ⟨N, 0, none⟩ = some (.int .i64 tk) ∧ W.cell? ⟨N, 1, none⟩ = some (.int .i64 tc) ∧ W.cell? ⟨N, 2, none⟩ = some (.int .i64 to_) ∧ W.cell? ⟨N, 3, none⟩ = some (.slice aad tn acap) ∧ W.cell? ⟨N, 4, none⟩ = some (.bool tcut)) ∧ W.cell? ⟨gb, q * 5, none⟩ = some (.int .i64 tk) ∧ W.cell? ⟨gb, q * 5 + 1, none⟩ = some (.int .i64 tc) ∧ W.cell? ⟨gb, q * 5 + 2, none⟩ = some (.int .i64 to_) ∧ W.cell? ⟨gb, q * 5 + 3, none⟩ = some (.slice bad tn bcap) ∧ W.cell? ⟨gb, q * 5 + 4, none⟩ = some (.bool tcut))
        (exact HAl.out _ (by assumption))
        (first
          | (go_at_call 7; (with_reducible refine (HSame.out _ (by assumption)).mono ?_); rintro e w5' ⟨rfl, ho5⟩; have hD5 : Only (fun _ => False) w4 w5' := hD4.trans ho5.out (fun _ h => h.elim)))
      go_wp2
      go_roundw
      case rel => exact ⟨q + 1, by omega, by go_num, HO84.out.trans hD5 (fun _ h => h.elim)⟩
      case measure => simp [intOf]; omega
    · obtain rfl : q = K := by omega
      have HO9 := Lib.hid (HOW8.out.trans ho.out (fun _ h => h.elim))
      obtain ⟨W9, hW9⟩ : ∃ W9, W9 = wr := ⟨_, rfl⟩
      subst hW9
      clear hlt ho
      have H0 : Hid (PlAt W9 W9.heap.size raw (l.map BytesV.xs) (W9.alloc (.cells #[] 5)) 0 (.slice (some ⟨W9.heap.size, 0, none⟩) 0 0) 0 []) := ⟨(Only.refl _ _).alloc _, own_of_blk (cur := []) (Blk.new W9 _ []) rfl rfl (Nat.le_refl _) (by omega) (Nat.le_refl _), rfl, by simp [atomsAt, encs]⟩
      go_wp2
      obtain ⟨B0, hB0⟩ : ∃ B0, B0 = W9.heap.size := ⟨_, rfl⟩
      rw [← hB0] at H0 ⊢
      have HB0 := Lib.hid hB0
      clear hB0
      go_loopw [12, 13, 58] (fun av sv iv' W => ∃ (k : Nat) (s : List UInt8) (sA : Option Addr) (sn sc : Nat), k ≤ m ∧ iv' = .int .i64 (k : Int) ∧ av = .string ⟨s.toArray⟩ ∧ sv = .slice sA sn sc ∧ s.length ≤ 50 * k ∧ sn ≤ 203 * k ∧ Hid (s = cat8 ((l.map BytesV.xs).take k)) ∧ Hid (∃ ys, PlAt W9 B0 raw (l.map BytesV.xs) W k (.slice sA sn sc) sn ys)) (fun _ _ iv' _ => m - (intOf iv').toNat)
      case atStart => exact ⟨0, [], _, _, _, Nat.zero_le _, rfl, rfl, rfl, by simp, by simp, Lib.hid (by simp [cat8]), [], H0.out⟩
      case round =>
        clear H0
        obtain ⟨k, s, sA, sn, sc, hk, rfl, rfl, rfl, hsl, hsn, hS, hrel⟩ := hrel
        obtain ⟨ys, hP⟩ := hrel.out
        have HP := Lib.hid hP
        have hO : Only (fun _ => False) w wr := HO9.out.trans hP.only (fun i hi => .inr (by have := HO9.out.size; have := HB0.out; omega))
        by_cases hlt : k < m
        · obtain ⟨x, hx⟩ : ∃ x, l[k]? = some x := ⟨_, List.getElem?_eq_getElem (by rw [HZ.out.1]; exact hlt)⟩
          obtain ⟨⟨b, off, rfl, hcx⟩, hbx⟩ := HZ.out.2 k x hx
          have hcW := hO.cellv hcx (fun h => h)
          obtain ⟨xad, xlen, xcap, xx⟩ := x
          simp only at hcW
          by_cases hbig : 50 < xlen
          · have h50 : decide ((50 : Int) < (xlen : Int)) = true := by simp; omega
            have HO := Lib.hid hO
            clear hP hrel hO hcx hbx hx
            go_wp2
            go_ret
            exact ⟨rfl, HO.out⟩
          · have h50 : decide ((50 : Int) < (xlen : Int)) = false := by simp; omega
            have hsx := hbx.src.only hO (fun _ _ _ h => h)
            simp only at hsx
            have hle := hbx.le
            simp only at hle
            have hxxl : xx.length = xlen := hsx.1
            obtain ⟨E, hE⟩ : ∃ E, E = out8 raw xx := ⟨_, rfl⟩
            obtain ⟨en, hen⟩ : ∃ en, en = E.length := ⟨_, rfl⟩
            obtain ⟨G, hG⟩ : ∃ G, G = dbl E := ⟨_, rfl⟩
            obtain ⟨gn, hgn⟩ : ∃ gn, gn = G.length := ⟨_, rfl⟩
            have hel : en ≤ 100 := by have := out8_le raw xx; rw [← hE, ← hen] at this; omega
            have hgl : gn ≤ 200 := by have := (dbl_length E).2; rw [← hG, ← hgn, ← hen] at this; omega
            have HEn : Hid (Calls Tryd.prog 9 #[.slice xad xlen xcap, .bool raw] wr fun e w' => ∃ A' c', e = .returned (.slice A' en c') ∧ Hid (Src w' A' en E) ∧ Hid (Only (fun _ => False) wr w')) := by
              refine (encode_any (c := xcap) hsx raw (by omega) hle).mono ?_
              rintro e w' ⟨A', c', rfl, hb, ho⟩
              rw [← hE, ← hen] at hb ⊢
              exact ⟨A', c', rfl, hb.out.src hen, ho⟩
            have HDt : Hid (∀ (W : World) (A' : Option Addr) (c' : Nat), Src W A' en E → Calls Tryd.prog 8 #[.slice A' en c'] W fun e w' => ∃ A4 c4, e = .returned (.slice A4 gn c4) ∧ Hid (Src w' A4 gn G) ∧ Hid (Only (fun _ => False) W w')) := fun W A' c' h => by
              refine (data_any (c := c') h (by omega)).mono ?_
              rintro e w' ⟨A4, c4, rfl, hb, ho⟩
              rw [← hG, ← hgn] at hb ⊢
              exact ⟨A4, c4, rfl, hb.out.src hgn, ho⟩
            obtain ⟨z, hzr⟩ : ∃ z : Int, z = ((k % 4 : Nat) : Int) := ⟨_, rfl⟩
            have hrem : (k : Int).tmod 4 = z := by rw [hzr, Int.tmod_eq_emod_of_nonneg (by omega)]; omega
            have hz0 : 0 ≤ z := by omega
            have hz3 : z ≤ 3 := by omega
            have HV : Hid (∀ W : World, Calls Tryd.prog 10 #[.int .i64 (251 + z), .int .i64 (k : Int)] W fun e w' => ∃ A6 c6, e = .returned (.tuple #[.slice A6 3 c6, .nilIface]) ∧ Hid (Src w' A6 3 [255, b8 (251 + z), b8 (k : Int)]) ∧ Hid (Only (fun _ => False) W w')) := fun W => by
              refine (verb_ok (251 + z) (k : Int) (by omega) (by omega)).mono ?_
              rintro e w' ⟨A6, c6, rfl, hb, ho⟩
              exact ⟨A6, c6, rfl, hb.out.src rfl, ho⟩
            have hcv := text_of (P := Tryd.prog) hsx xcap 22 9 5 Tryd.underlying22 Tryd.underlying5 Tryd.underlying9
            obtain ⟨s', hs'⟩ : ∃ s', s' = s ++ xx := ⟨_, rfl⟩
            have hsum : ∀ W, (Op.stringOp .add (ByteArray.mk s.toArray) (ByteArray.mk xx.toArray)).run Tryd.prog W = .ok (.string (ByteArray.mk s'.toArray)) W := fun W => sum_texts s xx s' hs'.symm (by omega)
            have hsl' : s'.length ≤ 50 * (k + 1) := by rw [hs', List.length_append]; omega
            have HS' : Hid (s' = cat8 ((l.map BytesV.xs).take (k + 1))) := by
              show s' = _
              rw [take_snoc (x := xx) (by rw [List.getElem?_map, hx]; rfl), cat8_snoc, ← hS.out, hs']
            have HAt : Hid (encs (atomsAt raw 0 ((l.map BytesV.xs).take (k + 1))) = ys ++ G ++ [255, b8 (251 + z), b8 (k : Int)]) := by
              have hkl : ((l.map BytesV.xs).take k).length = k := by rw [List.length_take, List.length_map, HZ.out.1]; omega
              show _ = _
              rw [take_snoc (x := xx) (by rw [List.getElem?_map, hx]; rfl), atoms_snoc, encs_append, encs_append, encs_data, ← hP.told, Nat.zero_add, hkl, ← hE, ← hG, hzr]
              simp [encs, Atom.enc]
            have HBW : Hid (B0 ≤ wr.heap.size) := by show _ ≤ _; rw [HB0.out]; exact hP.only.size
            have HRow := Lib.hid hP.row
            have HLen := Lib.hid hP.len
            have hsnb : sn ≤ 4060 := by omega
            clear hP hrel hO hcx hbx hx hsx hE hen hG hgn hs' hzr hxxl
            go_wp2_with (first
              | (go_at_call 9; (with_reducible refine HEn.out.mono ?_); rintro e w3 ⟨A3, c3, rfl, hs3, ho3⟩)
              | (go_at_call 8; (with_reducible refine (HDt.out w3 A3 c3 hs3.out).mono ?_); rintro e w4 ⟨A4, c4, rfl, hs4, ho4⟩; have HO4 : Hid (Only (fun _ => False) wr w4) := ho3.out.trans ho4.out (fun _ h => h.elim); have HR4 : Hid (Body w4 B0 (.slice sA sn sc) ys) := own_same HRow.out HO4.out)
              | (at_builtin; refine step_bytesG rfl (.tmp 70) (.tmp 74) rfl B0 sA sn sc ys rfl HR4.out HLen.out A4 gn c4 G rfl hs4.out (by omega) (Nat.le_trans HBW.out HO4.out.size) ?_; intro A5 c5 w5 hb5 hg5)
              | (go_at_call 10; (with_reducible refine (HV.out w5).mono ?_); rintro e w6 ⟨A6, c6, rfl, hs6, ho6⟩; have HR6 : Hid (Body w6 B0 (.slice A5 (sn + gn) c5) (ys ++ G)) := own_same hb5.out ho6.out)
              | (at_builtin; refine step_bytesG rfl (.tmp 86) (.tmp 87) rfl B0 A5 (sn + gn) c5 (ys ++ G) rfl HR6.out (by have := HLen.out; have := hs4.out.1; rw [List.length_append]; omega) A6 3 c6 _ rfl hs6.out (by omega) (Nat.le_trans (Nat.le_trans (Nat.le_trans HBW.out HO4.out.size) hg5.out.size) ho6.out.size) ?_; intro A7 c7 w7 hb7 hg7))
            go_roundw
            case rel =>
              refine ⟨k + 1, s', A7, sn + gn + 3, c7, by omega, by go_num, rfl, rfl, hsl', by omega, HS', ys ++ G ++ [255, b8 (251 + z), b8 (k : Int)], ?_, hb7.out, ?_, HAt.out.symm⟩
              · exact (((HP.out.only.trans HO4.out (fun _ h => h.elim)).grown hg5.out (fun q hq => .inl (own_lt HR4.out q hq).1)).trans ho6.out (fun _ h => h.elim)).grown hg7.out (fun q hq => .inl (own_lt HR6.out q hq).1)
              · have := HLen.out
                have := hs4.out.1
                simp only [List.length_append, List.length_cons, List.length_nil]
                omega
            case measure => simp [intOf]; omega
        · obtain rfl : k = m := by omega
          have hps : (l.map BytesV.xs).take k = l.map BytesV.xs := List.take_of_length_le (by rw [List.length_map, HZ.out.1]; exact Nat.le_refl _)
          have htold := hP.told
          rw [hps] at htold
          have hsc : s = cat8 (l.map BytesV.xs) := by rw [← hps]; exact hS.out
          have hyl : ys.length = sn := hP.len.symm
          have hD : s = data9 ((feeds9 .zero 0 (bts ys (mkd sn []) raw)).1.map Prod.fst) := by
            rw [← hyl, bts_plain, htold]
            have h1 := clean_atoms raw (atomsAt raw 0 (l.map BytesV.xs)) (atoms_ok raw _ 0) false 0
            rw [show (⟨.zero, false, false⟩ : Cl) = .zero from rfl] at h1
            rw [h1, atoms_datas, back8, hsc]
          obtain ⟨dn, hdn⟩ : ∃ dn, dn = s.length := ⟨_, rfl⟩
          have HD : Hid (Calls Tryd.prog 11 #[.slice sA sn sc, .slice none 0 0, .bool raw] wr fun e w' => ∃ A' c', e = .returned (.slice A' dn c') ∧ (convert 22 9 (.slice A' dn c')).run Tryd.prog w' = .ok (.string ⟨s.toArray⟩) w' ∧ Hid (Only (fun _ => False) wr w')) := by
            refine (clean_data_any (c := sc) (d := 0) (hP.row.src hP.len) (Ints.nil wr none) raw (by omega) (by omega) s hD).mono ?_
            rintro e w' ⟨A', c', rfl, hb, ho⟩
            rw [← hdn] at hb ⊢
            exact ⟨A', c', rfl, text_of (P := Tryd.prog) (hb.out.src hdn) c' 22 9 5 Tryd.underlying22 Tryd.underlying5 Tryd.underlying9, ho⟩
          have HO := Lib.hid hO
          clear hP hrel hO htold hsc hyl hD hdn hps hlt
          go_wp2_with (go_at_call 11; (with_reducible refine HD.out.mono ?_); rintro e w2' ⟨A', c', rfl, hcv, ho⟩)
          go_ret
          exact ⟨rfl, HO.out.trans ho.out (fun _ h => h.elim)⟩

theorem cleanPlain_walk (W : World) {H : Type} {enc : TypeId × Value → H} {f0 f1 : Nat} {A B : Option Addr} {n c m d : Nat} {x y : DataW H × List MemPlace} (hf : DataW.trod enc Tryd.prog W 0 (fun _ => true) true f0 22 [.slice A n c] = some x)
    (hg : DataW.trod enc Tryd.prog W 0 (fun _ => true) true f1 23 [.slice B m d] = some y) (raw : Bool) :
    Calls Tryd.prog 3 #[.slice A n c, .slice B m d, .bool raw] W (Fine W) := by
  obtain ⟨A', n', c', xs, e1, h1, h2, h3⟩ := opened_cell hf
  injection e1 with e1 e2 e3
  subst e1 e2 e3
  obtain ⟨_, _, l, hl⟩ := opened_slices hg
  by_cases h : 300 < n
  · exact cplain_long W A B n c m d raw h
  · by_cases h' : 20 < m
    · exact cplain_many W A B n c m d raw (by omega) h'
    · exact cplain_ok W A B n c m d xs h1 l hl raw (by omega) h2 h3 (by omega)
end Go.Proofs.YtelmfncdamakfaaDoor
