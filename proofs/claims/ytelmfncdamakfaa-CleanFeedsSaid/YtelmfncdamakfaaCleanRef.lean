/- The document's Clean of layer 9. -/
import Derived.Test.YtelmfncdamakfaaCleanTok
import Derived.Test.YtelmfncdamakfaaFlg
import Derived.Deep.RegionHeld3
import Derived.Deep.RegionHeldLaw
namespace Go.Proofs.Ytelmfncdamakfaa
open Go Go.RowKit
set_option maxRecDepth 100000
set_option maxHeartbeats 4000000

abbrev Hd : Type := Nat × UInt8 × Bool
def stay1 (n k : Nat) (toks : List (Tk × Nat)) : List Bool := (toks.take k).map (fun q => !isData q.1) ++ List.replicate (n - k) false
theorem stay1_next {n k : Nat} {toks : List (Tk × Nat)} {q : Tk × Nat} (hq : toks[k]? = some q) (hn : toks.length = n) : (stay1 n k toks).set k (!isData q.1) = stay1 n (k + 1) toks := by
  have hk : k < toks.length := (List.getElem?_eq_some_iff.1 hq).1
  unfold stay1
  rw [take_snoc hq, List.map_append, List.set_append_right _ _ (by simp; omega), List.length_map, List.length_take, Nat.min_eq_left (by omega), Nat.sub_self, show n - k = (n - (k + 1)) + 1 from by omega, List.replicate_succ]
  simp
theorem stay1_length {n k : Nat} {toks : List (Tk × Nat)} (hn : toks.length = n) (hk : k ≤ n) : (stay1 n k toks).length = n := by
  unfold stay1
  simp
  omega

/-- Where Clean stands, going through all tokens. -/
structure C1 (w1 : World) (g N n : Nat) (l : List Bt) (toks : List (Tk × Nat)) (W : World) (k last : Nat) (deaf : Bool) (F P : Value) (m : Nat) (hs : List Hd) : Prop where
  only : Only (fun i => w1.heap.size ≤ i) w1 W
  stay : Blk W g 4 ((stay1 n k toks).map .bool)
  flags : W.ownsRow (g + 1) 4 1 F m (hs.map fun h => .bool h.2.2)
  places : W.ownsRow (g + 1) 3 1 P m (hs.map fun h => iv h.1)
  len : m = hs.length
  told : hs ++ heard9 l last deaf k (toks.drop k) = heard9 l 0 false 0 toks
  up : Up last N (toks.drop k)

section
variable {w1 W0 w4 : World} {g N n : Nat} {l : List Bt} {toks : List (Tk × Nat)} {k last e : Nat} {deaf d1 : Bool} {F P : Value} {m : Nat} {hs : List Hd} {t : Tk}
/-- Whether a token stays, as first told. -/
theorem C1.set {b : Bool} (hC : C1 w1 g N n l toks W0 k last deaf F P m hs) (hg : g = w1.heap.size) (hO : Only (fun i => W0.heap.size ≤ i) W0 w4) (hn : toks.length = n) (hte : toks[k]? = some (t, e)) (hb : b = !isData t) :
    Blk (w4.setCell ⟨g, k, none⟩ (.bool b)) g 4 ((stay1 n (k + 1) toks).map .bool) ∧ (w4.setCell ⟨g, k, none⟩ (.bool b)).ownsRow (g + 1) 4 1 F m (hs.map fun h => .bool h.2.2) ∧ (w4.setCell ⟨g, k, none⟩ (.bool b)).ownsRow (g + 1) 3 1 P m (hs.map fun h => iv h.1) ∧ Only (fun i => w1.heap.size ≤ i) w1 (w4.setCell ⟨g, k, none⟩ (.bool b)) := by
  subst hb
  have hgl := hC.stay.lt
  have hO1 : Only (· = g) w4 (w4.setCell ⟨g, k, none⟩ (.bool (!isData t))) := (Only.refl (· = g) w4).setCell (p := ⟨g, k, none⟩) (.inl rfl) _
  refine ⟨?_, ?_, ?_, ?_⟩
  · have := (hC.stay.only hO (by omega)).setCell k (.bool (!isData t))
    rw [← List.map_set, stay1_next hte hn] at this
    exact this
  · exact own_only (own_only hC.flags hO (fun q hq => by have := (own_lt hC.flags q hq).2; omega)) hO1 (fun q hq => by have := (own_lt hC.flags q hq).1; omega)
  · exact own_only (own_only hC.places hO (fun q hq => by have := (own_lt hC.places q hq).2; omega)) hO1 (fun q hq => by have := (own_lt hC.places q hq).1; omega)
  · exact (hC.only.trans hO (fun i hi => .inl (by have := hC.only.size; omega))).setCell (p := ⟨g, k, none⟩) (.inl (by show w1.heap.size ≤ g; omega)) _
/-- A token that isn't heard. -/
theorem C1.skip (hC : C1 w1 g N n l toks W0 k last deaf F P m hs) (hg : g = w1.heap.size) (hO : Only (fun i => W0.heap.size ≤ i) W0 w4) (hn : toks.length = n) (hte : toks[k]? = some (t, e)) (hd1 : d1 = (deaf || anyIn l last (e + 1)))
    (hup : Up (e + 1) N (toks.drop (k + 1))) (hq : (isData t && !(d1 && !isDM t)) = false) : C1 w1 g N n l toks (w4.setCell ⟨g, k, none⟩ (.bool (!isData t))) (k + 1) (e + 1) (d1 && !isDM t) F P m hs := by
  have hgl := hC.stay.lt
  have hO1 : Only (· = g) w4 (w4.setCell ⟨g, k, none⟩ (.bool (!isData t))) := (Only.refl (· = g) w4).setCell (p := ⟨g, k, none⟩) (.inl rfl) _
  have hdrop : toks.drop k = (t, e) :: toks.drop (k + 1) := by
    obtain ⟨hk, e⟩ := List.getElem?_eq_some_iff.1 hte
    rw [List.drop_eq_getElem_cons hk, e]
  refine ⟨?_, ?_, ?_, ?_, hC.len, ?_, hup⟩
  · exact (hC.only.trans hO (fun i hi => .inl (by have := hC.only.size; omega))).setCell (p := ⟨g, k, none⟩) (.inl (by show w1.heap.size ≤ g; omega)) _
  · have := (hC.stay.only hO (by omega)).setCell k (.bool (!isData t))
    rw [← List.map_set, stay1_next hte hn] at this
    exact this
  · exact own_only (own_only hC.flags hO (fun q hq => by have := (own_lt hC.flags q hq).2; omega)) hO1 (fun q hq => by have := (own_lt hC.flags q hq).1; omega)
  · exact own_only (own_only hC.places hO (fun q hq => by have := (own_lt hC.places q hq).2; omega)) hO1 (fun q hq => by have := (own_lt hC.places q hq).1; omega)
  · have h := hC.told
    rw [hdrop] at h
    simp only [heard9] at h
    rw [← hd1, hq] at h
    simpa using h
end

/-- Where Clean stands, going through what is heard. -/
structure C2 (W3 : World) (g : Nat) (H : List Hd) (S0 : List Bool) (W : World) (j : Nat) (S : List Bool) (bh : Bool) : Prop where
  only : Only (· = g) W3 W
  stay : Blk W g 4 (S.map .bool)
  told : setGo bh (H.drop j) S = setGo false H S0
  bhok : Bh (H.map fun h => h.2.1) (H.map fun h => h.2.2) j bh
theorem own_flg {w : World} {B : Nat} {A : Option Addr} {n c : Nat} {rs : List Bool} (h : w.ownsRow B 4 1 (.slice A n c) n (rs.map .bool)) (hn : rs.length = n) : Flg w A n rs :=
  ⟨hn, fun h0 => by
    obtain ⟨g, e, _, _, hc⟩ := own_at h h0
    exact ⟨_, e, fun j r hj => by rw [at_add]; exact hc j _ (by rw [List.getElem?_map, hj]; rfl)⟩⟩

/-- Where Clean stands, gathering what stays. -/
structure C4 (W4 : World) (Fl : List Bool) (toks : List (Tk × Nat)) (W : World) (k : Nat) (ov ev : Value) (n' : Nat) (ys : List (Tk × Nat)) : Prop where
  only : Only (fun i => W4.heap.size ≤ i) W4 W
  row : W.ownsRow W4.heap.size 56 5 ov n' (flatR (ys.map Prod.fst))
  ends : W.ownsRow W4.heap.size 3 1 ev n' ((ys.map Prod.snd).map iv)
  len : n' = ys.length
  told : ys ++ gather9 (Fl.drop k) (toks.drop k) = gather9 Fl toks
theorem flags9_length (l : List Bt) : ∀ (toks : List (Tk × Nat)) (last : Nat) (deaf bh : Bool), (flags9 l last deaf bh toks).length = toks.length
  | [], _, _, _ => rfl
  | (t, e) :: r, last, deaf, bh => by simp only [flags9, List.length_cons, flags9_length l r]

theorem refClean_any {w : World} (l : List Bt) (s : List UInt8) (hs : s = l.map Bt.c) {A1 A2 : Option Addr} {n1 n2 c1 c2 : Nat} (hm : Flg w A1 n1 (l.map Bt.mark)) (hr : Flg w A2 n2 (l.map Bt.raw)) (hlen : s.length ≤ 100000) (out : List (Tk × Nat)) (hout : out = clean9 l 0 false false (ends9 .zero 0 s)) :
    Calls Try.prog 8 #[.string ⟨s.toArray⟩, .slice A1 n1 c1, .slice A2 n2 c2] w fun e w' => ∃ A c B d n, e = .returned (.tuple #[.slice A n c, .slice B n d]) ∧ Hid (n = out.length) ∧ Hid (RRow w' w.heap.size (.slice A n c) (out.map Prod.fst)) ∧ Hid (IRow w' w.heap.size (.slice B n d) (out.map Prod.snd)) ∧ Hid (Only (fun _ => False) w w') := by
  have hsl : s.length = l.length := by rw [hs, List.length_map]
  have HM := Lib.hid hm
  have HR := Lib.hid hr
  have HOut := Lib.hid hout
  obtain ⟨toks, htoks⟩ : ∃ toks, toks = ends9 .zero 0 s := ⟨_, rfl⟩
  have hup : Up 0 s.length toks := by have := ends_up s .zero 0; rw [Nat.zero_add] at this; rw [htoks]; exact this
  have hby : Bytes9 toks := by rw [htoks]; exact ends_bytes _ _ _
  have hll : toks.length ≤ 100000 := by have := ends_length s .zero 0; rw [htoks]; omega
  have HUp := Lib.hid hup
  have HBy := Lib.hid hby
  have HTk := refTokens_any w s hlen
  rw [← htoks] at HTk HOut
  have HTok := Lib.hid HTk
  have HLl := Lib.hid hll
  clear hm hr hup hby HTk htoks hout hs hll
  obtain ⟨N, hN⟩ : ∃ N, N = s.length := ⟨_, rfl⟩
  have HNl : Hid (N = l.length) := hN.trans hsl
  have hN1 : N ≤ 100000 := by omega
  rw [← hN] at HUp
  clear hsl hlen hN
  go_enter Try.func8, Try.ntmps8
  go_wp2_with (first
    | (go_at_call 22; refine HTok.out.mono ?_; rintro e w1 ⟨At, ct, Be, de, n, rfl, hn, hT1, hE1, ho1⟩; have hn1 : n ≤ 100000 := (by rw [hn.out]; exact HLl.out); have hmk := make_bools n (by omega)))
  obtain ⟨w2, hw2⟩ : ∃ w2, w2 = ((w1.alloc (.cells (Array.replicate n (.bool false)) 4)).alloc (.cells #[] 4)).alloc (.cells #[] 3) := ⟨_, rfl⟩
  have hnl : toks.length = n := hn.out.symm
  have h0 : C1 w1 w1.heap.size N n l toks w2 0 0 false (.slice (some ⟨w1.heap.size + 1, 0, none⟩) 0 0) (.slice (some ⟨w1.heap.size + 2, 0, none⟩) 0 0) 0 [] := by
    have hb1 : Blk w2 w1.heap.size 4 ((stay1 n 0 toks).map .bool) := by
      rw [hw2]
      have e : (Array.replicate n (Value.bool false)) = ((stay1 n 0 toks).map Value.bool).toArray := by simp [stay1]
      rw [e]
      exact ((Blk.new w1 _ _).alloc _).alloc _
    have hb2 : Blk w2 (w1.heap.size + 1) 4 [] := by
      rw [hw2]
      exact (Blk.new' (n := w1.heap.size + 1) (w1.alloc _) 4 [] (by simp)).alloc _
    have hb3 : Blk w2 (w1.heap.size + 2) 3 [] := by
      rw [hw2]
      exact Blk.new' (n := w1.heap.size + 2) ((w1.alloc _).alloc _) 3 [] (by simp)
    exact ⟨by rw [hw2]; exact (((Only.refl _ _).alloc _).alloc _).alloc _, hb1, own_of_blk (cur := []) hb2 rfl rfl (Nat.le_refl _) (by omega) (Nat.le_refl _), own_of_blk (cur := []) hb3 rfl rfl (Nat.le_refl _) (by omega) (by omega), rfl, rfl, HUp.out⟩
  have H0 := Lib.hid h0
  obtain ⟨g, hg⟩ : ∃ g, g = w1.heap.size := ⟨_, rfl⟩
  rw [← hw2]
  rw [← hg] at H0 ⊢
  have HG := Lib.hid hg
  have HNl2 := Lib.hid hnl
  clear h0 hw2 hg hmk hnl
  go_loopw [11, 12, 13, 14, 15, 35] (fun dv fv pv lv av iv' W => ∃ (k m last : Nat) (deaf : Bool) (fA : Option Addr) (fc : Nat) (pA : Option Addr) (pc : Nat) (D : List UInt8), iv' = .int .i64 (k : Int) ∧ k ≤ n ∧ dv = .string ⟨D.toArray⟩ ∧ fv = .slice fA m fc ∧ pv = .slice pA m pc ∧ lv = .int .i64 (last : Int) ∧ av = .bool deaf ∧ m ≤ k ∧ D.length ≤ k ∧ Hid (∃ hs : List Hd, D = hs.map (fun h => h.2.1) ∧ C1 w1 g N n l toks W k last deaf (.slice fA m fc) (.slice pA m pc) m hs)) (fun _ _ _ _ _ iv' _ => n - (intOf iv').toNat)
  case atStart => exact ⟨0, 0, 0, false, _, _, _, _, [], rfl, Nat.zero_le _, rfl, rfl, rfl, rfl, rfl, Nat.le_refl _, Nat.le_refl _, [], rfl, H0.out⟩
  case round =>
    clear H0
    obtain ⟨k, m, last, deaf, fA, fc, pA, pc, D, rfl, hk, rfl, rfl, rfl, rfl, rfl, hmk, hDk, hrel⟩ := hrel
    obtain ⟨hs, hDh, hC⟩ := hrel.out
    have HC := Lib.hid hC
    have HDh := Lib.hid hDh
    by_cases hlt : k < n
    · obtain ⟨⟨t, e⟩, hte⟩ : ∃ q, toks[k]? = some q := ⟨_, List.getElem?_eq_getElem (by rw [HNl2.out]; exact hlt)⟩
      have hdrop : toks.drop k = (t, e) :: toks.drop (k + 1) := by rw [List.drop_eq_getElem_cons (by rw [HNl2.out]; exact hlt), (List.getElem?_eq_some_iff.1 hte).2]
      have htold := hC.told
      have hup := hC.up
      rw [hdrop] at htold hup
      simp only [heard9] at htold
      obtain ⟨hle, heN, hup'⟩ := hup
      have HTo := Lib.hid htold
      have HUp' := Lib.hid hup'
      have HSt := Lib.hid (stay1_next hte HNl2.out)
      have HSl := Lib.hid (stay1_length (n := n) (k := k) HNl2.out hk)
      have hbyt := HBy.out (t, e) (List.mem_of_getElem? hte)
      -- the token, and its place
      have hT1' : w1.ownsRow w.heap.size 56 5 (.slice At n ct) n (flatR (toks.map Prod.fst)) := by have := hT1.out; unfold RRow at this; rw [List.length_map, HNl2.out] at this; exact this
      have hE1' : w1.ownsRow w.heap.size 3 1 (.slice Be n de) n ((toks.map Prod.snd).map iv) := by have := hE1.out; unfold IRow at this; rw [List.length_map, HNl2.out] at this; exact this
      obtain ⟨gt, rfl, _, hgt, hcellT⟩ := own_at hT1' (by omega)
      obtain ⟨ge, rfl, _, hge, hcellE⟩ := own_at hE1' (by omega)
      have hrng : wr.rangeAt gt (k * 5) (rkCells t) := fun j u hj => hC.only.cellv (hcellT _ _ (flatR_get (by rw [List.getElem?_map, hte]; rfl) j u hj)) (by show ¬ w1.heap.size ≤ gt; omega)
      have hcE1 : w1.cell? ⟨ge, k, none⟩ = some (.int .i64 (e : Int)) := hcellE k _ (by rw [List.getElem?_map, List.getElem?_map, hte]; rfl)
      obtain ⟨tk, tc, to_, tb, tcut⟩ := t
      obtain ⟨cs, hcs⟩ : ∃ cs, cs = rkCells ⟨tk, tc, to_, tb, tcut⟩ := ⟨_, rfl⟩
      rw [← hcs] at hrng
      have HRg := Lib.hid hrng
      have HL : Hid (cs.length = 5) := by rw [hcs]; rfl
      have HO : Hid (∀ v ∈ cs, v.oneCell' = true) := by rw [hcs]; exact rk_one _
      have HCS := Lib.hid hcs
      have HE := Lib.hid hcE1
      have HgE := Lib.hid hge
      have hsz := hC.only.size
      have HTe := Lib.hid hte
      clear hcellT hcellE hrng hcs hcE1 hT1' hE1' htold hup' hrel hDh hC hdrop hte hge
      obtain ⟨W0, hW0⟩ : ∃ W0, W0 = wr := ⟨_, rfl⟩
      subst hW0
      go_wp2_with (first
        | ((with_reducible show wpList _ _ _ (⟨some 39, _, _, _, _, _⟩ :: _) _ _); refine wpList_load_mid rfl 56 (.tmp 38) rfl gt (k * 5) rfl cs _ HRg.out Try.underlying56 rfl (by rw [HL.out]; exact size_rtok) ?_)
        | ((with_reducible show wpList _ _ _ (⟨none, .store 56 _ _, _, _, _, _⟩ :: _) _ _); refine step_store rfl 56 _ _ rfl W0.heap.size rfl cs rfl _ (rkCells Tk.none) (Blk.new _ _ _) (by rw [HL.out]; exact size_rtok) HL.out.symm HO.out ?_; intro w4 hB4 hz4 ho4; have hO4 : Hid (Only (fun i => W0.heap.size ≤ i) W0 w4) := ((Only.refl (fun i => W0.heap.size ≤ i) W0).alloc _).trans ho4 (fun i hi => .inl (by omega)); have hs4 := hO4.out.size))
      have hO14 : Hid (Only (fun i => w1.heap.size ≤ i) w1 w4) := HC.out.only.trans hO4.out (fun i hi => .inl (by omega))
      have hO04 : Hid (Only (fun _ => False) w w4) := ho1.out.trans hO14.out (fun i hi => .inr (by have := ho1.out.size; omega))
      have hE4 : w4.cell? ⟨ge, k, none⟩ = some (.int .i64 (e : Int)) := hO14.out.cellv HE.out (by show ¬ w1.heap.size ≤ ge; have := HgE.out; omega)
      have q0 : w4.cell? ⟨W0.heap.size, 0, none⟩ = some (.int .i64 tk) := by rw [hB4.out.cell, HCS.out]; rfl
      have q1 : w4.cell? ⟨W0.heap.size, 1, none⟩ = some (.int .i64 tc) := by rw [hB4.out.cell, HCS.out]; rfl
      have hM4 := Lib.hid (HM.out.same hO04.out)
      have hR4 := Lib.hid (HR.out.same hO04.out)
      go_loopw [14, 15] (fun lv dv W => ∃ q : Nat, last ≤ q ∧ q ≤ e + 1 ∧ lv = .int .i64 (q : Int) ∧ dv = .bool (deaf || anyIn l last q) ∧ W = w4) (fun lv _ _ => e + 1 - (intOf lv).toNat)
      case atStart => exact ⟨last, Nat.le_refl _, by omega, rfl, by rw [anyIn_self]; simp, rfl⟩
      case round =>
        obtain ⟨q, hq1, hq2, rfl, rfl, hwr⟩ := hrel
        subst wr
        by_cases hqe : q ≤ e
        · have hd : decide ((q : Int) ≤ (e : Int)) = true := by simp; omega
          obtain ⟨x, hx⟩ : ∃ x, l[q]? = some x := ⟨_, List.getElem?_eq_getElem (by have := HNl.out; omega)⟩
          have hnx := anyIn_next hx hq1
          obtain ⟨ad, rfl, hcm⟩ := hM4.out.2 (by rw [← hM4.out.1, List.length_map]; have := HNl.out; omega)
          have cm := hcm q x.mark (by rw [List.getElem?_map, hx]; rfl)
          have hqn1 : q < n1 := by rw [← hM4.out.1, List.length_map]; have := HNl.out; omega
          obtain ⟨dd, hdd⟩ : ∃ dd, dd = (deaf || anyIn l last q) := ⟨_, rfl⟩
          rw [← hdd]
          have HNx : Hid ((deaf || anyIn l last (q + 1)) = (dd || x.mark)) := by
            show _ = _
            rw [hnx, hdd, Bool.or_assoc]
          clear hcm hx hnx hdd
          cases dd
          all_goals
            go_wp2
            go_roundw
            case rel => exact ⟨q + 1, by omega, by omega, by go_num, by rw [HNx.out]; rfl, trivial⟩
            case measure => simp [intOf]; omega
        · obtain rfl : q = e + 1 := by omega
          have hd : decide (((e + 1 : Nat) : Int) ≤ (e : Int)) = false := by simp; omega
          obtain ⟨d1, hd1⟩ : ∃ d1, d1 = (deaf || anyIn l last (e + 1)) := ⟨_, rfl⟩
          rw [← hd1]
          have HD1 := Lib.hid hd1
          clear hd1
          have hgl := HC.out.stay.lt
          have HGn := HG.out
          have hS4 := HC.out.stay.only hO4.out (by omega)
          have hkl : k < (stay1 n k toks).length := by rw [HSl.out]; exact hlt
          obtain ⟨sv, cst⟩ : ∃ sv, w4.cell? ⟨g, k, none⟩ = some (.bool sv) := by rw [hS4.cell, List.getElem?_map, List.getElem?_eq_getElem hkl]; exact ⟨_, rfl⟩
          have fst := hS4.frozen k
          have HS4 := Lib.hid hS4
          have hgne : g ≠ W0.heap.size := by omega
          have hgne' : W0.heap.size ≠ g := by omega
          have hsk := fun (hq : (isData ⟨tk, tc, to_, tb, tcut⟩ && !(d1 && !isDM ⟨tk, tc, to_, tb, tcut⟩)) = false) => HC.out.skip HG.out hO4.out HNl2.out HTe.out HD1.out HUp'.out hq
          have HSk := Lib.hid hsk
          clear hS4 hsk hkl HGn
          by_cases h1 : tk = 1
          · subst h1
            cases d1 with
            | true =>
              go_wp2
              go_roundw
              case rel =>
                refine ⟨k + 1, m, e + 1, true, fA, fc, pA, pc, D, by go_num, by omega, rfl, rfl, rfl, rfl, rfl, by omega, by omega, hs, HDh.out, ?_⟩
                exact HSk.out rfl
              case measure => simp [intOf]; omega
            | false =>
              obtain ⟨x, hx⟩ := hbyt rfl
              subst hx
              have hxb := x.toNat_lt
              have hw : IntKind.u8.wrap ((x.toNat : Nat) : Int) = (x.toNat : Int) := by rw [IntKind.wrap_u8]; omega
              obtain ⟨bt, hbt⟩ : ∃ bt, l[e]? = some bt := ⟨_, List.getElem?_eq_getElem (by have := HNl.out; omega)⟩
              have hraw : rawAt l e = bt.raw := by unfold rawAt; rw [hbt]; rfl
              have HSet := Lib.hid (HC.out.set (b := false) HG.out hO4.out HNl2.out HTe.out rfl)
              obtain ⟨w5, hw5⟩ : ∃ w5, w5 = w4.setCell ⟨g, k, none⟩ (.bool false) := ⟨_, rfl⟩
              rw [← hw5] at HSet
              have hO45 : Only (· = g) w4 w5 := by rw [hw5]; exact (Only.refl (· = g) w4).setCell (p := ⟨g, k, none⟩) (.inl rfl) _
              obtain ⟨w6, hw6⟩ : ∃ w6, w6 = w5.alloc (.cells #[.int .u8 (x.toNat : Int)] 5) := ⟨_, rfl⟩
              have hO56 : Only (fun _ => False) w5 w6 := by rw [hw6]; exact (Only.refl _ _).alloc _
              have hcv : (convert 22 9 (.slice (some ⟨w5.heap.size, 0, none⟩) 1 1)).run Try.prog w6 = .ok (.string ⟨#[x]⟩) w6 := by
                rw [hw6]
                exact text_of (P := Try.prog) (src_new w5 [x] _ 5 (0, 0) 1 rfl rfl) 1 22 9 5 Try.underlying22 Try.underlying5 Try.underlying9
              have hww5 := hw5.symm
              have hww6 := hw6.symm
              have q0' := hO45.cellv q0 (by omega)
              have q1' := hO45.cellv q1 (by omega)
              have hgge : ge ≠ g := by have := HgE.out; have := HG.out; omega
              have hE5 := hO45.cellv hE4 hgge
              have hE6 := hO56.cellv hE5 (fun h => h)
              obtain ⟨ad2, rfl, hcr⟩ := hR4.out.2 (by rw [← hR4.out.1, List.length_map]; have := HNl.out; omega)
              have hen2 : e < n2 := by rw [← hR4.out.1, List.length_map]; have := HNl.out; omega
              have cr4 := hcr e bt.raw (by rw [List.getElem?_map, hbt]; rfl)
              have had2 : ¬ (ad2.add e).block = g := by
                rw [block_add]
                have := HR.out.lt (by omega) ad2 rfl
                have := ho1.out.size
                have := HG.out
                omega
              have cr6 := hO56.cellv (hO45.cellv cr4 had2) (fun h => h)
              obtain ⟨D', hD'⟩ : ∃ D', D' = D ++ [x] := ⟨_, rfl⟩
              have hsum : ∀ W, (Op.stringOp .add (ByteArray.mk D.toArray) (ByteArray.mk #[x])).run Try.prog W = .ok (.string (ByteArray.mk D'.toArray)) W := fun W => sum_texts D [x] D' hD'.symm (by simp; omega)
              have HD' := Lib.hid hD'
              obtain ⟨hS5, hF5, hP5, hO15⟩ := HSet.out
              have HF6 := Lib.hid (own_same hF5 (hO56.alloc (.cells #[.bool bt.raw] 4)))
              have HP6 := Lib.hid (own_same hP5 (hO56.alloc (.cells #[.bool bt.raw] 4)))
              have HS6 := Lib.hid (hS5.only (hO56.alloc (.cells #[.bool bt.raw] 4)) (fun h => h))
              have HO6 := Lib.hid (hO15.trans (hO56.alloc (.cells #[.bool bt.raw] 4)) (fun _ h => h.elim))
              have HRaw := Lib.hid hraw
              have hx6 : w6.heap.size = w5.heap.size + 1 := by rw [hw6]; simp
              have HSz : Hid (g + 1 ≤ w6.heap.size) := by have := hS5.lt; show _ ≤ _; omega
              have hPF : Hid ((Value.slice fA m fc).ownBlock ≠ some g) := fun h => by have := (own_lt hF5 g h).1; omega
              have hPP : Hid ((Value.slice pA m pc).ownBlock ≠ some g) := fun h => by have := (own_lt hP5 g h).1; omega
              clear hD' hw5 hw6 hO45 hO56 hE5 cr4 hcr had2 hS5 hF5 hP5 hO15 hraw hbt q1 hx6 HSk hgge
              go_wp2_with (first
                | (at_builtin; refine step_one rfl (.tmp 83) (.tmp 91) 29 rfl 4 _ 1 Try.underlying29 info_bool1 rfl (by omega) (g + 1) fA m fc (hs.map fun h => .bool h.2.2) rfl HF6.out w6.heap.size (.bool bt.raw) rfl ((Blk.new' w6 4 [.bool bt.raw] rfl).cell 0) rfl (by omega) (by have := HSz.out; show _ ≤ (w6.alloc _).heap.size; simp; omega) ?_; intro fA' fc' w7 hF7 hG7 _; have HP7 : Hid (w7.ownsRow (g + 1) 3 1 (.slice pA m pc) m (hs.map fun h => iv h.1)) := own_kept HP6.out HF6.out (by decide) hG7.out; have HS7 : Hid (Blk w7 g 4 ((stay1 n (k + 1) toks).map .bool)) := HS6.out.grown hG7.out hPF.out; have HO7 : Hid (Only (fun i => w1.heap.size ≤ i) w1 w7) := HO6.out.grown hG7.out (fun q hq => .inr (by have := (own_lt HF6.out q hq).1; have := HG.out; omega)))
                | (at_builtin; refine step_one rfl (.tmp 93) (.tmp 95) 23 rfl 3 _ 8 Try.underlying23 info_int rfl (by omega) (g + 1) pA m pc (hs.map fun h => iv h.1) rfl (own_same HP7.out ((Only.refl _ w7).alloc _)) w7.heap.size (.int .i64 (k : Int)) rfl ((Blk.new' w7 3 [.int .i64 (k : Int)] rfl).cell 0) rfl (by omega) (by have := HSz.out; have := hG7.out.size; show _ ≤ (w7.alloc _).heap.size; simp at this ⊢; omega) ?_; intro pA' pc' w8 hP8 hG8 _))
              refine ⟨⟨k + 1, m + 1, e + 1, false, fA', fc', pA', pc', D', by go_num, by omega, rfl, rfl, rfl, by go_num, rfl, by omega, ?_, hs ++ [(k, x, bt.raw)], ?_, ?_, ?_, ?_, ?_, ?_, ?_, ?_⟩, ?_⟩
              · rw [HD'.out]
                simp
                omega
              · rw [HD'.out, HDh.out]
                simp
              · exact (HO7.out.alloc _).grown hG8.out (fun q hq => .inr (by have := (own_lt HP7.out q hq).1; have := HG.out; omega))
              · exact (HS7.out.alloc _).grown hG8.out hPP.out
              · have := own_kept (own_same hF7.out ((Only.refl (fun _ => False) w7).alloc (.cells #[.int .i64 (k : Int)] 3))) (own_same HP7.out ((Only.refl (fun _ => False) w7).alloc (.cells #[.int .i64 (k : Int)] 3))) (by decide) hG8.out
                simpa using this
              · have := hP8.out
                simpa [iv] using this
              · simp [HC.out.len]
              · have h := HTo.out
                rw [← HD1.out] at h
                rw [← h, ← HRaw.out]
                simp [isData, isDM, b8_of]
              · exact HUp'.out
              · simp [intOf]
                omega
          · have e1 : (tk == 1) = false := by simpa using h1
            have e1' : decide (tk = 1) = false := by simpa using h1
            have e1n : (tk != 1) = true := by simpa using h1
            have eD : isData ⟨tk, tc, to_, tb, tcut⟩ = false := e1'
            rw [eD] at HSk
            have HSk2 := Lib.hid (HSk.out rfl)
            by_cases h2 : tk = 2
            · subst h2
              obtain ⟨r, hr⟩ : ∃ r, r = decide (tc = 242) := ⟨_, rfl⟩
              have e2 : (tc == 242) = r := by rw [hr, Bool.eq_iff_iff]; simp
              have e3 : decide (tc = 242) = r := hr.symm
              have eM : isDM ⟨2, tc, to_, tb, tcut⟩ = r := by unfold isDM; simp [e3]
              rw [eM] at HSk2
              clear hr eM HSk
              cases r
              all_goals
                go_wp2
                go_roundw
                case rel =>
                  refine ⟨k + 1, m, e + 1, _, fA, fc, pA, pc, D, by go_num, by omega, rfl, rfl, rfl, rfl, rfl, by omega, by omega, hs, HDh.out, ?_⟩
                  simpa using HSk2.out
                case measure => simp [intOf]; omega
            · have e2 : (tk == 2) = false := by simpa using h2
              have e2' : decide (tk = 2) = false := by simpa using h2
              have eM : isDM ⟨tk, tc, to_, tb, tcut⟩ = false := by unfold isDM; simp [e2']
              rw [eM] at HSk2
              clear eM HSk h2 h1
              go_wp2
              go_roundw
              case rel =>
                refine ⟨k + 1, m, e + 1, _, fA, fc, pA, pc, D, by go_num, by omega, rfl, rfl, rfl, rfl, rfl, by omega, by omega, hs, HDh.out, ?_⟩
                simpa using HSk2.out
              case measure => simp [intOf]; omega
    · obtain rfl : k = n := by omega
      have htold := HC.out.told
      rw [List.drop_eq_nil_of_le (by rw [HNl2.out]; exact Nat.le_refl _)] at htold
      simp only [heard9, List.append_nil] at htold
      have hst := HC.out.stay
      have est : stay1 k k toks = toks.map (fun q => !isData q.1) := by
        unfold stay1
        rw [List.take_of_length_le (by rw [HNl2.out]; exact Nat.le_refl _), Nat.sub_self]
        simp
      rw [est] at hst
      obtain ⟨S0, hS0⟩ : ∃ S0, S0 = toks.map (fun q => !isData q.1) := ⟨_, rfl⟩
      rw [← hS0] at hst
      obtain ⟨W3, hW3⟩ : ∃ W3, W3 = wr := ⟨_, rfl⟩
      subst hW3
      have H2 : Hid (C2 W3 g hs S0 W3 0 S0 false) := ⟨Only.refl _ _, hst, by rw [List.drop_zero], .inl ⟨rfl, rfl⟩⟩
      have HTo := Lib.hid htold
      have HS0 := Lib.hid hS0
      have hml := HC.out.len
      have HMl := Lib.hid hml
      have hFl : Flg W3 fA m (hs.map fun h => h.2.2) := own_flg (by rw [List.map_map]; exact HC.out.flags) (by rw [List.length_map, hml])
      have HFl := Lib.hid hFl
      have HDl : Hid (D = hs.map fun h => h.2.1) := HDh.out
      have HBd : Hid (∀ h ∈ hs, h.1 < k) := by
        show ∀ h ∈ hs, h.1 < k
        rw [htold]
        intro h hh
        have := (heard_lt l toks 0 false 0 h hh).2
        rw [HNl2.out] at this
        omega
      clear htold hst est hS0 hml hFl hrel hDh hC hlt
      go_wp2
      go_loopw [100] (fun jv W => ∃ j : Nat, j ≤ m ∧ jv = .int .i64 (j : Int) ∧ Hid (∃ S bh, S.length = k ∧ C2 W3 g hs S0 W j S bh)) (fun jv _ => m - (intOf jv).toNat)
      case atStart => exact ⟨0, Nat.zero_le _, rfl, S0, false, by rw [HS0.out, List.length_map, HNl2.out], H2.out⟩
      case round =>
        clear H2
        obtain ⟨j, hj, rfl, hrel⟩ := hrel
        obtain ⟨S, bh, hSl, hC2⟩ := hrel.out
        have HC2 := Lib.hid hC2
        by_cases hlt : j < m
        · obtain ⟨⟨i, x, r⟩, hh⟩ : ∃ h, hs[j]? = some h := ⟨_, List.getElem?_eq_getElem (by rw [← HMl.out]; exact hlt)⟩
          have hik := HBd.out _ (List.mem_of_getElem? hh)
          simp only at hik
          have hO3 := hC2.only
          -- the place, and what tells of it
          obtain ⟨gp, rfl, hgp, hgpl, hcp⟩ := own_at HC.out.places (by omega)
          have c1 : wr.cell? ⟨gp, j, none⟩ = some (.int .i64 (i : Int)) := hO3.cellv (hcp j _ (by rw [List.getElem?_map, hh]; rfl)) (by show ¬ gp = g; omega)
          have hFw : Flg wr fA m (hs.map fun h => h.2.2) := HFl.out.only hO3 (fun h0 ad e => by
            obtain ⟨gf, e2, hgf, _⟩ := own_at HC.out.flags h0
            rw [e2] at e
            injection e with e
            subst e
            show ¬ gf = g
            omega)
          have hGo := still_of (gone_any (w := wr.drew) (c := fc) hFw (k := j) (x := x) (r := r) (b := bh) (s := D) (by rw [HDl.out, List.getElem?_map, hh]; rfl) (by rw [List.getElem?_map, hh]; rfl) (by rw [HDl.out]; exact hC2.bhok) (by omega))
          have hst2 := hC2.stay
          obtain ⟨sv, cst⟩ : ∃ sv, wr.cell? ⟨g, i, none⟩ = some (.bool sv) := by rw [hst2.cell, List.getElem?_map, List.getElem?_eq_getElem (by rw [hSl]; exact hik)]; exact ⟨_, rfl⟩
          have fst := hst2.frozen i
          have htold := hC2.told
          rw [List.drop_eq_getElem_cons (by rw [← HMl.out]; exact hlt), (List.getElem?_eq_some_iff.1 hh).2] at htold
          simp only [setGo] at htold
          have HTo2 := Lib.hid htold
          have HHh := Lib.hid hh
          obtain ⟨q, hq⟩ : ∃ q, q = (bh && decide (x.toNat = 0) && !r) := ⟨_, rfl⟩
          rw [← hq] at hGo htold HTo2
          have HGo := Lib.hid hGo
          have HSl := Lib.hid hSl
          clear hcp hFw hGo hst2 htold hh hq hC2 hrel hSl hO3
          go_wp2_with fail
          refine region_tail 11 (by kernel_rfl) (by kernel_rfl) ?_
          simp only [List.take_succ_cons, List.take_zero, List.drop_succ_cons, List.drop_zero]
          repeat (first | still_step | still_call HGo.out)
          refine wpStill_nil ?_
          go_wp2
          go_roundw
          case rel =>
            refine ⟨j + 1, by omega, by go_num, S.set i (!q), _, by rw [List.length_set]; exact HSl.out, ?_, ?_, HTo2.out, .inr ⟨j, x, r, rfl, by rw [List.getElem?_map, HHh.out]; rfl, by rw [List.getElem?_map, HHh.out]; rfl, rfl⟩⟩
            · exact (HC2.out.only.drew).setCell (p := ⟨g, i, none⟩) (.inl rfl) _
            · have := (HC2.out.stay.drew).setCell i (.bool (!q))
              rw [← List.map_set] at this
              exact this
          case measure => simp [intOf]; omega
        · obtain rfl : j = m := by omega
          have htold := hC2.told
          rw [List.drop_eq_nil_of_le (by rw [← HMl.out]; exact Nat.le_refl _)] at htold
          simp only [setGo] at htold
          have hset := setGo_heard l toks HBy.out 0 false false 0 [] rfl
          simp only [List.nil_append] at hset
          rw [← HS0.out, ← HTo.out] at hset
          rw [hset] at htold
          obtain ⟨Fl, hFl⟩ : ∃ Fl, Fl = flags9 l 0 false false toks := ⟨_, rfl⟩
          rw [← hFl] at htold
          subst htold
          have hga : gather9 S toks = out := by rw [hFl, gather_flags, ← HOut.out]
          have hSl2 := hSl
          obtain ⟨W4, hW4⟩ : ∃ W4, W4 = wr := ⟨_, rfl⟩
          subst hW4
          have hO34 := hC2.only
          have hO14 : Only (fun i => w1.heap.size ≤ i) w1 W4 := HC.out.only.trans hO34 (fun i hi => .inl (by rw [hi, HG.out]; exact Nat.le_refl _))
          have HO14 := Lib.hid hO14
          have HStay := Lib.hid hC2.stay
          have HGa := Lib.hid hga
          have HSl := Lib.hid hSl
          have H4 : Hid (C4 W4 S toks ((W4.alloc (.cells #[] 56)).alloc (.cells #[] 3)) 0 (.slice (some ⟨W4.heap.size, 0, none⟩) 0 0) (.slice (some ⟨W4.heap.size + 1, 0, none⟩) 0 0) 0 []) :=
            ⟨((Only.refl _ _).alloc _).alloc _, own_same (own_of_blk (cur := []) (Blk.new W4 _ []) rfl rfl (Nat.le_refl _) (by omega) (Nat.le_refl _)) ((Only.refl _ _).alloc _), own_of_blk (cur := []) (Blk.new' (n := W4.heap.size + 1) (W4.alloc (.cells #[] 56)) 3 [] (by simp)) rfl rfl (Nat.le_refl _) (by omega) (by omega), rfl, rfl⟩
          clear hrel hC2 hSl hset hFl hga hO34 hO14 hlt hSl2
          go_wp2
          go_loopw [19, 20, 119] (fun ov ev iv' W => ∃ (q n' : Nat) (A : Option Addr) (c : Nat) (B : Option Addr) (d : Nat), q ≤ k ∧ iv' = .int .i64 (q : Int) ∧ ov = .slice A n' c ∧ ev = .slice B n' d ∧ n' ≤ q ∧ Hid (∃ ys, C4 W4 S toks W q (.slice A n' c) (.slice B n' d) n' ys)) (fun _ _ iv' _ => k - (intOf iv').toNat)
          case atStart => exact ⟨0, 0, _, _, _, _, Nat.zero_le _, rfl, rfl, rfl, Nat.le_refl _, [], H4.out⟩
          case round =>
            clear H4
            obtain ⟨q, n', A, c, B, d, hq, rfl, rfl, rfl, hnq, hrel⟩ := hrel
            obtain ⟨ys, hC4⟩ := hrel.out
            have HC4 := Lib.hid hC4
            by_cases hlt : q < k
            · obtain ⟨⟨t, e⟩, hte⟩ : ∃ q', toks[q]? = some q' := ⟨_, List.getElem?_eq_getElem (by rw [HNl2.out]; exact hlt)⟩
              obtain ⟨f, hf⟩ : ∃ f, S[q]? = some f := ⟨_, List.getElem?_eq_getElem (by rw [HSl.out]; exact hlt)⟩
              have htold := hC4.told
              rw [at_drop hf, at_drop hte] at htold
              simp only [gather9] at htold
              have HTo4 := Lib.hid htold
              have hT1' : w1.ownsRow w.heap.size 56 5 (.slice At k ct) k (flatR (toks.map Prod.fst)) := by have := hT1.out; unfold RRow at this; rw [List.length_map, HNl2.out] at this; exact this
              have hE1' : w1.ownsRow w.heap.size 3 1 (.slice Be k de) k ((toks.map Prod.snd).map iv) := by have := hE1.out; unfold IRow at this; rw [List.length_map, HNl2.out] at this; exact this
              obtain ⟨gt, rfl, _, hgt, hcellT⟩ := own_at hT1' (by omega)
              obtain ⟨ge, rfl, _, hge, hcellE⟩ := own_at hE1' (by omega)
              have hO1W : Only (fun i => w1.heap.size ≤ i) w1 wr := HO14.out.trans hC4.only (fun i hi => .inl (by have := HO14.out.size; omega))
              have hrng : wr.rangeAt gt (q * 5) (rkCells t) := fun j u hj => hO1W.cellv (hcellT _ _ (flatR_get (by rw [List.getElem?_map, hte]; rfl) j u hj)) (by show ¬ w1.heap.size ≤ gt; omega)
              have hcE1 : w1.cell? ⟨ge, q, none⟩ = some (.int .i64 (e : Int)) := hcellE q _ (by rw [List.getElem?_map, List.getElem?_map, hte]; rfl)
              obtain ⟨tk, tc, to_, tb, tcut⟩ := t
              obtain ⟨cs, hcs⟩ : ∃ cs, cs = rkCells ⟨tk, tc, to_, tb, tcut⟩ := ⟨_, rfl⟩
              rw [← hcs] at hrng
              have HRg := Lib.hid hrng
              have HL : Hid (cs.length = 5) := by rw [hcs]; rfl
              have HO : Hid (∀ v ∈ cs, v.oneCell' = true) := by rw [hcs]; exact rk_one _
              have HCS := Lib.hid hcs
              have HE := Lib.hid hcE1
              have HgE := Lib.hid hge
              have HO1W := Lib.hid hO1W
              have hsz := hC4.only.size
              have hgl := HStay.out.lt
              have hSw := HStay.out.only hC4.only (by omega)
              have HSw : Hid (wr.cell? ⟨g, q, none⟩ = some (.bool f)) := by show _ = _; rw [hSw.cell, List.getElem?_map, hf]; rfl
              clear hcellT hcellE hrng hcs hcE1 hT1' hE1' htold hrel hC4 hte hge hO1W hSw hf
              obtain ⟨W5, hW5⟩ : ∃ W5, W5 = wr := ⟨_, rfl⟩
              subst hW5
              cases f with
              | false =>
                go_wp2_with (first
                  | ((with_reducible show wpList _ _ _ (⟨some 123, _, _, _, _, _⟩ :: _) _ _); refine wpList_load_mid rfl 56 (.tmp 122) rfl gt (q * 5) rfl cs _ HRg.out Try.underlying56 rfl (by rw [HL.out]; exact size_rtok) ?_)
                  | ((with_reducible show wpList _ _ _ (⟨none, .store 56 _ _, _, _, _, _⟩ :: _) _ _); refine step_store rfl 56 _ _ rfl W5.heap.size rfl cs rfl _ (rkCells Tk.none) (Blk.new _ _ _) (by rw [HL.out]; exact size_rtok) HL.out.symm HO.out ?_; intro w6 hB6 hz6 ho6; have hO6 : Hid (Only (fun i => W5.heap.size ≤ i) W5 w6) := ((Only.refl (fun i => W5.heap.size ≤ i) W5).alloc _).trans ho6 (fun i hi => .inl (by omega)); have hs6 := hO6.out.size; have cS6 : w6.cell? ⟨g, q, none⟩ = some (.bool false) := hO6.out.cellv HSw.out (by show ¬ W5.heap.size ≤ g; omega)))
                go_roundw
                case rel =>
                  refine ⟨q + 1, n', A, c, B, d, by omega, by go_num, rfl, rfl, by omega, ys, HC4.out.only.trans hO6.out (fun i hi => .inl (by omega)), own_only HC4.out.row hO6.out (fun z hz => by have := (own_lt HC4.out.row z hz).2; omega), own_only HC4.out.ends hO6.out (fun z hz => by have := (own_lt HC4.out.ends z hz).2; omega), HC4.out.len, ?_⟩
                  simpa using HTo4.out
                case measure => simp [intOf]; omega
              | true =>
                go_wp2_with (first
                  | ((with_reducible show wpList _ _ _ (⟨some 123, _, _, _, _, _⟩ :: _) _ _); refine wpList_load_mid rfl 56 (.tmp 122) rfl gt (q * 5) rfl cs _ HRg.out Try.underlying56 rfl (by rw [HL.out]; exact size_rtok) ?_)
                  | ((with_reducible show wpList _ _ _ (⟨none, .store 56 _ _, _, _, _, _⟩ :: _) _ _); refine step_store rfl 56 _ _ rfl W5.heap.size rfl cs rfl _ (rkCells Tk.none) (Blk.new _ _ _) (by rw [HL.out]; exact size_rtok) HL.out.symm HO.out ?_; intro w6 hB6 hz6 ho6; have hO6 : Hid (Only (fun i => W5.heap.size ≤ i) W5 w6) := ((Only.refl (fun i => W5.heap.size ≤ i) W5).alloc _).trans ho6 (fun i hi => .inl (by omega)); have hs6 := hO6.out.size; have cS6 : w6.cell? ⟨g, q, none⟩ = some (.bool true) := hO6.out.cellv HSw.out (by show ¬ W5.heap.size ≤ g; omega)))
                obtain ⟨i0, hi0, iz0, iz1, iz2⟩ := info_parts info_rtok
                have HI := Lib.hid hi0
                clear hi0
                have hRow6 := own_only HC4.out.row hO6.out (fun z hz => by have := (own_lt HC4.out.row z hz).2; omega)
                have hEnd6 := own_only HC4.out.ends hO6.out (fun z hz => by have := (own_lt HC4.out.ends z hz).2; omega)
                have hO46 : Only (fun i => W4.heap.size ≤ i) W4 w6 := HC4.out.only.trans hO6.out (fun i hi => .inl (by omega))
                have hz4 : W4.heap.size ≤ w6.heap.size := hO46.size
                have oA : Only (fun _ => False) w6 (w6.alloc (.cells #[.int .i64 tk, .int .i64 tc, .int .i64 to_, .string ⟨tb.toArray⟩, .bool tcut] 56)).drew := ((Only.refl _ w6).alloc _).drew
                have oB : Only (fun _ => False) w6 ((w6.alloc (.cells #[.int .i64 tk, .int .i64 tc, .int .i64 to_, .string ⟨tb.toArray⟩, .bool tcut] 56)).alloc (.cells #[.int .i64 (e : Int)] 3)).drew := (((Only.refl _ w6).alloc _).alloc _).drew
                have oC : Only (fun _ => False) w6 ((w6.alloc (.cells #[.int .i64 (e : Int)] 3)).alloc (.cells #[.int .i64 tk, .int .i64 tc, .int .i64 to_, .string ⟨tb.toArray⟩, .bool tcut] 56)).drew := (((Only.refl _ w6).alloc _).alloc _).drew
                have HR1 := Lib.hid (own_same hRow6 oA)
                have HR2 := Lib.hid (own_same hRow6 oB)
                have HR3 := Lib.hid (own_same hRow6 oC)
                have HR1e := Lib.hid (own_same hEnd6 oA)
                have HR2e := Lib.hid (own_same hEnd6 oB)
                have HR3e := Lib.hid (own_same hEnd6 oC)
                have HR1o := Lib.hid (hO46.trans oA (fun _ h => h.elim))
                have HR2o := Lib.hid (hO46.trans oB (fun _ h => h.elim))
                have HR3o := Lib.hid (hO46.trans oC (fun _ h => h.elim))
                have HR1z := Lib.hid (HR1o.out.size)
                have HR2z := Lib.hid (HR2o.out.size)
                have HR3z := Lib.hid (HR3o.out.size)
                have HB1 : Hid (Blk (w6.alloc (.cells #[.int .i64 tk, .int .i64 tc, .int .i64 to_, .string ⟨tb.toArray⟩, .bool tcut] 56)).drew w6.heap.size 56 [.int .i64 tk, .int .i64 tc, .int .i64 to_, .string ⟨tb.toArray⟩, .bool tcut]) := (Blk.new' w6 _ [.int .i64 tk, .int .i64 tc, .int .i64 to_, .string ⟨tb.toArray⟩, .bool tcut] rfl).drew
                have HB2 : Hid (Blk ((w6.alloc (.cells #[.int .i64 tk, .int .i64 tc, .int .i64 to_, .string ⟨tb.toArray⟩, .bool tcut] 56)).alloc (.cells #[.int .i64 (e : Int)] 3)).drew w6.heap.size 56 [.int .i64 tk, .int .i64 tc, .int .i64 to_, .string ⟨tb.toArray⟩, .bool tcut]) := ((Blk.new' w6 _ [.int .i64 tk, .int .i64 tc, .int .i64 to_, .string ⟨tb.toArray⟩, .bool tcut] rfl).alloc _).drew
                have HB3 : Hid (Blk ((w6.alloc (.cells #[.int .i64 (e : Int)] 3)).alloc (.cells #[.int .i64 tk, .int .i64 tc, .int .i64 to_, .string ⟨tb.toArray⟩, .bool tcut] 56)).drew (w6.heap.size + 1) 56 [.int .i64 tk, .int .i64 tc, .int .i64 to_, .string ⟨tb.toArray⟩, .bool tcut]) := (Blk.new' (w6.alloc _) _ [.int .i64 tk, .int .i64 tc, .int .i64 to_, .string ⟨tb.toArray⟩, .bool tcut] (by simp)).drew
                have HI2 : Hid (Blk ((w6.alloc (.cells #[.int .i64 tk, .int .i64 tc, .int .i64 to_, .string ⟨tb.toArray⟩, .bool tcut] 56)).alloc (.cells #[.int .i64 (e : Int)] 3)).drew (w6.heap.size + 1) 3 [.int .i64 (e : Int)]) := (Blk.new' (w6.alloc _) _ [.int .i64 (e : Int)] (by simp)).drew
                have HI3 : Hid (Blk ((w6.alloc (.cells #[.int .i64 (e : Int)] 3)).alloc (.cells #[.int .i64 tk, .int .i64 tc, .int .i64 to_, .string ⟨tb.toArray⟩, .bool tcut] 56)).drew w6.heap.size 3 [.int .i64 (e : Int)]) := ((Blk.new' w6 _ [.int .i64 (e : Int)] rfl).alloc _).drew
                have hB6' := hB6.out
                rw [HCS.out] at hB6'
                have hK6 : ∀ W, Only (fun i => W4.heap.size ≤ i ∧ i < W5.heap.size) w6 W → (W.cell? ⟨W5.heap.size, 0, none⟩ = some (.int .i64 tk) ∧ W.cell? ⟨W5.heap.size, 1, none⟩ = some (.int .i64 tc) ∧ W.cell? ⟨W5.heap.size, 2, none⟩ = some (.int .i64 to_) ∧ W.cell? ⟨W5.heap.size, 3, none⟩ = some (.string ⟨tb.toArray⟩) ∧ W.cell? ⟨W5.heap.size, 4, none⟩ = some (.bool tcut)) ∧ W.cell? ⟨ge, q, none⟩ = some (.int .i64 (e : Int)) := fun W ho => by
                  have hb := hB6'.only ho (by omega)
                  refine ⟨⟨by rw [hb.cell]; rfl, by rw [hb.cell]; rfl, by rw [hb.cell]; rfl, by rw [hb.cell]; rfl, by rw [hb.cell]; rfl⟩, ?_⟩
                  have h1 : w6.cell? ⟨ge, q, none⟩ = some (.int .i64 (e : Int)) := hO6.out.cellv (HO1W.out.cellv HE.out (by show ¬ w1.heap.size ≤ ge; have := HgE.out; omega)) (by show ¬ W5.heap.size ≤ ge; have := HgE.out; have := HO1W.out.size; omega)
                  exact ho.cellv h1 (by show ¬ (W4.heap.size ≤ ge ∧ ge < W5.heap.size); have := HgE.out; have := HO14.out.size; omega)
                have HK6 := Lib.hid hK6
                obtain ⟨⟨k0, k1, k2, k3, k4⟩, kE⟩ := HK6.out w6 (Only.refl _ _)
                have kEa := ((Only.refl (fun _ => False) w6).alloc (.cells #[.int .i64 tk, .int .i64 tc, .int .i64 to_, .string ⟨tb.toArray⟩, .bool tcut] 56)).cellv kE (fun h => h)
                have kb0 := ((Only.refl (fun _ => False) w6).alloc (.cells #[.int .i64 (e : Int)] 3)).cellv k0 (fun h => h)
                have kb1 := ((Only.refl (fun _ => False) w6).alloc (.cells #[.int .i64 (e : Int)] 3)).cellv k1 (fun h => h)
                have kb2 := ((Only.refl (fun _ => False) w6).alloc (.cells #[.int .i64 (e : Int)] 3)).cellv k2 (fun h => h)
                have kb3 := ((Only.refl (fun _ => False) w6).alloc (.cells #[.int .i64 (e : Int)] 3)).cellv k3 (fun h => h)
                have kb4 := ((Only.refl (fun _ => False) w6).alloc (.cells #[.int .i64 (e : Int)] 3)).cellv k4 (fun h => h)
                have HKE : Hid (∀ W, Only (fun i => W4.heap.size ≤ i) W4 W → W.cell? ⟨ge, q, none⟩ = some (.int .i64 (e : Int))) := fun W ho => (HO14.out.trans ho (fun i hi => .inl (by have := HO14.out.size; omega))).cellv HE.out (by show ¬ w1.heap.size ≤ ge; have := HgE.out; omega)
                clear hRow6 hEnd6 hO46 oA oB oC hB6' hK6
                go_region_law (first
                    | (refine step_append_lies _ rfl (.tmp 128) (.tmp 130) 26 rfl W4.heap.size 56 i0 _ 5 48 Try.underlying26 HI.out iz0 iz1 iz2 rfl (by omega) (.slice A n' c) n' (flatR (ys.map Prod.fst)) rfl HR1.out ⟨w6.heap.size, 0, none⟩ 1 1 [.int .i64 tk, .int .i64 tc, .int .i64 to_, .string ⟨tb.toArray⟩, .bool tcut] rfl rfl (fun j u hj => by rw [at_add, HB1.out.cell]; exact hj) (rk_one ⟨tk, tc, to_, tb, tcut⟩) (by omega) (by unfold maxLen; omega) (by omega) HR1z.out _ rfl ?_; intro gA c' w7 hq1 hq2 _ _; have hRow7 := Lib.hid hq1; have hEnd7 : Hid (w7.ownsRow W4.heap.size 3 1 (.slice B n' d) n' ((ys.map Prod.snd).map iv)) := own_kept HR1e.out HR1.out (by decide) hq2; have hO7 : Hid (Only (fun i => W4.heap.size ≤ i) W4 w7) := HR1o.out.grown hq2 (fun z hz => .inl (own_lt HR1.out z hz).1); have hs7 := hq2.size; have kE7 : w7.cell? ⟨ge, q, none⟩ = some (.int .i64 (e : Int)) := HKE.out w7 hO7.out; clear hq1 hq2)
                    | (refine step_append_lies _ rfl (.tmp 128) (.tmp 130) 26 rfl W4.heap.size 56 i0 _ 5 48 Try.underlying26 HI.out iz0 iz1 iz2 rfl (by omega) (.slice A n' c) n' (flatR (ys.map Prod.fst)) rfl HR2.out ⟨w6.heap.size, 0, none⟩ 1 1 [.int .i64 tk, .int .i64 tc, .int .i64 to_, .string ⟨tb.toArray⟩, .bool tcut] rfl rfl (fun j u hj => by rw [at_add, HB2.out.cell]; exact hj) (rk_one ⟨tk, tc, to_, tb, tcut⟩) (by omega) (by unfold maxLen; omega) (by omega) HR2z.out _ rfl ?_; intro gA c' w7 hq1 hq2 _ _; have hRow7 := Lib.hid hq1; have hEnd7 : Hid (w7.ownsRow W4.heap.size 3 1 (.slice B n' d) n' ((ys.map Prod.snd).map iv)) := own_kept HR2e.out HR2.out (by decide) hq2; have hO7 : Hid (Only (fun i => W4.heap.size ≤ i) W4 w7) := HR2o.out.grown hq2 (fun z hz => .inl (own_lt HR2.out z hz).1); have hs7 := hq2.size; have kE7 : w7.cell? ⟨ge, q, none⟩ = some (.int .i64 (e : Int)) := HKE.out w7 hO7.out; have hIB7 := Lib.hid (HI2.out.grown hq2 (fun e => own_ne HR2.out HI2.out (by decide) _ e rfl)); clear hq1 hq2)
                    | (refine step_append_lies _ rfl (.tmp 128) (.tmp 130) 26 rfl W4.heap.size 56 i0 _ 5 48 Try.underlying26 HI.out iz0 iz1 iz2 rfl (by omega) (.slice A n' c) n' (flatR (ys.map Prod.fst)) rfl HR3.out ⟨(w6.heap.size + 1), 0, none⟩ 1 1 [.int .i64 tk, .int .i64 tc, .int .i64 to_, .string ⟨tb.toArray⟩, .bool tcut] rfl rfl (fun j u hj => by rw [at_add, HB3.out.cell]; exact hj) (rk_one ⟨tk, tc, to_, tb, tcut⟩) (by omega) (by unfold maxLen; omega) (by omega) HR3z.out _ rfl ?_; intro gA c' w7 hq1 hq2 _ _; have hRow7 := Lib.hid hq1; have hEnd7 : Hid (w7.ownsRow W4.heap.size 3 1 (.slice B n' d) n' ((ys.map Prod.snd).map iv)) := own_kept HR3e.out HR3.out (by decide) hq2; have hO7 : Hid (Only (fun i => W4.heap.size ≤ i) W4 w7) := HR3o.out.grown hq2 (fun z hz => .inl (own_lt HR3.out z hz).1); have hs7 := hq2.size; have kE7 : w7.cell? ⟨ge, q, none⟩ = some (.int .i64 (e : Int)) := HKE.out w7 hO7.out; have hIB7 := Lib.hid (HI3.out.grown hq2 (fun e => own_ne HR3.out HI3.out (by decide) _ e rfl)); clear hq1 hq2)
                    | (refine step_oneR rfl (.tmp 132) (.tmp 137) 23 rfl 3 _ 8 Try.underlying23 info_int rfl (by omega) W4.heap.size B n' d ((ys.map Prod.snd).map iv) rfl (own_same hEnd7.out ((Only.refl _ w7).alloc _)) w7.heap.size (.int .i64 (e : Int)) rfl ((Blk.new' w7 3 [.int .i64 (e : Int)] rfl).cell 0) rfl (by omega) (Nat.le_trans hO7.out.size ((Only.refl (fun _ => False) w7).alloc (.cells #[.int .i64 (e : Int)] 3)).size) ?_; intro B' d' w8 hI8 hG8; have hEndX := Lib.hid (own_same hEnd7.out ((Only.refl (fun _ => False) w7).alloc (.cells #[.int .i64 (e : Int)] 3))); have hRowX := own_same hRow7.out ((Only.refl (fun _ => False) w7).alloc (.cells #[.int .i64 (e : Int)] 3)); have hOX := hO7.out.alloc (.cells #[.int .i64 (e : Int)] 3); have hRow8 := Lib.hid (own_kept hRowX hEndX.out (by decide) hG8.out); have hO8 := Lib.hid (hOX.grown hG8.out (fun z hz => .inl (own_lt hEndX.out z hz).1)))
                    | (refine step_oneR rfl (.tmp 132) (.tmp 137) 23 rfl 3 _ 8 Try.underlying23 info_int rfl (by omega) W4.heap.size B n' d ((ys.map Prod.snd).map iv) rfl hEnd7.out (w6.heap.size + 1) (.int .i64 (e : Int)) rfl (hIB7.out.cell 0) rfl (by omega) hO7.out.size ?_; intro B' d' w8 hI8 hG8; have hEndX := Lib.hid hEnd7.out; have hRowX := hRow7.out; have hOX := hO7.out; have hRow8 := Lib.hid (own_kept hRowX hEndX.out (by decide) hG8.out); have hO8 := Lib.hid (hOX.grown hG8.out (fun z hz => .inl (own_lt hEndX.out z hz).1)))
                    | (refine step_oneR rfl (.tmp 132) (.tmp 137) 23 rfl 3 _ 8 Try.underlying23 info_int rfl (by omega) W4.heap.size B n' d ((ys.map Prod.snd).map iv) rfl hEnd7.out w6.heap.size (.int .i64 (e : Int)) rfl (hIB7.out.cell 0) rfl (by omega) hO7.out.size ?_; intro B' d' w8 hI8 hG8; have hEndX := Lib.hid hEnd7.out; have hRowX := hRow7.out; have hOX := hO7.out; have hRow8 := Lib.hid (own_kept hRowX hEndX.out (by decide) hG8.out); have hO8 := Lib.hid (hOX.grown hG8.out (fun z hz => .inl (own_lt hEndX.out z hz).1))))
                all_goals
                  go_wp2
                  go_roundw
                  case rel =>
                    refine ⟨q + 1, n' + 1, _, c', B', d', by omega, by go_num, rfl, rfl, by omega, ys ++ [(⟨tk, tc, to_, tb, tcut⟩, e)], hO8.out, ?_, ?_, ?_, ?_⟩
                    · have := hRow8.out
                      simpa [flatR_append, flatR, rkCells] using this
                    · have := hI8.out
                      simpa [iv] using this
                    · simp [HC4.out.len]
                    · rw [← HTo4.out]
                      simp
                  case measure => simp [intOf]; omega
            · obtain rfl : q = k := by omega
              have htold := HC4.out.told
              have eS : S.drop q = [] := List.drop_eq_nil_of_le (by rw [HSl.out]; exact Nat.le_refl _)
              rw [eS] at htold
              simp only [gather9, List.append_nil] at htold
              have HTo4 := Lib.hid (htold.trans HGa.out)
              clear htold hrel hC4
              go_wp2
              go_ret2
              have h := HC4.out
              have hO := ho1.out.trans (HO14.out.trans h.only (fun i hi => .inl (by have := HO14.out.size; omega))) (fun i hi => .inr (by have := ho1.out.size; omega))
              have hB : w.heap.size ≤ W4.heap.size := Nat.le_trans ho1.out.size HO14.out.size
              refine ⟨A, c, B, d, n', rfl, Lib.hid (by rw [← HTo4.out]; exact h.len), ?_, ?_, hO⟩
              · rw [← HTo4.out]
                unfold RRow
                rw [List.length_map, ← h.len]
                exact own_mono h.row hB
              · rw [← HTo4.out]
                unfold IRow
                rw [List.length_map, ← h.len]
                exact own_mono h.ends hB
end Go.Proofs.Ytelmfncdamakfaa
