/- IacJoins, walked. -/
import Derived.Test.YtpkmndhefadopaaIacPAt
import Derived.Deep.RegionHeld3
namespace Go.Proofs.Ytpkmndhefadopaa
open Go Go.RowKit
set_option maxRecDepth 100000
set_option maxHeartbeats 4000000

theorem joins_long (w : World) (A B : Option Addr) (n c m d : Nat) (h : 400 < n ∨ 400 < m) : Calls Try.prog 6 #[.slice A n c, .slice B m d] w (Fine w) := by
  by_cases h1 : 400 < n
  · have hd : decide ((400 : Int) < (n : Int)) = true := by simp; omega
    go_enter Try.func6, Try.ntmps6
    go_wp2_with (first
      | (go_at_call 7; refine (alive_any _).mono ?_; rintro e w1 ⟨rfl, ho1⟩))
    go_ret
    exact ⟨rfl, ho1⟩
  · have hd : decide ((400 : Int) < (n : Int)) = false := by simp; omega
    have hd' : decide ((400 : Int) < (m : Int)) = true := by simp; omega
    go_enter Try.func6, Try.ntmps6
    go_wp2_with (first
      | (go_at_call 7; refine (alive_any _).mono ?_; rintro e w1 ⟨rfl, ho1⟩))
    go_ret
    exact ⟨rfl, ho1⟩

/-- What All answers, wherever nothing old has turned. -/
theorem all_says {w : World} {A : Option Addr} {n c : Nat} {xs : List UInt8} (hs : Src w A n xs) (hnc : n ≤ c) (hc63 : c ≤ 9223372036854775807) (hn : n ≤ 1048576) {W : World} (ho : Only (fun _ => False) w W) (b : Bool) (hb : decide ((feeds .zero xs).2.st = 0) = b) (k : Nat) (hk : k = (feeds .zero xs).1.length) :
    Calls Try.prog 9 #[.slice A n c] W fun e w' =>
      ∃ A' c' ps, e = .returned (.tuple #[.slice A' k c', .bool b]) ∧ k ≤ c' ∧ c' ≤ 9223372036854775807 ∧ Hid (ps.length = k) ∧ Hid (Toks w' w.heap.size (.slice A' k c') ps) ∧ Hid (ps.map TkP.t = (feeds .zero xs).1) ∧ Hid (Only (fun _ => False) w w') ∧ Hid (Only (fun _ => False) W w') := by
  subst hb hk
  refine (all_any (hs.only ho (fun _ _ _ h => h)) hnc hc63 hn).mono ?_
  rintro e w' ⟨v, ps, rfl, ht, hm, ho'⟩
  obtain ⟨A', c', rfl, h1, h2⟩ := ht.form
  have hl : ps.length = (feeds .zero xs).1.length := by rw [← hm, List.length_map]
  rw [hl] at h1
  have ht' := ht.mono ho.size
  rw [hl] at ht' ⊢
  exact ⟨A', c', ps, rfl, h1, h2, hl, ht', hm, ho.trans ho' (fun _ h => h.elim), ho'⟩

/-- The empty row, laid. -/
theorem empty_row {w W : World} (ho : Only (fun _ => False) w W) (t : TypeId) (size : Nat) : (W.alloc (.cells #[] t)).ownsRow w.heap.size t size (.slice (some ⟨W.heap.size, 0, none⟩) 0 0) 0 [] :=
  own_of_blk (cur := []) (Blk.new W t []) (by simp) (by simp) (Nat.le_refl _) (by omega) ho.size
theorem Toks.news {w : World} {B : Nat} {A : Option Addr} {n c : Nat} {ps : List TkP} (h : Toks w B (.slice A n c) ps) (hn : 0 < n) : ∃ ad, A = some ad ∧ ∀ (j : Nat) (u : Value), (flatTk ps)[j]? = some u → w.cell? (ad.add j) = some u := by
  obtain ⟨A', c', hv, _⟩ := own_form h.row
  injection hv with e1 e2 e3
  subst e1 e2 e3
  obtain ⟨g, hA, _, _, hc⟩ := own_at h.row hn
  exact ⟨_, hA, fun j u hj => by rw [at_add]; exact hc j u hj⟩

theorem own_some {g n c k : Nat} (h : (Value.slice (some ⟨g, 0, none⟩) n c).ownBlock = some k) : g = k := by simpa [Value.ownBlock] using h

theorem far_row {g k n c m d : Nat} {A : Option Addr} {G : Nat} (h : ∀ k, (Value.slice A n c).ownBlock = some k → (Value.slice (some ⟨g, 0, none⟩) m d).ownBlock = some k ∨ G ≤ k) (hk : (Value.slice A n c).ownBlock = some k) (hG : g ≤ G := by simp) : g ≤ k := by
  rcases h k hk with h1 | h1
  · exact Nat.le_of_eq (own_some h1)
  · omega
theorem Toks.far {w w' : World} {B : Nat} {v : Value} {ps : List TkP} (h : Toks w B v ps) (ho : Only (fun i => w.heap.size ≤ i) w w') : Toks w' B v ps :=
  h.only ho (fun k hk => by have := (h.row.lt k hk).2; omega) (fun x hx k hk => by have := ((h.bodies x hx).lt k hk).2; omega)

theorem joins_ok (w : World) (A B : Option Addr) (n c m d : Nat) (xs ys : List UInt8) (hx : Src w A n xs) (hy : Src w B m ys) (hnc : n ≤ c) (hmd : m ≤ d) (hc : c ≤ 9223372036854775807) (hd : d ≤ 9223372036854775807) (hn : n ≤ 400) (hm : m ≤ 400) :
    Calls Try.prog 6 #[.slice A n c, .slice B m d] w (Fine w) := by
  have g1 : decide ((400 : Int) < (n : Int)) = false := by simp; omega
  have g2 : decide ((400 : Int) < (m : Int)) = false := by simp; omega
  have HX := Lib.hid hx
  have HY := Lib.hid hy
  cases hi : decide ((feeds .zero xs).2.st = 0) with
  | false =>
    have H1 := Lib.hid (fun W (ho : Only (fun _ => False) w W) => all_says hx hnc hc (by omega) ho false hi _ rfl)
    clear hx hy hi
    go_enter Try.func6, Try.ntmps6
    go_wp2_with (first
      | (go_at_call 7; refine (alive_any _).mono ?_; rintro e w1 ⟨rfl, ho1⟩)
      | (go_at_call 9; refine (H1.out _ ho1).mono ?_; rintro e w2 ⟨A1, c1, px, rfl, hk1, hc1, hl1, ht1, hm1, ho2, ho12⟩))
    go_ret
    exact ⟨rfl, ho2.out⟩
  | true =>
    obtain ⟨j0, hj0, jz0, jz1, jz2⟩ := info_parts info_byte
    have HJ := Lib.hid hj0
    have hz : (feeds .zero xs).2 = .zero := (feeds_ok Ms.zero_ok xs).1.idle (by simpa using hi)
    have hcat : feeds .zero (xs ++ ys) = ((feeds .zero xs).1 ++ (feeds .zero ys).1, (feeds .zero ys).2) := by rw [feeds_append, hz]
    obtain ⟨b2, hb2⟩ : ∃ b, decide ((feeds .zero ys).2.st = 0) = b := ⟨_, rfl⟩
    obtain ⟨k1, hk1⟩ : ∃ k, k = (feeds .zero xs).1.length := ⟨_, rfl⟩
    obtain ⟨k2, hk2⟩ : ∃ k, k = (feeds .zero ys).1.length := ⟨_, rfl⟩
    have H1 := Lib.hid (fun W (ho : Only (fun _ => False) w W) => all_says hx hnc hc (by omega) ho true hi k1 hk1)
    have H2 := Lib.hid (fun W (ho : Only (fun _ => False) w W) => all_says hy hmd hd (by omega) ho b2 hb2 k2 hk2)
    have HK1 : Hid (k1 ≤ 400) := by have := feeds_length .zero xs; have := hx.1; show k1 ≤ 400; omega
    have HK2 : Hid (k2 ≤ 400) := by have := feeds_length .zero ys; have := hy.1; show k2 ≤ 400; omega
    have HL1 := Lib.hid hx.1
    have HL2 := Lib.hid hy.1
    have H3 : Hid (∀ (W0 W : World) (v : Value), Only (fun _ => False) w W0 → Only (fun _ => False) W0 W → W0.ownsRow w.heap.size 5 1 v (n + m) ((xs ++ ys).map B8) → Calls Try.prog 9 #[v] W fun e w' =>
      ∃ A' c' ps, e = .returned (.tuple #[.slice A' (k1 + k2) c', .bool b2]) ∧ k1 + k2 ≤ c' ∧ c' ≤ 9223372036854775807 ∧ Hid (ps.length = k1 + k2) ∧ Hid (Toks w' w.heap.size (.slice A' (k1 + k2) c') ps) ∧ Hid (ps.map TkP.t = (feeds .zero xs).1 ++ (feeds .zero ys).1) ∧ Hid (Only (fun _ => False) W w')) := fun W0 W v h0 h1 hr => by
      have hl : (xs ++ ys).length = n + m := by rw [List.length_append, HL1.out, HL2.out]
      rw [← hl] at hr
      obtain ⟨A', c', rfl, hs, hle⟩ := Body.reads (w := W0) (B := w.heap.size) hr
      have := own_le hr
      refine (all_says hs hle this.2 (by omega) h1 b2 (by rw [hcat]; exact hb2) (k1 + k2) (by rw [hcat, List.length_append, hk1, hk2])).mono ?_
      rintro e w' ⟨A2, c2, ps, rfl, q1, q2, q3, q4, q5, _, q6⟩
      have q4' := q4.out.mono h0.size
      refine ⟨A2, c2, ps, rfl, q1, q2, q3, q4', ?_, q6⟩
      have := q5.out
      rw [hcat] at this
      exact this
    obtain ⟨i0, hi0, iz0, iz1, iz2⟩ := info_parts info_tok
    have HI := Lib.hid hi0
    have hk1b := HK1.out
    have hk2b := HK2.out
    clear hx hy hi hz hcat hb2 hk1 hk2 hj0 hi0
    have hkk : ((k1 : Int) + (k2 : Int) != (k1 : Int) + (k2 : Int)) = false := by simp
    have hkk2 : (b2 != b2) = false := by simp
    go_enter Try.func6, Try.ntmps6
    go_wp2_with (first
      | (go_at_call 7; refine (alive_any _).mono ?_; rintro e w1 ⟨rfl, ho1⟩)
      | ((with_reducible show Calls _ 9 #[.slice A n c] _ _); refine (H1.out _ ho1).mono ?_; rintro e w2 ⟨A1, c1, px, rfl, hk1, hc1, hl1, ht1, hm1, ho2, ho12⟩)
      | ((with_reducible show Calls _ 9 #[.slice B m d] _ _); refine (H2.out _ ho2.out).mono ?_; rintro e w3 ⟨A2, c2, py, rfl, hk2, hc2, hl2, ht2, hm2, ho3, ho23⟩)
      | ((with_reducible show wpList _ _ _ (⟨some 38, _, _, _, _, _⟩ :: _) _ _); refine step_append_own rfl (.tmp 36) (.tmp 37) 22 rfl w.heap.size 5 j0 _ 1 1 Try.underlying22 HJ.out jz0 jz1 jz2 rfl (by omega) (.slice (some ⟨w3.heap.size, 0, none⟩) 0 0) 0 [] rfl (empty_row ho3.out _ _) A n c (xs.map B8) rfl (by rw [List.length_map, HL1.out]; omega) (fun hn => Src.news (HX.out.only (ho3.out.alloc _) (fun _ _ _ h => h)) hn) (b8_one _) (by omega) (by omega) ((ho3.out.alloc _).size) ?_; intro A4 c4 w4 h4a h4b hq4; rw [Nat.zero_add, List.nil_append] at hq4; rw [Nat.zero_add] at h4a ⊢; have ho4 : Hid (Only (fun _ => False) w w4) := (ho3.out.alloc _).grown hq4.out.2.1 (fun k hk => .inr (own_some hk ▸ ho3.out.size)))
      | ((with_reducible show wpList _ _ _ (⟨some 40, _, _, _, _, _⟩ :: _) _ _); refine step_append_own rfl (.tmp 38) (.tmp 39) 22 rfl w.heap.size 5 j0 _ 1 1 Try.underlying22 HJ.out jz0 jz1 jz2 rfl (by omega) _ _ _ rfl hq4.out.1 B m d (ys.map B8) rfl (by rw [List.length_map, HL2.out]; omega) (fun hn => Src.news (HY.out.only ho4.out (fun _ _ _ h => h)) hn) (b8_one _) (by omega) (by omega) ho4.out.size ?_; intro A5 c5 w5 h5a h5b hq5; have ho5 : Hid (Only (fun _ => False) w w5) := ho4.out.grown hq5.out.2.1 (fun k hk => .inr (hq4.out.1.lt k hk).1); have ho35 : Hid (Only (fun i => w3.heap.size ≤ i) w3 w5) := (((Only.refl (fun i => w3.heap.size ≤ i) w3).alloc _).grown hq4.out.2.1 (fun k hk => .inl (Nat.le_of_eq (own_some hk)))).grown hq5.out.2.1 (fun k hk => .inl (far_row hq4.out.2.2 hk)))
      | (go_at_call 9; refine (H3.out w5 w5 _ ho5.out (Only.refl _ _) (by rw [List.map_append]; exact hq5.out.1)).mono ?_; rintro e w6 ⟨A6, c6, pz, rfl, hk6, hc6, hl6, ht6, hm6, ho6⟩; have HTX : Hid (Toks w6 w.heap.size (.slice A1 k1 c1) px) := ((ht1.out.same ho23.out).far ho35.out).same ho6.out; have HTY : Hid (Toks w6 w.heap.size (.slice A2 k2 c2) py) := (ht2.out.far ho35.out).same ho6.out; have HO6 : Hid (Only (fun _ => False) w w6) := ho5.out.trans ho6.out (fun _ h => h.elim); clear H1 H2 H3 ho12 ho23 ho35 hq4 hq5)
      | ((with_reducible show wpList _ _ _ (⟨some 59, _, _, _, _, _⟩ :: _) _ _); refine step_append_own rfl (.tmp 57) (.tmp 58) 25 rfl w.heap.size 35 i0 _ 5 56 Try.underlying25 HI.out iz0 iz1 iz2 rfl (by omega) (.slice (some ⟨w6.heap.size, 0, none⟩) 0 0) 0 [] rfl (empty_row HO6.out _ _) A1 k1 c1 (flatTk px) rfl (by rw [flatTk_length, hl1.out]) (fun hn => (HTX.out.same ((Only.refl _ w6).alloc _)).news hn) (flatTk_one _) (by omega) (by omega) ((HO6.out.alloc _).size) ?_; intro A7 c7 w7 h7a h7b hq7; rw [Nat.zero_add, List.nil_append] at hq7; rw [Nat.zero_add] at h7a ⊢; have ho67 : Hid (Only (fun i => w6.heap.size ≤ i) w6 w7) := ((Only.refl (fun i => w6.heap.size ≤ i) w6).alloc _).grown hq7.out.2.1 (fun k hk => .inl (Nat.le_of_eq (own_some hk))))
      | ((with_reducible show wpList _ _ _ (⟨some 61, _, _, _, _, _⟩ :: _) _ _); refine step_append_own rfl (.tmp 59) (.tmp 60) 25 rfl w.heap.size 35 i0 _ 5 56 Try.underlying25 HI.out iz0 iz1 iz2 rfl (by omega) (.slice A7 k1 c7) k1 (flatTk px) rfl hq7.out.1 A2 k2 c2 (flatTk py) rfl (by rw [flatTk_length, hl2.out]) (fun hn => (HTY.out.far ho67.out).news hn) (flatTk_one _) (by omega) (by omega) (Nat.le_trans HO6.out.size ho67.out.size) ?_; intro A8 c8 w8 h8a h8b hq8; have ho68 : Hid (Only (fun i => w6.heap.size ≤ i) w6 w8) := ho67.out.grown hq8.out.2.1 (fun k hk => .inl (far_row hq7.out.2.2 hk))))
    have HRow : Hid (Toks w8 w.heap.size (.slice A8 (k1 + k2) c8) (px ++ py)) := by
      refine ⟨?_, fun x hx => ?_⟩
      · rw [flatTk_append, List.length_append, hl1.out, hl2.out]
        exact hq8.out.1
      · rcases List.mem_append.1 hx with h | h
        · exact (HTX.out.far ho68.out).bodies x h
        · exact (HTY.out.far ho68.out).bodies x h
    have HZ : Hid (Toks w8 w.heap.size (.slice A6 (k1 + k2) c6) pz) := ht6.out.far ho68.out
    have HPQ : Hid ((px ++ py).map TkP.t = pz.map TkP.t) := by
      show _ = _
      rw [List.map_append, hm1.out, hm2.out, hm6.out]
    have HN1 : Hid ((px ++ py).length = k1 + k2) := by
      show _ = _
      rw [List.length_append, hl1.out, hl2.out]
    have HO8 : Hid (Only (fun _ => False) w w8) := HO6.out.trans ho68.out (fun i hi => .inr (by have := HO6.out.size; omega))
    clear hq7 hq8 ho67 ho68 HTX HTY ht6 ht1 ht2 hm1 hm2 hl1 hl2 hm6 HO6 ho6
    obtain ⟨ps, hps⟩ : ∃ ps, ps = px ++ py := ⟨_, rfl⟩
    rw [← hps] at HRow HPQ HN1
    obtain ⟨n2, hn2⟩ : ∃ n2, n2 = k1 + k2 := ⟨_, rfl⟩
    rw [← hn2] at HRow HN1 HZ hk6 h8a ⊢
    have hn2' : (k1 : Int) + (k2 : Int) = (n2 : Int) := by omega
    rw [hn2']
    have hn800 : n2 ≤ 800 := by omega
    clear hps hn2 hn2' hkk
    obtain ⟨W3, hW3⟩ : ∃ W3, W3 = w8 := ⟨_, rfl⟩
    subst hW3
    go_loopw [63] (fun i W => ∃ q : Nat, q ≤ n2 ∧ i = .int .i64 (q : Int) ∧ Hid (Only (fun _ => False) W3 W)) (fun i _ => n2 - (intOf i).toNat)
    case atStart => exact ⟨0, Nat.zero_le _, rfl, Only.refl _ _⟩
    case round =>
      obtain ⟨q, hq, rfl, ho⟩ := hrel
      by_cases hlt : q < n2
      · obtain ⟨a, ha⟩ : ∃ a, ps[q]? = some a := ⟨_, List.getElem?_eq_getElem (by rw [HN1.out]; exact hlt)⟩
        obtain ⟨b, hb⟩ : ∃ b, pz[q]? = some b := ⟨_, List.getElem?_eq_getElem (by have := congrArg List.length HPQ.out; simp at this; rw [← this, HN1.out]; exact hlt)⟩
        have hab : a.t = b.t := by
          have := congrArg (fun l => l[q]?) HPQ.out
          simpa [List.getElem?_map, ha, hb] using this
        obtain ⟨ga, rfl, _, hga, hra, hba⟩ := (HRow.out.same ho.out).at_ ha
        obtain ⟨gb, rfl, _, hgb, hrb, hbb⟩ := (HZ.out.same ho.out).at_ hb
        obtain ⟨⟨tk, tc, to_, tb, tcut⟩, aad, acap⟩ := a
        obtain ⟨⟨tk', tc', to', tb', tcut'⟩, bad, bcap⟩ := b
        simp only [Tk.mk.injEq] at hab
        obtain ⟨rfl, rfl, rfl, rfl, rfl⟩ := hab
        have HRA := Lib.hid hba.reads
        have HRB := Lib.hid hbb.reads
        have HRng := Lib.hid hra
        have HFb := Lib.hid (five_of hrb)
        obtain ⟨tn, htn⟩ : ∃ tn, tn = tb.length := ⟨_, rfl⟩
        have HTN := Lib.hid htn
        obtain ⟨cs, hcs⟩ : ∃ cs, cs = tkCells ⟨tk, tc, to_, tb, tcut⟩ (.slice aad tn acap) := ⟨_, rfl⟩
        have HCS := Lib.hid hcs
        have HR' : Hid (wr.rangeAt ga (q * 5) cs) := by
          rw [hcs, htn]
          exact HRng.out
        have hcl : cs.length = 5 := by rw [hcs]; rfl
        have HCL' := Lib.hid hcl
        have HCO := Lib.hid (show ∀ v ∈ cs, v.oneCell' = true by rw [hcs]; exact tk_one _ _ _ _)
        clear hra hrb hba hbb ha hb htn hcs hcl
        go_wp2_with (first
          | ((with_reducible show wpList _ _ _ (⟨some 67, _, _, _, _, _⟩ :: _) _ _); refine wpList_load_mid rfl 35 (.tmp 66) rfl ga (q * 5) rfl cs _ HR'.out Try.underlying35 rfl (by rw [HCL'.out]; exact size_tok) ?_)
          | ((with_reducible show wpList _ _ _ (⟨none, .store 35 _ _, _, _, _, _⟩ :: _) _ _); refine step_store rfl 35 _ _ rfl wr.heap.size rfl cs rfl _ (tkCells Tk.none (.slice none 0 0)) (Blk.new _ _ _) (by rw [HCL'.out]; exact size_tok) HCL'.out.symm HCO.out ?_; intro w4 hB4 hz4 ho4))
        have ho4' : Only (fun i => wr.heap.size ≤ i) wr w4 := ((Only.refl (fun i => wr.heap.size ≤ i) wr).alloc _).trans ho4 (fun i hi => .inl (by omega))
        have hx4 : FiveAt w4 wr.heap.size 0 ⟨tk, tc, to_, tb, tcut⟩ aad tn acap := by
          have h := hB4.out
          rw [HCS.out] at h
          exact ⟨by rw [h.cell]; rfl, by rw [h.cell]; rfl, by rw [h.cell]; rfl, by rw [h.cell]; rfl, by rw [h.cell]; rfl⟩
        have hf4 : FiveAt w4 gb (q * 5) ⟨tk, tc, to_, tb, tcut⟩ bad tn bcap := by
          have := HFb.out.only ho4' (by omega)
          rw [HTN.out]
          exact this
        have HSame := Lib.hid (fun W (ho : Only (fun i => wr.heap.size ≤ i) wr W) => same_flat (w := W) tk tc to_ tb tcut aad bad tn acap bcap HTN.out (by rw [HTN.out]; obtain ⟨A', c', e, h1, h2⟩ := HRA.out; exact ⟨A', c', e, h1.only ho (fun hn ad hA => by have := h1.lt hn ad hA; omega), h2⟩) (by rw [HTN.out]; obtain ⟨A', c', e, h1, h2⟩ := HRB.out; exact ⟨A', c', e, h1.only ho (fun hn ad hA => by have := h1.lt hn ad hA; omega), h2⟩))
        have HO4 := Lib.hid (ho.out.trans (ho4'.mono (T := fun i => wr.heap.size ≤ i) (fun i hi => .inl hi)) (fun i hi => .inr (by have := ho.out.size; omega)))
        have HSC := Lib.hid (HSame.out w4.drew ho4'.drew)
        obtain ⟨N, hN⟩ : ∃ N, N = wr.heap.size := ⟨_, rfl⟩
        rw [← hN] at hx4 ⊢
        clear HSame HRng HFb HRA HRB ho4 hz4 hB4 HR' hN ho4'
        obtain ⟨x0, x1, x2, x3, x4⟩ := hx4
        obtain ⟨y0, y1, y2, y3, y4⟩ := hf4
        refine region_tail 5 (by kernel_rfl) (by kernel_rfl) ?_
        simp only [List.take_succ_cons, List.take_zero, List.drop_succ_cons, List.drop_zero]
        repeat still_step
        refine wpStill_nil ?_
        clear x0 x1 x2 x3 x4 y0 y1 y2 y3 y4
        go_wp2_with (go_at_call 17; refine HSC.out.mono ?_; rintro e w5 ⟨rfl, ho5⟩)
        go_roundw
        case rel => exact ⟨q + 1, by omega, by go_num, HO4.out.drew.trans ho5 (fun _ h => h.elim)⟩
        case measure => simp [intOf]; omega
      · go_wp2
        go_ret
        exact ⟨rfl, HO8.out.trans ho.out (fun _ h => h.elim)⟩

theorem iacJoins_walk (W : World) {H : Type} {enc : TypeId × Value → H} {fuel0 fuel1 : Nat} {A B : Option Addr} {n c m d : Nat} {x y : DataW H × List MemPlace} (hf0 : DataW.trod enc Try.prog W 0 (fun _ => true) true fuel0 22 [.slice A n c] = some x)
    (hf1 : DataW.trod enc Try.prog W 0 (fun _ => true) true fuel1 22 [.slice B m d] = some y) :
    Calls Try.prog 6 #[.slice A n c, .slice B m d] W (Fine W) := by
  obtain ⟨A', n', c', xs, e, h1, h2, h3⟩ := opened_cell hf0
  injection e with e1 e2 e3
  subst e1 e2 e3
  obtain ⟨B', m', d', ys, e, k1, k2, k3⟩ := opened_cell hf1
  injection e with e1 e2 e3
  subst e1 e2 e3
  by_cases h : 400 < n ∨ 400 < m
  · exact joins_long W A B n c m d h
  · exact joins_ok W A B n c m d xs ys h1 k1 h2 k2 h3 k3 (by omega) (by omega)
end Go.Proofs.Ytpkmndhefadopaa
