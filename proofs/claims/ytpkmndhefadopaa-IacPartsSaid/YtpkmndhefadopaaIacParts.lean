/- IacParts, walked. -/
import Derived.Test.YtpkmndhefadopaaIacPAt
import Derived.Deep.RegionHeld3
namespace Go.Proofs.Ytpkmndhefadopaa
open Go Go.RowKit
set_option maxRecDepth 100000
set_option maxHeartbeats 4000000

theorem parts_long (w : World) (A : Option Addr) (n c : Nat) (h : 40 < n) : Calls Try.prog 5 #[.slice A n c] w (Fine w) := by
  have hd : decide ((40 : Int) < (n : Int)) = true := by simp; omega
  go_enter Try.func5, Try.ntmps5
  go_wp2_with (first
    | (go_at_call 7; refine (alive_any _).mono ?_; rintro e w1 ⟨rfl, ho1⟩))
  go_ret
  exact ⟨rfl, ho1⟩

theorem parts_start (w w1 : World) (ho : Only (fun _ => False) w w1) : PAt w (w1.heap.size + 1) (((w1.alloc (.cells #[] 5)).alloc (.cells (msCells Ms.zero (zeros 256)).toArray 40)).alloc (.cells #[] 35))
    (.slice (some ⟨w1.heap.size, 0, none⟩) 0 0) [] (.slice (some ⟨w1.heap.size + 1 + 1, 0, none⟩) 0 0) [] [] := by
  have hz := ho.size
  refine ⟨((ho.alloc _).alloc _).alloc _, ?_, ⟨Ms.zero_ok, zeros 256, ?_, rfl, fun v hv => by rw [List.eq_of_mem_replicate hv]; rfl⟩, ⟨?_, fun x hx => by cases hx⟩, rfl, by omega, fun x hx => by cases hx⟩
  · exact own_of_blk (cur := []) (((Blk.new w1 5 []).alloc _).alloc _) rfl rfl (Nat.le_refl _) (by omega) hz
  · exact (Blk.new' _ _ _ (by simp)).alloc _
  · exact own_of_blk (cur := []) (Blk.new' _ _ _ (by simp)) rfl rfl (Nat.le_refl _) (by omega) (by omega)

theorem parts_ok (w : World) (A : Option Addr) (n c : Nat) (l : List BytesV) (hA : SlicesAt w A n l) (hn : n ≤ 40) : Calls Try.prog 5 #[.slice A n c] w (Fine w) := by
  have hd : decide ((40 : Int) < (n : Int)) = false := by simp; omega
  have HA := Lib.hid hA
  obtain ⟨i0, hi0, iz0, iz1, iz2⟩ := info_parts info_tok
  obtain ⟨j0, hj0, jz0, jz1, jz2⟩ := info_parts info_byte
  have HI := Lib.hid hi0
  have HJ := Lib.hid hj0
  clear hA hi0 hj0
  go_enter Try.func5, Try.ntmps5
  go_wp2_with (first
    | (go_at_call 7; refine (alive_any _).mono ?_; rintro e w1 ⟨rfl, ho1⟩)
    | ((with_reducible show wpList _ _ _ (⟨some 22, _, _, _, _, _⟩ :: _) _ _); refine step_build rfl 40 #[] rfl (msCells Ms.zero (zeros 256)) (by kernel_rfl) ?_)
    | ((with_reducible show wpList _ _ _ (⟨some 23, _, _, _, _, _⟩ :: _) _ _); refine wpList_boxTo rfl 40 (.tmp 22) rfl _ rfl _ rfl (msCells Ms.zero (zeros 256)).toArray rfl ?_))
  have H0 := Lib.hid (parts_start w w1 ho1)
  obtain ⟨p, hp⟩ : ∃ p, p = w1.heap.size + 1 := ⟨_, rfl⟩
  rw [← hp] at H0 ⊢
  clear hp ho1
  go_loopw [3, 5, 27] (fun av gv i W => ∃ k : Nat, k ≤ n ∧ i = .int .i64 (k : Int) ∧ Hid ((catOf (l.take k)).length ≤ 300 * k ∧ ∃ ps, PAt w p W av (catOf (l.take k)) gv (catOf (l.take k)) ps)) (fun _ _ i _ => n - (intOf i).toNat)
  case atStart => exact ⟨0, Nat.zero_le _, rfl, by simp [catOf], [], H0.out⟩
  case round =>
    clear H0
    obtain ⟨k, hk, rfl, hr⟩ := hrel
    by_cases hlt : k < n
    · obtain ⟨x, hx⟩ : ∃ x, l[k]? = some x := ⟨_, List.getElem?_eq_getElem (by rw [HA.out.1]; exact hlt)⟩
      obtain ⟨⟨b, off, rfl, hcell⟩, hbx⟩ := HA.out.2 k x hx
      have hct := catOf_snoc l k x hx
      obtain ⟨xa, xn, xc, xs⟩ := x
      have hsrc : Src w xa xn xs := hbx.src
      have hxl : xn ≤ xc := hbx.le
      have hxt : xc ≤ 9223372036854775807 := hbx.top
      simp only at hct hcell
      obtain ⟨hcl, ps, hP⟩ := hr.out
      have c0 := hP.only.cellv hcell (fun h => h)
      have HX := Lib.hid hct
      have HBX := Lib.hid hsrc
      have HP := Lib.hid hP
      have HCL := Lib.hid hcl
      clear hcell hr hcl hP hx hbx hct hsrc
      by_cases hlong : 300 < xn
      · have hd2 : decide ((300 : Int) < (xn : Int)) = true := by simp; omega
        go_wp2_with fail
        go_ret
        exact ⟨rfl, HP.out.only⟩
      · have hd2 : decide ((300 : Int) < (xn : Int)) = false := by simp; omega
        go_wp2_with (at_builtin; refine step_append_own rfl (.tmp 34) (.tmp 35) 22 rfl w.heap.size 5 j0 _ 1 1 Try.underlying22 HJ.out jz0 jz1 jz2 rfl (by omega) _ _ _ rfl HP.out.all xa xn xc (xs.map B8) rfl (by rw [List.length_map, HBX.out.1]; omega) (fun hn => Src.news (HBX.out.only HP.out.only (fun _ _ _ h => h)) hn) (b8_one _) (by have := HCL.out; omega) (by have := HCL.out; omega) HP.out.only.size ?_; intro A' c' w2 hnc' hc63' hq)
        have hA2 := HP.out.append xs (by rw [HBX.out.1]; exact hq.out.1) hq.out.2.1 hq.out.2.2
        have HCL2 := Lib.hid (show (catOf (l.take (k + 1))).length ≤ 300 * (k + 1) by
          have h1 := HCL.out
          have h2 := HBX.out.1
          rw [HX.out, List.length_append]
          omega)
        rw [← HX.out] at hA2
        have HS := Lib.hid (show catOf (l.take (k + 1)) = catOf (l.take k) ++ xs from HX.out)
        have HA2 := Lib.hid hA2
        have HSrc := HBX
        clear hq hA2 c0
        obtain ⟨W0, hW0⟩ : ∃ W0, W0 = w2 := ⟨_, rfl⟩
        subst hW0
        go_loopw [5, 39] (fun gv j W => ∃ q : Nat, q ≤ xn ∧ j = .int .i64 (q : Int) ∧ Hid (∃ ps, PAt w p W (.slice A' ((catOf (l.take k)).length + xn) c') (catOf (l.take (k + 1))) gv (catOf (l.take k) ++ xs.take q) ps)) (fun _ j _ => xn - (intOf j).toNat)
        case atStart => exact ⟨0, Nat.zero_le _, rfl, ps, by rw [List.take_zero, List.append_nil]; exact HA2.out⟩
        case round =>
          clear HA2
          obtain ⟨q, hq, rfl, hr⟩ := hrel
          by_cases hlt2 : q < xn
          · obtain ⟨ps', hP'⟩ := hr.out
            obtain ⟨y, hy⟩ : ∃ y, xs[q]? = some y := ⟨_, List.getElem?_eq_getElem (by rw [HSrc.out.1]; exact hlt2)⟩
            obtain ⟨ad, rfl, hc⟩ := HSrc.out.2 (by omega)
            have c1 := hP'.only.cellv (hc q y hy) (fun h => h)
            unfold B8 at c1
            obtain ⟨m', o, hfe⟩ : ∃ m' o, feed (feeds .zero (catOf (l.take k) ++ xs.take q)).2 y = (m', o) := ⟨_, _, rfl⟩
            have C := feed_cs hP'.ms y wr.heap.size (Nat.le_refl _)
            rw [hfe] at C
            have HC := Lib.hid C
            have HF := Lib.hid hfe
            have HP2 := Lib.hid hP'
            have HT := Lib.hid (show xs.take (q + 1) = xs.take q ++ [y] by rw [List.take_add_one, hy]; rfl)
            have HFew : Hid (ps'.length + 1 ≤ 1048576) := by
              have h1 := hP'.few
              have h2 := HCL.out
              have h3 := HBX.out.1
              show ps'.length + 1 ≤ 1048576
              rw [List.length_append, List.length_take] at h1
              omega
            clear hc hy C hfe hr hP'
            cases o with
            | none =>
              go_wp2_with (first
            | (go_at_call 14; refine HC.out.mono ?_; rintro e w3 ⟨cs, rfl, hcl, hco, hcx, hm1, ho1⟩)
            | ((with_reducible show wpList _ _ _ (⟨none, .store 35 _ _, _, _, _, _⟩ :: _) _ _); refine step_store rfl 35 _ _ rfl w3.heap.size rfl cs rfl _ (tkCells Tk.none (.slice none 0 0)) (Blk.new _ _ _) (by rw [hcl.out]; exact size_tok) hcl.out.symm hco.out ?_; intro w4 hB2 hz2 ho2; have ho2' : Hid (Only (fun i => w3.heap.size ≤ i) w3 w4) := ((Only.refl (fun i => w3.heap.size ≤ i) w3).alloc _).trans ho2 (fun i hi => .inl (by omega))))
              go_roundw
              case rel =>
                refine ⟨q + 1, by omega, by go_num, ps', ?_⟩
                rw [HT.out, ← List.append_assoc]
                exact HP2.out.stay HF.out hm1.out ho1.out ho2'.out
              case measure => simp [intOf]; omega
            | some t =>
              go_wp2_with (first
            | (go_at_call 14; refine HC.out.mono ?_; rintro e w3 ⟨cs, rfl, hcl, hco, hcx, hm1, ho1⟩)
            | ((with_reducible show wpList _ _ _ (⟨none, .store 35 _ _, _, _, _, _⟩ :: _) _ _); refine step_store rfl 35 _ _ rfl w3.heap.size rfl cs rfl _ (tkCells Tk.none (.slice none 0 0)) (Blk.new _ _ _) (by rw [hcl.out]; exact size_tok) hcl.out.symm hco.out ?_; intro w4 hB2 hz2 ho2; have ho2' : Hid (Only (fun i => w3.heap.size ≤ i) w3 w4) := ((Only.refl (fun i => w3.heap.size ≤ i) w3).alloc _).trans ho2 (fun i hi => .inl (by omega)))
            | ((with_reducible show wpList _ _ _ (⟨some 51, _, _, _, _, _⟩ :: _) _ _); refine wpList_load_mid rfl 35 (.tmp 10) rfl w3.heap.size 0 rfl cs _ (range_of hB2.out) Try.underlying35 rfl (by rw [hcl.out]; exact size_tok) ?_)
            | ((with_reducible show wpList _ _ _ (⟨some 52, _, _, _, _, _⟩ :: _) _ _); refine step_token rfl (.tmp 51) rfl cs rfl hcl.out ?_)
            | (at_builtin; refine step_append_own rfl (.tmp 50) (.tmp 52) 25 rfl w.heap.size 35 i0 _ 5 56 Try.underlying25 HI.out iz0 iz1 iz2 rfl (by omega) _ ps'.length (flatTk ps') rfl (((HP2.out.mid ho1.out ho2'.out hm1.out).2.2.1).same ((Only.refl _ w4).alloc _)).row (some ⟨w4.heap.size, 0, none⟩) 1 1 cs rfl hcl.out (fun _ => ⟨_, rfl, fun j u hj => by rw [at_add, (Blk.new w4 35 cs).cell]; exact hj⟩) hco.out (by have := HFew.out; omega) (by have := HFew.out; omega) (by have := (HP2.out.mid ho1.out ho2'.out hm1.out).2.2.2.size; show _ ≤ (w4.alloc _).heap.size; simp; omega) ?_; intro A5 c5 w5 hnc5 hc635 hq5))
              obtain ⟨z, hzc, hzt, hzb⟩ := hcx.out
              have hO5 : Only (fun i => w3.heap.size ≤ i) w3 (w4.alloc (.cells cs.toArray 35)) := ho2'.out.alloc _
              have HR5 := Lib.hid (HP2.out.more HF.out hm1.out ho1.out hO5 z hzt hzb (by rw [← hzc]; exact hq5.out.1) hq5.out.2.1)
              clear hq5 hzb
              go_wp2
              go_roundw
              case rel =>
                refine ⟨q + 1, by omega, by go_num, ps' ++ [z], ?_⟩
                rw [HT.out, ← List.append_assoc]
                exact HR5.out
              case measure => simp [intOf]; omega
          · obtain rfl : q = xn := by omega
            obtain ⟨ps', hP'⟩ := hr.out
            rw [show xs.take q = xs from List.take_of_length_le (by rw [HSrc.out.1]; exact Nat.le_refl _), ← HS.out] at hP'
            have HP2 := Lib.hid hP'
            clear hr hP'
            go_wp2
            go_roundw
            case rel => exact ⟨k + 1, by omega, by go_num, HCL2.out, ps', HP2.out⟩
            case measure => simp [intOf]; omega
    · obtain rfl : k = n := by omega
      obtain ⟨hcl, ps, hP⟩ := hr.out
      rw [List.take_of_length_le (by rw [HA.out.1]; exact Nat.le_refl _)] at hP hcl
      obtain ⟨bs, hbs⟩ : ∃ bs, bs = catOf l := ⟨_, rfl⟩
      rw [← hbs] at hP hcl
      obtain ⟨A1, c1, rfl, hs1, hle1⟩ := hP.all.reads
      obtain ⟨A2, c2, rfl, hle2, htop2⟩ := hP.toks.form
      have htop1 := (own_le hP.all).2
      have HC := Lib.hid (all_any (n := bs.length) (c := c1) (xs := bs) hs1 hle1 htop1 (by omega))
      have HP := Lib.hid hP
      have hb1 : (bs.length : Int) ≤ 9223372036854775807 := by omega
      obtain ⟨n2, hn2⟩ : ∃ n2, n2 = ps.length := ⟨_, rfl⟩
      obtain ⟨n1, hn1⟩ : ∃ n1, n1 = bs.length := ⟨_, rfl⟩
      rw [← hn2] at hle2 ⊢
      rw [← hn1] at hle1 HC ⊢
      have HN2 := Lib.hid hn2
      have HN1 := Lib.hid hn1
      clear hr hP hs1 hcl hbs hn1 hn2
      have HCs : Hid (Calls Try.prog 9 #[.slice A1 n1 c1] wr fun e w' => ∃ A3 c3 qs, e = .returned (.tuple #[.slice A3 n2 c3, .bool (decide ((feeds .zero bs).2.st = 0))]) ∧ n2 ≤ c3 ∧ c3 ≤ 9223372036854775807 ∧
          Hid (Toks w' wr.heap.size (.slice A3 n2 c3) qs ∧ qs.map TkP.t = ps.map TkP.t ∧ Only (fun _ => False) wr w')) := HC.out.mono (by
        rintro e w' ⟨v, qs, rfl, ht, hm, ho⟩
        obtain ⟨A3, c3, rfl, h1, h2⟩ := ht.form
        have hl : qs.length = n2 := by rw [HN2.out]; have := congrArg List.length (hm.trans HP.out.told.symm); simpa using this
        rw [hl] at ht h1 ⊢
        exact ⟨A3, c3, qs, rfl, h1, h2, ht, hm.trans HP.out.told.symm, ho⟩)
      have HI2 := Lib.hid (fun W (ho : Only (fun _ => False) wr W) => idle_any (HP.out.ms.only ho (fun h => h)))
      clear HC
      have hneq : (((n2 : Int) != (n2 : Int)) : Bool) = false := by simp
      go_wp2_with (first
        | (go_at_call 9; refine HCs.out.mono ?_; rintro e w2 ⟨A3, c3, qs, rfl, hc3, hc4, hq⟩)
        | (go_at_call 16; refine (HI2.out _ hq.out.2.2).mono ?_; rintro e w3 ⟨rfl, rfl⟩))
      have HTP := Lib.hid (HP.out.toks.same hq.out.2.2)
      have HTQ := Lib.hid hq.out.1
      have HPQ := Lib.hid hq.out.2.1
      have HO3 := Lib.hid (HP.out.only.trans hq.out.2.2 (fun _ h => h.elim))
      have HBd := Lib.hid (show ∀ x ∈ ps, x.t.body.length ≤ 256 from fun x hx => (feeds_ok Ms.zero_ok bs).2 x.t (by rw [← HP.out.told]; exact List.mem_map_of_mem hx))
      clear HCs HI2 hq
      obtain ⟨W3, hW3⟩ : ∃ W3, W3 = w3 := ⟨_, rfl⟩
      subst hW3
      go_loopw [74] (fun i W => ∃ q : Nat, q ≤ n2 ∧ i = .int .i64 (q : Int) ∧ Hid (Only (fun _ => False) W3 W)) (fun i _ => n2 - (intOf i).toNat)
      case atStart => exact ⟨0, Nat.zero_le _, rfl, Only.refl _ _⟩
      case round =>
        obtain ⟨q, hq, rfl, ho⟩ := hrel
        by_cases hlt : q < n2
        · obtain ⟨a, ha⟩ : ∃ a, qs[q]? = some a := ⟨_, List.getElem?_eq_getElem (by have := congrArg List.length HPQ.out; simp at this; rw [this, ← HN2.out]; exact hlt)⟩
          obtain ⟨b, hb⟩ : ∃ b, ps[q]? = some b := ⟨_, List.getElem?_eq_getElem (by rw [← HN2.out]; exact hlt)⟩
          have hab : a.t = b.t := by
            have := congrArg (fun l => l[q]?) HPQ.out
            simpa [List.getElem?_map, ha, hb] using this
          obtain ⟨ga, rfl, _, hga, hra, hba⟩ := (HTQ.out.same ho.out).at_ ha
          obtain ⟨gb, rfl, _, hgb, hrb, hbb⟩ := (HTP.out.same ho.out).at_ hb
          have hb256 := HBd.out b (List.mem_of_getElem? hb)
          obtain ⟨⟨tk, tc, to_, tb, tcut⟩, aad, acap⟩ := a
          obtain ⟨⟨tk', tc', to', tb', tcut'⟩, bad, bcap⟩ := b
          simp only [Tk.mk.injEq] at hab hb256
          obtain ⟨rfl, rfl, rfl, rfl, rfl⟩ := hab
          have HRA := Lib.hid hba.reads
          have HRB := Lib.hid hbb.reads
          have HRng := Lib.hid hra
          have HFb := Lib.hid (five_of hrb)
          obtain ⟨tn, htn⟩ : ∃ tn, tn = tb.length := ⟨_, rfl⟩
          have HTN := Lib.hid htn
          have hd3 : decide ((256 : Int) < (tn : Int)) = false := by simp; omega
          obtain ⟨cs, hcs⟩ : ∃ cs, cs = tkCells ⟨tk, tc, to_, tb, tcut⟩ (.slice aad tn acap) := ⟨_, rfl⟩
          have HCS := Lib.hid hcs
          have HR' : Hid (wr.rangeAt ga (q * 5) cs) := by
            rw [hcs, htn]
            exact HRng.out
          have hcl : cs.length = 5 := by rw [hcs]; rfl
          have HCL' := Lib.hid hcl
          have HCO := Lib.hid (show ∀ v ∈ cs, v.oneCell' = true by rw [hcs]; exact tk_one _ _ _ _)
          clear hra hrb hba hbb ha hb htn hcs hcl hb256
          go_wp2_with (first
            | ((with_reducible show wpList _ _ _ (⟨some 78, _, _, _, _, _⟩ :: _) _ _); refine wpList_load_mid rfl 35 (.tmp 77) rfl ga (q * 5) rfl cs _ HR'.out Try.underlying35 rfl (by rw [HCL'.out]; exact size_tok) ?_)
            | ((with_reducible show wpList _ _ _ (⟨none, .store 35 _ _, _, _, _, _⟩ :: _) _ _); refine step_store rfl 35 _ _ rfl wr.heap.size rfl cs rfl _ (tkCells Tk.none (.slice none 0 0)) (Blk.new _ _ _) (by rw [HCL'.out]; exact size_tok) HCL'.out.symm HCO.out ?_; intro w4 hB4 hz4 ho4))
          have ho4' : Only (fun i => wr.heap.size ≤ i) wr w4 := ((Only.refl (fun i => wr.heap.size ≤ i) wr).alloc _).trans ho4 (fun i hi => .inl (by omega))
          have hx4 : FiveAt w4 wr.heap.size 0 ⟨tk, tc, to_, tb, tcut⟩ aad tn acap := by
            have h := hB4.out
            rw [HCS.out] at h
            exact ⟨by rw [h.cell]; rfl, by rw [h.cell]; rfl, by rw [h.cell]; rfl, by rw [h.cell]; rfl, by rw [h.cell]; rfl⟩
          have hf4 : FiveAt w4 gb (q * 5) ⟨tk, tc, to_, tb, tcut⟩ bad tn bcap := by
            have := HFb.out.only ho4' (by omega)
            rw [HTN.out]
            exact this
          have HSame := Lib.hid (fun W (ho : Only (fun i => wr.heap.size ≤ i) wr W) => same_flat (w := W) tk tc to_ tb tcut aad bad tn acap bcap HTN.out (by rw [HTN.out]; obtain ⟨A', c', e, h1, h2⟩ := HRA.out; exact ⟨A', c', e, h1.only ho (fun hn ad hA => by have := h1.lt hn ad hA; omega), h2⟩) (by rw [HTN.out]; obtain ⟨A', c', e, h1, h2⟩ := HRB.out; exact ⟨A', c', e, h1.only ho (fun hn ad hA => by have := h1.lt hn ad hA; omega), h2⟩))
          have HO4 := Lib.hid (ho.out.trans (ho4'.mono (T := fun i => wr.heap.size ≤ i) (fun i hi => .inl hi)) (fun i hi => .inr (by have := ho.out.size; omega)))
          have HSC := HSame.out w4.drew ho4'.drew
          have HSC := Lib.hid HSC
          obtain ⟨N, hN⟩ : ∃ N, N = wr.heap.size := ⟨_, rfl⟩
          rw [← hN] at hx4 ⊢
          clear HSame HRng HFb HRA HRB ho4 hz4 hB4 HR' hN
          obtain ⟨x0, x1, x2, x3, x4⟩ := hx4
          obtain ⟨y0, y1, y2, y3, y4⟩ := hf4
          have Q0 : Hid ((w4.drew.cell? ⟨N, 0, none⟩ = some (.int .i64 tk) ∧ w4.drew.cell? ⟨N, 1, none⟩ = some (.int .i64 tc) ∧ w4.drew.cell? ⟨N, 2, none⟩ = some (.int .i64 to_) ∧ w4.drew.cell? ⟨N, 3, none⟩ = some (.slice aad tn acap) ∧ w4.drew.cell? ⟨N, 4, none⟩ = some (.bool tcut)) ∧
            w4.drew.cell? ⟨gb, q * 5, none⟩ = some (.int .i64 tk) ∧ w4.drew.cell? ⟨gb, q * 5 + 1, none⟩ = some (.int .i64 tc) ∧ w4.drew.cell? ⟨gb, q * 5 + 2, none⟩ = some (.int .i64 to_) ∧ w4.drew.cell? ⟨gb, q * 5 + 3, none⟩ = some (.slice bad tn bcap) ∧ w4.drew.cell? ⟨gb, q * 5 + 4, none⟩ = some (.bool tcut)) := ⟨⟨x0, x1, x2, x3, x4⟩, y0, y1, y2, y3, y4⟩
          clear x0 x1 x2 x3 x4 y0 y1 y2 y3 y4
          go_region_held3 (fun W => (W.cell? ⟨N, 0, none⟩ = some (.int .i64 tk) ∧ W.cell? ⟨N, 1, none⟩ = some (.int .i64 tc) ∧ W.cell? ⟨N, 2, none⟩ = some (.int .i64 to_) ∧ W.cell? ⟨N, 3, none⟩ = some (.slice aad tn acap) ∧ W.cell? ⟨N, 4, none⟩ = some (.bool tcut)) ∧
            W.cell? ⟨gb, q * 5, none⟩ = some (.int .i64 tk) ∧ W.cell? ⟨gb, q * 5 + 1, none⟩ = some (.int .i64 tc) ∧ W.cell? ⟨gb, q * 5 + 2, none⟩ = some (.int .i64 to_) ∧ W.cell? ⟨gb, q * 5 + 3, none⟩ = some (.slice bad tn bcap) ∧ W.cell? ⟨gb, q * 5 + 4, none⟩ = some (.bool tcut))
            (first | exact Q0.out | exact Q5.out)
            (first
              | (go_at_call 17; (with_reducible refine HSC.out.mono ?_); rintro e w5 ⟨rfl, ho5⟩; have Q5 : Hid ((w5.cell? ⟨N, 0, none⟩ = some (.int .i64 tk) ∧ w5.cell? ⟨N, 1, none⟩ = some (.int .i64 tc) ∧ w5.cell? ⟨N, 2, none⟩ = some (.int .i64 to_) ∧ w5.cell? ⟨N, 3, none⟩ = some (.slice aad tn acap) ∧ w5.cell? ⟨N, 4, none⟩ = some (.bool tcut)) ∧ w5.cell? ⟨gb, q * 5, none⟩ = some (.int .i64 tk) ∧ w5.cell? ⟨gb, q * 5 + 1, none⟩ = some (.int .i64 tc) ∧ w5.cell? ⟨gb, q * 5 + 2, none⟩ = some (.int .i64 to_) ∧ w5.cell? ⟨gb, q * 5 + 3, none⟩ = some (.slice bad tn bcap) ∧ w5.cell? ⟨gb, q * 5 + 4, none⟩ = some (.bool tcut)) := ⟨⟨ho5.cellv Q0.out.1.1 (fun h => h), ho5.cellv Q0.out.1.2.1 (fun h => h), ho5.cellv Q0.out.1.2.2.1 (fun h => h), ho5.cellv Q0.out.1.2.2.2.1 (fun h => h), ho5.cellv Q0.out.1.2.2.2.2 (fun h => h)⟩, ho5.cellv Q0.out.2.1 (fun h => h), ho5.cellv Q0.out.2.2.1 (fun h => h), ho5.cellv Q0.out.2.2.2.1 (fun h => h), ho5.cellv Q0.out.2.2.2.2.1 (fun h => h), ho5.cellv Q0.out.2.2.2.2.2 (fun h => h)⟩; have HO5 := Lib.hid ho5; clear ho5))
          clear Q0 Q5
          go_wp2
          go_roundw
          case rel => exact ⟨q + 1, by omega, by go_num, HO4.out.drew.trans HO5.out (fun _ h => h.elim)⟩
          case measure => simp [intOf]; omega
        · go_wp2
          go_ret
          exact ⟨rfl, HO3.out.trans ho.out (fun _ h => h.elim)⟩

theorem iacParts_walk (W : World) {H : Type} {enc : TypeId × Value → H} {spare : Nat → Bool} {fuel : Nat} {A : Option Addr} {n c : Nat} {x : DataW H × List MemPlace} (hf : DataW.trod enc Try.prog W 0 spare true fuel 52 [.slice A n c] = some x) :
    Calls Try.prog 5 #[.slice A n c] W (Fine W) := by
  obtain ⟨_, _, l, hl⟩ := opened_slices hf
  by_cases h : 40 < n
  · exact parts_long W A n c h
  · exact parts_ok W A n c l hl (by omega)
end Go.Proofs.Ytpkmndhefadopaa
