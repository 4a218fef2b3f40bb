/- NvtBack, walked. -/
import Derived.Test.YtckfbdjebbnieaaNvtAlive
import Derived.Test.YtckfbdjebbnieaaSlices
import Derived.Deep.RegionHeldLaw
namespace Go.Proofs.Ytckfbdjebbnieaa
open Go Go.ChangeShapes Go.WideShapes Go.ChangeAt Go.RowKit
set_option maxRecDepth 100000
set_option maxHeartbeats 4000000

theorem nback_long (w : World) (A : Option Addr) (n c : Nat) (raw : Bool) (h : 20 < n) : Calls Try.prog 5 #[.slice A n c, .bool raw] w (Fine w) := by
  have hd : decide ((20 : Int) < (n : Int)) = true := by simp; omega
  clear h
  go_enter Try.func5, Try.ntmps5
  go_wp2_with (go_at_call 6; refine (nalive_any _).mono ?_; rintro e w1 ⟨rfl, ho1⟩)
  go_ret
  exact ⟨rfl, ho1⟩

/-- The parts so far. -/
def parts8 (l : List BytesV) (k : Nat) : List (List UInt8) := (l.take k).map BytesV.xs
theorem parts8_snoc {l : List BytesV} {k : Nat} {x : BytesV} (h : l[k]? = some x) : parts8 l (k + 1) = parts8 l k ++ [x.xs] := by
  unfold parts8
  rw [take_snoc h, List.map_append]
  rfl
/-- Where NvtBack stands while it sends. -/
structure SendAt (w : World) (raw : Bool) (l : List BytesV) (W : World) (k : Nat) (av : Value) (an : Nat) (sv : Value) (sn : Nat) (xs ys : List UInt8) : Prop where
  alen : an = xs.length
  slen : sn = ys.length
  ale : xs.length ≤ 100 * k
  sle : ys.length ≤ 200 * k
  arow : Body W w.heap.size av xs
  srow : Body W w.heap.size sv ys
  ax : xs = cat8 (parts8 l k)
  sx : ys = cat8 ((parts8 l k).map (out8 raw))
  sep : ∀ g, av.ownBlock = some g → sv.ownBlock ≠ some g
  only : Only (fun _ => False) w W

theorem only_row {W W' : World} {v : Value} (hg : W.grownBy W' v.ownBlock) : Only (fun i => v.ownBlock = some i) W W' := Only.grown (Only.refl _ _) hg (fun k hk => .inl hk)
theorem SendAt.more {w : World} {raw : Bool} {l : List BytesV} {W : World} {k : Nat} {av sv av' sv' : Value} {an sn : Nat} {xs ys : List UInt8} (h : SendAt w raw l W k av an sv sn xs ys) {x : BytesV} (hx : l[k]? = some x) (h100 : x.xs.length ≤ 100)
    {w2 w3 w4 : World} (hb2 : Body w2 w.heap.size av' (xs ++ x.xs)) (hg2 : W.grownBy w2 av.ownBlock) (hk2 : ∀ k, av'.ownBlock = some k → av.ownBlock = some k ∨ W.heap.size ≤ k)
    (ho3 : Only (fun _ => False) w2 w3) (hb4 : Body w4 w.heap.size sv' (ys ++ out8 raw x.xs)) (hg4 : w3.grownBy w4 sv.ownBlock) (hk4 : ∀ k, sv'.ownBlock = some k → sv.ownBlock = some k ∨ w3.heap.size ≤ k) :
    SendAt w raw l w4 (k + 1) av' (an + x.xs.length) sv' (sn + (out8 raw x.xs).length) (xs ++ x.xs) (ys ++ out8 raw x.xs) := by
  have hl := out8_le raw x.xs
  have hz2 := hg2.size
  have hz3 := ho3.size
  have hsep : ∀ g, av'.ownBlock = some g → sv'.ownBlock ≠ some g := by
    intro g h1 h2
    rcases hk2 g h1 with h3 | h3 <;> rcases hk4 g h2 with h4 | h4
    · exact h.sep g h3 h4
    · have := (h.arow.lt g h3).2; omega
    · have := (h.srow.lt g h4).2; omega
    · have := (hb2.lt g h1).2; omega
  refine ⟨?_, ?_, ?_, ?_, ?_, hb4, ?_, ?_, hsep, ?_⟩
  · rw [List.length_append, h.alen]
  · rw [List.length_append, h.slen]
  · have := h.ale
    rw [List.length_append]
    omega
  · have := h.sle
    rw [List.length_append]
    omega
  · refine own_only (own_same hb2 ho3) (only_row hg4) (fun g hg => ?_)
    intro h2
    rcases hk2 g hg with h3 | h3
    · exact h.sep g h3 h2
    · have := (h.srow.lt g h2).2; omega
  · rw [parts8_snoc hx, cat8_append, ← h.ax]
    simp [cat8]
  · rw [parts8_snoc hx, List.map_append, cat8_append, ← h.sx]
    simp [cat8]
  · exact ((h.only.grown hg2 (fun g hg => .inr (h.arow.lt g hg).1)).trans ho3 (fun _ h => h.elim)).grown hg4 (fun g hg => .inr (h.srow.lt g hg).1)
theorem SendAt.mid {w : World} {raw : Bool} {l : List BytesV} {W : World} {k : Nat} {av sv : Value} {an sn : Nat} {xs ys : List UInt8} (h : SendAt w raw l W k av an sv sn xs ys) {w2 w3 : World} (hg2 : W.grownBy w2 av.ownBlock) (ho3 : Only (fun _ => False) w2 w3) : Body w3 w.heap.size sv ys ∧ Only (fun _ => False) w w3 :=
  ⟨own_same (own_only h.srow (only_row hg2) (fun g hg h2 => h.sep g h2 hg)) ho3, (h.only.grown hg2 (fun g hg => .inr (h.arow.lt g hg).1)).trans ho3 (fun _ h => h.elim)⟩

theorem send_start (w w1 : World) (ho : Only (fun _ => False) w w1) (raw : Bool) (l : List BytesV) : SendAt w raw l ((w1.alloc (.cells #[] 5)).alloc (.cells #[] 5)) 0 (.slice (some ⟨w1.heap.size, 0, none⟩) 0 0) 0 (.slice (some ⟨w1.heap.size + 1, 0, none⟩) 0 0) 0 [] [] := by
  have hz := ho.size
  refine ⟨rfl, rfl, by simp, by simp, ?_, ?_, rfl, rfl, ?_, (ho.alloc _).alloc _⟩
  · exact own_of_blk (cur := []) ((Blk.new w1 5 []).alloc _) rfl rfl (Nat.le_refl _) (by omega) hz
  · exact own_of_blk (cur := []) (Blk.new' _ _ _ (by simp)) rfl rfl (Nat.le_refl _) (by omega) (by omega)
  · intro g h1 h2
    simp [Value.ownBlock] at h1 h2
    omega

theorem nback_ok (w : World) (A : Option Addr) (n c : Nat) (l : List BytesV) (hA : SlicesAt w A n l) (raw : Bool) (hn : n ≤ 20) : Calls Try.prog 5 #[.slice A n c, .bool raw] w (Fine w) := by
  have hd : decide ((20 : Int) < (n : Int)) = false := by simp; omega
  have HA := Lib.hid hA
  clear hA
  go_enter Try.func5, Try.ntmps5
  go_wp2_with (go_at_call 6; refine (nalive_any _).mono ?_; rintro e w1 ⟨rfl, ho1⟩)
  have H0 := Lib.hid (send_start w w1 ho1 raw l)
  obtain ⟨p, hp⟩ : ∃ p, p = w1.heap.size := ⟨_, rfl⟩
  rw [← hp] at H0 ⊢
  clear hp ho1
  go_loopw [5, 6, 20] (fun av sv i W => ∃ (k : Nat) (A1 : Option Addr) (n1 c1 : Nat) (A2 : Option Addr) (n2 c2 : Nat), k ≤ n ∧ i = .int .i64 (k : Int) ∧ av = .slice A1 n1 c1 ∧ sv = .slice A2 n2 c2 ∧ Hid (∃ xs ys, SendAt w raw l W k (.slice A1 n1 c1) n1 (.slice A2 n2 c2) n2 xs ys)) (fun _ _ i _ => n - (intOf i).toNat)
  case atStart => exact ⟨0, _, _, _, _, _, _, Nat.zero_le _, rfl, rfl, rfl, [], [], H0.out⟩
  case round =>
    clear H0
    obtain ⟨k, A1, n1, c1, A2, n2, c2, hk, rfl, rfl, rfl, hr⟩ := hrel
    obtain ⟨xs, ys, hI⟩ := hr.out
    by_cases hlt : k < n
    · obtain ⟨x, hx⟩ : ∃ x, l[k]? = some x := ⟨_, List.getElem?_eq_getElem (by rw [HA.out.1]; exact hlt)⟩
      obtain ⟨⟨b, off, rfl, hcell⟩, hbx⟩ := HA.out.2 k x hx
      have c0 := hI.only.cellv hcell (fun h => h)
      have HX := Lib.hid hx
      have HBX := Lib.hid hbx
      have HI := Lib.hid hI
      obtain ⟨xa, xn, xc, xs0⟩ := x
      simp only at c0
      clear hcell hx hbx hr hI
      by_cases hlong : 100 < xn
      · have hd2 : decide ((100 : Int) < (xn : Int)) = true := by simp; omega
        go_wp2_with fail
        go_ret
        exact ⟨rfl, HI.out.only⟩
      · have hd2 : decide ((100 : Int) < (xn : Int)) = false := by simp; omega
        have hl0 : xs0.length = xn := HBX.out.src.1
        have HSrc : Hid (∀ W, Only (fun _ => False) w W → Src W xa xn xs0) := fun W ho => HBX.out.src.only ho (fun _ _ _ h => h)
        have HEnc : Hid (∀ W, Only (fun _ => False) w W → Calls Try.prog 8 #[.slice xa xn xc, .bool raw] W fun e w' => ∃ A' c', e = .returned (.slice A' (out8 raw xs0).length c') ∧ Hid (Body w' W.heap.size (.slice A' (out8 raw xs0).length c') (out8 raw xs0)) ∧ Hid (Only (fun _ => False) W w')) := fun W ho =>
          encode_any (HSrc.out W ho) raw (by omega) HBX.out.le
        obtain ⟨ys0, hys⟩ : ∃ ys0, ys0 = out8 raw xs0 := ⟨_, rfl⟩
        obtain ⟨yn, hyn⟩ : ∃ yn, yn = ys0.length := ⟨_, rfl⟩
        rw [← hys, ← hyn] at HEnc
        have hyl : yn ≤ 2 * xn := by rw [hyn, hys, ← hl0]; exact out8_le _ _
        have HL := Lib.hid hl0
        have HYN := Lib.hid hyn
        have HY := Lib.hid hys
        have hb1 : n1 + xn ≤ 1048576 := by have := HI.out.alen; have := HI.out.ale; omega
        have hb2 : n2 + yn ≤ 1048576 := by have := HI.out.slen; have := HI.out.sle; omega
        clear hl0 hyn hys
        go_wp2_with (first
          | (at_builtin; refine step_bytesS rfl (.tmp 27) (.tmp 28) rfl w.heap.size _ _ _ xs rfl HI.out.arow HI.out.alen xa xn xc xs0 rfl (HSrc.out _ HI.out.only) hb1 HI.out.only.size ?_; intro A3 c3 w2 hb2' hg2 hk2; have HO2 : Hid (Only (fun _ => False) w w2) := HI.out.only.grown hg2.out (fun g hg => .inr (HI.out.arow.lt g hg).1))
          | (go_at_call 8; refine (HEnc.out w2 HO2.out).mono ?_; rintro e w3 ⟨A4, c4, rfl, hb3, ho3⟩; have HM := Lib.hid (HI.out.mid hg2.out ho3.out))
          | (at_builtin; refine step_bytesS rfl (.tmp 30) (.tmp 33) rfl w.heap.size _ _ _ ys rfl HM.out.1 HI.out.slen A4 yn c4 ys0 rfl (hb3.out.src HYN.out) hb2 HM.out.2.size ?_; intro A5 c5 w4 hb4 hg4 hk4))
        go_roundw
        case rel =>
          refine ⟨k + 1, _, _, _, _, _, _, by omega, by go_num, rfl, rfl, xs ++ xs0, ys ++ ys0, ?_⟩
          have h1 := HYN.out
          have h2 := HY.out
          have h3 := HL.out
          subst h1 h2 h3
          exact HI.out.more HX.out (by simp; omega) hb2'.out hg2.out hk2.out ho3.out hb4.out hg4.out hk4.out
        case measure => simp [intOf]; omega
    · obtain rfl : k = n := by omega
      clear hr
      have hxs := hI.ax
      have hys := hI.sx
      have hp8 : parts8 l k = l.map BytesV.xs := by unfold parts8; rw [List.take_of_length_le (by rw [HA.out.1]; omega)]
      rw [hp8] at hxs hys
      have HBk : Hid (in8 false (flags8 raw ys) = xs) := by rw [hxs, hys]; exact back8 raw _
      have HEn : Hid (raw = false → Ends8 ys) := fun h => by rw [hys, h]; exact ends_cat8 _
      have HSr := Lib.hid (hI.srow.src hI.slen)
      have hsl := hI.slen
      have hsle := hI.sle
      have HI := Lib.hid hI
      have HTa : Hid (Texts wr A1 n1 c1 xs) := hI.arow.texts hI.alen
      have HSl := Lib.hid hsl
      have HDe : Hid (∀ W, Only (fun _ => False) wr W → Calls Try.prog 9 #[.slice A2 n2 c2, .bool raw] W fun e w' => ∃ A3 c3, e = .returned (.slice A3 n1 c3) ∧ Hid (Texts w' A3 n1 c3 xs) ∧ Hid (Only (fun _ => False) W w')) := fun W ho => by
        refine (decode_any (c := c2) (HSr.out.only ho (fun _ _ _ h => h)) raw (by omega)).mono ?_
        rintro e w' ⟨A3, c3, rfl, hb, ho'⟩
        rw [HBk.out] at hb ⊢
        rw [HI.out.alen]
        exact ⟨A3, c3, rfl, hb.out.texts rfl, ho'⟩
      have hn2 : n2 ≤ 4000 := by omega
      clear hxs hys hp8 hI hsl hsle
      go_wp2
      go_loop [38] (fun i => ∃ j : Nat, j ≤ n2 ∧ i = .int .i64 (j : Int)) (fun i => n2 - (intOf i).toNat)
      case atStart => exact ⟨0, Nat.zero_le _, rfl⟩
      case round =>
        obtain ⟨j, hj, rfl⟩ := hrel
        by_cases hlt : j < n2
        · obtain ⟨x, hx⟩ : ∃ x, ys[j]? = some x := ⟨_, List.getElem?_eq_getElem (by rw [← HSl.out]; exact hlt)⟩
          obtain ⟨ad, rfl, hcell⟩ := HSr.out.2 (by omega)
          have c0 := hcell j x hx
          unfold B8 at c0
          obtain ⟨z, hz⟩ : ∃ z : Int, z = (x.toNat : Int) := ⟨_, rfl⟩
          rw [← hz] at c0
          cases raw with
          | true =>
            clear hcell hx hz
            go_wp2
            go_round
            case rel => exact ⟨j + 1, by omega, by go_num⟩
            case measure => simp [intOf]; omega
          | false =>
            by_cases h13 : x.toNat = 13
            · obtain ⟨y, hy, hyv⟩ := HEn.out rfl j x hx h13
              have hj1 : j + 1 < n2 := by rw [HSl.out]; exact (List.getElem?_eq_some_iff.1 hy).1
              have c1 := hcell (j + 1) y hy
              unfold B8 at c1
              have c2 : wr.cell? ⟨ad.block, ad.off + (j + 1), none⟩ = some (.int .u8 (y.toNat : Int)) := by simpa [Addr.add] using c1
              obtain ⟨v, hv⟩ : ∃ v : Int, v = (y.toNat : Int) := ⟨_, rfl⟩
              rw [← hv] at c1 c2
              have e1 : (z == 13) = true := by rw [hz]; simp; omega
              have e1' : decide (z = 13) = true := by rw [hz]; simp; omega
              have e2 : decide ((n2 : Int) - 1 ≤ (j : Int)) = false := by simp; omega
              rcases hyv with h0 | h10
              · have e3 : (v != 0) = false := by rw [hv]; simp; omega
                have e3' : (v == 0) = true := by rw [hv]; simp; omega
                have e3'' : decide (v = 0) = true := by rw [hv]; simp; omega
                clear hcell hx hz hy h13 h0 hv
                go_wp2
                go_round
                case rel => exact ⟨j + 1, by omega, by go_num⟩
                case measure => simp [intOf]; omega
              · have e3 : (v != 0) = true := by rw [hv]; simp; omega
                have e3' : (v == 0) = false := by rw [hv]; simp; omega
                have e3'' : decide (v = 0) = false := by rw [hv]; simp; omega
                have e4 : (v != 10) = false := by rw [hv]; simp; omega
                have e4' : (v == 10) = true := by rw [hv]; simp; omega
                have e4'' : decide (v = 10) = true := by rw [hv]; simp; omega
                clear hcell hx hz hy h13 h10 hv
                go_wp2
                go_round
                case rel => exact ⟨j + 1, by omega, by go_num⟩
                case measure => simp [intOf]; omega
            · have e1 : (z == 13) = false := by rw [hz]; simp; omega
              have e1' : decide (z = 13) = false := by rw [hz]; simp; omega
              clear hcell hx hz
              go_wp2
              go_round
              case rel => exact ⟨j + 1, by omega, by go_num⟩
              case measure => simp [intOf]; omega
        · go_wp2
          have Q0 : Hid ((convert 22 9 (.slice A1 n1 c1)).run Try.prog wr.drew = .ok (.string ⟨xs.toArray⟩) wr.drew) := HTa.out _ (Only.refl _ wr).drew
          have HD2 : Hid (Only (fun _ => False) wr wr.drew) := (Only.refl _ wr).drew
          go_region_held_law (fun W => (convert 22 9 (.slice A1 n1 c1)).run Try.prog W = .ok (.string ⟨xs.toArray⟩) W)
            (first | exact Q3.out | exact Q0.out)
            (first
              | (go_at_call 9; (with_reducible refine (HDe.out _ HD2.out).mono ?_); rintro e w3 ⟨A3, c3, rfl, ht3, ho3⟩; have HO3 : Hid (Only (fun _ => False) wr w3) := HD2.out.trans ho3.out (fun _ h => h.elim); have Q3 : Hid ((convert 22 9 (.slice A1 n1 c1)).run Try.prog w3 = .ok (.string ⟨xs.toArray⟩) w3) := HTa.out _ HO3.out; have hcv3 := ht3.out w3 (Only.refl _ _)))
          all_goals
            go_wp2
            go_ret
            exact ⟨rfl, HI.out.only.trans HO3.out (fun _ h => h.elim)⟩

theorem nvtBack_walk (W : World) {H : Type} {enc : TypeId × Value → H} {fuel : Nat} {A : Option Addr} {n c : Nat} {x : DataW H × List MemPlace} (hf : DataW.trod enc Try.prog W 0 (fun _ => true) true fuel 37 [.slice A n c] = some x) (raw : Bool) :
    Calls Try.prog 5 #[.slice A n c, .bool raw] W (Fine W) := by
  obtain ⟨_, _, l, hl⟩ := opened_slices hf
  by_cases h : 20 < n
  · exact nback_long W A n c raw h
  · exact nback_ok W A n c l hl raw (by omega)
end Go.Proofs.Ytckfbdjebbnieaa
