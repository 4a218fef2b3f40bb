/- IacSteps, walked. -/
import Derived.Test.YtpkmndhefadopaaIacOf
import Derived.Test.YtpkmndhefadopaaIacAlive
import Derived.Test.YtpkmndhefadopaaSlices
namespace Go.Proofs.Ytpkmndhefadopaa
open Go Go.RowKit
set_option maxRecDepth 100000
set_option maxHeartbeats 4000000

/-- A token's value, spelt out. -/
abbrev tkVal (k c o : Int) (A : Option Addr) (n cap : Nat) (cut : Bool) : Value := .agg #[.int .i64 k, .int .i64 c, .int .i64 o, .slice A n cap, .bool cut]

/-- The two boxes that a call lays first. -/
theorem boxes {w w1 : World} {xs ys : List Value} {t : TypeId} (ho : Only (fun _ => False) ((w.alloc (.cells xs.toArray t)).alloc (.cells ys.toArray t)) w1) : Blk w1 w.heap.size t xs ∧ Blk w1 (w.heap.size + 1) t ys ∧ Only (fun _ => False) w w1 :=
  ⟨((Blk.new w t xs).alloc _).only ho (fun h => h), (Blk.new' _ t ys (by simp)).only ho (fun h => h), (((Only.refl _ w).alloc _).alloc _).trans ho (fun _ h => h.elim)⟩

theorem steps_long (w : World) (A : Option Addr) (n c : Nat) (xk xc xo yk yc yo : Int) (xA yA : Option Addr) (xn xcap yn ycap : Nat) (xt yt : Bool) (h : 400 < n ∨ 300 < xn ∨ 300 < yn) :
    Calls Try.prog 4 #[.slice A n c, tkVal xk xc xo xA xn xcap xt, tkVal yk yc yo yA yn ycap yt] w (Fine w) := by
  have h' : 400 < n ∨ (¬ 400 < n ∧ 300 < xn) ∨ (¬ 400 < n ∧ ¬ 300 < xn ∧ 300 < yn) := by omega
  rcases h' with h1 | ⟨h1, h2⟩ | ⟨h1, h2, h3⟩
  · have d1 : decide ((400 : Int) < (n : Int)) = true := by simp; omega
    go_enter Try.func4, Try.ntmps4
    go_wp2_with (first
      | (go_at_call 7; refine (alive_any _).mono ?_; rintro e w1 ⟨rfl, ho1⟩; obtain ⟨hb1, hb2, ho⟩ := boxes (xs := [.int .i64 xk, .int .i64 xc, .int .i64 xo, .slice xA xn xcap, .bool xt]) (ys := [.int .i64 yk, .int .i64 yc, .int .i64 yo, .slice yA yn ycap, .bool yt]) ho1; have q1 := hb1.cell 3; have q2 := hb2.cell 3; simp only [List.getElem?_cons_succ, List.getElem?_cons_zero] at q1 q2; clear hb1 hb2 ho1))
    go_ret
    exact ⟨rfl, ho⟩
  · have d1 : decide ((400 : Int) < (n : Int)) = false := by simp; omega
    have d2 : decide ((300 : Int) < (xn : Int)) = true := by simp; omega
    go_enter Try.func4, Try.ntmps4
    go_wp2_with (first
      | (go_at_call 7; refine (alive_any _).mono ?_; rintro e w1 ⟨rfl, ho1⟩; obtain ⟨hb1, hb2, ho⟩ := boxes (xs := [.int .i64 xk, .int .i64 xc, .int .i64 xo, .slice xA xn xcap, .bool xt]) (ys := [.int .i64 yk, .int .i64 yc, .int .i64 yo, .slice yA yn ycap, .bool yt]) ho1; have q1 := hb1.cell 3; have q2 := hb2.cell 3; simp only [List.getElem?_cons_succ, List.getElem?_cons_zero] at q1 q2; clear hb1 hb2 ho1))
    go_ret
    exact ⟨rfl, ho⟩
  · have d1 : decide ((400 : Int) < (n : Int)) = false := by simp; omega
    have d2 : decide ((300 : Int) < (xn : Int)) = false := by simp; omega
    have d3 : decide ((300 : Int) < (yn : Int)) = true := by simp; omega
    go_enter Try.func4, Try.ntmps4
    go_wp2_with (first
      | (go_at_call 7; refine (alive_any _).mono ?_; rintro e w1 ⟨rfl, ho1⟩; obtain ⟨hb1, hb2, ho⟩ := boxes (xs := [.int .i64 xk, .int .i64 xc, .int .i64 xo, .slice xA xn xcap, .bool xt]) (ys := [.int .i64 yk, .int .i64 yc, .int .i64 yo, .slice yA yn ycap, .bool yt]) ho1; have q1 := hb1.cell 3; have q2 := hb2.cell 3; simp only [List.getElem?_cons_succ, List.getElem?_cons_zero] at q1 q2; clear hb1 hb2 ho1))
    go_ret
    exact ⟨rfl, ho⟩

theorem sum_texts {P : Program} {w : World} (x y z : List UInt8) (h : x ++ y = z) (hl : x.length + y.length ≤ 9223372036854775807) :
    (Op.stringOp .add (ByteArray.mk x.toArray) (ByteArray.mk y.toArray)).run P w = .ok (.string (ByteArray.mk z.toArray)) w := by
  subst h
  have := run_string_add_sum (P := P) w (ByteArray.mk x.toArray) (ByteArray.mk y.toArray) (by simpa [ByteArray.size] using hl)
  rw [this, ByteArray.mk_append_mk]

/-- What a byte more brings, for the machine and for the document. -/
theorem Pend.both {r : List UInt8} {m : Ms} (h : Pend r m) (x : UInt8) : ∃ (T : Tk) (k : Nat) (b : Bool) (m' : Ms) (o : Option Tk), feed m x = (m', o) ∧ tokOf o = T ∧ o.isSome = b ∧ tokN (next (r ++ [x])) = (T, k) ∧ decide ((0 : Int) < (k : Int)) = b ∧ decide (m'.st = 0) = b ∧ Pend (if b then [] else r ++ [x]) m' := by
  rcases h.step x with ⟨t, h1, h2⟩ | ⟨m', h1, h2⟩
  · refine ⟨t, r.length + 1, true, .zero, some t, h1, rfl, rfl, ?_, by simp, by decide, .inl ⟨rfl, rfl⟩⟩
    rw [h2 []]
    rfl
  · refine ⟨Tk.none, 0, false, m', Option.none, h1, rfl, rfl, ?_, by decide, ?_, h2⟩
    · rw [h2.none]
      rfl
    · have := h2.idle
      simp at this
      simpa using this

/-- Where it stands in the loop. -/
structure SAt (w1 : World) (p : Nat) (W : World) (r : List UInt8) (m : Ms) : Prop where
  only : Only (· = p) w1 W
  ms : IsMs W p m
  pend : Pend r m

theorem steps_ok (w : World) (A : Option Addr) (n c : Nat) (bs : List UInt8) (hs : Src w A n bs) (hnc : n ≤ c) (hc63 : c ≤ 9223372036854775807) (X Y : Tk) (xA yA : Option Addr) (xn xcap yn ycap : Nat) (hX : Reads w (.slice xA xn xcap) X.body) (hY : Reads w (.slice yA yn ycap) Y.body)
    (hn : n ≤ 400) (hxn : xn ≤ 300) (hyn : yn ≤ 300) :
    Calls Try.prog 4 #[.slice A n c, tkVal X.kind X.code X.opt xA xn xcap X.cut, tkVal Y.kind Y.code Y.opt yA yn ycap Y.cut] w (Fine w) := by
  have d1 : decide ((400 : Int) < (n : Int)) = false := by simp; omega
  have d2 : decide ((300 : Int) < (xn : Int)) = false := by simp; omega
  have d3 : decide ((300 : Int) < (yn : Int)) = false := by simp; omega
  have HS := Lib.hid hs
  have HX := Lib.hid hX
  have HY := Lib.hid hY
  obtain ⟨xk, xc, xo, xb, xt⟩ := X
  obtain ⟨yk, yc, yo, yb, yt⟩ := Y
  clear hs hX hY
  go_enter Try.func4, Try.ntmps4
  go_wp2_with (first
    | (go_at_call 7; refine (alive_any _).mono ?_; rintro e w1 ⟨rfl, ho1⟩; obtain ⟨hb1, hb2, ho⟩ := boxes (xs := [.int .i64 xk, .int .i64 xc, .int .i64 xo, .slice xA xn xcap, .bool xt]) (ys := [.int .i64 yk, .int .i64 yc, .int .i64 yo, .slice yA yn ycap, .bool yt]) ho1; have HB1 := Lib.hid hb1; have HB2 := Lib.hid hb2; have HO := Lib.hid ho; have q1 := hb1.cell 3; have q2 := hb2.cell 3; simp only [List.getElem?_cons_succ, List.getElem?_cons_zero] at q1 q2; clear hb1 hb2 ho1 ho)
    | ((with_reducible show wpList _ _ _ (⟨some 32, _, _, _, _, _⟩ :: _) _ _); refine step_build rfl 40 #[] rfl (msCells Ms.zero (zeros 256)) (by kernel_rfl) ?_)
    | ((with_reducible show wpList _ _ _ (⟨some 33, _, _, _, _, _⟩ :: _) _ _); refine wpList_boxTo rfl 40 (.tmp 32) rfl _ rfl _ rfl (msCells Ms.zero (zeros 256)).toArray rfl ?_))
  have H0 : Hid (SAt (w1.alloc (.cells (msCells Ms.zero (zeros 256)).toArray 40)) w1.heap.size (w1.alloc (.cells (msCells Ms.zero (zeros 256)).toArray 40)) [] .zero) := ⟨Only.refl _ _, ⟨Ms.zero_ok, zeros 256, Blk.new _ _ _, rfl, fun v hv => by rw [List.eq_of_mem_replicate hv]; rfl⟩, .inl ⟨rfl, rfl⟩⟩
  have HB1' : Hid (Blk (w1.alloc (.cells (msCells Ms.zero (zeros 256)).toArray 40)) w.heap.size 35 [.int .i64 xk, .int .i64 xc, .int .i64 xo, .slice xA xn xcap, .bool xt]) := HB1.out.alloc _
  have HB2' : Hid (Blk (w1.alloc (.cells (msCells Ms.zero (zeros 256)).toArray 40)) (w.heap.size + 1) 35 [.int .i64 yk, .int .i64 yc, .int .i64 yo, .slice yA yn ycap, .bool yt]) := HB2.out.alloc _
  have HO' : Hid (Only (fun _ => False) w (w1.alloc (.cells (msCells Ms.zero (zeros 256)).toArray 40))) := HO.out.alloc _
  have hp1 : w.heap.size < w1.heap.size := HB1.out.lt
  have hp2 : w.heap.size + 1 < w1.heap.size := HB2.out.lt
  clear HB1 HB2 HO q1 q2
  obtain ⟨W0, hW0⟩ : ∃ W0, W0 = w1.alloc (.cells (msCells Ms.zero (zeros 256)).toArray 40) := ⟨_, rfl⟩
  obtain ⟨p, hp⟩ : ∃ p, p = w1.heap.size := ⟨_, rfl⟩
  obtain ⟨g, hg⟩ : ∃ g, g = w.heap.size := ⟨_, rfl⟩
  rw [← hW0, ← hp] at H0
  rw [← hW0] at HO'
  rw [← hW0, ← hg] at HB1' HB2'
  rw [← hW0, ← hp, ← hg]
  rw [← hp, ← hg] at hp1 hp2
  have hgw : w.heap.size ≤ g := by omega
  clear hW0 hp hg
  go_loopw [8, 36] (fun rv i W => ∃ (k : Nat) (r : List UInt8), k ≤ n ∧ i = .int .i64 (k : Int) ∧ rv = .string ⟨r.toArray⟩ ∧ r.length ≤ k ∧ Hid (∃ m, SAt W0 p W r m)) (fun _ i _ => n - (intOf i).toNat)
  case atStart => exact ⟨0, [], Nat.zero_le _, rfl, rfl, Nat.le_refl _, .zero, H0.out⟩
  case round =>
    clear H0
    obtain ⟨k, r, hk, rfl, rfl, hrk, hr⟩ := hrel
    by_cases hlt : k < n
    · obtain ⟨m, hm⟩ := hr.out
      obtain ⟨x, hx⟩ : ∃ x, bs[k]? = some x := ⟨_, List.getElem?_eq_getElem (by rw [HS.out.1]; exact hlt)⟩
      have hsW := HS.out.only (HO'.out.trans hm.only (fun i hi => .inr (by omega))) (fun _ _ _ h => h)
      obtain ⟨ad, rfl, hcell⟩ := hsW.2 (by omega)
      have c0 := hcell k x hx
      have HAd := Lib.hid (hsW.lt (by omega) ad rfl)
      unfold B8 at c0
      obtain ⟨T, kk, b, m', o, hf, hT, hb, hnx, hkb, hst, hpd⟩ := hm.pend.both x
      have HSA := Lib.hid hm
      have HF := Lib.hid hf
      have HN : Hid (∀ W, Nexts W (r ++ [x]) (next (r ++ [x]))) := fun W => next_ref W (r ++ [x]) (by simp; omega)
      have HFeed : Hid (∀ W, IsMs W p m → W0.heap.size ≤ W.heap.size → Calls Try.prog 14 #[.pointer (some ⟨p, 0, none⟩), .int .u8 (x.toNat : Int)] W fun e w' => ∃ cs : List Value, e = .returned (.tuple #[.agg cs.toArray, .bool b]) ∧ Hid (cs.length = 5) ∧ Hid (∀ v ∈ cs, v.oneCell' = true) ∧
          Hid (∃ x : TkP, cs = x.cells ∧ x.t = T ∧ Body w' W0.heap.size x.val x.t.body) ∧ Hid (IsMs w' p m') ∧ Hid (Only (· = p) W w')) := fun W h1 h2 => by
        have := feed_cs h1 x W0.heap.size h2
        rw [hf] at this
        simp only [hb, hT] at this
        exact this
      have hcs : ∃ cw, cw = rkCells T := ⟨_, rfl⟩
      obtain ⟨cw, hcw⟩ := hcs
      have HCW := Lib.hid hcw
      have HWl : Hid (cw.length = 5) := by rw [hcw]; rfl
      have HWo : Hid (∀ v ∈ cw, v.oneCell' = true) := by rw [hcw]; exact rk_one _
      obtain ⟨q, hq⟩ : ∃ q, q = r ++ [x] := ⟨_, rfl⟩
      obtain ⟨kz, hkz⟩ : ∃ kz : Int, kz = (kk : Int) := ⟨_, rfl⟩
      have HNx : Hid (∀ W, Calls Try.prog 13 #[.string ⟨q.toArray⟩] W fun e w' => e = .returned (.tuple #[.agg cw.toArray, .int .i64 kz]) ∧ Only (fun _ => False) W w') := fun W => by
        have := HN.out W
        unfold Nexts at this
        rw [hnx] at this
        simp only [← hcw, ← hkz, ← hq] at this
        exact this
      have hadd : ∀ W, (Op.stringOp .add ⟨r.toArray⟩ ⟨#[x]⟩).run Try.prog W = .ok (.string ⟨q.toArray⟩) W := fun W => sum_texts r [x] q hq.symm (by simp; omega)
      have HQ := Lib.hid hq
      have hcv : ∀ cap, (convert 22 9 (.slice (some (ad.add k)) 1 cap)).run Try.prog wr = .ok (.string ⟨#[x]⟩) wr := fun cap => by
        have h1 : Src wr (some (ad.add k)) 1 [x] := ⟨rfl, fun _ => ⟨_, rfl, fun j y hj => by
          have hj0 : j = 0 := by have := (List.getElem?_eq_some_iff.1 hj).1; simp at this; omega
          subst hj0
          rw [Go.Deep.add_add, Nat.add_zero]
          have : x = y := by simpa using hj
          rw [← this]
          exact hcell k x hx⟩⟩
        exact text_of (P := Try.prog) h1 cap 22 9 5 Try.underlying22 Try.underlying5 Try.underlying9
      have hkb' : decide (0 < kz) = b := by rw [hkz]; exact hkb
      have hne : (b != b) = false := by simp
      have hmz := HSA.out.only.size
      clear hcell hsW hf hm hr hnx hkb hcw hkz HN hx hq hT hb
      go_wp2_with (first
        | (go_at_call 13; refine (HNx.out _).mono ?_; rintro e w2 ⟨rfl, ho2⟩)
        | ((with_reducible show wpList _ _ _ (⟨none, .store 42 _ _, _, _, _, _⟩ :: _) _ _); refine step_store rfl 42 _ _ rfl w2.heap.size rfl cw rfl _ (rkCells Tk.none) (Blk.new _ _ _) (by rw [HWl.out]; exact size_rtok) HWl.out.symm HWo.out ?_; intro w3 hB3 hz3 ho3; have hO3 : Hid (Only (fun i => wr.heap.size ≤ i) wr w3) := ((((Only.refl (fun i => wr.heap.size ≤ i) wr).trans ho2 (fun _ h => h.elim)).alloc _).trans ho3 (fun i hi => .inl (by have := ho2.size; omega))); have c3 := hO3.out.cellv c0 (by rw [block_add]; show ¬ wr.heap.size ≤ ad.block; have := HAd.out; omega))
        | (go_at_call 14; refine (HFeed.out w3 (HSA.out.ms.only hO3.out (by have := HSA.out.ms.lt; omega)) (Nat.le_trans hmz hO3.out.size)).mono ?_; rintro e w4 ⟨cs, rfl, hcl, hco, hcx, hm4, ho4⟩)
        | ((with_reducible show wpList _ _ _ (⟨none, .store 35 _ _, _, _, _, _⟩ :: _) _ _); refine step_store rfl 35 _ _ rfl w4.heap.size rfl cs rfl _ (tkCells Tk.none (.slice none 0 0)) (Blk.new _ _ _) (by rw [hcl.out]; exact size_tok) hcl.out.symm hco.out ?_; intro w5 hB5 hz5 ho5))
      obtain ⟨z, hzc, hzt, hzb⟩ := hcx.out
      obtain ⟨⟨tk, tc, to_, tb, tcut⟩, zad, zcap⟩ := z
      simp only at hzt
      subst hzt
      obtain ⟨tn, htn⟩ : ∃ tn, tn = tb.length := ⟨_, rfl⟩
      have hO45 : Only (fun i => w4.heap.size ≤ i) w4 w5 := ((Only.refl (fun i => w4.heap.size ≤ i) w4).alloc _).trans ho5 (fun i hi => .inl (by omega))
      have hpl := hm4.out.lt
      have hB3' : Blk w5 w2.heap.size 42 cw := (hB3.out.only ho4.out (by have := HSA.out.ms.lt; have := ho2.size; omega)).only hO45 (by have := hB3.out.lt; have := ho4.out.size; omega)
      have hm5 : IsMs w5 p m' := hm4.out.only hO45 (by omega)
      have hO5 : Only (fun i => i = p) W0 w5 := ((HSA.out.only.trans hO3.out (fun i hi => .inr (by omega))).trans ho4.out (fun i hi => .inl hi)).trans hO45 (fun i hi => .inr (by have := hO3.out.size; have := ho4.out.size; omega))
      have hQ : (w5.drew.cell? ⟨w4.heap.size, 0, none⟩ = some (.int .i64 tk) ∧ w5.drew.cell? ⟨w4.heap.size, 1, none⟩ = some (.int .i64 tc) ∧ w5.drew.cell? ⟨w4.heap.size, 2, none⟩ = some (.int .i64 to_) ∧ w5.drew.cell? ⟨w4.heap.size, 3, none⟩ = some (.slice zad tn zcap) ∧ w5.drew.cell? ⟨w4.heap.size, 4, none⟩ = some (.bool tcut)) ∧ w5.drew.cell? ⟨w2.heap.size, 0, none⟩ = some (.int .i64 tk) ∧ w5.drew.cell? ⟨w2.heap.size, 1, none⟩ = some (.int .i64 tc) ∧ w5.drew.cell? ⟨w2.heap.size, 2, none⟩ = some (.int .i64 to_) ∧ w5.drew.cell? ⟨w2.heap.size, 3, none⟩ = some (.string ⟨tb.toArray⟩) ∧ w5.drew.cell? ⟨w2.heap.size, 4, none⟩ = some (.bool tcut) := by
        have h1 := hB5.out
        have h2 := hB3'
        rw [hzc] at h1
        rw [HCW.out] at h2
        rw [htn]
        exact ⟨⟨by rw [Blk.cell h1.drew]; rfl, by rw [Blk.cell h1.drew]; rfl, by rw [Blk.cell h1.drew]; rfl, by rw [Blk.cell h1.drew]; rfl, by rw [Blk.cell h1.drew]; rfl⟩, by rw [Blk.cell h2.drew]; rfl, by rw [Blk.cell h2.drew]; rfl, by rw [Blk.cell h2.drew]; rfl, by rw [Blk.cell h2.drew]; rfl, by rw [Blk.cell h2.drew]; rfl⟩
      have HOf : Hid (Calls Try.prog 15 #[.agg #[.int .i64 tk, .int .i64 tc, .int .i64 to_, .slice zad tn zcap, .bool tcut]] w5.drew fun e w' => e = .returned (.agg #[.int .i64 tk, .int .i64 tc, .int .i64 to_, .string ⟨tb.toArray⟩, .bool tcut]) ∧ Only (fun _ => False) w5.drew w') := of_flat tk tc to_ tb tcut zad tn zcap htn (by
        rw [htn]
        have : Body w5.drew W0.heap.size (.slice zad tb.length zcap) tb := own_only hzb hO45.drew (fun k hk => by have := (hzb.lt k hk).2; omega)
        exact this.reads)
      have HId : Hid (∀ W, Only (fun _ => False) w5.drew W → Calls Try.prog 16 #[.pointer (some ⟨p, 0, none⟩)] W fun e w' => e = .returned (.bool b) ∧ w' = W) := fun W ho => by
        have := idle_any (w := W) (IsMs.only (w := w5.drew) (show IsMs w5.drew p m' from hm5) ho (fun h => h))
        rw [hst] at this
        exact this
      have heq : ∀ W, (Op.equalIn 10000 42 (.agg #[.int .i64 tk, .int .i64 tc, .int .i64 to_, .string ⟨tb.toArray⟩, .bool tcut]) (.agg #[.int .i64 tk, .int .i64 tc, .int .i64 to_, .string ⟨tb.toArray⟩, .bool tcut])).run Try.prog W = .ok true W := fun W => by
        have := eq_rtok W ⟨tk, tc, to_, tb, tcut⟩ ⟨tk, tc, to_, tb, tcut⟩
        rw [decide_eq_true rfl] at this
        exact this
      have hgr := guard_rtok
      have Q0 := Lib.hid hQ
      have HO5 := Lib.hid hO5
      have HM5 := Lib.hid hm5
      have HTN := Lib.hid htn
      have HP := Lib.hid hpd
      obtain ⟨gt, hgt⟩ : ∃ gt, gt = w4.heap.size := ⟨_, rfl⟩
      obtain ⟨gw, hgw'⟩ : ∃ gw, gw = w2.heap.size := ⟨_, rfl⟩
      rw [← hgt, ← hgw'] at Q0 ⊢
      clear hQ hO5 hm5 htn hpd hcx hB5 hB3 hB3' hzc hzb hcl hco hm4 ho4 hO45 hpl c3 c0 hO3 HFeed HNx hadd hcv hst hz3 hz5 ho3 ho5 ho2 hgt hgw' HF HCW HWl HWo
      go_region_held3 (fun W => (W.cell? ⟨gt, 0, none⟩ = some (.int .i64 tk) ∧ W.cell? ⟨gt, 1, none⟩ = some (.int .i64 tc) ∧ W.cell? ⟨gt, 2, none⟩ = some (.int .i64 to_) ∧ W.cell? ⟨gt, 3, none⟩ = some (.slice zad tn zcap) ∧ W.cell? ⟨gt, 4, none⟩ = some (.bool tcut)) ∧ W.cell? ⟨gw, 0, none⟩ = some (.int .i64 tk) ∧ W.cell? ⟨gw, 1, none⟩ = some (.int .i64 tc) ∧ W.cell? ⟨gw, 2, none⟩ = some (.int .i64 to_) ∧ W.cell? ⟨gw, 3, none⟩ = some (.string ⟨tb.toArray⟩) ∧ W.cell? ⟨gw, 4, none⟩ = some (.bool tcut)) (first | exact Q0.out | exact Q6.out)
        (first
          | (go_at_call 15; (with_reducible refine HOf.out.mono ?_); rintro e w6 ⟨rfl, ho6⟩; have Q6 : Hid ((w6.cell? ⟨gt, 0, none⟩ = some (.int .i64 tk) ∧ w6.cell? ⟨gt, 1, none⟩ = some (.int .i64 tc) ∧ w6.cell? ⟨gt, 2, none⟩ = some (.int .i64 to_) ∧ w6.cell? ⟨gt, 3, none⟩ = some (.slice zad tn zcap) ∧ w6.cell? ⟨gt, 4, none⟩ = some (.bool tcut)) ∧ w6.cell? ⟨gw, 0, none⟩ = some (.int .i64 tk) ∧ w6.cell? ⟨gw, 1, none⟩ = some (.int .i64 tc) ∧ w6.cell? ⟨gw, 2, none⟩ = some (.int .i64 to_) ∧ w6.cell? ⟨gw, 3, none⟩ = some (.string ⟨tb.toArray⟩) ∧ w6.cell? ⟨gw, 4, none⟩ = some (.bool tcut)) := ⟨⟨ho6.cellv Q0.out.1.1 (fun h => h), ho6.cellv Q0.out.1.2.1 (fun h => h), ho6.cellv Q0.out.1.2.2.1 (fun h => h), ho6.cellv Q0.out.1.2.2.2.1 (fun h => h), ho6.cellv Q0.out.1.2.2.2.2 (fun h => h)⟩, ho6.cellv Q0.out.2.1 (fun h => h), ho6.cellv Q0.out.2.2.1 (fun h => h), ho6.cellv Q0.out.2.2.2.1 (fun h => h), ho6.cellv Q0.out.2.2.2.2.1 (fun h => h), ho6.cellv Q0.out.2.2.2.2.2 (fun h => h)⟩; have HO6 := Lib.hid ho6; clear ho6)
          | (go_at_call 16; (with_reducible refine (HId.out _ HO6.out).mono ?_); rintro e w7 ⟨rfl, rfl⟩))
      have HSA' : Hid (SAt W0 p w7 (if b then [] else q) m') := ⟨HO5.out.drew.trans HO6.out (fun _ h => h.elim), IsMs.only (w := w5.drew) (show IsMs w5.drew p m' from HM5.out) HO6.out (fun h => h), by rw [HQ.out]; exact HP.out⟩
      clear Q0 Q6 HOf HId heq hgr HO5 HM5 HP HSA
      cases b with
      | true =>
        go_wp2
        go_roundw
        case rel => exact ⟨k + 1, [], by omega, by go_num, rfl, by simp, m', HSA'.out⟩
        case measure => simp [intOf]; omega
      | false =>
        go_wp2
        go_roundw
        case rel => exact ⟨k + 1, q, by omega, by go_num, rfl, by rw [HQ.out]; simp; omega, m', HSA'.out⟩
        case measure => simp [intOf]; omega
    · obtain rfl : k = n := by omega
      obtain ⟨m, hm⟩ := hr.out
      have hO1 : Only (fun _ => False) w wr := HO'.out.trans hm.only (fun i hi => .inr (by omega))
      have hb1 := HB1'.out.only hm.only (by omega)
      have hb2 := HB2'.out.only hm.only (by omega)
      have c0 := hb1.cell 0
      simp only [List.getElem?_cons_zero] at c0
      have HB1 := Lib.hid hb1
      have HB2 := Lib.hid hb2
      have HO1 := Lib.hid hO1
      clear hr hm hO1 hb1 hb2 HB1' HB2' HO'
      have HW : ∃ wd : List UInt8, wd = wordOf xk := ⟨_, rfl⟩
      obtain ⟨wd, hwd⟩ := HW
      by_cases hin : 1 ≤ xk ∧ xk ≤ 5
      focus
        have e1 : decide ((1 : Int) ≤ xk) = true := by simpa using hin.1
        have e2 : decide (xk ≤ (5 : Int)) = true := by simpa using hin.2
        obtain ⟨j, hj⟩ : ∃ j : Nat, xk - 1 = (j : Int) := ⟨(xk - 1).toNat, by omega⟩
        have hj5 : j < 5 := by omega
        have hjz : (j : Int) < 5 := by omega
        have hw : wrap64 (xk - 1) = (j : Int) := by rw [hj]; exact wrap64_nat _ (by omega)
        have hal : Only (fun _ => False) wr (wr.alloc (.cells #[.string ⟨#[100, 97, 116, 97]⟩, .string ⟨#[112, 108, 97, 105, 110]⟩, .string ⟨#[118, 101, 114, 98]⟩, .string ⟨#[115, 117, 98]⟩, .string ⟨#[98, 97, 100]⟩] 9)) := (Only.refl _ wr).alloc _
        have c1 : (wr.alloc (.cells #[.string ⟨#[100, 97, 116, 97]⟩, .string ⟨#[112, 108, 97, 105, 110]⟩, .string ⟨#[118, 101, 114, 98]⟩, .string ⟨#[115, 117, 98]⟩, .string ⟨#[98, 97, 100]⟩] 9)).cell? ⟨wr.heap.size, j, none⟩ = some (.string ⟨wd.toArray⟩) := by
          rw [(Blk.new wr 9 [.string ⟨#[100, 97, 116, 97]⟩, .string ⟨#[112, 108, 97, 105, 110]⟩, .string ⟨#[118, 101, 114, 98]⟩, .string ⟨#[115, 117, 98]⟩, .string ⟨#[98, 97, 100]⟩]).cell, hwd]
          have hc : (j = 0 ∧ xk = 1) ∨ (j = 1 ∧ xk = 2) ∨ (j = 2 ∧ xk = 3) ∨ (j = 3 ∧ xk = 4) ∨ (j = 4 ∧ xk = 5) := by omega
          rcases hc with ⟨rfl, rfl⟩ | ⟨rfl, rfl⟩ | ⟨rfl, rfl⟩ | ⟨rfl, rfl⟩ | ⟨rfl, rfl⟩ <;> rfl
        have c2 := hal.cellv c0 (fun h => h)
        have HWD := Lib.hid hwd
        have HAL := Lib.hid hal
        clear hin hj hwd hal
        go_wp2_with fail
        clear c0 c1 c2 e1 e2 hj5 hjz hw
        have HWord : Hid (∀ W, Calls Try.prog 18 #[.int .i64 xk] W fun e w' => e = .returned (.string ⟨wd.toArray⟩) ∧ w' = W) := fun W => by
          rw [HWD.out]
          exact word_any W xk
        have hww : (wd == wd) = true := by simp
        have HB1c := Lib.hid (HB1.out.only HAL.out (fun h => h))
        have HB2c := Lib.hid (HB2.out.only HAL.out (fun h => h))
        have HO1c := Lib.hid (HO1.out.trans HAL.out (fun _ h => h.elim))
        clear HB1 HB2 HO1 HAL HWD
        generalize wr.alloc (.cells #[.string ⟨#[100, 97, 116, 97]⟩, .string ⟨#[112, 108, 97, 105, 110]⟩, .string ⟨#[118, 101, 114, 98]⟩, .string ⟨#[115, 117, 98]⟩, .string ⟨#[98, 97, 100]⟩] 9) = Wc at *
      rotate_left
      focus
        have HWD := Lib.hid hwd
        have HAL : Hid (Only (fun _ => False) wr wr) := Only.refl _ _
        have ewd : wd = [] := by rw [hwd]; unfold wordOf; rw [if_neg (by omega), if_neg (by omega), if_neg (by omega), if_neg (by omega), if_neg (by omega)]
        subst ewd
        clear hwd
        have HWord : Hid (∀ W, Calls Try.prog 18 #[.int .i64 xk] W fun e w' => e = .returned (.string ⟨#[]⟩) ∧ w' = W) := fun W => by
          have := word_any W xk
          rw [← HWD.out] at this
          exact this
        have hww : True := trivial
        have HB1c := HB1
        have HB2c := HB2
        have HO1c := HO1
        clear HB1 HB2 HO1 HAL
        by_cases h1 : 1 ≤ xk
        focus
          have e1 : decide ((1 : Int) ≤ xk) = true := by simpa using h1
          have e2 : decide (xk ≤ (5 : Int)) = false := by simp; omega
          clear hin h1
          go_wp2_with fail
          clear c0 e1 e2 HWD
          generalize wr = Wc at *
        rotate_left
        focus
          have e1 : decide ((1 : Int) ≤ xk) = false := by simpa using h1
          clear hin h1
          go_wp2_with fail
          clear c0 e1 HWD
          generalize wr = Wc at *
      all_goals
        obtain ⟨D, hD⟩ : ∃ D, D = decide ((⟨xk, xc, xo, xb, xt⟩ : Tk) = ⟨yk, yc, yo, yb, yt⟩) := ⟨_, rfl⟩
        have hrx : ∀ W, Only (fun _ => False) Wc.drew W → Reads W (.slice xA xn xcap) xb := fun W ho => (HX.out.same HO1c.out.drew).same ho
        have hry : ∀ W, Only (fun _ => False) Wc.drew W → Reads W (.slice yA yn ycap) yb := fun W ho => (HY.out.same HO1c.out.drew).same ho
        have hln : ∀ {A : Option Addr} {n c : Nat} {b : List UInt8} {W : World}, Reads W (.slice A n c) b → n = b.length := fun h => by
          obtain ⟨A', c', e, _⟩ := h
          injection e
        have HSame : Hid (∀ W, Only (fun _ => False) Wc.drew W → Calls Try.prog 17 #[.agg #[.int .i64 xk, .int .i64 xc, .int .i64 xo, .slice xA xn xcap, .bool xt], .agg #[.int .i64 yk, .int .i64 yc, .int .i64 yo, .slice yA yn ycap, .bool yt]] W fun e w' => e = .returned (.bool D) ∧ Only (fun _ => False) Wc.drew w') := fun W ho => by
          have e1 := hln (hrx W ho)
          have e2 := hln (hry W ho)
          have r1 := hrx W ho
          have r2 := hry W ho
          rw [e1] at r1 ⊢
          rw [e2] at r2 ⊢
          refine (same_any ⟨xk, xc, xo, xb, xt⟩ ⟨yk, yc, yo, yb, yt⟩ _ _ r1 r2).mono ?_
          rintro e w' ⟨rfl, ho'⟩
          exact ⟨by rw [hD], ho.trans ho' (fun _ h => h.elim)⟩
        have HOfX : Hid (∀ W, Only (fun _ => False) Wc.drew W → Calls Try.prog 15 #[.agg #[.int .i64 xk, .int .i64 xc, .int .i64 xo, .slice xA xn xcap, .bool xt]] W fun e w' => e = .returned (.agg #[.int .i64 xk, .int .i64 xc, .int .i64 xo, .string ⟨xb.toArray⟩, .bool xt]) ∧ Only (fun _ => False) Wc.drew w') := fun W ho => by
          refine (of_flat xk xc xo xb xt xA xn xcap (hln (hrx W ho)) (hrx W ho)).mono ?_
          rintro e w' ⟨rfl, ho'⟩
          exact ⟨rfl, ho.trans ho' (fun _ h => h.elim)⟩
        have HOfY : Hid (∀ W, Only (fun _ => False) Wc.drew W → Calls Try.prog 15 #[.agg #[.int .i64 yk, .int .i64 yc, .int .i64 yo, .slice yA yn ycap, .bool yt]] W fun e w' => e = .returned (.agg #[.int .i64 yk, .int .i64 yc, .int .i64 yo, .string ⟨yb.toArray⟩, .bool yt]) ∧ Only (fun _ => False) Wc.drew w') := fun W ho => by
          refine (of_flat yk yc yo yb yt yA yn ycap (hln (hry W ho)) (hry W ho)).mono ?_
          rintro e w' ⟨rfl, ho'⟩
          exact ⟨rfl, ho.trans ho' (fun _ h => h.elim)⟩
        have heq : ∀ W, (Op.equalIn 10000 42 (.agg #[.int .i64 xk, .int .i64 xc, .int .i64 xo, .string ⟨xb.toArray⟩, .bool xt]) (.agg #[.int .i64 yk, .int .i64 yc, .int .i64 yo, .string ⟨yb.toArray⟩, .bool yt])).run Try.prog W = .ok D W := fun W => by
          have := eq_rtok W ⟨xk, xc, xo, xb, xt⟩ ⟨yk, yc, yo, yb, yt⟩
          rw [← hD] at this
          exact this
        have hgr := guard_rtok
        have hDD : (D == D) = true := by simp
        have HAll : Hid (∀ W, Only (fun _ => False) Wc.drew W → (W.cell? ⟨g, 0, none⟩ = some (.int .i64 xk) ∧ W.cell? ⟨g, 1, none⟩ = some (.int .i64 xc) ∧ W.cell? ⟨g, 2, none⟩ = some (.int .i64 xo) ∧ W.cell? ⟨g, 3, none⟩ = some (.slice xA xn xcap) ∧ W.cell? ⟨g, 4, none⟩ = some (.bool xt)) ∧ W.cell? ⟨g + 1, 0, none⟩ = some (.int .i64 yk) ∧ W.cell? ⟨g + 1, 1, none⟩ = some (.int .i64 yc) ∧ W.cell? ⟨g + 1, 2, none⟩ = some (.int .i64 yo) ∧ W.cell? ⟨g + 1, 3, none⟩ = some (.slice yA yn ycap) ∧ W.cell? ⟨g + 1, 4, none⟩ = some (.bool yt)) := fun W ho => by
          have h1 := Blk.only (w := Wc.drew) HB1c.out.drew ho (fun h => h)
          have h2 := Blk.only (w := Wc.drew) HB2c.out.drew ho (fun h => h)
          exact ⟨⟨by rw [h1.cell]; rfl, by rw [h1.cell]; rfl, by rw [h1.cell]; rfl, by rw [h1.cell]; rfl, by rw [h1.cell]; rfl⟩, by rw [h2.cell]; rfl, by rw [h2.cell]; rfl, by rw [h2.cell]; rfl, by rw [h2.cell]; rfl, by rw [h2.cell]; rfl⟩
        have ho5 : Only (fun _ => False) Wc.drew Wc.drew := Only.refl _ _
        clear hD hrx hry hln HB1c HB2c
        go_region_held3 (fun W => (W.cell? ⟨g, 0, none⟩ = some (.int .i64 xk) ∧ W.cell? ⟨g, 1, none⟩ = some (.int .i64 xc) ∧ W.cell? ⟨g, 2, none⟩ = some (.int .i64 xo) ∧ W.cell? ⟨g, 3, none⟩ = some (.slice xA xn xcap) ∧ W.cell? ⟨g, 4, none⟩ = some (.bool xt)) ∧ W.cell? ⟨g + 1, 0, none⟩ = some (.int .i64 yk) ∧ W.cell? ⟨g + 1, 1, none⟩ = some (.int .i64 yc) ∧ W.cell? ⟨g + 1, 2, none⟩ = some (.int .i64 yo) ∧ W.cell? ⟨g + 1, 3, none⟩ = some (.slice yA yn ycap) ∧ W.cell? ⟨g + 1, 4, none⟩ = some (.bool yt)) (exact HAll.out _ (by assumption))
          (first
            | (go_at_call 17; (with_reducible refine (HSame.out _ (by assumption)).mono ?_); rintro e w6 ⟨rfl, ho6⟩)
            | (go_at_call 15; (with_reducible refine (HOfX.out _ (by assumption)).mono ?_); rintro e w7 ⟨rfl, ho7⟩)
            | (go_at_call 15; (with_reducible refine (HOfY.out _ (by assumption)).mono ?_); rintro e w8 ⟨rfl, ho8⟩)
            | (go_at_call 18; (with_reducible refine (HWord.out _).mono ?_); rintro e w9 ⟨rfl, rfl⟩))
        go_wp2
        go_ret
        exact ⟨rfl, HO1c.out.drew.trans ho8 (fun _ h => h.elim)⟩
end Go.Proofs.Ytpkmndhefadopaa
