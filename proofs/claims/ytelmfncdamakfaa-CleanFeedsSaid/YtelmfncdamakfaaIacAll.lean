/- Package iac: All. -/
import Derived.Test.YtelmfncdamakfaaToks
namespace Go.Proofs.Ytelmfncdamakfaa
open Go Go.RowKit
set_option maxRecDepth 100000
set_option maxHeartbeats 4000000

def srcLen : Value → Nat
  | .slice _ n _ => n
  | _ => 0

/-- Where All stands at its label: what is left, the machine, the tokens that were told. -/
structure AllAt (w : World) (xs : List UInt8) (W : World) (A : Option Addr) (n c : Nat) (V : Value) (ys : List UInt8) (m : Ms) (ps : List TkP) : Prop where
  src : Src W A n ys
  le : n ≤ c
  top : c ≤ 9223372036854775807
  old : 0 < n → ∀ ad, A = some ad → ad.block < w.heap.size
  ms : IsMs W w.heap.size m
  toks : Toks W w.heap.size V ps
  only : Only (fun _ => False) w W
  told : ps.map TkP.t ++ (feeds m ys).1 = (feeds .zero xs).1
  ends : (feeds m ys).2 = (feeds .zero xs).2
  few : ps.length + n ≤ xs.length

section
variable {w : World} {xs : List UInt8} {W w1 w2 : World} {ad : Addr} {k c : Nat} {V V' : Value} {y : UInt8} {ys : List UInt8} {m m' : Ms} {ps ps' : List TkP}
/-- A byte behind. -/
theorem AllAt.go (h : AllAt w xs W (some ad) (k + 1) c V (y :: ys) m ps) (hm : IsMs w2 w.heap.size m') (hf : (feed m y).1 = m') (ht : Toks w2 w.heap.size V' ps') (hp : ps'.map TkP.t = ps.map TkP.t ++ (feed m y).2.toList) (ho1 : Only (· = w.heap.size) W w1) (ho2 : Only (fun i => w.heap.size ≤ i) w1 w2) (hpl : ps'.length ≤ ps.length + 1) (c' : Nat) (hkc : k ≤ c') (hc63 : c' ≤ 9223372036854775807)
    (D : Option Addr) (hD : 1 < k + 1 → D = some (ad.add 1)) : AllAt w xs w2 D k c' V' ys m' ps' := by
  have ho : Only (fun i => w.heap.size ≤ i) W w2 := (ho1.mono (fun i hi => .inl (by omega))).trans ho2 (fun i hi => .inl hi)
  have hadl := h.src.lt (by omega) ad rfl
  have hold := h.old (by omega) ad rfl
  have h1 := h.src.tail D (fun _ ad' he => by injection he with he; subst he; exact hD (by assumption))
  refine ⟨h1.only ho (fun hn ad' he hs => ?_), hkc, hc63, fun hn ad' he => ?_, hm, ht, h.only.trans ho (fun i hi => .inr hi), ?_, ?_, ?_⟩
  · rw [hD (by omega)] at he
    injection he with he
    subst he
    rw [block_add] at hs
    omega
  · rw [hD (by omega)] at he
    injection he with he
    subst he
    rw [block_add]
    exact hold
  · rw [hp, List.append_assoc, ← h.told, ← hf]
    rfl
  · rw [← h.ends, ← hf]
    rfl
  · have := h.few
    omega
end

def AllJ (w : World) (xs : List UInt8) (a : Act) (W : World) : Prop :=
  ∃ (A : Option Addr) (n c : Nat) (V : Value) (ys : List UInt8) (m : Ms) (ps : List TkP) (u6 u7 u8 u9 u10 u11 u12 u13 u14 u15 u16 u17 u18 u19 u20 u21 u22 u23 u24 u25 u26 : Value),
    a = { tmps := #[.slice A n c, undef, .slice none 0 0, .bool false, .pointer (some ⟨w.heap.size, 0, none⟩), V, u6, u7, u8, u9, u10, u11, u12, u13, u14, u15, u16, u17, u18, u19, u20, u21, u22, u23, u24, u25, u26], defers := [] } ∧ AllAt w xs W A n c V ys m ps

theorem all_any {w : World} {A : Option Addr} {n c : Nat} {xs : List UInt8} (hs : Src w A n xs) (hnc : n ≤ c) (hc63 : c ≤ 9223372036854775807) (hn : n ≤ 1048576) :
    Calls Try.prog 18 #[.slice A n c] w fun e w' =>
      ∃ v ps, e = .returned (.tuple #[v, .bool (decide ((feeds .zero xs).2.st = 0))]) ∧ Toks w' w.heap.size v ps ∧ ps.map TkP.t = (feeds .zero xs).1 ∧ Only (fun _ => False) w w' := by
  have h0 : AllAt w xs (w.alloc (.cells (msCells Ms.zero (zeros 256)).toArray 46)) A n c (.slice none 0 0) xs .zero [] :=
    ⟨hs.only ((Only.refl (fun _ => False) w).alloc _) (fun _ _ _ h => h), hnc, hc63, hs.lt, ⟨Ms.zero_ok, zeros 256, Blk.new _ _ _, rfl, fun v hv => by rw [List.eq_of_mem_replicate hv]; rfl⟩, Toks.nil _ _, (Only.refl _ _).alloc _, rfl, rfl, by rw [hs.1]; simp⟩
  have H0 := Lib.hid h0
  have HL := Lib.hid hs.1
  obtain ⟨i0, hi0, iz0, iz1, iz2⟩ := info_parts info_tok
  have HI := Lib.hid hi0
  clear hi0
  clear h0 hs hnc hc63
  go_enter Try.func18, Try.ntmps18
  go_wp2_with fail
  refine wp_scope_back 0 (AllJ w xs) (fun a _ => srcLen (a.tmps.getD 0 undef)) rfl ?_ ?_
  · intro hfirst
    go_wp2_with (first
      | ((with_reducible show wpList _ _ _ (⟨some 4, _, _, _, _, _⟩ :: _) _ _); refine step_alloc rfl 46 rfl (msCells Ms.zero (zeros 256)) 261 info_machine ?_))
    go_step3
    rename_i _ K hK
    exact hK _ _ (hfirst _ _ ⟨A, n, c, _, xs, .zero, [], _, _, _, _, _, _, _, _, _, _, _, _, _, _, _, _, _, _, _, _, _, rfl, H0.out⟩)
  · clear H0
    rintro a W ⟨A, n, c, V, ys, m, ps, u6, u7, u8, u9, u10, u11, u12, u13, u14, u15, u16, u17, u18, u19, u20, u21, u22, u23, u24, u25, u26, rfl, h⟩
    have HH := Lib.hid h
    clear h
    cases ys with
    | nil =>
      obtain rfl : n = 0 := by have := HH.out.src.1; simpa using this.symm
      go_wp2_with (go_at_call 29; refine (idle_any HH.out.ms).mono ?_; rintro e w' ⟨rfl, rfl⟩)
      simp only [Exit.jump]
      go_ret2
      have he := HH.out.ends
      have ht := HH.out.told
      simp only [feeds, List.append_nil] at he ht
      exact ⟨V, ps, by rw [he]; rfl, HH.out.toks, ht, HH.out.only⟩
    | cons y ys =>
      obtain ⟨k, hk⟩ : ∃ k, n = k + 1 := ⟨n - 1, by have := HH.out.src.1; simp at this; omega⟩
      subst hk
      obtain ⟨ad, rfl, hcell⟩ := HH.out.src.2 (by omega)
      have hc0 := hcell 0 y rfl
      unfold B8 at hc0
      rw [show ad.add 0 = ad from by simp [Addr.add]] at hc0
      obtain ⟨m', o, hfe⟩ : ∃ m' o, feed m y = (m', o) := ⟨_, _, rfl⟩
      have C := feed_cs HH.out.ms y w.heap.size HH.out.only.size
      rw [hfe] at C
      have HC := Lib.hid C
      have HF := Lib.hid hfe
      have hle := HH.out.le
      have htop := HH.out.top
      have HP := Lib.hid (HH.out.ms.lt)
      clear hcell C hfe
      have hD1 : 1 < k + 1 → some (⟨ad.block, ad.off + 1, none⟩ : Addr) = some (ad.add 1) := fun _ => by simp [Addr.add]
      have HD1 := Lib.hid hD1
      clear hD1
      cases o with
      | none =>
        go_wp2_with (first
          | (go_at_call 27; refine HC.out.mono ?_; rintro e w1 ⟨cs, rfl, hcl, hco, hcx, hm1, ho1⟩)
          | ((with_reducible show wpList _ _ _ (⟨none, .store 52 _ _, _, _, _, _⟩ :: _) _ _); refine step_store rfl 52 _ _ rfl w1.heap.size rfl cs rfl _ (tkCells Tk.none (.slice none 0 0)) (Blk.new _ _ _) (by rw [hcl.out]; exact size_tok) hcl.out.symm hco.out ?_; intro w2 hB2 hz2 ho2))
        all_goals
          have ho2' : Only (fun i => w1.heap.size ≤ i) w1 w2 := ((Only.refl (fun i => w1.heap.size ≤ i) w1).alloc _).trans ho2 (fun i hi => .inl (by omega))
          have hms : IsMs w2 w.heap.size m' := hm1.out.only ho2' (by have := HP.out; have := ho1.out.size; omega)
          have htk : Toks w2 w.heap.size V ps := (HH.out.toks.ms ho1.out HH.out.ms).only ho2' (fun q hq => by have := ((HH.out.toks.ms ho1.out HH.out.ms).row.lt q hq).2; omega) (fun x hx q hq => by have := (((HH.out.toks.ms ho1.out HH.out.ms).bodies x hx).lt q hq).2; omega)
          go_step3
          refine ⟨rfl, ⟨_, _, _, _, ys, m', ps, _, _, _, _, _, _, _, _, _, _, _, _, _, _, _, _, _, _, _, _, _, rfl, HH.out.go hms (by rw [HF.out]) htk (by rw [HF.out]; simp) ho1.out (ho2'.mono (fun i hi => .inr hi)) (by omega) _ (by omega) (by omega) _ ?_⟩, ?_⟩
          · first | exact HD1.out | (intro h; omega)
          · simp [srcLen]
      | some t =>
        have HT1 : ∀ w1, Only (· = w.heap.size) W w1 → Toks w1 w.heap.size V ps := fun w1 ho => HH.out.toks.ms ho HH.out.ms
        have HFew : Hid (ps.length + 1 ≤ 1048576) := by have := HH.out.few; have := hn; have := HL.out; show ps.length + 1 ≤ 1048576; omega
        go_wp2_with (first
          | (go_at_call 27; refine HC.out.mono ?_; rintro e w1 ⟨cs, rfl, hcl, hco, hcx, hm1, ho1⟩)
          | ((with_reducible show wpList _ _ _ (⟨none, .store 52 _ _, _, _, _, _⟩ :: _) _ _); refine step_store rfl 52 _ _ rfl w1.heap.size rfl cs rfl _ (tkCells Tk.none (.slice none 0 0)) (Blk.new _ _ _) (by rw [hcl.out]; exact size_tok) hcl.out.symm hco.out ?_; intro w2 hB2 hz2 ho2; have ho2' : Hid (Only (fun i => w1.heap.size ≤ i) w1 w2) := ((Only.refl (fun i => w1.heap.size ≤ i) w1).alloc _).trans ho2 (fun i hi => .inl (by omega)); have htk : Hid (Toks w2 w.heap.size V ps) := (HT1 w1 ho1.out).only ho2'.out (fun q hq => by have := ((HT1 w1 ho1.out).row.lt q hq).2; omega) (fun x hx q hq => by have := (((HT1 w1 ho1.out).bodies x hx).lt q hq).2; omega))
          | ((with_reducible show wpList _ _ _ (⟨some 22, _, _, _, _, _⟩ :: _) _ _); refine wpList_load_mid rfl 52 (.tmp 6) rfl w1.heap.size 0 rfl cs _ (range_of hB2.out) Try.underlying52 rfl (by rw [hcl.out]; exact size_tok) ?_)
          | ((with_reducible show wpList _ _ _ (⟨some 23, _, _, _, _, _⟩ :: _) _ _); refine step_token rfl (.tmp 22) rfl cs rfl hcl.out ?_)
          | (at_builtin; refine step_append_own rfl (.tmp 21) (.tmp 23) 33 rfl w.heap.size 52 i0 _ 5 56 Try.underlying33 HI.out iz0 iz1 iz2 rfl (by omega) V ps.length (flatTk ps) rfl (htk.out.same ((Only.refl _ w2).alloc _)).row (some ⟨w2.heap.size, 0, none⟩) 1 1 cs rfl hcl.out (fun _ => ⟨_, rfl, fun j u hj => by rw [at_add, (Blk.new w2 52 cs).cell]; exact hj⟩) hco.out (by have := HFew.out; omega) (by have := HFew.out; omega) (by have := HH.out.only.size; have := ho1.out.size; have := ho2'.out.size; show _ ≤ (w2.alloc _).heap.size; simp; omega) ?_; intro A' c' w3 hnc' hc63' hq))
        all_goals
          obtain ⟨x, hxc, hxt, hxb⟩ := hcx.out
          have hp2 : w.heap.size < w1.heap.size := Nat.lt_of_lt_of_le HP.out ho1.out.size
          have hm2 : IsMs (w2.alloc (.cells cs.toArray 52)) w.heap.size m' := (hm1.out.only ho2'.out (by omega)).alloc _
          have hT2 := htk.out.same ((Only.refl _ w2).alloc (.cells cs.toArray 52))
          have hb2 : Body (w2.alloc (.cells cs.toArray 52)) w.heap.size x.val x.t.body := own_same (own_only hxb ho2'.out (fun q hq => by have := (hxb.lt q hq).2; omega)) ((Only.refl _ w2).alloc _)
          have hO3 : Only (fun i => V.ownBlock = some i) (w2.alloc (.cells cs.toArray 52)) w3 := Only.grown (Only.refl _ _) hq.out.2.1 (fun k hk => .inl hk)
          have hms : IsMs w3 w.heap.size m' := by
            obtain ⟨h1, junk, hbm, h3⟩ := hm2
            exact IsMs.only ⟨h1, junk, hbm, h3⟩ hO3 (fun hs => own_ne hT2.row hbm (by decide) _ hs rfl)
          have hT3 : Toks w3 w.heap.size (.slice A' (ps.length + 1) c') (ps ++ [x]) := hT2.more x hb2 (by rw [← hxc]; exact hq.out.1) hq.out.2.1
          have ho4 : Only (fun i => w.heap.size ≤ i) w1 w3 := ((ho2'.out.mono (fun i hi => .inr hi)).alloc _).trans hO3 (fun i hi => .inl (hT2.row.lt i hi).1)
          go_step3
          refine ⟨rfl, ⟨_, _, _, _, ys, m', ps ++ [x], _, _, _, _, _, _, _, _, _, _, _, _, _, _, _, _, _, _, _, _, _, rfl, HH.out.go hms (by rw [HF.out]) hT3 (by rw [HF.out, List.map_append, List.map_singleton, hxt]; rfl) ho1.out ho4 (by simp) _ (by omega) (by omega) _ ?_⟩, ?_⟩
          · first | exact HD1.out | (intro h; omega)
          · simp [srcLen]
end Go.Proofs.Ytelmfncdamakfaa
