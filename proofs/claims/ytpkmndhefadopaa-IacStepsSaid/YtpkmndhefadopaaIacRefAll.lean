/- The document's own tokens of all bytes. -/
import Derived.Test.YtpkmndhefadopaaIacRef
namespace Go.Proofs.Ytpkmndhefadopaa
open Go Go.RowKit
set_option maxRecDepth 100000
set_option maxHeartbeats 4000000

def flatR : List Tk → List Value
  | [] => []
  | t :: l => rkCells t ++ flatR l
theorem flatR_length (l : List Tk) : (flatR l).length = l.length * 5 := by
  induction l with
  | nil => rfl
  | cons x l ih => simp only [flatR, List.length_append, ih, List.length_cons, rkCells, List.length_nil]; omega
theorem flatR_append (l k : List Tk) : flatR (l ++ k) = flatR l ++ flatR k := by
  induction l with
  | nil => rfl
  | cons x l ih => simp [flatR, ih]
theorem flatR_get : ∀ {l : List Tk} {i : Nat} {x : Tk}, l[i]? = some x → ∀ (j : Nat) (v : Value), (rkCells x)[j]? = some v → (flatR l)[i * 5 + j]? = some v
  | y :: l, 0, x, h, j, v, hj => by
    simp only [List.getElem?_cons_zero, Option.some.injEq] at h
    subst h
    have hjl := (List.getElem?_eq_some_iff.1 hj).1
    rw [Nat.zero_mul, Nat.zero_add, flatR, List.getElem?_append_left hjl]
    exact hj
  | y :: l, i + 1, x, h, j, v, hj => by
    have := flatR_get (l := l) (i := i) (x := x) (by simpa using h) j v hj
    have e : (rkCells y).length = 5 := rfl
    rw [flatR, List.getElem?_append_right (by rw [e]; omega), e, show (i + 1) * 5 + j - 5 = i * 5 + j from by omega]
    exact this
def RRow (w : World) (B : Nat) (v : Value) (ts : List Tk) : Prop := w.ownsRow B 42 5 v ts.length (flatR ts)
theorem info_rtok : (Try.prog.info? 42).map (fun i => (i.zero, i.size, i.bytes)) = some (some (.agg #[.int .i64 0, .int .i64 0, .int .i64 0, .string ⟨#[]⟩, .bool false]), 5, 48) := by kernel_rfl
/-- []Token{x} -/
theorem step_rtoken {ops : Array Oper} {rest : List Oper} {o : Oper} {a : Act} {w : World} {Q : Exit → Act → World → Prop} (hgd : o.guard = none) (x : Operand) (ho : o.op = .buildSlice 28 1 #[(0, x)]) (cs : List Value) (hx : a.eval x = .agg cs.toArray) (hl : cs.length = 5)
    (h : wpList Try.prog ops Q rest (a.put o.dst (.slice (some ⟨w.heap.size, 0, none⟩) 1 1)) (w.alloc (.cells cs.toArray 42))) : wpList Try.prog ops Q (o :: rest) a w := by
  obtain ⟨i, hi, hz, h1, h2⟩ := info_parts info_rtok
  refine wpList_buildSlice hgd 28 42 1 #[(0, x)] ho cs.toArray i _ Try.underlying28 hi hz (by rw [h1]; decide) (by rw [h1]; decide) ?_ h
  rw [h1]
  have := fill_tok [.int .i64 0, .int .i64 0, .int .i64 0, .string ⟨#[]⟩, .bool false] rfl cs hl
  simpa [hx, Value.cells] using this

def strLen : Value → Nat
  | .string b => b.size
  | _ => 0
/-- Where the document's All stands. -/
structure RAt (w : World) (s : List UInt8) (W : World) (ov : Value) (t : List UInt8) (ts : List Tk) : Prop where
  row : RRow W w.heap.size ov ts
  told : ts ++ (feeds .zero t).1 = (feeds .zero s).1
  ends : (feeds .zero t).2 = (feeds .zero s).2
  few : ts.length + t.length ≤ s.length
  only : Only (fun _ => False) w W

theorem refAll_any (w : World) (s : List UInt8) (hlen : s.length ≤ 100000) :
    Calls Try.prog 10 #[.string ⟨s.toArray⟩] w fun e w' => ∃ A c r, e = .returned (.tuple #[.slice A (feeds .zero s).1.length c, .string ⟨r.toArray⟩]) ∧ (feeds .zero s).1.length ≤ c ∧ c ≤ 9223372036854775807 ∧ Hid (RRow w' w.heap.size (.slice A (feeds .zero s).1.length c) (feeds .zero s).1) ∧ Hid ((feeds .zero s).2.st = 0 ↔ r = []) ∧ Hid (Only (fun _ => False) w w') := by
  obtain ⟨i0, hi0, iz0, iz1, iz2⟩ := info_parts info_rtok
  have HI := Lib.hid hi0
  have H0 : Hid (RAt w s (w.alloc (.cells #[] 42)) (.slice (some ⟨w.heap.size, 0, none⟩) 0 0) s []) :=
    ⟨own_of_blk (cur := []) (Blk.new w _ []) rfl rfl (Nat.le_refl _) (by omega) (Nat.le_refl _), rfl, rfl, by simp, (Only.refl _ _).alloc _⟩
  clear hi0
  go_enter Try.func10, Try.ntmps10
  go_wp2
  go_loopw [0, 4] (fun sv ov W => ∃ (t : List UInt8) (ts : List Tk), sv = .string ⟨t.toArray⟩ ∧ Hid (RAt w s W ov t ts)) (fun sv _ _ => strLen sv)
  case atStart => exact ⟨s, [], rfl, H0.out⟩
  case round =>
    clear H0
    obtain ⟨t, ts, rfl, hr⟩ := hrel
    have HN := Lib.hid (next_ref wr t (by have := hr.out.few; omega))
    cases ho : next t with
    | none =>
      rw [ho] at HN
      have hz : ((tokN (none : Option (Tk × Nat))).2 : Int) = 0 := rfl
      obtain ⟨cs, hcs⟩ : ∃ cs, cs = rkCells (tokN (none : Option (Tk × Nat))).1 := ⟨_, rfl⟩
      have HL : Hid (cs.length = 5) := by rw [hcs]; rfl
      have HO : Hid (∀ v ∈ cs, v.oneCell' = true) := by rw [hcs]; exact rk_one _
      unfold Nexts at HN
      rw [hz, ← hcs] at HN
      clear hz hcs
      go_wp2_with (first
        | (go_at_call 13; refine HN.out.mono ?_; rintro e w1 ⟨rfl, ho1⟩)
        | ((with_reducible show wpList _ _ _ (⟨none, .store 42 _ _, _, _, _, _⟩ :: _) _ _); refine step_store rfl 42 _ _ rfl w1.heap.size rfl cs rfl _ (rkCells Tk.none) (Blk.new _ _ _) (by rw [HL.out]; exact size_rtok) HL.out.symm HO.out ?_; intro w2 hB2 hz2 ho2; have hO2 : Hid (Only (fun _ => False) w w2) := ((hr.out.only.trans ho1 (fun _ h => h.elim)).alloc _).trans ho2 (fun i hi => .inr (by have := hr.out.only.size; have := ho1.size; omega)); have hR2 : Hid (RRow w2 w.heap.size u4 ts) := own_only (own_same hr.out.row (ho1.alloc _)) ho2 (fun k hk => by have := (hr.out.row.lt k hk).2; have := ho1.size; omega)))
      clear HN
      have hn := next_is_none ho
      have htl := hr.out.told
      have hen := hr.out.ends
      rw [hn.1, List.append_nil] at htl
      obtain ⟨A, c, rfl, h1, h2⟩ := own_form hr.out.row
      go_ret2
      subst htl
      exact ⟨A, c, t, rfl, h1, h2, hR2.out, by rw [← hen]; exact hn.2, hO2.out⟩
    | some x =>
      obtain ⟨tk, n⟩ := x
      rw [ho] at HN
      obtain ⟨hn0, hnl, hf1, hf2⟩ := next_is_some ho
      obtain ⟨cs, hcs⟩ : ∃ cs, cs = rkCells tk := ⟨_, rfl⟩
      have HL : Hid (cs.length = 5) := by rw [hcs]; rfl
      have HO : Hid (∀ v ∈ cs, v.oneCell' = true) := by rw [hcs]; exact rk_one _
      have HCS := Lib.hid hcs
      unfold Nexts at HN
      rw [show (tokN (some (tk, n))).1 = tk from rfl, show (tokN (some (tk, n))).2 = n from rfl, ← hcs] at HN
      have hb0 : ((n : Int) == 0) = false := beq_eq_false_iff_ne.2 (by omega)
      have HF1 := Lib.hid hf1
      have HF2 := Lib.hid hf2
      have HFew := Lib.hid hr.out.few
      clear hf1 hf2 hcs ho
      go_wp2_with (first
        | (go_at_call 13; refine HN.out.mono ?_; rintro e w1 ⟨rfl, ho1⟩)
        | ((with_reducible show wpList _ _ _ (⟨none, .store 42 _ _, _, _, _, _⟩ :: _) _ _); refine step_store rfl 42 _ _ rfl w1.heap.size rfl cs rfl _ (rkCells Tk.none) (Blk.new _ _ _) (by rw [HL.out]; exact size_rtok) HL.out.symm HO.out ?_; intro w2 hB2 hz2 ho2; have hO2 : Hid (Only (fun _ => False) w w2) := ((hr.out.only.trans ho1 (fun _ h => h.elim)).alloc _).trans ho2 (fun i hi => .inr (by have := hr.out.only.size; have := ho1.size; omega)); have hR2 : Hid (RRow w2 w.heap.size u4 ts) := own_only (own_same hr.out.row (ho1.alloc _)) ho2 (fun k hk => by have := (hr.out.row.lt k hk).2; have := ho1.size; omega))
        | ((with_reducible show wpList _ _ _ (⟨some 18, _, _, _, _, _⟩ :: _) _ _); refine wpList_load_mid rfl 42 (.tmp 5) rfl w1.heap.size 0 rfl cs _ (range_of hB2.out) Try.underlying42 rfl (by rw [HL.out]; exact size_rtok) ?_)
        | ((with_reducible show wpList _ _ _ (⟨some 19, _, _, _, _, _⟩ :: _) _ _); refine step_rtoken rfl (.tmp 18) rfl cs rfl HL.out ?_)
        | (at_builtin; refine step_append_own rfl (.tmp 17) (.tmp 19) 28 rfl w.heap.size 42 i0 _ 5 48 Try.underlying28 HI.out iz0 iz1 iz2 rfl (by omega) u4 ts.length (flatR ts) rfl (own_same hR2.out ((Only.refl _ w2).alloc _)) (some ⟨w2.heap.size, 0, none⟩) 1 1 cs rfl HL.out (fun _ => ⟨_, rfl, fun j u hj => by rw [at_add, (Blk.new w2 42 cs).cell]; exact hj⟩) HO.out (by have := HFew.out; omega) (by have := HFew.out; omega) (hO2.out.alloc _).size ?_; intro A' c' w3 hnc' hc63' hq))
      rw [str_cut, List.take_length]
      refine ⟨⟨t.drop n, ts ++ [tk], rfl, ?_, ?_, ?_, ?_, ?_⟩, ?_⟩
      · have := hq.out.1
        rw [HCS.out, show flatR ts ++ rkCells tk = flatR (ts ++ [tk]) by simp [flatR_append, flatR]] at this
        unfold RRow
        rw [List.length_append]
        exact this
      · rw [List.append_assoc, List.singleton_append, ← HF1.out]
        exact hr.out.told
      · rw [← HF2.out]
        exact hr.out.ends
      · have := HFew.out
        rw [List.length_append, List.length_singleton, List.length_drop]
        omega
      · exact (hO2.out.alloc _).grown hq.out.2.1 (fun k hk => .inr (hR2.out.lt k hk).1)
      · show (t.drop n).toArray.size < t.toArray.size
        simp
        omega
end Go.Proofs.Ytpkmndhefadopaa
