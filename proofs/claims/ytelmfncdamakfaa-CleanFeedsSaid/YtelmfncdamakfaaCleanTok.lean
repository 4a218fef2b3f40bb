/- The document's Tokens of layer 9: all tokens, and the place of each one's last byte; its Data. -/
import Derived.Test.YtelmfncdamakfaaIacRef
import Derived.Test.YtelmfncdamakfaaRTk
import Derived.Test.YtelmfncdamakfaaRow1
import Derived.Test.YtelmfncdamakfaaCleanDoc
namespace Go.Proofs.Ytelmfncdamakfaa
open Go Go.RowKit
set_option maxRecDepth 100000
set_option maxHeartbeats 4000000

def iv (z : Nat) : Value := .int .i64 (z : Int)
/-- A row of ints of the call's own. -/
def IRow (w : World) (B : Nat) (v : Value) (zs : List Nat) : Prop := w.ownsRow B 3 1 v zs.length (zs.map iv)
/-- Where Tokens stands. -/
structure TAt (w : World) (s : List UInt8) (W : World) (p : Nat) (ov ev : Value) (n : Nat) (ts : List (Tk × Nat)) : Prop where
  len : n = ts.length
  row : RRow W w.heap.size ov (ts.map Prod.fst)
  ends : IRow W w.heap.size ev (ts.map Prod.snd)
  few : ts.length ≤ p
  told : ts ++ ends9 .zero p (s.drop p) = ends9 .zero 0 s
  only : Only (fun _ => False) w W

theorem refTokens_any (w : World) (s : List UInt8) (hlen : s.length ≤ 100000) :
    Calls Try.prog 22 #[.string ⟨s.toArray⟩] w fun e w' => ∃ A c B d n, e = .returned (.tuple #[.slice A n c, .slice B n d]) ∧ Hid (n = (ends9 .zero 0 s).length) ∧ Hid (RRow w' w.heap.size (.slice A n c) ((ends9 .zero 0 s).map Prod.fst)) ∧ Hid (IRow w' w.heap.size (.slice B n d) ((ends9 .zero 0 s).map Prod.snd)) ∧ Hid (Only (fun _ => False) w w') := by
  obtain ⟨i0, hi0, iz0, iz1, iz2⟩ := info_parts info_rtok
  have HI := Lib.hid hi0
  have H0 : Hid (TAt w s ((w.alloc (.cells #[] 56)).alloc (.cells #[] 3)) 0 (.slice (some ⟨w.heap.size, 0, none⟩) 0 0) (.slice (some ⟨w.heap.size + 1, 0, none⟩) 0 0) 0 []) :=
    ⟨rfl, own_same (own_of_blk (cur := []) (Blk.new w _ []) rfl rfl (Nat.le_refl _) (by omega) (Nat.le_refl _)) ((Only.refl _ _).alloc _), own_of_blk (cur := []) (Blk.new' (n := w.heap.size + 1) (w.alloc (.cells #[] 56)) 3 [] (by simp)) rfl rfl (Nat.le_refl _) (by omega) (by omega), Nat.le_refl _, rfl, ((Only.refl _ _).alloc _).alloc _⟩
  clear hi0
  go_enter Try.func22, Try.ntmps22
  go_wp2
  go_loopw [4, 5, 6] (fun ov ev pv W => ∃ (p n : Nat) (A : Option Addr) (c : Nat) (B : Option Addr) (d : Nat), ov = .slice A n c ∧ ev = .slice B n d ∧ pv = .int .i64 (p : Int) ∧ p ≤ s.length ∧ n ≤ p ∧ Hid (∃ ts, TAt w s W p (.slice A n c) (.slice B n d) n ts)) (fun _ _ pv _ => s.length + 1 - (intOf pv).toNat)
  case atStart => exact ⟨0, 0, _, _, _, _, rfl, rfl, rfl, Nat.zero_le _, Nat.le_refl _, [], H0.out⟩
  case round =>
    clear H0
    obtain ⟨p, n, A, c, B, d, rfl, rfl, rfl, hp, hnp, hr⟩ := hrel
    obtain ⟨ts, hT⟩ := hr.out
    have HT := Lib.hid hT
    have HNx := next_ref wr (s.drop p) (by rw [List.length_drop]; omega)
    have hcut : (ByteArray.mk s.toArray).extract p s.length = ⟨(s.drop p).toArray⟩ := by rw [str_cut, List.take_length]
    clear hr hT
    cases ho : next (s.drop p) with
    | none =>
      rw [ho] at HNx
      obtain ⟨cs, hcs⟩ : ∃ cs, cs = rkCells (tokN (none : Option (Tk × Nat))).1 := ⟨_, rfl⟩
      have HL : Hid (cs.length = 5) := by rw [hcs]; rfl
      have HO : Hid (∀ v ∈ cs, v.oneCell' = true) := by rw [hcs]; exact rk_one _
      unfold Nexts at HNx
      rw [show ((tokN (none : Option (Tk × Nat))).2 : Int) = 0 from rfl, ← hcs] at HNx
      have HN := Lib.hid HNx
      have htold := HT.out.told
      rw [ends_none p ho, List.append_nil] at htold
      have HTo := Lib.hid htold
      clear hcs HNx ho htold
      go_wp2_with (first
        | (go_at_call 30; refine HN.out.mono ?_; rintro e w1 ⟨rfl, ho1⟩)
        | ((with_reducible show wpList _ _ _ (⟨none, .store 56 _ _, _, _, _, _⟩ :: _) _ _); refine step_store rfl 56 _ _ rfl w1.heap.size rfl cs rfl _ (rkCells Tk.none) (Blk.new _ _ _) (by rw [HL.out]; exact size_rtok) HL.out.symm HO.out ?_; intro w2 hB2 hz2 ho2; have hO2 : Hid (Only (fun i => wr.heap.size ≤ i) wr w2) := ((ho1.mono (fun _ h => h.elim)).alloc _).trans ho2 (fun i hi => .inl (by have := ho1.size; omega))))
      go_ret2
      have hT := HT.out
      obtain rfl := hT.len
      refine ⟨A, c, B, d, ts.length, rfl, Lib.hid (by rw [HTo.out]), ?_, ?_, hT.only.trans hO2.out (fun i hi => .inr (by have := hT.only.size; omega))⟩
      · rw [← HTo.out]
        exact own_only hT.row hO2.out (fun k hk => by have := (own_lt hT.row k hk).2; omega)
      · rw [← HTo.out]
        exact own_only hT.ends hO2.out (fun k hk => by have := (own_lt hT.ends k hk).2; omega)
    | some x =>
      obtain ⟨tk, m⟩ := x
      rw [ho] at HNx
      obtain ⟨hm0, hml, hend⟩ := ends_some p ho
      rw [List.length_drop] at hml
      have hpm : p + m ≤ s.length := by omega
      obtain ⟨cs, hcs⟩ : ∃ cs, cs = rkCells tk := ⟨_, rfl⟩
      have HL : Hid (cs.length = 5) := by rw [hcs]; rfl
      have HO : Hid (∀ v ∈ cs, v.oneCell' = true) := by rw [hcs]; exact rk_one _
      unfold Nexts at HNx
      rw [show (tokN (some (tk, m))).1 = tk from rfl, show (tokN (some (tk, m))).2 = m from rfl, ← hcs] at HNx
      have HN := Lib.hid HNx
      have hb0 : ((m : Int) == 0) = false := beq_eq_false_iff_ne.2 (by omega)
      have hb0' : decide ((m : Int) = 0) = false := by simp; omega
      have htold := HT.out.told
      rw [hend, List.drop_drop] at htold
      have HTo := Lib.hid htold
      have HCS := Lib.hid hcs
      have HRow := Lib.hid HT.out.row
      have HEnd := Lib.hid HT.out.ends
      have hlen1 : (ts.map Prod.fst).length = n := by rw [List.length_map, HT.out.len]
      have hlen2 : (ts.map Prod.snd).length = n := by rw [List.length_map, HT.out.len]
      unfold RRow at HRow
      unfold IRow at HEnd
      rw [hlen1] at HRow
      rw [hlen2] at HEnd
      have HSz := Lib.hid HT.out.only.size
      clear hcs HNx ho htold hml hend hlen1 hlen2
      go_wp2_with (first
        | (go_at_call 30; refine HN.out.mono ?_; rintro e w1 ⟨rfl, ho1⟩)
        | ((with_reducible show wpList _ _ _ (⟨none, .store 56 _ _, _, _, _, _⟩ :: _) _ _); refine step_store rfl 56 _ _ rfl w1.heap.size rfl cs rfl _ (rkCells Tk.none) (Blk.new _ _ _) (by rw [HL.out]; exact size_rtok) HL.out.symm HO.out ?_; intro w2 hB2 hz2 ho2; have hs1 := ho1.size; have hO2 : Hid (Only (fun i => wr.heap.size ≤ i) wr w2) := ((ho1.mono (fun _ h => h.elim)).alloc _).trans ho2 (fun i hi => .inl (by omega)); have hs2 := hO2.out.size)
        | ((with_reducible show wpList _ _ _ (⟨some 26, _, _, _, _, _⟩ :: _) _ _); refine wpList_load_mid rfl 56 (.tmp 7) rfl w1.heap.size 0 rfl cs _ (range_of hB2.out) Try.underlying56 rfl (by rw [HL.out]; exact size_rtok) ?_)
        | ((with_reducible show wpList _ _ _ (⟨some 27, _, _, _, _, _⟩ :: _) _ _); refine step_rtoken rfl (.tmp 26) rfl cs rfl HL.out ?_; have HR3 : Hid ((w2.alloc (.cells cs.toArray 56)).ownsRow w.heap.size 56 5 (.slice A n c) n (flatR (ts.map Prod.fst))) := own_same (own_only HRow.out hO2.out (fun k hk => by have := (own_lt HRow.out k hk).2; omega)) ((Only.refl _ w2).alloc _); have HE3 : Hid ((w2.alloc (.cells cs.toArray 56)).ownsRow w.heap.size 3 1 (.slice B n d) n ((ts.map Prod.snd).map iv)) := own_same (own_only HEnd.out hO2.out (fun k hk => by have := (own_lt HEnd.out k hk).2; omega)) ((Only.refl _ w2).alloc _))
        | (at_builtin; refine step_append_own rfl (.tmp 25) (.tmp 27) 26 rfl w.heap.size 56 i0 _ 5 48 Try.underlying26 HI.out iz0 iz1 iz2 rfl (by omega) (.slice A n c) n (flatR (ts.map Prod.fst)) rfl HR3.out (some ⟨w2.heap.size, 0, none⟩) 1 1 cs rfl HL.out (fun _ => ⟨_, rfl, fun j u hj => by rw [at_add, (Blk.new w2 56 cs).cell]; exact hj⟩) HO.out (by omega) (by omega) (by have := HSz.out; show _ ≤ (w2.alloc _).heap.size; simp; omega) ?_; intro A' c' w3 hnc' hc63' hq; have HG3 := Lib.hid hq.out.2.1; have HE4 : Hid (w3.ownsRow w.heap.size 3 1 (.slice B n d) n ((ts.map Prod.snd).map iv)) := own_kept HE3.out HR3.out (by decide) HG3.out; have HR4 := Lib.hid hq.out.1; clear hq)
        | (at_builtin; refine step_one rfl (.tmp 29) (.tmp 32) 23 rfl 3 _ 8 Try.underlying23 info_int rfl (by omega) w.heap.size B n d ((ts.map Prod.snd).map iv) rfl (own_same HE4.out ((Only.refl _ w3).alloc _)) w3.heap.size _ rfl ((Blk.new' w3 3 [_] rfl).cell 0) rfl (by omega) (by have := HSz.out; have := HG3.out.size; show _ ≤ (w3.alloc _).heap.size; simp at this ⊢; omega) ?_; intro B' d' w5 hE5 hG5 _))
      have hE4 := own_same HE4.out ((Only.refl (fun _ => False) w3).alloc (.cells #[.int .i64 ((p : Int) + (m : Int) - 1)] 3))
      have hR5 := own_kept (own_same HR4.out ((Only.refl (fun _ => False) w3).alloc (.cells #[.int .i64 ((p : Int) + (m : Int) - 1)] 3))) hE4 (by decide) hG5.out
      have hlen : n = ts.length := HT.out.len
      refine ⟨⟨p + m, n + 1, A', c', B', d', rfl, rfl, by go_num, hpm, by omega, ts ++ [(tk, p + m - 1)], ?_, ?_, ?_, ?_, ?_, ?_⟩, ?_⟩
      · simp [hlen]
      · unfold RRow
        rw [HCS.out] at hR5
        rw [List.map_append, List.length_append, flatR_append, List.length_map, ← hlen]
        simpa [flatR] using hR5
      · unfold IRow
        have h5 := hE5.out
        rw [List.map_append, List.length_append, List.map_append, List.length_map, ← hlen]
        have e : iv (p + m - 1) = .int .i64 ((p : Int) + (m : Int) - 1) := by unfold iv; congr 1; omega
        simpa [e] using h5
      · simp
        omega
      · rw [← HTo.out]
        simp
      · exact (((((HT.out.only.trans hO2.out (fun i hi => .inr (by have := HSz.out; omega))).alloc _).grown HG3.out (fun k hk => .inr (own_lt HR3.out k hk).1)).alloc _).grown hG5.out (fun k hk => .inr (own_lt hE4 k hk).1))
      · simp [intOf]
        omega
end Go.Proofs.Ytelmfncdamakfaa
