/- slices.Insert of one timer: behind all, into a new row, into the room that there is. -/
import Derived.Test.YtdcjmfbdmejjjaaDoorBsearch
namespace Go.Proofs.YtdcjmfbdmejjjaaDoor
open Go Go.RowKit
set_option maxRecDepth 100000

theorem info_tm : (Tryd.prog.info? 59).map (fun i => (i.zero, i.size, i.bytes)) = some (some (.agg #[.int .i64 0, .int .i64 0]), 2, 16) := by kernel_rfl
theorem size_tm : (Tryd.prog.info? 59).map (·.size) = some 2 := by
  obtain ⟨i, hi, _, h1, _⟩ := info_parts info_tm
  rw [hi]
  simp [h1]

/-- What an insertion answers. -/
def Inserted (B : Nat) (w : World) (old : Option Nat) (ts : List Tm) (e : Ending) (w' : World) : Prop :=
  ∃ A c, e = .returned (.slice A ts.length c) ∧ w'.ownsRow B 59 2 (.slice A ts.length c) ts.length (flat ts) ∧ w.grownBy w' old

theorem shape_of {w : World} {g : Nat} {t : TypeId} {cs : List Value} (h : Blk w g t cs) : w.shape? g = some (t, cs.length) := by
  unfold Blk at h
  simp [World.shape?, h]
theorem news_two {w : World} {vb : Nat} {t : TypeId} {x : Tm} (h : Blk w vb t [.int .i64 x.1, .int .i64 x.2]) : ∀ (j : Nat) (u : Value), (flat [x])[j]? = some u → w.cell? ((⟨vb, 0, none⟩ : Addr).add j) = some u := by
  intro j u hu
  rw [show (⟨vb, 0, none⟩ : Addr).add j = ⟨vb, j, none⟩ from by unfold Addr.add; split <;> simp_all, h.cell]
  exact hu

set_option maxHeartbeats 1000000 in
theorem insert_end {w : World} {B : Nat} {A : Option Addr} {n c : Nat} {ts : List Tm} (h : w.ownsRow B 59 2 (.slice A n c) n (flat ts)) (hB : B ≤ w.heap.size) (x : Tm) (vb : Nat) (hv : Blk w vb 59 [.int .i64 x.1, .int .i64 x.2]) (hn : n ≤ 1048576) (old : Option Nat) (hold : (Value.slice A n c).ownBlock = old) :
    Calls Tryd.prog 35 #[.slice A n c, .int .i64 (n : Int), .slice (some ⟨vb, 0, none⟩) 1 1] w (Inserted B w old (ts ++ [x])) := by
  have hle := own_le h
  have HD := Lib.hid hold
  clear hold
  have hl := own_len h
  obtain ⟨i0, hi0, hz0, hz1, hz2⟩ := info_parts info_tm
  have HO := Lib.hid h
  have HL := Lib.hid hl
  have HV := Lib.hid (news_two hv)
  clear h hl hv
  go_enter Tryd.func35, Tryd.ntmps35
  go_wp2_with (at_builtin; refine wpList_append_lies _ rfl (.tmp 23) (.tmp 24) 51 rfl B 59 i0 _ 2 16 Tryd.underlying51 hi0 hz0 hz1 hz2 rfl (by omega) (.slice A n c) n (flat ts) rfl HO.out ⟨vb, 0, none⟩ 1 1 (flat [x]) rfl rfl HV.out (flat_one [x]) (by omega) (by unfold maxLen; omega) (by omega) hB w.heap.size rfl ?_; intro g cap w' hown hgr hat hlt)
  all_goals
    go_ret
    have hlen : (ts ++ [x]).length = n + 1 := by rw [List.length_append, HL.out]; rfl
    unfold Inserted
    rw [hlen, flat_append, ← HD.out]
    exact ⟨_, _, rfl, hown, hgr⟩

set_option maxHeartbeats 1000000 in
theorem insert_grow {w : World} {B : Nat} {A : Option Addr} {n c : Nat} {ts : List Tm} (h : w.ownsRow B 59 2 (.slice A n c) n (flat ts)) (hB : B ≤ w.heap.size) (i : Nat) (hi : i < n) (x : Tm) (vb : Nat) (hv : Blk w vb 59 [.int .i64 x.1, .int .i64 x.2]) (hn : n ≤ 1048576) (old : Option Nat) (hold : (Value.slice A n c).ownBlock = old)
    (hc : c < n + 1) :
    Calls Tryd.prog 35 #[.slice A n c, .int .i64 (i : Int), .slice (some ⟨vb, 0, none⟩) 1 1] w (Inserted B w old (ts.take i ++ x :: ts.drop i)) := by
  have hle := own_le h
  have HD := Lib.hid hold
  clear hold
  have hl := own_len h
  obtain ⟨i0, hi0, hz0, hz1, hz2⟩ := info_parts info_tm
  obtain ⟨g, rfl, hBg, hg, hcells⟩ := own_at h (by omega)
  have e1 : ¬ ((i : Int) = (n : Int)) := by omega
  have e2 : (c : Int) < (n : Int) + 1 := by omega
  have hin : i ≤ n := by omega
  have hci : ¬ c = i := by omega
  have HO := Lib.hid h
  have HL := Lib.hid hl
  have HV := Lib.hid (news_two hv)
  have HC := Lib.hid hcells
  clear h hl hv hcells
  go_enter Tryd.func35, Tryd.ntmps35
  have hol : ∀ (q : Nat) (v : Value), (flat (ts.take i))[q]? = some v → w.cell? ⟨g, q, none⟩ = some v := fun q v hq => HC.out q v (by
    rw [← flat_take, List.getElem?_take] at hq
    split at hq
    · exact hq
    · cases hq)
  have HOL := Lib.hid hol
  clear hol
  go_wp2_with (first
    | (at_builtin; refine step_append_zeros rfl (.tmp 34) (.tmp 39) 51 3 rfl 59 i0 _ 2 16 .i64 Tryd.underlying51 Tryd.underlying3 hi0 hz0 hz1 hz2 rfl (by omega) g i c (n + 1 - i) _ (by omega) rfl rfl (by omega) (by omega) (flat (ts.take i)) (by rw [length_flat, List.length_take, HL.out]; omega) HOL.out (by omega) (by omega) ?_; intro G W1 hG1 hG2 hG3 hG4 hG5; rw [show i + (n + 1 - i) = n + 1 from by omega] at hG1 ⊢; have hGi : ¬ G = i := (by omega); have hGi1 : ¬ G = i + 1 := (by omega); obtain ⟨Z, hZ1, hZ2⟩ := hG3.out; have HZ1 := Lib.hid hZ1; have HZ2 := Lib.hid hZ2; clear hG3 hZ1 hZ2)
    | ((with_reducible show wpList _ _ _ (⟨some 45, _, _, _, _, _⟩ :: _) _ _); go_loud (refine step_copyK rfl (.tmp 43) (.tmp 44) 51 51 rfl 59 2 Tryd.underlying51 size_tm w.heap.size (i * 2) (n + 1 - i) (G - i) ⟨vb, 0, none⟩ 1 1 rfl rfl _ 59 HZ1.out (flat [x]) 1 (by show 1 = min 1 _; omega) rfl (fun j u hu => hG5.out.cellv (HV.out j u hu) (fun h => h)) (by rw [HZ2.out]; show i * 2 + 2 ≤ G * 2; omega) (flat_one [x]) ?_); intro W2 hB2 hz2 ho2))
  have HO2 := Lib.hid ho2
  clear ho2 hz2
  have s1 : IntKind.i64.wrap ((i : Int) + 1) = (i : Int) + 1 := IntWalk.i64_in _ (by omega)
  have s2 : (0 : Int) ≤ (i : Int) + 1 := by omega
  have s3 : ((i : Int) + 1).toNat = i + 1 := by omega
  have s4 : (i : Int) + 1 ≤ ((n + 1 : Nat) : Int) := by omega
  have s5 : (i : Int) ≤ (n : Int) := by omega
  refine region_tail 8 (by kernel_rfl) (by kernel_rfl) ?_
  simp only [List.take_succ_cons, List.take_zero, List.drop_succ_cons, List.drop_zero]
  repeat still_step
  refine wpStill_nil ?_
  clear s1 s2 s3 s4 s5
  have hdl : (flat (ts.drop i)).length = (n - i) * 2 := by rw [length_flat, List.length_drop, HL.out]
  have htl : (flat (ts.take i)).length = i * 2 := by rw [length_flat, List.length_take, HL.out, Nat.min_eq_left hin]
  have hxl : (flat [x]).length = 2 := rfl
  have hgN : g ≠ w.heap.size := by omega
  have HDl := Lib.hid hdl
  have HTl := Lib.hid htl
  have HXl := Lib.hid hxl
  clear hdl htl hxl
  refine step_copyK rfl (.tmp 50) (.tmp 53) 51 51 rfl 59 2 Tryd.underlying51 size_tm w.heap.size ((i + 1) * 2) _ _ ⟨g, i * 2, none⟩ _ _ rfl rfl _ 59 hB2.out.drew (flat (ts.drop i)) (n - i)
    (by show n - i = min _ _; omega) HDl.out (fun j u hu => ?_) ?_ (flat_one _) ?_
  · rw [show (⟨g, i * 2, none⟩ : Addr).add j = ⟨g, i * 2 + j, none⟩ from by unfold Addr.add; split <;> simp_all]
    show W2.cell? _ = _
    refine HO2.out.cellv (hG5.out.cellv (HC.out _ u ?_) (fun h => h)) hgN
    rw [← flat_drop, List.getElem?_drop] at hu
    exact hu
  · rw [length_splice _ _ _ (by rw [HZ2.out, HXl.out]; omega), HZ2.out, HDl.out]; omega
  intro W3 hB3 hz3 ho3
  go_wp2
  go_ret
  have hsp := (splice_in (flat (ts.take i) ++ Z) (i * 2) (flat [x]) (flat (ts.drop i)) (by rw [HZ2.out, HXl.out, HDl.out]; omega)).2
  have htk : (flat (ts.take i) ++ Z).take (i * 2) = flat (ts.take i) := by
    rw [List.take_append_of_le_length (by rw [HTl.out]; omega)]
    exact List.take_of_length_le (by rw [HTl.out]; omega)
  rw [HXl.out, show i * 2 + 2 = (i + 1) * 2 from by omega, htk] at hsp
  have hB3' := hB3.out
  rw [hsp] at hB3'
  have hlen : (ts.take i ++ x :: ts.drop i).length = n + 1 := by rw [List.length_append, List.length_cons, List.length_take, List.length_drop, HL.out]; omega
  have hfl : flat (ts.take i ++ x :: ts.drop i) = flat (ts.take i) ++ (flat [x] ++ flat (ts.drop i)) := by rw [flat_append]; rfl
  unfold Inserted
  rw [hlen, hfl]
  refine ⟨_, G, rfl, own_of_blk hB3' ?_ ?_ hG1 hG2 hB, ?_⟩
  · simp only [List.length_append, HTl.out, HXl.out, HDl.out, List.length_drop, HZ2.out]; have h2 := HZ2.out; rw [List.length_append, HTl.out] at h2; omega
  · rw [← List.append_assoc, ← List.append_assoc, List.take_append_of_le_length (by simp only [List.length_append, HTl.out, HXl.out, HDl.out]; omega), List.take_of_length_le (by simp only [List.length_append, HTl.out, HXl.out, HDl.out]; omega), List.append_assoc]
  · exact ((hG5.out.trans HO2.out (fun k hk => .inr (by omega))).trans (Only.drew (Only.refl _ W2)) (fun k hk => .inl hk) |>.trans ho3 (fun k hk => .inr (by omega))).toGrown (fun k h => h.elim)

set_option maxHeartbeats 1000000 in
theorem insert_room {w : World} {B : Nat} {A : Option Addr} {n c : Nat} {ts : List Tm} (h : w.ownsRow B 59 2 (.slice A n c) n (flat ts)) (hB : B ≤ w.heap.size) (i : Nat) (hi : i < n) (x : Tm) (vb : Nat) (hv : Blk w vb 59 [.int .i64 x.1, .int .i64 x.2]) (hn : n ≤ 1048576) (old : Option Nat) (hold : (Value.slice A n c).ownBlock = old)
    (hc : n + 1 ≤ c) (hne : old ≠ some vb) :
    Calls Tryd.prog 35 #[.slice A n c, .int .i64 (i : Int), .slice (some ⟨vb, 0, none⟩) 1 1] w (Inserted B w old (ts.take i ++ x :: ts.drop i)) := by
  have hle := own_le h
  have HD := Lib.hid hold
  clear hold
  have hl := own_len h
  obtain ⟨i0, hi0, hz0, hz1, hz2⟩ := info_parts info_tm
  obtain ⟨g, rfl, hBg, hg, hcells⟩ := own_at h (by omega)
  obtain ⟨cur, hb, hcl, hct, _, _, _⟩ := own_blk h
  have hvg : vb ≠ g := fun e => hne (by rw [← HD.out, e]; rfl)
  have e1 : ¬ ((i : Int) = (n : Int)) := by omega
  have e2 : ¬ ((c : Int) < (n : Int) + 1) := by omega
  have hin : i ≤ n := by omega
  have hci : ¬ c = i := by omega
  have HO := Lib.hid h
  have HL := Lib.hid hl
  have HV := Lib.hid hv
  have HC := Lib.hid hcells
  have HB := Lib.hid hb
  have HCL := Lib.hid hcl
  have HCT := Lib.hid hct
  clear h hl hcells hb hcl hct hne
  go_enter Tryd.func35, Tryd.ntmps35
  have hci1 : ¬ c = i + 1 := by omega
  have hvl := hv
  have hov : ∀ lb cb, (callFunc 38 #[.slice (some ⟨vb, 0, none⟩) 1 1, .slice (some ⟨g, (i + 1) * 2, none⟩) lb cb]).run Tryd.prog w = .ok (.value (.bool false)) w := fun lb cb => by
    rw [run_callFunc_extern Tryd.func38 (by kernel_rfl) (by kernel_rfl) (by kernel_rfl) (e := Extern.SlicesOverlaps.overlaps #[51, 51] #[4]) (by kernel_rfl),
      Lib.run_overlaps_apart w 51 4 59 Tryd.underlying51 2 Tryd.sizeOf59 ⟨vb, 0, none⟩ ⟨g, (i + 1) * 2, none⟩ 1 1 lb cb hvg 59 59 2 cur.length (shape_of HV.out) (shape_of HB.out) (by rw [HCL.out]; omega) (HV.out.frozen 0) (HV.out.frozen 2)]
    rfl
  go_wp2_with (simp only [hov])
  have s1 : IntKind.i64.wrap ((i : Int) + 1) = (i : Int) + 1 := IntWalk.i64_in _ (by omega)
  have s2 : (0 : Int) ≤ (i : Int) + 1 := by omega
  have s3 : ((i : Int) + 1).toNat = i + 1 := by omega
  have s4 : (i : Int) + 1 ≤ ((n + 1 : Nat) : Int) := by omega
  have s5 : (i : Int) ≤ (n : Int) := by omega
  have s6 : (i : Int) ≤ (n : Int) + 1 := by omega
  refine region_tail 8 (by kernel_rfl) (by kernel_rfl) ?_
  simp only [List.take_succ_cons, List.take_zero, List.drop_succ_cons, List.drop_zero]
  repeat still_step
  refine wpStill_nil ?_
  clear s1 s2 s3 s4 s5 s6 hov hvl
  have hdl : (flat (ts.drop i)).length = (n - i) * 2 := by rw [length_flat, List.length_drop, HL.out]
  have hxl : (flat [x]).length = 2 := rfl
  have HDl := Lib.hid hdl
  have HXl := Lib.hid hxl
  clear hdl hxl
  refine step_copyK rfl (.tmp 73) (.tmp 76) 51 51 rfl 59 2 Tryd.underlying51 size_tm g ((i + 1) * 2) _ _ ⟨g, i * 2, none⟩ _ _ rfl rfl _ 59 HB.out.drew (flat (ts.drop i)) (n - i)
    (by show n - i = min _ _; omega) HDl.out (fun j u hu => ?_) ?_ (flat_one _) ?_
  · rw [show (⟨g, i * 2, none⟩ : Addr).add j = ⟨g, i * 2 + j, none⟩ from by unfold Addr.add; split <;> simp_all]
    refine HC.out _ u ?_
    rw [← flat_drop, List.getElem?_drop] at hu
    exact hu
  · rw [HCL.out, HDl.out]; omega
  intro W2 hB2 hz2 ho2
  have HO2 := Lib.hid ho2
  clear ho2 hz2
  have HV2 := Lib.hid (HV.out.drew.only HO2.out hvg)
  go_wp2_with ((with_reducible show wpList _ _ _ (⟨some 82, _, _, _, _, _⟩ :: _) _ _); refine step_copyK rfl (.tmp 80) (.tmp 81) 51 51 rfl 59 2 Tryd.underlying51 size_tm g (i * 2) _ _ ⟨vb, 0, none⟩ 1 1 rfl rfl _ 59 hB2.out (flat [x]) 1 (by show 1 = min 1 _; omega) rfl (news_two HV2.out) (by rw [length_splice _ _ _ (by rw [HCL.out, HDl.out]; omega), HCL.out, HXl.out]; omega) (flat_one _) ?_; intro W3 hB3 hz3 ho3)
  go_ret
  have hsp := (splice_in cur (i * 2) (flat [x]) (flat (ts.drop i)) (by rw [HCL.out, HXl.out, HDl.out]; omega)).1
  have htk : cur.take (i * 2) = flat (ts.take i) := by
    rw [← flat_take, ← HCT.out, List.take_take, Nat.min_eq_left (by omega)]
  rw [HXl.out, show i * 2 + 2 = (i + 1) * 2 from by omega, htk] at hsp
  have hB3' := hB3.out
  rw [hsp] at hB3'
  have htl : (flat (ts.take i)).length = i * 2 := by rw [length_flat, List.length_take, HL.out, Nat.min_eq_left hin]
  have hlen : (ts.take i ++ x :: ts.drop i).length = n + 1 := by rw [List.length_append, List.length_cons, List.length_take, List.length_drop, HL.out]; omega
  have hfl : flat (ts.take i ++ x :: ts.drop i) = flat (ts.take i) ++ (flat [x] ++ flat (ts.drop i)) := by rw [flat_append]; rfl
  unfold Inserted
  rw [hlen, hfl, ← HD.out]
  refine ⟨_, c, rfl, own_of_blk hB3' ?_ ?_ hc (by omega) hBg, ?_⟩
  · simp only [List.length_append, htl, HXl.out, HDl.out, List.length_drop, HCL.out]; omega
  · rw [← List.append_assoc, ← List.append_assoc, List.take_append_of_le_length (by simp only [List.length_append, htl, HXl.out, HDl.out]; omega), List.take_of_length_le (by simp only [List.length_append, htl, HXl.out, HDl.out]; omega), List.append_assoc]
  · exact (((Only.refl (· = g) w).drew).trans HO2.out (fun k hk => .inl hk) |>.trans ho3 (fun k hk => .inl hk)).toGrown (fun k h => .inl (by rw [h]; rfl))

/-- slices.Insert of one. -/
theorem insert_any {w : World} {B : Nat} {A : Option Addr} {n c : Nat} {ts : List Tm} (h : w.ownsRow B 59 2 (.slice A n c) n (flat ts)) (hB : B ≤ w.heap.size) (i : Nat) (hi : i ≤ n) (x : Tm) (vb : Nat) (hv : Blk w vb 59 [.int .i64 x.1, .int .i64 x.2]) (hn : n ≤ 1048576)
    (hne : (Value.slice A n c).ownBlock ≠ some vb) :
    Calls Tryd.prog 35 #[.slice A n c, .int .i64 (i : Int), .slice (some ⟨vb, 0, none⟩) 1 1] w (Inserted B w (Value.slice A n c).ownBlock (ts.take i ++ x :: ts.drop i)) := by
  have hl := own_len h
  by_cases hin : i = n
  · subst hin
    have := insert_end h hB x vb hv hn _ rfl
    rw [List.take_of_length_le (by omega), List.drop_eq_nil_of_le (by omega)]
    exact this
  · by_cases hc : c < n + 1
    · exact insert_grow h hB i (by omega) x vb hv hn _ rfl hc
    · exact insert_room h hB i (by omega) x vb hv hn _ rfl (by omega) hne
end Go.Proofs.YtdcjmfbdmejjjaaDoor
