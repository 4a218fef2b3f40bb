/- TableRests: a side: its table, and what it sent that is not heard yet. -/
import Derived.Test.YtpobglejobgmlaaDoorTbActs
import Derived.Test.YtpobglejobgmlaaDoorRow1
namespace Go.Proofs.YtpobglejobgmlaaDoor
open Go Go.RowKit
set_option maxRecDepth 100000
set_option maxHeartbeats 4000000

/-- Verbs and options as cells. -/
def pairsC (l : List (Nat × Nat)) : List Value := l.flatMap fun e => [.int .i64 (e.1 : Int), .int .i64 (e.2 : Int)]
theorem pairsC_cons (e : Nat × Nat) (l : List (Nat × Nat)) : pairsC (e :: l) = .int .i64 (e.1 : Int) :: .int .i64 (e.2 : Int) :: pairsC l := rfl
theorem pairsC_append (l m : List (Nat × Nat)) : pairsC (l ++ m) = pairsC l ++ pairsC m := by simp [pairsC]
theorem pairsC_length (l : List (Nat × Nat)) : (pairsC l).length = l.length * 2 := by
  induction l with
  | nil => rfl
  | cons e l ih => rw [pairsC_cons]; simp [ih]; omega
theorem pairsC_one (l : List (Nat × Nat)) : ∀ u ∈ pairsC l, u.oneCell' = true := by
  intro u hu
  obtain ⟨e, _, hu⟩ := List.mem_flatMap.1 hu
  simp only [List.mem_cons, List.not_mem_nil, or_false] at hu
  rcases hu with rfl | rfl <;> rfl
theorem info_pair : (Tryd.prog.info? 100).map (fun i => (i.zero, i.size, i.bytes)) = some (some (.agg #[.int .i64 0, .int .i64 0]), 2, 16) := by kernel_rfl

/-- A side that lies in block s, its table in block p. -/
structure SdV (w : World) (s p : Nat) (ag : Nat → Nat → Bool) (T : Tb) (A : Option Addr) (n c : Nat) (l : List (Nat × Nat)) : Prop where
  blk : Blk w s 65 [.pointer (some ⟨p, 0, none⟩), .slice A n c]
  tab : TbAt w p ag T
  len : l.length = n
  cap : n ≤ c ∧ c ≤ 9223372036854775807
  row : 0 < n → ∃ g off cur, A = some ⟨g, off, none⟩ ∧ Blk w g 100 cur ∧ ∀ (j : Nat) (u : Value), (pairsC l)[j]? = some u → cur[off + j]? = some u
def SdAt (w : World) (s p : Nat) (ag : Nat → Nat → Bool) (T : Tb) (l : List (Nat × Nat)) : Prop := ∃ A n c, SdV w s p ag T A n c l
section
variable {w w' : World} {s p : Nat} {ag : Nat → Nat → Bool} {T T' : Tb} {A : Option Addr} {n c : Nat} {l : List (Nat × Nat)}
theorem SdV.row_only {S : Nat → Prop} (h : SdV w s p ag T A n c l) (ho : Only S w w') (hA : ∀ g cur, Blk w g 100 cur → ¬ S g) :
    0 < n → ∃ g off cur, A = some ⟨g, off, none⟩ ∧ Blk w' g 100 cur ∧ ∀ (j : Nat) (u : Value), (pairsC l)[j]? = some u → cur[off + j]? = some u := fun hn => by
  obtain ⟨g, off, cur, e, hc, hj⟩ := h.row hn
  exact ⟨g, off, cur, e, hc.only ho (hA g cur hc), hj⟩
theorem SdV.only {S : Nat → Prop} (h : SdV w s p ag T A n c l) (ho : Only S w w') (hs : ¬ S s) (hp : ¬ S p) (hA : ∀ g cur, Blk w g 100 cur → ¬ S g) : SdV w' s p ag T A n c l :=
  ⟨h.blk.only ho hs, h.tab.only ho hp, h.len, h.cap, h.row_only ho hA⟩
theorem SdV.same (h : SdV w s p ag T A n c l) (ho : Only (fun _ => False) w w') : SdV w' s p ag T A n c l := h.only ho (fun h => h) (fun h => h) (fun _ _ _ h => h)
theorem SdAt.same (h : SdAt w s p ag T l) (ho : Only (fun _ => False) w w') : SdAt w' s p ag T l := by
  obtain ⟨A, n, c, h⟩ := h
  exact ⟨A, n, c, h.same ho⟩
theorem SdAt.only {S : Nat → Prop} (h : SdAt w s p ag T l) (ho : Only S w w') (hs : ¬ S s) (hp : ¬ S p) (hA : ∀ g cur, Blk w g 100 cur → ¬ S g) : SdAt w' s p ag T l := by
  obtain ⟨A, n, c, h⟩ := h
  exact ⟨A, n, c, h.only ho hs hp hA⟩
theorem SdAt.lt (h : SdAt w s p ag T l) : s < w.heap.size := by obtain ⟨A, n, c, h⟩ := h; exact h.blk.lt
theorem SdAt.plt (h : SdAt w s p ag T l) : p < w.heap.size := by obtain ⟨A, n, c, h⟩ := h; exact h.tab.lt
theorem TbAt.ne {cs : List Value} {t : TypeId} {g : Nat} (h : TbAt w p ag T) (hg : Blk w g t cs) (ht : t ≠ 76) : g ≠ p := by
  obtain ⟨cs', h, _⟩ := h
  exact hg.ne h ht
/-- The table has turned. -/
theorem SdV.turn (h : SdV w s p ag T A n c l) (ht : TbAt w' p ag T') (ho : Only (· = p) w w') : SdV w' s p ag T' A n c l :=
  ⟨h.blk.only ho (h.tab.ne h.blk (by decide)), ht, h.len, h.cap, h.row_only ho (fun g cur hg => h.tab.ne hg (by decide))⟩
end

theorem send_none {w : World} {s p : Nat} {ag : Nat → Nat → Bool} {T : Tb} {l : List (Nat × Nat)} (h : SdAt w s p ag T l) (x : Int) : Calls Tryd.prog 24 #[.pointer (some ⟨s, 0, none⟩), .int .i64 0, .int .i64 x] w fun e w' =>
    e = .returned (.tuple #[]) ∧ SdAt w' s p ag T l ∧ Only (· = s) w w' := by
  have H := Lib.hid h
  clear h
  go_enter Tryd.func24, Tryd.ntmps24
  go_wp2
  refine bodyPost_end (v := .tuple #[]) (by simp [results, go_sem]) rfl ?_
  exact ⟨rfl, H.out, Only.refl _ _⟩

/-- Behind the second append. -/
theorem send_done {w w6 : World} {s p n c : Nat} {ag : Nat → Nat → Bool} {T : Tb} {A A2 : Option Addr} {c2 : Nat} {l : List (Nat × Nat)} {e : Nat × Nat} (h : SdV w s p ag T A n c l) (ho : Only (fun _ => False) w w6)
    (h1 : w6.ownsRow w.heap.size 100 2 (.slice A2 (n + 1) c2) (n + 1) (pairsC (l ++ [e]))) :
    SdAt (w6.setCell ⟨s, 1, none⟩ (.slice A2 (n + 1) c2)) s p ag T (l ++ [e]) ∧ Only (· = s) w (w6.setCell ⟨s, 1, none⟩ (.slice A2 (n + 1) c2)) := by
  have hb := h.blk.only ho (fun h => h)
  have ho2 := (Only.refl (· = s) w6).setCell (p := ⟨s, 1, none⟩) (.inl rfl) (.slice A2 (n + 1) c2)
  obtain ⟨g, rfl, _, hg, hc⟩ := own_at h1 (by omega)
  obtain ⟨cur, hcur, _⟩ := own_blk h1
  have hne : g ≠ s := hcur.ne hb (by decide)
  refine ⟨⟨_, _, _, hb.setCell 1 _, (h.tab.same ho).only ho2 (h.tab.ne h.blk (by decide)).symm, by rw [List.length_append, h.len]; rfl, own_le h1, fun _ => ⟨g, 0, cur, rfl, hcur.only ho2 hne, fun j u hu => ?_⟩⟩, (ho.mono (T := (· = s)) (fun _ h => h.elim)).trans ho2 (fun i hi => .inl hi)⟩
  rw [Nat.zero_add, ← hcur.cell]
  exact hc j u hu

theorem send_one {w : World} {s p : Nat} {ag : Nat → Nat → Bool} {T : Tb} {l : List (Nat × Nat)} (h : SdAt w s p ag T l) (v x : Nat) (hv : v ≠ 0) (hn : l.length ≤ 1000) : Calls Tryd.prog 24 #[.pointer (some ⟨s, 0, none⟩), .int .i64 (v : Int), .int .i64 (x : Int)] w fun e w' =>
    e = .returned (.tuple #[]) ∧ SdAt w' s p ag T (l ++ [(v, x)]) ∧ Only (· = s) w w' := by
  obtain ⟨A, n, c, h⟩ := h
  have H := Lib.hid h
  have hln := h.len
  have c1 : w.cell? ⟨s, 1, none⟩ = some (.slice A n c) := h.blk.cell 1
  have hs := h.blk.lt
  obtain ⟨i, hi, hz, h1, h2⟩ := info_parts info_pair
  have hv0 : ((v : Int) != 0) = true := by simp; omega
  have hn' : n ≤ 1000 := by omega
  have HL := Lib.hid hln
  have HI := Lib.hid (show _ ∧ _ ∧ _ ∧ _ from ⟨hi, hz, h1, h2⟩)
  have K : Hid (∀ W2, Only (fun _ => False) w W2 → (0 < n → ∃ ad, A = some ad ∧ ∀ (j : Nat) (u : Value), (pairsC l)[j]? = some u → W2.cell? (ad.add j) = some u)) := fun W2 ho hn => by
    obtain ⟨g, off, cur, e, hc, hr⟩ := (H.out.same ho).row hn
    refine ⟨_, e, fun j u hj => ?_⟩
    rw [show (⟨g, off, none⟩ : Addr).add j = ⟨g, off + j, none⟩ from by unfold Addr.add; split <;> simp_all, hc.cell]
    exact hr j u hj
  obtain ⟨xs, hxs⟩ : ∃ xs, xs = pairsC l := ⟨_, rfl⟩
  have HXS := Lib.hid hxs
  have HXL : Hid (xs.length = n * 2) := by rw [hxs]; exact (pairsC_length l).trans (by rw [HL.out])
  have HX1 : Hid (∀ u ∈ xs, u.oneCell' = true) := by rw [hxs]; exact pairsC_one l
  rw [← hxs] at K
  have N0 : Hid ((w.alloc (.cells #[] 100)).ownsRow w.heap.size 100 2 (.slice (some ⟨w.heap.size, 0, none⟩) (0 : Nat) 0) 0 []) := own_of_blk (cur := []) (Blk.new w _ []) rfl rfl (by omega) (by omega) (Nat.le_refl _)
  clear h hn hv hi hz h1 h2 hln hxs
  go_enter Tryd.func24, Tryd.ntmps24
  go_wp2_with (first
    | ((with_reducible show wpList _ _ _ (⟨some 14, _, _, _, _, _⟩ :: _) _ _); refine step_append_own rfl _ _ 63 rfl w.heap.size 100 i _ 2 16 Tryd.underlying63 HI.out.1 HI.out.2.1 HI.out.2.2.1 HI.out.2.2.2 rfl (by omega) _ 0 [] rfl N0.out A n c xs rfl HXL.out (K.out _ (alloc_only _)) HX1.out (by omega) (by omega) (by simp) ?_; intro A1 c1' w5 hle hcap hq; have F5 := Lib.hid (show Only (fun _ => False) w w5 from Only.grown (alloc_only _) hq.out.2.1 (fun k hk => .inr (Nat.le_of_eq (Option.some.inj (show some w.heap.size = some k from hk))))); rw [Nat.zero_add, List.nil_append] at hq; have HQ := hq; clear hq hle hcap; rw [Nat.zero_add])
    | ((with_reducible show wpList _ _ _ (⟨some 19, _, _, _, _, _⟩ :: _) _ _); refine step_append_own rfl _ _ 63 rfl w.heap.size 100 i _ 2 16 Tryd.underlying63 HI.out.1 HI.out.2.1 HI.out.2.2.1 HI.out.2.2.2 rfl (by omega) _ n xs rfl (own_same HQ.out.1 (alloc_only _)) (some ⟨w5.heap.size, 0, none⟩) 1 1 [.int .i64 (v : Int), .int .i64 (x : Int)] rfl rfl (fun _ => ⟨_, rfl, fun j u hj => by rw [at_add, (Blk.new w5 100 [.int .i64 (v : Int), .int .i64 (x : Int)]).cell]; exact hj⟩) (fun u hu => by simp only [List.mem_cons, List.not_mem_nil, or_false] at hu; rcases hu with rfl | rfl <;> rfl) (by omega) (by omega) (by have := F5.out.size; simp; omega) ?_; intro A2 c2' w6 hle hcap hq2; have HQ2 := hq2; clear hq2 hle hcap; have F6 := Lib.hid (show Only (fun _ => False) w w6 from Only.grown (F5.out.alloc _) HQ2.out.2.1 (fun k hk => .inr (own_lt HQ.out.1 k hk).1)); have d1 : w6.cell? ⟨s, 1, none⟩ = some (.slice A n c) := ((H.out.blk.only F6.out (fun h => h)).cell 1); have f1 := (H.out.blk.only F6.out (fun h => h)).frozen 1)
    | fail)
  refine bodyPost_end (v := .tuple #[]) (by simp [results, go_sem]) rfl ?_
  have hd := send_done (e := (v, x)) H.out F6.out (A2 := A2) (c2 := c2') (by have := HQ2.out.1; rw [HXS.out] at this; rw [pairsC_append]; exact this)
  exact ⟨rfl, hd.1, hd.2⟩
theorem send_any {w : World} {s p : Nat} {ag : Nat → Nat → Bool} {T : Tb} {l : List (Nat × Nat)} (h : SdAt w s p ag T l) (sd k x : Nat) (hn : l.length ≤ 1000) : Calls Tryd.prog 24 #[.pointer (some ⟨s, 0, none⟩), .int .i64 (toldV sd k : Int), .int .i64 (x : Int)] w fun e w' =>
    e = .returned (.tuple #[]) ∧ SdAt w' s p ag T (l ++ sendV sd k x) ∧ Only (· = s) w w' := by
  by_cases hk : k = 0
  · subst hk
    rw [show l ++ sendV sd 0 x = l by simp [sendV], show (toldV sd 0 : Int) = 0 from rfl]
    exact send_none h _
  · unfold sendV
    rw [if_neg hk]
    exact send_one h (toldV sd k) x (by unfold toldV; rw [if_neg hk]; omega) hn
end Go.Proofs.YtpobglejobgmlaaDoor
