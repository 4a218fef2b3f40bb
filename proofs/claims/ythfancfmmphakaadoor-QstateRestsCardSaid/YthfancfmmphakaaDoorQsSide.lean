/- QstateRests: a side, and what it sends. -/
import Derived.Test.YthfancfmmphakaaDoorQsAlive
import Derived.Test.YthfancfmmphakaaDoorMid
import Derived.Test.YthfancfmmphakaaDoorRow1
namespace Go.Proofs.YthfancfmmphakaaDoor
open Go Go.RowKit
set_option maxRecDepth 100000
set_option maxHeartbeats 4000000

/-- A side that lies in block p: its state, what it sent that is not heard yet (a slice of bools), whether it agrees. -/
structure SideV (w : World) (p : Nat) (s : Qs) (A : Option Addr) (n c : Nat) (l : List Bool) (ag : Bool) : Prop where
  blk : Blk w p 39 [.int .i64 (s.kind : Int), .bool s.opp, .slice A n c, .bool ag]
  len : l.length = n
  cap : n ≤ c ∧ c ≤ 9223372036854775807
  row : 0 < n → ∃ g off cur, A = some ⟨g, off, none⟩ ∧ Blk w g 4 cur ∧ ∀ (j : Nat) (x : Bool), l[j]? = some x → cur[off + j]? = some (.bool x)
section
variable {w w' : World} {p : Nat} {s s' : Qs} {A : Option Addr} {n c : Nat} {l : List Bool} {ag : Bool}
theorem SideV.row_only {S : Nat → Prop} (h : SideV w p s A n c l ag) (ho : Only S w w') (hA : ∀ g off cur, 0 < n → A = some ⟨g, off, none⟩ → Blk w g 4 cur → ¬ S g) :
    0 < n → ∃ g off cur, A = some ⟨g, off, none⟩ ∧ Blk w' g 4 cur ∧ ∀ (j : Nat) (x : Bool), l[j]? = some x → cur[off + j]? = some (.bool x) := fun hn => by
  obtain ⟨g, off, cur, e, hc, hj⟩ := h.row hn
  exact ⟨g, off, cur, e, hc.only ho (hA g off cur hn e hc), hj⟩
theorem SideV.same (h : SideV w p s A n c l ag) (ho : Only (fun _ => False) w w') : SideV w' p s A n c l ag := ⟨h.blk.only ho (fun h => h), h.len, h.cap, h.row_only ho (fun _ _ _ _ _ _ h => h)⟩
/-- The other side's block turns. -/
theorem SideV.beside {q : Nat} (h : SideV w p s A n c l ag) {cs : List Value} (hq : Blk w q 39 cs) (hne : p ≠ q) (ho : Only (· = q) w w') : SideV w' p s A n c l ag :=
  ⟨h.blk.only ho hne, h.len, h.cap, h.row_only ho (fun _ _ _ _ _ hc => hc.ne hq (by decide))⟩
end
/-- A side, its slice whatever. -/
def SideAt (w : World) (p : Nat) (s : Qs) (l : List Bool) (ag : Bool) : Prop := ∃ A n c, SideV w p s A n c l ag

theorem SideV.set {w w' : World} {p : Nat} {s s' : Qs} {A : Option Addr} {n c : Nat} {l : List Bool} {ag : Bool} (h : SideV w p s A n c l ag) (hb : Blk w' p 39 [.int .i64 (s'.kind : Int), .bool s'.opp, .slice A n c, .bool ag]) (ho : Only (· = p) w w') : SideV w' p s' A n c l ag :=
  ⟨hb, h.len, h.cap, h.row_only ho (fun _ _ _ _ _ hc => hc.ne h.blk (by decide))⟩

theorem send_none {w : World} {p : Nat} {s : Qs} {A : Option Addr} {n c : Nat} {l : List Bool} {ag : Bool} (h : SideV w p s A n c l ag) (s' : Qs) (b : Bool) : Calls Tryd.prog 11 #[.pointer (some ⟨p, 0, none⟩), .agg (mvC s' 0 b).toArray] w fun e w' =>
    e = .returned (.tuple #[]) ∧ SideV w' p s' A n c l ag ∧ Only (· = p) w w' := by
  have H := Lib.hid h
  have HB := Lib.hid h.blk
  have hp := h.blk.lt
  obtain ⟨sk, hsk⟩ : ∃ sk, sk = (s'.kind : Int) := ⟨_, rfl⟩
  obtain ⟨so, hso⟩ : ∃ so, so = s'.opp := ⟨_, rfl⟩
  have HSK := Lib.hid hsk
  have HSO := Lib.hid hso
  simp only [mvC]
  rw [← hsk, ← hso]
  clear h hsk hso
  go_enter Tryd.func11, Tryd.ntmps11
  go_wp2_with (first
    | ((with_reducible show wpList _ _ _ (⟨none, .store 23 _ _, _, _, _, _⟩ :: _) _ _); refine step_storeM rfl 23 _ _ rfl p 0 rfl [.int .i64 sk, .bool so] rfl _ [] [.int .i64 (s.kind : Int), .bool s.opp] [.slice A n c, .bool ag] (HB.out.alloc _) rfl size_state rfl (fun v hv => by simp at hv; rcases hv with rfl | rfl <;> rfl) ?_; intro w4 hB4 hz4 ho4; have hBx := (Blk.new w 26 [.int .i64 sk, .bool so, .int .i64 0, .bool b]).only ho4 (by omega); have x2 : w4.cell? ⟨w.heap.size, 2, none⟩ = some (.int .i64 0) := hBx.cell 2; have HO4 := Lib.hid (((alloc_only (W := w) _).mono (T := (· = p)) (fun _ h => h.elim)).trans ho4 (fun i hi => .inl hi)); clear ho4 hBx)
    | fail)
  refine bodyPost_end (v := .tuple #[]) (by simp [results, Tryd.results11, go_sem]) rfl ?_
  refine ⟨rfl, H.out.set ?_ HO4.out, HO4.out⟩
  rw [← HSK.out, ← HSO.out]
  exact hB4.out

/-- Between the two appends: the first one's row is the call's own; nothing else has turned. -/
structure FAt (w w' : World) (A : Option Addr) (n c : Nat) (vs : List Value) : Prop where
  own : w'.ownsRow w.heap.size 4 1 (.slice A n c) n vs
  only : Only (fun _ => False) w w'
theorem FAt.o1 (w : World) (o : Obj) : Only (fun _ => False) w (w.alloc o).drew := ((Only.refl _ _).alloc _).drew
theorem FAt.o2 (w : World) (o o' : Obj) : Only (fun _ => False) w ((w.alloc o).alloc o').drew := (((Only.refl _ _).alloc _).alloc _).drew
theorem FAt.zero1 (w : World) : (w.alloc (.cells #[] 4)).drew.ownsRow w.heap.size 4 1 (.slice (some ⟨w.heap.size, 0, none⟩) (0 : Nat) 0) 0 [] := own_of_blk (cur := []) (Blk.new w _ []).drew rfl rfl (by omega) (by omega) (Nat.le_refl _)
theorem FAt.zero2 (w : World) (o : Obj) : ((w.alloc (.cells #[] 4)).alloc o).drew.ownsRow w.heap.size 4 1 (.slice (some ⟨w.heap.size, 0, none⟩) (0 : Nat) 0) 0 [] := own_of_blk (cur := []) ((Blk.new w _ []).alloc o).drew rfl rfl (by omega) (by omega) (Nat.le_refl _)
theorem FAt.zero3 (w : World) (o : Obj) : ((w.alloc o).alloc (.cells #[] 4)).drew.ownsRow w.heap.size 4 1 (.slice (some ⟨w.heap.size + 1, 0, none⟩) (0 : Nat) 0) 0 [] := own_of_blk (cur := []) (Blk.new' _ _ [] (by simp)).drew rfl rfl (by omega) (by omega) (by omega)
theorem FAt.gr {w w5 : World} {g : Nat} {n c : Nat} (h : w.grownBy w5 (Value.slice (some ⟨g, 0, none⟩) n c).ownBlock) : Only (· = g) w w5 := Only.grown (Only.refl _ _) h (fun k hk => .inl (by simp [Value.ownBlock] at hk; omega))
theorem FAt.first {w w2 w5 : World} {g : Nat} {A : Option Addr} {n c : Nat} {vs : List Value} (ho : Only (fun _ => False) w w2) (h1 : w5.ownsRow w.heap.size 4 1 (.slice A (0 + n) c) (0 + n) ([] ++ vs)) (h2 : w2.grownBy w5 (Value.slice (some ⟨g, 0, none⟩) 0 0).ownBlock) (hg : w.heap.size ≤ g) : FAt w w5 A n c vs := by
  rw [Nat.zero_add] at h1
  exact ⟨h1, Only.grown ho h2 (fun k hk => .inr (by simp [Value.ownBlock] at hk; omega))⟩
/-- Behind the second append. -/
theorem FAt.second {w w5 w2 w6 : World} {p : Nat} {t : TypeId} {cs : List Value} {A1 A2 : Option Addr} {n c1 c2 : Nat} {vs : List Value} {u : Value} (h : FAt w w5 A1 n c1 vs) (hp : Blk w p t cs) (ho : Only (fun _ => False) w5 w2) (h1 : w6.ownsRow w.heap.size 4 1 (.slice A2 (n + 1) c2) (n + 1) (vs ++ [u])) (h2 : w2.grownBy w6 (Value.slice A1 n c1).ownBlock) :
    Blk w6 p t cs ∧ w6.ownsRow w.heap.size 4 1 (.slice A2 (n + 1) c2) (n + 1) (vs ++ [u]) ∧ Only (fun _ => False) w w6 := by
  have h3 : Only (fun _ => False) w w6 := Only.grown (h.only.trans ho (fun _ h => h.elim)) h2 (fun k hk => .inr (own_lt h.own k hk).1)
  exact ⟨hp.only h3 (fun h => h), h1, h3⟩
theorem FAt.done {w w4 w6 : World} {p n c c2 : Nat} {s : Qs} {A A2 : Option Addr} {l : List Bool} {v ag : Bool} (hb : Blk w6 p 39 [.int .i64 (s.kind : Int), .bool s.opp, .slice A n c, .bool ag])
    (h1 : w6.ownsRow w4.heap.size 4 1 (.slice A2 (n + 1) c2) (n + 1) (l.map Value.bool ++ [.bool v])) (h3 : Only (fun _ => False) w4 w6) (h4 : Only (· = p) w w4) (hl : l.length = n) :
    Ending.returned (.tuple #[]) = .returned (.tuple #[]) ∧ SideAt (w6.setCell ⟨p, 2, none⟩ (.slice A2 (n + 1) c2)) p s (l ++ [v]) ag ∧ Only (· = p) w (w6.setCell ⟨p, 2, none⟩ (.slice A2 (n + 1) c2)) := by
  have ho := (Only.refl (· = p) w6).setCell (p := ⟨p, 2, none⟩) (.inl rfl) (.slice A2 (n + 1) c2)
  obtain ⟨g, rfl, _, hg, hc⟩ := own_at h1 (by omega)
  obtain ⟨cur, hcur, _⟩ := own_blk h1
  have hne : g ≠ p := hcur.ne hb (by decide)
  refine ⟨rfl, ⟨_, _, _, hb.setCell 2 _, by rw [List.length_append, hl]; rfl, own_le h1, fun _ => ⟨g, 0, cur, rfl, hcur.only ho hne, fun j x hx => ?_⟩⟩, (h4.trans h3 (fun _ h => h.elim)).trans ho (fun i hi => .inl hi)⟩
  rw [Nat.zero_add, ← hcur.cell]
  exact hc j _ (by rw [show l.map Value.bool ++ [Value.bool v] = (l ++ [v]).map Value.bool by simp, List.getElem?_map, hx]; rfl)
theorem send_one {w : World} {p : Nat} {s : Qs} {A : Option Addr} {n c : Nat} {l : List Bool} {ag : Bool} (h : SideV w p s A n c l ag) (s' : Qs) (z : Int) (v b : Bool) (hz : z = 1 ∨ z = 2) (hv : v = decide (z = 1)) (hn : n ≤ 1000) : Calls Tryd.prog 11 #[.pointer (some ⟨p, 0, none⟩), .agg #[.int .i64 (s'.kind : Int), .bool s'.opp, .int .i64 z, .bool b]] w fun e w' =>
    e = .returned (.tuple #[]) ∧ SideAt w' p s' (l ++ [v]) ag ∧ Only (· = p) w w' := by
  have H := Lib.hid h
  have HB := Lib.hid h.blk
  have hp := h.blk.lt
  obtain ⟨sk, hsk⟩ : ∃ sk, sk = (s'.kind : Int) := ⟨_, rfl⟩
  obtain ⟨so, hso⟩ : ∃ so, so = s'.opp := ⟨_, rfl⟩
  have HSK := Lib.hid hsk
  have HSO := Lib.hid hso
  have hzn : (z != 0) = true := by rcases hz with rfl | rfl <;> rfl
  have hzv : (z == 1) = v := by rw [hv]; rcases hz with rfl | rfl <;> rfl
  rw [← hsk, ← hso]
  clear h hsk hso hz hv
  go_enter Tryd.func11, Tryd.ntmps11
  go_wp2_with (first
    | ((with_reducible show wpList _ _ _ (⟨none, .store 23 _ _, _, _, _, _⟩ :: _) _ _); refine step_storeM rfl 23 _ _ rfl p 0 rfl [.int .i64 sk, .bool so] rfl _ [] [.int .i64 (s.kind : Int), .bool s.opp] [.slice A n c, .bool ag] (HB.out.alloc _) rfl size_state rfl (fun v hv => by simp at hv; rcases hv with rfl | rfl <;> rfl) ?_; intro w4 hB4 hz4 ho4; have hBx := (Blk.new w 26 [.int .i64 sk, .bool so, .int .i64 z, .bool b]).only ho4 (by omega); have x2 : w4.cell? ⟨w.heap.size, 2, none⟩ = some (.int .i64 z) := hBx.cell 2; have HX := Lib.hid hBx; have HO4 := Lib.hid (((alloc_only (W := w) _).mono (T := (· = p)) (fun _ h => h.elim)).trans ho4 (fun i hi => .inl hi)); clear ho4 hBx)
    | fail)
  clear x2
  have hB4' : Blk w4 p 39 [.int .i64 sk, .bool so, .slice A n c, .bool ag] := hB4.out
  have HP := Lib.hid hB4'
  have HS4 := Lib.hid (H.out.set (s' := s') (by rw [← HSK.out, ← HSO.out]; exact hB4') HO4.out)
  have HL := Lib.hid (H.out.len)
  obtain ⟨M, hM⟩ : ∃ M, M = w4.heap.size := ⟨_, rfl⟩
  have HM := Lib.hid hM
  obtain ⟨b0, hb0⟩ : ∃ b0, b0 = w.heap.size := ⟨_, rfl⟩
  rw [← hb0] at HX ⊢
  have hhb : b0 < M := by rw [hM]; exact HX.out.lt
  have hpb : p < M := by rw [hM]; exact hB4'.lt
  have c2 : w4.cell? ⟨p, 2, none⟩ = some (.slice A n c) := hB4'.cell 2
  have x2 : w4.cell? ⟨b0, 2, none⟩ = some (.int .i64 z) := HX.out.cell 2
  have c2a : ∀ o, (w4.alloc o).cell? ⟨p, 2, none⟩ = some (.slice A n c) := fun o => (hB4'.alloc o).cell 2
  have x2a : ∀ o, (w4.alloc o).cell? ⟨b0, 2, none⟩ = some (.int .i64 z) := fun o => (HX.out.alloc o).cell 2
  have c2b : ∀ o o', ((w4.alloc o).alloc o').cell? ⟨p, 2, none⟩ = some (.slice A n c) := fun o o' => ((hB4'.alloc o).alloc o').cell 2
  have N1 : Hid (Blk (w4.alloc (.cells #[] 4)) w4.heap.size 4 []) := Blk.new w4 _ []
  clear hB4 hz4 HB hb0 hM hp hB4'
  obtain ⟨vs, hvs⟩ : ∃ vs, vs = l.map Value.bool := ⟨_, rfl⟩
  have HVS := Lib.hid hvs
  have K : Hid (∀ W2, Only (fun _ => False) w4 W2 → (0 < n → ∃ ad, A = some ad ∧ ∀ (j : Nat) (u : Value), vs[j]? = some u → W2.cell? (ad.add j) = some u)) := fun W2 ho hn => by
    obtain ⟨g, off, cur, e, hc, hr⟩ := (HS4.out.same ho).row hn
    refine ⟨_, e, fun j u hj => ?_⟩
    rw [HVS.out, List.getElem?_map] at hj
    cases hl : l[j]? with
    | none => rw [hl] at hj; cases hj
    | some y => rw [hl] at hj; injection hj with hj; subst hj; rw [show (⟨g, off, none⟩ : Addr).add j = ⟨g, off + j, none⟩ from by unfold Addr.add; split <;> simp_all, hc.cell]; exact hr j y hl
  have hvl : vs.length = n := by rw [hvs, List.length_map]; exact HL.out
  have HVL := Lib.hid hvl
  have V1 : Hid (∀ W2, Only (· = w4.heap.size) ((w4.alloc (.cells #[] 4)).alloc (.cells #[.bool v] 4)).drew W2 → W2.cell? ⟨w4.heap.size + 1, 0, none⟩ = some (.bool v)) := fun W2 ho => ((Blk.new' (w4.alloc (.cells #[] 4)) 4 [.bool v] (n := w4.heap.size + 1) (by simp)).drew.only ho (by omega)).cell 0
  have V2 : Hid (∀ W2, Only (· = w4.heap.size + 1) ((w4.alloc (.cells #[.bool v] 4)).alloc (.cells #[] 4)).drew W2 → W2.cell? ⟨w4.heap.size, 0, none⟩ = some (.bool v)) := fun W2 ho => (((Blk.new w4 4 [.bool v]).alloc _).drew.only ho (by omega)).cell 0
  have HV1 := Lib.hid (show ∀ u ∈ vs, u.oneCell' = true from fun u hu => by rw [HVS.out] at hu; obtain ⟨y, _, rfl⟩ := List.mem_map.1 hu; rfl)
  clear hvs hvl
  go_region_law (first
    | ((with_reducible show (if Region.wanted ⟨some 18, _, _, _, _, _⟩ _ = true then _ else _)); refine step_rowR rfl (.tmp 13) (.tmp 17) 37 rfl 4 _ 1 Tryd.underlying37 info_bool1 rfl (by omega) w4.heap.size _ 0 0 [] rfl (by first | exact FAt.zero1 w4 | exact FAt.zero2 w4 _ | exact FAt.zero3 w4 _) A n c vs rfl HVL.out (K.out _ (by first | exact FAt.o1 w4 _ | exact FAt.o2 w4 _ _)) HV1.out (by omega) (by simp; try omega) ?_; intro A1 c1 w5 hq1 hq2; have F := Lib.hid (FAt.first (by first | exact FAt.o1 w4 _ | exact FAt.o2 w4 _ _) hq1.out hq2.out (by omega)); have HG := Lib.hid (FAt.gr hq2.out); have y2 : w5.cell? ⟨b0, 2, none⟩ = some (.int .i64 z) := (HX.out.only F.out.only (fun h => h)).cell 2; clear hq1 hq2)
    | ((with_reducible show (if Region.wanted ⟨some 23, _, _, _, _, _⟩ _ = true then _ else _)); (refine step_oneR rfl (.tmp 18) (.tmp 22) 37 rfl 4 _ 1 Tryd.underlying37 info_bool1 rfl (by omega) w4.heap.size A1 n c1 vs rfl (by first | exact F.out.own | exact F.out.own.alloc _ | exact (F.out.own.alloc _).drew) _ (.bool v) rfl (by first | exact V1.out _ HG.out | exact V2.out _ HG.out | exact (Blk.new w5 4 [.bool v]).cell 0) rfl (by omega) (by first | exact F.out.only.size | exact (F.out.only.alloc _).size) ?_); intro A2 c2' w6 hq1 hq2; have F6 := Lib.hid (FAt.second F.out HP.out (by first | exact Only.refl _ _ | exact (Only.refl _ _).alloc _ | exact ((Only.refl _ _).alloc _).drew) hq1.out hq2.out); have d2 : w6.cell? ⟨p, 2, none⟩ = some (.slice A n c) := F6.out.1.cell 2; have f2 : w6.frozen? ⟨p, 2, none⟩ = false := F6.out.1.frozen 2; clear hq1 hq2))
  all_goals go_wp2
  all_goals
    refine bodyPost_end (v := .tuple #[]) (by simp [results, Tryd.results11, go_sem]) rfl ?_
    refine FAt.done (HSK.out ▸ HSO.out ▸ F6.out.1) (by rw [← HVS.out]; exact F6.out.2.1) F6.out.2.2 HO4.out HL.out
theorem send_any {w : World} {p : Nat} {s : Qs} {l : List Bool} {ag : Bool} (h : SideAt w p s l ag) (hn : l.length ≤ 1000) (s' : Qs) (k : Nat) (b : Bool) (hk : k ≤ 2) : Calls Tryd.prog 11 #[.pointer (some ⟨p, 0, none⟩), .agg (mvC s' k b).toArray] w fun e w' =>
    e = .returned (.tuple #[]) ∧ SideAt w' p s' (l ++ sentQ k) ag ∧ Only (· = p) w w' := by
  obtain ⟨A, n, c, h⟩ := h
  have hl := h.len
  rcases k with _ | _ | _ | k
  · exact (send_none h s' b).mono fun e w' ⟨h1, h2, h3⟩ => ⟨h1, by rw [show l ++ sentQ 0 = l by simp [sentQ]]; exact ⟨A, n, c, h2⟩, h3⟩
  · exact send_one h s' 1 true b (.inl rfl) rfl (by omega)
  · exact send_one h s' 2 false b (.inr rfl) rfl (by omega)
  · omega
end Go.Proofs.YthfancfmmphakaaDoor
