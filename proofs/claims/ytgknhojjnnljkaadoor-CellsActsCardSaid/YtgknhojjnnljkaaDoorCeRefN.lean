/- The document: the next row. -/
import Derived.Test.YtgknhojjnnljkaaDoorCeRef
namespace Go.Proofs.YtgknhojjnnljkaaDoor
open Go Go.RowKit
set_option maxRecDepth 100000
set_option maxHeartbeats 4000000

/-- Between the two appends: the first one's row is the call's own; nothing else has turned. -/
structure FAt (w w' : World) (A : Option Addr) (n c : Nat) (vs : List Value) : Prop where
  own : w'.ownsRow w.heap.size 9 1 (.slice A n c) n vs
  only : Only (fun _ => False) w w'
theorem FAt.o1 (w : World) (o : Obj) : Only (fun _ => False) w (w.alloc o).drew := ((Only.refl _ _).alloc _).drew
theorem FAt.o2 (w : World) (o o' : Obj) : Only (fun _ => False) w ((w.alloc o).alloc o').drew := (((Only.refl _ _).alloc _).alloc _).drew
theorem FAt.zero1 (w : World) : (w.alloc (.cells #[] 9)).drew.ownsRow w.heap.size 9 1 (.slice (some ⟨w.heap.size, 0, none⟩) (0 : Nat) 0) 0 [] := own_of_blk (cur := []) (Blk.new w _ []).drew rfl rfl (by omega) (by omega) (Nat.le_refl _)
theorem FAt.zero2 (w : World) (o : Obj) : ((w.alloc (.cells #[] 9)).alloc o).drew.ownsRow w.heap.size 9 1 (.slice (some ⟨w.heap.size, 0, none⟩) (0 : Nat) 0) 0 [] := own_of_blk (cur := []) ((Blk.new w _ []).alloc o).drew rfl rfl (by omega) (by omega) (Nat.le_refl _)
theorem FAt.zero3 (w : World) (o : Obj) : ((w.alloc o).alloc (.cells #[] 9)).drew.ownsRow w.heap.size 9 1 (.slice (some ⟨w.heap.size + 1, 0, none⟩) (0 : Nat) 0) 0 [] := own_of_blk (cur := []) (Blk.new' _ _ [] (by simp)).drew rfl rfl (by omega) (by omega) (by omega)
theorem FAt.gr {w w5 : World} {g : Nat} {n c : Nat} (h : w.grownBy w5 (Value.slice (some ⟨g, 0, none⟩) n c).ownBlock) : Only (· = g) w w5 := Only.grown (Only.refl _ _) h (fun k hk => .inl (by simp [Value.ownBlock] at hk; omega))
theorem FAt.first {w w2 w5 : World} {g : Nat} {A : Option Addr} {n c : Nat} {vs : List Value} (ho : Only (fun _ => False) w w2) (h1 : w5.ownsRow w.heap.size 9 1 (.slice A (0 + n) c) (0 + n) ([] ++ vs)) (h2 : w2.grownBy w5 (Value.slice (some ⟨g, 0, none⟩) 0 0).ownBlock) (hg : w.heap.size ≤ g) : FAt w w5 A n c vs := by
  rw [Nat.zero_add] at h1
  exact ⟨h1, Only.grown ho h2 (fun k hk => .inr (by simp [Value.ownBlock] at hk; omega))⟩
theorem FAt.second {w w5 w2 w6 : World} {p : Nat} {t : TypeId} {cs : List Value} {A1 A2 : Option Addr} {n c1 c2 : Nat} {vs : List Value} {u : Value} (h : FAt w w5 A1 n c1 vs) (hp : Blk w p t cs) (ho : Only (fun _ => False) w5 w2) (h1 : w6.ownsRow w.heap.size 9 1 (.slice A2 (n + 1) c2) (n + 1) (vs ++ [u])) (h2 : w2.grownBy w6 (Value.slice A1 n c1).ownBlock) :
    Blk w6 p t cs ∧ w6.ownsRow w.heap.size 9 1 (.slice A2 (n + 1) c2) (n + 1) (vs ++ [u]) ∧ Only (fun _ => False) w w6 := by
  have h3 : Only (fun _ => False) w w6 := Only.grown (h.only.trans ho (fun _ h => h.elim)) h2 (fun k hk => .inr (own_lt h.own k hk).1)
  exact ⟨hp.only h3 (fun h => h), h1, h3⟩

section
variable {w w' : World} {G : Nat → Prop} {p : Nat} {s : Sc}
/-- One cell of three numbers has turned. -/
theorem DAt.xy (h : DAt w p G s) (x y : Nat) (hx : x < s.c) (hy : y < s.rows.length) (ho : Only (· = p) w w') (hb : ∀ {A : Option Addr} {cap : Nat}, Blk w p 45 [.int .i64 (s.c : Int), .int .i64 (s.x : Int), .int .i64 (s.y : Int), .slice A s.rows.length cap] → Blk w' p 45 [.int .i64 (s.c : Int), .int .i64 (x : Int), .int .i64 (y : Int), .slice A s.rows.length cap]) :
    DGoes p G ⟨s.c, x, y, s.rows⟩ w w' := by
  obtain ⟨ad, cap, h1, h2, h3, h4, h5, h6⟩ := h.ex
  have hk := h.ok
  exact DGoes.mk ⟨hk.c1, hk.c2, hk.r1, hk.r2, hx, hy, hk.hr⟩ ho h.gp (hb h1) h2 h3 (h4.only ho (fun _ a e => by injection e with e; subst e; exact h6)) (.inl h5) h6
theorem DAt.cells (h : DAt w p G s) : ∃ A cap, w.cell? ⟨p, 0, none⟩ = some (.int .i64 (s.c : Int)) ∧ w.cell? ⟨p, 1, none⟩ = some (.int .i64 (s.x : Int)) ∧ w.cell? ⟨p, 2, none⟩ = some (.int .i64 (s.y : Int)) ∧ w.cell? ⟨p, 3, none⟩ = some (.slice A s.rows.length cap) ∧
    w.frozen? ⟨p, 1, none⟩ = false ∧ w.frozen? ⟨p, 2, none⟩ = false ∧ w.frozen? ⟨p, 3, none⟩ = false ∧ p < w.heap.size := by
  obtain ⟨ad, cap, h1, _⟩ := h.ex
  exact ⟨some ad, cap, h1.cell 0, h1.cell 1, h1.cell 2, h1.cell 3, h1.frozen 1, h1.frozen 2, h1.frozen 3, h1.lt⟩
end

theorem rnext_in {w : World} {G : Nat → Prop} {p : Nat} {s : Sc} (h : DAt w p G s) (hy : s.y + 1 < s.rows.length) :
    Calls Tryd.prog 27 #[.pointer (some ⟨p, 0, none⟩)] w fun e w' => e = .returned (.tuple #[]) ∧ Hid (DGoes p G s.next w w') := by
  obtain ⟨A, cap, c0, c1, c2, c3, f1, f2, f3, _⟩ := h.cells
  have hr2 := h.ok.r2
  have HG : Hid (∀ N, DGoes p G s.next w ((w.setCell ⟨p, 2, none⟩ (.int .i64 ((s.y : Int) + 1))).drewN N)) := fun N => by
    unfold Sc.next
    rw [if_pos hy]
    refine h.xy s.x (s.y + 1) h.ok.hx hy (((Only.refl (· = p) w).setCell (p := ⟨p, 2, none⟩) (.inl rfl) _).drewN N) (fun hb => ?_)
    rw [show ((s.y + 1 : Nat) : Int) = (s.y : Int) + 1 from by omega]
    exact (hb.setCell 2 _).drewN N
  have i1 : (s.y : Int) < (s.rows.length : Int) - 1 := by omega
  clear h
  generalize s.next = st at *
  generalize s.rows.length = R at *
  go_enter Tryd.func27, Tryd.ntmps27
  go_wp2_with fail
  go_quiet (fail)
  go_wp2
  refine bodyPost_ret (results_none rfl _ _ _) rfl ?_
  exact ⟨rfl, HG.out _⟩

theorem rnext_up {w : World} {G : Nat → Prop} {p : Nat} {s : Sc} (h : DAt w p G s) (hy : ¬ s.y + 1 < s.rows.length) :
    Calls Tryd.prog 27 #[.pointer (some ⟨p, 0, none⟩)] w fun e w' => e = .returned (.tuple #[]) ∧ Hid (DGoes p G s.next w w') := by
  obtain ⟨ad, cap, h1, h2, h3, h4, h5, h6⟩ := h.ex
  have hok := h.ok
  have hok' := hok.next
  have hnx : s.next = ⟨s.c, s.x, s.y, s.rows.drop 1 ++ [blank s.c]⟩ := by unfold Sc.next; rw [if_neg hy]
  rw [hnx] at hok' ⊢
  have hp := h.gp
  have hr1 := hok.r1
  have hr2 := hok.r2
  have hy2 := hok.hy
  have HBl := Lib.hid (fun W => blanks_any (show s.c ≤ 200 by have := hok.c2; omega) W)
  clear h hnx
  obtain ⟨c, x, y, rows⟩ := s
  dsimp only at *
  obtain ⟨n, hn⟩ : ∃ n, n + 1 = rows.length := ⟨rows.length - 1, by omega⟩
  obtain ⟨vs, hvs⟩ : ∃ vs, vs = (rows.drop 1).map S8 := ⟨_, rfl⟩
  have hvl : vs.length = n := by rw [hvs, List.length_map, List.length_drop]; omega
  have HV1 := Lib.hid (show ∀ u ∈ vs, u.oneCell' = true from fun u hu => by rw [hvs] at hu; obtain ⟨y, _, rfl⟩ := List.mem_map.1 hu; rfl)
  have HVL := Lib.hid hvl
  have HVS := Lib.hid hvs
  rw [← hn] at h1 h2 h4 hy hr1 hr2 hy2
  have i1 : ¬ (y : Int) < ((n + 1 : Nat) : Int) - 1 := by omega
  obtain ⟨D, hD⟩ : ∃ D, (if cap = 1 then some ad else some ⟨ad.block, ad.off + 1, none⟩) = D := ⟨_, rfl⟩
  have K : Hid (∀ W2, Only (fun _ => False) w W2 → (0 < n → ∃ ad, D = some ad ∧ ∀ (j : Nat) (u : Value), vs[j]? = some u → W2.cell? (ad.add j) = some u)) := fun W2 ho hn0 => by
    refine ⟨ad.add 1, by rw [← hD, if_neg (by omega)]; unfold Addr.add; simp, fun j u hj => ?_⟩
    rw [hvs, List.getElem?_map, List.getElem?_drop] at hj
    cases hl : rows[1 + j]? with
    | none => rw [hl] at hj; cases hj
    | some z =>
      rw [hl] at hj
      injection hj with hj
      subst hj
      obtain ⟨ad', e, hc⟩ := (h4.same ho).2 (by omega)
      injection e with e
      subst e
      rw [Go.Deep.add_add]
      exact hc (1 + j) z hl
  have HP := Lib.hid h1
  have HA := Lib.hid (And.intro hok' hp)
  have HL : Hid ((rows.drop 1 ++ [blank c]).length = n + 1) := by show _ = _; rw [List.length_append, List.length_drop, List.length_singleton]; omega
  have hpw := h1.lt
  have hHp : Hid (p < w.heap.size) := hpw
  have c0 : w.cell? ⟨p, 0, none⟩ = some (.int .i64 (c : Int)) := h1.cell 0
  have c2' : w.cell? ⟨p, 2, none⟩ = some (.int .i64 (y : Int)) := h1.cell 2
  have c3' : w.cell? ⟨p, 3, none⟩ = some (.slice (some ad) (n + 1) cap) := h1.cell 3
  clear h1 h4 h5 h6 hok hok' hp hvs hvl hn
  go_enter Tryd.func27, Tryd.ntmps27
  go_wp2_with fail
  go_quiet (fail)
  go_wp2
  obtain ⟨w4, hw4⟩ : ∃ w4, w4 = w.drewN nq := ⟨_, rfl⟩
  rw [← hw4]
  have HO4 : Hid (Only (fun _ => False) w w4) := by rw [hw4]; exact (Only.refl _ w).drewN nq
  have HP4 := Lib.hid (HP.out.only HO4.out (fun h => h))
  have hpb : p < w4.heap.size := HP4.out.lt
  have HZ4 : Hid (w.heap.size ≤ w4.heap.size) := HO4.out.size
  have K4 : Hid (∀ W2, Only (fun _ => False) w4 W2 → (0 < n → ∃ ad, D = some ad ∧ ∀ (j : Nat) (u : Value), vs[j]? = some u → W2.cell? (ad.add j) = some u)) := fun W2 ho => K.out W2 (HO4.out.trans ho (fun _ h => h.elim))
  have c0 : w4.cell? ⟨p, 0, none⟩ = some (.int .i64 (c : Int)) := HP4.out.cell 0
  have c3 : w4.cell? ⟨p, 3, none⟩ = some (.slice (some ad) (n + 1) cap) := HP4.out.cell 3
  have c0a : ∀ o, (w4.alloc o).cell? ⟨p, 0, none⟩ = some (.int .i64 (c : Int)) := fun o => (HP4.out.alloc o).cell 0
  have c3a : ∀ o, (w4.alloc o).cell? ⟨p, 3, none⟩ = some (.slice (some ad) (n + 1) cap) := fun o => (HP4.out.alloc o).cell 3
  have c0b : ∀ o o', ((w4.alloc o).alloc o').cell? ⟨p, 0, none⟩ = some (.int .i64 (c : Int)) := fun o o' => ((HP4.out.alloc o).alloc o').cell 0
  have c3b : ∀ o o', ((w4.alloc o).alloc o').cell? ⟨p, 3, none⟩ = some (.slice (some ad) (n + 1) cap) := fun o o' => ((HP4.out.alloc o).alloc o').cell 3
  have i2 : (1 : Int) ≤ (n : Int) + 1 := by omega
  clear hw4 c2' c3' HP K hpw hy hy2 i1 hr1
  generalize hbl : blank c = bl at *
  have V1 : Hid (∀ W2, Only (· = w4.heap.size) ((w4.alloc (.cells #[] 9)).alloc (.cells #[.string ⟨bl.toArray⟩] 9)).drew W2 → W2.cell? ⟨w4.heap.size + 1, 0, none⟩ = some (.string ⟨bl.toArray⟩)) := fun W2 ho => ((Blk.new' (w4.alloc (.cells #[] 9)) 9 [.string ⟨bl.toArray⟩] (n := w4.heap.size + 1) (by simp)).drew.only ho (by omega)).cell 0
  have V2 : Hid (∀ W2, Only (· = w4.heap.size + 1) ((w4.alloc (.cells #[.string ⟨bl.toArray⟩] 9)).alloc (.cells #[] 9)).drew W2 → W2.cell? ⟨w4.heap.size, 0, none⟩ = some (.string ⟨bl.toArray⟩)) := fun W2 ho => (((Blk.new w4 9 [.string ⟨bl.toArray⟩]).alloc _).drew.only ho (by omega)).cell 0
  go_region_law (first
    | (go_simp; go_at_call 31; (with_reducible refine (HBl.out _).mono ?_); rintro e w' ⟨rfl, e2⟩; subst w')
    | ((with_reducible show (if Region.wanted ⟨some 27, _, _, _, _, _⟩ _ = true then _ else _)); refine step_rowR rfl (.tmp 21) (.tmp 26) 43 rfl 9 _ 16 Tryd.underlying43 info_str rfl (by omega) w4.heap.size _ 0 0 [] rfl (by first | exact FAt.zero1 w4 | exact FAt.zero2 w4 _ | exact FAt.zero3 w4 _) D n (cap - 1) vs rfl HVL.out (K4.out _ (by first | exact FAt.o1 w4 _ | exact FAt.o2 w4 _ _)) HV1.out (by omega) (by simp; try omega) ?_; intro A1 k1 w5 hq1 hq2; have F := Lib.hid (FAt.first (by first | exact FAt.o1 w4 _ | exact FAt.o2 w4 _ _) hq1.out hq2.out (by omega)); have HG := Lib.hid (FAt.gr hq2.out); have e0 : w5.cell? ⟨p, 0, none⟩ = some (.int .i64 (c : Int)) := (HP4.out.only F.out.only (fun h => h)).cell 0; clear hq1 hq2)
    | ((with_reducible show (if Region.wanted ⟨some 34, _, _, _, _, _⟩ _ = true then _ else _)); (refine step_oneR rfl (.tmp 27) (.tmp 33) 43 rfl 9 _ 16 Tryd.underlying43 info_str rfl (by omega) w4.heap.size A1 n k1 vs rfl (by first | exact F.out.own | exact own_same F.out.own ((Only.refl _ w5).alloc _) | exact own_same F.out.own (((Only.refl _ w5).alloc _).drew)) _ (.string ⟨bl.toArray⟩) rfl (by first | exact V1.out _ HG.out | exact V2.out _ HG.out | exact (Blk.new w5 9 [.string ⟨bl.toArray⟩]).cell 0) rfl (by omega) (by first | exact F.out.only.size | exact (F.out.only.alloc _).size) ?_); intro A2 k2 w6 hq1 hq2; have F6 := Lib.hid (FAt.second F.out HP4.out (by first | exact Only.refl _ _ | exact (Only.refl _ _).alloc _ | exact ((Only.refl _ _).alloc _).drew) hq1.out hq2.out); have d3 : w6.cell? ⟨p, 3, none⟩ = some (.slice (some ad) (n + 1) cap) := F6.out.1.cell 3; have f6 : w6.frozen? ⟨p, 3, none⟩ = false := F6.out.1.frozen 3; clear hq1 hq2))
  all_goals go_wp2
  all_goals
    refine bodyPost_end (results_none rfl _ _ _) rfl ?_
    subst hbl
    obtain ⟨hok', hp⟩ := HA.out
    obtain ⟨hb6, hn6, ho6⟩ := F6.out
    have ho7 : Only (· = p) w6 (w6.setCell ⟨p, 3, none⟩ (.slice A2 (n + 1) k2)) := (Only.refl (· = p) w6).setCell (p := ⟨p, 3, none⟩) (.inl rfl) _
    have hn7 := own_only hn6 ho7 (fun q hq e => own_ne hn6 hb6 (by decide) q hq e)
    have hle := own_le hn7
    obtain ⟨g, e, hg, _, _⟩ := own_at hn7 (by omega)
    subst e
    have hgw : w.heap.size ≤ g := Nat.le_trans HZ4.out hg
    refine ⟨rfl, DGoes.mk hok' (((HO4.out.mono (fun _ h => h.elim)).trans (T := fun _ => False) ho6 (fun _ h => h.elim)).trans ho7 (fun i hi => .inl hi)) hp (ad := ⟨g, 0, none⟩) (cap := k2) ?_ ?_ hle.2 ?_ (.inr hgw) (show g ≠ p from fun e => by subst e; omega)⟩
    · rw [HL.out]; exact hb6.setCell 3 _
    · rw [HL.out]; exact hle.1
    · rw [HL.out]
      refine TSrc.of_own (e := 9) (B := w4.heap.size) (c := k2) ?_
      rw [List.map_append, ← HVS.out]
      exact hn7
theorem rnext_any {w : World} {G : Nat → Prop} {p : Nat} {s : Sc} (h : DAt w p G s) :
    Calls Tryd.prog 27 #[.pointer (some ⟨p, 0, none⟩)] w fun e w' => e = .returned (.tuple #[]) ∧ Hid (DGoes p G s.next w w') := by
  by_cases hy : s.y + 1 < s.rows.length
  · exact rnext_in h hy
  · exact rnext_up h hy
end Go.Proofs.YtgknhojjnnljkaaDoor
