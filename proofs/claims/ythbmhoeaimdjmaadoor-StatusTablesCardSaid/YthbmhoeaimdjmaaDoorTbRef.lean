/- Layer 11's document, walked: the rows of options that were ever spoken of: State, set, told. -/
import Derived.Test.YthbmhoeaimdjmaaDoorTbRAsk
import Derived.Test.YthbmhoeaimdjmaaDoorTbActs
import Derived.Test.YthbmhoeaimdjmaaDoorTbRefSay
namespace Go.Proofs.YthbmhoeaimdjmaaDoor
open Go Go.RowKit
set_option maxRecDepth 100000
set_option maxHeartbeats 4000000

def rqC (r : Rq) : List Value := [.int .i64 (r.s : Int), .int .i64 (r.o : Int), .int .i64 (r.q.kind : Int), .bool r.q.opp]
def rowsC (l : List Rq) : List Value := l.flatMap rqC
theorem rowsC_cons (r : Rq) (l : List Rq) : rowsC (r :: l) = rqC r ++ rowsC l := rfl
theorem rowsC_append (l m : List Rq) : rowsC (l ++ m) = rowsC l ++ rowsC m := by simp [rowsC]
theorem rqC_one (r : Rq) : ∀ v ∈ rqC r, v.oneCell' = true := by
  intro v hv
  simp only [rqC, List.mem_cons, List.not_mem_nil, or_false] at hv
  rcases hv with rfl | rfl | rfl | rfl <;> rfl
theorem rowsC_at {x : Rq} {i : Nat} {v : Value} (hv : (rqC x)[i]? = some v) : ∀ {l : List Rq} {k : Nat}, l[k]? = some x → (rowsC l)[k * 4 + i]? = some v
  | [], k, h => by simp at h
  | r :: l, 0, h => by
    simp only [List.getElem?_cons_zero, Option.some.injEq] at h
    subst h
    rw [rowsC_cons, Nat.zero_mul, Nat.zero_add]
    have hi : i < (rqC r).length := (List.getElem?_eq_some_iff.1 hv).1
    rw [List.getElem?_append_left hi]
    exact hv
  | r :: l, k + 1, h => by
    simp only [List.getElem?_cons_succ] at h
    rw [rowsC_cons, List.getElem?_append_right (by simp [rqC]; omega)]
    have := rowsC_at hv h
    rw [← this]
    congr 1
    simp [rqC]
    omega
theorem info_rrow : (Tryd.prog.info? 130).map (fun i => (i.zero, i.size, i.bytes)) = some (some (.agg #[.int .i64 0, .int .i64 0, .int .i64 0, .bool false]), 4, 32) := by kernel_rfl
theorem size_rrow : (Tryd.prog.info? 130).map (·.size) = some 4 := by kernel_rfl
theorem rblk_grown {w w' : World} {g : Nat} {t : TypeId} {cs : List Value} {row : Option Nat} (h : Blk w g t cs) (hg : w.grownBy w' row) (hne : row ≠ some g) : Blk w' g t cs := (hg.block g h.lt (fun e => hne e.symm)).trans h

/-- The document's table. -/
structure RfV (w : World) (B r : Nat) (P : Po) (l : List Rq) (T : Tb) (A : Option Addr) (n c : Nat) : Prop where
  blk : Blk w r 52 [.slice P.a1 P.n1 P.c1, .slice P.a2 P.n2 P.c2, .slice A n c, .int .i64 (T.heard : Int), .int .i64 (T.asked : Int), .int .i64 (T.sent : Int)]
  len : l.length = n
  row : w.ownsRow B 130 4 (.slice A n c) n (rowsC l)
def RfAt (w : World) (B r : Nat) (P : Po) (l : List Rq) (T : Tb) : Prop := ∃ A n c, RfV w B r P l T A n c
section
variable {w w' : World} {B r : Nat} {P : Po} {l : List Rq} {T : Tb} {A : Option Addr} {n c : Nat}
theorem RfV.beside {p : Nat} {t : TypeId} {cs : List Value} (h : RfV w B r P l T A n c) (hb : Blk w p t cs) (ht : 130 ≠ t) (hne : r ≠ p) (ho : Only (· = p) w w') : RfV w' B r P l T A n c :=
  ⟨h.blk.only ho hne, h.len, own_only h.row ho (fun k hk => own_ne h.row hb ht k hk)⟩
theorem RfV.same (h : RfV w B r P l T A n c) (ho : Only (fun _ => False) w w') : RfV w' B r P l T A n c := ⟨h.blk.only ho (fun h => h), h.len, own_same h.row ho⟩
theorem RfAt.same (h : RfAt w B r P l T) (ho : Only (fun _ => False) w w') : RfAt w' B r P l T := by
  obtain ⟨A, n, c, h⟩ := h
  exact ⟨A, n, c, h.same ho⟩
theorem RfAt.beside {p : Nat} {t : TypeId} {cs : List Value} (h : RfAt w B r P l T) (hb : Blk w p t cs) (ht : 130 ≠ t) (hne : r ≠ p) (ho : Only (· = p) w w') : RfAt w' B r P l T := by
  obtain ⟨A, n, c, h⟩ := h
  exact ⟨A, n, c, h.beside hb ht hne ho⟩
theorem RfAt.blk (h : RfAt w B r P l T) : ∃ cs, Blk w r 52 cs := by
  obtain ⟨A, n, c, h⟩ := h
  exact ⟨_, h.blk⟩
/-- A row of it. -/
theorem RfV.at_ (h : RfV w B r P l T A n c) {k : Nat} {x : Rq} (hx : l[k]? = some x) (ho : Only (fun _ => False) w w') : ∃ g, A = some ⟨g, 0, none⟩ ∧ w'.rangeAt g (k * 4) (rqC x) := by
  have hk : k < n := by rw [← h.len]; exact (List.getElem?_eq_some_iff.1 hx).1
  obtain ⟨g, e, _, _, hc⟩ := own_at (own_same h.row ho) (by omega)
  exact ⟨g, e, fun i v hv => hc _ _ (rowsC_at hv hx)⟩
end

theorem rstate_any {w : World} {B r : Nat} {P : Po} {l : List Rq} {T : Tb} (h : RfAt w B r P l T) (s o : Int) : Calls Tryd.prog 42 #[.pointer (some ⟨r, 0, none⟩), .int .i64 s, .int .i64 o] w fun e w' =>
    e = .returned (.agg #[.int .i64 ((lookR l s o).kind : Int), .bool (lookR l s o).opp]) ∧ Only (fun _ => False) w w' := by
  obtain ⟨A, n, c, h⟩ := h
  have hc := own_le h.row
  have c2 : ∀ ob, (w.alloc ob).cell? ⟨r, 2, none⟩ = some (.slice A n c) := fun ob => (h.blk.alloc ob).cell 2
  have H := Lib.hid h
  have hn63 : (n : Int) ≤ 9223372036854775807 := by omega
  obtain ⟨fk, hfk⟩ : ∃ x, x = ((lookR l s o).kind : Int) := ⟨_, rfl⟩
  obtain ⟨fo, hfo⟩ : ∃ x, x = (lookR l s o).opp := ⟨_, rfl⟩
  have HK := Lib.hid hfk
  have HF := Lib.hid hfo
  rw [← hfk, ← hfo]
  clear h hc hfk hfo
  go_enter Tryd.func42, Tryd.ntmps42
  go_wp2
  obtain ⟨N, hN⟩ : ∃ N, N = w.heap.size := ⟨_, rfl⟩
  obtain ⟨W0, hW0⟩ : ∃ W0, W0 = w.alloc (.cells #[.int .i64 0, .bool false] 103) := ⟨_, rfl⟩
  have HB0 : Hid (Blk W0 N 103 [.int .i64 0, .bool false]) := by rw [hW0, hN]; exact Blk.new w _ [.int .i64 0, .bool false]
  have HO0 : Hid (Only (fun _ => False) w W0) := by rw [hW0]; exact alloc_only _
  have HNw : Hid (w.heap.size = N) := hN.symm
  rw [← hN, ← hW0]
  clear hN hW0 c2
  go_loopw [14] (fun i W => ∃ k : Nat, k ≤ n ∧ i = .int .i64 (k : Int) ∧ Hid (Only (fun _ => False) W0 W ∧ lookR (l.drop k) s o = lookR l s o)) (fun i _ => n - (intOf i).toNat)
  case atStart => exact ⟨0, Nat.zero_le _, rfl, Only.refl _ _, rfl⟩
  case round =>
    obtain ⟨k, hk, rfl, hrel⟩ := hrel
    have HBr := Lib.hid (HB0.out.only hrel.out.1 (fun h => h))
    by_cases hlt : k < n
    · have hlt2 : (k : Int) < (n : Int) := by omega
      obtain ⟨x, hx⟩ : ∃ x, l[k]? = some x := ⟨_, List.getElem?_eq_getElem (by rw [H.out.len]; exact hlt)⟩
      obtain ⟨g, rfl, hrg⟩ := H.out.at_ hx (HO0.out.trans hrel.out.1 (fun _ h => h.elim))
      have hd : l.drop k = x :: l.drop (k + 1) := by
        obtain ⟨hl, e⟩ := List.getElem?_eq_some_iff.1 hx
        rw [List.drop_eq_getElem_cons hl, e]
      have hlk := hrel.out.2
      obtain ⟨xs, xo, xq⟩ := x
      have hlk : (bif decide ((xs : Int) = s) && decide ((xo : Int) = o) then xq else lookR (l.drop (k + 1)) s o) = lookR l s o := by
        rw [← hlk, hd, lookR, cond_eq_ite]
        rfl
      unfold rqC at hrg
      simp only at hrg
      obtain ⟨zs, hzs⟩ : ∃ z, z = (xs : Int) := ⟨_, rfl⟩
      obtain ⟨zo, hzo⟩ : ∃ z, z = (xo : Int) := ⟨_, rfl⟩
      obtain ⟨zk, hzk⟩ : ∃ z, z = (xq.kind : Int) := ⟨_, rfl⟩
      obtain ⟨zp, hzp⟩ : ∃ z, z = xq.opp := ⟨_, rfl⟩
      rw [← hzs, ← hzo, ← hzk, ← hzp] at hrg
      rw [← hzs, ← hzo] at hlk
      obtain ⟨p1, hp1⟩ : ∃ p1, decide (zs = s) = p1 := ⟨_, rfl⟩
      obtain ⟨p2, hp2⟩ : ∃ p2, decide (zo = o) = p2 := ⟨_, rfl⟩
      have hq1 : (zs == s) = p1 := by rw [← hp1]; rfl
      have hq2 : (zo == o) = p2 := by rw [← hp2]; rfl
      rw [hp1, hp2] at hlk
      have HLk := Lib.hid hlk
      have HRg := Lib.hid hrg
      have HZk := Lib.hid hzk
      have HZp := Lib.hid hzp
      clear hx hd hlk hrg hzs hzo hzk hzp
      by_cases hpp : p1 = true ∧ p2 = true
      · obtain ⟨rfl, rfl⟩ := hpp
        go_wp2_with (first
          | ((with_reducible show wpList _ _ _ (⟨some 17, _, _, _, _, _⟩ :: _) _ _); refine wpList_load_mid rfl 130 _ rfl g (k * 4) rfl [.int .i64 zs, .int .i64 zo, .int .i64 zk, .bool zp] _ HRg.out Tryd.underlying130 rfl size_rrow ?_)
          | ((with_reducible show wpList _ _ _ (⟨none, .store 103 _ _, _, _, _, _⟩ :: _) _ _); refine step_store rfl 103 _ _ rfl N rfl [.int .i64 zk, .bool zp] rfl _ [.int .i64 0, .bool false] (HBr.out.alloc _) size_rstate rfl (fun v hv => by simp at hv; rcases hv with rfl | rfl <;> rfl) ?_; intro w4 hB4 hz4 ho4)
          | fail)
        refine ret_cell1 rfl N rfl _ [.int .i64 zk, .bool zp] _ hB4.out Tryd.underlying103 rfl size_rstate rfl ?_
        refine ⟨?_, (HO0.out.trans (hrel.out.1.alloc _) (fun _ h => h.elim)).trans ho4 (fun i hi => .inr (by have := HNw.out; omega))⟩
        have hlk := HLk.out
        simp only [Bool.and_true, cond_true] at hlk
        rw [HK.out, HF.out, ← hlk, HZk.out, HZp.out]
      · have hl2 : lookR (l.drop (k + 1)) s o = lookR l s o := by
          have hlk := HLk.out
          rwa [show (p1 && p2) = false by cases p1 <;> cases p2 <;> simp_all, cond_false] at hlk
        have HL2 := Lib.hid hl2
        clear hl2 HLk
        rcases (show p1 = false ∨ (p1 = true ∧ p2 = false) by cases p1 <;> cases p2 <;> simp_all) with rfl | ⟨rfl, rfl⟩
        all_goals
          clear hpp
          go_wp2_with (first
            | ((with_reducible show wpList _ _ _ (⟨some 17, _, _, _, _, _⟩ :: _) _ _); refine wpList_load_mid rfl 130 _ rfl g (k * 4) rfl [.int .i64 zs, .int .i64 zo, .int .i64 zk, .bool zp] _ HRg.out Tryd.underlying130 rfl size_rrow ?_)
            | fail)
          go_roundw
          case rel => exact ⟨k + 1, by omega, by go_num, hrel.out.1.alloc _, HL2.out⟩
          case measure => simp [intOf]; omega
    · obtain rfl : k = n := by omega
      have hlk := hrel.out.2
      rw [List.drop_eq_nil_of_le (by rw [H.out.len]; exact Nat.le_refl _)] at hlk
      have HLk := Lib.hid hlk
      clear hlk hlt
      go_wp2_with (first
        | ((with_reducible show wpList _ _ _ (⟨none, .store 103 _ _, _, _, _, _⟩ :: _) _ _); refine step_store rfl 103 _ _ rfl N rfl [.int .i64 0, .bool false] rfl _ [.int .i64 0, .bool false] HBr.out size_rstate rfl (fun v hv => by simp at hv; rcases hv with rfl | rfl <;> rfl) ?_; intro w4 hB4 hz4 ho4)
        | fail)
      refine ret_cell1 rfl N rfl _ [.int .i64 0, .bool false] _ hB4.out Tryd.underlying103 rfl size_rstate rfl ?_
      refine ⟨?_, (HO0.out.trans hrel.out.1 (fun _ h => h.elim)).trans ho4 (fun i hi => .inr (by have := HNw.out; omega))⟩
      rw [HK.out, HF.out, ← HLk.out]
      rfl

theorem rtold_any {w : World} {B r : Nat} {P : Po} {l : List Rq} {T : Tb} (h : RfAt w B r P l T) {s k : Nat} (hs : s < 2) (hk : k ≤ 2) (hn : T.sent ≤ 1000000) : Calls Tryd.prog 45 #[.pointer (some ⟨r, 0, none⟩), .int .i64 (s : Int), .int .i64 (k : Int)] w fun e w' =>
    e = .returned (.int .i64 (toldV s k : Int)) ∧ RfAt w' B r P l { T with sent := T.sent + sentN k } ∧ Only (· = r) w w' := by
  obtain ⟨A, n, c, h⟩ := h
  have H := Lib.hid h
  by_cases h0 : k = 0
  · subst h0
    clear h
    go_enter Tryd.func45, Tryd.ntmps45
    go_wp2
    go_ret
    exact ⟨rfl, ⟨A, n, c, H.out.blk, H.out.len, H.out.row⟩, Only.refl _ _⟩
  · have e0 : ((k : Int) == 0) = false := by simp; omega
    have e0' : decide ((k : Int) = 0) = false := by simp; omega
    have c5 : w.cell? ⟨r, 5, none⟩ = some (.int .i64 (T.sent : Int)) := h.blk.cell 5
    have f5 := h.blk.frozen 5
    have et : (toldV s k : Int) = 250 + 2 * (s : Int) + (k : Int) := by unfold toldV; rw [if_neg h0]; omega
    have es : sentN k = 1 := by unfold sentN; rw [if_neg h0]
    rw [et, es]
    have hk1 : (k : Int) ≤ 2 := by omega
    have hs1 : (s : Int) ≤ 1 := by omega
    obtain ⟨ts, hts⟩ : ∃ x, x = T.sent := ⟨_, rfl⟩
    rw [← hts] at c5 hn
    have HTs := Lib.hid hts
    clear h et es hts h0
    go_enter Tryd.func45, Tryd.ntmps45
    go_wp2
    go_ret
    have ho : Only (· = r) w (w.setCell ⟨r, 5, none⟩ (.int .i64 ((ts : Int) + 1))) := (Only.refl (· = r) w).setCell (p := ⟨r, 5, none⟩) (.inl rfl) _
    refine ⟨rfl, ⟨A, n, c, ?_, H.out.len, own_only H.out.row ho (fun k hk => own_ne H.out.row H.out.blk (by decide) k hk)⟩, ho⟩
    have := H.out.blk.setCell 5 (.int .i64 ((ts : Int) + 1))
    rw [← HTs.out]
    exact this
end Go.Proofs.YthbmhoeaimdjmaaDoor
