/- SlcRests: a side hears the first triple of a row, and what it tells stands behind the others. -/
import Derived.Test.YtojnhheeholaeaaDoorScNew
import Derived.Test.YtojnhheeholaeaaDoorScRest
import Derived.Test.YtojnhheeholaeaaDoorRowK
import Derived.Deep.RegionHeldLaw
namespace Go.Proofs.YtojnhheeholaeaaDoor
open Go Go.RowKit
set_option maxRecDepth 100000
set_option maxHeartbeats 4000000

theorem info_tri : (Tryd.prog.info? 34).map (fun i => (i.zero, i.size, i.bytes)) = some (some (.agg (Tr.cs Tr.zero).toArray), 4, 32) := by kernel_rfl
def csT (L : List Tr) : List Value := L.flatMap Tr.cs
theorem csT_cons (t : Tr) (L : List Tr) : csT (t :: L) = t.cs ++ csT L := rfl
theorem csT_append (L M : List Tr) : csT (L ++ M) = csT L ++ csT M := by simp [csT]
theorem csT_one (t : Tr) : csT [t] = t.cs := by simp [csT]
theorem csT_len (L : List Tr) : (csT L).length = L.length * 4 := by
  induction L with
  | nil => rfl
  | cons t L ih => rw [csT_cons, List.length_append, ih]; simp; omega
theorem csT_cell (L : List Tr) : ∀ v ∈ csT L, v.oneCell' = true := by
  intro v hv
  unfold csT at hv
  rw [List.mem_flatMap] at hv
  obtain ⟨t, _, hv⟩ := hv
  exact t.cs_one v hv
/-- A row of triples. -/
def RowT (w : World) (B : Nat) (v : Value) (L : List Tr) : Prop := RowAt w B 34 4 v L.length (csT L)

theorem RowT.beside {w w' : World} {B p : Nat} {v : Value} {L : List Tr} {S : Sd} (h : RowT w B v L) (hp : SdAt w p S) (ho : Only (· = p) w w') : RowT w' B v L := by
  obtain ⟨cs, hb, _⟩ := hp
  exact RowAt.only h ho (fun k hk => RowAt.ne h hb (by decide) k hk)
theorem RowT.same {w w' : World} {B : Nat} {v : Value} {L : List Tr} (h : RowT w B v L) (ho : Only (fun _ => False) w w') : RowT w' B v L := RowAt.only h ho (fun _ _ h => h)
theorem RowT.tail {w : World} {B g o m c : Nat} {t : Tr} {L : List Tr} {D : Option Addr} (h : RowT w B (.slice (some ⟨g, o, none⟩) (m + 1) c) (t :: L)) (hm : m = L.length) (hD : (if c = 1 then some (⟨g, o, none⟩ : Addr) else some ⟨g, o + 4, none⟩) = D) :
    RowT w B (.slice D m (c - 1)) L ∧ ∀ k, (Value.slice D m (c - 1)).ownBlock = some k → (Value.slice (some ⟨g, o, none⟩) (m + 1) c).ownBlock = some k := by
  subst hm
  have h' : RowAt w B 34 4 (.slice (some ⟨g, o, none⟩) (L.length + 1) c) (L.length + 1) (t.cs ++ csT L) := h
  by_cases hc : c = 1
  · rw [if_pos hc] at hD
    subst hD
    exact ⟨RowAt.tailK h' rfl o (.inr ⟨hc, rfl⟩), fun k hk => hk⟩
  · rw [if_neg hc] at hD
    subst hD
    exact ⟨RowAt.tailK h' rfl (o + 4) (.inl rfl), fun k hk => hk⟩

/-- Between the two appends: the first one's row is the call's own; nothing else has turned. -/
structure GAt (w w' : World) (A : Option Addr) (n c : Nat) (vs : List Value) : Prop where
  own : w'.ownsRow w.heap.size 34 4 (.slice A n c) n vs
  only : Only (fun _ => False) w w'
theorem GAt.o0 (w : World) : Only (fun _ => False) w w.drew := (Only.refl _ _).drew
theorem GAt.o1 (w : World) (o : Obj) : Only (fun _ => False) w (w.alloc o).drew := ((Only.refl _ _).alloc _).drew
theorem GAt.o2 (w : World) (o o' : Obj) : Only (fun _ => False) w ((w.alloc o).alloc o').drew := (((Only.refl _ _).alloc _).alloc _).drew
theorem GAt.zero1 (w : World) : (w.alloc (.cells #[] 34)).drew.ownsRow w.heap.size 34 4 (.slice (some ⟨w.heap.size, 0, none⟩) (0 : Nat) 0) 0 [] := own_of_blk (cur := []) (Blk.new w _ []).drew rfl rfl (by omega) (by omega) (Nat.le_refl _)
theorem GAt.zero2 (w : World) (o : Obj) : ((w.alloc (.cells #[] 34)).alloc o).drew.ownsRow w.heap.size 34 4 (.slice (some ⟨w.heap.size, 0, none⟩) (0 : Nat) 0) 0 [] := own_of_blk (cur := []) ((Blk.new w _ []).alloc o).drew rfl rfl (by omega) (by omega) (Nat.le_refl _)
theorem GAt.zero3 (w : World) (o : Obj) : ((w.alloc o).alloc (.cells #[] 34)).drew.ownsRow w.heap.size 34 4 (.slice (some ⟨w.heap.size + 1, 0, none⟩) (0 : Nat) 0) 0 [] := own_of_blk (cur := []) (Blk.new' _ _ [] (by simp)).drew rfl rfl (by omega) (by omega) (by omega)
theorem GAt.gr {w w5 : World} {g : Nat} {n c : Nat} (h : w.grownBy w5 (Value.slice (some ⟨g, 0, none⟩) n c).ownBlock) : Only (· = g) w w5 := Only.grown (Only.refl _ _) h (fun k hk => .inl (by simp [Value.ownBlock] at hk; omega))
theorem GAt.first {w w2 w5 : World} {g : Nat} {A : Option Addr} {n c : Nat} {vs : List Value} (ho : Only (fun _ => False) w w2) (h1 : w5.ownsRow w.heap.size 34 4 (.slice A (0 + n) c) (0 + n) ([] ++ vs)) (h2 : w2.grownBy w5 (Value.slice (some ⟨g, 0, none⟩) 0 0).ownBlock) (hg : w.heap.size ≤ g) : GAt w w5 A n c vs := by
  rw [Nat.zero_add] at h1
  exact ⟨h1, Only.grown ho h2 (fun k hk => .inr (by simp [Value.ownBlock] at hk; omega))⟩
/-- Behind the second append. -/
theorem GAt.second {w w5 w2 w6 : World} {A1 A2 : Option Addr} {n c1 c2 : Nat} {vs us : List Value} (h : GAt w w5 A1 n c1 vs) (ho : Only (fun _ => False) w5 w2) (h1 : w6.ownsRow w.heap.size 34 4 (.slice A2 (n + 1) c2) (n + 1) (vs ++ us)) (h2 : w2.grownBy w6 (Value.slice A1 n c1).ownBlock) : GAt w w6 A2 (n + 1) c2 (vs ++ us) :=
  ⟨h1, Only.grown (h.only.trans ho (fun _ h => h.elim)) h2 (fun k hk => .inr (own_lt h.own k hk).1)⟩

theorem heard_nil (W : World) (p : Nat) (A1 A2 : Option Addr) (c1 n2 c2 : Nat) : Calls Tryd.prog 25 #[.pointer (some ⟨p, 0, none⟩), .slice A1 0 c1, .slice A2 n2 c2] W fun e w' => e = .returned (.tuple #[.slice A1 0 c1, .slice A2 n2 c2]) ∧ w' = W := by
  go_enter Tryd.func25, Tryd.ntmps25
  go_wp2
  go_ret2
  exact ⟨rfl, rfl⟩

theorem heard_some {W : World} {p B : Nat} {S : Sd} (hS : SdAt W p S) {A1 A2 : Option Addr} {n1 c1 n2 c2 : Nat} {t : Tr} {L1 L2 : List Tr} (h1 : RowT W B (.slice A1 n1 c1) (t :: L1)) (h2 : RowT W B (.slice A2 n2 c2) L2) (hl1 : n1 = L1.length + 1) (hl2 : n2 = L2.length) (hn : L2.length ≤ 1000) (hB : B ≤ W.heap.size) :
    Calls Tryd.prog 25 #[.pointer (some ⟨p, 0, none⟩), .slice A1 n1 c1, .slice A2 n2 c2] W fun e w' => ∃ A1' c1' A2' n2' c2', e = .returned (.tuple #[.slice A1' L1.length c1', .slice A2' n2' c2']) ∧ SdAt w' p (hearS S t).1 ∧
      RowT w' B (.slice A1' L1.length c1') L1 ∧ n2' = (L2 ++ outs (hearS S t)).length ∧ RowT w' B (.slice A2' n2' c2') (L2 ++ outs (hearS S t)) ∧
      (∀ k, (Value.slice A1' L1.length c1').ownBlock = some k → (Value.slice A1 n1 c1).ownBlock = some k) ∧ (∀ k, (Value.slice A2' n2' c2').ownBlock = some k → (Value.slice A2 n2 c2).ownBlock = some k ∨ W.heap.size ≤ k) ∧ Only (· = p) W w' := by
  subst hl1 hl2
  obtain ⟨g, o, c, hv, hnc, hc63, hBg, hgl, hcell⟩ := h1.places (by simp)
  injection hv with hA _ hc
  subst hA hc
  obtain ⟨_, _, hv2, hn2, hc2⟩ := h2.form
  injection hv2 with hA2 _ hc'
  subst hA2 hc'
  simp only [List.length_cons] at hnc
  have HH := Lib.hid (fun W (h : SdAt W p S) => hear_any h t)
  obtain ⟨S', u, is, hu⟩ : ∃ S' u is, hearS S t = (S', u, is) := ⟨_, _, _, rfl⟩
  rw [hu] at HH ⊢
  obtain ⟨tf, ⟨tl, tv⟩, ta⟩ := t
  obtain ⟨uf, ⟨ul, uv⟩, ua⟩ := u
  have HRg : Hid (W.rangeAt g (o + 0) [.int .i64 tf, .int .i64 tl, .int .i64 tv, .bool ta]) := fun j v hj => by
    rw [Nat.add_zero]
    refine hcell j v ?_
    rw [csT_cons]
    rw [List.getElem?_append_left (by have := (List.getElem?_eq_some_iff.1 hj).1; simpa using this)]
    exact hj
  have H1 := Lib.hid h1
  have H2 := Lib.hid h2
  have HS := Lib.hid hS
  have hi0 : (0 : Int) < ((L1.length + 1 : Nat) : Int) := by omega
  have hz0 : (((L1.length + 1 : Nat) : Int) == 0) = false := by simp; omega
  obtain ⟨m, hm⟩ : ∃ m, m = L1.length := ⟨_, rfl⟩
  obtain ⟨n, hnn⟩ : ∃ n, n = L2.length := ⟨_, rfl⟩
  rw [← hm] at H1 hi0 hz0 hnc ⊢
  rw [← hnn] at H2 hn hn2 ⊢
  have HM := Lib.hid hm
  have HN := Lib.hid hnn
  clear h1 h2 hS hcell hu hm hnn
  obtain ⟨D, hD⟩ : ∃ D, (if c1 = 1 then some (⟨g, o, none⟩ : Addr) else some ⟨g, o + 4, none⟩) = D := ⟨_, rfl⟩
  have HD := Lib.hid hD
  cases is
  · go_enter Tryd.func25, Tryd.ntmps25
    go_wp2_with (first
      | ((with_reducible show wpList _ _ _ (⟨some 19, _, _, _, _, _⟩ :: _) _ _); refine wpList_load_mid rfl 34 _ rfl g (o + 0) rfl [.int .i64 tf, .int .i64 tl, .int .i64 tv, .bool ta] _ HRg.out Tryd.underlying34 rfl size_tri ?_)
      | (go_at_call 10; refine (HH.out _ HS.out).mono ?_; rintro e w3 ⟨rfl, hs3, ho3⟩; have HS3 := Lib.hid hs3; have HO3 := Lib.hid ho3; clear hs3 ho3)
      | fail)
    go_ret2
    have hO : Only (· = p) W (w3.alloc (.cells #[.int .i64 uf, .int .i64 ul, .int .i64 uv, .bool ua] 34)) := HO3.out.alloc _
    obtain ⟨r1, r2⟩ := (H1.out.beside HS.out hO).tail HM.out HD.out
    refine ⟨D, c1 - 1, _, n, c2, rfl, HS3.out.same ((Only.refl _ _).alloc _), r1, ?_, ?_, r2, fun k hk => .inl hk, hO⟩
    · rw [HN.out]
      simp [outs]
    · have := H2.out.beside HS.out hO
      rw [show L2 ++ outs (S', (⟨uf, ⟨ul, uv⟩, ua⟩ : Tr), false) = L2 by simp [outs]]
      exact this
  · go_enter Tryd.func25, Tryd.ntmps25
    go_wp2_with (first
      | ((with_reducible show wpList _ _ _ (⟨some 19, _, _, _, _, _⟩ :: _) _ _); refine wpList_load_mid rfl 34 _ rfl g (o + 0) rfl [.int .i64 tf, .int .i64 tl, .int .i64 tv, .bool ta] _ HRg.out Tryd.underlying34 rfl size_tri ?_)
      | (go_at_call 10; refine (HH.out _ HS.out).mono ?_; rintro e w3 ⟨rfl, hs3, ho3⟩; have HS3 := Lib.hid hs3; have HO3 := Lib.hid ho3; clear hs3 ho3)
      | fail)
    obtain ⟨T, hT⟩ : ∃ T, T = w3.heap.size := ⟨_, rfl⟩
    have hBT := Blk.new w3 34 [.int .i64 uf, .int .i64 ul, .int .i64 uv, .bool ua]
    have HO4 : Hid (Only (· = p) W (w3.alloc (.cells #[.int .i64 uf, .int .i64 ul, .int .i64 uv, .bool ua] 34))) := HO3.out.alloc _
    have HS4 := Lib.hid (HS3.out.same ((Only.refl _ _).alloc (.cells #[.int .i64 uf, .int .i64 ul, .int .i64 uv, .bool ua] 34)))
    rw [← hT] at hBT ⊢
    have HBT := Lib.hid hBT
    generalize w3.alloc (.cells #[.int .i64 uf, .int .i64 ul, .int .i64 uv, .bool ua] 34) = w4 at *
    clear hT hBT HS3 HO3
    have HR2 := Lib.hid (H2.out.beside HS.out HO4.out)
    have hTl := HBT.out.lt
    obtain ⟨vs, hvs⟩ : ∃ vs, vs = csT L2 := ⟨_, rfl⟩
    have HVS := Lib.hid hvs
    have HVL : Hid (vs.length = n * 4) := by
      show vs.length = n * 4
      rw [hvs, csT_len, HN.out]
    have HV1 : Hid (∀ u ∈ vs, u.oneCell' = true) := by rw [hvs]; exact csT_cell L2
    have K : Hid (∀ W2, Only (fun _ => False) w4 W2 → (0 < n → ∃ ad, A2 = some ad ∧ ∀ (j : Nat) (u : Value), vs[j]? = some u → W2.cell? (ad.add j) = some u)) := fun W2 ho hn => by
      obtain ⟨g, o, c, e, _, _, _, _, hr⟩ := RowAt.places (HR2.out.same ho) (by have := HN.out; omega)
      injection e with e1
      refine ⟨_, e1, fun j u hj => ?_⟩
      rw [show (⟨g, o, none⟩ : Addr).add j = ⟨g, o + j, none⟩ from by unfold Addr.add; split <;> simp_all]
      exact hr j u (by rw [← HVS.out]; exact hj)
    have x0 : w4.cell? ⟨T, 0, none⟩ = some (.int .i64 uf) := HBT.out.cell 0
    have x1 : w4.cell? ⟨T, 1, none⟩ = some (.int .i64 ul) := HBT.out.cell 1
    have x2 : w4.cell? ⟨T, 2, none⟩ = some (.int .i64 uv) := HBT.out.cell 2
    have x3 : w4.cell? ⟨T, 3, none⟩ = some (.bool ua) := HBT.out.cell 3
    have y0 : ∀ ob, (w4.alloc ob).cell? ⟨T, 0, none⟩ = some (.int .i64 uf) := fun ob => (HBT.out.alloc ob).cell 0
    have y1 : ∀ ob, (w4.alloc ob).cell? ⟨T, 1, none⟩ = some (.int .i64 ul) := fun ob => (HBT.out.alloc ob).cell 1
    have y2 : ∀ ob, (w4.alloc ob).cell? ⟨T, 2, none⟩ = some (.int .i64 uv) := fun ob => (HBT.out.alloc ob).cell 2
    have y3 : ∀ ob, (w4.alloc ob).cell? ⟨T, 3, none⟩ = some (.bool ua) := fun ob => (HBT.out.alloc ob).cell 3
    have V1 : Hid (∀ W2, Only (· = w4.heap.size) ((w4.alloc (.cells #[] 34)).alloc (.cells #[.int .i64 uf, .int .i64 ul, .int .i64 uv, .bool ua] 34)).drew W2 → Blk W2 (w4.heap.size + 1) 34 [.int .i64 uf, .int .i64 ul, .int .i64 uv, .bool ua]) := fun W2 ho => (Blk.new' (w4.alloc (.cells #[] 34)) 34 [.int .i64 uf, .int .i64 ul, .int .i64 uv, .bool ua] (n := w4.heap.size + 1) (by simp)).drew.only ho (by omega)
    have V2 : Hid (∀ W2, Only (· = w4.heap.size + 1) ((w4.alloc (.cells #[.int .i64 uf, .int .i64 ul, .int .i64 uv, .bool ua] 34)).alloc (.cells #[] 34)).drew W2 → Blk W2 w4.heap.size 34 [.int .i64 uf, .int .i64 ul, .int .i64 uv, .bool ua]) := fun W2 ho => ((Blk.new w4 34 [.int .i64 uf, .int .i64 ul, .int .i64 uv, .bool ua]).alloc _).drew.only ho (by omega)
    clear hvs
    go_region_law (first
      | ((with_reducible show (if Region.wanted ⟨some 26, _, _, _, _, _⟩ _ = true then _ else _)); refine step_rowRK rfl (.tmp 24) (.tmp 25) 61 rfl 34 _ 4 32 Tryd.underlying61 info_tri rfl (by omega) (by omega) w4.heap.size _ 0 0 [] rfl (by first | exact GAt.zero1 w4 | exact GAt.zero2 w4 _ | exact GAt.zero3 w4 _) A2 n c2 vs rfl HVL.out (K.out _ (by first | exact GAt.o1 w4 _ | exact GAt.o2 w4 _ _)) HV1.out (by omega) (by simp; try omega) ?_; intro A1 c1' w5 hq1 hq2; have F := Lib.hid (GAt.first (by first | exact GAt.o1 w4 _ | exact GAt.o2 w4 _ _) hq1.out hq2.out (by omega)); have HG := Lib.hid (GAt.gr hq2.out); have z0 : w5.cell? ⟨T, 0, none⟩ = some (.int .i64 uf) := (HBT.out.only F.out.only (fun h => h)).cell 0; have z1 : w5.cell? ⟨T, 1, none⟩ = some (.int .i64 ul) := (HBT.out.only F.out.only (fun h => h)).cell 1; have z2 : w5.cell? ⟨T, 2, none⟩ = some (.int .i64 uv) := (HBT.out.only F.out.only (fun h => h)).cell 2; have z3 : w5.cell? ⟨T, 3, none⟩ = some (.bool ua) := (HBT.out.only F.out.only (fun h => h)).cell 3; clear hq1 hq2)
      | ((with_reducible show (if Region.wanted ⟨some 29, _, _, _, _, _⟩ _ = true then _ else _)); (refine step_rowRK rfl (.tmp 26) (.tmp 28) 61 rfl 34 _ 4 32 Tryd.underlying61 info_tri rfl (by omega) (by omega) w4.heap.size A1 n c1' vs rfl (by first | exact F.out.own | exact F.out.own.alloc _ | exact (F.out.own.alloc _).drew) _ 1 1 [.int .i64 uf, .int .i64 ul, .int .i64 uv, .bool ua] rfl rfl (fun _ => ⟨_, rfl, fun j u hj => by rw [at_add]; first | exact ((V1.out _ HG.out).cell j).trans hj | exact ((V2.out _ HG.out).cell j).trans hj | exact ((Blk.new w5 34 [.int .i64 uf, .int .i64 ul, .int .i64 uv, .bool ua]).cell j).trans hj⟩) (Tr.cs_one ⟨uf, ⟨ul, uv⟩, ua⟩) (by omega) (by first | exact F.out.only.size | exact (F.out.only.alloc _).size) ?_); intro A3 c3' w6 hq1 hq2; have F6 := Lib.hid (GAt.second F.out (by first | exact Only.refl _ _ | exact (Only.refl _ _).alloc _ | exact ((Only.refl _ _).alloc _).drew) hq1.out hq2.out); clear hq1 hq2))
    all_goals go_wp2
    all_goals
      go_ret2
      have hO := HO4.out.trans F6.out.only (fun _ h => h.elim)
      obtain ⟨r1, r2⟩ := (H1.out.beside HS.out hO).tail HM.out HD.out
      have hsz := HO4.out.size
      refine ⟨D, c1 - 1, _, n + 1, _, rfl, HS4.out.same F6.out.only, r1, ?_, ?_, r2, fun k hk => .inr (Nat.le_trans hsz (own_lt F6.out.own k hk).1), hO⟩
      · rw [HN.out]
        simp [outs]
      · rw [show L2 ++ outs (S', (⟨uf, ⟨ul, uv⟩, ua⟩ : Tr), true) = L2 ++ [⟨uf, ⟨ul, uv⟩, ua⟩] by simp [outs]]
        unfold RowT
        rw [csT_append, csT_one, List.length_append, List.length_singleton, ← HN.out, ← HVS.out]
        exact (RowAt.of_own F6.out.own).mono (Nat.le_trans hB hsz)
end Go.Proofs.YtojnhheeholaeaaDoor
