/- The document's own stream (package truchmanref03): one contract for each of its calls. -/
import Derived.Test.YtpabhgkamekcnaaDoorSLists
import Derived.BigQuiet
import Derived.Deep.DeepCutAuto
namespace Go.Proofs.YtpabhgkamekcnaaDoor
open Go Go.RowKit
set_option maxRecDepth 100000

theorem info_bool : (Tryd.prog.info? 4).map (fun i => (i.zero, i.size, i.bytes)) = some (some (.bool false), 1, 1) := by kernel_rfl

theorem run_append_zero' {P : Program} (w : World) (t ty e : TypeId) (i : TypeInfo) (ht : P.underlying t = some (.slice e)) (hi : P.info? e = some i) (base : Option Addr) (n c : Nat) (hle : n ≤ c) (A : Option Addr) (c2 : Nat) :
    (Builtin.append_ #[t, t] ty #[.slice base n c, .slice A 0 c2]).run P w = .ok (.slice base n c) w := by
  cases A with
  | none => exact run_append_nothing w t t ty e i ht hi base n c hle _ (Go.Src.ofNil w ht c2)
  | some a => exact run_append_nothing w t t ty e i ht hi base n c hle _ (Go.Src.ofSlice w ht a 0 c2 [] (by simp) (by intro j u h; cases h) (by intro u h; cases h))
/-- append onto a row of the call's own: so many elements, or none. -/
theorem step_append_own {P : Program} {ops : Array Oper} {rest : List Oper} {o : Oper} {a : Act} {w : World} {Q : Exit → Act → World → Prop} (hgd : o.guard = none) (sx x : Operand) (t : TypeId) (ho : o.op = .call { callee := .builtin .append, args := #[sx, x], argTypes := #[t, t] })
    (B : Nat) (e : TypeId) (i : TypeInfo) (z : Value) (size bytes : Nat) (ht : P.underlying t = some (.slice e)) (hi : P.info? e = some i) (hz : i.zero = some z)
    (hsize : i.size = size) (hby : i.bytes = bytes) (hzs : z.cells.size = size) (hsz : 0 < size)
    (v : Value) (n : Nat) (xs : List Value) (hs : a.eval sx = v) (hrow : w.ownsRow B e size v n xs) (A : Option Addr) (m c : Nat) (news : List Value) (hx : a.eval x = .slice A m c) (hl : news.length = m * size)
    (hnews : 0 < m → ∃ ad, A = some ad ∧ ∀ (j : Nat) (u : Value), news[j]? = some u → w.cell? (ad.add j) = some u) (h1 : ∀ u ∈ news, u.oneCell' = true)
    (h63 : n + m ≤ 9223372036854775807) (hbytes : (n + m) * bytes ≤ 140737488355328) (hB : B ≤ w.heap.size)
    (h : ∀ A' c' w', n + m ≤ c' → c' ≤ 9223372036854775807 → Hid (w'.ownsRow B e size (.slice A' (n + m) c') (n + m) (xs ++ news) ∧ w.grownBy w' v.ownBlock ∧ (∀ k, (Value.slice A' (n + m) c').ownBlock = some k → v.ownBlock = some k ∨ w.heap.size ≤ k)) → wpList P ops Q rest (a.put o.dst (.slice A' (n + m) c')) w') :
    wpList P ops Q (o :: rest) a w := by
  by_cases hm : m = 0
  · subst hm
    obtain rfl : news = [] := List.eq_nil_of_length_eq_zero (by simpa using hl)
    obtain ⟨A0, c0, rfl, h2, h3⟩ := own_form hrow
    refine Lib.wpList_append_run w hgd sx x t t ho _ _ hs hx _ _ (run_append_zero' w t _ e i ht hi A0 n c0 h2 A c) ?_
    exact h A0 c0 w h2 h3 (show _ ∧ _ ∧ _ from ⟨by rw [List.append_nil]; exact hrow, ⟨rfl, rfl, rfl, Nat.le_refl _, fun _ _ _ => rfl⟩, fun k hk => .inl hk⟩)
  · obtain ⟨ad, rfl, hc⟩ := hnews (by omega)
    refine wpList_append_lies w hgd sx x t ho B e i z size bytes ht hi hz hsize hby hzs hsz v n xs hs hrow ad m c news hx hl hc h1 (by omega) (by simpa [maxLen] using h63) hbytes hB _ rfl ?_
    intro g cap w' hown hgr hat hlt
    have := own_le hown
    refine h _ _ w' this.1 this.2 (show _ ∧ _ ∧ _ from ⟨hown, hgr, fun k hk => ?_⟩)
    rcases hat with h2 | h2
    · exact .inl (h2.trans hk)
    · have h3 : g = k := by simpa [Value.ownBlock] using hk
      exact .inr (by omega)

/-! Marks as truths. -/
def boolsOf (n : Nat) (l : List Int) : List Bool := (List.range n).map fun (i : Nat) => decide ((i : Int) ∈ l)
def bvals (l : List Bool) : List Value := l.map Value.bool
theorem boolsOf_length (n : Nat) (l : List Int) : (boolsOf n l).length = n := by simp [boolsOf]
theorem boolsOf_get (n : Nat) (l : List Int) (i : Nat) (h : i < n) : (boolsOf n l)[i]? = some (decide ((i : Int) ∈ l)) := by
  unfold boolsOf
  rw [List.getElem?_map, List.getElem?_range h]
  rfl
theorem boolsOf_set (n : Nat) (l : List Int) (m : Nat) (hm : m < n) : (bvals (boolsOf n l)).set m (.bool true) = bvals (boolsOf n (l ++ [(m : Int)])) := by
  apply List.ext_getElem?
  intro i
  by_cases hi : i < n
  · have e1 : (bvals (boolsOf n l))[i]? = some (.bool (decide ((i : Int) ∈ l))) := by unfold bvals; rw [List.getElem?_map, boolsOf_get n l i hi]; rfl
    have e2 : (bvals (boolsOf n (l ++ [(m : Int)])))[i]? = some (.bool (decide ((i : Int) ∈ l ++ [(m : Int)]))) := by unfold bvals; rw [List.getElem?_map, boolsOf_get n _ i hi]; rfl
    rw [e2]
    by_cases him : m = i
    · subst him
      rw [get_set_eq e1]
      simp
    · rw [get_set_ne him, e1]
      congr 2
      have : ¬ ((i : Int) = (m : Int)) := by omega
      simp [this]
  · rw [List.getElem?_eq_none (by simp [bvals, boolsOf]; omega), List.getElem?_eq_none (by simp [bvals, boolsOf]; omega)]
theorem bools_zero (n : Nat) : bvals (boolsOf n []) = List.replicate n (.bool false) := by
  apply List.ext_getElem?
  intro i
  by_cases hi : i < n
  · unfold bvals
    rw [List.getElem?_map, boolsOf_get n [] i hi, List.getElem?_replicate, if_pos hi]
    simp
  · rw [List.getElem?_eq_none (by simp [bvals, boolsOf]; omega), List.getElem?_eq_none (by simp; omega)]
theorem bvals_length (l : List Bool) : (bvals l).length = l.length := by simp [bvals]
theorem bvals_one (l : List Bool) : ∀ u ∈ bvals l, u.oneCell' = true := by
  intro u hu
  obtain ⟨x, _, rfl⟩ := List.mem_map.1 hu
  rfl

/-- Block m is the document's stream, in the state s: V its row of marks, mk what it holds. -/
structure IsRfS (B : Nat) (w : World) (m : Nat) (s : St) (V : Value) (mk : List Bool) : Prop where
  head : Blk w m 34 [.int .i64 (s.room : Int), .string ⟨s.came.toArray⟩, V, .int .i64 (s.read : Int), .bool s.closed, .string ⟨s.sent.toArray⟩, .int .i64 (s.out : Int)]
  row : w.ownsRow B 4 1 V s.came.length (bvals mk)
  lo : B ≤ m
  back : s.read ≤ s.came.length
  backs : s.out ≤ s.sent.length
  agree : ∀ i, s.read ≤ i → i < s.came.length → mk[i]? = some (decide ((i : Int) ∈ s.ms))
  inside : ∀ x ∈ s.ms, (s.read : Int) ≤ x ∧ x < (s.came.length : Int)
  rising : s.ms.Pairwise (· < ·)
  fits : s.came.length ≤ s.read + 4096

section
variable {B : Nat} {w w' : World} {m : Nat} {s : St} {V : Value} {mk : List Bool}
theorem IsRfS.only {S : Nat → Prop} (h : IsRfS B w m s V mk) (ho : Only S w w') (h1 : ¬ S m) (h2 : ∀ i, V.ownBlock = some i → ¬ S i) : IsRfS B w' m s V mk :=
  ⟨h.head.only ho h1, own_only h.row ho h2, h.lo, h.back, h.backs, h.agree, h.inside, h.rising, h.fits⟩
theorem IsRfS.same (h : IsRfS B w m s V mk) (ho : Only (fun _ => False) w w') : IsRfS B w' m s V mk := h.only ho (fun h => h) (fun _ _ h => h)
theorem IsRfS.c (h : IsRfS B w m s V mk) (j : Nat) (v : Value) (hv : [Value.int .i64 (s.room : Int), .string ⟨s.came.toArray⟩, V, .int .i64 (s.read : Int), .bool s.closed, .string ⟨s.sent.toArray⟩, .int .i64 (s.out : Int)][j]? = some v) : w.cell? ⟨m, j, none⟩ = some v := by rw [h.head.cell j]; exact hv
theorem IsRfS.mk_len (h : IsRfS B w m s V mk) : mk.length = s.came.length := by have := h.row.1; rw [bvals_length] at this; omega
/-- What a call of the document's stream leaves. -/
def RLeft (B : Nat) (w : World) (m : Nat) (V : Value) (s' : St) (w' : World) : Prop :=
  ∃ V' mk', IsRfS B w' m s' V' mk' ∧ Only (· = m) w w' ∧ ∀ i, V'.ownBlock = some i → V.ownBlock = some i ∨ w.heap.size ≤ i
theorem RLeft.same (h : IsRfS B w m s V mk) (ho : Only (fun _ => False) w w') : RLeft B w m V s w' := ⟨V, mk, h.same ho, ho.mono (fun _ h => h.elim), fun _ h => .inl h⟩

/-- Send. -/
theorem rfSend (h : IsRfS B w m s V mk) (xs : List UInt8) (n : Nat) (hn : xs.length = n) (hfar : s.sent.length + n ≤ 1099511627776) (hr : s.room ≤ 1099511627776) (hf : s.sent.length - s.out ≤ s.room) :
    Calls Tryd.prog 28 #[.pointer (some ⟨m, 0, none⟩), .string ⟨xs.toArray⟩] w fun e w' => e = .returned (.int .i64 ((sendNum s n : Nat) : Int)) ∧ RLeft B w m V (sendSt s xs) w' := by
  subst hn
  have c4 := h.c 4 _ rfl
  have hb := h.backs
  by_cases hcl : s.closed = true
  · rw [hcl] at c4
    have e : sendNum s xs.length = 14 := by simp [sendNum, hcl]
    have e2 : sendSt s xs = s := by simp [sendSt, e]
    rw [e, e2]
    have H := Lib.hid h
    clear h e e2 hcl
    go_enter Tryd.func28, Tryd.ntmps28
    go_wp2
    go_ret
    exact ⟨rfl, RLeft.same H.out (Only.refl _ _)⟩
  · have hcf : s.closed = false := by simpa using hcl
    rw [hcf] at c4
    have c0 := h.c 0 _ rfl
    have c5 := h.c 5 _ rfl
    have c6 := h.c 6 _ rfl
    have H := Lib.hid h
    have HCf := Lib.hid hcf
    have hsl : s.sent.length ≤ 1099511627776 := by omega
    have hso : s.out ≤ 1099511627776 := by omega
    clear h hcl hcf
    by_cases hfl : s.room - (s.sent.length - s.out) < xs.length
    · have e : sendNum s xs.length = 2 := by rw [sendNum, HCf.out, if_neg (by simp), if_pos hfl]
      have e2 : sendSt s xs = s := by simp [sendSt, e]
      rw [e, e2]
      clear e e2
      have b : decide ((s.room : Int) < (s.sent.length : Int) - (s.out : Int) + (xs.length : Int)) = true := by simp; omega
      go_enter Tryd.func28, Tryd.ntmps28
      go_wp2_with fail
      go_quiet (fail)
      go_wp2
      go_ret
      exact ⟨rfl, RLeft.same H.out ((Only.refl _ _).drewN _)⟩
    · have e : sendNum s xs.length = 0 := by rw [sendNum, HCf.out, if_neg (by simp), if_neg hfl]
      have e2 : sendSt s xs = { s with sent := s.sent ++ xs } := by rw [sendSt, e, if_pos rfl]
      rw [e, e2]
      clear e e2
      have b : decide ((s.room : Int) < (s.sent.length : Int) - (s.out : Int) + (xs.length : Int)) = false := by simp; omega
      have hsum := fun w => add_texts (P := Tryd.prog) (w := w) s.sent xs (s.sent ++ xs) rfl (by omega)
      have hfz := H.out.head.frozen 5
      generalize hz : s.sent ++ xs = z at *
      have HZ := Lib.hid hz
      clear hz
      go_enter Tryd.func28, Tryd.ntmps28
      go_wp2_with fail
      go_quiet (fail)
      go_wp2
      go_ret
      have h := H.out
      have hset : Only (· = m) w ((w.drewN nq).setCell ⟨m, 5, none⟩ (.string ⟨z.toArray⟩)) := ((Only.refl (· = m) w).drewN nq).setCell (p := ⟨m, 5, none⟩) (.inl rfl) _
      refine ⟨rfl, V, mk, ⟨(h.head.drewN nq).setCell 5 _, own_only h.row hset (fun k hk => own_ne h.row h.head (by decide) k hk), h.lo, h.back, ?_, h.agree, h.inside, h.rising, h.fits⟩, hset, fun i h => .inl h⟩
      show s.out ≤ z.length
      rw [← HZ.out, List.length_append]
      omega

/-- Grant. -/
theorem grantNum' (s : St) (n : Int) : grantNum s n = if s.closed then 0 else asked n (s.sent.length - s.out) := rfl
theorem rfGrant (h : IsRfS B w m s V mk) (n : Int) (hfar : s.sent.length ≤ 1099511627776) :
    Calls Tryd.prog 29 #[.pointer (some ⟨m, 0, none⟩), .int .i64 n] w fun e w' => e = .returned (.int .i64 ((grantNum s n : Nat) : Int)) ∧ RLeft B w m V (grantSt s n) w' := by
  obtain ⟨K, hK⟩ : ∃ K, K = grantNum s n := ⟨_, rfl⟩
  have hKl : K ≤ s.sent.length - s.out := by
    rw [hK, grantNum']
    split
    · omega
    · exact asked_le _ _
  have hbk := h.backs
  have HK := Lib.hid hK
  have H0 := Lib.hid (show ∃ W0 : World, W0 = w ∧ IsRfS B w m { s with out := s.out + 0 } V mk from ⟨w, rfl, h⟩)
  have HH := Lib.hid h
  rw [show grantSt s n = { s with out := s.out + K } from by rw [hK]; rfl, ← hK]
  clear hK h
  go_enter Tryd.func29, Tryd.ntmps29
  go_wp2_with fail
  go_loopw [5] (fun kv W => ∃ k : Nat, k ≤ K ∧ kv = .int .i64 (k : Int) ∧ Hid (IsRfS B W m { s with out := s.out + k } V mk ∧ Only (· = m) w W)) (fun kv _ => K - (intOf kv).toNat)
  case atStart => exact ⟨0, Nat.zero_le _, rfl, HH.out, Only.refl _ _⟩
  case round =>
    clear H0
    obtain ⟨k, hk, rfl, hr⟩ := hrel
    have c4 := hr.out.1.c 4 _ rfl
    have c5 := hr.out.1.c 5 _ rfl
    have c6 := hr.out.1.c 6 _ rfl
    have hfz := hr.out.1.head.frozen 6
    obtain ⟨o2, ho2⟩ : ∃ o2, o2 = s.out + k := ⟨_, rfl⟩
    have HR := hr.out
    simp only [← ho2] at c4 c5 c6 HR
    have HR := Lib.hid HR
    have HO2 := Lib.hid ho2
    have ho40 : o2 ≤ 1099511627776 := by omega
    have hk40 : k ≤ 1099511627776 := by omega
    by_cases hlt : k < K
    · have h3 : s.closed = false ∧ (k : Int) < n ∧ o2 < s.sent.length := by
        have h1 := HK.out
        rw [grantNum'] at h1
        cases hc : s.closed
        · rw [hc, if_neg (by simp)] at h1
          refine ⟨rfl, ?_, by omega⟩
          unfold asked at h1
          omega
        · rw [hc, if_pos rfl] at h1
          omega
      obtain ⟨hc, hkn, hol⟩ := h3
      rw [hc] at c4
      have b1 : decide ((k : Int) < n) = true := by simpa using hkn
      clear hr hc ho2 hkn
      go_wp2_with fail
      go_quiet (fail)
      go_wp2
      go_roundw
      case rel =>
        have h := HR.out.1
        have hset : Only (· = m) wr ((wr.drewN nq).setCell ⟨m, 6, none⟩ (.int .i64 ((o2 : Int) + 1))) := ((Only.refl (· = m) wr).drewN nq).setCell (p := ⟨m, 6, none⟩) (.inl rfl) _
        refine ⟨k + 1, by omega, by go_num, ?_, HR.out.2.trans hset (fun i hi => .inl hi)⟩
        have e1 : s.out + (k + 1) = o2 + 1 := by have := HO2.out; omega
        rw [e1]
        have hB := (h.head.drewN nq).setCell 6 (.int .i64 ((o2 : Int) + 1))
        exact ⟨hB, own_only h.row hset (fun q hq => own_ne h.row h.head (by decide) q hq), h.lo, h.back, hol, h.agree, h.inside, h.rising, h.fits⟩
      case measure => simp [intOf]; omega
    · obtain rfl : k = K := by omega
      have hways : n ≤ (k : Int) ∨ ((k : Int) < n ∧ s.sent.length ≤ o2) ∨ ((k : Int) < n ∧ o2 < s.sent.length ∧ s.closed = true) := by
        by_cases h1 : n ≤ (k : Int)
        · exact .inl h1
        · by_cases h2 : s.sent.length ≤ o2
          · exact .inr (.inl ⟨by omega, h2⟩)
          · refine .inr (.inr ⟨by omega, by omega, ?_⟩)
            cases hc : s.closed
            · exfalso
              have h3 := HK.out
              rw [grantNum', hc, if_neg (by simp)] at h3
              unfold asked at h3
              omega
            · rfl
      have hend : ∀ q, RLeft B w m V { s with out := s.out + k } (wr.drewN q) := fun q => by
        have e1 := HO2.out
        rw [← e1]
        exact ⟨V, mk, HR.out.1.same ((Only.refl _ _).drewN q), HR.out.2.drewN q, fun i h => .inl h⟩
      have HEnd := Lib.hid hend
      clear hr hend ho2
      rcases hways with h1 | ⟨h1, h2⟩ | ⟨h1, h2, h3⟩
      · have b1 : decide ((k : Int) < n) = false := by simp; omega
        go_wp2_with fail
        go_quiet (fail)
        go_wp2
        go_ret
        exact ⟨rfl, HEnd.out _⟩
      · have b1 : decide ((k : Int) < n) = true := by simpa using h1
        have b2 : decide (o2 < s.sent.length) = false := by simp; omega
        have b3 : decide ((o2 : Int) < (s.sent.length : Int)) = false := by simp; omega
        go_wp2_with fail
        go_quiet (fail)
        go_wp2
        go_ret
        exact ⟨rfl, HEnd.out _⟩
      · have b1 : decide ((k : Int) < n) = true := by simpa using h1
        rw [h3] at c4
        clear h3
        go_wp2_with fail
        go_quiet (fail)
        go_wp2
        go_ret
        exact ⟨rfl, HEnd.out _⟩

/-- Next. -/
theorem head_mem {l : List Int} {r : Int} (hp : l.Pairwise (· < ·)) (hi : ∀ x ∈ l, r ≤ x) : decide (r ∈ l) = (l.head? == some r) := by
  cases l with
  | nil => rfl
  | cons x t =>
    by_cases h : x = r
    · subst h
      simp
    · have h1 : ¬ r ∈ x :: t := by
        intro hm
        rcases List.mem_cons.1 hm with h2 | h2
        · exact h h2.symm
        · have h3 := (List.pairwise_cons.1 hp).1 _ h2
          have h4 := hi x (List.mem_cons_self ..)
          omega
      simp [h1, h]
theorem rfNext (h : IsRfS B w m s V mk) (hfar : s.came.length ≤ 1099511627776) :
    Calls Tryd.prog 27 #[.pointer (some ⟨m, 0, none⟩)] w fun e w' => e = .returned (.tuple #[B8 (nextC s), .bool (nextM s), .bool (nextIs s)]) ∧ RLeft B w m V (nextSt s) w' := by
  have c1 := h.c 1 _ rfl
  have c3 := h.c 3 _ rfl
  have hbk := h.back
  by_cases hr : s.read = s.came.length
  · have e1 : nextC s = 0 := by unfold nextC; rw [hr]; simp
    have e2 : nextM s = false := by
      have hms : s.ms = [] := by
        cases hq : s.ms with
        | nil => rfl
        | cons x t =>
          have := h.inside x (by rw [hq]; exact List.mem_cons_self ..)
          omega
      unfold nextM
      rw [hms]
      rfl
    have e3 : nextIs s = false := by unfold nextIs; rw [hr]; simp
    have e4 : nextSt s = s := by unfold nextSt; rw [hr, if_neg (by omega)]
    rw [e1, e2, e3, e4]
    rw [hr] at c3
    have H := Lib.hid h
    clear e1 e2 e3 e4 hr h
    have b : ((s.came.length : Int) == (s.came.length : Int)) = true := by simp
    go_enter Tryd.func27, Tryd.ntmps27
    go_wp2_with fail
    go_quiet (fail)
    go_wp2
    go_ret3
    exact ⟨rfl, RLeft.same H.out ((Only.refl _ _).drewN _)⟩
  · have hlt : s.read < s.came.length := by omega
    obtain ⟨b, hb⟩ : ∃ b, s.came[s.read]? = some b := ⟨_, List.getElem?_eq_getElem hlt⟩
    have hmk := h.agree s.read (Nat.le_refl _) hlt
    have e1 : nextC s = b := by unfold nextC; rw [hb]; rfl
    have e2 : nextM s = decide ((s.read : Int) ∈ s.ms) := (head_mem h.rising (fun x hx => (h.inside x hx).1)).symm
    have e3 : nextIs s = true := by unfold nextIs; exact decide_eq_true hlt
    obtain ⟨VA, Vc, rfl, hv1, hv2⟩ := own_form h.row
    obtain ⟨g, rfl, _, hgl, hcell⟩ := own_at h.row (by omega)
    have hgm := own_ne h.row h.head (by decide) g rfl
    have cm : w.cell? ⟨g, s.read, none⟩ = some (.bool (nextM s)) := hcell s.read _ (by unfold bvals; rw [List.getElem?_map, hmk, ← e2]; rfl)
    have c2 := h.c 2 _ rfl
    have hfz := h.head.frozen 3
    rw [e1, e3]
    obtain ⟨mm, hmm⟩ : ∃ mm, mm = nextM s := ⟨_, rfl⟩
    rw [← hmm] at cm ⊢
    have H := Lib.hid h
    have HB := Lib.hid hb
    have hgeq : ((s.read : Int) == (s.came.length : Int)) = false := by rw [beq_eq_false_iff_ne]; omega
    obtain ⟨rd, hrd⟩ : ∃ rd, rd = s.read := ⟨_, rfl⟩
    rw [← hrd] at c3 hlt cm hgeq hb
    have HRd := Lib.hid hrd
    have e4 : nextSt s = { s with read := s.read + 1, ms := if s.ms.head? = some (s.read : Int) then s.ms.tail else s.ms } := by
      unfold nextSt
      rw [if_pos (by omega)]
    have HE4 := Lib.hid e4
    have hbs : ∀ h : rd < (ByteArray.mk s.came.toArray).size, (ByteArray.mk s.came.toArray)[rd] = b := by
      intro h
      have := (List.getElem?_eq_some_iff.1 hb).2
      rw [← this]
      show s.came.toArray[rd] = _
      simp
    have HBs := Lib.hid hbs
    clear h hmk hr hrd hcell e1 e2 e3 hmm hb e4 hbs
    go_enter Tryd.func27, Tryd.ntmps27
    go_wp2_with fail
    go_quiet (fail)
    obtain ⟨n1, hn1⟩ : ∃ n1, n1 = nq := ⟨_, rfl⟩
    subst hn1
    go_wp2
    go_quiet (fail)
    go_wp2
    go_ret3
    refine ⟨congrArg (fun z : Int => Ending.returned (Value.tuple #[Value.int .u8 z, .bool mm, .bool true])) (by rw [HBs.out]), ?_⟩
    have h := H.out
    have hset : Only (· = m) w (((w.drewN n1).setCell ⟨m, 3, none⟩ (.int .i64 ((rd : Int) + 1))).drewN nq) := (((Only.refl (· = m) w).drewN n1).setCell (p := ⟨m, 3, none⟩) (.inl rfl) _).drewN nq
    rw [HE4.out]
    have hrd := HRd.out
    have hB := ((h.head.drewN n1).setCell 3 (.int .i64 ((rd : Int) + 1))).drewN nq
    rw [show (rd : Int) + 1 = ((s.read + 1 : Nat) : Int) from by omega] at hB hset ⊢
    refine ⟨_, mk, ⟨hB, own_only h.row hset (fun q hq => own_ne h.row h.head (by decide) q hq), h.lo, by show s.read + 1 ≤ s.came.length; omega, h.backs, fun i h1 h2 => ?_, fun x hx => ?_, ?_, by show s.came.length ≤ s.read + 1 + 4096; have := h.fits; omega⟩, hset, fun i h => .inl h⟩
    · have h1 : s.read + 1 ≤ i := h1
      rw [h.agree i (by omega) h2]
      congr 1
      show decide _ = decide ((i : Int) ∈ if s.ms.head? = some (s.read : Int) then s.ms.tail else s.ms)
      split
      · rename_i hh
        cases hq : s.ms with
        | nil => rfl
        | cons x t =>
          rw [hq] at hh
          simp only [List.head?_cons, Option.some.injEq] at hh
          have : ¬ (i : Int) = x := by omega
          rw [decide_eq_decide]
          simp [this]
      · rfl
    · have hx : x ∈ if s.ms.head? = some (s.read : Int) then s.ms.tail else s.ms := hx
      have hmem : x ∈ s.ms := by
        split at hx
        · exact List.mem_of_mem_tail hx
        · exact hx
      have h1 := h.inside x hmem
      have h3 : x ≠ (s.read : Int) := by
        intro h3
        rw [h3] at hx hmem
        have h4 := head_mem h.rising (fun x hx => (h.inside x hx).1)
        rw [decide_eq_true hmem] at h4
        have h5 : s.ms.head? = some (s.read : Int) := by simpa using h4.symm
        rw [if_pos h5] at hx
        have h6 := h.rising
        cases hq : s.ms with
        | nil => rw [hq] at hmem; cases hmem
        | cons y t =>
          rw [hq] at hx h5 h6
          simp only [List.head?_cons, Option.some.injEq] at h5
          have := (List.pairwise_cons.1 h6).1 _ hx
          omega
      show ((s.read + 1 : Nat) : Int) ≤ x ∧ x < (s.came.length : Int)
      omega
    · show (if s.ms.head? = some (s.read : Int) then s.ms.tail else s.ms).Pairwise (· < ·)
      split
      · exact h.rising.tail
      · exact h.rising

/-- Deliver. -/
def RDel (n : Nat) (l : List Int) (N : Nat) (w1 : World) (j : Nat) (la : Int) (W : World) : Prop :=
  places n 0 l = places n (la + 1) (l.drop j) ∧ Blk W N 4 (bvals (boolsOf n (l.take j))) ∧ Only (· = N) w1 W
theorem make_bools (m : Nat) (hm : m ≤ 281474976710656) (W : World) : (Instr.makeSlice 32 (.int .i64 (m : Int)) (.int .i64 (m : Int))).run Tryd.prog W = .ok (.slice (some ⟨W.heap.size, 0, none⟩) m m) (W.alloc (.cells (bvals (boolsOf m [])).toArray 4)) := by
  obtain ⟨i, hi, hz, h1, h2⟩ := info_parts info_bool
  have h := run_make (P := Tryd.prog) W 32 4 i (.bool false) Tryd.underlying32 hi hz .i64 .i64 m m (by omega) (Int.le_refl _) (by rw [h2]; omega) (by omega)
  rw [h, h1, Nat.mul_one]
  simp only [Int.toNat_natCast]
  have e : (madeCells (Value.bool false).cells m) = (bvals (boolsOf m [])).toArray := by
    rw [bools_zero]
    apply Array.ext
    · simp [madeCells, Value.cells]
    · intro i h1 h2
      simp [madeCells, Value.cells, Nat.mod_one]
  rw [← e]

set_option maxHeartbeats 2000000 in
theorem rfDeliver (h : IsRfS B w m s V mk) (hB0 : B ≤ w.heap.size) (xs : List UInt8) (n : Nat) (hn : xs.length = n) (M : Option Addr) (k kc : Nat) (l : List Int) (hl : IntsAt w M k l) (hk : k ≤ 1000) (hfar : s.came.length + n ≤ 1099511627776) :
    Calls Tryd.prog 25 #[.pointer (some ⟨m, 0, none⟩), .string ⟨xs.toArray⟩, .slice M k kc] w fun e w' => e = .returned (.int .i64 ((delNum s n l : Nat) : Int)) ∧ RLeft B w m V (delSt s xs l) w' := by
  subst hn
  have c4 := h.c 4 _ rfl
  have hbk := h.back
  by_cases hcl : s.closed = true
  · rw [hcl] at c4
    have e : delNum s xs.length l = 14 := by simp [delNum, hcl]
    have e2 : delSt s xs l = s := by simp [delSt, e]
    rw [e, e2]
    have H := Lib.hid h
    clear h e e2 hcl hl
    go_enter Tryd.func25, Tryd.ntmps25
    go_wp2
    go_ret
    exact ⟨rfl, RLeft.same H.out (Only.refl _ _)⟩
  · have hcf : s.closed = false := by simpa using hcl
    rw [hcf] at c4
    have hmk := make_bools xs.length (by omega)
    obtain ⟨N, hN⟩ : ∃ N, N = w.heap.size := ⟨_, rfl⟩
    obtain ⟨w1, hw1⟩ : ∃ w1, w1 = w.alloc (.cells (bvals (boolsOf xs.length [])).toArray 4) := ⟨_, rfl⟩
    have HO1 := Lib.hid (show Only (fun _ => False) w w1 by rw [hw1]; exact (Only.refl _ w).alloc _)
    have HB1 := Lib.hid (show Blk w1 N 4 (bvals (boolsOf xs.length [])) by rw [hw1, hN]; exact Blk.new w _ _)
    have HLt := Lib.hid (show 0 < k → ∀ ad, M = some ad → ad.block < N by rw [hN]; exact hl.lt)
    have HmN := Lib.hid (show m < N by rw [hN]; exact h.head.lt)
    have HVN := Lib.hid (show ∀ q, V.ownBlock = some q → q < N by rw [hN]; exact fun q hq => (own_lt h.row q hq).2)
    have HN := Lib.hid (show N = w.heap.size ∧ N < w1.heap.size by rw [hw1]; simp [hN])
    have H := Lib.hid h
    have HL := Lib.hid hl
    have HCf := Lib.hid hcf
    have hn40 : xs.length ≤ 1099511627776 := by omega
    have HR0 := Lib.hid (show RDel xs.length l N w1 0 (-1) w1 from ⟨rfl, HB1.out, Only.refl _ _⟩)
    clear h hl hcf hcl
    go_enter Tryd.func25, Tryd.ntmps25
    go_wp2_with fail
    rw [← hw1, ← hN]
    clear hw1 hN hmk c4 HB1
    go_loopw [8, 20] (fun lv i W => ∃ (j : Nat) (la : Int), j ≤ k ∧ i = .int .i64 (j : Int) ∧ lv = .int .i64 la ∧ -1 ≤ la ∧ la < 1099511627776 ∧ Hid (RDel xs.length l N w1 j la W)) (fun _ i _ => k - (intOf i).toNat)
    case atStart => exact ⟨0, -1, Nat.zero_le _, rfl, rfl, by omega, by omega, HR0.out⟩
    case round =>
      clear HR0
      obtain ⟨j, la, hj, rfl, rfl, hla0, hla1, hr⟩ := hrel
      by_cases hlt : j < k
      · obtain ⟨x, hx⟩ : ∃ x, l[j]? = some x := ⟨_, List.getElem?_eq_getElem (by rw [HL.out.1]; exact hlt)⟩
        obtain ⟨b, off, rfl, d, hx0, hx1⟩ := HL.out.2 j x hx
        have d := (HO1.out.trans (hr.out.2.2) (fun i hi => .inr (by have := HN.out; omega))).cellv d (fun h => h)
        have hdr : l.drop j = x :: l.drop (j + 1) := by
          rw [List.drop_eq_getElem_cons (by rw [HL.out.1]; exact hlt), (List.getElem?_eq_some_iff.1 hx).2]
        have HP := Lib.hid (show places xs.length 0 l = (decide (la + 1 ≤ x) && decide (x < (xs.length : Int)) && places xs.length (x + 1) (l.drop (j + 1))) by rw [hr.out.1, hdr]; rfl)
        have HTk := Lib.hid (show l.take (j + 1) = l.take j ++ [x] by rw [List.take_add_one, hx]; rfl)
        have HRr := Lib.hid hr.out.2
        clear hx hdr hr
        have hbad : places xs.length 0 l = false → delNum s xs.length l = 1 ∧ delSt s xs l = s := fun hp => by
          have e : delNum s xs.length l = 1 := by unfold delNum; rw [HCf.out, if_neg (by simp), if_pos hp]
          exact ⟨e, by unfold delSt; rw [e, if_neg (by omega)]⟩
        have HBad := Lib.hid hbad
        have HEndO := Lib.hid (HO1.out.trans HRr.out.2 (fun i hi => .inr (by have := HN.out; omega)))
        clear hbad
        by_cases h1 : x ≤ la
        · go_wp2
          go_ret
          have hb := HBad.out (by rw [HP.out, decide_eq_false (by omega : ¬ la + 1 ≤ x)]; rfl)
          rw [hb.1, hb.2]
          exact ⟨rfl, RLeft.same H.out HEndO.out⟩
        · by_cases h2 : (xs.length : Int) ≤ x
          · have b1 : decide (x ≤ la) = false := by simpa using h1
            go_wp2
            go_ret
            have hb := HBad.out (by rw [HP.out, decide_eq_false (by omega : ¬ x < (xs.length : Int)), Bool.and_false, Bool.false_and])
            rw [hb.1, hb.2]
            exact ⟨rfl, RLeft.same H.out HEndO.out⟩
          · obtain ⟨xm, rfl⟩ : ∃ xm : Nat, x = (xm : Int) := ⟨x.toNat, by omega⟩
            have hxm : xm < xs.length := by omega
            have b1 : decide ((xm : Int) ≤ la) = false := by simpa using h1
            have b2 : decide (xs.length ≤ xm) = false := by simpa using h2
            have cc : wr.cell? ⟨N, xm, none⟩ = some (.bool (decide ((xm : Int) ∈ l.take j))) := by
              rw [HRr.out.1.cell xm]
              unfold bvals
              rw [List.getElem?_map, boolsOf_get _ _ _ hxm]
              rfl
            have hfz := HRr.out.1.frozen xm
            generalize decide ((xm : Int) ∈ l.take j) = bb at cc
            go_wp2
            go_roundw
            case rel =>
              refine ⟨j + 1, (xm : Int), by omega, by go_num, rfl, by omega, by omega, ?_, ?_, ?_⟩
              · rw [HP.out, decide_eq_true (by omega : la + 1 ≤ (xm : Int)), decide_eq_true (by omega : (xm : Int) < (xs.length : Int))]
                rfl
              · have := HRr.out.1.setCell xm (.bool true)
                rw [boolsOf_set _ _ _ hxm, ← HTk.out] at this
                exact this
              · exact HRr.out.2.setCell (p := ⟨N, xm, none⟩) (.inl rfl) _
            case measure => simp [intOf]; omega
      · obtain rfl : j = k := by omega
        have htk : l.take j = l := List.take_of_length_le (by rw [HL.out.1]; exact Nat.le_refl _)
        have hdr : l.drop j = [] := List.drop_eq_nil_of_le (by rw [HL.out.1]; exact Nat.le_refl _)
        have hpt : places xs.length 0 l = true := by rw [hr.out.1, hdr]; rfl
        have HEndO := Lib.hid (HO1.out.trans hr.out.2.2 (fun i hi => .inr (by have := HN.out; omega)))
        have HBl := Lib.hid (show Blk wr N 4 (bvals (boolsOf xs.length l)) by have := hr.out.2.1; rw [htk] at this; exact this)
        have hrf := H.out.same HEndO.out
        obtain ⟨VA, Vc, hV, hv1, hv2⟩ := own_form hrf.row
        subst hV
        have c1 := hrf.c 1 _ rfl
        have c2 := hrf.c 2 _ rfl
        have c3 := hrf.c 3 _ rfl
        have HRf := Lib.hid hrf
        have HPt := Lib.hid hpt
        clear hr htk hdr hrf hpt
        have hcl40 : s.came.length ≤ 1099511627776 := by omega
        have hfits := H.out.fits
        have hrd40 : s.read ≤ 1099511627776 := by omega
        by_cases hfl : 4096 - (s.came.length - s.read) < xs.length
        · have e : delNum s xs.length l = 2 := by unfold delNum; rw [HCf.out, if_neg (by simp), HPt.out, if_neg (by simp), if_pos hfl]
          have e2 : delSt s xs l = s := by unfold delSt; rw [e, if_neg (by omega)]
          have b : decide ((4096 : Int) < (s.came.length : Int) - (s.read : Int) + (xs.length : Int)) = true := by simp; omega
          have HE1 := Lib.hid e
          have HE2 := Lib.hid e2
          clear e e2
          go_wp2_with fail
          go_quiet (fail)
          go_wp2
          go_ret
          rw [HE1.out, HE2.out]
          exact ⟨rfl, RLeft.same H.out (HEndO.out.drewN _)⟩
        · have e : delNum s xs.length l = 0 := by unfold delNum; rw [HCf.out, if_neg (by simp), HPt.out, if_neg (by simp), if_neg hfl]
          have e2 : delSt s xs l = { s with came := s.came ++ xs, ms := s.ms ++ l.map ((s.came.length : Int) + ·) } := by unfold delSt; rw [e, if_pos rfl]
          have b : decide ((4096 : Int) < (s.came.length : Int) - (s.read : Int) + (xs.length : Int)) = false := by simp; omega
          have HE1 := Lib.hid e
          have HE2 := Lib.hid e2
          clear e e2
          have hsum := fun w => add_texts (P := Tryd.prog) (w := w) s.came xs (s.came ++ xs) rfl (by omega)
          obtain ⟨z, hz⟩ : ∃ z, z = s.came ++ xs := ⟨_, rfl⟩
          have HZ := Lib.hid hz
          rw [← hz] at hsum
          clear hz
          have hfz := HRf.out.head.frozen 1
          obtain ⟨i0, hi0, hz0, hz1, hz2'⟩ := info_parts info_bool
          go_wp2_with fail
          go_quiet (fail)
          have HW1 := Lib.hid (show Only (· = m) wr ((wr.drewN nq).setCell ⟨m, 1, none⟩ (.string ⟨z.toArray⟩)) from ((Only.refl (· = m) wr).drewN nq).setCell (p := ⟨m, 1, none⟩) (.inl rfl) _)
          have HB1 := Lib.hid ((HRf.out.head.drewN nq).setCell 1 (.string ⟨z.toArray⟩))
          obtain ⟨W1, hW1⟩ : ∃ W1, W1 = (wr.drewN nq).setCell ⟨m, 1, none⟩ (.string ⟨z.toArray⟩) := ⟨_, rfl⟩
          rw [← hW1] at HW1 HB1
          go_upto_region 16 with (fail)
          rw [← hW1]
          clear hW1
          have HRow1 := Lib.hid (own_only HRf.out.row HW1.out (fun q hq => own_ne HRf.out.row HRf.out.head (by decide) q hq))
          have HBl1 := Lib.hid (HBl.out.only HW1.out (by have := HmN.out; show ¬ N = m; omega))
          have hzB : B ≤ W1.heap.size := by have := HW1.out.size; have := HEndO.out.size; omega
          have c21 : W1.cell? ⟨m, 2, none⟩ = some (.slice VA s.came.length Vc) := by rw [HB1.out.cell 2]; rfl
          have HAl := Lib.hid ((Only.refl (fun _ => False) W1).alloc (.cells #[] 4))
          have HE0 := Lib.hid (own_of_blk (B := B) (c := 0) (s := 1) (n := 0) (xs := []) (Blk.new W1 4 []) rfl rfl (by omega) (by omega) hzB)
          have hzl : s.came.length ≤ 140737488355328 := by omega
          have hmW : m < W1.heap.size := HB1.out.lt
          have c21' := HAl.out.cellv c21 (fun h => h)
          have hrlen := HRow1.out.1
          go_wp2_with (first
            | (at_builtin; refine step_append_own rfl (.tmp 61) (.tmp 65) 32 rfl B 4 i0 _ 1 1 Tryd.underlying32 hi0 hz0 hz1 hz2' rfl (by omega) _ 0 [] rfl HE0.out VA s.came.length Vc (bvals mk) rfl hrlen (fun hp => by obtain ⟨g, e1, _, _, hc⟩ := own_at HRow1.out hp; exact ⟨_, e1, fun i u hu => by rw [show (⟨g, 0, none⟩ : Addr).add i = ⟨g, i, none⟩ from by unfold Addr.add; split <;> simp_all]; exact HAl.out.cellv (hc i u hu) (fun h => h)⟩) (bvals_one mk) (by omega) (by omega) (Nat.le_trans hzB HAl.out.size) ?_; intro A2 c2' W2 hc21 hc22 hr2; (rw [Nat.zero_add] at hr2 hc21 ⊢); have HRow2 := Lib.hid (show W2.ownsRow B 4 1 (.slice A2 s.came.length c2') s.came.length (bvals mk) by have := hr2.out.1; rw [List.nil_append] at this; exact this); have HG2 := Lib.hid (HAl.out.grown hr2.out.2.1 (fun q hq => .inr (by cases hq; exact Nat.le_refl _))); have HBl2 := Lib.hid (HBl1.out.only HG2.out (fun h => h)); have HB2 := Lib.hid (HB1.out.only HG2.out (fun h => h)); have hz2 := HG2.out.size; have hA2 : ∀ k, (Value.slice A2 s.came.length c2').ownBlock = some k → (Value.slice (some ⟨W1.heap.size, 0, none⟩) 0 0).ownBlock = some k ∨ (W1.alloc (.cells #[] 4)).heap.size ≤ k := hr2.out.2.2)
            | (at_builtin; refine step_append_own rfl (.tmp 66) (.tmp 67) 32 rfl B 4 i0 _ 1 1 Tryd.underlying32 hi0 hz0 hz1 hz2' rfl (by omega) _ s.came.length (bvals mk) rfl HRow2.out (some ⟨N, 0, none⟩) xs.length xs.length (bvals (boolsOf xs.length l)) rfl (by rw [bvals_length, boolsOf_length]; omega) (fun _ => ⟨_, rfl, fun i u hu => by rw [show (⟨N, 0, none⟩ : Addr).add i = ⟨N, i, none⟩ from by unfold Addr.add; split <;> simp_all, HBl2.out.cell]; exact hu⟩) (bvals_one _) (by omega) (by omega) (Nat.le_trans hzB hz2) ?_; intro A3 c3' W3 hc31 hc32 hr3; have HG3 := Lib.hid ((Only.refl (fun i => (Value.slice A2 s.came.length c2').ownBlock = some i) W2).grown hr3.out.2.1 (fun q hq => .inl hq)); have HB3 := Lib.hid (HB2.out.only HG3.out (fun hq => own_ne HRow2.out HB2.out (by decide) m hq rfl)); have c23 : W3.cell? ⟨m, 2, none⟩ = some (.slice VA s.came.length Vc) := (by rw [HB3.out.cell 2]; rfl); have hfz3 := HB3.out.frozen 2))
          go_ret
          rw [HE1.out, HE2.out]
          have h := H.out
          obtain rfl := HZ.out
          have hzl2 : (s.came ++ xs).length = s.came.length + xs.length := List.length_append
          have hrow3 : W3.ownsRow B 4 1 (.slice A3 (s.came.length + xs.length) c3') (s.came.length + xs.length) (bvals (mk ++ boolsOf xs.length l)) := by
            have := hr3.out.1
            rw [show bvals mk ++ bvals (boolsOf xs.length l) = bvals (mk ++ boolsOf xs.length l) from by simp [bvals]] at this
            exact this
          have hset : Only (· = m) W3 (W3.setCell ⟨m, 2, none⟩ (.slice A3 (s.came.length + xs.length) c3')) := (Only.refl (· = m) W3).setCell (p := ⟨m, 2, none⟩) (.inl rfl) _
          have hA2' : ∀ q, (Value.slice A2 s.came.length c2').ownBlock = some q → w.heap.size ≤ q := by
            intro q hq
            have h1 := HEndO.out.size
            have h2 := HW1.out.size
            have h3 := HAl.out.size
            rcases hA2 q hq with h4 | h4
            · have : W1.heap.size = q := by simpa [Value.ownBlock] using h4
              omega
            · omega
          have hmkl := h.mk_len
          have hO : Only (· = m) w (W3.setCell ⟨m, 2, none⟩ (.slice A3 (s.came.length + xs.length) c3')) :=
            ((((HEndO.out.mono (fun i hi => hi.elim)).trans HW1.out (fun i hi => .inl hi)).trans HG2.out (fun i hi => hi.elim)).trans HG3.out (fun i hi => .inr (hA2' i hi))).trans hset (fun i hi => .inl hi)
          refine ⟨rfl, .slice A3 (s.came.length + xs.length) c3', mk ++ boolsOf xs.length l, ⟨HB3.out.setCell 2 _, ?_, h.lo, ?_, h.backs, ?_, ?_, ?_, ?_⟩, hO, ?_⟩
          · show World.ownsRow _ B _ 1 _ (s.came ++ xs).length _
            rw [hzl2]
            exact own_only hrow3 hset (fun q hq => own_ne hrow3 HB3.out (by decide) q hq)
          · show s.read ≤ (s.came ++ xs).length
            omega
          · intro i h1 h2
            have h2 : i < (s.came ++ xs).length := h2
            show (mk ++ boolsOf xs.length l)[i]? = some (decide ((i : Int) ∈ s.ms ++ l.map ((s.came.length : Int) + ·)))
            obtain ⟨hp1, hp2⟩ := places_spec HPt.out
            by_cases hi : i < s.came.length
            · rw [List.getElem?_append_left (by omega), h.agree i h1 hi]
              congr 1
              rw [decide_eq_decide]
              rw [List.mem_append]
              constructor
              · exact .inl
              · rintro (h3 | h3)
                · exact h3
                · obtain ⟨y, hy, hy2⟩ := List.mem_map.1 h3
                  have := hp2 y hy
                  omega
            · rw [List.getElem?_append_right (by omega), hmkl, boolsOf_get _ _ _ (by omega)]
              congr 1
              rw [decide_eq_decide, List.mem_append]
              constructor
              · intro h3
                exact .inr (List.mem_map.2 ⟨_, h3, by omega⟩)
              · rintro (h3 | h3)
                · have := h.inside _ h3
                  omega
                · obtain ⟨y, hy, hy2⟩ := List.mem_map.1 h3
                  rw [show ((i - s.came.length : Nat) : Int) = y from by omega]
                  exact hy
          · intro x hx
            obtain ⟨hp1, hp2⟩ := places_spec HPt.out
            show (s.read : Int) ≤ x ∧ x < (((s.came ++ xs).length : Nat) : Int)
            rcases List.mem_append.1 hx with h3 | h3
            · have := h.inside x h3
              omega
            · obtain ⟨y, hy, rfl⟩ := List.mem_map.1 h3
              have := hp2 y hy
              omega
          · obtain ⟨hp1, hp2⟩ := places_spec HPt.out
            show (s.ms ++ l.map ((s.came.length : Int) + ·)).Pairwise (· < ·)
            rw [List.pairwise_append]
            refine ⟨h.rising, ?_, ?_⟩
            · rw [List.pairwise_map]
              exact hp1.imp (fun h => by omega)
            · intro a ha b hb
              obtain ⟨y, hy, rfl⟩ := List.mem_map.1 hb
              have h3 := h.inside a ha
              have h4 := hp2 y hy
              omega
          · show (s.came ++ xs).length ≤ s.read + 4096
            omega
          · intro q hq
            right
            rcases hr3.out.2.2 q hq with h3 | h3
            · exact hA2' q h3
            · have h1 := HEndO.out.size
              have h2 := HW1.out.size
              omega
end
end Go.Proofs.YtpabhgkamekcnaaDoor
