/- Several texts in one. -/
import Derived.Test.YtlmkpembccehkaaGreatDoorTexts
import Derived.Test.YtlmkpembccehkaaGreatDoorAlloc
import Derived.Lib.SliceRun
/- Terminal types as plain functions: a type, a cycle's answers, what is gathered, what a body says. -/
namespace Go.Proofs.YtlmkpembccehkaaGreatDoor
open Go Go.RowKit
/-- A type's byte. -/
def okB (c : UInt8) : Bool := decide (33 ≤ c.toNat) && decide (c.toNat ≤ 126)
/-- A type. -/
def okT (s : List UInt8) : Bool := decide (1 ≤ s.length) && decide (s.length ≤ 24) && s.all okB
theorem okB_iff {c : UInt8} : okB c = true ↔ 33 ≤ c.toNat ∧ c.toNat ≤ 126 := by simp [okB]
theorem okT_iff {s : List UInt8} : okT s = true ↔ 1 ≤ s.length ∧ s.length ≤ 24 ∧ ∀ c ∈ s, okB c = true := by simp [okT, and_assoc]
theorem okT_empty : okT [] = false := rfl
theorem okT_long {s : List UInt8} (h : 24 < s.length) : okT s = false := by
  unfold okT
  rw [decide_eq_false (by omega : ¬ s.length ≤ 24)]
  simp
/-- The bytes up to k are a type's. -/
def TtGood (s : List UInt8) (k : Nat) : Prop := ∀ c ∈ s.take k, okB c = true
theorem TtGood.zero (s : List UInt8) : TtGood s 0 := by intro c hc; simp at hc
theorem TtGood.succ {s : List UInt8} {k : Nat} {x : UInt8} (h : TtGood s k) (hx : s[k]? = some x) (ho : okB x = true) : TtGood s (k + 1) := by
  intro c hc
  rw [List.take_add_one, hx] at hc
  rcases List.mem_append.1 hc with h1 | h1
  · exact h c h1
  · simp at h1; rw [h1]; exact ho
theorem TtGood.all {s : List UInt8} {n : Nat} (h : TtGood s n) (hn : n = s.length) (h1 : 1 ≤ n) (h24 : n ≤ 24) : okT s = true := by
  subst hn
  refine okT_iff.2 ⟨h1, h24, fun c hc => h c ?_⟩
  rw [List.take_length]
  exact hc
theorem okT_bad {s : List UInt8} {k : Nat} {x : UInt8} (hx : s[k]? = some x) (ho : okB x = false) : okT s = false := by
  cases h : okT s with
  | false => rfl
  | true =>
    have := (okT_iff.1 h).2.2 x (List.mem_of_getElem? hx)
    rw [ho] at this
    cases this

/-- The answer number n of a cycle. -/
def ansT (ts : List (List UInt8)) (n : Nat) : List UInt8 := ts.getD (min (n % (ts.length + 1)) (ts.length - 1)) []
theorem ansT_get {ts : List (List UInt8)} (h : 0 < ts.length) (n : Nat) : ts[min (n % (ts.length + 1)) (ts.length - 1)]? = some (ansT ts n) := by
  unfold ansT
  have hl : min (n % (ts.length + 1)) (ts.length - 1) < ts.length := by omega
  rw [List.getD_eq_getElem?_getD, List.getElem?_eq_getElem hl]
  rfl

/-- What is gathered. -/
structure Ls where
  names : List (List UInt8)
  whole : Bool
def Ls.take (l : Ls) (s : List UInt8) : Ls :=
  if l.whole || !okT s then l else if l.names.getLast? = some s then ⟨l.names, true⟩ else ⟨l.names ++ [s], decide (l.names.length + 1 = 8)⟩
structure Ls.Ok (l : Ls) : Prop where
  most : l.names.length ≤ 8
  room : l.whole = false → l.names.length < 8
def Ls.none : Ls := ⟨[], false⟩
theorem Ls.none_ok : Ls.none.Ok := ⟨by simp [Ls.none], fun _ => by simp [Ls.none]⟩
theorem Ls.take_full {l : Ls} {s : List UInt8} (h : l.whole = true) : l.take s = l := by simp [Ls.take, h]
theorem Ls.take_bad {l : Ls} {s : List UInt8} (h : okT s = false) : l.take s = l := by simp [Ls.take, h]
theorem Ls.take_end {l : Ls} {s : List UInt8} (h : l.whole = false) (ho : okT s = true) (hl : l.names.getLast? = some s) : l.take s = ⟨l.names, true⟩ := by simp [Ls.take, h, ho, hl]
theorem Ls.take_new {l : Ls} {s : List UInt8} (h : l.whole = false) (ho : okT s = true) (hl : l.names.getLast? ≠ some s) : l.take s = ⟨l.names ++ [s], decide (l.names.length + 1 = 8)⟩ := by simp [Ls.take, h, ho, hl]
theorem Ls.Ok.take {l : Ls} (h : l.Ok) (s : List UInt8) : (l.take s).Ok := by
  unfold Ls.take
  split
  · exact h
  · rename_i h1
    simp only [Bool.or_eq_true, not_or, Bool.not_eq_true] at h1
    have := h.room h1.1
    split
    · exact ⟨h.most, fun h => by cases h⟩
    · refine ⟨by simp; omega, fun h2 => ?_⟩
      simp at h2 ⊢
      omega
def gatherT (l : Ls) (ts : List (List UInt8)) : Ls := ts.foldl Ls.take l
theorem gatherT_ok {l : Ls} (h : l.Ok) (ts : List (List UInt8)) : (gatherT l ts).Ok := by
  induction ts generalizing l with
  | nil => exact h
  | cons t ts ih => exact ih (h.take t)
theorem gatherT_full {l : Ls} (h : l.whole = true) (ts : List (List UInt8)) : gatherT l ts = l := by
  induction ts with
  | nil => rfl
  | cons t ts ih =>
    show gatherT (l.take t) ts = l
    rw [Ls.take_full h, ih]
theorem gatherT_drop {l : Ls} {ts : List (List UInt8)} {k : Nat} {x : List UInt8} (h : ts[k]? = some x) : gatherT l (ts.drop k) = gatherT (l.take x) (ts.drop (k + 1)) := by
  obtain ⟨hk, hx⟩ := List.getElem?_eq_some_iff.1 h
  rw [List.drop_eq_getElem_cons hk, hx]
  rfl
theorem gatherT_snoc {l : Ls} {ts : List (List UInt8)} {k : Nat} {x : List UInt8} (h : ts[k]? = some x) : gatherT l (ts.take (k + 1)) = (gatherT l (ts.take k)).take x := by
  rw [List.take_add_one, h]
  show (ts.take k ++ [x]).foldl _ _ = _
  rw [List.foldl_append]
  rfl

/-- Of a cycle whose types differ from those ahead of them a list is gathered that has all. -/
theorem gatherT_all {ts : List (List UInt8)} (hok : ∀ t ∈ ts, okT t = true) (hne : ∀ (i : Nat) (x y : List UInt8), ts[i]? = some x → ts[i + 1]? = some y → x ≠ y) (h8 : ts.length ≤ 8) :
    ∀ k, k ≤ ts.length → gatherT Ls.none (ts.take k) = ⟨ts.take k, decide (k = 8)⟩ := by
  intro k
  induction k with
  | zero => intro _; rfl
  | succ k ih =>
    intro hk
    have hx : ts[k]? = some ts[k] := List.getElem?_eq_getElem (by omega)
    rw [gatherT_snoc hx, ih (by omega), Ls.take_new (by simp; omega) (hok _ (List.getElem_mem _)) ?_]
    · rw [List.take_add_one, hx]
      simp only [Option.toList_some, List.length_take]
      congr 2
      rw [eq_iff_iff]
      omega
    · intro h
      rcases Nat.eq_zero_or_pos k with h0 | h0
      · subst h0
        cases h
      · have hy : ts[k - 1]? = some ts[k - 1] := List.getElem?_eq_getElem (by omega)
        have := hne (k - 1) _ _ hy (by rw [show k - 1 + 1 = k from by omega]; exact hx)
        refine this ?_
        simp only [List.getLast?_take, show k ≠ 0 from by omega, if_false, hy] at h
        simpa using h
/-- What a body says: the type, whether it asks, the error's number. -/
def saysT (b : List UInt8) : List UInt8 × Bool × Nat :=
  match b with
  | [] => ([], false, 3)
  | c :: r => if c.toNat = 1 then (match r with | [] => ([], true, 0) | _ :: _ => ([], false, 4)) else if 1 < c.toNat then ([], false, 5) else if okT r then (r, false, 0) else ([], false, 6)
end Go.Proofs.YtlmkpembccehkaaGreatDoor
/- A list of types: its cells. -/
namespace Go.Proofs.YtlmkpembccehkaaGreatDoor
open Go Go.RowKit
set_option maxRecDepth 100000

/-- A list's cells. -/
def cellsL (l : Ls) : List Value := (l.names.map S8 ++ List.replicate (8 - l.names.length) (S8 [])) ++ [.int .i64 (l.names.length : Int), .bool l.whole]
section
variable {l : Ls} (h : l.Ok)
include h
theorem cellsL_front : (l.names.map S8 ++ List.replicate (8 - l.names.length) (S8 [])).length = 8 := by
  have := h.most
  simp
  omega
theorem cellsL_len : (cellsL l).length = 10 := by
  unfold cellsL
  rw [List.length_append, cellsL_front h]
  rfl
omit h in
theorem cellsL_name {i : Nat} {s : List UInt8} (hi : l.names[i]? = some s) : (cellsL l)[i]? = some (S8 s) := by
  have := (List.getElem?_eq_some_iff.1 hi).1
  unfold cellsL
  rw [List.append_assoc, List.getElem?_append_left (by rw [List.length_map]; exact this), List.getElem?_map, hi]
  rfl
theorem cellsL_count : (cellsL l)[8]? = some (.int .i64 (l.names.length : Int)) := by
  unfold cellsL
  rw [List.getElem?_append_right (by rw [cellsL_front h]; omega), cellsL_front h]
  rfl
theorem cellsL_whole : (cellsL l)[9]? = some (.bool l.whole) := by
  unfold cellsL
  rw [List.getElem?_append_right (by rw [cellsL_front h]; omega), cellsL_front h]
  rfl
theorem cellsL_end (b : Bool) : (cellsL l).set 9 (.bool b) = cellsL ⟨l.names, b⟩ := by
  unfold cellsL
  rw [List.set_append_right _ _ (by rw [cellsL_front h]; omega), cellsL_front h]
  rfl
theorem cellsL_new (hr : l.names.length < 8) (s : List UInt8) (b : Bool) : (((cellsL l).set l.names.length (S8 s)).set 8 (.int .i64 ((l.names.length : Int) + 1))).set 9 (.bool b) = cellsL ⟨l.names ++ [s], b⟩ := by
  have hf := cellsL_front h
  have hF : (l.names.map S8 ++ List.replicate (8 - l.names.length) (S8 [])).set l.names.length (S8 s) = (l.names ++ [s]).map S8 ++ List.replicate (8 - (l.names ++ [s]).length) (S8 []) := by
    rw [List.set_append_right _ _ (by simp), List.length_map, Nat.sub_self, show 8 - l.names.length = (8 - (l.names ++ [s]).length) + 1 from by simp; omega, List.replicate_succ, List.set_cons_zero]
    simp
  unfold cellsL
  rw [List.set_append_left _ _ (by rw [hf]; exact hr), hF]
  have hl : ((l.names ++ [s]).map S8 ++ List.replicate (8 - (l.names ++ [s]).length) (S8 [])).length = 8 := by
    simp
    omega
  rw [List.set_append_right _ _ (by rw [hl]; omega), List.set_append_right _ _ (by rw [hl]; omega), hl]
  simp
end

end Go.Proofs.YtlmkpembccehkaaGreatDoor
/- Whether a text is a type: the program's Right, the document's Right. -/
namespace Go.Proofs.YtlmkpembccehkaaGreatDoor
open Go Go.RowKit
set_option maxRecDepth 100000
set_option maxHeartbeats 4000000

theorem ttright_any (w : World) (s : List UInt8) : Calls Tryz.prog 43 #[.string ⟨s.toArray⟩] w fun e w' => e = .returned (.bool (okT s)) ∧ w' = w := by
  obtain ⟨F, hF⟩ : ∃ F, F = okT s := ⟨_, rfl⟩
  have HF := Lib.hid hF
  rw [← hF]
  clear hF
  obtain ⟨n, hn⟩ : ∃ n, n = s.length := ⟨_, rfl⟩
  have hz : (ByteArray.mk s.toArray).size = n := by rw [hn]; rfl
  have HN := Lib.hid hn
  clear hn
  rcases (by omega : n < 1 ∨ 24 < n ∨ (1 ≤ n ∧ n ≤ 24)) with h | h | ⟨h, h'⟩
  · have hd : decide ((n : Int) < 1) = true := by simp; omega
    go_enter Tryz.func43, Tryz.ntmps43
    go_wp2
    go_ret
    refine ⟨?_, rfl⟩
    obtain rfl : s = [] := List.eq_nil_of_length_eq_zero (by have := HN.out; omega)
    rw [HF.out]
    rfl
  · have hd : decide ((n : Int) < 1) = false := by simp; omega
    have hd2 : decide ((24 : Int) < (n : Int)) = true := by simp; omega
    go_enter Tryz.func43, Tryz.ntmps43
    go_wp2
    go_ret
    refine ⟨?_, rfl⟩
    rw [HF.out, okT_long (by have := HN.out; omega)]
    rfl
  · have hd : decide ((n : Int) < 1) = false := by simp; omega
    have hd2 : decide ((24 : Int) < (n : Int)) = false := by simp; omega
    go_enter Tryz.func43, Tryz.ntmps43
    go_wp2
    go_loop [14] (fun i => ∃ k : Nat, k ≤ n ∧ i = .int .i64 (k : Int) ∧ Hid (TtGood s k)) (fun i => n - (intOf i).toNat)
    case atStart => exact ⟨0, Nat.zero_le _, rfl, TtGood.zero _⟩
    case round =>
      obtain ⟨k, hk, rfl, HD⟩ := hrel
      by_cases hlt : k < n
      · obtain ⟨x, hx⟩ : ∃ x, s[k]? = some x := ⟨_, List.getElem?_eq_getElem (by rw [← HN.out]; exact hlt)⟩
        have hg := str_get hx
        have HX := Lib.hid hx
        clear hx
        have hb := x.toNat_lt
        rcases (by omega : x.toNat < 33 ∨ 126 < x.toNat ∨ (33 ≤ x.toNat ∧ x.toNat ≤ 126)) with h1 | h1 | ⟨h1, h2⟩
        · have hd3 : decide ((x.toNat : Int) < 33) = true := by simp; omega
          have HB : Hid (okB x = false) := by rw [Hid, ← Bool.not_eq_true, okB_iff]; omega
          go_wp2
          go_ret
          refine ⟨?_, rfl⟩
          rw [HF.out, okT_bad HX.out HB.out]
          rfl
        · have hd3 : decide ((x.toNat : Int) < 33) = false := by simp; omega
          have hd4 : decide ((126 : Int) < (x.toNat : Int)) = true := by simp; omega
          have HB : Hid (okB x = false) := by rw [Hid, ← Bool.not_eq_true, okB_iff]; omega
          go_wp2
          go_ret
          refine ⟨?_, rfl⟩
          rw [HF.out, okT_bad HX.out HB.out]
          rfl
        · have hd3 : decide ((x.toNat : Int) < 33) = false := by simp; omega
          have hd4 : decide ((126 : Int) < (x.toNat : Int)) = false := by simp; omega
          have HB : Hid (okB x = true) := by rw [Hid, okB_iff]; omega
          go_wp2
          go_round
          case rel => exact ⟨k + 1, by omega, by go_num, HD.out.succ HX.out HB.out⟩
          case measure => simp [intOf]; omega
      · obtain rfl : k = n := by omega
        go_wp2
        go_ret
        refine ⟨?_, rfl⟩
        rw [HF.out, HD.out.all HN.out h h']
        rfl
end Go.Proofs.YtlmkpembccehkaaGreatDoor
/- Rows of strings: two of them compared, a copy of one. -/
namespace Go.Proofs.YtlmkpembccehkaaGreatDoor
open Go Go.RowKit
set_option maxRecDepth 100000
set_option maxHeartbeats 4000000

theorem sameTexts_any {w : World} {A B : Option Addr} {n m ca cb : Nat} {xs ys : List (List UInt8)} (h : TSrc w A n xs) (h' : TSrc w B m ys) (hn : n ≤ 9223372036854775807) :
    Calls Tryz.prog 19 #[.slice A n ca, .slice B m cb] w fun e w' => e = .returned (.bool (decide (xs = ys))) ∧ w' = w := by
  obtain ⟨F, hF⟩ : ∃ F, F = decide (xs = ys) := ⟨_, rfl⟩
  have HF := Lib.hid hF
  rw [← hF]
  clear hF
  have H1 := Lib.hid h
  have H2 := Lib.hid h'
  clear h h'
  by_cases hm : n = m
  · subst hm
    go_enter Tryz.func19, Tryz.ntmps19
    go_wp2
    go_loop [14] (fun i => ∃ k : Nat, k ≤ n ∧ i = .int .i64 (k : Int) ∧ Hid (xs.take k = ys.take k)) (fun i => n - (intOf i).toNat)
    case atStart => exact ⟨0, Nat.zero_le _, rfl, by simp [Hid]⟩
    case round =>
      obtain ⟨k, hk, rfl, HD⟩ := hrel
      by_cases hlt : k < n
      · obtain ⟨ad, x, rfl, hx, hc⟩ := H1.out.get hlt
        obtain ⟨bd, y, rfl, hy, hd⟩ := H2.out.get hlt
        have HX := Lib.hid hx
        have HY := Lib.hid hy
        clear hx hy
        by_cases he : x = y
        · subst he
          have hxx : (x == x) = true := by simp
          go_wp2
          go_round
          case rel => exact ⟨k + 1, by omega, by go_num, by rw [Hid, take_snoc HX.out, take_snoc HY.out, HD.out]⟩
          case measure => simp [intOf]; omega
        · have hxy : (x == y) = false := by simp [he]
          go_wp2
          go_ret
          refine ⟨?_, rfl⟩
          rw [HF.out, decide_eq_false]
          · rfl
          · intro h
            subst h
            have h1 := HX.out
            rw [HY.out] at h1
            injection h1 with h1
            exact he h1.symm
      · obtain rfl : k = n := by omega
        go_wp2
        go_ret
        refine ⟨?_, rfl⟩
        have hd := HD.out
        rw [List.take_of_length_le (by rw [H1.out.1]; exact Nat.le_refl _), List.take_of_length_le (by rw [H2.out.1]; exact Nat.le_refl _)] at hd
        rw [HF.out, decide_eq_true hd]
        rfl
  · have hd : (n == m) = false := by simp; omega
    have hd2 : (n != m) = true := by simp; omega
    go_enter Tryz.func19, Tryz.ntmps19
    go_wp2
    go_ret
    refine ⟨?_, rfl⟩
    rw [HF.out, decide_eq_false]
    · rfl
    · intro h
      subst h
      exact hm (H1.out.1.symm.trans H2.out.1)

theorem clone_texts {w : World} {A : Option Addr} {n c : Nat} {ts : List (List UInt8)} (hs : TSrc w A n ts) (hn63 : n ≤ 1048576) :
    Calls Tryz.prog 44 #[.slice A n c] w fun e w' => ∃ A' c', e = .returned (.slice A' n c') ∧ TSrc w' A' n ts ∧ n ≤ c' ∧ c' ≤ 9223372036854775807 ∧ Only (fun _ => False) w w' := by
  obtain ⟨i0, hi0, hz0, hz1, hz2⟩ := info_parts info_str
  have hl : ts.length = n := hs.1
  have qn : ∀ (w : World) (a : Option Addr) (n c n' c' : Nat), (binOp .eql 24 (.slice a n c) (.slice none n' c')).run Tryz.prog w = .ok (.bool a.isNone) w := fun w a n c n' c' => Lib.run_eql_slice_nil w _ _ a n c n' c' Tryz.underlying24
  have HO := Lib.hid (((Only.refl (fun _ => False) w).alloc (.cells #[] 9)))
  have HE := Lib.hid (own_of_blk (B := 0) (c := 0) (s := 1) (n := 0) (xs := []) (Blk.new w 9 []) rfl rfl (by omega) (by omega) (Nat.zero_le _))
  have HS := Lib.hid hs
  have HL := Lib.hid hl
  clear hs hl
  cases A with
  | none =>
    have h0 : n = 0 := by
      rcases Nat.eq_zero_or_pos n with h | h
      · exact h
      · obtain ⟨_, h, _⟩ := HS.out.2 h
        cases h
    subst h0
    go_enter Tryz.func44, Tryz.ntmps44
    go_wp2
    go_ret
    exact ⟨_, _, rfl, HS.out, Nat.le_refl _, by omega, Only.refl _ _⟩
  | some ad =>
    have HN : Hid (∀ (j : Nat) (u : Value), (ts.map S8)[j]? = some u → (w.alloc (.cells #[] 9)).cell? (ad.add j) = some u) := fun j u hj => by
      have hn : 0 < n := by
        have := (List.getElem?_eq_some_iff.1 hj).1
        rw [List.length_map, HL.out] at this
        omega
      obtain ⟨ad', e, hc⟩ := HS.out.2 hn
      injection e with e
      subst e
      rw [List.getElem?_map] at hj
      cases hx : ts[j]? with
      | none => rw [hx] at hj; cases hj
      | some s =>
        rw [hx] at hj
        injection hj with hj
        subst hj
        exact HO.out.cellv (hc j s hx) (fun h => h)
    go_enter Tryz.func44, Tryz.ntmps44
    go_wp2_with (at_builtin; refine step_append_own rfl (.tmp 5) (.tmp 6) 24 rfl 0 9 i0 _ 1 16 Tryz.underlying24 hi0 hz0 hz1 hz2 rfl (by omega) _ 0 [] rfl HE.out (some ad) n c (ts.map S8) rfl (by rw [List.length_map, HL.out]; omega) (fun hn => ⟨ad, rfl, HN.out⟩) (S8_one _) (by omega) (by omega) (Nat.zero_le _) ?_; intro A' c' w2 hl1 hl2 hq; have HQ := Lib.hid hq.out; clear hq)
    go_ret
    obtain ⟨hown, hgr, _⟩ := HQ.out
    rw [Nat.zero_add, List.nil_append] at hown
    refine ⟨A', c', rfl, TSrc.of_own hown, by omega, hl2, HO.out.grown hgr (fun q hq => .inr (by cases hq; exact Nat.le_refl _))⟩
end Go.Proofs.YtlmkpembccehkaaGreatDoor
