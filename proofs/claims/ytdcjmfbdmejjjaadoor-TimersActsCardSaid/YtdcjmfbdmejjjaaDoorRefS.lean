/- The document's own timers: Set. -/
import Derived.Test.YtdcjmfbdmejjjaaDoorRefU
namespace Go.Proofs.YtdcjmfbdmejjjaaDoor
open Go Go.RowKit
set_option maxRecDepth 100000

section
variable {m c : Nat} {w w' : World} {now : Int} {A : Option Addr} {l : List Tm}
theorem rfSet_range (h : IsRf w m now A c l) (key at_ : Int) (hr : at_ < now ∨ 1099511627776 < at_) :
    Calls Tryd.prog 9 #[.pointer (some ⟨m, 0, none⟩), .int .i64 key, .int .i64 at_] w fun e w' => e = .returned (.int .i64 1) ∧ Only (fun _ => False) w w' := by
  have c0 := h.c0
  have hr' : at_ < now ∨ (now ≤ at_ ∧ 1099511627776 < at_) := by omega
  clear h hr
  rcases hr' with h1 | ⟨h1, h2⟩
  all_goals
    go_enter Tryd.func9, Tryd.ntmps9
    go_wp2
    go_ret
    exact ⟨rfl, Only.refl _ _⟩

theorem rfSet_full (h : IsRf w m now A c l) (key at_ : Int) (h1 : now ≤ at_) (h2 : at_ ≤ 1099511627776) (hl : l.length = 16) (hno : ∀ x ∈ l, (x.1 == key) = false) :
    Calls Tryd.prog 9 #[.pointer (some ⟨m, 0, none⟩), .int .i64 key, .int .i64 at_] w fun e w' => e = .returned (.int .i64 2) ∧ Only (fun _ => False) w w' := by
  have c0 := h.c0
  have C := Lib.hid (rfAt_none h key hno)
  have HH := Lib.hid h
  have HL := Lib.hid hl
  clear h hno hl
  go_enter Tryd.func9, Tryd.ntmps9
  go_wp2_with fail
  refine C.out.mono ?_
  rintro e w1 ⟨rfl, ho⟩
  have c1 := (HH.out.same ho).c1
  rw [HL.out] at c1
  have HO := Lib.hid ho
  clear ho C c0
  go_wp2
  go_ret
  exact ⟨rfl, HO.out⟩

/-- What a timer set comes to. -/
def RfSet (w : World) (m : Nat) (now : Int) (l : List Tm) (e : Ending) (w' : World) : Prop :=
  ∃ A c, e = .returned (.int .i64 0) ∧ IsRf w' m now A c l ∧ Only (· = m) w w'

set_option maxHeartbeats 1000000 in
theorem rfSet_ok (h : IsRf w m now A c l) (key at_ : Int) (h1 : now ≤ at_) (h2 : at_ ≤ 1099511627776) (rest : List Tm) (hrest : rest = l.filter fun x => !(x.1 == key)) (hr16 : rest.length < 16)
    (hc : (l.length < 16 ∧ ∀ x ∈ l, (x.1 == key) = false) ∨ ∃ (q : Nat) (y : Tm), l[q]? = some y ∧ (y.1 == key) = true ∧ ∀ (j : Nat) (x : Tm), j < q → l[j]? = some x → (x.1 == key) = false) :
    Calls Tryd.prog 9 #[.pointer (some ⟨m, 0, none⟩), .int .i64 key, .int .i64 at_] w (RfSet w m now (rest ++ [(key, at_)])) := by
  have c0 := h.c0
  obtain ⟨i0, hi0, hz0, hz1, hz2⟩ := info_pair_parts
  have HH := Lib.hid h
  have CD := fun (W : World) (hW : Only (fun _ => False) w W) => rfDrop (h.same hW) key
  rw [← hrest] at CD
  have HCD := Lib.hid CD
  clear CD hrest
  have hm := h.most
  have hc1 := h.c1
  have hle := own_le h.row
  rcases hc with ⟨hl, hno⟩ | ⟨q, y, hy, hky, hno⟩
  focus
    have C := Lib.hid (rfAt_none h key hno)
    have bl : ¬ ((l.length : Int) = 16) := by omega
    obtain ⟨n, hn⟩ : ∃ n, n = l.length := ⟨_, rfl⟩
    rw [← hn] at bl hc1 hle hm
    clear hn hl hno h
    go_enter Tryd.func9, Tryd.ntmps9
    go_wp2_with fail
    refine C.out.mono ?_
    rintro e w1 ⟨rfl, ho⟩
    have c1 := ho.cellv hc1 (fun h => h)
    have HO := Lib.hid ho
    clear ho C c0 hc1
    go_wp2_with fail
    clear c1 bl
  rotate_left
  focus
    have C := Lib.hid (rfAt_some h key q y hy hky hno)
    clear hy hky hno hc1 h
    go_enter Tryd.func9, Tryd.ntmps9
    go_wp2_with fail
    refine C.out.mono ?_
    rintro e w1 ⟨rfl, ho⟩
    have HO := Lib.hid ho
    clear ho C c0
    go_wp2_with fail
  all_goals
    refine (HCD.out w1 HO.out).mono ?_
    rintro e w2 ⟨g2, c2, rfl, hrf, ho2⟩
    have c1 := hrf.c1
    have hfz := hrf.head.frozen 1
    have hm2 := hrf.head.lt
    have hle2 := own_le hrf.row
    have Hrf := Lib.hid hrf
    have HO2 := Lib.hid ho2
    obtain ⟨n2, hn2⟩ : ∃ n2, n2 = rest.length := ⟨_, rfl⟩
    rw [← hn2] at c1 hr16 hle2
    have HN2 := Lib.hid hn2
    have hrow2 := hrf.row
    rw [← hn2] at hrow2
    have HRow2 := Lib.hid hrow2
    clear hrf ho2 hn2 hrow2 HCD
    go_wp2_with (first
      | (at_builtin; refine wpList_append_own _ rfl (.tmp 39) (.tmp 43) 27 rfl w2.heap.size 64 i0 _ 2 16 Tryd.underlying27 hi0 hz0 hz1 hz2 rfl (by omega) (.slice (some ⟨w2.heap.size, 0, none⟩) 0 0) 0 [] rfl (own_of_blk (cur := []) (Blk.new w2 _ []) rfl rfl (Nat.le_refl _) (by omega) (Nat.le_refl _)) ⟨g2, 0, none⟩ n2 c2 (flat rest) rfl (by rw [length_flat, ← HN2.out]) (fun j u hu => row_add (HRow2.out.alloc _) j u hu) (flat_one rest) (by unfold maxLen; omega) (by omega) (by simp) ?_; intro v3 w3 hown3 hgr3 hnil3; rw [Nat.zero_add, List.nil_append] at hown3; obtain ⟨A3, c3, rfl, hle3, _⟩ := own_form hown3; have hB3 := ((Hrf.out.head.alloc (.cells #[] 64)).only (grown_only hgr3) (fun h => absurd (Option.some.inj h : w2.heap.size = m) (by omega))); have c13 : w3.cell? ⟨m, 1, none⟩ = some (.slice (some ⟨g2, 0, none⟩) rest.length c2) := (by rw [hB3.cell 1]; rfl); have hfz3 := hB3.frozen 1; have HB3 := Lib.hid hB3; have Hown3 := Lib.hid hown3; have Hgr3 := Lib.hid hgr3; clear hB3 hown3 hgr3 hnil3)
      | (at_builtin; go_loud (refine wpList_append_lies _ rfl (.tmp 44) (.tmp 48) 27 rfl w2.heap.size 64 i0 _ 2 16 Tryd.underlying27 hi0 hz0 hz1 hz2 rfl (by omega) _ _ _ rfl (Hown3.out.alloc _) ⟨w3.heap.size, 0, none⟩ 1 1 (flat [(key, at_)]) rfl rfl (news_two (x := (key, at_)) (Blk.new w3 64 [.int .i64 key, .int .i64 at_])) (flat_one [(key, at_)]) (by omega) (by unfold maxLen; omega) (by omega) (by have := Hgr3.out.size; simp at this ⊢; omega) _ rfl ?_); intro g' cap w4 hown hgr hat hlt'; have hB4 := (HB3.out.alloc (.cells #[.int .i64 key, .int .i64 at_] 64)).only (grown_only hgr) (fun h => own_ne Hown3.out HB3.out (by decide) m h rfl); have c14 : w4.cell? ⟨m, 1, none⟩ = some (.slice (some ⟨g2, 0, none⟩) rest.length c2) := (by rw [hB4.cell 1]; rfl); have hfz4 := hB4.frozen 1; have HB4 := Lib.hid hB4; have Hown := Lib.hid hown; have Hgr := Lib.hid hgr; clear hB4 hown hgr hat))
    go_ret
    have hl : (rest ++ [(key, at_)]).length = n2 + 1 := by rw [List.length_append, ← HN2.out]; rfl
    have hO4 : Only (fun _ => False) w2 w4 := (((((Only.refl (fun _ => False) w2).alloc (.cells #[] 64)).grown Hgr3.out (fun k hk => .inr ?_)).alloc (.cells #[.int .i64 key, .int .i64 at_] 64)).grown Hgr.out (fun k hk => .inr (own_lt Hown3.out k hk).1))
    have hset : Only (· = m) w4 (w4.setCell ⟨m, 1, none⟩ (.slice (some ⟨g', 0, none⟩) (n2 + 1) cap)) := (Only.refl (· = m) w4).setCell (p := ⟨m, 1, none⟩) (.inl rfl) _
    unfold RfSet
    refine ⟨some ⟨g', 0, none⟩, cap, rfl, ⟨?_, ?_, by rw [hl]; omega⟩, (((HO.out.mono (fun _ h => h.elim)).trans HO2.out (fun i hi => .inl hi)).trans (hO4.mono (fun _ h => h.elim)) (fun i hi => .inl hi)).trans hset (fun i hi => .inl hi)⟩
    · rw [hl]
      exact HB4.out.setCell 1 _
    · rw [hl, flat_append]
      exact own_only (own_mono Hown.out (Nat.zero_le _)) hset (fun q hq => own_ne Hown.out HB4.out (by decide) q hq)
    · have : w2.heap.size = k := Option.some.inj hk
      omega
end
end Go.Proofs.YtdcjmfbdmejjjaaDoor
