/- The document's own timers: Tick; truchmannum.SameInts. -/
import Derived.Test.YtdcjmfbdmejjjaaDoorRefS
import Derived.Deep.LoopGhost
namespace Go.Proofs.YtdcjmfbdmejjjaaDoor
open Go Go.RowKit
set_option maxRecDepth 100000

section
variable {m c : Nat} {w w' : World} {now : Int} {A : Option Addr} {l : List Tm}
theorem rfTick_bad (h : IsRf w m now A c l) (n : Int) (h0 : 0 ≤ now) (hn63 : n ≤ 9223372036854775807) (hr : n < 0 ∨ 1099511627776 - now < n) :
    Calls Tryd.prog 13 #[.pointer (some ⟨m, 0, none⟩), .int .i64 n] w fun e w' => e = .returned (.tuple #[.slice none 0 0, .int .i64 1]) ∧ Only (fun _ => False) w w' := by
  have c0 := h.c0
  have hr' : n < 0 ∨ (0 ≤ n ∧ 1099511627776 - n < now) := by omega
  clear h hr
  rcases hr' with h1 | ⟨h1, h2⟩
  all_goals
    go_enter Tryd.func13, Tryd.ntmps13
    go_wp2
    go_ret2
    exact ⟨rfl, Only.refl _ _⟩

def RfTicked (w : World) (m : Nat) (now : Int) (out rest : List Tm) (e : Ending) (w' : World) : Prop :=
  ∃ K kc A c l, e = .returned (.tuple #[.slice K out.length kc, .int .i64 0]) ∧ w'.ownsRow w.heap.size 3 1 (.slice K out.length kc) out.length (keysOf out) ∧ IsRf w' m now A c l ∧ l.Perm rest ∧ Only (· = m) w w'

def TickRel (w : World) (m : Nat) (t : Int) (ts : List Tm) (k : Nat) (out : Value) (W : World) : Prop :=
  ∃ A c l, IsRf W m t A c l ∧ l.Perm (ts.drop k) ∧ (∀ x ∈ ts.take k, x.2 ≤ t) ∧ W.ownsRow w.heap.size 3 1 out k (keysOf (ts.take k)) ∧ Only (· = m) w W

theorem filter_head {x : Tm} {tl : List Tm} (h : ((x :: tl).map (·.1)).Nodup) : ((x :: tl).filter fun y => !(y.1 == x.1)) = tl := by
  rw [List.map_cons, List.nodup_cons] at h
  rw [List.filter_cons_of_neg (by simp)]
  refine List.filter_eq_self.2 (fun y hy => ?_)
  have : y.1 ≠ x.1 := fun e => h.1 (List.mem_map.2 ⟨y, hy, e⟩)
  simpa using this

set_option maxHeartbeats 2000000 in
theorem rfTick_ok (h : IsRf w m now A c l) (n : Int) (h0 : 0 ≤ now) (h1 : now ≤ 1099511627776) (hn0 : 0 ≤ n) (hn1 : n ≤ 1099511627776 - now) (ts : List Tm) (hg : Good ts) (hp : l.Perm ts) :
    Calls Tryd.prog 13 #[.pointer (some ⟨m, 0, none⟩), .int .i64 n] w (RfTicked w m (now + n) (ts.filter fun x => decide (x.2 ≤ now + n)) (ts.filter fun x => !decide (x.2 ≤ now + n))) := by
  have c0 := h.c0
  have hfz := h.head.frozen 0
  have hset : Only (· = m) w (w.setCell ⟨m, 0, none⟩ (.int .i64 (now + n))) := (Only.refl (· = m) w).setCell (p := ⟨m, 0, none⟩) (.inl rfl) _
  have h' : IsRf (w.setCell ⟨m, 0, none⟩ (.int .i64 (now + n))) m (now + n) A c l := ⟨h.head.setCell 0 _, own_only h.row hset (fun q hq => own_ne h.row h.head (by decide) q hq), h.most⟩
  obtain ⟨j0, hj0, jz0, jz1, jz2⟩ := info_parts info_int
  have h2 : 0 ≤ now + n := by omega
  have h3 : now + n ≤ 1099511627776 := by omega
  have h4 : now ≤ 1099511627776 - n := by omega
  have hz : (w.setCell ⟨m, 0, none⟩ (.int .i64 (now + n))).heap.size = w.heap.size := by simp [World.setCell]
  obtain ⟨w1, hw1⟩ : ∃ w1, w1 = w.setCell ⟨m, 0, none⟩ (.int .i64 (now + n)) := ⟨_, rfl⟩
  rw [← hw1] at h' hset hz
  have hm16 : ts.length ≤ 16 := by rw [← hp.length_eq]; exact h.most
  have HR0 := Lib.hid (show TickRel w m (now + n) ts 0 (.slice (some ⟨w1.heap.size, 0, none⟩) 0 0) (w1.alloc (.cells #[] 3)) from
    ⟨A, c, l, h'.same ((Only.refl _ w1).alloc _), by simpa using hp, (by intro x hx; simp at hx), own_of_blk (cur := []) (Blk.new w1 _ []) rfl rfl (Nat.le_refl _) (by omega) (by omega), hset.alloc _⟩)
  have HW := Lib.hid hw1
  have HG := Lib.hid hg
  have HZ := Lib.hid hz
  clear h h' hset hw1 hz hg hp
  obtain ⟨fo, hfo⟩ : ∃ fo, fo = ts.filter fun x => decide (x.2 ≤ now + n) := ⟨_, rfl⟩
  obtain ⟨fr, hfr⟩ : ∃ fr, fr = ts.filter fun x => !decide (x.2 ≤ now + n) := ⟨_, rfl⟩
  rw [← hfo, ← hfr]
  have HFO := Lib.hid hfo
  have HFR := Lib.hid hfr
  clear hfo hfr
  go_enter Tryd.func13, Tryd.ntmps13
  go_wp2_with fail
  rw [← HW.out]
  rw [show w.heap.size = w1.heap.size from HZ.out.symm]
  clear c0 hfz
  obtain ⟨t, ht⟩ : ∃ t, t = now + n := ⟨_, rfl⟩
  rw [← ht] at HR0 HFO HFR h2 h3 ⊢
  clear ht
  go_loopg [6] ts.length (fun gg out W => ∃ k : Nat, k ≤ ts.length ∧ ts.length - k ≤ gg ∧ Hid (TickRel w m t ts k out W))
  case atStart => exact ⟨0, Nat.zero_le _, by omega, HR0.out⟩
  case round =>
    clear HR0
    obtain ⟨k, hk, hg, hr⟩ := hrel
    obtain ⟨A1, c1, l1, hrf, hp1, hdue, hown, hO⟩ := hr.out
    have HRf := Lib.hid hrf
    have HDue := Lib.hid hdue
    have HOwn := Lib.hid hown
    have HO := Lib.hid hO
    have hgk : Good (ts.drop k) := HG.out.sub (List.drop_sublist _ _)
    clear hr hrf hdue hown hO
    cases hx : ts[k]? with
    | none =>
      have hdn : ts.drop k = [] := List.drop_eq_nil_of_le (List.getElem?_eq_none_iff.1 hx)
      rw [hdn] at hp1
      obtain rfl : l1 = [] := List.Perm.eq_nil hp1
      have C := Lib.hid (rfFirst_none HRf.out)
      have HE := Lib.hid (due_first HG.out.sorted t k HDue.out (fun x h => by rw [hx] at h; cases h))
      have HDn := Lib.hid hdn
      clear hx hp1 hgk hdn
      go_wp2_with fail
      refine C.out.mono ?_
      rintro e w2 ⟨rfl, ho2⟩
      have HO2 := Lib.hid ho2
      clear ho2 C
      go_wp2
      go_ret2
      obtain ⟨KA, kc, rfl, _, _⟩ := own_form HOwn.out
      have hl : (ts.take k).length = k := by rw [List.length_take]; omega
      refine ⟨KA, kc, A1, c1, [], ?_, ?_, HRf.out.same HO2.out, ?_, HO.out.trans HO2.out (fun i hi => hi.elim)⟩
      · rw [HFO.out, HE.out.1, hl]; rfl
      · rw [HFO.out, HE.out.1, hl]
        exact own_same HOwn.out HO2.out
      · rw [HFR.out, HE.out.2, HDn.out]
    | some x =>
      have hkl : k < ts.length := (List.getElem?_eq_some_iff.1 hx).1
      have hdn : ts.drop k = x :: ts.drop (k + 1) := by
        rw [List.drop_eq_getElem_cons hkl, (List.getElem?_eq_some_iff.1 hx).2]
      rw [hdn] at hp1 hgk
      have hmin : IsMin l1 x := hgk.head hp1
      have C := Lib.hid (rfFirst_some HRf.out x hmin)
      have Hx := Lib.hid hx
      have HDn := Lib.hid hdn
      have HP := Lib.hid hp1
      have HGk := Lib.hid hgk
      clear hx hdn hp1 hgk hmin
      by_cases hdx : t < x.2
      · have HE := Lib.hid (due_first HG.out.sorted t k HDue.out (fun y h => by rw [Hx.out] at h; cases h; exact hdx))
        go_wp2_with fail
        refine C.out.mono ?_
        rintro e w2 ⟨rfl, ho2⟩
        have HO2 := Lib.hid ho2
        have d0 := (HRf.out.same ho2).c0
        clear ho2 C
        go_wp2
        go_ret2
        obtain ⟨KA, kc, rfl, _, _⟩ := own_form HOwn.out
        have hl : (ts.take k).length = k := by rw [List.length_take]; omega
        refine ⟨KA, kc, A1, c1, l1, ?_, ?_, HRf.out.same HO2.out, ?_, HO.out.trans HO2.out (fun i hi => hi.elim)⟩
        · rw [HFO.out, HE.out.1, hl]; rfl
        · rw [HFO.out, HE.out.1, hl]
          exact own_same HOwn.out HO2.out
        · rw [HFR.out, HE.out.2, HDn.out]
          exact HP.out
      · go_wp2_with fail
        refine C.out.mono ?_
        rintro e w2 ⟨rfl, ho2⟩
        have HO2 := Lib.hid ho2
        have d0 := (HRf.out.same ho2).c0
        have HOwn2 := Lib.hid (own_same HOwn.out ho2)
        have hsz2 := (HO.out.trans ho2 (fun i hi => hi.elim)).size
        clear ho2 C
        go_wp2_with (first
          | (at_builtin; refine wpList_append_lies _ rfl (.tmp 47) (.tmp 49) 38 rfl w.heap.size 3 j0 _ 1 8 Tryd.underlying38 hj0 jz0 jz1 jz2 rfl (by omega) _ _ _ rfl (HOwn2.out.alloc _) ⟨w2.heap.size, 0, none⟩ 1 1 (keysOf [x]) rfl rfl (news_one (Blk.new w2 3 [.int .i64 x.1])) (keys_one [x]) (by omega) (by unfold maxLen; omega) (by omega) (by simp; omega) _ rfl ?_; intro g3 cap3 w3 hown3 hgr3 hat3 hlt3; have HOwn3 := Lib.hid hown3; have HGr3 := Lib.hid hgr3; clear hown3 hgr3 hat3)
          | fail)
        have hrf2 := HRf.out.same HO2.out
        have hrf3 := (hrf2.same ((Only.refl _ w2).alloc (.cells #[.int .i64 x.1] 3))).only (grown_only HGr3.out) (fun e => own_ne HOwn2.out hrf2.head (by decide) m e rfl) (fun q hq e => own_own_ne HOwn2.out hrf2.row (by decide) q e hq)
        have hO3 : Only (· = m) w w3 := ((HO.out.trans HO2.out (fun i hi => hi.elim)).alloc (.cells #[.int .i64 x.1] 3)).grown HGr3.out (fun q hq => .inr (own_lt HOwn2.out q hq).1)
        have C := Lib.hid (rfDrop hrf3 x.1)
        have HRf3 := Lib.hid hrf3.head
        have HO3 := Lib.hid hO3
        have hperm : (l1.filter fun y => !(y.1 == x.1)).Perm (ts.drop (k + 1)) := by
          have := HP.out.filter (fun y => !(y.1 == x.1))
          rwa [filter_head HGk.out.keys] at this
        have HPerm := Lib.hid hperm
        clear hrf2 hrf3 hO3 hperm d0
        refine C.out.mono ?_
        rintro e w4 ⟨g4, c4, rfl, hrf4, ho4⟩
        have HRf4 := Lib.hid hrf4
        have HO4 := Lib.hid ho4
        clear hrf4 ho4 C
        go_wp2
        go_roundg (ts.length - (k + 1))
        case measure => omega
        case rel =>
          refine ⟨k + 1, by omega, Nat.le_refl _, some ⟨g4, 0, none⟩, c4, _, HRf4.out, HPerm.out, ?_, ?_, HO3.out.trans HO4.out (fun i hi => .inl hi)⟩
          · intro y hy
            rw [List.take_add_one, Hx.out] at hy
            rcases List.mem_append.1 hy with hy | hy
            · exact HDue.out y hy
            · have : y = x := by simpa using hy
              rw [this]; omega
          · have e : keysOf (ts.take (k + 1)) = keysOf (ts.take k) ++ keysOf [x] := by rw [List.take_add_one, Hx.out]; simp [keysOf]
            rw [e]
            exact own_only HOwn3.out HO4.out (fun q hq => own_ne HOwn3.out HRf3.out (by decide) q hq)
end

/-- Two rows of the same numbers. -/
theorem same_ints {w : World} {B B' : Nat} {A A' : Option Addr} {n c c' : Nat} {l : List Tm} (h : w.ownsRow B 3 1 (.slice A n c) n (keysOf l)) (h' : w.ownsRow B' 3 1 (.slice A' n c') n (keysOf l)) :
    Calls Tryd.prog 14 #[.slice A n c, .slice A' n c'] w fun e w' => e = .returned (.bool true) ∧ w = w' := by
  have hle := own_le h
  have hl : l.length = n := by have := h.1; simpa [keysOf] using this
  have H1 := Lib.hid h
  have H2 := Lib.hid h'
  have HL := Lib.hid hl
  clear h h' hl
  go_enter Tryd.func14, Tryd.ntmps14
  go_wp2
  go_loop [14] (fun i => ∃ k : Nat, k ≤ n ∧ i = .int .i64 (k : Int)) (fun i => n - (intOf i).toNat)
  case atStart => exact ⟨0, Nat.zero_le _, rfl⟩
  case round =>
    obtain ⟨k, hk, rfl⟩ := hrel
    by_cases hlt : k < n
    · obtain ⟨x, hx⟩ : ∃ x, l[k]? = some x := ⟨_, List.getElem?_eq_getElem (by rw [HL.out]; exact hlt)⟩
      obtain ⟨g, rfl, _, _, hc⟩ := own_at H1.out (by omega)
      obtain ⟨g', rfl, _, _, hc'⟩ := own_at H2.out (by omega)
      have d0 := hc k (.int .i64 x.1) (by rw [keysOf, List.getElem?_map, hx]; rfl)
      have d1 := hc' k (.int .i64 x.1) (by rw [keysOf, List.getElem?_map, hx]; rfl)
      have bx : (x.1 != x.1) = false := by simp
      clear hc hc' hx
      go_wp2
      go_round
      case rel => exact ⟨k + 1, by omega, by go_num⟩
      case measure => simp [intOf]; omega
    · go_wp2
      go_ret
      exact ⟨rfl, rfl⟩
end Go.Proofs.YtdcjmfbdmejjjaaDoor
