/- The document's own timers (package truchmanref02): Drop, At, First. -/
import Derived.Test.YtdcjmfbdmejjjaaDoorTimers
import Derived.Test.YtdcjmfbdmejjjaaDoorOrder
import Derived.BigQuiet
namespace Go.Proofs.YtdcjmfbdmejjjaaDoor
open Go Go.RowKit
set_option maxRecDepth 100000

theorem info_pair : (Tryd.prog.info? 64).map (fun i => (i.zero, i.size, i.bytes)) = some (some (.agg #[.int .i64 0, .int .i64 0]), 2, 16) := by kernel_rfl

theorem blk_two (w : World) (o : Obj) (t : TypeId) (cs : List Value) : Blk ((w.alloc o).alloc (.cells cs.toArray t)) (w.heap.size + 1) t cs := by
  have := Blk.new (w.alloc o) t cs
  simpa using this

theorem info_pair_parts : ∃ i, Tryd.prog.info? 64 = some i ∧ i.zero = some (.agg #[.int .i64 0, .int .i64 0]) ∧ i.size = 2 ∧ i.bytes = 16 := info_parts info_pair
theorem row_add {w : World} {B g : Nat} {e : TypeId} {s n c : Nat} {xs : List Value} (h : w.ownsRow B e s (.slice (some ⟨g, 0, none⟩) n c) n xs) (j : Nat) (u : Value) (hu : xs[j]? = some u) : w.cell? ((⟨g, 0, none⟩ : Addr).add j) = some u :=
  h.cells (g := g) rfl j u hu
theorem grown_only {w w' : World} {row : Option Nat} (hg : w.grownBy w' row) : Only (fun k => row = some k) w w' := (Only.refl _ w).grown hg (fun k hk => .inl hk)

/-- Block m holds the document's timers. -/
structure IsRf (w : World) (m : Nat) (now : Int) (A : Option Addr) (c : Nat) (l : List Tm) : Prop where
  head : Blk w m 29 [.int .i64 now, .slice A l.length c]
  row : w.ownsRow 0 64 2 (.slice A l.length c) l.length (flat l)
  most : l.length ≤ 16

section
variable {m c : Nat} {w w' : World} {now : Int} {A : Option Addr} {l : List Tm}
theorem IsRf.only {S : Nat → Prop} (h : IsRf w m now A c l) (ho : Only S w w') (h1 : ¬ S m) (h2 : ∀ k, (Value.slice A l.length c).ownBlock = some k → ¬ S k) : IsRf w' m now A c l :=
  ⟨h.head.only ho h1, own_only h.row ho h2, h.most⟩
theorem IsRf.same (h : IsRf w m now A c l) (ho : Only (fun _ => False) w w') : IsRf w' m now A c l := h.only ho (fun h => h) (fun _ _ h => h)
theorem IsRf.c0 (h : IsRf w m now A c l) : w.cell? ⟨m, 0, none⟩ = some (.int .i64 now) := by rw [h.head.cell 0]; rfl
theorem IsRf.c1 (h : IsRf w m now A c l) : w.cell? ⟨m, 1, none⟩ = some (.slice A l.length c) := by rw [h.head.cell 1]; rfl

/-- Drop. -/
def Dropped (w : World) (m : Nat) (now : Int) (b : Bool) (rest : List Tm) (e : Ending) (w' : World) : Prop :=
  ∃ g c, e = .returned (.bool b) ∧ IsRf w' m now (some ⟨g, 0, none⟩) c rest ∧ Only (· = m) w w'
def DropRel (w : World) (key : Int) (l : List Tm) (k : Nat) (rs was : Value) (W : World) : Prop :=
  Only (fun _ => False) w W ∧ was = .bool ((l.take k).any fun x => x.1 == key) ∧ rs ≠ .slice none 0 0 ∧
    W.ownsRow w.heap.size 64 2 rs ((l.take k).filter fun x => !(x.1 == key)).length (flat ((l.take k).filter fun x => !(x.1 == key)))

set_option maxHeartbeats 1000000 in
theorem rfDrop (h : IsRf w m now A c l) (key : Int) : Calls Tryd.prog 11 #[.pointer (some ⟨m, 0, none⟩), .int .i64 key] w
    (Dropped w m now (l.any fun x => x.1 == key) (l.filter fun x => !(x.1 == key))) := by
  have c1 := h.c1
  have hle := own_le h.row
  have hm := h.most
  obtain ⟨i0, hi0, hz0, hz1, hz2⟩ := info_parts info_pair
  have HH := Lib.hid h
  clear h
  obtain ⟨n, hn⟩ : ∃ n, n = l.length := ⟨_, rfl⟩
  rw [← hn] at c1 hle hm
  have HN := Lib.hid hn
  clear hn
  obtain ⟨wa, hwa⟩ : ∃ wa, wa = l.any fun x => x.1 == key := ⟨_, rfl⟩
  obtain ⟨rl, hrl⟩ : ∃ rl, rl = l.filter fun x => !(x.1 == key) := ⟨_, rfl⟩
  rw [← hwa, ← hrl]
  have HRl := Lib.hid hrl
  have HWa := Lib.hid hwa
  clear hwa hrl
  go_enter Tryd.func11, Tryd.ntmps11
  have c1' := ((Only.refl (fun _ => False) w).alloc (.cells #[] 64)).cellv c1 (fun h => h)
  go_wp2
  have HR0 := Lib.hid (show DropRel w key l 0 (.slice (some ⟨w.heap.size, 0, none⟩) 0 0) (.bool false) (w.alloc (.cells #[] 64)) from
    ⟨(Only.refl _ _).alloc _, rfl, (by intro h; cases h), own_of_blk (cur := []) (Blk.new w _ []) rfl rfl (Nat.le_refl _) (by omega) (Nat.le_refl _)⟩)
  clear c1' c1
  go_loopw [5, 6, 15] (fun rs was i W => ∃ k : Nat, k ≤ n ∧ i = .int .i64 (k : Int) ∧ Hid (DropRel w key l k rs was W)) (fun _ _ i _ => n - (intOf i).toNat)
  case atStart => exact ⟨0, Nat.zero_le _, rfl, HR0.out⟩
  case round =>
    clear HR0
    obtain ⟨k, hk, rfl, hr⟩ := hrel
    obtain ⟨hO, hwas, hne, hR⟩ := hr.out
    subst hwas
    have HO := Lib.hid hO
    have HNe := Lib.hid hne
    have HR := Lib.hid hR
    clear hr hO hne hR
    by_cases hlt : k < n
    · obtain ⟨x, hx⟩ : ∃ x, l[k]? = some x := ⟨_, List.getElem?_eq_getElem (by rw [← HN.out]; exact hlt)⟩
      have hrow := own_same HH.out.row HO.out
      rw [← HN.out] at hrow
      obtain ⟨g0, rfl, _, hg0, d0, d1⟩ := two_of hrow hx hlt
      have HT := Lib.hid (show l.take (k + 1) = l.take k ++ [x] by rw [List.take_add_one, hx]; rfl)
      have Hal := Lib.hid (HO.out.alloc (.cells #[.int .i64 x.1, .int .i64 x.2] 64))
      have Hrs := Lib.hid (HR.out.alloc (.cells #[.int .i64 x.1, .int .i64 x.2] 64))
      have hll := List.length_filter_le (fun x : Tm => !(x.1 == key)) (l.take k)
      have htk : (l.take k).length ≤ k := List.length_take_le _ _
      have hsz := HO.out.size
      obtain ⟨wk, hwk⟩ : ∃ wk, wk = (l.take k).any fun x => x.1 == key := ⟨_, rfl⟩
      rw [← hwk]
      have HWk := Lib.hid hwk
      clear hx hrow hwk
      by_cases hkx : x.1 = key
      · have b1 : (x.1 == key) = true := by simp [hkx]
        have HB := Lib.hid b1
        clear hkx
        go_wp2
        go_roundw
        case rel =>
          refine ⟨k + 1, by omega, by go_num, Hal.out, ?_, HNe.out, ?_⟩
          · rw [HT.out, List.any_append]
            simp [HB.out]
          · rw [HT.out, List.filter_append, List.filter_cons_of_neg (by rw [HB.out]; simp), List.filter_nil, List.append_nil]
            exact Hrs.out
        case measure => simp [intOf]; omega
      · have b1 : (x.1 == key) = false := by simp [hkx]
        have HB := Lib.hid b1
        clear hkx
        go_wp2_with (at_builtin; refine wpList_append_lies _ rfl (.tmp 23) (.tmp 25) 27 rfl w.heap.size 64 i0 _ 2 16 Tryd.underlying27 hi0 hz0 hz1 hz2 rfl (by omega) _ _ _ rfl (Hrs.out.alloc _) ⟨wr.heap.size + 1, 0, none⟩ 1 1 (flat [x]) rfl (by rfl) (news_two (blk_two wr _ 64 [.int .i64 x.1, .int .i64 x.2])) (flat_one [x]) (by omega) (by unfold maxLen; omega) (by omega) (by simp; omega) _ rfl ?_; intro g' cap w'' hown hgr hat hlt')
        go_roundw
        case rel =>
          refine ⟨k + 1, by omega, by go_num, (Hal.out.alloc _).grown hgr (fun q hq => .inr (own_lt Hrs.out q hq).1), ?_, (by intro h; cases h), ?_⟩
          · rw [HT.out, List.any_append, HWk.out]
            simp [HB.out]
          · have e : (l.take (k + 1)).filter (fun x => !(x.1 == key)) = (l.take k).filter (fun x => !(x.1 == key)) ++ [x] := by
              rw [HT.out, List.filter_append, List.filter_cons_of_pos (by rw [HB.out]; rfl), List.filter_nil]
            rw [e, List.length_append, flat_append]
            exact hown
        case measure => simp [intOf]; omega
    · obtain rfl : k = n := by omega
      have htk : l.take k = l := List.take_of_length_le (by rw [← HN.out]; omega)
      have hR := HR.out
      rw [htk] at hR ⊢
      have hlr := List.length_filter_le (fun x : Tm => !(x.1 == key)) l
      obtain ⟨RA, rc, rfl, h1, h2⟩ := own_form hR
      obtain ⟨g, rfl⟩ : ∃ g, RA = some ⟨g, 0, none⟩ := by
        rcases hR.2 with ⟨h, _⟩ | ⟨g, cap, cur, h, _⟩
        · exact absurd h HNe.out
        · injection h with h
          exact ⟨g, h⟩
      have hB0 := HH.out.head.only HO.out (fun h => h)
      rw [← HN.out] at hB0
      have hfz := hB0.frozen 1
      have hcell : wr.cell? ⟨m, 1, none⟩ = some (.slice A k c) := by rw [hB0.cell 1]; rfl
      have HB0 := Lib.hid hB0
      have HRf := Lib.hid hR
      rw [← HWa.out, ← HRl.out]
      rw [← HRl.out] at hlr
      clear hB0 hR htk h1
      go_wp2
      go_ret
      have hset : Only (· = m) wr (wr.setCell ⟨m, 1, none⟩ (.slice (some ⟨g, 0, none⟩) rl.length rc)) := (Only.refl (· = m) wr).setCell (p := ⟨m, 1, none⟩) (.inl rfl) _
      have HRf := HRf.out
      rw [← HRl.out] at HRf
      refine ⟨g, rc, rfl, ⟨HB0.out.setCell 1 _, own_only (own_mono HRf (Nat.zero_le _)) hset (fun q hq => own_ne HRf HB0.out (by decide) q hq), by have := HN.out; omega⟩, (HO.out.mono (fun _ h => h.elim)).trans hset (fun i hi => .inl hi)⟩
end
end Go.Proofs.YtdcjmfbdmejjjaaDoor
