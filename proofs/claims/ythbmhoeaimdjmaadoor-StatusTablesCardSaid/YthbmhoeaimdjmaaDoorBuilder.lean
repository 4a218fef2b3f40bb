/- A strings.Builder of the call's own: what is written behind what it holds, and what it holds at the end. -/
import Derived.Test.YthbmhoeaimdjmaaDoorShelf
import Derived.Test.YthbmhoeaimdjmaaDoorText
import Derived.Lib.AppendStr
namespace Go.Proofs.YthbmhoeaimdjmaaDoor
open Go Go.RowKit
set_option maxRecDepth 100000
set_option maxHeartbeats 2000000

theorem size_builder : (Tryd.prog.info? 78).map (·.size) = some 2 := by kernel_rfl
theorem lies_builder : liesAt Tryd.prog Tryd.prog.depth 78 (2 / Tryd.prog.cellsOf 78) 0 78 1 = true := by kernel_rfl

theorem check_used (b : Nat) (w : World) (h0 : w.cell? ⟨b, 0, none⟩ = some (.pointer (some ⟨b, 0, none⟩))) :
    Calls Tryd.prog 54 #[.pointer (some ⟨b, 0, none⟩)] w fun e w' => e = .returned (.tuple #[]) ∧ w' = w := by
  obtain ⟨j, hj, _⟩ := Option.map_eq_some_iff.1 size_builder
  go_enter Tryd.func54, Tryd.ntmps54
  go_wp2
  rw [Lib.run_neq_ptr_same w _ Tryd.underlying76 hj]
  go_wp2
  go_end0
  exact ⟨rfl, rfl⟩

theorem check_fresh (b : Nat) (w : World) (h0 : w.cell? ⟨b, 0, none⟩ = some (.pointer none)) (hsh : w.shape? b = some (78, 2)) (hfz : w.frozen? ⟨b, 0, none⟩ = false) :
    Calls Tryd.prog 54 #[.pointer (some ⟨b, 0, none⟩)] w fun e w' => e = .returned (.tuple #[]) ∧ w' = w.setCell ⟨b, 0, none⟩ (.pointer (some ⟨b, 0, none⟩)) := by
  obtain ⟨j, hj, hjs⟩ := Option.map_eq_some_iff.1 size_builder
  go_enter Tryd.func54, Tryd.ntmps54
  go_wp2
  rw [Lib.run_to_unsafe w ⟨b, 0, none⟩ Tryd.underlying76 Tryd.underlying143 hj (by rw [hjs]; decide) hsh (Nat.zero_lt_succ 1)]
  simp only [Result.andThen]
  rw [Oper.upon_value]
  go_wp2
  rw [run_callFunc_extern Tryd.func63 (by kernel_rfl) (by kernel_rfl) (by kernel_rfl) (e := Extern.AbiNoEscape.same) (by kernel_rfl)]
  rw [Lib.run_noEscape]
  simp only [Result.andThen]
  rw [Oper.upon_value]
  go_wp2
  rw [Lib.run_from_unsafe w ⟨b, 0, none⟩ Tryd.underlying143 Tryd.underlying76 hj hsh lies_builder]
  simp only [Result.andThen]
  rw [Oper.upon_value]
  go_wp2
  go_end0
  exact ⟨rfl, rfl⟩

/-- A builder that holds these bytes. -/
abbrev SbAt (w : World) (B b : Nat) (l : List UInt8) : Prop := Lib.IsBuilder 78 5 B b (Lib.byteCells l) w
theorem SbAt.new (w : World) : SbAt (w.alloc (.cells #[.pointer none, .slice none 0 0] 78)) w.heap.size w.heap.size [] := by
  have h : Blk (w.alloc (.cells #[.pointer none, .slice none 0 0] 78)) w.heap.size 78 [.pointer none, .slice none 0 0] := Blk.new w _ [.pointer none, .slice none 0 0]
  exact .inl ⟨Nat.le_refl _, .slice none 0 0, h, own_nil _ _ _ _, by simp [Value.ownBlock]⟩
theorem SbAt.same {w w' : World} {B b : Nat} {l : List UInt8} (h : SbAt w B b l) (ho : Only (fun _ => False) w w') : SbAt w' B b l := by
  have key : ∀ p, Lib.BuilderAt 78 5 B b p (Lib.byteCells l) w → Lib.BuilderAt 78 5 B b p (Lib.byteCells l) w' := by
    rintro p ⟨h1, v, hb, hr, hn⟩
    exact ⟨h1, v, (show Blk w b 78 [p, v] from hb).only ho (fun h => h), own_same hr ho, hn⟩
  exact h.imp (key _) (key _)
theorem sbCheck {B b : Nat} {l : List UInt8} {w : World} (h : SbAt w B b l) : Calls Tryd.prog 54 #[.pointer (some ⟨b, 0, none⟩)] w fun e w' =>
    e = .returned (.tuple #[]) ∧ Lib.BuilderAt 78 5 B b (.pointer (some ⟨b, 0, none⟩)) (Lib.byteCells l) w' ∧ Only (· = b) w w' := by
  rcases h with h | h
  · refine (check_fresh b w h.cell0 h.shape h.frozen0).mono ?_
    rintro e w' ⟨rfl, rfl⟩
    exact ⟨rfl, h.used _, (Only.refl (· = b) w).setCell (p := ⟨b, 0, none⟩) (.inl rfl) _⟩
  · refine (check_used b w h.cell0).mono ?_
    rintro e w' ⟨rfl, rfl⟩
    exact ⟨rfl, h, Only.refl _ _⟩
/-- b.WriteString(s). -/
theorem sbWrite {B b : Nat} {l s : List UInt8} {w : World} (h : SbAt w B b l) (hl : l.length + s.length ≤ 1048576) (hB : B ≤ w.heap.size) :
    Calls Tryd.prog 27 #[.pointer (some ⟨b, 0, none⟩), .string ⟨s.toArray⟩] w fun e w' => e = .returned (.tuple #[.int .i64 s.length, .nilIface]) ∧ SbAt w' B b (l ++ s) ∧ Only (fun i => B ≤ i) w w' ∧ ∀ N t cs, Blk w N t cs → t ≠ 5 → N ≠ b → Blk w' N t cs := by
  obtain ⟨i0, hi, hz0, hz1, hz2⟩ := info_parts info_byte
  have HB := Lib.hid hB
  have hsz : (ByteArray.mk s.toArray).size = s.length := by simp [ByteArray.size]
  have hbl : (Lib.byteCells l).length = l.length := by simp [Lib.byteCells]
  clear hB
  go_enter Tryd.func27, Tryd.ntmps27
  go_wp2_with (go_at_call 54; refine (sbCheck h).mono ?_)
  rintro e w1 ⟨rfl, h1, ho1⟩
  obtain ⟨hBb, v, hbk, hown, hne⟩ := h1
  have HO1 := Lib.hid ho1
  have c0 : w1.cell? ⟨b, 0, none⟩ = some (.pointer (some ⟨b, 0, none⟩)) := by rw [Lib.cell_of_heap hbk]; rfl
  have c1 : w1.cell? ⟨b, 1, none⟩ = some v := by rw [Lib.cell_of_heap hbk]; rfl
  clear h ho1
  go_wp2_with (at_builtin; refine Lib.wpList_append_own_string _ rfl _ _ 23 9 rfl B 5 i0 Tryd.underlying23 Tryd.underlying9 hi hz0 hz1 hz2 _ _ _ rfl hown ⟨s.toArray⟩ rfl ?c3 ?c4 ?c5 ?_)
  case c3 => unfold maxLen; omega
  case c4 => omega
  case c5 => have := HB.out; have := HO1.out.size; omega
  intro v' w2 hown' hgrow _
  have hlt : b < w1.heap.size := by
    rcases Nat.lt_or_ge b w1.heap.size with h' | h'
    · exact h'
    · simp [Array.getElem?_eq_none h'] at hbk
  have hb2 : w2.heap[b]? = some (.cells #[.pointer (some ⟨b, 0, none⟩), v] 78 (0, 0)) := by
    rw [hgrow.block b hlt (fun e => hne e.symm)]
    exact hbk
  have HO2 : Hid (Only (fun i => B ≤ i) w w2) := ((Only.mono HO1.out (fun i hi => by omega)).grown hgrow (fun k hk => .inl (own_lt hown k hk).1))
  have HK : Hid (∀ N t cs, Blk w N t cs → t ≠ 5 → N ≠ b → Blk w2 N t cs) := fun N t cs hN ht hb => by
    have h1 := hN.only HO1.out hb
    exact h1.grown hgrow (Lib.ownBlock_ne hown h1 ht)
  have d0 : w2.cell? ⟨b, 0, none⟩ = some (.pointer (some ⟨b, 0, none⟩)) := by rw [Lib.cell_of_heap hb2]; rfl
  have d1 : w2.cell? ⟨b, 1, none⟩ = some v := by rw [Lib.cell_of_heap hb2]; rfl
  have f1 : w2.frozen? ⟨b, 1, none⟩ = false := Lib.frozen_of_heap hb2 1
  obtain ⟨ao, n', cap, rfl⟩ : ∃ ao n' cap, v' = .slice ao n' cap := by
    rcases hown'.2 with ⟨hv, _⟩ | ⟨g, cap, cur, hv, _⟩
    · exact ⟨_, _, _, hv⟩
    · exact ⟨_, _, _, hv⟩
  have hcat : Lib.byteCells l ++ Lib.strCells ⟨s.toArray⟩ = Lib.byteCells (l ++ s) := by simp [Lib.byteCells, Lib.strCells]
  have hlen : l.length + s.length = (Lib.byteCells (l ++ s)).length := by simp [Lib.byteCells]
  rw [hcat, hlen] at hown'
  have HW := Lib.hid hown'
  have HSz := Lib.hid hsz
  clear hown' hgrow hcat hlen hown hbk c0 c1 hsz hbl
  go_wp2
  go_ret2
  refine ⟨rfl, ?_, ?_, fun N t cs hN ht hb => (HK.out N t cs hN ht hb).far (p := ⟨b, 1, none⟩) hb _⟩
  · exact .inr (Lib.BuilderAt.put (T := 78) (e := 5) hBb hb2 HW.out (by decide))
  · exact HO2.out.setCell (p := ⟨b, 1, none⟩) (.inl hBb) _
/-- b.String(). -/
theorem sbString {B b : Nat} {l : List UInt8} {w : World} (h : SbAt w B b l) (hB : B ≤ w.heap.size) : Calls Tryd.prog 31 #[.pointer (some ⟨b, 0, none⟩)] w fun e w' =>
    e = .returned (.string ⟨l.toArray⟩) ∧ ∀ W0, Only (fun _ => False) W0 w → W0.heap.size ≤ B → Only (fun _ => False) W0 w' :=
  (Tryd.Builder_String_any B b l w h hB).mono fun e w' ⟨he, hb⟩ => ⟨he, fun W0 ho h0 => ⟨hb.os.trans ho.os, hb.tape.trans ho.tape, hb.output.trans ho.output, Nat.le_trans ho.size hb.size, fun k hk _ => (hb.block k (by omega)).trans (ho.block k hk (fun h => h))⟩⟩
end Go.Proofs.YthbmhoeaimdjmaaDoor
