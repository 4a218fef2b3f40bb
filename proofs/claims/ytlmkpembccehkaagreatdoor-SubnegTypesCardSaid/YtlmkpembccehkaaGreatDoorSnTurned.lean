/- What is told when an option turns: our size, and that the other side's types are asked for. -/
import Derived.Test.YtlmkpembccehkaaGreatDoorSnTurn
import Derived.Test.YtlmkpembccehkaaGreatDoorSnNew
import Derived.Test.YtlmkpembccehkaaGreatDoorText
namespace Go.Proofs.YtlmkpembccehkaaGreatDoor
open Go Go.RowKit
set_option maxRecDepth 100000
set_option maxHeartbeats 4000000

/-- slices.Clone of bytes: an own row. -/
theorem clone_own {w : World} {ad : Addr} {n c : Nat} {xs : List UInt8} (hs : Src w (some ad) n xs) (hn : n ≤ 1048000) :
    Calls Tryz.prog 78 #[.slice (some ad) n c] w fun e w' => ∃ A' c', e = .returned (.slice A' n c') ∧ Hid (Body w' w.heap.size (.slice A' n c') xs) ∧ Hid (Only (fun _ => False) w w') := by
  have qn : ∀ (w : World) (a : Option Addr) (n c n' c' : Nat), (binOp .eql 45 (.slice a n c) (.slice none n' c')).run Tryz.prog w = .ok (.bool a.isNone) w := fun w a n c n' c' => Lib.run_eql_slice_nil w _ _ a n c n' c' Tryz.underlying45
  have HO := Lib.hid (((Only.refl (fun _ => False) w).alloc (.cells #[] 5)))
  have HE := Lib.hid (show Body (w.alloc (.cells #[] 5)) w.heap.size (.slice (some ⟨w.heap.size, 0, none⟩) 0 0) [] from own_of_blk (B := w.heap.size) (c := 0) (s := 1) (n := 0) (xs := []) (Blk.new w 5 []) rfl rfl (by omega) (by omega) (Nat.le_refl _))
  have HS := Lib.hid hs
  clear hs
  go_enter Tryz.func78, Tryz.ntmps78
  go_wp2_with (at_builtin; refine step_bytesG rfl (.tmp 5) (.tmp 6) rfl w.heap.size _ _ _ [] rfl HE.out rfl (some ad) n c xs rfl (HS.out.only HO.out (fun _ _ _ h => h)) (by omega) (by simp) ?_; intro A' c' w2 hb hg)
  go_ret
  have hown := hb.out
  rw [Nat.zero_add, List.nil_append] at hown
  exact ⟨A', c', rfl, hown, HO.out.grown hg.out (fun q hq => .inr (by cases hq; exact Nat.le_refl _))⟩
theorem size_list : (Tryz.prog.info? 72).map (·.size) = some (cellsL Ls.none).length := by kernel_rfl
theorem built_list : Tryz.prog.built 72 [] = some (cellsL Ls.none).toArray := by kernel_rfl
theorem list_one : ∀ v ∈ cellsL Ls.none, v.oneCell' = true := by
  intro v hv
  simp only [cellsL, Ls.none, List.map_nil, List.length_nil, Nat.sub_zero, List.nil_append, List.mem_append, List.mem_replicate, List.mem_cons, List.not_mem_nil, or_false] at hv
  rcases hv with ⟨_, rfl⟩ | rfl | rfl <;> rfl
section
variable {w : World} {p : Nat} {h : Hb}
theorem ourSize_on (k : HuAt w p h) {N : Nat} {b : List UInt8} (hsz : h.sz = .slice (some ⟨N, 0, none⟩) 4 4) (hs : Src w (some ⟨N, 0, none⟩) 4 b) :
    Calls Tryz.prog 55 #[.pointer (some ⟨p, 0, none⟩), .bool true] w fun e w' => ∃ M, e = .returned (.slice (some ⟨M, 0, none⟩) 1 1) ∧ Hid (One w.heap.size w' (.slice (some ⟨M, 0, none⟩) 1 1) 31 b) ∧ Hid (HuAt w' p h) ∧ Hid (Only (fun _ => False) w w') := by
  have c0 : w.cell? ⟨p, 0, none⟩ = some (.slice (some ⟨N, 0, none⟩) 4 4) := (k.in0.val (i := 0) rfl).trans (congrArg some hsz)
  have HK := Lib.hid k
  have HCl := Lib.hid (clone_own (c := 4) hs (by omega))
  have HT := Lib.hid (fun W A n c => tell_any W 31 A n c)
  have hb := Lib.hid hs.1
  clear k hsz hs
  go_enter Tryz.func55, Tryz.ntmps55
  go_wp2_with (first
    | (go_at_call 78; (with_reducible refine HCl.out.mono ?_); rintro e w1 ⟨A1, c1, rfl, hb1, ho1⟩)
    | (go_at_call 71; (with_reducible refine (HT.out _ _ _ _).mono ?_); rintro e w2 ⟨rfl, hb2, ho2⟩))
  go_ret
  have hz := ho1.out.size
  exact ⟨_, rfl, Body.one hb1.out hb.out.symm ho2.out hb2.out hz, (HK.out.same ho1.out).same ho2.out, ho1.out.trans ho2.out (fun _ h => h.elim)⟩
theorem hisTypes_on (k : HuAt w p h) :
    Calls Tryz.prog 59 #[.pointer (some ⟨p, 0, none⟩), .bool true] w fun e w' => ∃ M, e = .returned (.slice (some ⟨M, 0, none⟩) 1 1) ∧ Hid (One w.heap.size w' (.slice (some ⟨M, 0, none⟩) 1 1) 24 [1]) ∧ Hid (HuAt w' p { h with li := Ls.none }) ∧ Hid (Only (· = p) w w') := by
  have HK := Lib.hid k
  have HT := Lib.hid (fun W A n c => tell_any W 24 A n c)
  have HA := Lib.hid ttask_any
  have hbl := built_list
  have hsl := size_list
  have ho := list_one
  have hl := k.ok.l1
  obtain ⟨zs, hzs⟩ : ∃ zs, zs = cellsL Ls.none := ⟨_, rfl⟩
  have h10 : zs.length = 10 := by rw [hzs]; rfl
  rw [← hzs] at hbl hsl ho
  have HZ := Lib.hid hzs
  have HBl := Lib.hid hbl
  have HSl := Lib.hid hsl
  have HOne := Lib.hid ho
  have HL := Lib.hid (hl.trans h10.symm)
  clear k hbl hsl ho hl hzs h10
  go_enter Tryz.func59, Tryz.ntmps59
  go_wp2_with (first
    | ((with_reducible show wpList _ _ _ (⟨some 8, _, _, _, _, _⟩ :: _) _ _); refine step_build0 rfl 72 rfl zs HBl.out ?_)
    | ((with_reducible show wpList _ _ _ (⟨none, .store 72 _ _, _, _, _, _⟩ :: _) _ _); refine InB.store rfl 72 _ _ rfl HK.out.in1 rfl zs rfl HSl.out HL.out HOne.out ?_; intro w1 hI1 hz1 ho1)
    | (go_at_call 72; (with_reducible refine (HA.out _).mono ?_); rintro e w2 ⟨rfl, hs2, ho2⟩)
    | (go_at_call 71; (with_reducible refine (HT.out _ _ _ _).mono ?_); rintro e w3 ⟨rfl, hb3, ho3⟩))
  go_ret
  have hzz := hz1.out
  have hz2 := ho2.out.size
  have hI := hI1.out
  rw [HZ.out] at hI
  refine ⟨_, rfl, ⟨_, _, 1, 1, rfl, by omega, hb3.out, hs2.out.only ho3.out (fun _ _ _ h => h), fun _ ad e => ?_, by omega, by omega⟩, ((HuAt.of_list Ls.none_ok HK.out.ok hI).same ho2.out).same ho3.out, (ho1.trans ho2.out (fun _ h => h.elim)).trans ho3.out (fun _ h => h.elim)⟩
  injection e with e
  subst e
  show w.heap.size ≤ w1.heap.size
  omega
theorem turned_size (k : HuAt w p h) {N : Nat} {b : List UInt8} (hsz : h.sz = .slice (some ⟨N, 0, none⟩) 4 4) (hs : Src w (some ⟨N, 0, none⟩) 4 b) :
    Calls Tryz.prog 18 #[.pointer (some ⟨p, 0, none⟩), .int .i64 0, .int .i64 31, .bool true] w fun e w' => ∃ M, e = .returned (.slice (some ⟨M, 0, none⟩) 1 1) ∧ Hid (One w.heap.size w' (.slice (some ⟨M, 0, none⟩) 1 1) 31 b) ∧ Hid (HuAt w' p h) ∧ Hid (Only (fun _ => False) w w') := by
  have HF : Hid (∀ W, Only (fun _ => False) w W → _) := fun W ho => ourSize_on (k.same (w' := W) ho) hsz (hs.only ho (fun _ _ _ h => h))
  have HM := Lib.hid (fun W => turnings_any W p)
  have HL : Hid (∀ W M, FullAt W M p → (Instr.lookup 115 (.map (some M)) (.agg #[.int .i64 0, .int .i64 31]) true).run Tryz.prog W = .ok (.tuple #[.func (.func 55) #[.pointer (some ⟨p, 0, none⟩)] #[], .bool true]) W) := fun W M hM => look_place (i := 0) (by omega) hM
  clear k hsz hs
  go_enter Tryz.func18, Tryz.ntmps18
  go_wp2_with (first
    | (go_at_call 39; (with_reducible refine (HM.out _).mono ?_); rintro e w1 ⟨rfl, hm1, ho1⟩; have hlk := HL.out w1 _ hm1.out)
    | (go_at_call 55; (with_reducible refine (HF.out _ ho1.out).mono ?_); rintro e w2 ⟨M, rfl, h1, h2, h3⟩))
  go_ret
  exact ⟨M, rfl, h1.out.low ho1.out.size, h2.out, ho1.out.trans h3.out (fun _ h => h.elim)⟩
theorem turned_types (k : HuAt w p h) :
    Calls Tryz.prog 18 #[.pointer (some ⟨p, 0, none⟩), .int .i64 1, .int .i64 24, .bool true] w fun e w' => ∃ M, e = .returned (.slice (some ⟨M, 0, none⟩) 1 1) ∧ Hid (One w.heap.size w' (.slice (some ⟨M, 0, none⟩) 1 1) 24 [1]) ∧ Hid (HuAt w' p { h with li := Ls.none }) ∧ Hid (Only (· = p) w w') := by
  have HF : Hid (∀ W, Only (fun _ => False) w W → _) := fun W ho => hisTypes_on (k.same (w' := W) ho)
  have HM := Lib.hid (fun W => turnings_any W p)
  have HL : Hid (∀ W M, FullAt W M p → (Instr.lookup 115 (.map (some M)) (.agg #[.int .i64 1, .int .i64 24]) true).run Tryz.prog W = .ok (.tuple #[.func (.func 59) #[.pointer (some ⟨p, 0, none⟩)] #[], .bool true]) W) := fun W M hM => look_place (i := 4) (by omega) hM
  clear k
  go_enter Tryz.func18, Tryz.ntmps18
  go_wp2_with (first
    | (go_at_call 39; (with_reducible refine (HM.out _).mono ?_); rintro e w1 ⟨rfl, hm1, ho1⟩; have hlk := HL.out w1 _ hm1.out)
    | (go_at_call 59; (with_reducible refine (HF.out _ ho1.out).mono ?_); rintro e w2 ⟨M, rfl, h1, h2, h3⟩))
  go_ret
  exact ⟨M, rfl, h1.out.low ho1.out.size, h2.out, (Only.mono (T := (· = p)) ho1.out (fun _ h => h.elim)).trans h3.out (fun i hi => .inl hi)⟩
end
end Go.Proofs.YtlmkpembccehkaaGreatDoor
