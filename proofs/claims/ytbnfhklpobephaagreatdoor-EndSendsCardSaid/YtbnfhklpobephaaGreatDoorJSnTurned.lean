/- Several texts in one. -/
import Derived.Test.YtbnfhklpobephaaGreatDoorSnTurn
import Derived.Test.YtbnfhklpobephaaGreatDoorJSnTypeL
import Derived.Test.YtbnfhklpobephaaGreatDoorJSnSize
import Derived.Test.YtbnfhklpobephaaGreatDoorJSnIn
import Derived.Test.YtbnfhklpobephaaGreatDoorJScAskIn
import Derived.Test.YtbnfhklpobephaaGreatDoorSnReset
import Derived.Test.YtbnfhklpobephaaGreatDoorJMkOf
import Derived.Test.YtbnfhklpobephaaGreatDoorJRefuse
/- What is told when an option turns: our size, and that the other side's types are asked for. -/
namespace Go.Proofs.YtbnfhklpobephaaGreatDoor
open Go Go.RowKit
set_option maxRecDepth 100000
set_option maxHeartbeats 4000000

/-- slices.Clone of bytes: an own row. -/
theorem clone_own {w : World} {ad : Addr} {n c : Nat} {xs : List UInt8} (hs : Src w (some ad) n xs) (hn : n ≤ 1048000) :
    Calls Tryz.prog 108 #[.slice (some ad) n c] w fun e w' => ∃ A' c', e = .returned (.slice A' n c') ∧ Hid (Body w' w.heap.size (.slice A' n c') xs) ∧ Hid (Only (fun _ => False) w w') := by
  have qn : ∀ (w : World) (a : Option Addr) (n c n' c' : Nat), (binOp .eql 45 (.slice a n c) (.slice none n' c')).run Tryz.prog w = .ok (.bool a.isNone) w := fun w a n c n' c' => Lib.run_eql_slice_nil w _ _ a n c n' c' Tryz.underlying45
  have HO := Lib.hid (((Only.refl (fun _ => False) w).alloc (.cells #[] 5)))
  have HE := Lib.hid (show Body (w.alloc (.cells #[] 5)) w.heap.size (.slice (some ⟨w.heap.size, 0, none⟩) 0 0) [] from own_of_blk (B := w.heap.size) (c := 0) (s := 1) (n := 0) (xs := []) (Blk.new w 5 []) rfl rfl (by omega) (by omega) (Nat.le_refl _))
  have HS := Lib.hid hs
  clear hs
  go_enter Tryz.func108, Tryz.ntmps108
  go_wp2_with (at_builtin; refine step_bytesG rfl (.tmp 5) (.tmp 6) rfl w.heap.size _ _ _ [] rfl HE.out rfl (some ad) n c xs rfl (HS.out.only HO.out (fun _ _ _ h => h)) (by omega) (by simp) ?_; intro A' c' w2 hb hg)
  go_ret
  have hown := hb.out
  rw [Nat.zero_add, List.nil_append] at hown
  exact ⟨A', c', rfl, hown, HO.out.grown hg.out (fun q hq => .inr (by cases hq; exact Nat.le_refl _))⟩
section
variable {w : World} {p mo : Nat} {tp : TypeId} {pre post : List Value} {h : Hb}
theorem ourSize_on (k : HuAt w p mo tp pre post h) {N : Nat} {b : List UInt8} (hsz : h.sz = .slice (some ⟨N, 0, none⟩) 4 4) (hs : Src w (some ⟨N, 0, none⟩) 4 b) :
    Calls Tryz.prog 196 #[.pointer (some ⟨p, mo, none⟩), .bool true] w fun e w' => ∃ M, e = .returned (.slice (some ⟨M, 0, none⟩) 1 1) ∧ Hid (One w.heap.size w' (.slice (some ⟨M, 0, none⟩) 1 1) 31 b) ∧ Hid (HuAt w' p mo tp pre post h) ∧ Hid (Only (fun _ => False) w w') := by
  have c0 : w.cell? ⟨p, mo, none⟩ = some (.slice (some ⟨N, 0, none⟩) 4 4) := (k.in0.val (i := 0) rfl).trans (congrArg some hsz)
  have HK := Lib.hid k
  have HCl := Lib.hid (clone_own (c := 4) hs (by omega))
  have HT := Lib.hid (fun W A n c => tell_any W 31 A n c)
  have hb := Lib.hid hs.1
  clear k hsz hs
  go_enter Tryz.func196, Tryz.ntmps196
  go_wp2_with (first
    | (go_at_call 108; (with_reducible refine HCl.out.mono ?_); rintro e w1 ⟨A1, c1, rfl, hb1, ho1⟩)
    | (go_at_call 212; (with_reducible refine (HT.out _ _ _ _).mono ?_); rintro e w2 ⟨rfl, hb2, ho2⟩))
  go_ret
  have hz := ho1.out.size
  exact ⟨_, rfl, Body.one hb1.out hb.out.symm ho2.out hb2.out hz, (HK.out.same ho1.out).same ho2.out, ho1.out.trans ho2.out (fun _ h => h.elim)⟩
theorem ten_of {l : List Value} (h : l.length = 10) : ∃ a0 a1 a2 a3 a4 a5 a6 a7 a8 a9, l = [a0, a1, a2, a3, a4, a5, a6, a7, a8, a9] := by
  match l, h with
  | [a0, a1, a2, a3, a4, a5, a6, a7, a8, a9], _ => exact ⟨a0, a1, a2, a3, a4, a5, a6, a7, a8, a9, rfl⟩
theorem hisTypes_on (k : HuAt w p mo tp pre post h) :
    Calls Tryz.prog 200 #[.pointer (some ⟨p, mo, none⟩), .bool true] w fun e w' => ∃ M, e = .returned (.slice (some ⟨M, 0, none⟩) 1 1) ∧ Hid (One w.heap.size w' (.slice (some ⟨M, 0, none⟩) 1 1) 24 [1]) ∧ Hid (HuAt w' p mo tp pre post { h with li := Ls.none }) ∧ Hid (Only (· = p) w w') := by
  have HK := Lib.hid k
  have HT := Lib.hid (fun W A n c => tell_any W 24 A n c)
  have HA := Lib.hid ttask_any
  obtain ⟨a0, a1, a2, a3, a4, a5, a6, a7, a8, a9, hcs⟩ := ten_of k.ok.l1
  have HI := k.in1
  rw [hcs] at HI
  have HI := Lib.hid HI
  clear k hcs
  have c0 : w.cell? ⟨p, mo + 7, none⟩ = some a0 := HI.out.val (i := 0) rfl
  have f0 := HI.out.frozen (mo + 7)
  have c1 : w.cell? ⟨p, mo + 7 + 1, none⟩ = some a1 := HI.out.val (i := 1) rfl
  have f1 := HI.out.frozen (mo + 7 + 1)
  have c2 : w.cell? ⟨p, mo + 7 + 2, none⟩ = some a2 := HI.out.val (i := 2) rfl
  have f2 := HI.out.frozen (mo + 7 + 2)
  have c3 : w.cell? ⟨p, mo + 7 + 3, none⟩ = some a3 := HI.out.val (i := 3) rfl
  have f3 := HI.out.frozen (mo + 7 + 3)
  have c4 : w.cell? ⟨p, mo + 7 + 4, none⟩ = some a4 := HI.out.val (i := 4) rfl
  have f4 := HI.out.frozen (mo + 7 + 4)
  have c5 : w.cell? ⟨p, mo + 7 + 5, none⟩ = some a5 := HI.out.val (i := 5) rfl
  have f5 := HI.out.frozen (mo + 7 + 5)
  have c6 : w.cell? ⟨p, mo + 7 + 6, none⟩ = some a6 := HI.out.val (i := 6) rfl
  have f6 := HI.out.frozen (mo + 7 + 6)
  have c7 : w.cell? ⟨p, mo + 7 + 7, none⟩ = some a7 := HI.out.val (i := 7) rfl
  have f7 := HI.out.frozen (mo + 7 + 7)
  have c8 : w.cell? ⟨p, mo + 7 + 8, none⟩ = some a8 := HI.out.val (i := 8) rfl
  have f8 := HI.out.frozen (mo + 7 + 8)
  have c9 : w.cell? ⟨p, mo + 7 + 9, none⟩ = some a9 := HI.out.val (i := 9) rfl
  have f9 := HI.out.frozen (mo + 7 + 9)
  have hI1 : InB (((((((((((w).setCell ⟨p, mo + 7, none⟩ (.string ⟨#[]⟩)).setCell ⟨p, mo + 7 + 1, none⟩ (.string ⟨#[]⟩)).setCell ⟨p, mo + 7 + 2, none⟩ (.string ⟨#[]⟩)).setCell ⟨p, mo + 7 + 3, none⟩ (.string ⟨#[]⟩)).setCell ⟨p, mo + 7 + 4, none⟩ (.string ⟨#[]⟩)).setCell ⟨p, mo + 7 + 5, none⟩ (.string ⟨#[]⟩)).setCell ⟨p, mo + 7 + 6, none⟩ (.string ⟨#[]⟩)).setCell ⟨p, mo + 7 + 7, none⟩ (.string ⟨#[]⟩)).setCell ⟨p, mo + 7 + 8, none⟩ (.int .i64 0)).setCell ⟨p, mo + 7 + 9, none⟩ (.bool false)) p tp (pre ++ h.s0) _ (mo + 7) (cellsL Ls.none) := ((((((((((HI.out).setCell (i := 0) (by simp) (.string ⟨#[]⟩)).setCell (i := 1) (by simp) (.string ⟨#[]⟩)).setCell (i := 2) (by simp) (.string ⟨#[]⟩)).setCell (i := 3) (by simp) (.string ⟨#[]⟩)).setCell (i := 4) (by simp) (.string ⟨#[]⟩)).setCell (i := 5) (by simp) (.string ⟨#[]⟩)).setCell (i := 6) (by simp) (.string ⟨#[]⟩)).setCell (i := 7) (by simp) (.string ⟨#[]⟩)).setCell (i := 8) (by simp) (.int .i64 0)).setCell (i := 9) (by simp) (.bool false)
  have hO1 : Only (· = p) w (((((((((((w).setCell ⟨p, mo + 7, none⟩ (.string ⟨#[]⟩)).setCell ⟨p, mo + 7 + 1, none⟩ (.string ⟨#[]⟩)).setCell ⟨p, mo + 7 + 2, none⟩ (.string ⟨#[]⟩)).setCell ⟨p, mo + 7 + 3, none⟩ (.string ⟨#[]⟩)).setCell ⟨p, mo + 7 + 4, none⟩ (.string ⟨#[]⟩)).setCell ⟨p, mo + 7 + 5, none⟩ (.string ⟨#[]⟩)).setCell ⟨p, mo + 7 + 6, none⟩ (.string ⟨#[]⟩)).setCell ⟨p, mo + 7 + 7, none⟩ (.string ⟨#[]⟩)).setCell ⟨p, mo + 7 + 8, none⟩ (.int .i64 0)).setCell ⟨p, mo + 7 + 9, none⟩ (.bool false)) := (((((((((((Only.refl (· = p) w)).setCell (p := ⟨p, mo + 7, none⟩) (.inl rfl) (.string ⟨#[]⟩)).setCell (p := ⟨p, mo + 7 + 1, none⟩) (.inl rfl) (.string ⟨#[]⟩)).setCell (p := ⟨p, mo + 7 + 2, none⟩) (.inl rfl) (.string ⟨#[]⟩)).setCell (p := ⟨p, mo + 7 + 3, none⟩) (.inl rfl) (.string ⟨#[]⟩)).setCell (p := ⟨p, mo + 7 + 4, none⟩) (.inl rfl) (.string ⟨#[]⟩)).setCell (p := ⟨p, mo + 7 + 5, none⟩) (.inl rfl) (.string ⟨#[]⟩)).setCell (p := ⟨p, mo + 7 + 6, none⟩) (.inl rfl) (.string ⟨#[]⟩)).setCell (p := ⟨p, mo + 7 + 7, none⟩) (.inl rfl) (.string ⟨#[]⟩)).setCell (p := ⟨p, mo + 7 + 8, none⟩) (.inl rfl) (.int .i64 0)).setCell (p := ⟨p, mo + 7 + 9, none⟩) (.inl rfl) (.bool false)
  have hz1 : (((((((((((w).setCell ⟨p, mo + 7, none⟩ (.string ⟨#[]⟩)).setCell ⟨p, mo + 7 + 1, none⟩ (.string ⟨#[]⟩)).setCell ⟨p, mo + 7 + 2, none⟩ (.string ⟨#[]⟩)).setCell ⟨p, mo + 7 + 3, none⟩ (.string ⟨#[]⟩)).setCell ⟨p, mo + 7 + 4, none⟩ (.string ⟨#[]⟩)).setCell ⟨p, mo + 7 + 5, none⟩ (.string ⟨#[]⟩)).setCell ⟨p, mo + 7 + 6, none⟩ (.string ⟨#[]⟩)).setCell ⟨p, mo + 7 + 7, none⟩ (.string ⟨#[]⟩)).setCell ⟨p, mo + 7 + 8, none⟩ (.int .i64 0)).setCell ⟨p, mo + 7 + 9, none⟩ (.bool false)).heap.size = w.heap.size := by simp [setCell_size]
  have HI1 := Lib.hid hI1
  have HO1 := Lib.hid hO1
  have HZ1 := Lib.hid hz1
  clear hI1 hO1 hz1
  go_enter Tryz.func200, Tryz.ntmps200
  go_upto_region 4 with fail
  obtain ⟨w1, hw1⟩ : ∃ w1, w1 = ((((((((((w).setCell ⟨p, mo + 7, none⟩ (.string ⟨#[]⟩)).setCell ⟨p, mo + 7 + 1, none⟩ (.string ⟨#[]⟩)).setCell ⟨p, mo + 7 + 2, none⟩ (.string ⟨#[]⟩)).setCell ⟨p, mo + 7 + 3, none⟩ (.string ⟨#[]⟩)).setCell ⟨p, mo + 7 + 4, none⟩ (.string ⟨#[]⟩)).setCell ⟨p, mo + 7 + 5, none⟩ (.string ⟨#[]⟩)).setCell ⟨p, mo + 7 + 6, none⟩ (.string ⟨#[]⟩)).setCell ⟨p, mo + 7 + 7, none⟩ (.string ⟨#[]⟩)).setCell ⟨p, mo + 7 + 8, none⟩ (.int .i64 0)).setCell ⟨p, mo + 7 + 9, none⟩ (.bool false) := ⟨_, rfl⟩
  rw [← hw1] at HI1 HO1 HZ1 ⊢
  clear hw1
  go_wp2_with (first
    | (go_at_call 217; (with_reducible refine (HA.out _).mono ?_); rintro e w2 ⟨rfl, hs2, ho2⟩)
    | (go_at_call 212; (with_reducible refine (HT.out _ _ _ _).mono ?_); rintro e w3 ⟨rfl, hb3, ho3⟩))
  go_ret
  have hzz := HZ1.out
  have hz2 := ho2.out.size
  refine ⟨_, rfl, ⟨_, _, 1, 1, rfl, by omega, hb3.out, hs2.out.only ho3.out (fun _ _ _ h => h), fun _ ad e => ?_, by omega, by omega⟩, ((HuAt.of_list Ls.none_ok HK.out.ok HI1.out).same ho2.out).same ho3.out, (HO1.out.trans ho2.out (fun _ h => h.elim)).trans ho3.out (fun _ h => h.elim)⟩
  injection e with e
  subst e
  show w.heap.size ≤ w1.heap.size
  omega
end
end Go.Proofs.YtbnfhklpobephaaGreatDoor
/- What a hub tells when an option turns: all that comes of it. -/
namespace Go.Proofs.YtbnfhklpobephaaGreatDoor
open Go Go.RowKit
set_option maxRecDepth 100000
set_option maxHeartbeats 4000000

/-- What is answered when an option turns. -/
@[reducible] def TAns (w : World) (p mo : Nat) (tp : TypeId) (pre post : List Value) (G : Nat → Prop) (o : Int) (r : Option (List UInt8) × Hs) (v : Value) (w' : World) : Prop := Ans w [] p mo tp pre post G o (0, r.1, r.2) v .nilIface w'
@[reducible] def TurnsF (f : FuncId) (w : World) (p mo : Nat) (tp : TypeId) (pre post : List Value) (G : Nat → Prop) (o : Int) (on : Bool) (r : Option (List UInt8) × Hs) : Prop :=
  Calls Tryz.prog f #[.pointer (some ⟨p, mo, none⟩), .bool on] w fun e w' => ∃ v, e = .returned v ∧ Hid (TAns w p mo tp pre post G o r v w')
section
variable {w : World} {p mo : Nat} {tp : TypeId} {pre post : List Value} {G : Nat → Prop} {h : Hb} {H : Hs}
theorem TAns.none {w' : World} {h' : Hb} {H' : Hs} {o : Int} (k : HsAt w' p mo tp pre post G h' H') (ho : Only (· = p) w w') : TAns w p mo tp pre post G o (none, H') (.slice none 0 0) w' :=
  ⟨ErrV.nil _, rfl, ⟨h', G, k, fun _ h => .inl h⟩, ho⟩
theorem hsReset (k : HsAt w p mo tp pre post G h H) :
    Calls Tryz.prog 82 #[.pointer (some ⟨p, mo, none⟩)] w fun e w' => e = .returned (.tuple #[]) ∧ (∃ h', HsAt w' p mo tp pre post G h' H.again ∧ h'.ho = h.ho) ∧ Only (· = p) w w' := by
  obtain ⟨M, o1, o2, o3, o4⟩ := k.is.ho
  refine (snReset_any k.hub o1 o2).mono ?_
  rintro e w' ⟨rfl, ⟨cs, h1, h2⟩, ho⟩
  have hk := k.is.own ho
  exact ⟨rfl, ⟨_, ⟨h1, { hk with sd := h2, hm := rfl, hw := rfl, tc := by show canOf h.can = canOf H.can; rw [k.is.can], tm := rfl, ma := rfl, ms := rfl }⟩, rfl⟩, ho⟩
theorem hsOurSize (k : HsAt w p mo tp pre post G h H) (on : Bool) : TurnsF 196 w p mo tp pre post G 31 on (if on then some H.sz else none, H) := by
  cases on with
  | true =>
    obtain ⟨N, z1, z2, _⟩ := k.is.sz
    refine (ourSize_on k.hub z1 z2).mono ?_
    rintro e w' ⟨M, rfl, h1, h2, h3⟩
    exact ⟨_, rfl, ErrV.nil _, h1.out, ⟨h, G, ⟨h2.out, k.is.same h3.out⟩, fun _ h => .inl h⟩, h3.out.mono (fun _ h => h.elim)⟩
  | false =>
    have HK := Lib.hid k
    clear k
    go_enter Tryz.func196, Tryz.ntmps196
    go_wp2
    go_ret
    exact ⟨_, rfl, TAns.none HK.out (Only.refl _ _)⟩
theorem hsOurTypes (k : HsAt w p mo tp pre post G h H) (on : Bool) : TurnsF 197 w p mo tp pre post G 24 on (none, { H with k := 0 }) := by
  have HR : Hid (Calls Tryz.prog 213 #[.pointer (some ⟨p, mo + 1, none⟩)] w fun e w' => e = .returned (.tuple #[]) ∧ (∃ h', HsAt w' p mo tp pre post G h' { H with k := 0 }) ∧ Only (· = p) w w') := by
    have c1 : w.cell? ⟨p, mo + 1 + 1, none⟩ = some (.int .i64 h.ck) := k.hub.cyc.val (i := 1) rfl
    have f1 := k.hub.frozen (mo + 1 + 1)
    have HK := Lib.hid k
    clear k
    show Calls _ _ _ _ _
    go_enter Tryz.func213, Tryz.ntmps213
    go_wp2
    refine bodyPost_end (results_none rfl _ _ _) rfl ?_
    have ho : Only (· = p) w (w.setCell ⟨p, mo + 1 + 1, none⟩ (.int .i64 0)) := (Only.refl (· = p) w).setCell (p := ⟨p, mo + 1 + 1, none⟩) (.inl rfl) _
    have hk := HK.out.is.own ho
    exact ⟨rfl, ⟨_, HuAt.of_cyc HK.out.hub.ok (HK.out.hub.cyc.setCell (i := 1) (by simp) (.int .i64 0)), { hk with ck := by show (0 : Int) = _; simp }⟩, ho⟩
  clear k
  go_enter Tryz.func197, Tryz.ntmps197
  go_wp2_with (go_at_call 213; (with_reducible refine HR.out.mono ?_); rintro e w1 ⟨rfl, hk, ho⟩)
  go_ret
  obtain ⟨h', hk⟩ := hk
  exact ⟨_, rfl, TAns.none hk ho⟩
theorem hsHisSize (k : HsAt w p mo tp pre post G h H) (on : Bool) : TurnsF 199 w p mo tp pre post G 31 on (none, if on then H else { H with pc := 0, pr := 0 }) := by
  cases on with
  | true =>
    have HK := Lib.hid k
    clear k
    go_enter Tryz.func199, Tryz.ntmps199
    go_wp2
    go_ret
    exact ⟨_, rfl, TAns.none HK.out (Only.refl _ _)⟩
  | false =>
    have HK := Lib.hid k
    clear k
    go_enter Tryz.func199, Tryz.ntmps199
    go_wp2_with ((with_reducible show wpList _ _ _ (⟨none, .store 26 _ _, _, _, _, _⟩ :: _) _ _); refine InB.store rfl 26 _ _ rfl HK.out.hub.peer rfl [.int .i64 0, .int .i64 0] rfl size_sz rfl (sz_one 0 0) ?_; intro w1 HI1 hz1 ho1)
    go_ret
    have hk := HK.out.is.own ho1
    exact ⟨_, rfl, TAns.none ⟨HuAt.of_peer HK.out.hub.ok HI1.out, { hk with pc := rfl, pr := rfl }⟩ ho1⟩
theorem hsHisTypes (k : HsAt w p mo tp pre post G h H) (on : Bool) : TurnsF 200 w p mo tp pre post G 24 on (if on then (some [1], { H with li := Ls.none }) else (none, H)) := by
  cases on with
  | true =>
    refine (hisTypes_on k.hub).mono ?_
    rintro e w' ⟨M, rfl, h1, h2, h3⟩
    have hk := k.is.own h3.out
    exact ⟨_, rfl, ErrV.nil _, h1.out, ⟨_, G, ⟨h2.out, { hk with li := rfl }⟩, fun _ h => .inl h⟩, h3.out⟩
  | false =>
    have HK := Lib.hid k
    clear k
    go_enter Tryz.func200, Tryz.ntmps200
    go_wp2
    go_ret
    exact ⟨_, rfl, TAns.none HK.out (Only.refl _ _)⟩
theorem hsHisLines (k : HsAt w p mo tp pre post G h H) (on : Bool) : TurnsF 201 w p mo tp pre post G 34 on (none, H.again) := by
  have HR := Lib.hid (hsReset k)
  clear k
  go_enter Tryz.func201, Tryz.ntmps201
  go_wp2_with (go_at_call 82; (with_reducible refine HR.out.mono ?_); rintro e w1 ⟨rfl, hk, ho⟩)
  go_ret
  obtain ⟨h', hk, _⟩ := hk
  exact ⟨_, rfl, TAns.none hk ho⟩
/-- What can be told of all that is held. -/
theorem askS_right {S : Sd} {f : Int} {x : Se} (h : askN S f x = 0) : (askS S f x).2.right = true := by
  unfold askS
  rw [if_pos h]
  unfold askN at h
  cases hf : isF f with
  | false => rw [hf] at h; simp at h
  | true =>
    rw [hf, if_neg (by decide)] at h
    cases hx : x.fine with
    | false => rw [hx, if_pos (.inl rfl)] at h; omega
    | true => simp [Tr.right, hf, hx]
theorem askAllS_right : ∀ (l : List Se) (S : Sd) (i : Nat), (askAllS S l i).2.all Tr.right = true
  | [], _, _ => rfl
  | x :: l, S, i => by
    have ih := askAllS_right l (askS S ((i : Int) + 1) x).1 (i + 1)
    simp only [askAllS, List.all_append, Bool.and_eq_true]
    refine ⟨?_, ih⟩
    split
    · rename_i h
      simp [askS_right h]
    · rfl
theorem askAllS_told {l : List Se} (h : l.length ≤ 18) (S : Sd) : bodyN (askAllS S l 0).2 = 0 := by
  unfold bodyN
  rw [if_pos (askAllS_right l S 0), if_neg (by have := askAllS_len l S 0; omega)]
theorem hsOurLines {es : List Addr} (hE : ErrsAt w es) (h18 : 18 ≤ p) (k : HsAt w p mo tp pre post G h H) (on : Bool) : TurnsF 198 w p mo tp pre post G 34 on (if on then (toldB (askAllS H.again.S H.l 0).2, { H.again with S := (askAllS H.again.S H.l 0).1 }) else (none, H.again)) := by
  have HR := Lib.hid (hsReset k)
  cases on with
  | false =>
    clear k hE
    go_enter Tryz.func198, Tryz.ntmps198
    go_wp2_with (go_at_call 82; (with_reducible refine HR.out.mono ?_); rintro e w1 ⟨rfl, hk, ho⟩)
    go_ret
    obtain ⟨h', hk, _⟩ := hk
    exact ⟨_, rfl, TAns.none hk ho⟩
  | true =>
    obtain ⟨N, o1, o2, o3, o4⟩ := k.is.ho
    have hl18 : H.l.length = 18 := o2.1
    have hp := k.hub.lt
    have hNl := o2.lt' (by omega)
    obtain ⟨M, hM⟩ : ∃ M, M = (askAllS H.again.S H.l 0).2 := ⟨_, rfl⟩
    obtain ⟨S5, hS5⟩ : ∃ S5, S5 = (askAllS H.again.S H.l 0).1 := ⟨_, rfl⟩
    have hml : M.length ≤ 18 := by rw [hM]; have := askAllS_len H.l H.again.S 0; omega
    have hz0 : bodyN M = 0 := by rw [hM]; exact askAllS_told (by omega) _
    have HA : Hid (∀ W h', Only (· = p) w W → HsAt W p mo tp pre post G h' H.again → Calls Tryz.prog 215 #[.slice (some ⟨N, 0, none⟩) 18 18, .func (.func 216) #[.pointer (some ⟨p, mo + 18, none⟩)] #[]] W fun e w' => ∃ A' m c', e = .returned (.slice A' m c') ∧ Hid (m = M.length ∧ TrAt w' A' m M) ∧ Hid (∃ cs, InB w' p tp (pre ++ (h'.s0 ++ (cellsL h'.li ++ [h'.rep]))) (h'.s4 ++ (h'.ma ++ ([.bool h'.ms] ++ post))) (mo + 18) cs ∧ ScC cs S5) ∧ Hid (Only (· = p) W w')) := fun W h' ho hk => by
      refine (hsAskAll_any (c := 18) (hE.far ho (fun i hi hp => by omega)) (SAt.ScSdAt.of hk.hub.in3 hk.is.sd) (o2.far ho o4) (by omega) o4 h18).mono ?_
      rintro e w' ⟨A', m, c', rfl, h1, h2, h3, h4⟩
      have hl : (h'.s0 ++ (cellsL h'.li ++ [h'.rep])).length = 18 := by have := hk.hub.ok.l1; simp only [List.length_append, Hb.s0, List.length_cons, List.length_nil]; omega
      refine ⟨A', m, c', rfl, ⟨by rw [hM]; exact h1, by rw [hM]; exact tris_own h2.out h1.symm⟩, ?_, h4⟩
      rw [hS5]
      exact h3.out.to (by rw [List.length_append, hl]; have := hk.hub.blk.len; omega)
    have HTe := Lib.hid (fun W (ho : Only (· = p) w W) A n c (h : TrAt W A n M) (hn : n ≤ 100) => hsTell_any (c := c) (hE.far ho (fun i hi hp => by omega)) h hn (z := 0) (t := toldB M) hz0.symm (by rw [if_pos hz0]))
    have HO1 := Lib.hid o1
    have HHl : Hid (M.length ≤ 18) := hml
    rw [← hM, ← hS5]
    clear hM hS5 hml hz0 k hE o1 o2 o3
    go_enter Tryz.func198, Tryz.ntmps198
    go_wp2_with (go_at_call 82; (with_reducible refine HR.out.mono ?_); rintro e w1 ⟨rfl, hk1, ho1⟩; obtain ⟨h1, hk1, hho1⟩ := hk1; have HK1 := Lib.hid hk1; have HW1 := Lib.hid ho1; have HHo := Lib.hid (hho1.trans HO1.out); clear hk1 ho1 hho1)
    have hc3 : ∀ W, Only (fun _ => False) w1 W → W.cell? ⟨p, mo + 3, none⟩ = some (.slice (some ⟨N, 0, none⟩) 18 18) := fun W ho => ((HK1.out.same ho).hub.in0.val (i := 3) rfl).trans (congrArg some HHo.out)
    have HC3 := Lib.hid hc3
    clear hc3
    go_region_held3 (fun W => W.cell? ⟨p, mo + 3, none⟩ = some (.slice (some ⟨N, 0, none⟩) 18 18))
      (first | exact HC3.out _ (Only.refl _ _).drew | exact HD3.out | exact HF3.out)
      (first
        | (go_at_call 215; (with_reducible refine (HA.out _ h1 (HW1.out.trans (Only.refl (fun _ => False) _).drew (fun _ h => h.elim)) (HK1.out.same (Only.refl _ _).drew)).mono ?_); rintro e w2 ⟨A2, m2, c2, rfl, ht2, hs2, ho2⟩; have HT2 := Lib.hid ht2.out; obtain ⟨cs2, hi2, hc2⟩ := hs2.out; have HI2 := Lib.hid hi2; have HC2 := Lib.hid hc2; have HO2 : Hid (Only (· = p) w1 w2) := (Only.mono (T := (· = p)) ((Only.refl (fun _ => False) w1).drew) (fun _ h => h.elim)).trans ho2.out (fun i hi => .inl hi); have HD3 : Hid (w2.cell? ⟨p, mo + 3, none⟩ = some (.slice (some ⟨N, 0, none⟩) 18 18)) := (((HuAt.of_side hc2 HK1.out.hub.ok hi2).in0.val (i := 3) rfl).trans (congrArg some HHo.out)); clear ht2 hs2 ho2 hi2 hc2)
        | (go_at_call 214; (with_reducible refine (HTe.out _ (HW1.out.trans HO2.out (fun i hi => .inl hi)) _ _ _ HT2.out.2 (by have h1 := HT2.out.1; have h2 := HHl.out; omega)).mono ?_); rintro e w3 ⟨v3, E3, rfl, hv3, ho3⟩; have HF3 : Hid (w3.cell? ⟨p, mo + 3, none⟩ = some (.slice (some ⟨N, 0, none⟩) 18 18)) := ho3.out.cellv HD3.out (fun h => h)))
    go_wp2
    go_ret
    have hO3 : Only (· = p) w1 w3 := HO2.out.trans ho3.out (fun _ h => h.elim)
    have hO : Only (· = p) w w3 := HW1.out.trans hO3 (fun i hi => .inl hi)
    have hk := HK1.out.is.own hO3
    have hz1 := HW1.out.size
    have hz2 := HO2.out.size
    exact ⟨_, rfl, ErrV.nil _, hv3.out.2.low (by omega), ⟨_, G, ⟨(HuAt.of_side HC2.out HK1.out.hub.ok HI2.out).same ho3.out, { hk with sd := HC2.out }⟩, fun _ h => .inl h⟩, hO⟩
end
end Go.Proofs.YtbnfhklpobephaaGreatDoor
/- What a side that is made of settings holds of each function, as a row. -/
namespace Go.Proofs.YtbnfhklpobephaaGreatDoor
open Go Go.RowKit
set_option maxRecDepth 100000
set_option maxHeartbeats 4000000

theorem st_set : ∀ (l : List Se) (i : Nat) (x : Se), i < l.length → (l.flatMap Se.cs).take (i * 2) ++ ([.int .i64 x.l, .int .i64 x.v] ++ (l.flatMap Se.cs).drop (i * 2 + 2)) = (l.set i x).flatMap Se.cs
  | [], i, x, h => by simp at h
  | y :: l, 0, x, _ => by simp [Se.cs]
  | y :: l, i + 1, x, h => by
    have ih := st_set l i x (by simpa using h)
    have e1 : (i + 1) * 2 = (i * 2).succ.succ := by omega
    rw [List.set_cons_succ, List.flatMap_cons, List.flatMap_cons, ← ih, e1]
    simp [Se.cs, Nat.succ_eq_add_one]
theorem st_len (l : List Se) : (l.flatMap Se.cs).length = l.length * 2 := by
  induction l with
  | nil => rfl
  | cons y l ih => rw [List.flatMap_cons, List.length_append, ih, List.length_cons]; simp; omega
theorem st_cell : ∀ {l : List Se} {i j : Nat} {x : Se} {v : Value}, l[i]? = some x → x.cs[j]? = some v → (l.flatMap Se.cs)[i * 2 + j]? = some v
  | [], i, j, x, v, h, _ => by simp at h
  | y :: l, 0, j, x, v, h, hv => by
    simp only [List.getElem?_cons_zero, Option.some.injEq] at h
    subst h
    rw [List.flatMap_cons, Nat.zero_mul, Nat.zero_add, List.getElem?_append_left (List.getElem?_eq_some_iff.1 hv).1]
    exact hv
  | y :: l, i + 1, j, x, v, h, hv => by
    simp only [List.getElem?_cons_succ] at h
    have := st_cell h hv
    rw [List.flatMap_cons, List.getElem?_append_right (by simp; omega), ← this]
    congr 1
    simp
    omega
theorem StAt.of_blk {w : World} {N n : Nat} {l : List Se} (h : Blk w N 109 (l.flatMap Se.cs)) (hl : l.length = n) : StAt w (some ⟨N, 0, none⟩) n l :=
  ⟨hl, fun i x hx => ⟨N, 0, rfl, h.lt, fun j v hv => by
    rw [Nat.zero_add, h.cell]
    exact st_cell hx hv⟩⟩
def st0 : List Se := List.replicate 18 ⟨0, 0⟩
theorem make_set (W : World) : (Instr.makeSlice 28 (.int .i64 18) (.int .i64 18)).run Tryz.prog W = .ok (.slice (some ⟨W.heap.size, 0, none⟩) 18 18) (W.alloc (.cells (st0.flatMap Se.cs).toArray 109)) := by kernel_rfl
theorem heldOf_len (l : List Se) : (heldOf l).length = 18 := by simp [heldOf]
theorem heldOf_at (l : List Se) {k : Nat} (hk : k < 18) : (heldOf l)[k]? = some (hearS (newS l) ⟨(k : Int) + 1, ⟨3, 0⟩, false⟩).2.1.x := by
  unfold heldOf
  rw [List.getElem?_map, List.getElem?_range hk]
  rfl
/-- What a side answers hangs on that function's row alone. -/
theorem hearS_row {S S' : Sd} {k : Nat} (hk : k < 18) (h : S k = S' k) : (hearS S ⟨(k : Int) + 1, ⟨3, 0⟩, false⟩).2 = (hearS S' ⟨(k : Int) + 1, ⟨3, 0⟩, false⟩).2 ∧ ∀ j, j ≠ k → (hearS S ⟨(k : Int) + 1, ⟨3, 0⟩, false⟩).1 j = S j := by
  have hp : plF ((k : Int) + 1) = k := by unfold plF; omega
  have hr : Tr.right ⟨(k : Int) + 1, ⟨3, 0⟩, false⟩ = true := by
    simp only [Tr.right, isF, Se.fine]
    simp
    omega
  unfold hearS
  rw [if_pos hr, if_pos hr]
  simp only [hp, h]
  generalize hc : (S' k).hear ⟨3, 0⟩ false = r
  obtain ⟨c, _ | y⟩ := r
  · exact ⟨rfl, fun j hj => Sd.set_ne _ _ hj⟩
  · exact ⟨rfl, fun j hj => Sd.set_ne _ _ hj⟩
theorem snHeld_any {w : World} {A : Option Addr} {n c : Nat} {l : List Se} (h : StAt w A n l) (hn : n ≤ c) (hc : c ≤ 9223372036854775807) :
    Calls Tryz.prog 81 #[.slice A n c] w fun e w' => ∃ N, e = .returned (.slice (some ⟨N, 0, none⟩) 18 18) ∧ Hid (StAt w' (some ⟨N, 0, none⟩) 18 (heldOf l)) ∧ Hid (w.heap.size ≤ N) ∧ Hid (Only (fun _ => False) w w') := by
  have HNw := Lib.hid (snew_any h hn hc)
  have hmk := make_set
  obtain ⟨R, hR⟩ : ∃ R, R = newS l := ⟨_, rfl⟩
  have HH0 : Hid (∀ k : Nat, k < 18 → (heldOf l)[k]? = some (hearS R ⟨(k : Int) + 1, ⟨3, 0⟩, false⟩).2.1.x) := fun k hk => by rw [hR]; exact heldOf_at l hk
  have HHl : Hid ((heldOf l).length = 18) := heldOf_len l
  rw [← hR] at HNw
  generalize heldOf l = L at *
  clear h hn hc hR
  go_enter Tryz.func81, Tryz.ntmps81
  go_wp2_with (go_at_call 134; (with_reducible refine HNw.out.mono ?_); rintro e w1 ⟨q, rfl, hs1, hq1, ho1⟩; have HS1 := Lib.hid hs1; have HQ1 := Lib.hid hq1; have HO1 := Lib.hid ho1; clear hs1 hq1 ho1)
  obtain ⟨N, hN⟩ : ∃ N, N = w1.heap.size := ⟨_, rfl⟩
  obtain ⟨w2, hw2⟩ : ∃ w2, w2 = w1.alloc (.cells (st0.flatMap Se.cs).toArray 109) := ⟨_, rfl⟩
  rw [← hw2, ← hN]
  have HB2 : Hid (Blk w2 N 109 (st0.flatMap Se.cs)) := by
    rw [hw2, hN]
    exact Blk.new w1 _ _
  have HS2 : Hid (ScSdAt w2 q R) := (by rw [hw2]; exact HS1.out.same ((Only.refl _ _).alloc _))
  have HO2 : Hid (Only (fun _ => False) w w2) := by rw [hw2]; exact HO1.out.alloc _
  have HNN : Hid (w.heap.size ≤ N ∧ q < N) := by rw [hN]; exact ⟨HO1.out.size, HS1.out.lt⟩
  clear hN hw2
  go_wp2
  go_loopw [13] (fun i W => ∃ k : Nat, k ≤ 18 ∧ i = .int .i64 (k : Int) ∧ Hid (∃ l' : List Se, l'.length = 18 ∧ Blk W N 109 (l'.flatMap Se.cs) ∧ (∃ S, ScSdAt W q S ∧ ∀ j, k ≤ j → S j = R j) ∧ Only (fun _ => False) w W ∧ ∀ j, j < k → l'[j]? = L[j]?)) (fun i _ => 18 - (intOf i).toNat)
  case atStart => exact ⟨0, Nat.zero_le _, rfl, st0, rfl, HB2.out, ⟨R, HS2.out, fun _ _ => rfl⟩, HO2.out, fun j hj => absurd hj (by omega)⟩
  case round =>
    obtain ⟨k, hk, rfl, hrel⟩ := hrel
    obtain ⟨l', hl', hB, ⟨S, hS, hSR⟩, hO, hLs⟩ := hrel.out
    have HLs := Lib.hid hLs
    clear hLs
    by_cases hlt : k < 18
    · have hlt2 : (k : Int) < (18 : Int) := by omega
      have HHr := Lib.hid (hear_any hS ⟨(k : Int) + 1, ⟨3, 0⟩, false⟩)
      have HS := Lib.hid hS
      have hqN : q ≠ N := by have := HNN.out.2; omega
      obtain ⟨hrow1, hrow2⟩ := hearS_row hlt (hSR k (Nat.le_refl _))
      have HS3R : Hid (∀ j, k + 1 ≤ j → (hearS S ⟨(k : Int) + 1, ⟨3, 0⟩, false⟩).1 j = R j) := fun j hj => (hrow2 j (by omega)).trans (hSR j (by omega))
      have HXk : Hid (L[k]? = some (hearS S ⟨(k : Int) + 1, ⟨3, 0⟩, false⟩).2.1.x) := by
        show L[k]? = _
        rw [hrow1]
        exact HH0.out k hlt
      clear hrow1 hrow2 hSR
      obtain ⟨⟨f, ⟨xl, xv⟩, xa⟩, hx⟩ : ∃ x, x = (hearS S ⟨(k : Int) + 1, ⟨3, 0⟩, false⟩).2.1 := ⟨_, rfl⟩
      obtain ⟨b, hb⟩ : ∃ b, b = (hearS S ⟨(k : Int) + 1, ⟨3, 0⟩, false⟩).2.2 := ⟨_, rfl⟩
      rw [← hx, ← hb] at HHr
      rw [← hx] at HXk
      have HB := Lib.hid hB
      have HO := Lib.hid hO
      have HL := Lib.hid hl'
      have hNl := hB.lt
      have hk2 : k * 2 + 1 < (l'.flatMap Se.cs).length := by rw [st_len, hl']; omega
      clear hrel hB hS hO hl' hx hb
      go_wp2_with (first
        | (go_at_call 135; (with_reducible refine HHr.out.mono ?_); rintro e w3 ⟨rfl, hs3, ho3⟩; have HS3 := Lib.hid hs3; have HB3 := Lib.hid (HB.out.only ho3 (fun h => hqN h.symm)); have HO3 : Hid (Only (fun _ => False) w w3) := HO.out.trans ho3 (fun i hi => .inr (by rw [hi]; exact HQ1.out)); have hz3 := ho3.size; clear hs3 ho3)
        | ((with_reducible show wpList _ _ _ (⟨none, .store 109 (.tmp 29) _, _, _, _, _⟩ :: _) _ _); refine step_store2 rfl 109 _ _ rfl N (k * 2) rfl (.int .i64 xl) (.int .i64 xv) rfl _ _ (HB3.out.alloc _) hk2 size_set rfl rfl ?_; intro w4 hB4 hz4 ho4))
      go_roundw
      case rel =>
        refine ⟨k + 1, by omega, by go_num, l'.set k ⟨xl, xv⟩, by rw [List.length_set]; exact HL.out, ?_, ⟨_, (HS3.out.same ((Only.refl _ _).alloc _)).only ho4 hqN, HS3R.out⟩, (HO3.out.alloc _).trans ho4 (fun i hi => .inr (by rw [hi]; exact HNN.out.1)), fun j hj => ?_⟩
        rotate_left
        · rcases Nat.lt_or_ge j k with h1 | h1
          · rw [List.getElem?_set_ne (by omega)]
            exact HLs.out j h1
          · obtain rfl : j = k := by omega
            rw [List.getElem?_set_self (by rw [HL.out]; exact hlt), HXk.out]
        have := hB4.out
        rw [st_set l' k ⟨xl, xv⟩ (by rw [HL.out]; exact hlt)] at this
        exact this
      case measure => simp [intOf]; omega
    · obtain rfl : k = 18 := by omega
      clear hrel
      have HB := Lib.hid hB
      have HL := Lib.hid hl'
      have HO := Lib.hid hO
      have HLL : Hid (l' = L) := by
        show l' = L
        apply List.ext_getElem?
        intro j
        rcases Nat.lt_or_ge j 18 with h1 | h1
        · exact HLs.out j h1
        · rw [List.getElem?_eq_none (by omega), List.getElem?_eq_none (by rw [HHl.out]; exact h1)]
      clear hB hl' hO hS hSR
      go_wp2
      go_ret
      exact ⟨N, rfl, by rw [← HLL.out]; exact StAt.of_blk HB.out HL.out, HNN.out.1, HO.out⟩
end Go.Proofs.YtbnfhklpobephaaGreatDoor
/- Package naws: the body of a size. -/
namespace Go.Proofs.YtbnfhklpobephaaGreatDoor
open Go Go.RowKit
set_option maxRecDepth 100000
set_option maxHeartbeats 4000000

theorem nbody_ok (w : World) (c r : Int) (hc : fitsN c = true) (hr : fitsN r = true) :
    Calls Tryz.prog 79 #[szVal c r] w fun e w' => ∃ N, e = .returned (.tuple #[.slice (some ⟨N, 0, none⟩) 4 4, .nilIface]) ∧ Hid (Src w' (some ⟨N, 0, none⟩) 4 (bodyOf c r)) ∧ Hid (Only (fun _ => False) w w') := by
  have HR := Lib.hid (fun W => nright_any W c r)
  rw [hc, hr] at HR
  have HB := Lib.hid (bodyOf_cells hc hr)
  have HHc : Hid (∀ W, _) := Lib.hid (fun W => high_any W c hc)
  have HHr : Hid (∀ W, _) := Lib.hid (fun W => high_any W r hr)
  have HLc : Hid (∀ W, _) := Lib.hid (fun W => low_any W c hc)
  have HLr : Hid (∀ W, _) := Lib.hid (fun W => low_any W r hr)
  clear hc hr
  unfold szVal at *
  go_enter Tryz.func79, Tryz.ntmps79
  go_wp2_with (go_at_call 129; refine (HR.out _).mono ?_; rintro e w1 ⟨rfl, ho1⟩; have HO1 := Lib.hid ho1; clear ho1)
  have HBk : Hid (Blk w1 w.heap.size 26 [.int .i64 c, .int .i64 r]) := (Blk.new w 26 [.int .i64 c, .int .i64 r]).only HO1.out (fun h => h)
  generalize w.heap.size = N at *
  go_region_held3 (fun W => W.cell? ⟨N, 0, none⟩ = some (.int .i64 c) ∧ W.cell? ⟨N, 1, none⟩ = some (.int .i64 r))
    (first | exact ⟨HBk.out.cell 0, HBk.out.cell 1⟩ | exact ⟨(HBk.out.alloc _).cell 0, (HBk.out.alloc _).cell 1⟩)
    (first
      | (go_at_call 130; (with_reducible refine (HHc.out _).mono ?_); rintro e w' ⟨rfl, e2⟩; subst w')
      | (go_at_call 130; (with_reducible refine (HHr.out _).mono ?_); rintro e w' ⟨rfl, e2⟩; subst w')
      | (go_at_call 131; (with_reducible refine (HLc.out _).mono ?_); rintro e w' ⟨rfl, e2⟩; subst w')
      | (go_at_call 131; (with_reducible refine (HLr.out _).mono ?_); rintro e w' ⟨rfl, e2⟩; subst w'))
  go_wp2
  go_ret2
  exact ⟨_, rfl, src_new w1 (bodyOf c r) _ 5 _ 4 (by rw [HB.out]) rfl, ((((Only.refl _ w).alloc _).trans HO1.out (fun _ h => h.elim)).alloc _).drew⟩

end Go.Proofs.YtbnfhklpobephaaGreatDoor
/- What New of a hub lays lies in new blocks. -/
namespace Go.Proofs.YtbnfhklpobephaaGreatDoor
open Go Go.RowKit
set_option maxRecDepth 100000
set_option maxHeartbeats 4000000

theorem clone_new {w : World} {A : Option Addr} {n c : Nat} {ts : List (List UInt8)} (hs : TSrc w A n ts) (hn63 : n ≤ 1048576) :
    Calls Tryz.prog 133 #[.slice A n c] w fun e w' => ∃ A' c', e = .returned (.slice A' n c') ∧ TSrc w' A' n ts ∧ n ≤ c' ∧ c' ≤ 9223372036854775807 ∧ (∀ ad, A' = some ad → 0 < n → w.heap.size ≤ ad.block) ∧ Only (fun _ => False) w w' := by
  obtain ⟨i0, hi0, hz0, hz1, hz2⟩ := info_parts info_str
  have hl : ts.length = n := hs.1
  have qn : ∀ (w : World) (a : Option Addr) (n c n' c' : Nat), (binOp .eql 27 (.slice a n c) (.slice none n' c')).run Tryz.prog w = .ok (.bool a.isNone) w := fun w a n c n' c' => Lib.run_eql_slice_nil w _ _ a n c n' c' Tryz.underlying27
  have HO := Lib.hid (((Only.refl (fun _ => False) w).alloc (.cells #[] 9)))
  have HE := Lib.hid (own_of_blk (B := w.heap.size) (c := 0) (s := 1) (n := 0) (xs := []) (Blk.new w 9 []) rfl rfl (by omega) (by omega) (Nat.le_refl _))
  have HS := Lib.hid hs
  have HL := Lib.hid hl
  clear hs hl
  cases A with
  | none =>
    have h0 : n = 0 := by
      rcases Nat.eq_zero_or_pos n with h | h
      · exact h
      · obtain ⟨_, h, _⟩ := HS.out.2 h
        cases h
    subst h0
    go_enter Tryz.func133, Tryz.ntmps133
    go_wp2
    go_ret
    exact ⟨_, _, rfl, HS.out, Nat.le_refl _, by omega, fun ad e => (by cases e), Only.refl _ _⟩
  | some ad =>
    have HN : Hid (∀ (j : Nat) (u : Value), (ts.map S8)[j]? = some u → (w.alloc (.cells #[] 9)).cell? (ad.add j) = some u) := fun j u hj => by
      have hn : 0 < n := by
        have := (List.getElem?_eq_some_iff.1 hj).1
        rw [List.length_map, HL.out] at this
        omega
      obtain ⟨ad', e, hc⟩ := HS.out.2 hn
      injection e with e
      subst e
      rw [List.getElem?_map] at hj
      cases hx : ts[j]? with
      | none => rw [hx] at hj; cases hj
      | some s =>
        rw [hx] at hj
        injection hj with hj
        subst hj
        exact HO.out.cellv (hc j s hx) (fun h => h)
    go_enter Tryz.func133, Tryz.ntmps133
    go_wp2_with (at_builtin; refine step_append_own rfl (.tmp 5) (.tmp 6) 27 rfl w.heap.size 9 i0 _ 1 16 Tryz.underlying27 hi0 hz0 hz1 hz2 rfl (by omega) _ 0 [] rfl HE.out (some ad) n c (ts.map S8) rfl (by rw [List.length_map, HL.out]; omega) (fun hn => ⟨ad, rfl, HN.out⟩) (S8_one _) (by omega) (by omega) (by simp) ?_; intro A' c' w2 hl1 hl2 hq; have HQ := Lib.hid hq.out; clear hq)
    go_ret
    obtain ⟨hown, hgr, _⟩ := HQ.out
    rw [Nat.zero_add, List.nil_append] at hown
    refine ⟨A', c', rfl, TSrc.of_own hown, by omega, hl2, fun ad e h0 => ?_, HO.out.grown hgr (fun q hq => .inr (by cases hq; exact Nat.le_refl _))⟩
    obtain ⟨g, e', h1, _⟩ := own_at hown h0
    rw [e'] at e
    injection e with e
    subst e
    exact h1
theorem ttnew_new {w : World} {A : Option Addr} {n : Nat} (c : Nat) {ts : List (List UInt8)} (hs : TSrc w A n ts) (h1 : 1 ≤ n) (h8 : n ≤ 8) (h : ts.all okT = true) :
    Calls Tryz.prog 80 #[.slice A n c] w fun e w' => ∃ p, e = .returned (.tuple #[.pointer (some ⟨p, 0, none⟩), .nilIface]) ∧ (∃ A' c', Blk w' p 103 [.slice A' ts.length c', .int .i64 0] ∧ TSrc w' A' ts.length ts ∧ ∀ ad, A' = some ad → w.heap.size ≤ ad.block) ∧ w.heap.size ≤ p ∧ Only (fun _ => False) w w' := by
  have HS := Lib.hid hs
  have HR := Lib.hid (fun W s => ttright_any W s)
  have HB := Lib.hid h
  have HCl := Lib.hid (clone_new (c := c) hs (by omega))
  clear hs h
  have hd : decide ((n : Int) < 1) = false := by simp; omega
  have hd2 : decide ((8 : Int) < (n : Int)) = false := by simp; omega
  go_enter Tryz.func80, Tryz.ntmps80
  go_wp2
  go_loop [17] (fun i => ∃ k : Nat, k ≤ n ∧ i = .int .i64 (k : Int)) (fun i => n - (intOf i).toNat)
  case atStart => exact ⟨0, Nat.zero_le _, rfl⟩
  case round =>
    obtain ⟨k, hk, rfl⟩ := hrel
    by_cases hlt : k < n
    · obtain ⟨ad, s, rfl, hx, hcs⟩ := HS.out.get hlt
      have ho : okT s = true := by
        have := HB.out
        rw [List.all_eq_true] at this
        exact this s (List.mem_of_getElem? hx)
      have HRs := Lib.hid (fun W => HR.out W s)
      rw [ho] at HRs
      clear hx ho
      go_wp2_with (go_at_call 132; (with_reducible refine (HRs.out _).mono ?_); rintro e w1 ⟨rfl, e1⟩; subst w1)
      go_round
      case rel => exact ⟨k + 1, by omega, by go_num⟩
      case measure => simp [intOf]; omega
    · go_wp2_with (go_at_call 133; refine HCl.out.mono ?_; rintro e w1 ⟨A', c', rfl, hs1, hl1, hl2, hnw, ho1⟩; have HNw := Lib.hid hnw; clear hnw; have HS1 := Lib.hid hs1; have HO1 := Lib.hid ho1; clear hs1 ho1)
      go_ret2
      have hl := HS1.out.1
      subst hl
      have hb := Blk.new w1 103 [.slice A' ts.length c', .int .i64 0]
      exact ⟨w1.heap.size, rfl, ⟨A', c', hb, HS1.out.same ((Only.refl _ _).alloc _), fun ad e => HNw.out ad e (by omega)⟩, HO1.out.size, HO1.out.alloc _⟩

theorem nbody_new (w : World) (c r : Int) (hc : fitsN c = true) (hr : fitsN r = true) :
    Calls Tryz.prog 79 #[szVal c r] w fun e w' => ∃ N, e = .returned (.tuple #[.slice (some ⟨N, 0, none⟩) 4 4, .nilIface]) ∧ Hid (Src w' (some ⟨N, 0, none⟩) 4 (bodyOf c r)) ∧ Hid (Only (fun _ => False) w w') ∧ w.heap.size ≤ N := by
  have HR := Lib.hid (fun W => nright_any W c r)
  rw [hc, hr] at HR
  have HB := Lib.hid (bodyOf_cells hc hr)
  have HHc : Hid (∀ W, _) := Lib.hid (fun W => high_any W c hc)
  have HHr : Hid (∀ W, _) := Lib.hid (fun W => high_any W r hr)
  have HLc : Hid (∀ W, _) := Lib.hid (fun W => low_any W c hc)
  have HLr : Hid (∀ W, _) := Lib.hid (fun W => low_any W r hr)
  clear hc hr
  unfold szVal at *
  go_enter Tryz.func79, Tryz.ntmps79
  go_wp2_with (go_at_call 129; refine (HR.out _).mono ?_; rintro e w1 ⟨rfl, ho1⟩; have HO1 := Lib.hid ho1; clear ho1)
  have HBk : Hid (Blk w1 w.heap.size 26 [.int .i64 c, .int .i64 r]) := (Blk.new w 26 [.int .i64 c, .int .i64 r]).only HO1.out (fun h => h)

  generalize w.heap.size = N at *
  go_region_held3 (fun W => W.cell? ⟨N, 0, none⟩ = some (.int .i64 c) ∧ W.cell? ⟨N, 1, none⟩ = some (.int .i64 r))
    (first | exact ⟨HBk.out.cell 0, HBk.out.cell 1⟩ | exact ⟨(HBk.out.alloc _).cell 0, (HBk.out.alloc _).cell 1⟩)
    (first
      | (go_at_call 130; (with_reducible refine (HHc.out _).mono ?_); rintro e w' ⟨rfl, e2⟩; subst w')
      | (go_at_call 130; (with_reducible refine (HHr.out _).mono ?_); rintro e w' ⟨rfl, e2⟩; subst w')
      | (go_at_call 131; (with_reducible refine (HLc.out _).mono ?_); rintro e w' ⟨rfl, e2⟩; subst w')
      | (go_at_call 131; (with_reducible refine (HLr.out _).mono ?_); rintro e w' ⟨rfl, e2⟩; subst w'))
  go_wp2
  go_ret2
  exact ⟨_, rfl, src_new w1 (bodyOf c r) _ 5 _ 4 (by rw [HB.out]) rfl, ((((Only.refl _ w).alloc _).trans HO1.out (fun _ h => h.elim)).alloc _).drew, by have := HO1.out.size; simp at this; omega⟩
end Go.Proofs.YtbnfhklpobephaaGreatDoor
