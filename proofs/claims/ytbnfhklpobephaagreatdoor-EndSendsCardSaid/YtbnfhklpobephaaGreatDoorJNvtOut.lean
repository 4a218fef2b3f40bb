/- Several texts in one. -/
import Derived.Test.YtbnfhklpobephaaGreatDoorJIacFeed
import Derived.Test.YtbnfhklpobephaaGreatDoorJHsGather
import Derived.Test.YtbnfhklpobephaaGreatDoorJMd
import Derived.Test.YtbnfhklpobephaaGreatDoorJRefuse
import Derived.Test.YtbnfhklpobephaaGreatDoorJQsCalls
import Derived.Test.YtbnfhklpobephaaGreatDoorEnFed
/- Package nvt: Encode. -/
namespace Go.Proofs.YtbnfhklpobephaaGreatDoor
open Go Go.RowKit
set_option maxRecDepth 100000
set_option maxHeartbeats 4000000

/-- endsLine. -/
theorem ends_any {w : World} {A : Option Addr} {n c : Nat} {xs : List UInt8} (hs : Src w A n xs) :
    Calls Tryz.prog 126 #[.slice A n c] w fun e w' => e = .returned (.bool (decide (xs.head?.map UInt8.toNat = some 10))) ∧ w = w' := by
  cases xs with
  | nil =>
    obtain rfl : n = 0 := hs.1.symm
    clear hs
    go_enter Tryz.func126, Tryz.ntmps126
    go_wp2
    go_ret
    exact ⟨rfl, rfl⟩
  | cons x xs =>
    obtain ⟨ad, rfl, hc⟩ := hs.2 (by have := hs.1; simp at this; omega)
    have c0 := hc 0 x rfl
    unfold B8 at c0
    rw [show ad.add 0 = ad from by simp [Addr.add]] at c0
    have hn : 0 < n := by have := hs.1; simp at this; omega
    have hd : decide ((0 : Int) < (n : Int)) = true := by simp; omega
    obtain ⟨z, hz⟩ : ∃ z : Int, z = (x.toNat : Int) := ⟨_, rfl⟩
    rw [← hz] at c0
    obtain ⟨p0, h0⟩ : ∃ p, p = decide (((x :: xs).head?.map UInt8.toNat) = some 10) := ⟨_, rfl⟩
    rw [← h0]
    have e0 : (z == 10) = p0 := by rw [h0, hz, Bool.eq_iff_iff]; simp; omega
    have e0' : decide (z = 10) = p0 := by rw [h0, hz, Bool.eq_iff_iff]; simp; omega
    clear hs hc hz h0
    go_enter Tryz.func126, Tryz.ntmps126
    go_wp2
    go_ret
    exact ⟨rfl, rfl⟩

/-- Where Encode stands. -/
structure OutAt (w : World) (raw : Bool) (xs : List UInt8) (W : World) (k : Nat) (V : Value) (n : Nat) (ys : List UInt8) : Prop where
  len : n = ys.length
  le : ys.length ≤ 2 * k
  row : Body W w.heap.size V ys
  told : ys ++ out8 raw (xs.drop k) = out8 raw xs
  only : Only (fun _ => False) w W

theorem encode_any {w : World} {A : Option Addr} {n c : Nat} {xs : List UInt8} (hs : Src w A n xs) (raw : Bool) (hn : n ≤ 100000) (hc : n ≤ c) :
    Calls Tryz.prog 72 #[.slice A n c, .bool raw] w fun e w' => ∃ A' c', e = .returned (.slice A' (out8 raw xs).length c') ∧ Hid (Body w' w.heap.size (.slice A' (out8 raw xs).length c') (out8 raw xs)) ∧ Hid (Only (fun _ => False) w w') := by
  have HS := Lib.hid hs
  have H0 : Hid (OutAt w raw xs w 0 (.slice none 0 0) 0 []) := ⟨rfl, Nat.zero_le _, nil_body _ _, by simp, Only.refl _ w⟩
  clear hs
  go_enter Tryz.func72, Tryz.ntmps72
  go_wp2
  go_loopw [5, 10] (fun v i W => ∃ (k : Nat) (A' : Option Addr) (n' c' : Nat), k ≤ n ∧ i = .int .i64 (k : Int) ∧ v = .slice A' n' c' ∧ Hid (∃ ys, OutAt w raw xs W k (.slice A' n' c') n' ys)) (fun _ i _ => n - (intOf i).toNat)
  case atStart => exact ⟨0, _, _, _, Nat.zero_le _, rfl, rfl, [], H0.out⟩
  case round =>
    clear H0
    obtain ⟨k, A', n', c', hk, rfl, rfl, HD⟩ := hrel
    obtain ⟨ys, hI⟩ := HD.out
    by_cases hlt : k < n
    · obtain ⟨x, hx⟩ : ∃ x, xs[k]? = some x := ⟨_, List.getElem?_eq_getElem (by rw [HS.out.1]; exact hlt)⟩
      have hsW := HS.out.only hI.only (fun _ _ _ h => h)
      obtain ⟨ad, rfl, hcell⟩ := hsW.2 (by omega)
      have c0 := hcell k x hx
      unfold B8 at c0
      have HT := hI.told
      have hdx := drop_at hx
      rw [hdx] at HT
      simp only [out8] at HT
      have hb' : n' + 2 ≤ 1048576 := by have h1 := hI.len; have h2 := hI.le; omega
      have hBW : w.heap.size ≤ wr.heap.size := hI.only.size
      obtain ⟨z, hz⟩ : ∃ z : Int, z = (x.toNat : Int) := ⟨_, rfl⟩
      rw [← hz] at c0
      have HZ : Hid (#[Value.int .u8 z] = ([x].map B8).toArray) := by rw [hz]; rfl
      have HI := Lib.hid hI
      obtain ⟨p1, h1⟩ : ∃ p, p = decide (x.toNat = 13) := ⟨_, rfl⟩
      have e1 : (z == 13) = p1 := by rw [h1, hz, Bool.eq_iff_iff]; simp; omega
      have e1' : decide (z = 13) = p1 := by rw [h1, hz, Bool.eq_iff_iff]; simp; omega
      obtain ⟨p2, h2⟩ : ∃ p, p = decide ((xs.drop (k + 1)).head?.map UInt8.toNat = some 10) := ⟨_, rfl⟩
      have hiff : (x.toNat = 13 ∧ raw = false ∧ (xs.drop (k + 1)).head?.map UInt8.toNat ≠ some 10) ↔ (p1 = true ∧ raw = false ∧ p2 = false) := by rw [h1, h2]; simp
      have HE : Hid (∀ W (D : Option Addr) (C : Nat), Only (fun _ => False) w W → (k + 1 < n → D = some (ad.add (k + 1))) → Calls Tryz.prog 126 #[.slice D (n - (k + 1)) C] W fun e w' => e = .returned (.bool p2) ∧ W = w') := fun W D C ho hD => by
        have h3 := (HS.out.only ho (fun _ _ _ h => h)).piece (k + 1) n (by omega) (Nat.le_refl _) D (fun h0 ad' e => by rw [hD h0]; injection e with e; rw [e])
        rw [List.take_of_length_le (by rw [HS.out.1]; omega)] at h3
        rw [h2]
        exact ends_any h3
      have HW2 : Hid (Only (fun _ => False) w wr) := hI.only
      simp only [hiff] at HT
      have HTold := Lib.hid HT
      have hk1 : k + 1 ≤ n := hlt
      have hk1c : k + 1 ≤ c := by omega
      clear hcell hsW hz hx hdx h1 h2 hiff HD hI HT
      cases p1 with
      | false =>
        go_wp2_with (first
          | (at_builtin; refine step_bytesG rfl (.tmp 15) (.tmp 17) rfl w.heap.size _ _ _ ys rfl (own_same HI.out.row ((Only.refl _ wr).alloc _)) HI.out.len (some ⟨wr.heap.size, 0, none⟩) 1 1 [x] rfl (src_new wr [x] _ _ _ 1 HZ.out rfl) (by omega) (by have := HI.out.only.size; simp; omega) ?_; intro A3 c3 w3 hb3 hg3))
        go_roundw
        case rel =>
          refine ⟨k + 1, _, _, _, by omega, by go_num, rfl, ys ++ [x], ?_, ?_, hb3.out, ?_, ?_⟩
          · have := HI.out.len
            simp
            omega
          · have := HI.out.le
            simp
            omega
          · have := HTold.out
            rw [← this]
            simp
          · exact (HI.out.only.alloc _).grown hg3.out (fun k hk => .inr (own_lt HI.out.row k hk).1)
        case measure => simp [intOf]; omega
      | true =>
        cases raw with
        | true =>
          go_wp2_with (first
            | (at_builtin; refine step_bytesG rfl (.tmp 15) (.tmp 17) rfl w.heap.size _ _ _ ys rfl (own_same HI.out.row ((Only.refl _ wr).alloc _)) HI.out.len (some ⟨wr.heap.size, 0, none⟩) 1 1 [x] rfl (src_new wr [x] _ _ _ 1 HZ.out rfl) (by omega) (by have := HI.out.only.size; simp; omega) ?_; intro A3 c3 w3 hb3 hg3))
          go_roundw
          case rel =>
            refine ⟨k + 1, _, _, _, by omega, by go_num, rfl, ys ++ [x], ?_, ?_, hb3.out, ?_, ?_⟩
            · have := HI.out.len
              simp
              omega
            · have := HI.out.le
              simp
              omega
            · have := HTold.out
              rw [← this]
              simp
            · exact (HI.out.only.alloc _).grown hg3.out (fun k hk => .inr (own_lt HI.out.row k hk).1)
          case measure => simp [intOf]; omega
        | false =>
          cases p2 with
          | true =>
            go_wp2_with (first
              | (go_at_call 126; (with_reducible refine Calls.mono (HE.out w3 _ _ HO3.out (by intro h; rw [if_neg (by omega)]; simp [Addr.add])) ?_); rintro e w' ⟨rfl, rfl⟩)
              | (at_builtin; refine step_bytesG rfl (.tmp 15) (.tmp 17) rfl w.heap.size _ _ _ ys rfl (own_same HI.out.row ((Only.refl _ wr).alloc _)) HI.out.len (some ⟨wr.heap.size, 0, none⟩) 1 1 [x] rfl (src_new wr [x] _ _ _ 1 HZ.out rfl) (by omega) (by have := HI.out.only.size; simp; omega) ?_; intro A3 c3 w3 hb3 hg3; have HO3 : Hid (Only (fun _ => False) w w3) := (HI.out.only.alloc _).grown hg3.out (fun k hk => .inr (own_lt HI.out.row k hk).1)))
            all_goals
              go_roundw
              case rel =>
                refine ⟨k + 1, _, _, _, by omega, by go_num, rfl, ys ++ [x], ?_, ?_, hb3.out, ?_, HO3.out⟩
                · have := HI.out.len
                  simp
                  omega
                · have := HI.out.le
                  simp
                  omega
                · have := HTold.out
                  rw [← this]
                  simp
              case measure => simp [intOf]; omega
          | false =>
            go_wp2_with (first
              | (go_at_call 126; (with_reducible refine Calls.mono (HE.out w3 _ _ HO3.out (by intro h; rw [if_neg (by omega)]; simp [Addr.add])) ?_); rintro e w' ⟨rfl, rfl⟩)
              | (at_builtin; refine step_bytesG rfl (.tmp 15) (.tmp 17) rfl w.heap.size _ _ _ ys rfl (own_same HI.out.row ((Only.refl _ wr).alloc _)) HI.out.len (some ⟨wr.heap.size, 0, none⟩) 1 1 [x] rfl (src_new wr [x] _ _ _ 1 HZ.out rfl) (by omega) (by have := HI.out.only.size; simp; omega) ?_; intro A3 c3 w3 hb3 hg3; have HO3 : Hid (Only (fun _ => False) w w3) := (HI.out.only.alloc _).grown hg3.out (fun k hk => .inr (own_lt HI.out.row k hk).1))
              | (at_builtin; refine step_bytesG rfl (.tmp 33) (.tmp 34) rfl w.heap.size _ _ _ (ys ++ [x]) rfl (own_same hb3.out ((Only.refl _ w3).alloc _)) (by rw [HI.out.len]; exact (len_snoc _ _).symm) (some ⟨w3.heap.size, 0, none⟩) 1 1 [0] rfl (src_new w3 [0] _ _ _ 1 rfl rfl) (by omega) (by have := HO3.out.size; simp; omega) ?_; intro A4 c4 w4 hb4 hg4))
            all_goals
              go_roundw
              case rel =>
                refine ⟨k + 1, _, _, _, by omega, by go_num, rfl, ys ++ [x] ++ [0], ?_, ?_, hb4.out, ?_, ?_⟩
                · have := HI.out.len
                  simp
                  omega
                · have := HI.out.le
                  simp
                  omega
                · have := HTold.out
                  rw [← this]
                  simp
                · exact (HO3.out.alloc _).grown hg4.out (fun k hk => .inr (own_lt hb3.out k hk).1)
              case measure => simp [intOf]; omega
    · obtain rfl : k = n := by omega
      have htold := hI.told
      rw [List.drop_eq_nil_of_le (by rw [HS.out.1]; omega)] at htold
      simp only [out8, List.append_nil] at htold
      obtain rfl : n' = ys.length := hI.len
      have HI := Lib.hid hI
      clear HD hI
      subst htold
      go_wp2
      go_ret
      exact ⟨_, _, rfl, HI.out.row, HI.out.only⟩
end Go.Proofs.YtbnfhklpobephaaGreatDoor
/- A mask of lines is set: a head's Set within a block, a hub's Set. -/
namespace Go.Proofs.YtbnfhklpobephaaGreatDoor
open Go Go.RowKit
set_option maxRecDepth 100000
set_option maxHeartbeats 4000000

section
variable {w : World} {es : List Addr} {A : Option Addr} {n : Nat} {b : List UInt8} {p q mo : Nat} {m hm can tm : Int} {wt : Bool} {t : TypeId} {pre post : List Value}
theorem heSet_bad (hes : ErrsOf w mdSel es) (hh : HeIn w p mo t pre post hm wt) (h64 : In64 m) (hn : setNum m hm wt ≠ 0) :
    Calls Tryz.prog 123 #[.pointer (some ⟨p, mo, none⟩), .int .i64 m] w fun e w' => ∃ E, ErrV es E (setNum m hm wt) ∧ e = .returned (.tuple #[.slice none 0 0, E]) ∧ Only (fun _ => False) w w' := by
  have HR := Lib.hid (fun W => mdRight_any W h64)
  have c0 : w.cell? ⟨p, mo, none⟩ = some (.int .i64 hm) := hh.val (i := 0) rfl
  have c1 : w.cell? ⟨p, mo + 1, none⟩ = some (.bool wt) := hh.val (i := 1) rfl
  unfold setNum at hn ⊢
  cases hk : isMask m with
  | false =>
    rw [hk] at HR hn
    obtain ⟨a, ha, hc⟩ := hes.get 4 4 (by decide) rfl
    unfold errV at hc
    have HA : Hid (ErrV es (errV a) 5) := ErrV.err ha 5 rfl
    clear ha hes hn hk hh
    go_enter Tryz.func123, Tryz.ntmps123
    go_wp2_with (go_at_call 169; (with_reducible refine (HR.out _).mono ?_); rintro e w1 ⟨rfl, e1⟩; subst w1)
    go_quiet (fail)
    go_wp2
    go_ret2
    exact ⟨_, HA.out, rfl, (Only.refl _ _).drewN _⟩
  | true =>
    rw [hk] at HR hn
    cases wt with
    | true =>
      obtain ⟨a, ha, hc⟩ := hes.get 9 9 (by decide) rfl
      unfold errV at hc
      have HA : Hid (ErrV es (errV a) 10) := ErrV.err ha 10 rfl
      clear ha hes hn hk hh
      go_enter Tryz.func123, Tryz.ntmps123
      go_wp2_with (go_at_call 169; (with_reducible refine (HR.out _).mono ?_); rintro e w1 ⟨rfl, e1⟩; subst w1)
      go_quiet (fail)
      go_wp2
      go_ret2
      exact ⟨_, HA.out, rfl, (Only.refl _ _).drewN _⟩
    | false =>
      by_cases he : hm = m
      · subst he
        obtain ⟨a, ha, hc⟩ := hes.get 7 7 (by decide) rfl
        unfold errV at hc
        have HA : Hid (ErrV es (errV a) 8) := ErrV.err ha 8 rfl
        have e1 : (hm == hm) = true := by simp
        rw [if_pos rfl, if_neg (by simp), if_pos rfl]
        clear ha hes hn hk hh
        go_enter Tryz.func123, Tryz.ntmps123
        go_wp2_with (go_at_call 169; (with_reducible refine (HR.out _).mono ?_); rintro e w1 ⟨rfl, e1⟩; subst w1)
        go_quiet (fail)
        go_wp2
        go_ret2
        exact ⟨_, HA.out, rfl, (Only.refl _ _).drewN _⟩
      · exfalso
        simp [he] at hn

theorem heSet_ok (hh : HeIn w p mo t pre post hm wt) (h64 : In64 m) (hn : setNum m hm wt = 0) :
    Calls Tryz.prog 123 #[.pointer (some ⟨p, mo, none⟩), .int .i64 m] w fun e w' => ∃ N, e = .returned (.tuple #[.slice (some ⟨N, 0, none⟩) 2 2, .nilIface]) ∧ Hid (w.heap.size ≤ N) ∧ Hid (Src w' (some ⟨N, 0, none⟩) 2 (bodyM m)) ∧ Hid (HeIn w' p mo t pre post m true) ∧ Hid (Only (· = p) w w') := by
  have HR := Lib.hid (fun W => mdRight_any W h64)
  unfold setNum at hn
  cases hk : isMask m with
  | false => rw [hk] at hn; simp at hn
  | true =>
    rw [hk] at HR hn
    cases wt with
    | true => simp at hn
    | false =>
      have hne : ¬ hm = m := fun h => by simp [h] at hn
      have hne1 : (m == hm) = false := by simp; omega
      have hb := isMask_iff.1 hk
      have HTl := Lib.hid (fun W => mdTell_any W (m := m) hb.1 (by omega))
      have c0 : w.cell? ⟨p, mo, none⟩ = some (.int .i64 hm) := hh.val (i := 0) rfl
      have c1 : w.cell? ⟨p, mo + 1, none⟩ = some (.bool false) := hh.val (i := 1) rfl
      have f0 := hh.frozen mo
      have f1 := hh.frozen (mo + 1)
      have HB := Lib.hid hh
      have hlt := hh.lt
      clear hh hn hk hb hne
      go_enter Tryz.func123, Tryz.ntmps123
      go_wp2_with (first
        | (go_at_call 169; (with_reducible refine (HR.out _).mono ?_); rintro e w1 ⟨rfl, e1⟩; subst w1)
        | (go_at_call 170; (with_reducible refine (HTl.out _).mono ?_); rintro e w2 ⟨rfl, hs2, ho2⟩))
      go_ret2
      have hO1 : Only (· = p) w ((w.setCell ⟨p, mo, none⟩ (.int .i64 m)).setCell ⟨p, mo + 1, none⟩ (.bool true)) := Only.setCell (S := (· = p)) (p := ⟨p, mo + 1, none⟩) (Only.setCell (S := (· = p)) (p := ⟨p, mo, none⟩) (Only.refl _ w) (.inl rfl) _) (.inl rfl) _
      refine ⟨_, rfl, ?_, ?_, ?_, hO1.trans ho2.out (fun _ h => h.elim)⟩
      · exact Nat.le_refl _
      · have h := hs2.out
        rw [setCell_size, setCell_size] at h
        exact h
      · exact ((HB.out.setCell (i := 0) (by simp) (.int .i64 m)).setCell (i := 1) (by simp) (.bool true)).same ho2.out

end
@[reducible] def sbV (o : Int) (A : Option Addr) (n c : Nat) : Value := .agg #[.int .i64 o, .slice A n c]
theorem size_sub : (Tryz.prog.info? 191).map (·.size) = some 2 := by kernel_rfl
/-- What Set answers. -/
structure SetAns (w : World) (es : List Addr) (p mo : Nat) (tp : TypeId) (pre post : List Value) (G : Nat → Prop) (r : HsR) (e : Ending) (w' : World) : Prop where
  way : (r.1 = 0 ∧ ∃ b N, r.2.1 = some b ∧ b.length = 2 ∧ e = .returned (.tuple #[sbV 34 (some ⟨N, 0, none⟩) 2 2, .nilIface]) ∧ w.heap.size ≤ N ∧ Src w' (some ⟨N, 0, none⟩) 2 b) ∨ (r.1 ≠ 0 ∧ r.2.1 = none ∧ ∃ E, ErrV es E r.1 ∧ e = .returned (.tuple #[sbV 0 none 0 0, E]))
  hub : ∃ h, HsAt w' p mo tp pre post G h r.2.2
  only : Only (· = p) w w'
section
variable {w : World} {es : List Addr} {p q mo mq : Nat} {tp tq : TypeId} {pre post prq poq : List Value} {G : Nat → Prop} {h : Hb} {H : Hs} {ag : Nat → Nat → Bool} {T : Tb}
theorem hsSet (hE : ErrsAt w es) (k : HsAt w p mo tp pre post G h H) (hT : TbAt w q mq tq prq poq ag T) {m : Int} (h64 : In64 m) :
    Calls Tryz.prog 68 #[.pointer (some ⟨p, mo, none⟩), .pointer (some ⟨q, mq, none⟩), .int .i64 m] w fun e w' => Hid (SetAns w es p mo tp pre post G (H.set T m) e w') := by
  have HU : Hid (∀ W, Only (fun _ => False) w W → Calls Tryz.prog 49 #[.pointer (some ⟨q, mq, none⟩), .int .i64 1, .int .i64 34] W fun e w' => e = .returned (.bool (onAt T false 34)) ∧ Only (fun _ => False) W w') := fun W ho => on_at hT false 34 W ho
  have HK := Lib.hid k
  have hhm := k.is.hm
  have hhw := k.is.hw
  obtain ⟨r, hr⟩ : ∃ r, r = H.set T m := ⟨_, rfl⟩
  rw [← hr]
  unfold Hs.set Hs.setN at hr
  cases hu : onAt T false 34 with
  | false =>
    obtain ⟨a, ha, hst⟩ := (hE.of [9]).get 9 9 (by decide) rfl
    have HA10 : Hid (ErrV es (errV a) 10) := ErrV.err ha 10 rfl
    unfold errV at hst HA10
    have HC : Hid (∀ W, Only (fun _ => False) w W → W.cell? ⟨9, 0, none⟩ = some (.iface 409 (.pointer (some a)))) := fun W ho => ho.cellv hst (fun h => h)
    have HNe : Hid (9 ≠ w.heap.size) := Nat.ne_of_lt (World.block_lt_of_cell? w _ hst)
    rw [hu] at HU hr
    have HR1 : Hid (r = (10, none, H)) := by show r = _; rw [hr]; rfl
    clear hE k hT hr hu ha hst hhm hhw
    go_enter Tryz.func68, Tryz.ntmps68
    go_wp2_with (go_at_call 49; (with_reducible refine (HU.out _ ((Only.refl _ _).alloc _)).mono ?_); rintro e w1 ⟨rfl, ho1⟩; have HO1 : Hid (Only (fun _ => False) w w1) := ((Only.refl _ _).alloc _).trans ho1 (fun _ h => h.elim); have hc1 := HC.out _ HO1.out; have hB1 := (Blk.new w 191 [.int .i64 0, .slice none 0 0]).only ho1 (fun h => h); have d0 : w1.cell? ⟨w.heap.size, 0, none⟩ = some (.int .i64 0) := hB1.cell 0; have d1 : w1.cell? ⟨w.heap.size, 1, none⟩ = some (.slice none 0 0) := hB1.cell 1; have f0 := hB1.frozen 0; have f1 := hB1.frozen 1; have HB1 := Lib.hid hB1; clear ho1 hB1)
    have hne := HNe.out
    go_wp2
    refine wp_refuse 191 38 _ 9 6 19 20 w.heap.size (.iface 409 (.pointer (some a))) [.int .i64 0, .slice none 0 0] (by kernel_rfl) rfl rfl rfl rfl rfl rfl rfl rfl rfl rfl (by kernel_rfl) (by kernel_rfl) (by kernel_rfl) (by kernel_rfl) (by kernel_rfl) (by kernel_rfl) (by kernel_rfl) (by kernel_rfl) (by kernel_rfl) size_sub (fun v hv => by simp at hv; rcases hv with rfl | rfl <;> rfl) load_err rfl hc1 rfl rfl rfl HB1.out rfl hne ?_
    intro W8 hB8 ho8
    go_wp2
    refine ret_cell2 rfl w.heap.size rfl _ [.int .i64 0, .slice none 0 0] _ hB8.out Tryz.underlying191 rfl size_sub rfl ?_
    have hO8 : Only (fun _ => False) w W8 := HO1.out.trans ho8.out (fun i hi => .inr (by omega))
    rw [HR1.out]
    exact ⟨.inr ⟨(by show (10 : Nat) ≠ 0; omega), rfl, _, HA10.out, rfl⟩, ⟨_, HK.out.same hO8⟩, hO8.mono (fun _ h => h.elim)⟩
  | true =>
    rw [hu] at HU hr
    rw [if_pos rfl] at hr
    by_cases hn : Go.Proofs.YtbnfhklpobephaaGreatDoor.setNum m H.hm H.hw = 0
    · have HR1 : Hid (r = (0, some (bodyM m), { H with hm := m, hw := true })) := by show r = _; rw [hr, if_pos hn]
      have HS : Hid (∀ W, Only (fun _ => False) w W → _) := fun W ho => heSet_ok (k.hub.same (w' := W) ho).head h64 (by rw [hhm, hhw]; exact hn)
      clear hE k hT hr hu hn hhm hhw
      go_enter Tryz.func68, Tryz.ntmps68
      go_wp2_with (first
        | (go_at_call 49; (with_reducible refine (HU.out _ ((Only.refl _ _).alloc _)).mono ?_); rintro e w1 ⟨rfl, ho1⟩; have HO1 : Hid (Only (fun _ => False) w w1) := ((Only.refl _ _).alloc _).trans ho1 (fun _ h => h.elim); have HB1 := Lib.hid ((Blk.new w 191 [.int .i64 0, .slice none 0 0]).only ho1 (fun h => h)); clear ho1)
        | (go_at_call 123; (with_reducible refine (HS.out _ HO1.out).mono ?_); rintro e w2 ⟨N, rfl, hN, hs2, hh2, ho2⟩; have HN := Lib.hid hN.out; have hwp := HK.out.hub.lt; have HB2 := Lib.hid (HB1.out.only ho2.out (by omega)); clear hN)
        | ((with_reducible show wpList _ _ _ (⟨none, .store 191 _ _, _, _, _, _⟩ :: _) _ _); refine step_store rfl 191 _ _ rfl w.heap.size rfl [.int .i64 34, .slice (some ⟨N, 0, none⟩) 2 2] rfl _ [.int .i64 0, .slice none 0 0] HB2.out size_sub rfl (fun v hv => by simp at hv; rcases hv with rfl | rfl <;> rfl) ?_; intro w3 hB3 hz3 ho3))
      refine ret_cell2 rfl w.heap.size rfl _ [.int .i64 34, .slice (some ⟨N, 0, none⟩) 2 2] _ hB3.out Tryz.underlying191 rfl size_sub rfl ?_
      have h1 := HO1.out.size
      have hN1 := HN.out
      have hO3 : Only (· = p) w w3 := ((Only.mono (T := (· = p)) HO1.out (fun _ h => h.elim)).trans ho2.out (fun i hi => .inl hi)).trans ho3 (fun i hi => .inr (by omega))
      have hk := HK.out.is.own hO3
      rw [HR1.out]
      refine ⟨.inl ⟨rfl, _, N, rfl, rfl, rfl, by omega, hs2.out.only ho3 (fun _ ad e => by injection e with e; rw [← e]; show N ≠ _; have := HB1.out.lt; omega)⟩, ⟨_, (HuAt.of_head HK.out.hub.ok hh2.out).only ho3 (by omega), { hk with hm := rfl, hw := rfl }⟩, hO3⟩
    · have HR1 : Hid (r = (Go.Proofs.YtbnfhklpobephaaGreatDoor.setNum m H.hm H.hw, none, H)) := by show r = _; rw [hr, if_neg hn]
      have HS : Hid (∀ W, Only (fun _ => False) w W → Calls Tryz.prog 123 #[.pointer (some ⟨p, mo + 108, none⟩), .int .i64 m] W fun e w' => ∃ a, e = .returned (.tuple #[.slice none 0 0, .iface 409 (.pointer (some a))]) ∧ ErrV es (.iface 409 (.pointer (some a))) (Go.Proofs.YtbnfhklpobephaaGreatDoor.setNum m H.hm H.hw) ∧ Only (fun _ => False) W w') := fun W ho => (heSet_bad ((hE.only ho).of mdSel) (k.hub.same (w' := W) ho).head h64 (by rw [hhm, hhw]; exact hn)).mono (fun e w' ⟨E, h1, h2, h3⟩ => by
        rw [hhm, hhw] at h1
        rcases h1.ways with ⟨h0, _⟩ | ⟨_, a, rfl⟩
        · exact absurd h0 hn
        · exact ⟨a, h2, h1, h3⟩)
      have HNz : Hid (Go.Proofs.YtbnfhklpobephaaGreatDoor.setNum m H.hm H.hw ≠ 0) := hn
      clear hE k hT hr hu hn hhm hhw
      generalize Go.Proofs.YtbnfhklpobephaaGreatDoor.setNum m H.hm H.hw = z at *
      go_enter Tryz.func68, Tryz.ntmps68
      go_wp2_with (first
        | (go_at_call 49; (with_reducible refine (HU.out _ ((Only.refl _ _).alloc _)).mono ?_); rintro e w1 ⟨rfl, ho1⟩; have HO1 : Hid (Only (fun _ => False) w w1) := ((Only.refl _ _).alloc _).trans ho1 (fun _ h => h.elim); have HB1 := Lib.hid ((Blk.new w 191 [.int .i64 0, .slice none 0 0]).only ho1 (fun h => h)); clear ho1)
        | (go_at_call 123; (with_reducible refine (HS.out _ HO1.out).mono ?_); rintro e w2 ⟨a2, rfl, hv2, ho2⟩; have HV2 := Lib.hid hv2; have HO2 := Lib.hid (HO1.out.trans ho2 (fun _ h => h.elim)); have HB2 := Lib.hid (HB1.out.only ho2 (fun h => h)); clear hv2 ho2)
        | ((with_reducible show wpList _ _ _ (⟨none, .store 191 _ _, _, _, _, _⟩ :: _) _ _); refine step_store rfl 191 _ _ rfl w.heap.size rfl [.int .i64 0, .slice none 0 0] rfl _ [.int .i64 0, .slice none 0 0] HB2.out size_sub rfl (fun v hv => by simp at hv; rcases hv with rfl | rfl <;> rfl) ?_; intro w3 hB3 hz3 ho3))
      refine ret_cell2 rfl w.heap.size rfl _ [.int .i64 0, .slice none 0 0] _ hB3.out Tryz.underlying191 rfl size_sub rfl ?_
      have hO3 : Only (fun _ => False) w w3 := HO2.out.trans ho3 (fun i hi => .inr (by omega))
      rw [HR1.out]
      exact ⟨.inr ⟨HNz.out, rfl, _, HV2.out, rfl⟩, ⟨_, HK.out.same hO3⟩, hO3.mono (fun _ h => h.elim)⟩
end
end Go.Proofs.YtbnfhklpobephaaGreatDoor
/- What is said; a mask that is set. -/
namespace Go.Proofs.YtbnfhklpobephaaGreatDoor
open Go Go.RowKit
set_option maxRecDepth 100000
set_option maxHeartbeats 4000000

theorem out8_len (raw : Bool) : ∀ l : List UInt8, (out8 raw l).length ≤ 2 * l.length
  | [] => Nat.le_refl _
  | x :: l => by
    have := out8_len raw l
    unfold out8
    rw [List.length_append, List.length_cons]
    split
    · simp only [List.length_cons, List.length_nil]; omega
    · simp only [List.length_cons, List.length_nil]; omega
theorem twiceN {P : Prop} {C G : Nat → Nat → World → Prop} (k : (∀ N A W, C N A W → G N A W) → P) (h : ∀ N A W, C N A W → G N A W) : P := k h
theorem twiceE {P : Prop} {C G : Nat → Addr → World → Prop} (k : (∀ N A W, C N A W → G N A W) → P) (h : ∀ N A W, C N A W → G N A W) : P := k h
section
variable {w : World} {es : List Addr} {p mo : Nat} {tp : TypeId} {pre post : List Value} {M R : Nat → Prop} {ag : Nat → Nat → Bool} {E : Ee}
theorem enSay (k : IsEe w p mo tp pre post M R ag E) (hl : E.Lo) {A : Option Addr} {n c : Nat} {xs : List UInt8} (hs : Src w A n xs) (hn : n ≤ 1000) (hnc : n ≤ c) :
    Calls Tryz.prog 26 #[.pointer (some ⟨p, mo, none⟩), .slice A n c] w fun e w' => e = .returned (.tuple #[]) ∧ Hid (EnGoes w.heap.size w p mo tp pre post M R ag (E.say xs) w') := by
  have HK := Lib.hid k
  have HOn := Lib.hid (enOn k 0 0)
  obtain ⟨raw, hraw⟩ : ∃ raw, raw = E.on 0 0 := ⟨_, rfl⟩
  have hE : E.say xs = E.send 1 (dbl (out8 raw xs)) := by rw [hraw]; rfl
  rw [← hraw] at HOn
  obtain ⟨b1, hb1⟩ : ∃ b, b = out8 raw xs := ⟨_, rfl⟩
  have hl1 : b1.length ≤ 2000 := by rw [hb1]; have := out8_len raw xs; have := hs.1; omega
  have HEn : Hid (∀ W, Only (fun _ => False) w W → Calls Tryz.prog 72 #[.slice A n c, .bool raw] W fun e w' => ∃ A' c', e = .returned (.slice A' b1.length c') ∧ Hid (Body w' W.heap.size (.slice A' b1.length c') b1) ∧ Hid (Only (fun _ => False) W w')) := fun W ho => by
    rw [hb1]
    exact encode_any (hs.only ho (fun _ _ _ h => h)) raw (by omega) hnc
  rw [← hb1] at hE
  obtain ⟨b2, hb2⟩ : ∃ b, b = dbl b1 := ⟨_, rfl⟩
  have HDa : Hid (∀ W B (A : Option Addr) c, Body W B (.slice A b1.length c) b1 → Calls Tryz.prog 71 #[.slice A b1.length c] W fun e w' => ∃ A' c', e = .returned (.slice A' b2.length c') ∧ Hid (Body w' W.heap.size (.slice A' b2.length c') b2) ∧ Hid (Only (fun _ => False) W w')) := fun W B A c hb => by
    rw [hb2]
    exact data_any (Body.src hb rfl) (by omega)
  rw [← hb2] at hE
  have HSd : Hid (∀ W B A c, Only (fun _ => False) w W → w.heap.size ≤ B → Body W B (.slice A b2.length c) b2 → Calls Tryz.prog 70 #[.pointer (some ⟨p, mo, none⟩), .int .i64 1, .slice A b2.length c] W fun e w' => e = .returned (.tuple #[]) ∧ Hid (EnGoes w.heap.size W p mo tp pre post M R ag (E.send 1 b2) w')) := fun W B A c ho hB hb =>
    enSend (HK.out.same ho) ho.size (Body.src hb rfl) (hb.caps rfl).1 (hb.caps rfl).2 (fun h0 ad e => by
      have h1 := hb.newer rfl h0 ad e
      exact ⟨by omega, fun hm => by have := HK.out.mlt _ hm; omega⟩) (by have := hl.out; omega) 1
  rw [hE]
  clear k hl hs hnc hE hraw hb1 hb2 hl1
  go_enter Tryz.func26, Tryz.ntmps26
  go_wp2_with (first
    | (go_at_call 19; (with_reducible refine HOn.out.mono ?_); rintro e w1 ⟨rfl, ho1⟩; have HO1 := Lib.hid ho1; clear ho1)
    | (go_at_call 72; (with_reducible refine (HEn.out _ HO1.out).mono ?_); rintro e w2 ⟨A2, c2, rfl, hb2, ho2⟩; have HB2 := hb2; have HO2 : Hid (Only (fun _ => False) w w2) := HO1.out.trans ho2.out (fun _ h => h.elim); clear hb2 ho2)
    | (go_at_call 71; (with_reducible refine (HDa.out _ _ _ _ HB2.out).mono ?_); rintro e w3 ⟨A3, c3, rfl, hb3, ho3⟩; have HB3 := hb3; have HO3 : Hid (Only (fun _ => False) w w3) := HO2.out.trans ho3.out (fun _ h => h.elim); clear hb3 ho3)
    | (go_at_call 70; (with_reducible refine (HSd.out _ _ _ _ HO3.out HO2.out.size HB3.out).mono ?_); rintro e w4 ⟨rfl, h4⟩))
  refine bodyPost_end (results_none rfl _ _ _) rfl ?_
  exact ⟨rfl, EnGoes.from_ h4.out HO3.out⟩
/-- What a setting leaves. -/
structure SetR (w : World) (es : List Addr) (p mo : Nat) (tp : TypeId) (pre post : List Value) (M R : Nat → Prop) (ag : Nat → Nat → Bool) (r : Nat × Ee) (Er : Value) (w' : World) : Prop where
  err : ErrV es Er r.1
  en : EnGoes w.heap.size w p mo tp pre post M R ag r.2 w'
/-- A subnegotiation laid behind a call or ahead of it. -/
structure SbAt (w w7 : World) (N : Nat) (cs : List Value) (p mo : Nat) (tp : TypeId) (pre post : List Value) (M R : Nat → Prop) (ag : Nat → Nat → Bool) (E : Ee) : Prop where
  box : Blk w7 N 191 cs
  new : w.heap.size ≤ N
  is : IsEe w7 p mo tp pre post M R ag E
  only : Only (· = p) w w7
theorem SbAt.first {w5 : World} (k : IsEe w5 p mo tp pre post M R ag E) (ho : Only (· = p) w w5) (a b : Value) : SbAt w (w5.alloc (.cells #[a, b] 191)) w5.heap.size [a, b] p mo tp pre post M R ag E :=
  ⟨Blk.new w5 _ [a, b], ho.size, k.same ((Only.refl _ _).alloc _), ho.alloc _⟩
theorem SbAt.second {w5 : World} {E' : Ee} (k : IsEe w5 p mo tp pre post M R ag E) (ho : Only (· = p) w w5) (hz : Blk w5 w.heap.size 191 [.int .i64 0, .slice none 0 0]) (hk : IsEe w p mo tp pre post M R ag E') (a b : Value) : SbAt w ((w5.setCell ⟨w.heap.size, 0, none⟩ a).setCell ⟨w.heap.size, 1, none⟩ b) w.heap.size [a, b] p mo tp pre post M R ag E := by
  have h := ((Only.refl (· = w.heap.size) w5).setCell (p := ⟨w.heap.size, 0, none⟩) (.inl rfl) a).setCell (p := ⟨w.heap.size, 1, none⟩) (.inl rfl) b
  exact ⟨(hz.setCell 0 _).setCell 1 _, Nat.le_refl _, k.far h (fun i hi e => by have := hk.mlt i hi; omega) (fun i hi e => by have := hk.rlt i hi; omega), ho.trans h (fun i hi => .inr (by omega))⟩
theorem Hs.set_bad {T : Tb} {H : Hs} {n : Int} (h : (H.set T n).1 ≠ 0) : (H.set T n).2.2 = H := by
  unfold Hs.set at *
  split at h <;> rename_i h1
  · exact absurd rfl h
  · rw [if_neg h1]
theorem enSet (k : IsEe w p mo tp pre post M R ag E) (hes : ErrsAt w es) (hl : E.Lo) {n : Int} (h64 : In64 n) :
    Calls Tryz.prog 25 #[.pointer (some ⟨p, mo, none⟩), .int .i64 n] w fun e w' => ∃ Er, e = .returned Er ∧ Hid (SetR w es p mo tp pre post M R ag (E.set n) Er w') := by
  have HK := Lib.hid k
  have hSet : ∀ W, Only (fun _ => False) w W → Calls Tryz.prog 68 #[.pointer (some ⟨p, mo + 1802, none⟩), .pointer (some ⟨p, mo + 263, none⟩), .int .i64 n] W fun e w' => IsEe w' p mo tp pre post M R ag { E with H := (E.H.set E.T n).2.2 } ∧ Only (· = p) W w' ∧ (((E.H.set E.T n).1 = 0 ∧ ∃ b N, (E.H.set E.T n).2.1 = some b ∧ e = .returned (.tuple #[sbV 34 (some ⟨N, 0, none⟩) 2 2, .nilIface]) ∧ W.heap.size ≤ N ∧ Src w' (some ⟨N, 0, none⟩) 2 b) ∨ ((E.H.set E.T n).1 ≠ 0 ∧ ∃ a, ErrV es (.iface 409 (.pointer (some a))) (E.H.set E.T n).1 ∧ e = .returned (.tuple #[sbV 0 none 0 0, .iface 409 (.pointer (some a))]))) := fun W ho => by
    obtain ⟨a1, a2, a3, a4, a5, a6, a7, kk⟩ := HK.out.same ho
    refine (hsSet (hes.only ho) kk.hsAt kk.tbAt h64).mono ?_
    rintro e w' ha
    obtain ⟨h', hh⟩ := ha.out.hub
    have hoo := ha.out.only
    have k' := kk.ofHs hoo hh (fun i hi => .inl hi) (fun i hi => Nat.lt_of_lt_of_le (kk.rlt i hi) hoo.size)
    have hRR : (fun i => R i ∨ R i) = R := funext fun i => propext (or_self_iff)
    rw [hRR] at k'
    refine ⟨⟨a1, a2, h', a4, a5, a6, a7, k'⟩, hoo, ?_⟩
    rcases ha.out.way with ⟨h1, b, N, h2, _, h4, h5, h6⟩ | ⟨h1, _, Er, h3, h4⟩
    · exact .inl ⟨h1, b, N, h2, h4, h5, h6⟩
    · obtain ⟨a, rfl⟩ := h3.is_err h1
      exact .inr ⟨h1, a, h3, h4⟩
  have HO0 : Hid (∀ W, Only M w W → ErrsAt W es) := fun W ho => hes.far ho (fun i hi hm => by have := HK.out.m18 i hm; omega)
  have hkp := k.lt
  by_cases hz : (E.H.set E.T n).1 = 0
  · have hX : E.set n = (0, ({ E with H := (E.H.set E.T n).2.2 } : Ee).sendS 34 (E.H.set E.T n).2.1) := if_pos hz
    obtain ⟨H', hH'⟩ : ∃ H', H' = (E.H.set E.T n).2.2 := ⟨_, rfl⟩
    obtain ⟨b, hb⟩ : ∃ b, (E.H.set E.T n).2.1 = some b := by
      have := hz
      unfold Hs.set at *
      split at this <;> rename_i h1
      · rw [if_pos h1]; exact ⟨_, rfl⟩
      · exact absurd this h1
    rw [hb, ← hH'] at hX
    have HSt : Hid (∀ W, Only (fun _ => False) w W → Calls Tryz.prog 68 #[.pointer (some ⟨p, mo + 1802, none⟩), .pointer (some ⟨p, mo + 263, none⟩), .int .i64 n] W fun e w' => ∃ N5, e = .returned (.tuple #[.agg #[.int .i64 34, .slice (some ⟨N5, 0, none⟩) 2 2], .nilIface]) ∧ Hid (IsEe w' p mo tp pre post M R ag { E with H := H' } ∧ Only (· = p) W w' ∧ Src w' (some ⟨N5, 0, none⟩) 2 b ∧ W.heap.size ≤ N5)) := fun W ho => (hSet W ho).mono (fun e w' ⟨h1, h2, h3⟩ => by
      rw [← hH'] at h1
      rcases h3 with ⟨_, b', N, hb', he, hN, hs⟩ | ⟨h, _⟩
      · rw [hb] at hb'
        injection hb' with hb'
        subst hb'
        exact ⟨N, he, h1, h2, hs, hN⟩
      · exact absurd hz h)
    have HSd : Hid (∀ W B0 v t, IsEe W p mo tp pre post M R ag { E with H := H' } → ErrsAt W es → HTold B0 W v 34 t → Calls Tryz.prog 69 #[.pointer (some ⟨p, mo, none⟩), v] W fun e w' => e = .returned (.tuple #[]) ∧ Hid (EnGoes W.heap.size W p mo tp pre post M R ag (({ E with H := H' } : Ee).sendS 34 t) w')) := fun W B0 v t hk he hv => enSendS hk he (by have := hl.out; show E.out.length ≤ _; omega) hv
    have HX := Lib.hid hX
    obtain ⟨E2, hE2⟩ : ∃ E2, E2 = ({ E with H := H' } : Ee) := ⟨_, rfl⟩
    rw [← hE2] at HSt HSd
    clear k hes hl h64 hSet hX hz hb hH'
    rw [HX.out]
    go_enter Tryz.func25, Tryz.ntmps25
    go_upto_region 1 with fail
    apply twiceN (C := fun N N5 W7 => Hid (SbAt w W7 N [.int .i64 34, .slice (some ⟨N5, 0, none⟩) 2 2] p mo tp pre post M R ag E2 ∧ Src W7 (some ⟨N5, 0, none⟩) 2 b))
    case k =>
      intro key
      go_region_held3 (fun _ => True)
        (trivial)
        (first
          | ((with_reducible show Calls _ _ _ (World.drew w) _); (with_reducible refine (HSt.out _ (Only.refl _ _).drew).mono ?_); rintro e w5 ⟨N5, rfl, h5⟩; have hp5 : Only (· = p) w w5 := (Only.refl (· = p) w).drew.trans h5.out.2.1 (fun _ h => .inl h); have HE := Lib.hid (SbAt.first h5.out.1 hp5 (.int .i64 34) (.slice (some ⟨N5, 0, none⟩) 2 2)); have HS5 := Lib.hid (h5.out.2.2); clear hp5 h5)
          | ((with_reducible show Calls _ _ _ (World.drew (World.alloc _ _)) _); (with_reducible refine (HSt.out _ ((Only.refl _ _).alloc _).drew).mono ?_); rintro e w5 ⟨N5, rfl, h5⟩; have hp5 : Only (· = p) w w5 := (((Only.refl (· = p) w).alloc _).drew).trans h5.out.2.1 (fun _ h => .inl h); have hz := ((Blk.new w 191 [.int .i64 0, .slice none 0 0]).drew).only h5.out.2.1 (fun e => by omega); have z0 : w5.cell? ⟨w.heap.size, 0, none⟩ = some (.int .i64 0) := hz.cell 0; have z1 : w5.cell? ⟨w.heap.size, 1, none⟩ = some (.slice none 0 0) := hz.cell 1; have f0 := hz.frozen 0; have f1 := hz.frozen 1; have HE := Lib.hid (SbAt.second h5.out.1 hp5 hz HK.out (.int .i64 34) (.slice (some ⟨N5, 0, none⟩) 2 2)); have HS5 := Lib.hid (h5.out.2.2); clear hp5 h5 hz))
      all_goals (first
        | (obtain ⟨W7, hW7⟩ : ∃ W7, W7 = w5.alloc (.cells #[.int .i64 34, .slice (some ⟨N5, 0, none⟩) 2 2] 191) := ⟨_, rfl⟩
           have H7 : Hid (SbAt w W7 w5.heap.size [.int .i64 34, .slice (some ⟨N5, 0, none⟩) 2 2] p mo tp pre post M R ag E2 ∧ Src W7 (some ⟨N5, 0, none⟩) 2 b) := by rw [hW7]; exact ⟨HE.out, HS5.out.1.only ((Only.refl (fun _ => False) _).alloc _) (fun _ _ _ h => h)⟩
           rw [← hW7]
           obtain ⟨N, hN⟩ : ∃ N, N = w5.heap.size := ⟨_, rfl⟩
           rw [← hN] at H7 ⊢
           exact key N N5 W7 H7)
        | (obtain ⟨W7, hW7⟩ : ∃ W7, W7 = ((w5.setCell ⟨w.heap.size, 0, none⟩ (.int .i64 34)).setCell ⟨w.heap.size, 1, none⟩ (.slice (some ⟨N5, 0, none⟩) 2 2)) := ⟨_, rfl⟩
           have H7 : Hid (SbAt w W7 w.heap.size [.int .i64 34, .slice (some ⟨N5, 0, none⟩) 2 2] p mo tp pre post M R ag E2 ∧ Src W7 (some ⟨N5, 0, none⟩) 2 b) := by rw [hW7]; exact ⟨HE.out, HS5.out.1.only (((Only.refl (· = w.heap.size) w5).setCell (p := ⟨w.heap.size, 0, none⟩) (.inl rfl) _).setCell (p := ⟨w.heap.size, 1, none⟩) (.inl rfl) _) (fun _ ad e h => by injection e with e; subst e; have := HS5.out.2; simp at this; simp only at h; omega)⟩
           rw [← hW7]
           obtain ⟨N, hN⟩ : ∃ N, N = w.heap.size := ⟨_, rfl⟩
           rw [← hN] at H7 ⊢
           exact key N N5 W7 H7))
    case h =>
      intro N N5 W7 H7
      have HB7 := Lib.hid H7.out.1.box
      have HK7 := Lib.hid H7.out.1.is
      have HO7 := Lib.hid H7.out.1.only
      have HS7 := Lib.hid H7.out.2
      have HN7 := Lib.hid H7.out.1.new
      have HE7 : Hid (ErrsAt W7 es) := HO0.out _ (HO7.out.mono (fun i hi => .inl (hi ▸ HK.out.mp)))
      have HTd : Hid (HTold 0 (W7.alloc (.cells #[.int .i64 34, .slice (some ⟨N5, 0, none⟩) 2 2] 191)) (.slice (some ⟨W7.heap.size, 0, none⟩) 1 1) 34 (some b)) := (show One 0 _ _ 34 b from ⟨W7.heap.size, some ⟨N5, 0, none⟩, 2, 2, rfl, Nat.zero_le _, Blk.new W7 191 [.int .i64 34, .slice (some ⟨N5, 0, none⟩) 2 2], HS7.out.only ((Only.refl (fun _ => False) _).alloc _) (fun _ _ _ h => h), fun _ _ _ => Nat.zero_le _, Nat.le_refl _, by omega⟩)
      clear H7 HSt
      go_wp2_with (first
        | ((with_reducible show wpList _ _ _ (⟨some 22, .load _ _, _, _, _, _⟩ :: _) _ _); refine wpList_load_mid rfl 191 _ rfl N 0 rfl [.int .i64 34, .slice (some ⟨N5, 0, none⟩) 2 2] _ (range_of HB7.out) Tryz.underlying191 rfl size_sub ?_)
        | (go_at_call 69; (with_reducible refine (HSd.out _ 0 _ (some b) (HK7.out.same ((Only.refl _ _).alloc _)) (HE7.out.only ((Only.refl _ _).alloc _)) HTd.out).mono ?_); rintro e w9 ⟨rfl, h9⟩))
      go_ret
      have g7 : Goes w.heap.size w M R (W7.alloc (.cells #[.int .i64 34, .slice (some ⟨N5, 0, none⟩) 2 2] 191)) M R := ⟨(HO7.out.mono (fun i hi => .inl (hi ▸ HK.out.mp))).alloc _, fun _ h => .inl h, fun _ h => .inl h⟩
      refine ⟨_, rfl, ErrV.nil es, ?_⟩
      rw [← hE2]
      exact EnGoes.seq g7 (Nat.le_refl _) h9.out g7.only.size
  · have hX : E.set n = ((E.H.set E.T n).1, E) := if_neg hz
    have hbad := Hs.set_bad hz
    obtain ⟨z, hzz⟩ : ∃ z, z = (E.H.set E.T n).1 := ⟨_, rfl⟩
    rw [← hzz] at hX
    obtain ⟨H', hH'⟩ : ∃ H', H' = (E.H.set E.T n).2.2 := ⟨_, rfl⟩
    have HSt : Hid (∀ W, Only (fun _ => False) w W → Calls Tryz.prog 68 #[.pointer (some ⟨p, mo + 1802, none⟩), .pointer (some ⟨p, mo + 263, none⟩), .int .i64 n] W fun e w' => ∃ a5, e = .returned (.tuple #[.agg #[.int .i64 0, .slice none 0 0], .iface 409 (.pointer (some a5))]) ∧ Hid (IsEe w' p mo tp pre post M R ag { E with H := H' } ∧ Only (· = p) W w' ∧ ErrV es (.iface 409 (.pointer (some a5))) z)) := fun W ho => (hSet W ho).mono (fun e w' ⟨h1, h2, h3⟩ => by
      rw [← hH'] at h1
      rw [← hzz] at h3
      rcases h3 with ⟨h, _⟩ | ⟨_, a, he, hr⟩
      · exact absurd (hzz ▸ h) hz
      · exact ⟨a, hr, h1, h2, he⟩)
    have hEE : ({ E with H := H' } : Ee) = E := by rw [hH', hbad]
    have HX := Lib.hid hX
    obtain ⟨E2, hE2⟩ : ∃ E2, E2 = ({ E with H := H' } : Ee) := ⟨_, rfl⟩
    rw [← hE2] at HSt
    clear k hes hl h64 hSet hX hz hbad hzz hH'
    rw [HX.out]
    go_enter Tryz.func25, Tryz.ntmps25
    go_upto_region 1 with fail
    apply twiceE (C := fun N a5 W7 => Hid (SbAt w W7 N [.int .i64 0, .slice none 0 0] p mo tp pre post M R ag E2 ∧ ErrV es (.iface 409 (.pointer (some a5))) z))
    case k =>
      intro key
      go_region_held3 (fun _ => True)
        (trivial)
        (first
          | ((with_reducible show Calls _ _ _ (World.drew w) _); (with_reducible refine (HSt.out _ (Only.refl _ _).drew).mono ?_); rintro e w5 ⟨a5, rfl, h5⟩; have hp5 : Only (· = p) w w5 := (Only.refl (· = p) w).drew.trans h5.out.2.1 (fun _ h => .inl h); have HE := Lib.hid (SbAt.first h5.out.1 hp5 (.int .i64 0) (.slice none 0 0)); have HS5 := Lib.hid (h5.out.2.2); clear hp5 h5)
          | ((with_reducible show Calls _ _ _ (World.drew (World.alloc _ _)) _); (with_reducible refine (HSt.out _ ((Only.refl _ _).alloc _).drew).mono ?_); rintro e w5 ⟨a5, rfl, h5⟩; have hp5 : Only (· = p) w w5 := (((Only.refl (· = p) w).alloc _).drew).trans h5.out.2.1 (fun _ h => .inl h); have hz := ((Blk.new w 191 [.int .i64 0, .slice none 0 0]).drew).only h5.out.2.1 (fun e => by omega); have z0 : w5.cell? ⟨w.heap.size, 0, none⟩ = some (.int .i64 0) := hz.cell 0; have z1 : w5.cell? ⟨w.heap.size, 1, none⟩ = some (.slice none 0 0) := hz.cell 1; have f0 := hz.frozen 0; have f1 := hz.frozen 1; have HE := Lib.hid (SbAt.second h5.out.1 hp5 hz HK.out (.int .i64 0) (.slice none 0 0)); have HS5 := Lib.hid (h5.out.2.2); clear hp5 h5 hz))
      all_goals (first
        | (obtain ⟨W7, hW7⟩ : ∃ W7, W7 = w5.alloc (.cells #[.int .i64 0, .slice none 0 0] 191) := ⟨_, rfl⟩
           have H7 : Hid (SbAt w W7 w5.heap.size [.int .i64 0, .slice none 0 0] p mo tp pre post M R ag E2 ∧ ErrV es (.iface 409 (.pointer (some a5))) z) := by rw [hW7]; exact ⟨HE.out, HS5.out⟩
           rw [← hW7]
           obtain ⟨N, hN⟩ : ∃ N, N = w5.heap.size := ⟨_, rfl⟩
           rw [← hN] at H7 ⊢
           exact key N a5 W7 H7)
        | (obtain ⟨W7, hW7⟩ : ∃ W7, W7 = ((w5.setCell ⟨w.heap.size, 0, none⟩ (.int .i64 0)).setCell ⟨w.heap.size, 1, none⟩ (.slice none 0 0)) := ⟨_, rfl⟩
           have H7 : Hid (SbAt w W7 w.heap.size [.int .i64 0, .slice none 0 0] p mo tp pre post M R ag E2 ∧ ErrV es (.iface 409 (.pointer (some a5))) z) := by rw [hW7]; exact ⟨HE.out, HS5.out⟩
           rw [← hW7]
           obtain ⟨N, hN⟩ : ∃ N, N = w.heap.size := ⟨_, rfl⟩
           rw [← hN] at H7 ⊢
           exact key N a5 W7 H7))
    case h =>
      intro N a5 W7 H7
      have HK7 := Lib.hid H7.out.1.is
      have HO7 := Lib.hid H7.out.1.only
      have HS7 := Lib.hid H7.out.2
      clear H7 HSt
      go_wp2
      go_ret
      refine ⟨_, rfl, HS7.out, ?_⟩
      have hk := HK7.out
      rw [hE2, hEE] at hk
      exact EnGoes.own HK.out hk HO7.out
end
end Go.Proofs.YtbnfhklpobephaaGreatDoor
