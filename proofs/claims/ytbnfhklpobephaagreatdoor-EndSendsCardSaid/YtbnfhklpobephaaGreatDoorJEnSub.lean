/- Several texts in one. -/
import Derived.Test.YtbnfhklpobephaaGreatDoorJHsHear
import Derived.Test.YtbnfhklpobephaaGreatDoorEnHearV
import Derived.Test.YtbnfhklpobephaaGreatDoorJHsNew
/- What comes of a subnegotiation at an end. -/
namespace Go.Proofs.YtbnfhklpobephaaGreatDoor
open Go Go.RowKit
set_option maxRecDepth 100000
set_option maxHeartbeats 4000000

/-- An error changes nothing. -/
theorem Hs.hear_bad {T : Tb} {H : Hs} {kind opt : Int} {cut : Bool} {b : List UInt8} (h : (H.hear T kind opt cut b).1 ≠ 0) : (H.hear T kind opt cut b).2.2 = H := by
  unfold Hs.hear at *
  split at h <;> rename_i h1
  · rw [if_pos h1]
  rw [if_neg h1]
  split at h <;> rename_i h2
  · rw [if_pos h2]
  rw [if_neg h2]
  split at h <;> rename_i h3
  · rw [if_pos h3]
    unfold Hs.hearSize at *
    exact if_neg h
  rw [if_neg h3]
  split at h <;> rename_i h4
  · rw [if_pos h4]
    unfold Hs.hearType at *
    split at h <;> rename_i h5
    · rw [if_pos h5]
    · split at h <;> exact absurd rfl h
  rw [if_neg h4]
  split at h <;> rename_i h5
  · rw [if_pos h5]
    unfold Hs.hearStat at *
    simp only at h ⊢
    split at h <;> rename_i h6
    · rw [if_pos h6]
    · split at h <;> rename_i h7
      · split at h <;> rename_i h8
        · exact absurd rfl h
        · rw [if_neg h6, if_pos h7, if_neg h8]
      · exact absurd rfl h
  rw [if_neg h5]
  split at h <;> rename_i h6
  · rw [if_pos h6]
    unfold Hs.hearLines at *
    cases b with
    | nil => rfl
    | cons x r =>
      simp only at h ⊢
      split at h <;> rename_i h7
      · rw [if_pos h7]
        unfold Hs.hearMode at *
        split at h <;> rename_i h8
        · split at h <;> rename_i h9
          · exact absurd rfl h
          · rw [if_pos h8, if_neg h9]
        · split at h <;> rename_i h9
          · split at h <;> rename_i h10
            · exact absurd rfl h
            · rw [if_neg h8, if_pos h9, if_neg h10]
          · rw [if_neg h8, if_neg h9]
      rw [if_neg h7]
      split at h <;> rename_i h8
      · rw [if_pos h8]
        unfold Hs.hearChars at *
        split at h <;> rename_i h9
        · rw [if_pos h9]
        rw [if_neg h9]
        split at h <;> rename_i h10
        · rw [if_pos h10]
        rw [if_neg h10]
        split at h <;> rename_i h11
        · rw [if_pos h11]
        · exact absurd rfl h
      rw [if_neg h8]
      split at h <;> rename_i h9
      · rw [if_pos h9]
        unfold Hs.hearMask at *
        simp only at h ⊢
        split at h <;> rename_i h10
        · rw [if_pos h10]
        · split at h <;> exact absurd rfl h
      · rw [if_neg h9]
  · rw [if_neg h6]
section
variable {w : World} {es : List Addr} {p mo : Nat} {tp : TypeId} {pre post : List Value} {M R : Nat → Prop} {ag : Nat → Nat → Bool} {E : Ee} {A : Option Addr} {n c : Nat} {code opt : Int} {cut : Bool} {b : List UInt8}
theorem enSub (k : IsEe w p mo tp pre post M R ag E) (hes : ErrsAt w es) (hbd : E.out.length ≤ 100000) (hs : Src w A n b) (hn : n ≤ 256) (hnc : n ≤ c) (hcap : c ≤ 9223372036854775807) :
    HearsE 117 w p mo tp pre post M R ag (tkV 4 code opt A n c cut) ((E.hearSub opt cut b).1, [], (E.hearSub opt cut b).2) := by
  have HK := Lib.hid k
  have HD := Lib.hid (fun W => enDropped W 4 code opt A n c cut)
  obtain ⟨r, hr⟩ : ∃ r, r = E.H.hear E.T 4 opt cut b := ⟨_, rfl⟩
  have HHe : Hid (∀ W, Only (fun _ => False) w W → Calls Tryz.prog 164 #[.pointer (some ⟨p, mo + 1802, none⟩), .pointer (some ⟨p, mo + 263, none⟩), tkV 4 code opt A n c cut] W fun e w' => ∃ v E', e = .returned (.tuple #[v, E']) ∧ Hid (ErrV es E' r.1 ∧ HTold W.heap.size w' v opt r.2.1 ∧ EnGoes W.heap.size W p mo tp pre post M R ag { E with H := r.2.2 } w' ∧ ErrsAt w' es)) := fun W ho => by
    obtain ⟨a1, a2, a3, a4, a5, a6, a7, kk⟩ := HK.out.same ho
    refine (hsHear (hes.only ho) kk.hsAt kk.tbAt (hs.only ho (fun _ _ _ h => h)) hn hnc hcap 4 code opt cut).mono ?_
    rintro e w' ⟨v, E', rfl, ha⟩
    have ha := ha.out
    rw [← hr] at ha
    exact ⟨v, E', rfl, ha.err, ha.told, kk.ofAns ha, (hes.only ho).far ha.only (fun i hi e => by have := kk.p18; omega)⟩
  have HSd : Hid (∀ W M R B0 v t H', IsEe W p mo tp pre post M R ag { E with H := H' } → ErrsAt W es → HTold B0 W v opt t → Calls Tryz.prog 69 #[.pointer (some ⟨p, mo, none⟩), v] W fun e w' => e = .returned (.tuple #[]) ∧ Hid (EnGoes W.heap.size W p mo tp pre post M R ag (({ E with H := H' } : Ee).sendS opt t) w')) := fun W M R B0 v t H' hk he hv => enSendS hk he hbd hv
  obtain ⟨X, hX⟩ : ∃ X, X = E.hearSub opt cut b := ⟨_, rfl⟩
  rw [← hX]
  unfold Ee.hearSub at hX
  rw [← hr] at hX
  have hbad : r.1 ≠ 0 → r.2.2 = E.H := fun h => by rw [hr] at h ⊢; exact Hs.hear_bad h
  have hbk : Blk (w.alloc (.cells (tkL 4 code opt A n c cut).toArray 178)) w.heap.size 178 (tkL 4 code opt A n c cut) := Blk.new w _ _
  have HBk := Lib.hid hbk
  obtain ⟨z, t, H'⟩ := r
  simp only at HHe hbad hX
  have HO0 : Hid (Only (fun _ => False) w (w.alloc (.cells (tkL 4 code opt A n c cut).toArray 178))) := (Only.refl _ _).alloc _
  have HZ0 : Hid ((w.alloc (.cells (tkL 4 code opt A n c cut).toArray 178)).heap.size = w.heap.size + 1) := by show _ = _; simp
  have HX := Lib.hid hX
  have HBad := Lib.hid hbad
  clear k hes hr hbd hs hn hnc hcap hX hbad hbk
  go_enter Tryz.func117, Tryz.ntmps117
  go_wp2
  obtain ⟨w1, hw1⟩ : ∃ w1, w1 = w.alloc (.cells (tkL 4 code opt A n c cut).toArray 178) := ⟨_, rfl⟩
  have hw1' : w.alloc (.cells #[.int .i64 4, .int .i64 code, .int .i64 opt, .slice A n c, .bool cut] 178) = w1 := hw1.symm
  rw [← hw1] at HBk HO0 HZ0
  try rw [hw1']
  clear hw1 hw1'
  have HS : Hid (∀ W, Only M w1 W → ((W.cell? ⟨w.heap.size, 0, none⟩ = some (.int .i64 4) ∧ W.cell? ⟨w.heap.size, 1, none⟩ = some (.int .i64 code)) ∧ W.cell? ⟨w.heap.size, 2, none⟩ = some (.int .i64 opt)) ∧ W.cell? ⟨w.heap.size, 3, none⟩ = some (.slice A n c) ∧ W.cell? ⟨w.heap.size, 4, none⟩ = some (.bool cut)) := fun W ho => by
    have hb := HBk.out.only ho (fun hm => by have := HK.out.mlt _ hm; omega)
    exact ⟨⟨⟨hb.cell 0, hb.cell 1⟩, hb.cell 2⟩, hb.cell 3, hb.cell 4⟩
  go_region_held3 (fun W => ((W.cell? ⟨w.heap.size, 0, none⟩ = some (.int .i64 4) ∧ W.cell? ⟨w.heap.size, 1, none⟩ = some (.int .i64 code)) ∧ W.cell? ⟨w.heap.size, 2, none⟩ = some (.int .i64 opt)) ∧ W.cell? ⟨w.heap.size, 3, none⟩ = some (.slice A n c) ∧ W.cell? ⟨w.heap.size, 4, none⟩ = some (.bool cut))
    (first | exact HS.out _ (Only.refl _ _).drew | exact HS.out _ HO2.out)
    (first | (go_at_call 164; (with_reducible refine (HHe.out _ HO0.out.drew).mono ?_); rintro e w2 ⟨v2, E2, rfl, h2⟩; obtain ⟨q1, q2, q3, q4⟩ := h2.out; have HQ1 := Lib.hid q1; have HQ2 := Lib.hid q2; have HQ3 := Lib.hid q3; have HQ4 := Lib.hid q4; have HO2 : Hid (Only M w1 w2) := (by obtain ⟨M2, R2, k2, g2⟩ := q3; exact (Only.mono (T := M) ((Only.refl (fun _ => False) w1).drew) (fun _ h => h.elim)).trans g2.only (fun _ h => .inl h)); have hw2 := q1.ways; clear q1 q2 q3 q4 h2))
  rcases hw2 with ⟨hz0, rfl⟩ | ⟨hz1, a2, rfl⟩
  · obtain ⟨M2, R2, k2, g2⟩ := HQ3.out
    have HK2 := Lib.hid k2
    have HG2 := Lib.hid g2
    clear k2 g2
    go_wp2_with (go_at_call 69; (with_reducible refine (HSd.out _ _ _ _ _ _ _ HK2.out HQ4.out HQ2.out).mono ?_); rintro e w3 ⟨rfl, h3⟩)
    go_ret2
    have hX : X = ((({ E with H := H' } : Ee).sendS opt t), []) := by rw [HX.out, if_pos hz0]
    have hg := HG2.out
    have h1 : EnGoes w1.drew.heap.size w1.drew p mo tp pre post M R ag (({ E with H := H' } : Ee).sendS opt t) w3 := EnGoes.seq hg (Nat.le_refl _) h3.out hg.only.size
    have hz := HZ0.out
    refine ⟨_, _, rfl, ⟨?_, noDat _ _, ?_⟩⟩
    · rw [hX]
      exact EnGoes.low (EnGoes.from_ h1 HO0.out.drew) (by show w.heap.size ≤ w1.heap.size; omega)
    · rw [hX]
      exact noNts _ _
  · have c0 := (HS.out _ HO2.out).1.1.1
    have c1 := (HS.out _ HO2.out).1.1.2
    have c2 := (HS.out _ HO2.out).1.2
    have c3 := (HS.out _ HO2.out).2.1
    have c4 := (HS.out _ HO2.out).2.2
    go_wp2_with (go_at_call 165; (with_reducible refine (HD.out _).mono ?_); rintro e w3 ⟨N, rfl, hb, hN, ho⟩)
    go_ret2
    have hX : X = (E, [⟨5, 0, 0, opt, false⟩]) := by rw [HX.out, if_neg hz1]
    have hz := HZ0.out
    have hl2 : w1.heap.size ≤ w2.heap.size := HO2.out.size
    refine ⟨_, _, rfl, ⟨?_, noDat _ _, ?_⟩⟩
    · rw [hX]
      have h1 := HQ3.out
      rw [HBad.out hz1] at h1
      exact EnGoes.then_ (EnGoes.low (EnGoes.from_ h1 HO0.out.drew) (by show w.heap.size ≤ w1.heap.size; omega)) ho.out
    · rw [hX]
      exact oneNts hb.out (by omega)
end
end Go.Proofs.YtbnfhklpobephaaGreatDoor
/- A byte comes to an end. -/
namespace Go.Proofs.YtbnfhklpobephaaGreatDoor
open Go Go.RowKit
set_option maxRecDepth 100000
set_option maxHeartbeats 4000000

@[reducible] def hearCs : List Value := [.nilFunc, .func (.func 114) #[] #[], .func (.func 115) #[] #[], .func (.func 116) #[] #[], .func (.func 117) #[] #[], .func (.func 118) #[] #[]]
theorem enHearings (w : World) : Calls Tryz.prog 63 #[] w fun e w' => e = .returned (.agg hearCs.toArray) ∧ Hid (Only (fun _ => False) w w') := by
  go_enter Tryz.func63, Tryz.ntmps63
  go_wp2_with (first
    | ((with_reducible show wpList _ _ _ (⟨none, .store 183 _ _, _, _, _, _⟩ :: _) _ _); refine step_store rfl 183 _ _ rfl w.heap.size rfl hearCs rfl _ [.nilFunc, .nilFunc, .nilFunc, .nilFunc, .nilFunc, .nilFunc] (Blk.new _ _ _) (by kernel_rfl) rfl (fun v hv => by simp at hv; rcases hv with rfl | rfl | rfl | rfl | rfl | rfl <;> rfl) ?_; intro w4 hB4 hz4 ho4))
  refine ret_cell1 rfl w.heap.size rfl _ hearCs _ hB4.out Tryz.underlying183 rfl (by kernel_rfl) rfl ?_
  exact ⟨rfl, ((Only.refl _ _).alloc _).trans ho4 (fun i hi => .inr (by omega))⟩

/-- A verb that a machine has read is one. -/
def VOk (m : Ms) : Prop := m.st = 2 → ∃ v : Nat, m.verb = (v : Int) ∧ 251 ≤ v ∧ v ≤ 254
theorem VOk.zero : VOk Ms.zero := fun h => by cases h
def TkIn (t : Tk) : Prop := (t.kind = 1 ∧ ∃ x : UInt8, t.code = (x.toNat : Int)) ∨ t.kind = 2 ∨ (t.kind = 3 ∧ ∃ v o : Nat, t.code = (v : Int) ∧ (251 ≤ v ∧ v ≤ 254) ∧ t.opt = (o : Int) ∧ o < 256) ∨ t.kind = 4 ∨ t.kind = 5
theorem feed_vok {m : Ms} (h : VOk m) (c : UInt8) : VOk (feed m c).1 ∧ ∀ t, (feed m c).2 = some t → TkIn t := by
  have hc := c.toNat_lt
  unfold feed
  split
  · repeat' split
    · exact ⟨VOk.zero, fun t ht => by injection ht with ht; subst ht; exact .inl ⟨rfl, 255, rfl⟩⟩
    · exact ⟨fun h => (by cases h), fun t ht => by cases ht⟩
    · exact ⟨fun _ => ⟨c.toNat, rfl, by omega, by omega⟩, fun t ht => by cases ht⟩
    · exact ⟨VOk.zero, fun t ht => by injection ht with ht; subst ht; exact .inr (.inl rfl)⟩
  · rename_i h2
    obtain ⟨v, h3, h4, h5⟩ := h h2
    exact ⟨VOk.zero, fun t ht => by injection ht with ht; subst ht; exact .inr (.inr (.inl ⟨rfl, v, c.toNat, h3, ⟨h4, h5⟩, rfl, by omega⟩))⟩
  · exact ⟨fun h => (by cases h), fun t ht => by cases ht⟩
  · split
    · exact ⟨fun h => (by cases h), fun t ht => by cases ht⟩
    · exact ⟨fun h => (by cases h), fun t ht => by cases ht⟩
  · repeat' split
    · exact ⟨fun h => (by cases h), fun t ht => by cases ht⟩
    · exact ⟨VOk.zero, fun t ht => by injection ht with ht; subst ht; exact .inr (.inr (.inr (.inl rfl)))⟩
    · exact ⟨VOk.zero, fun t ht => by injection ht with ht; subst ht; exact .inr (.inr (.inr (.inr rfl)))⟩
  · split
    · exact ⟨fun h => (by cases h), fun t ht => by cases ht⟩
    · exact ⟨VOk.zero, fun t ht => by injection ht with ht; subst ht; exact .inl ⟨rfl, c, rfl⟩⟩
theorem feed9_vok {k : Cl} (h : VOk k.m) (x : Bt) : VOk (feed9 k x).1.m ∧ ∀ t, (feed9 k x).2 = some t → TkIn t := by
  have h1 := feed_vok h x.c
  unfold feed9
  cases hf : feed k.m x.c with
  | mk m o =>
    rw [hf] at h1
    cases o with
    | none => exact ⟨h1.1, fun t ht => by cases ht⟩
    | some t =>
      refine ⟨h1.1, fun t' ht => ?_⟩
      simp only at ht
      split at ht
      · injection ht with ht
        subst ht
        exact h1.2 _ rfl
      · cases ht
theorem feed9_ok {k : Cl} (h : k.m.Ok) (x : Bt) : ∀ t, (feed9 k x).2 = some t → t.body.length ≤ 256 := by
  have h1 := (feed_ok h x.c).2.2
  unfold feed9
  cases hf : feed k.m x.c with
  | mk m o =>
    rw [hf] at h1
    cases o with
    | none => exact fun t ht => by cases ht
    | some t =>
      refine fun t' ht => ?_
      simp only at ht
      split at ht
      · injection ht with ht
        subst ht
        exact h1 _ rfl
      · cases ht
/-- A byte's token, laid behind the calls or ahead of one. -/
structure FdAt (w w7 : World) (N : Nat) (A : Option Addr) (c : Nat) (t : Tk) (p mo : Nat) (tp : TypeId) (pre post : List Value) (M R : Nat → Prop) (ag : Nat → Nat → Bool) (E : Ee) : Prop where
  box : Blk w7 N 178 (tkL t.kind t.code t.opt A t.body.length c t.cut)
  new : w.heap.size ≤ N
  is : IsEe w7 p mo tp pre post M R ag E
  only : Only (· = p) w w7
  body : Body w7 w.heap.size (.slice A t.body.length c) t.body
/-- What a feed leaves. -/
structure FdR (w w5 : World) (A : Option Addr) (c : Nat) (t : Tk) (p mo : Nat) (tp : TypeId) (pre post : List Value) (M R : Nat → Prop) (ag : Nat → Nat → Bool) (E : Ee) : Prop where
  is : IsEe w5 p mo tp pre post M R ag E
  only : Only (· = p) w w5
  body : Body w5 w.heap.size (.slice A t.body.length c) t.body
@[reducible] def tkZ : List Value := [.int .i64 0, .int .i64 0, .int .i64 0, .slice none 0 0, .bool false]
section
variable {w w1 w5 : World} {es : List Addr} {p mo : Nat} {tp : TypeId} {pre post : List Value} {M R : Nat → Prop} {ag : Nat → Nat → Bool} {E : Ee} {A : Option Addr} {n c N : Nat} {cut : Bool} {t : Tk}
theorem FdAt.first (k : FdR w w5 A c t p mo tp pre post M R ag E) : FdAt w (w5.alloc (.cells #[.int .i64 t.kind, .int .i64 t.code, .int .i64 t.opt, .slice A t.body.length c, .bool t.cut] 178)) w5.heap.size A c t p mo tp pre post M R ag E :=
  ⟨Blk.new w5 _ (tkL t.kind t.code t.opt A t.body.length c t.cut), k.only.size, k.is.same ((Only.refl _ _).alloc _), k.only.alloc _, own_same k.body ((Only.refl _ _).alloc _)⟩
theorem FdAt.second (k : FdR w w5 A c t p mo tp pre post M R ag E) (hz : Blk w5 N 178 tkZ) (hN : w.heap.size ≤ N) {E' : Ee} (hk : IsEe w p mo tp pre post M R ag E') : FdAt w (((((w5.setCell ⟨N, 0, none⟩ (.int .i64 t.kind)).setCell ⟨N, 1, none⟩ (.int .i64 t.code)).setCell ⟨N, 2, none⟩ (.int .i64 t.opt)).setCell ⟨N, 3, none⟩ (.slice A t.body.length c)).setCell ⟨N, 4, none⟩ (.bool t.cut)) N A c t p mo tp pre post M R ag E := by
  have h := (((((Only.refl (· = N) w5).setCell (p := ⟨N, 0, none⟩) (.inl rfl) (.int .i64 t.kind)).setCell (p := ⟨N, 1, none⟩) (.inl rfl) (.int .i64 t.code)).setCell (p := ⟨N, 2, none⟩) (.inl rfl) (.int .i64 t.opt)).setCell (p := ⟨N, 3, none⟩) (.inl rfl) (.slice A t.body.length c)).setCell (p := ⟨N, 4, none⟩) (.inl rfl) (.bool t.cut)
  exact ⟨((((hz.setCell 0 _).setCell 1 _).setCell 2 _).setCell 3 _).setCell 4 _, hN, k.is.far h (fun i hi e => by have := hk.mlt i hi; omega) (fun i hi e => by have := hk.rlt i hi; omega), k.only.trans h (fun i hi => .inr (by omega)), own_only k.body h (fun g hg e => own_ne k.body hz (by decide) g hg e)⟩
theorem FedR.from_ {w2 w' : World} {r : Ee × List UInt8 × List Nt} {v1 v2 : Value} (g : Goes w.heap.size w M R w2 M R) (h : FedR w2.heap.size w2 p mo tp pre post M R ag r v1 v2 w') : FedR w.heap.size w p mo tp pre post M R ag r v1 v2 w' := by
  have hz := g.only.size
  refine ⟨EnGoes.seq g (Nat.le_refl _) h.en hz, ?_, ?_⟩
  · obtain ⟨A, n, c, h1, h2, h3⟩ := h.dat
    exact ⟨A, n, c, h1, h2, fun h0 ad e => Nat.le_trans hz (h3 h0 ad e)⟩
  · obtain ⟨A, n, c, h1, h2, h3, h4⟩ := h.nts
    exact ⟨A, n, c, h1, h2, h3, fun h0 ad e => Nat.le_trans hz (h4 h0 ad e)⟩
theorem twiceT {P : Prop} {C G : Nat → Option Addr → Nat → World → Prop} (k : (∀ N A c W, C N A c W → G N A c W) → P) (h : ∀ N A c W, C N A c W → G N A c W) : P := k h
end
end Go.Proofs.YtbnfhklpobephaaGreatDoor
/- end.New: an end on which nothing has happened. -/
namespace Go.Proofs.YtbnfhklpobephaaGreatDoor
open Go Go.RowKit
set_option maxRecDepth 100000
set_option maxHeartbeats 4000000

/-! A part of a struct that is built. -/
theorem fill_go (off : Nat) : ∀ (l mid : List Value) (k : Nat) (pre post : List Value), mid.length = l.length → pre.length = off + k →
    (l.zipIdx k).foldl (fun (cs : Array Value) (p : Value × Nat) => cs.setIfInBounds (off + p.2) p.1) (pre ++ (mid ++ post)).toArray = (pre ++ (l ++ post)).toArray
  | [], mid, k, pre, post, h, _ => by
    obtain rfl : mid = [] := List.eq_nil_of_length_eq_zero h
    rfl
  | c :: l, [], k, pre, post, h, _ => by simp at h
  | c :: l, m :: mid, k, pre, post, h, hp => by
    rw [List.zipIdx_cons, List.foldl_cons, List.setIfInBounds_toArray]
    have e : (pre ++ (m :: mid ++ post)).set (off + k) c = (pre ++ [c]) ++ (mid ++ post) := by
      rw [List.set_append_right _ _ (by omega), show off + k - pre.length = 0 from by omega]
      simp
    rw [e, fill_go off l mid (k + 1) (pre ++ [c]) post (by simpa using h) (by simp; omega)]
    simp
theorem fill_part (place : Nat → Option (Nat × Nat)) (i off : Nat) (pre l mid post : List Value) (rest : List (Nat × Value)) (hp : place i = some (off, l.length)) (hpre : pre.length = off) (hm : mid.length = l.length) :
    Instr.fill place (pre ++ (mid ++ post)).toArray ((i, .agg l.toArray) :: rest) = Instr.fill place (pre ++ (l ++ post)).toArray rest := by
  have e : (Value.agg l.toArray).cells = l.toArray := rfl
  have hg := fill_go off l mid 0 pre post hm (by omega)
  conv => lhs; unfold Instr.fill
  rw [hp]
  simp only [e]
  rw [if_neg (by simp; omega)]
  have e2 : (Array.foldl (fun cs (x : Value × Nat) => match x with | (c, j) => cs.setIfInBounds (off + j) c) (pre ++ (mid ++ post)).toArray l.toArray.zipIdx) = (pre ++ (l ++ post)).toArray := by
    rw [← hg, ← Array.foldl_toList, Array.toList_zipIdx]
  exact congrArg (fun x => Instr.fill place x rest) e2
/-! An end's zero. -/
@[reducible] def tail0 : List Value := [.slice none 0 0, .int .i64 0, .int .i64 0, .int .i64 0]
def clZ : List Value := msCells Ms.zero (List.replicate 256 (.int .u8 0)) ++ [.bool false, .bool false]
noncomputable def hbZ : List Value := (((Tryz.prog.info? 122).bind (·.zero)).map (fun v => v.cells.toList)).getD []
theorem hbZ_length : hbZ.length = 145 := by kernel_rfl
theorem clZ_c : ClC clZ Cl.zero := ⟨Ms.zero_ok, _, rfl, by simp; rfl, fun v hv => by rw [List.eq_of_mem_replicate hv]; rfl⟩
theorem zero_end : (Tryz.prog.info? 132).map (fun i => i.zero.map Value.cells) = some (some (clZ ++ (tb0 ++ (hbZ ++ tail0))).toArray) := by kernel_rfl
theorem built_end {tcs hcs : List Value} (ht : tcs.length = 1539) (hh : hcs.length = 145) :
    Tryz.prog.built 132 [(1, .agg tcs.toArray), (2, .agg hcs.toArray)] = some (clZ ++ (tcs ++ (hcs ++ tail0))).toArray := by
  have hz := zero_end
  have hc := clZ_c.len
  unfold Program.built
  cases hi : Tryz.prog.info? 132 with
  | none => rw [hi] at hz; cases hz
  | some it =>
    rw [hi] at hz
    simp only [Option.map_some, Option.some.injEq] at hz
    cases hv : it.zero with
    | none => rw [hv] at hz; cases hz
    | some z =>
      rw [hv] at hz
      simp only [Option.map_some, Option.some.injEq] at hz
      obtain ⟨fs, hu, hpl⟩ : ∃ fs, Tryz.prog.underlying 132 = some (.struct fs) ∧ fs.toList.mapM (fun f => (Tryz.prog.info? f.type).map fun i => (f.offset, i.size)) = some [(0, 263), (263, 1539), (1802, 145), (1947, 1), (1948, 1), (1949, 1), (1950, 1)] := ⟨_, Tryz.underlying132, by kernel_rfl⟩
      rw [hu]
      simp only [hv, hpl, hz]
      rw [fill_part _ 1 263 clZ tcs tb0 _ _ (by rw [ht]; rfl) hc (by rw [ht, tb0_length])]
      have h2 := fill_part (fun x => ([(0, 263), (263, 1539), (1802, 145), (1947, 1), (1948, 1), (1949, 1), (1950, 1)] : List (Nat × Nat)).toArray[x]?) 2 1802 (clZ ++ tcs) hcs hbZ tail0 [] (by rw [hh]; rfl) (by rw [List.length_append, hc, ht]) (by rw [hh, hbZ_length])
      simp only [List.append_assoc] at h2
      rw [h2]
      rfl
theorem HsIs.at_ {w : World} {B q p : Nat} {h : Hb} {H : Hs} (k : HsIs w q (fun i => B ≤ i ∧ i < q) h H) (hp : q < p) : HsIs w p (fun i => B ≤ i ∧ i < q) h H := by
  obtain ⟨N, z1, z2, z3, z4⟩ := k.sz
  obtain ⟨A, c, c1, c2, c3⟩ := k.cy
  obtain ⟨M, o1, o2, o3, o4⟩ := k.ho
  obtain ⟨B, n, d, r1, r2, r3, r4⟩ := k.rep
  exact { k with sz := ⟨N, z1, z2, z3, by omega⟩, cy := ⟨A, c, c1, c2, fun ad e => ⟨(c3 ad e).1, by have := (c3 ad e).1; omega⟩⟩, ho := ⟨M, o1, o2, o3, by omega⟩, rep := ⟨B, n, d, r1, r2, r3, fun ad e h0 => ⟨(r4 ad e h0).1, by have := (r4 ad e h0).1; omega⟩⟩ }
/-- A new end. -/
theorem enZero {w w3 : World} {p q1 B : Nat} {h : Hb} {H : Hs} {tcs : List Value} {ag : Nat → Nat → Bool} (hw : w = w3.alloc (.cells (clZ ++ (tcs ++ (h.cs ++ tail0))).toArray 132)) (hp : p = w3.heap.size) (hb : HuAt w3 q1 0 122 [] [] h) (hi : HsIs w3 q1 (fun i => B ≤ i ∧ i < q1) h H) (ht : TbC 0 [] [] tcs ag Tb.zero) (h18 : 18 ≤ p) :
    IsEe w p 0 132 [] [] (· = p) (fun i => B ≤ i ∧ i < q1) ag (Ee.zero H) := by
  have hq := hb.lt
  have hz : w.heap.size = p + 1 := by rw [hw, hp]; simp
  have ho : Only (fun _ => False) w3 w := by rw [hw]; exact (Only.refl _ _).alloc _
  refine ⟨clZ, tcs, h, none, 0, 0, [], ?_⟩
  refine { blk := ⟨?_, rfl⟩, cl := clZ_c, tb := ht, ok := hb.ok, is := ?_, row := own_nil _ _ _ _, len := rfl, out := rfl, pcs := fun x hx => (List.not_mem_nil hx).elim, own := fun g hg => (by simp [Value.ownBlock] at hg), m18 := fun i hi => (by omega), mp := rfl, mlt := fun i hi => (by omega), rlt := fun i hi => (by omega), dis := fun i hi e => (by omega), tpu := (by decide), tpt := (by decide) }
  · rw [hw, hp, List.nil_append, List.append_nil]
    exact Blk.new w3 132 (clZ ++ (tcs ++ (h.cs ++ tail0)))
  · exact (hi.same ho).at_ (by omega)
end Go.Proofs.YtbnfhklpobephaaGreatDoor
/- end.New. -/
namespace Go.Proofs.YtbnfhklpobephaaGreatDoor
open Go Go.RowKit
set_option maxRecDepth 100000
set_option maxHeartbeats 4000000

theorem rng_at {w : World} {q : Nat} {t : TypeId} {cs part : List Value} (h : Blk w q t cs) (o : Nat) (hp : (cs.drop o).take part.length = part) : w.rangeAt q o part := fun j v hj => by
  rw [h.cell, ← List.getElem?_drop]
  have hl := (List.getElem?_eq_some_iff.1 hj).1
  rw [← hp, List.getElem?_take_of_lt hl] at hj
  exact hj
section
variable {w : World} {es : List Addr} {cc cr can : Int} {A B A1 A2 : Option Addr} {n cA m cB n1 c1 n2 c2 : Nat} {ts : List (List UInt8)} {l : List Se} {us hims : List Int}
@[reducible] def ecC (A1 : Option Addr) (n1 c1 : Nat) (A2 : Option Addr) (n2 c2 : Nat) (cc cr : Int) (A : Option Addr) (n cA : Nat) (B : Option Addr) (m cB : Nat) (can : Int) : List Value := [.slice A1 n1 c1, .slice A2 n2 c2, .int .i64 cc, .int .i64 cr, .slice A n cA, .slice B m cB, .int .i64 can]
theorem size_ec : (Tryz.prog.info? 32).map (·.size) = some 7 := by kernel_rfl
theorem size_sc : (Tryz.prog.info? 30).map (·.size) = some 5 := by kernel_rfl
theorem size_pol : (Tryz.prog.info? 24).map (·.size) = some 2 := by kernel_rfl
theorem enNew_bad (hE : ErrsAt w es) (hts : TSrc w A n ts) (hb : cfGood cc cr ts = false) :
    Calls Tryz.prog 9 #[.agg (ecC A1 n1 c1 A2 n2 c2 cc cr A n cA B m cB can).toArray] w fun e w' => ∃ a, e = .returned (.tuple #[.pointer none, .iface 409 (.pointer (some a))]) ∧ Hid (Only (fun _ => False) w w') := by
  have HN := Lib.hid (fun W (ho : Only (fun _ => False) w W) => snNew_bad (cc := cc) (cr := cr) (can := can) (cA := cA) (B := B) (m := m) (cB := cB) (hE.only ho) (hts.same ho) hb)
  have HBk := Lib.hid (Blk.new w 32 (ecC A1 n1 c1 A2 n2 c2 cc cr A n cA B m cB can))
  clear hE hts hb
  go_enter Tryz.func9, Tryz.ntmps9
  go_wp2_with (first
    | ((with_reducible show wpList _ _ _ (⟨some 8, .load _ _, _, _, _, _⟩ :: _) _ _); refine wpList_load_mid rfl 30 _ rfl w.heap.size 2 rfl (cfC cc cr A n cA B m cB can) _ (rng_at HBk.out 2 rfl) Tryz.underlying30 rfl size_sc ?_)
    | (go_at_call 35; (with_reducible refine (HN.out _ ((Only.refl _ _).alloc _)).mono ?_); rintro e w1 ⟨a, rfl, ho1⟩; have HO1 : Hid (Only (fun _ => False) w w1) := ((Only.refl _ _).alloc _).trans ho1.out (fun _ h => h.elim); clear ho1))
  go_ret2
  exact ⟨a, rfl, HO1.out⟩
theorem enNew_ok (hu : Ints w A1 n1 us) (hh : Ints w A2 n2 hims) (hn1 : n1 ≤ 1000) (hn2 : n2 ≤ 1000) (hts : TSrc w A n ts) (hst : StAt w B m l) (hm : m ≤ cB) (hcB : cB ≤ 9223372036854775807) (hg : cfGood cc cr ts = true) (h18 : 18 ≤ w.heap.size) :
    Calls Tryz.prog 9 #[.agg (ecC A1 n1 c1 A2 n2 c2 cc cr A n cA B m cB can).toArray] w fun e w' => ∃ p q, e = .returned (.tuple #[.pointer (some ⟨p, 0, none⟩), .nilIface]) ∧ Hid (IsEe w' p 0 132 [] [] (· = p) (fun i => w.heap.size + 1 ≤ i ∧ i < q) (agOf us hims) (Ee.zero (Hs.new cc cr ts l can)) ∧ w.heap.size ≤ p ∧ q ≤ p) ∧ Hid (Only (fun _ => False) w w') := by
  have HN := Lib.hid (fun W (ho : Only (fun _ => False) w W) => snNew_ok (cA := cA) (can := can) (hts.same ho) (hst.same ho) hm hcB hg)
  have HT := Lib.hid (fun W (ho : Only (fun _ => False) w W) => new_any c1 c2 (hu.same ho) (hh.same ho) hn1 hn2)
  have HCf := Lib.hid (fun W (hO : Only (fun _ => False) (w.alloc (.cells (ecC A1 n1 c1 A2 n2 c2 cc cr A n cA B m cB can).toArray 32)) W) => (Blk.new w 32 (ecC A1 n1 c1 A2 n2 c2 cc cr A n cA B m cB can)).only hO (fun h => h))
  obtain ⟨H, hH⟩ : ∃ H, H = Hs.new cc cr ts l can := ⟨_, rfl⟩
  rw [← hH] at HN ⊢
  have H18 := Lib.hid h18
  clear hu hh hn1 hn2 hts hst hm hcB hg hH h18
  go_enter Tryz.func9, Tryz.ntmps9
  go_wp2_with (first
    | ((with_reducible show wpList _ _ _ (⟨some 8, .load _ _, _, _, _, _⟩ :: _) _ _); refine wpList_load_mid rfl 30 _ rfl w.heap.size 2 rfl (cfC cc cr A n cA B m cB can) _ (rng_at (HCf.out _ (Only.refl _ _)) 2 rfl) Tryz.underlying30 rfl size_sc ?_)
    | (go_at_call 35; (with_reducible refine (HN.out _ ((Only.refl _ _).alloc _)).mono ?_); rintro e w2 ⟨q1, rfl, hh2, ho1⟩; have HC2 := Lib.hid ho1.out; have HO2 : Hid (Only (fun _ => False) w w2) := ((Only.refl _ _).alloc _).trans ho1.out (fun _ h => h.elim); have HH2 := hh2; clear ho1 hh2))
  obtain ⟨h, hk2, hq2⟩ := HH2.out
  have hb2 : Blk w2 q1 122 h.cs := by have := hk2.hub.blk.blk; simpa using this
  have HB2 := Lib.hid hb2
  have HK2 := Lib.hid hk2
  obtain ⟨hcs, hhcs⟩ : ∃ hcs, hcs = h.cs := ⟨_, rfl⟩
  rw [← hhcs] at HB2
  have hlh : hcs.length = 145 := by rw [hhcs]; exact hk2.hub.ok.len
  have HHcs := Lib.hid hhcs
  have HSzH : Hid ((Tryz.prog.info? 122).map (·.size) = some hcs.length) := by
    show _ = _
    rw [hlh]
    kernel_rfl
  clear hb2 hk2 HH2 hhcs
  refine wp_region_noPanic ?_
  refine wp_region_held_drew (S := fun W => Only (fun _ => False) w2 W) (by kernel_rfl) ((Only.refl _ _).drew) (fun hHeld => ?_)
  refine wpAnyH_take (i := 0) (v := .pointer (some ⟨w.heap.size, 0, none⟩)) rfl (by kernel_rfl) (by kernel_rfl) (by kernel_rfl) (fun _ _ _ h => h) (Or.inl ⟨by rfl, fun W hSw => by (first | (go_simp; done) | (go_simp; with_reducible rfl) | (go_simp; rfl))⟩) hHeld ?_
  try simp only [List.getElem_toArray, List.getElem_cons_zero, List.getElem_cons_succ, Act.put, List.setIfInBounds_toArray, List.set_cons_zero, List.set_cons_succ]
  refine wpAnyH_take (i := 1) (v := .agg #[.slice A1 n1 c1, .slice A2 n2 c2]) rfl (by kernel_rfl) (by kernel_rfl) (by kernel_rfl) (fun _ _ _ h => h) (yieldsIf_load_mid (by rfl) 24 _ rfl w.heap.size 0 rfl [.slice A1 n1 c1, .slice A2 n2 c2] _ (fun W h => rng_at (HCf.out _ (HC2.out.trans h (fun _ h => h.elim))) 0 rfl) Tryz.underlying24 rfl size_pol) hHeld ?_
  try simp only [List.getElem_toArray, List.getElem_cons_zero, List.getElem_cons_succ, Act.put, List.setIfInBounds_toArray, List.set_cons_zero, List.set_cons_succ]
  refine wpAnyH_take (i := 5) (v := .pointer (some ⟨q1, 0, none⟩)) rfl (by kernel_rfl) (by kernel_rfl) (by kernel_rfl) (fun _ _ _ h => h) (Or.inl ⟨by rfl, fun W hSw => by (first | (go_simp; done) | (go_simp; with_reducible rfl) | (go_simp; rfl))⟩) hHeld ?_
  try simp only [List.getElem_toArray, List.getElem_cons_zero, List.getElem_cons_succ, Act.put, List.setIfInBounds_toArray, List.set_cons_zero, List.set_cons_succ]
  refine wpAnyH_take (i := 6) (v := .pointer (some ⟨q1, 0, none⟩)) rfl (by kernel_rfl) (by kernel_rfl) (by kernel_rfl) (fun _ _ _ h => h) (Or.inl ⟨by rfl, fun W hSw => by (first | (go_simp; done) | (go_simp; with_reducible rfl) | (go_simp; rfl))⟩) hHeld ?_
  try simp only [List.getElem_toArray, List.getElem_cons_zero, List.getElem_cons_succ, Act.put, List.setIfInBounds_toArray, List.set_cons_zero, List.set_cons_succ]
  refine wpAnyH_take (i := 7) (v := .agg hcs.toArray) rfl (by kernel_rfl) (by kernel_rfl) (by kernel_rfl) (fun _ _ _ h => h) (yieldsIf_load_mid (by rfl) 122 _ rfl q1 0 rfl hcs _ (fun W h => rng_blk (HB2.out.only h (fun h => h))) Tryz.underlying122 rfl HSzH.out) hHeld ?_
  try simp only [List.getElem_toArray, List.getElem_cons_zero, List.getElem_cons_succ, Act.put, List.setIfInBounds_toArray, List.set_cons_zero, List.set_cons_succ]
  refine wpAnyH_ready (rs := [2]) (by kernel_rfl) (by simp) ?_
  refine AllReadyH.cons rfl (fun K hK => ?_) AllReadyH.nil
  go_simp
  (go_at_call 36; (with_reducible refine (HT.out _ HO2.out.drew).mono ?_); rintro e w3 ⟨q, rfl, htb, hq3, ho3⟩)
  refine hK.out _ _ (hHeld.trans ho3 (fun _ h => h.elim)) (fun hHeld => ?_)
  clear hK K
  obtain ⟨tcs, hbt, hct⟩ := htb
  have HBt := Lib.hid hbt
  have HCt := Lib.hid hct
  have hlt : tcs.length = 1539 := by have := hct.len; simpa using this
  have HSzT : Hid ((Tryz.prog.info? 99).map (·.size) = some tcs.length) := by
    show _ = _
    rw [hlt]
    kernel_rfl
  have HBE := Lib.hid (built_end hlt hlh)
  have HH3 := Lib.hid (HK2.out.same hHeld)
  have HO3 := Lib.hid hHeld
  have HQ3 := Lib.hid hq3
  clear hbt hct hlt hlh ho3 hq3
  refine wpAnyH_take (i := 3) (v := .pointer (some ⟨q, 0, none⟩)) rfl (by kernel_rfl) (by kernel_rfl) (by kernel_rfl) (fun _ _ _ h => h) (Or.inl ⟨by rfl, fun W hSw => by (first | (go_simp; done) | (go_simp; with_reducible rfl) | (go_simp; rfl))⟩) hHeld ?_
  try simp only [List.getElem_toArray, List.getElem_cons_zero, List.getElem_cons_succ, Act.put, List.setIfInBounds_toArray, List.set_cons_zero, List.set_cons_succ]
  refine wpAnyH_ready (rs := [4]) (by kernel_rfl) (by simp) ?_
  refine AllReadyH.cons rfl (fun K hK => ?_) AllReadyH.nil
  try rw [if_pos (by rfl)]
  refine wp_load_mid 99 _ rfl q 0 rfl tcs _ (rng_blk HBt.out) Tryz.underlying99 rfl HSzT.out ?_
  refine hK.out _ _ hHeld (fun hHeld => ?_)
  clear hK K
  simp only [List.getElem_toArray, List.getElem_cons_zero, List.getElem_cons_succ, Act.put, List.setIfInBounds_toArray, List.set_cons_zero, List.set_cons_succ]
  refine wpAnyH_take (i := 8) (v := .agg (clZ ++ (tcs ++ (hcs ++ tail0))).toArray) rfl (by kernel_rfl) (by kernel_rfl) (by kernel_rfl) (fun _ _ _ h => h) (yields_build (by rfl) 132 #[(1, .tmp 19), (2, .tmp 22)] rfl _ (Eq.trans (congrArg _ (by simp only [List.map_toArray, List.map_cons, List.map_nil]; rfl)) HBE.out)) hHeld ?_
  simp only [List.getElem_toArray, List.getElem_cons_zero, List.getElem_cons_succ, Act.put, List.setIfInBounds_toArray, List.set_cons_zero, List.set_cons_succ]
  refine wpAnyH_ready (rs := [9]) (by kernel_rfl) (by simp) ?_
  refine AllReadyH.cons rfl (fun K hK => ?_) AllReadyH.nil
  rw [if_pos (by rfl)]
  refine wp_box 132 _ rfl (clZ ++ (tcs ++ (hcs ++ tail0))).toArray rfl ?_
  refine hK.out _ _ (hHeld.alloc _) (fun hHeld => ?_)
  clear hK K
  obtain ⟨w4, hw4⟩ : ∃ w4, w4 = w3.alloc (.cells (clZ ++ (tcs ++ (hcs ++ tail0))).toArray 132) := ⟨_, rfl⟩
  rw [← hw4] at hHeld ⊢
  obtain ⟨p, hp⟩ : ∃ p, p = w3.heap.size := ⟨_, rfl⟩
  rw [← hp]
  have HO4 := Lib.hid hHeld
  have HW4 := Lib.hid hw4
  have HP := Lib.hid hp
  clear hw4 hp
  refine wpAnyH_ready (rs := [10]) (by kernel_rfl) (by simp) ?_
  refine AllReadyH.cons rfl (fun K hK => ?_) AllReadyH.nil
  go_simp
  refine hK.out _ _ HO4.out (fun hHeld => ?_)
  clear hK K
  refine wpAnyH_ready (rs := [11]) (by kernel_rfl) (by simp) ?_
  refine AllReadyH.cons rfl (fun K hK => ?_) AllReadyH.nil
  go_simp
  refine hK.out _ _ HO4.out (fun hHeld => ?_)
  clear hK K
  refine wpAnyH_done (by kernel_rfl) (NoPanic.normal ?_) _
  clear hHeld
  go_wp2
  go_ret2
  have h0 := HO2.out.size
  have h1 := HO3.out.size
  have h2 := HK2.out.hub.lt
  have h3 := H18.out
  have hp := HP.out
  refine ⟨p, q1, rfl, ⟨?_, ?_, ?_⟩, ?_⟩
  · exact enZero (w3 := w3) (by rw [HW4.out, HHcs.out]) HP.out (HH3.out.hub) (HH3.out.is.grow (fun i h => ⟨by simpa using h.1, h.2⟩)) HCt.out (by omega)
  · omega
  · omega
  · exact HO2.out.trans HO4.out (fun _ h => h.elim)
end
end Go.Proofs.YtbnfhklpobephaaGreatDoor
