/- Package timers: Set. -/
import Derived.Test.YtdcjmfbdmejjjaaDoorCalls
namespace Go.Proofs.YtdcjmfbdmejjjaaDoor
open Go Go.RowKit
set_option maxRecDepth 100000

section
variable {B p c : Nat} {w : World} {now : Int} {A : Option Addr} {ts : List Tm}
theorem tmSet_range {es : List Addr} (hes : ErrsIn w 2 es) (h : IsTm B w p now A c ts) (key at_ : Int) (hr : at_ < now ∨ 1099511627776 < at_) : ∃ a, es[0]? = some a ∧
    Calls Tryd.prog 8 #[.pointer (some ⟨p, 0, none⟩), .int .i64 key, .int .i64 at_] w fun e w' => e = .returned (errV a) ∧ Only (fun _ => False) w w' := by
  have e0 : es[0]? = some (es[0]'(by have := hes.len; omega)) := List.getElem?_eq_getElem (by have := hes.len; omega)
  refine ⟨_, e0, ?_⟩
  have c := hes.at_ 0 _ _ rfl e0
  generalize es[0]'(by have := hes.len; omega) = a at *
  unfold errV at *
  have c0 := h.c0
  have hr' : at_ < now ∨ (now ≤ at_ ∧ 1099511627776 < at_) := by omega
  clear e0 hes h hr
  rcases hr' with h1 | ⟨h1, h2⟩
  all_goals
    go_enter Tryd.func8, Tryd.ntmps8
    go_wp2
    go_ret
    exact ⟨rfl, Only.refl _ _⟩

theorem tmSet_full {es : List Addr} (hes : ErrsIn w 2 es) (h : IsTm B w p now A c ts) (key at_ : Int) (h1 : now ≤ at_) (h2 : at_ ≤ 1099511627776) (hl : 16 ≤ ts.length) (hno : ∀ x ∈ ts, (x.1 == key) = false) : ∃ a, es[1]? = some a ∧
    Calls Tryd.prog 8 #[.pointer (some ⟨p, 0, none⟩), .int .i64 key, .int .i64 at_] w fun e w' => e = .returned (errV a) ∧ Only (fun _ => False) w w' := by
  have e0 : es[1]? = some (es[1]'(by have := hes.len; omega)) := List.getElem?_eq_getElem (by have := hes.len; omega)
  refine ⟨_, e0, ?_⟩
  have ce := hes.at_ 1 _ _ rfl e0
  generalize es[1]'(by have := hes.len; omega) = a at *
  unfold errV at *
  have c0 := h.c0
  have c1 := h.c1
  have hm := h.most
  have CL := fun (W : World) (hW : Only (fun _ => False) w W) => tmLen (h.same hW)
  have hany : ts.any (fun x => x.1 == key) = false := List.any_eq_false.2 (fun x hx => by simp [hno x hx])
  have CC := fun (W : World) (hW : Only (fun _ => False) w W) (b : Nat) (hb : W.cell? ⟨b, 0, none⟩ = some (.int .i64 key)) => contains_any (own_same h.row hW) _ _ _ eg_key (ofKey_asks W b key hb)
  rw [hany] at CC
  obtain ⟨n, hn⟩ : ∃ n, n = ts.length := ⟨_, rfl⟩
  rw [← hn] at c1 hl hm CL CC
  have HCL := Lib.hid CL
  have HCC := Lib.hid CC
  clear e0 hes h CL CC hn hany hno
  have b1 : decide ((16 : Int) ≤ (n : Int)) = true := by simp; omega
  go_enter Tryd.func8, Tryd.ntmps8
  go_wp2_with fail
  go_region_held3 (fun W => W.cell? ⟨p, 1, none⟩ = some (.slice A n c) ∧ Hid (Only (fun _ => False) w W))
    (first | exact ⟨c1, (Only.refl (fun _ => False) w).drew⟩ | exact hK)
    (first
      | (go_at_call 20; refine (HCL.out _ (by first | exact (Only.refl (fun _ => False) w).drew | exact And.right (by assumption))).mono ?_; rintro e w1 ⟨rfl, rfl⟩; have hK := (show _ ∧ _ by first | exact ⟨c1, (Only.refl (fun _ => False) w).drew⟩ | assumption))
      | (go_at_call 25; refine (ofKey_any _ key).mono ?_; rintro e w1 ⟨rfl, rfl⟩; have hK := keep2 (by first | exact ⟨c1, (Only.refl (fun _ => False) w).drew⟩ | assumption) (.cells #[.int .i64 key] 3))
      | (go_at_call 24; refine (HCC.out _ (And.right (by assumption)) _ (by first | exact box_cell _ _ _ | assumption)).mono ?_; rintro e w2 ⟨rfl, ho2⟩; have hK := keepO (by assumption) ho2))
  all_goals
    have ce := hK.2.out.cellv ce (fun h => h)
    have HO := hK.2
    clear hK c1
    go_wp2
    go_ret
    exact ⟨rfl, HO.out⟩

theorem quietly {P : Program} {f : FuncId} {args : Array Value} {w : World} {v : Value} (h : Calls P f args w fun e w' => e = .returned v ∧ w = w') : Calls P f args w fun e w' => e = .returned v ∧ ∃ n, w' = w.drewN n :=
  h.mono fun _ _ ⟨he, hw⟩ => ⟨he, 0, hw.symm⟩
/-- What a timer set comes to. -/
def SetOk (w : World) (p : Nat) (now : Int) (rest : List Tm) (y : Tm) (e : Ending) (w' : World) : Prop :=
  ∃ i A c, e = .returned .nilIface ∧ i ≤ rest.length ∧ (∀ (j : Nat) (x : Tm), j < i → rest[j]? = some x → cmpTm x y < 0) ∧ (∀ (j : Nat) (x : Tm), i ≤ j → rest[j]? = some x → 0 ≤ cmpTm x y) ∧
    IsTm w.heap.size w' p now A c (rest.take i ++ y :: rest.drop i) ∧ Only (· = p) w w'

set_option maxHeartbeats 1000000 in
theorem tmSet_ok (h : IsTm B w p now A c ts) (key at_ : Int) (h1 : now ≤ at_) (h2 : at_ ≤ 1099511627776) (hc : ts.length < 16 ∨ ts.any (fun x => x.1 == key) = true) (rest : List Tm) (hrest : rest = ts.filter fun x => !(x.1 == key)) (hr16 : rest.length < 16)
    (hmono : ∀ (i j : Nat) (x z : Tm), i ≤ j → rest[i]? = some x → rest[j]? = some z → cmpTm z (key, at_) < 0 → cmpTm x (key, at_) < 0) :
    Calls Tryd.prog 8 #[.pointer (some ⟨p, 0, none⟩), .int .i64 key, .int .i64 at_] w (SetOk w p now rest (key, at_)) := by
  have c0 := h.c0
  have c1 := h.c1
  have hm := h.most
  have CL := fun (W : World) (hW : Only (fun _ => False) w W) => tmLen (h.same hW)
  have CC := fun (W : World) (hW : Only (fun _ => False) w W) (b : Nat) (hb : W.cell? ⟨b, 0, none⟩ = some (.int .i64 key)) => contains_any (own_same h.row hW) _ _ _ eg_key (ofKey_asks W b key hb)
  have CT := fun (W : World) (hW : Only (fun _ => False) w W) => takeKey (h.same hW) key
  rw [← hrest] at CT
  have hc' : ts.length < 16 ∨ (16 ≤ ts.length ∧ ts.any (fun x => x.1 == key) = true) := by
    rcases hc with hc | hc
    · exact .inl hc
    · by_cases h16 : ts.length < 16
      · exact .inl h16
      · exact .inr ⟨by omega, hc⟩
  obtain ⟨n, hn⟩ : ∃ n, n = ts.length := ⟨_, rfl⟩
  rw [← hn] at c1 hm CL CC hc'
  have HCL := Lib.hid CL
  have HCT := Lib.hid CT
  have HM := Lib.hid hmono
  clear h CL CT hn hrest hmono hc
  rcases hc' with hl | ⟨hl, hany⟩
  focus
    have b1 : decide ((16 : Int) ≤ (n : Int)) = false := by simp; omega
    clear CC
    go_enter Tryd.func8, Tryd.ntmps8
    go_wp2_with fail
    have CL2 := fun m => quietly (HCL.out (w.drewN m) ((Only.refl (fun _ => False) w).drewN m))
    have HL2 := Lib.hid CL2
    clear CL2
    go_quiet ((go_at_call 20; exact Calls.quiet_of (HL2.out _)))
    have HO := Lib.hid ((Only.refl (fun _ => False) w).drewN nq)
    generalize w.drewN nq = w2 at *
    clear c1 b1 HL2 HCL
  rotate_left
  focus
    rw [hany] at CC
    have HCC := Lib.hid CC
    have b1 : decide ((16 : Int) ≤ (n : Int)) = true := by simp; omega
    clear CC hany
    go_enter Tryd.func8, Tryd.ntmps8
    go_wp2_with fail
    go_region_held3 (fun W => W.cell? ⟨p, 1, none⟩ = some (.slice A n c) ∧ Hid (Only (fun _ => False) w W))
      (first | exact ⟨c1, (Only.refl (fun _ => False) w).drew⟩ | exact hK)
      (first
        | (go_at_call 20; refine (HCL.out _ (by first | exact (Only.refl (fun _ => False) w).drew | exact And.right (by assumption))).mono ?_; rintro e w1 ⟨rfl, rfl⟩; have hK := (show _ ∧ _ by first | exact ⟨c1, (Only.refl (fun _ => False) w).drew⟩ | assumption))
        | (go_at_call 25; refine (ofKey_any _ key).mono ?_; rintro e w1 ⟨rfl, rfl⟩; have hK := keep2 (by first | exact ⟨c1, (Only.refl (fun _ => False) w).drew⟩ | assumption) (.cells #[.int .i64 key] 3))
        | (go_at_call 24; refine (HCC.out _ (And.right (by assumption)) _ (by first | exact box_cell _ _ _ | assumption)).mono ?_; rintro e w2 ⟨rfl, ho2⟩; have hK := keepO (by assumption) ho2))
    have HO := hK.2
    clear hK c1 b1 HCC HCL
  all_goals
    go_wp2_with fail
    refine (ofKey_any w2 key).mono ?_
    rintro e w3 ⟨rfl, rfl⟩
    go_wp2_with fail
    refine (HCT.out w2 HO.out).mono ?_
    rintro e w3 ⟨K3, kc3, A3, c3, rfl, _, ht3, ho3⟩
    have hrow3 := Lib.hid ht3.row
    have C4 := Lib.hid (putIn_any ht3 ho3.size key at_ hr16 HM.out)
    have HO3 := Lib.hid ho3
    clear ht3 ho3 HCT
    go_wp2_with fail
    refine C4.out.mono ?_
    rintro e w4 ⟨i4, A4, c4, rfl, hi4, hlo4, hhi4, ht4, ho4⟩
    have HI4 := Lib.hid (And.intro hi4 (And.intro hlo4 hhi4))
    have HT4 := Lib.hid ht4
    have HO4 := Lib.hid ho4
    clear hi4 hlo4 hhi4 ht4 ho4 C4
    go_wp2
    go_ret
    have hs := HO.out.size
    refine ⟨i4, A4, c4, rfl, HI4.out.1, HI4.out.2.1, HI4.out.2.2, HT4.out.mono hs, ((HO.out.mono (fun _ h => h.elim)).trans HO3.out (fun i hi => .inl hi)).trans HO4.out (fun i hi => ?_)⟩
    rcases hi with hi | hi
    · exact .inl hi
    · exact .inr (Nat.le_trans hs (own_lt hrow3.out i hi).1)
end
end Go.Proofs.YtdcjmfbdmejjjaaDoor
