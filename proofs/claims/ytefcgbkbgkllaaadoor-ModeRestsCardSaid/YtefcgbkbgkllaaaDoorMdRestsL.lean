/- ModeRests, walked. -/
import Derived.Test.YtefcgbkbgkllaaaDoorMdAlive
import Derived.Test.YtefcgbkbgkllaaaDoorMdFacts
import Derived.Test.YtefcgbkbgkllaaaDoorMdTwo
import Derived.Test.YtefcgbkbgkllaaaDoorRowOne
import Derived.Test.YtefcgbkbgkllaaaDoorInts
import Derived.Deep.RegionHeld3
namespace Go.Proofs.YtefcgbkbgkllaaaDoor
open Go Go.ChangeShapes Go.WideShapes Go.ChangeAt Go.RowKit
set_option maxRecDepth 100000
set_option maxHeartbeats 4000000

theorem info_body : (Tryd.prog.info? 22).map (fun i => (i.zero, i.size, i.bytes)) = some (some (.slice none 0 0), 1, 24) := by kernel_rfl
/-- A head and a tail joined by two rows of bodies. -/
structure QAt (w W : World) (p q : Nat) (hm : Int) (b : Bool) (T tm : Int) (A : Option Addr) (n c : Nat) (vs : List Value) (D : Option Addr) (m d : Nat) (us : List Value) : Prop where
  two : MAt w W p q hm b T tm
  th : RowAt W w.heap.size 22 1 (.slice A n c) n vs
  bk : RowAt W w.heap.size 22 1 (.slice D m d) m us
  ne : ∀ k, (Value.slice A n c).ownBlock = some k → (Value.slice D m d).ownBlock ≠ some k
section
variable {w W W' : World} {p q : Nat} {hm T tm : Int} {b : Bool} {A D : Option Addr} {n c m d : Nat} {vs us : List Value}
theorem QAt.same (h : QAt w W p q hm b T tm A n c vs D m d us) (ho : Only (fun _ => False) W W') : QAt w W' p q hm b T tm A n c vs D m d us := ⟨h.two.same ho, h.th.only ho (fun _ _ h => h), h.bk.only ho (fun _ _ h => h), h.ne⟩
theorem QAt.head {hm' : Int} {b' : Bool} (h : QAt w W p q hm b T tm A n c vs D m d us) (ho : Only (· = p) W W') (hd : HdAt W' p hm' b') (hpq : p ≠ q) (hp : w.heap.size ≤ p) : QAt w W' p q hm' b' T tm A n c vs D m d us :=
  ⟨⟨hd, h.two.tl.far ho hpq.symm, h.two.only.trans ho (fun i hi => .inr (by omega))⟩, h.th.only ho (fun k hk => RowAt.ne h.th h.two.hd (by decide) k hk), h.bk.only ho (fun k hk => RowAt.ne h.bk h.two.hd (by decide) k hk), h.ne⟩
theorem QAt.tail {tm' : Int} (h : QAt w W p q hm b T tm A n c vs D m d us) (ho : Only (· = q) W W') (ht : TlAt W' q T tm') (hpq : p ≠ q) (hq : w.heap.size ≤ q) : QAt w W' p q hm b T tm' A n c vs D m d us :=
  ⟨⟨h.two.hd.far ho hpq, ht, h.two.only.trans ho (fun i hi => .inr (by omega))⟩, h.th.only ho (fun k hk => RowAt.ne h.th h.two.tl (by decide) k hk), h.bk.only ho (fun k hk => RowAt.ne h.bk h.two.tl (by decide) k hk), h.ne⟩
/-- What stays where a row alone grows. -/
theorem MAt.grown {B : Nat} {v : Value} {k : Nat} {xs : List Value} (h : MAt w W p q hm b T tm) (hr : RowAt W B 22 1 v k xs) (hB : w.heap.size ≤ B) (hg : W.grownBy W' v.ownBlock) : MAt w W' p q hm b T tm :=
  ⟨Blk.grown h.hd hg (fun e => RowAt.ne hr h.hd (by decide) _ e rfl), Blk.grown h.tl hg (fun e => RowAt.ne hr h.tl (by decide) _ e rfl), h.only.grown hg (fun k hk => .inr (Nat.le_trans hB (hr.lt k hk).1))⟩
theorem RowAt.beside {B B' : Nat} {e e' : TypeId} {v v' : Value} {k k' : Nat} {xs xs' : List Value} (h : RowAt W B e 1 v k xs) (_ : RowAt W B' e' 1 v' k' xs') (hne : ∀ i, v.ownBlock = some i → v'.ownBlock ≠ some i) (hg : W.grownBy W' v'.ownBlock) : RowAt W' B e 1 v k xs :=
  h.keep (fun g t cs hv hb => hb.grown hg (hne g hv))
/-- Something was told behind the first row's last. -/
theorem QAt.told {A' : Option Addr} {c' : Nat} {vs' : List Value} {n' : Nat} (h : QAt w W p q hm b T tm A n c vs D m d us) (hr : RowAt W' w.heap.size 22 1 (.slice A' n' c') n' vs') (hg : W.grownBy W' (Value.slice A n c).ownBlock) (hn : ∀ k, (Value.slice A' n' c').ownBlock = some k → (Value.slice A n c).ownBlock = some k ∨ W.heap.size ≤ k) :
    QAt w W' p q hm b T tm A' n' c' vs' D m d us :=
  ⟨h.two.grown h.th (Nat.le_refl _) hg, hr, h.bk.beside h.th (fun i hi e => h.ne i e hi) hg, fun k hk e => by
    rcases hn k hk with h1 | h1
    · exact h.ne k h1 e
    · have := (h.bk.lt k e).2
      omega⟩
/-- The first row's first was heard; what is told then stands behind the second one's last. -/
theorem QAt.went {A' D' : Option Addr} {c' d' n' m' : Nat} {vs' us' : List Value} (h : QAt w W p q hm b T tm A n c vs D m d us) (hr : RowAt W w.heap.size 22 1 (.slice A' n' c') n' vs') (hsub : ∀ k, (Value.slice A' n' c').ownBlock = some k → (Value.slice A n c).ownBlock = some k)
    (hr2 : RowAt W' w.heap.size 22 1 (.slice D' m' d') m' us') (hg : W.grownBy W' (Value.slice D m d).ownBlock) (hn : ∀ k, (Value.slice D' m' d').ownBlock = some k → (Value.slice D m d).ownBlock = some k ∨ W.heap.size ≤ k) :
    QAt w W' p q hm b T tm A' n' c' vs' D' m' d' us' :=
  ⟨h.two.grown h.bk (Nat.le_refl _) hg, hr.beside h.bk (fun i hi e => h.ne i (hsub i hi) e) hg, hr2, fun k hk e => by
    rcases hn k e with h1 | h1
    · exact h.ne k (hsub k hk) h1
    · have := (hr.lt k hk).2
      omega⟩
/-- The second row's first was heard. -/
theorem QAt.came {D' : Option Addr} {d' m' : Nat} {us' : List Value} (h : QAt w W p q hm b T tm A n c vs D m d us) (hr : RowAt W w.heap.size 22 1 (.slice D' m' d') m' us') (hsub : ∀ k, (Value.slice D' m' d').ownBlock = some k → (Value.slice D m d).ownBlock = some k) :
    QAt w W p q hm b T tm A n c vs D' m' d' us' := ⟨h.two, h.th, hr, fun k hk e => h.ne k hk (hsub k e)⟩
end
/-- A body lies there. -/
def BodyIn (W : World) (vs : List Value) (m : Int) : Prop := ∃ N, vs = [.slice (some ⟨N, 0, none⟩) 2 2] ∧ Src W (some ⟨N, 0, none⟩) 2 (bodyM m)
theorem BodyIn.same {W W' : World} {vs : List Value} {m : Int} (h : BodyIn W vs m) (ho : Only (fun _ => False) W W') : BodyIn W' vs m := by
  obtain ⟨N, e, hs⟩ := h
  exact ⟨N, e, hs.only ho (fun _ _ _ h => h)⟩
/-- At rest; a body on its way back; one on its way there; and how many rounds it takes at most. -/
def Ph (W : World) (len k : Nat) (hm : Int) (b : Bool) (tm : Int) (n : Nat) (vs : List Value) (m : Nat) (us : List Value) : Prop :=
  (n = 0 ∧ m = 0 ∧ b = false ∧ hm = tm) ∨
  (n = 0 ∧ m = 1 ∧ b = true ∧ isMask tm = true ∧ BodyIn W us (tm + 4) ∧ k + 2 - k % 2 ≤ len + 3) ∨
  (n = 1 ∧ m = 0 ∧ b = true ∧ isMask hm = true ∧ BodyIn W vs hm ∧ k + 2 + k % 2 ≤ len + 3)
section
variable {W W' : World} {len k : Nat} {hm tm : Int} {b : Bool} {n m : Nat} {vs us : List Value}
theorem Ph.same (h : Ph W len k hm b tm n vs m us) (ho : Only (fun _ => False) W W') : Ph W' len k hm b tm n vs m us := by
  rcases h with h | ⟨h1, h2, h3, h4, h5, h6⟩ | ⟨h1, h2, h3, h4, h5, h6⟩
  · exact .inl h
  · exact .inr (.inl ⟨h1, h2, h3, h4, h5.same ho, h6⟩)
  · exact .inr (.inr ⟨h1, h2, h3, h4, h5.same ho, h6⟩)
/-- A round of an act in which nothing moved. -/
theorem Ph.next (h : Ph W len k hm b tm n vs m us) (hk : k < len) : Ph W len (k + 1) hm b tm n vs m us := by
  rcases h with h | ⟨h1, h2, h3, h4, h5, h6⟩ | ⟨h1, h2, h3, h4, h5, h6⟩
  · exact .inl h
  · exact .inr (.inl ⟨h1, h2, h3, h4, h5, by omega⟩)
  · exact .inr (.inr ⟨h1, h2, h3, h4, h5, by omega⟩)
/-- The tail had nothing to hear. -/
theorem Ph.even (h : Ph W len k hm b tm n vs m us) (hk : k % 2 = 0) (hn : n = 0) : Ph W len (k + 1) hm b tm n vs m us := by
  rcases h with h | ⟨h1, h2, h3, h4, h5, h6⟩ | ⟨h1, h2, h3, h4, h5, h6⟩
  · exact .inl h
  · exact .inr (.inl ⟨h1, h2, h3, h4, h5, by omega⟩)
  · omega
/-- The head had nothing to hear. -/
theorem Ph.odd (h : Ph W len k hm b tm n vs m us) (hk : k % 2 = 1) (hn : m = 0) : Ph W len (k + 1) hm b tm n vs m us := by
  rcases h with h | ⟨h1, h2, h3, h4, h5, h6⟩ | ⟨h1, h2, h3, h4, h5, h6⟩
  · exact .inl h
  · omega
  · exact .inr (.inr ⟨h1, h2, h3, h4, h5, by omega⟩)
theorem Ph.few (h : Ph W len k hm b tm n vs m us) : n ≤ 1 ∧ m ≤ 1 := by
  rcases h with ⟨h1, h2, _⟩ | ⟨h1, h2, _⟩ | ⟨h1, h2, _⟩ <;> omega
end

theorem mrests_long {w : World} {es : List Addr} (hW : MdW w es) (can : Int) (A : Option Addr) (n cap : Nat) (h : 60 < n) : Calls Tryd.prog 5 #[.int .i64 can, .slice A n cap] w (Fine w) := by
  have HA := Lib.hid (mdAlive hW)
  have hd : decide ((60 : Int) < (n : Int)) = true := by simp; omega
  clear h hW
  go_enter Tryd.func5, Tryd.ntmps5
  go_wp2_with (go_at_call 6; refine HA.out.mono ?_; rintro e w1 ⟨rfl, ho1⟩)
  go_ret
  exact ⟨rfl, ho1⟩

theorem mrests_ok {w : World} {es : List Addr} (hW : MdW w es) (can : Int) {A : Option Addr} {n : Nat} (cap : Nat) {zs : List Int} (hz : Ints w A n zs) (h64 : ∀ z ∈ zs, In64 z) (hn : n ≤ 60) :
    Calls Tryd.prog 5 #[.int .i64 can, .slice A n cap] w (Fine w) := by
  have HA := Lib.hid (mdAlive hW)
  have HE := Lib.hid hW.errs
  have HZ := Lib.hid hz
  have H64 := Lib.hid h64
  have HNh := Lib.hid (fun W => mdNewHead_any W)
  have HNt := Lib.hid (fun W => mdNewTail_any W can)
  have HT : Hid (isMask (canOf can) = true) := canOf_mask can
  generalize canOf can = T at *
  have hd : decide ((60 : Int) < (n : Int)) = false := by simp; omega
  clear hW hz h64
  go_enter Tryd.func5, Tryd.ntmps5
  go_wp2_with (first
    | (go_at_call 6; refine HA.out.mono ?_; rintro e w1 ⟨rfl, ho1⟩; have HO1 := Lib.hid ho1; clear ho1)
    | (go_at_call 14; (with_reducible refine (HNh.out _).mono ?_); rintro e w2 ⟨rfl, hd2, hz2, ho2⟩)
    | (go_at_call 15; (with_reducible refine (HNt.out _).mono ?_); rintro e w3 ⟨rfl, ht3, hz3, ho3⟩)
    | fail)
  have HM3 : Hid (MAt w w3 w1.heap.size w2.heap.size 0 false T 0) := ⟨hd2.out.same ho3.out, ht3.out, (HO1.out.trans ho2.out (fun _ h => h.elim)).trans ho3.out (fun _ h => h.elim)⟩
  have hpq : w1.heap.size ≠ w2.heap.size := by have := hz2.out; omega
  have HP : Hid (w.heap.size ≤ w1.heap.size) := HO1.out.size
  have HQ : Hid (w.heap.size ≤ w2.heap.size) := Nat.le_trans HO1.out.size ho2.out.size
  have HQ4 : Hid (QAt w ((w3.alloc (.cells #[] 22)).alloc (.cells #[] 22)) w1.heap.size w2.heap.size 0 false T 0 (some ⟨w3.heap.size, 0, none⟩) 0 0 [] (some ⟨w3.heap.size + 1, 0, none⟩) 0 0 []) :=
    ⟨HM3.out.same (((Only.refl _ _).alloc _).alloc _), ⟨rfl, .inr ⟨w3.heap.size, 0, 0, [], rfl, HM3.out.only.size, (Blk.new w3 _ []).alloc _, Nat.le_refl _, by omega, by simp, fun j u h => by simp at h⟩⟩,
      ⟨rfl, .inr ⟨w3.heap.size + 1, 0, 0, [], rfl, by have := HM3.out.only.size; omega, Blk.new' _ _ [] (by simp), Nat.le_refl _, by omega, by simp, fun j u h => by simp at h⟩⟩, fun k hk e => by
        simp [Value.ownBlock] at hk e
        omega⟩
  clear HA HNh HNt HO1 hd2 hz2 ho2 ht3 hz3 ho3 HM3
  generalize w1.heap.size = p at *
  generalize w2.heap.size = q at *
  go_loopw [7, 8, 34] (fun tv bv i W => ∃ (k : Nat) (hm : Int) (b : Bool) (tm : Int) (A1 : Option Addr) (n1 c1 : Nat) (vs : List Value) (A2 : Option Addr) (n2 c2 : Nat) (us : List Value), k ≤ n + 130 ∧ n1 ≤ 1 ∧ n2 ≤ 1 ∧ tv = .slice A1 n1 c1 ∧ bv = .slice A2 n2 c2 ∧ i = .int .i64 (k : Int) ∧
    Hid (QAt w W p q hm b T tm A1 n1 c1 vs A2 n2 c2 us ∧ Ph W n k hm b tm n1 vs n2 us)) (fun _ _ i _ => n + 130 - (intOf i).toNat)
  case atStart => exact ⟨0, 0, false, 0, _, 0, 0, [], _, 0, 0, [], Nat.zero_le _, by omega, by omega, rfl, rfl, rfl, HQ4.out, .inl ⟨rfl, rfl, rfl, rfl⟩⟩
  case round =>
    clear HQ4
    obtain ⟨k, hm, b, tm, A1, n1, c1, vs, A2, n2, c2, us, hk, hn1, hn2, rfl, rfl, rfl, HR⟩ := hrel
    have HQr := Lib.hid HR.out.1
    have HPh := Lib.hid HR.out.2
    clear HR
    by_cases hend : k < n + 130
    · have hend2 : (k : Int) < (n : Int) + 130 := by omega
      by_cases hlt : k < n
      · have hlt2 : (k : Int) < (n : Int) := by omega
        have hltd : decide ((k : Int) < (n : Int)) = true := by simp; omega
        obtain ⟨z, hz⟩ : ∃ z, zs[k]? = some z := ⟨_, List.getElem?_eq_getElem (by rw [HZ.out.1]; exact hlt)⟩
        have hz64 : In64 z := H64.out z (List.mem_of_getElem? hz)
        obtain ⟨ad, rfl, hcell⟩ := (HZ.out.same HQr.out.two.only).2 (by omega)
        have cz := hcell k z hz
        clear hcell hz
        rcases (by omega : 0 ≤ z ∨ z = -1 ∨ z < -1) with hz0 | rfl | hz1
        · have hz0d : decide (0 ≤ z) = true := by simp; omega
          by_cases hN : setNum z hm b = 0
          · have hall : b = false ∧ isMask z = true := by
              unfold setNum at hN
              cases h1 : isMask z with
              | false => rw [h1] at hN; simp at hN
              | true =>
                rw [h1] at hN
                cases b with
                | true => simp at hN
                | false => exact ⟨rfl, rfl⟩
            obtain ⟨rfl, hmk⟩ := hall
            have HSe : Hid (∀ W, HdAt W p hm false → _) := fun W (h : HdAt W p hm false) => mdSet_ok h hz64 hN
            have hph : n1 = 0 ∧ n2 = 0 := by
              rcases HPh.out with ⟨h1, h2, _⟩ | ⟨_, _, h, _⟩ | ⟨_, _, h, _⟩
              · exact ⟨h1, h2⟩
              · cases h
              · cases h
            obtain ⟨rfl, rfl⟩ := hph
            have hvs : vs = [] := List.eq_nil_of_length_eq_zero HQr.out.th.1
            have HVs := Lib.hid hvs
            have HMk := Lib.hid hmk
            clear hN hmk hvs
            as_aux_lemma =>
              go_wp2_with (first
                | (go_at_call 16; (with_reducible refine (HSe.out _ HQr.out.two.hd).mono ?_); rintro e w5 ⟨N, rfl, hN5, hs5, hd5, ho5⟩; have HQ5 := Lib.hid (HQr.out.head ho5.out hd5.out hpq HP.out); have HQ6 := Lib.hid (HQ5.out.same ((Only.refl _ _).alloc (.cells #[.slice (some ⟨N, 0, none⟩) 2 2] 22))))
                | (at_builtin; refine step_one_row rfl _ _ 49 rfl 22 _ 24 Tryd.underlying49 info_body rfl (by omega) w.heap.size A1 0 c1 vs rfl HQ6.out.th w5.heap.size _ rfl ((Blk.new w5 22 [.slice (some ⟨N, 0, none⟩) 2 2]).cell 0) rfl (by omega) HQ6.out.two.only.size ?_; intro A' c' w7 hR7 hG7 hN7)
                | fail)
              have HQ7 := Lib.hid (HQ6.out.told hR7.out hG7.out hN7.out)
              have hs7 : Src w7 (some ⟨N, 0, none⟩) 2 (bodyM z) := by
                have h6 := hs5.out.only ((Only.refl (fun _ => False) _).alloc (.cells #[.slice (some ⟨N, 0, none⟩) 2 2] 22)) (fun _ _ _ h => h)
                refine h6.only (Only.grown (S := (fun i => (Value.slice A1 0 c1).ownBlock = some i)) (Only.refl _ _) hG7.out (fun i hi => .inl hi)) (fun _ ad e hb => ?_)
                injection e with e
                subst e
                have h1 := (HQr.out.th.lt _ hb).2
                have h2 := hN5.out
                simp at h1
                omega
              go_roundw
              case rel => exact ⟨k + 1, z, true, tm, A', 1, c', _, A2, 0, c2, us, by omega, by omega, by omega, rfl, rfl, by go_num, HQ7.out, .inr (.inr ⟨rfl, rfl, rfl, HMk.out, ⟨N, by rw [HVs.out]; rfl, hs7⟩, by omega⟩)⟩
              case measure => simp [intOf]; omega
          · have HSe : Hid (∀ W, Only (fun _ => False) w W → HdAt W p hm b → _) := fun W ho (h : HdAt W p hm b) => mdSet_bad (HE.out.only ho) h hz64 hN
            have HNz := Lib.hid hN
            clear hN
            as_aux_lemma =>
              go_wp2_with (first
                | (go_at_call 16; (with_reducible refine (HSe.out _ HQr.out.two.only HQr.out.two.hd).mono ?_); rintro e w5 ⟨E, hE, rfl, ho5⟩; obtain ⟨ea, rfl⟩ := hE.is_err HNz.out; have HQ5 := Lib.hid (HQr.out.same ho5); have HP5 := Lib.hid ((HPh.out.same ho5).next hlt); clear hE ho5)
                | fail)
              go_roundw
              case rel => exact ⟨k + 1, hm, b, tm, A1, n1, c1, vs, A2, n2, c2, us, by omega, by omega, by omega, rfl, rfl, by go_num, HQ5.out, HP5.out⟩
              case measure => simp [intOf]; omega
        · by_cases h0 : n1 = 0
          · subst h0
            as_aux_lemma =>
              go_wp2_with fail
              go_roundw
              case rel => exact ⟨k + 1, hm, b, tm, A1, _, c1, vs, A2, _, c2, us, by omega, by omega, by omega, rfl, rfl, by go_num, HQr.out, HPh.out.next hlt⟩
              case measure => simp [intOf]; omega
          · as_aux_lemma =>
              obtain rfl : n1 = 1 := by omega
              have hph : n2 = 0 ∧ b = true ∧ isMask hm = true ∧ BodyIn wr vs hm ∧ k + 2 + k % 2 ≤ n + 3 := by
                rcases HPh.out with ⟨h1, _⟩ | ⟨h1, _⟩ | ⟨_, h2, h3, h4, h5, h6⟩
                · omega
                · omega
                · exact ⟨h2, h3, h4, h5, h6⟩
              obtain ⟨rfl, rfl, hmk, ⟨N, rfl, hs⟩, hsteps⟩ := hph
              have hus : us = [] := List.eq_nil_of_length_eq_zero HQr.out.bk.1
              have HUs := Lib.hid hus
              obtain ⟨g, o, c', hv, hc1, hc2, _, _, hcl⟩ := HQr.out.th.places (by omega)
              injection hv with hA _ hc'
              subst hA hc'
              have c0 : wr.cell? ⟨g, o, none⟩ = some (.slice (some ⟨N, 0, none⟩) 2 2) := hcl 0 _ rfl
              have hsay := saysM_body hmk
              have HTk : Hid (∀ W, Only (fun _ => False) w W → TlAt W q T tm → Src W (some ⟨N, 0, none⟩) 2 (bodyM hm) → Calls Tryd.prog 18 #[.pointer (some ⟨q, 0, none⟩), .slice (some ⟨N, 0, none⟩) 2 2] W fun e w' => ∃ M, e = .returned (.tuple #[.slice (some ⟨M, 0, none⟩) 2 2, .nilIface]) ∧ Hid (W.heap.size ≤ M) ∧ Hid (Src w' (some ⟨M, 0, none⟩) 2 (bodyM (both hm T + 4))) ∧ Hid (TlAt w' q T (both hm T)) ∧ Hid (Only (· = q) W w')) := fun W ho h hs => by
                have := mdTake_ok (HE.out.only ho) h HT.out 2 hs (by unfold takeNum; rw [hsay]; rfl)
                rw [hsay] at this
                exact this
              have HMk : Hid (isMask (both hm T) = true) := both_mask hmk HT.out
              have HS := Lib.hid hs
              have HSt := Lib.hid hsteps
              generalize both hm T = y at *
              obtain ⟨D, hD⟩ : ∃ D, (if c1 = 1 then some (⟨g, o, none⟩ : Addr) else some ⟨g, o + 1, none⟩) = D := ⟨_, rfl⟩
              have HD := Lib.hid hD
              have hi0 : (0 : Int) < 1 := by omega
              clear hmk hus hcl hs hsay hsteps
              go_wp2_with (first
                | (go_at_call 18; (with_reducible refine (HTk.out _ HQr.out.two.only HQr.out.two.tl HS.out).mono ?_); rintro e w5 ⟨M, rfl, hM5, hs5, ht5, ho5⟩; have HQ5 := Lib.hid (HQr.out.tail ho5.out ht5.out hpq HQ.out))
                | fail)
              have hwt : ∀ ob, Only (fun _ => False) w5 (w5.alloc ob).drew := fun ob => ((Only.refl _ _).alloc ob).drew
              go_region_held3 (fun _ => True) (trivial)
                (first
                  | ((with_reducible show (if Region.wanted ⟨some 86, _, _, _, _, _⟩ _ = true then _ else _)); refine step_one_rowR rfl (.tmp 83) (.tmp 85) 49 rfl 22 _ 24 Tryd.underlying49 info_body rfl (by omega) w.heap.size A2 0 c2 us rfl (HQ5.out.same (hwt _)).bk w5.heap.size _ rfl ((Blk.new w5 22 [.slice (some ⟨M, 0, none⟩) 2 2]).drew.cell 0) rfl (by omega) (HQ5.out.same (hwt _)).two.only.size ?_; intro A' c' w7 hR7 hG7 hN7))
              go_wp2
              have HQ6 := Lib.hid (HQ5.out.same (hwt (.cells #[.slice (some ⟨M, 0, none⟩) 2 2] 22)))
              have htl : RowAt (w5.alloc (.cells #[.slice (some ⟨M, 0, none⟩) 2 2] 22)).drew w.heap.size 22 1 (.slice D 0 (c1 - 1)) 0 [] ∧ ∀ i, (Value.slice D 0 (c1 - 1)).ownBlock = some i → (Value.slice (some ⟨g, o, none⟩) 1 c1).ownBlock = some i := by
                have h := HQ6.out.th
                have hD := HD.out
                by_cases hc : c1 = 1
                · rw [if_pos hc] at hD
                  subst hD
                  exact ⟨RowAt.tail h o (.inr ⟨hc, rfl⟩), fun i hi => hi⟩
                · rw [if_neg hc] at hD
                  subst hD
                  exact ⟨RowAt.tail h (o + 1) (.inl rfl), fun i hi => hi⟩
              have HQ7 := Lib.hid (HQ6.out.went htl.1 htl.2 hR7.out hG7.out hN7.out)
              have hs7 : Src w7 (some ⟨M, 0, none⟩) 2 (bodyM (y + 4)) := by
                have h6 := hs5.out.only (hwt (.cells #[.slice (some ⟨M, 0, none⟩) 2 2] 22)) (fun _ _ _ h => h)
                refine h6.only (Only.grown (S := (fun i => (Value.slice A2 0 c2).ownBlock = some i)) (Only.refl _ _) hG7.out (fun i hi => .inl hi)) (fun _ ad e hb => ?_)
                injection e with e
                subst e
                have h1 := (HQr.out.bk.lt _ hb).2
                have h2 := hM5.out
                simp at h1
                omega
              go_roundw
              case rel => exact ⟨k + 1, hm, true, y, D, 0, c1 - 1, [], A', 1, c', _, by omega, by omega, by omega, rfl, rfl, by go_num, HQ7.out, .inr (.inl ⟨rfl, rfl, rfl, HMk.out, ⟨M, by rw [HUs.out]; rfl, hs7⟩, by have := HSt.out; omega⟩)⟩
              case measure => simp [intOf]; omega
        · have hz2 : decide (0 ≤ z) = false := by simp; omega
          have hz3 : (z == -1) = false := by simp; omega
          have hz4 : decide (z < -1) = true := by simp; omega
          by_cases h0 : n2 = 0
          · subst h0
            as_aux_lemma =>
              go_wp2_with fail
              go_roundw
              case rel => exact ⟨k + 1, hm, b, tm, A1, _, c1, vs, A2, _, c2, us, by omega, by omega, by omega, rfl, rfl, by go_num, HQr.out, HPh.out.next hlt⟩
              case measure => simp [intOf]; omega
          · as_aux_lemma =>
              obtain rfl : n2 = 1 := by omega
              have hph : n1 = 0 ∧ b = true ∧ isMask tm = true ∧ BodyIn wr us (tm + 4) := by
                rcases HPh.out with ⟨_, h1, _⟩ | ⟨h1, _, h3, h4, h5, _⟩ | ⟨_, h1, _⟩
                · omega
                · exact ⟨h1, h3, h4, h5⟩
                · omega
              obtain ⟨rfl, rfl, hmk, N, rfl, hs⟩ := hph
              obtain ⟨g, o, c', hv, hc1, hc2, _, _, hcl⟩ := HQr.out.bk.places (by omega)
              injection hv with hA _ hc'
              subst hA hc'
              have c0 : wr.cell? ⟨g, o, none⟩ = some (.slice (some ⟨N, 0, none⟩) 2 2) := hcl 0 _ rfl
              have hsay := saysM_ack hmk
              have HTk : Hid (∀ W, Only (fun _ => False) w W → HdAt W p hm true → Src W (some ⟨N, 0, none⟩) 2 (bodyM (tm + 4)) → Calls Tryd.prog 17 #[.pointer (some ⟨p, 0, none⟩), .slice (some ⟨N, 0, none⟩) 2 2] W fun e w' => e = .returned .nilIface ∧ Hid (HdAt w' p tm false) ∧ Hid (Only (· = p) W w')) := fun W ho h hs => by
                have := mdHear_ok (HE.out.only ho) h 2 hs (by unfold hearNum; rw [hsay]; rfl)
                rw [hsay] at this
                exact this
              have HS := Lib.hid hs
              obtain ⟨D, hD⟩ : ∃ D, (if c2 = 1 then some (⟨g, o, none⟩ : Addr) else some ⟨g, o + 1, none⟩) = D := ⟨_, rfl⟩
              have HD := Lib.hid hD
              clear hmk hcl hs hsay
              go_wp2_with (first
                | (go_at_call 17; (with_reducible refine (HTk.out _ HQr.out.two.only HQr.out.two.hd HS.out).mono ?_); rintro e w5 ⟨rfl, hd5, ho5⟩; have HQ5 := Lib.hid (HQr.out.head ho5.out hd5.out hpq HP.out))
                | fail)
              have htl : RowAt w5 w.heap.size 22 1 (.slice D 0 (c2 - 1)) 0 [] ∧ ∀ i, (Value.slice D 0 (c2 - 1)).ownBlock = some i → (Value.slice (some ⟨g, o, none⟩) 1 c2).ownBlock = some i := by
                have h := HQ5.out.bk
                have hD := HD.out
                by_cases hc : c2 = 1
                · rw [if_pos hc] at hD
                  subst hD
                  exact ⟨RowAt.tail h o (.inr ⟨hc, rfl⟩), fun i hi => hi⟩
                · rw [if_neg hc] at hD
                  subst hD
                  exact ⟨RowAt.tail h (o + 1) (.inl rfl), fun i hi => hi⟩
              have HQ7 := Lib.hid (HQ5.out.came htl.1 htl.2)
              go_roundw
              case rel => exact ⟨k + 1, tm, false, tm, A1, 0, c1, vs, D, 0, c2 - 1, [], by omega, by omega, by omega, rfl, rfl, by go_num, HQ7.out, .inl ⟨rfl, rfl, rfl, rfl⟩⟩
              case measure => simp [intOf]; omega
      · have hltd : decide ((k : Int) < (n : Int)) = false := by simp; omega
        rcases Nat.mod_two_eq_zero_or_one k with hk2 | hk2
        · have hk3 : (k : Int).tmod 2 = 0 := by rw [Int.tmod_eq_emod_of_nonneg (by omega)]; omega
          have hk4 : (k : Int) % 2 = 0 := by omega
          have HK2 := Lib.hid hk2
          clear hk2
          by_cases h0 : n1 = 0
          · subst h0
            as_aux_lemma =>
              go_wp2_with fail
              go_roundw
              case rel => exact ⟨k + 1, hm, b, tm, A1, _, c1, vs, A2, _, c2, us, by omega, by omega, by omega, rfl, rfl, by go_num, HQr.out, HPh.out.even HK2.out rfl⟩
              case measure => simp [intOf]; omega
          · as_aux_lemma =>
              have HK2 := HK2
              obtain rfl : n1 = 1 := by omega
              have hph : n2 = 0 ∧ b = true ∧ isMask hm = true ∧ BodyIn wr vs hm ∧ k + 2 + k % 2 ≤ n + 3 := by
                rcases HPh.out with ⟨h1, _⟩ | ⟨h1, _⟩ | ⟨_, h2, h3, h4, h5, h6⟩
                · omega
                · omega
                · exact ⟨h2, h3, h4, h5, h6⟩
              obtain ⟨rfl, rfl, hmk, ⟨N, rfl, hs⟩, hsteps⟩ := hph
              have hus : us = [] := List.eq_nil_of_length_eq_zero HQr.out.bk.1
              have HUs := Lib.hid hus
              obtain ⟨g, o, c', hv, hc1, hc2, _, _, hcl⟩ := HQr.out.th.places (by omega)
              injection hv with hA _ hc'
              subst hA hc'
              have c0 : wr.cell? ⟨g, o, none⟩ = some (.slice (some ⟨N, 0, none⟩) 2 2) := hcl 0 _ rfl
              have hsay := saysM_body hmk
              have HTk : Hid (∀ W, Only (fun _ => False) w W → TlAt W q T tm → Src W (some ⟨N, 0, none⟩) 2 (bodyM hm) → Calls Tryd.prog 18 #[.pointer (some ⟨q, 0, none⟩), .slice (some ⟨N, 0, none⟩) 2 2] W fun e w' => ∃ M, e = .returned (.tuple #[.slice (some ⟨M, 0, none⟩) 2 2, .nilIface]) ∧ Hid (W.heap.size ≤ M) ∧ Hid (Src w' (some ⟨M, 0, none⟩) 2 (bodyM (both hm T + 4))) ∧ Hid (TlAt w' q T (both hm T)) ∧ Hid (Only (· = q) W w')) := fun W ho h hs => by
                have := mdTake_ok (HE.out.only ho) h HT.out 2 hs (by unfold takeNum; rw [hsay]; rfl)
                rw [hsay] at this
                exact this
              have HMk : Hid (isMask (both hm T) = true) := both_mask hmk HT.out
              have HS := Lib.hid hs
              have HSt := Lib.hid hsteps
              generalize both hm T = y at *
              obtain ⟨D, hD⟩ : ∃ D, (if c1 = 1 then some (⟨g, o, none⟩ : Addr) else some ⟨g, o + 1, none⟩) = D := ⟨_, rfl⟩
              have HD := Lib.hid hD
              have hi0 : (0 : Int) < 1 := by omega
              clear hmk hus hcl hs hsay hsteps
              go_wp2_with (first
                | (go_at_call 18; (with_reducible refine (HTk.out _ HQr.out.two.only HQr.out.two.tl HS.out).mono ?_); rintro e w5 ⟨M, rfl, hM5, hs5, ht5, ho5⟩; have HQ5 := Lib.hid (HQr.out.tail ho5.out ht5.out hpq HQ.out))
                | fail)
              have hwt : ∀ ob, Only (fun _ => False) w5 (w5.alloc ob).drew := fun ob => ((Only.refl _ _).alloc ob).drew
              go_region_held3 (fun _ => True) (trivial)
                (first
                  | ((with_reducible show (if Region.wanted ⟨some 86, _, _, _, _, _⟩ _ = true then _ else _)); refine step_one_rowR rfl (.tmp 83) (.tmp 85) 49 rfl 22 _ 24 Tryd.underlying49 info_body rfl (by omega) w.heap.size A2 0 c2 us rfl (HQ5.out.same (hwt _)).bk w5.heap.size _ rfl ((Blk.new w5 22 [.slice (some ⟨M, 0, none⟩) 2 2]).drew.cell 0) rfl (by omega) (HQ5.out.same (hwt _)).two.only.size ?_; intro A' c' w7 hR7 hG7 hN7))
              go_wp2
              have HQ6 := Lib.hid (HQ5.out.same (hwt (.cells #[.slice (some ⟨M, 0, none⟩) 2 2] 22)))
              have htl : RowAt (w5.alloc (.cells #[.slice (some ⟨M, 0, none⟩) 2 2] 22)).drew w.heap.size 22 1 (.slice D 0 (c1 - 1)) 0 [] ∧ ∀ i, (Value.slice D 0 (c1 - 1)).ownBlock = some i → (Value.slice (some ⟨g, o, none⟩) 1 c1).ownBlock = some i := by
                have h := HQ6.out.th
                have hD := HD.out
                by_cases hc : c1 = 1
                · rw [if_pos hc] at hD
                  subst hD
                  exact ⟨RowAt.tail h o (.inr ⟨hc, rfl⟩), fun i hi => hi⟩
                · rw [if_neg hc] at hD
                  subst hD
                  exact ⟨RowAt.tail h (o + 1) (.inl rfl), fun i hi => hi⟩
              have HQ7 := Lib.hid (HQ6.out.went htl.1 htl.2 hR7.out hG7.out hN7.out)
              have hs7 : Src w7 (some ⟨M, 0, none⟩) 2 (bodyM (y + 4)) := by
                have h6 := hs5.out.only (hwt (.cells #[.slice (some ⟨M, 0, none⟩) 2 2] 22)) (fun _ _ _ h => h)
                refine h6.only (Only.grown (S := (fun i => (Value.slice A2 0 c2).ownBlock = some i)) (Only.refl _ _) hG7.out (fun i hi => .inl hi)) (fun _ ad e hb => ?_)
                injection e with e
                subst e
                have h1 := (HQr.out.bk.lt _ hb).2
                have h2 := hM5.out
                simp at h1
                omega
              go_roundw
              case rel => exact ⟨k + 1, hm, true, y, D, 0, c1 - 1, [], A', 1, c', _, by omega, by omega, by omega, rfl, rfl, by go_num, HQ7.out, .inr (.inl ⟨rfl, rfl, rfl, HMk.out, ⟨M, by rw [HUs.out]; rfl, hs7⟩, by have := HSt.out; omega⟩)⟩
              case measure => simp [intOf]; omega
        · have hk3 : (k : Int).tmod 2 = 1 := by rw [Int.tmod_eq_emod_of_nonneg (by omega)]; omega
          have hk4 : (k : Int) % 2 = 1 := by omega
          have HK2 := Lib.hid hk2
          clear hk2
          by_cases h0 : n2 = 0
          · subst h0
            as_aux_lemma =>
              go_wp2_with fail
              go_roundw
              case rel => exact ⟨k + 1, hm, b, tm, A1, _, c1, vs, A2, _, c2, us, by omega, by omega, by omega, rfl, rfl, by go_num, HQr.out, HPh.out.odd HK2.out rfl⟩
              case measure => simp [intOf]; omega
          · as_aux_lemma =>
              obtain rfl : n2 = 1 := by omega
              have hph : n1 = 0 ∧ b = true ∧ isMask tm = true ∧ BodyIn wr us (tm + 4) := by
                rcases HPh.out with ⟨_, h1, _⟩ | ⟨h1, _, h3, h4, h5, _⟩ | ⟨_, h1, _⟩
                · omega
                · exact ⟨h1, h3, h4, h5⟩
                · omega
              obtain ⟨rfl, rfl, hmk, N, rfl, hs⟩ := hph
              obtain ⟨g, o, c', hv, hc1, hc2, _, _, hcl⟩ := HQr.out.bk.places (by omega)
              injection hv with hA _ hc'
              subst hA hc'
              have c0 : wr.cell? ⟨g, o, none⟩ = some (.slice (some ⟨N, 0, none⟩) 2 2) := hcl 0 _ rfl
              have hsay := saysM_ack hmk
              have HTk : Hid (∀ W, Only (fun _ => False) w W → HdAt W p hm true → Src W (some ⟨N, 0, none⟩) 2 (bodyM (tm + 4)) → Calls Tryd.prog 17 #[.pointer (some ⟨p, 0, none⟩), .slice (some ⟨N, 0, none⟩) 2 2] W fun e w' => e = .returned .nilIface ∧ Hid (HdAt w' p tm false) ∧ Hid (Only (· = p) W w')) := fun W ho h hs => by
                have := mdHear_ok (HE.out.only ho) h 2 hs (by unfold hearNum; rw [hsay]; rfl)
                rw [hsay] at this
                exact this
              have HS := Lib.hid hs
              obtain ⟨D, hD⟩ : ∃ D, (if c2 = 1 then some (⟨g, o, none⟩ : Addr) else some ⟨g, o + 1, none⟩) = D := ⟨_, rfl⟩
              have HD := Lib.hid hD
              clear hmk hcl hs hsay
              go_wp2_with (first
                | (go_at_call 17; (with_reducible refine (HTk.out _ HQr.out.two.only HQr.out.two.hd HS.out).mono ?_); rintro e w5 ⟨rfl, hd5, ho5⟩; have HQ5 := Lib.hid (HQr.out.head ho5.out hd5.out hpq HP.out))
                | fail)
              have htl : RowAt w5 w.heap.size 22 1 (.slice D 0 (c2 - 1)) 0 [] ∧ ∀ i, (Value.slice D 0 (c2 - 1)).ownBlock = some i → (Value.slice (some ⟨g, o, none⟩) 1 c2).ownBlock = some i := by
                have h := HQ5.out.bk
                have hD := HD.out
                by_cases hc : c2 = 1
                · rw [if_pos hc] at hD
                  subst hD
                  exact ⟨RowAt.tail h o (.inr ⟨hc, rfl⟩), fun i hi => hi⟩
                · rw [if_neg hc] at hD
                  subst hD
                  exact ⟨RowAt.tail h (o + 1) (.inl rfl), fun i hi => hi⟩
              have HQ7 := Lib.hid (HQ5.out.came htl.1 htl.2)
              go_roundw
              case rel => exact ⟨k + 1, tm, false, tm, A1, 0, c1, vs, D, 0, c2 - 1, [], by omega, by omega, by omega, rfl, rfl, by go_num, HQ7.out, .inl ⟨rfl, rfl, rfl, rfl⟩⟩
              case measure => simp [intOf]; omega
    · obtain rfl : k = n + 130 := by omega
      have hfin : n1 = 0 ∧ n2 = 0 ∧ b = false ∧ hm = tm := by
        rcases HPh.out with h | ⟨_, _, _, _, _, h⟩ | ⟨_, _, _, _, _, h⟩
        · exact h
        · omega
        · omega
      obtain ⟨rfl, rfl, rfl, rfl⟩ := hfin
      have hmm : (hm == hm) = true := by simp
      go_wp2_with (first
        | (go_at_call 20; (with_reducible refine (mdMask_any HQr.out.two.hd).mono ?_); rintro e w' ⟨rfl, e1⟩; subst w')
        | (go_at_call 21; (with_reducible refine (mdWaits_any HQr.out.two.hd).mono ?_); rintro e w' ⟨rfl, e1⟩; subst w')
        | (go_at_call 22; (with_reducible refine (mdTMask_any HQr.out.two.tl).mono ?_); rintro e w' ⟨rfl, e1⟩; subst w')
        | fail)
      go_ret
      exact ⟨rfl, HQr.out.two.only⟩

theorem modeRests_facts {W : World} (h : laidMetH Tryd.prog Rows.modeRestsRow.laid W) : ∃ es, MdW W es := by
  rw [MakeChecks.laidMetH_plain _ _ _ (by kernel_rfl)] at h
  have h6 : laidMet Tryd.prog (Rows.modeRestsRow.laid.take 6) W := laid_front (l2 := Rows.modeRestsRow.laid.drop 6) (by rw [List.take_append_drop]; exact h)
  obtain ⟨es, hes⟩ := errs_of_sel [2, 3, 4, 7, 8, 9] (Rows.modeRestsRow.laid.take 6) h6 (by kernel_rfl) (by decide) (by
    intro x hx
    simp only [Rows.modeRestsRow, List.take_succ_cons, List.take_zero, List.mem_cons, List.not_mem_nil, or_false] at hx
    rcases hx with rfl | rfl | rfl | rfl | rfl | rfl <;> exact ⟨_, rfl⟩) (by kernel_rfl) (by decide)
  exact ⟨es, hes, bits_fact h (by simp [Rows.modeRestsRow])⟩

theorem modeRests_walk (W : World) (can : Int) {A : Option Addr} {n cap fuel : Nat} {H : Type} {enc : TypeId × Value → H} {x : DataW H × List MemPlace} (hf : DataW.trod enc Tryd.prog W 0 (fun _ => true) true fuel 48 [.slice A n cap] = some x)
    (hF : ∃ es, MdW W es) : Calls Tryd.prog 5 #[.int .i64 can, .slice A n cap] W (Fine W) := by
  obtain ⟨es, hW⟩ := hF
  obtain ⟨A', n', c', zs, e, hz, _, _, h64⟩ := opened_ints64 hf
  injection e with e1 e2 e3
  subst e1 e2 e3
  by_cases h : 60 < n
  · exact mrests_long hW can A n cap h
  · exact mrests_ok hW can cap hz h64 (by omega)
end Go.Proofs.YtefcgbkbgkllaaaDoor
