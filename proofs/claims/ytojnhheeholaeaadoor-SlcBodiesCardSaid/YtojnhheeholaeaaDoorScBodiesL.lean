/- SlcBodies, walked. -/
import Derived.Test.YtojnhheeholaeaaDoorScRefParse
import Derived.Test.YtojnhheeholaeaaDoorScAlive
import Derived.Test.YtojnhheeholaeaaDoorScEqs
import Derived.Test.YtojnhheeholaeaaDoorScRefNew
import Derived.Deep.RegionHeld3
namespace Go.Proofs.YtojnhheeholaeaaDoor
open Go Go.ChangeShapes Go.WideShapes Go.ChangeAt Go.RowKit
set_option maxRecDepth 100000
set_option maxHeartbeats 4000000

theorem ls_own {w : World} {B n c : Nat} {A : Option Addr} {L : List Tr} {e : TypeId} (h : w.ownsRow B e 4 (.slice A n c) n (csT L)) (hl : n = L.length) : TrAt w A n L :=
  ⟨hl.symm, fun i x hx => by
    have hi := (List.getElem?_eq_some_iff.1 hx).1
    obtain ⟨g, e, _, hg, hc⟩ := own_at h (by omega)
    refine ⟨g, 0, e, hg, fun j v hv => ?_⟩
    rw [Nat.zero_add]
    exact hc _ v (flat_at (cs := Tr.cs) (m := 4) (fun _ => rfl) hv hx)⟩
theorem ls_nil (w : World) (A : Option Addr) : TrAt w A 0 [] := ⟨rfl, fun i x hx => by simp at hx⟩
theorem bodies_long (w : World) {A A' : Option Addr} {n c m c' : Nat} (h : 100 < n ∨ 300 < m) : Calls Tryd.prog 4 #[.slice A n c, .slice A' m c'] w (Fine w) := by
  have HA := Lib.hid (fun W => sc_alive W)
  have hh : decide ((100 : Int) < (n : Int)) = true ∨ (decide ((100 : Int) < (n : Int)) = false ∧ decide ((300 : Int) < (m : Int)) = true) := by
    by_cases h1 : 100 < n
    · exact .inl (by simp; omega)
    · exact .inr ⟨by simp; omega, by simp; omega⟩
  clear h
  rcases hh with hd | ⟨hd, hd2⟩
  all_goals
    go_enter Tryd.func4, Tryd.ntmps4
    go_wp2_with (go_at_call 6; refine (HA.out _).mono ?_; rintro e w1 ⟨rfl, ho1⟩; have HO1 := Lib.hid ho1; clear ho1)
    go_ret
    exact ⟨rfl, HO1.out⟩

/-- What Body answers, whatever. -/
theorem body_any {w : World} {es : List Addr} (hes : ErrsOf w [2, 3, 4] es) {A : Option Addr} {n c : Nat} {L : List Tr} (h : TrAt w A n L) (hn : n ≤ 100) :
    Calls Tryd.prog 21 #[.slice A n c] w fun e w' => ∃ A' m c' E, e = .returned (.tuple #[.slice A' m c', E]) ∧ ErrV es E (bodyN L) ∧ (bodyN L = 0 → E = .nilIface) ∧ (bodyN L ≠ 0 → ∃ a : Addr, E = .iface 103 (.pointer (some a))) ∧ m = (bodyOut L).length ∧ m ≤ c' ∧ c' ≤ 9223372036854775807 ∧ Src w' A' m (bodyOut L) ∧ Only (fun _ => False) w w' := by
  have hl := h.1
  cases hall : L.all Tr.right
  · have e0 : bodyN L = 5 := by unfold bodyN; rw [if_neg (by rw [hall]; decide)]
    have e1 : bodyOut L = [] := by unfold bodyOut; rw [if_neg (by omega)]
    rw [e0, e1]
    refine (body_form hes h hn hall).mono ?_
    rintro e w' ⟨a, ha, rfl, ho⟩
    exact ⟨_, 0, 0, _, rfl, ErrV.err ha 5 rfl, fun h => by omega, fun _ => ⟨a, rfl⟩, rfl, Nat.le_refl _, by omega, Src.nil _ _, ho⟩
  · by_cases h85 : 85 < n
    · have e0 : bodyN L = 4 := by unfold bodyN; rw [if_pos hall, if_pos (by omega)]
      have e1 : bodyOut L = [] := by unfold bodyOut; rw [if_neg (by omega)]
      rw [e0, e1]
      refine (body_long hes h hn hall h85).mono ?_
      rintro e w' ⟨a, ha, rfl, ho⟩
      exact ⟨_, 0, 0, _, rfl, ErrV.err ha 4 rfl, fun h => by omega, fun _ => ⟨a, rfl⟩, rfl, Nat.le_refl _, by omega, Src.nil _ _, ho⟩
    · have e0 : bodyN L = 0 := by unfold bodyN; rw [if_pos hall, if_neg (by omega)]
      have e1 : bodyOut L = bodyB L := by unfold bodyOut; rw [if_pos e0]
      rw [e0, e1]
      refine (body_ok h hall (by omega)).mono ?_
      rintro e w' ⟨A', m, c', rfl, hm, hb, ho⟩
      have hle := own_le (show w'.ownsRow _ _ _ (.slice A' m c') m _ by rw [hm]; unfold Body at hb; rw [← hm]; rw [hm]; exact hm ▸ hb)
      exact ⟨A', m, c', _, rfl, ErrV.nil es, fun _ => rfl, fun h => absurd rfl h, hm, hle.1, hle.2, hb.src hm, ho⟩
/-- What bytes' triples are, and the error's number. -/
def parseR (bs : List UInt8) : List Tr := if bs.length % 3 = 0 then parseB bs else []
def parseN (bs : List UInt8) : Nat := if bs.length % 3 = 0 then 0 else 3
theorem parse_any {w : World} {es : List Addr} (hes : ErrsOf w [2, 3, 4] es) {A : Option Addr} {n c : Nat} {bs : List UInt8} (h : Src w A n bs) (hnc : n ≤ c) (hc : c ≤ 9223372036854775807) (hn : n ≤ 1000) :
    Calls Tryd.prog 23 #[.slice A n c] w fun e w' => ∃ A' m c' E, e = .returned (.tuple #[.slice A' m c', E]) ∧ ErrV es E (parseN bs) ∧ (parseN bs = 0 → E = .nilIface) ∧ m = (parseR bs).length ∧ TrAt w' A' m (parseR bs) ∧ Only (fun _ => False) w w' := by
  have hl := h.1
  by_cases h3 : n % 3 = 0
  · have e0 : parseN bs = 0 := by unfold parseN; rw [if_pos (by rw [hl]; exact h3)]
    have e1 : parseR bs = parseB bs := by unfold parseR; rw [if_pos (by rw [hl]; exact h3)]
    rw [e0, e1]
    refine (parse_ok h hnc hc h3 hn).mono ?_
    rintro e w' ⟨A', m, c', rfl, hm, ho, hon⟩
    exact ⟨A', m, c', _, rfl, ErrV.nil es, fun _ => rfl, hm, ls_own ho hm, hon⟩
  · have e0 : parseN bs = 3 := by unfold parseN; rw [if_neg (by rw [hl]; exact h3)]
    have e1 : parseR bs = [] := by unfold parseR; rw [if_neg (by rw [hl]; exact h3)]
    rw [e0, e1]
    refine (parse_short hes A n c h3 hn).mono ?_
    rintro e w' ⟨a, ha, rfl, ho⟩
    exact ⟨_, 0, 0, _, rfl, ErrV.err ha 3 rfl, fun h => by omega, rfl, ls_nil _ _, ho⟩
theorem rparse_any (w : World) (bs : List UInt8) (hn : bs.length ≤ 1000) :
    Calls Tryd.prog 24 #[.string ⟨bs.toArray⟩] w fun e w' => ∃ A' m c', e = .returned (.tuple #[.slice A' m c', .int .i64 (parseN bs : Int)]) ∧ m = (parseR bs).length ∧ TrAt w' A' m (parseR bs) ∧ Only (fun _ => False) w w' := by
  by_cases h3 : bs.length % 3 = 0
  · have e0 : parseN bs = 0 := by unfold parseN; rw [if_pos h3]
    have e1 : parseR bs = parseB bs := by unfold parseR; rw [if_pos h3]
    rw [e0, e1]
    refine (rparse_ok w bs h3 hn).mono ?_
    rintro e w' ⟨A', m, c', rfl, hm, ho, hon⟩
    exact ⟨A', m, c', rfl, hm, ls_own ho hm, hon⟩
  · have e0 : parseN bs = 3 := by unfold parseN; rw [if_neg h3]
    have e1 : parseR bs = [] := by unfold parseR; rw [if_neg h3]
    rw [e0, e1]
    refine (rparse_short w bs h3 hn).mono ?_
    rintro e w' ⟨rfl, ho⟩
    exact ⟨_, 0, 0, rfl, rfl, ls_nil _ _, ho⟩

theorem bodies_ok (w : World) {es : List Addr} (hes : ErrsAt w es) {A A' : Option Addr} {n c m c' : Nat} {L : List Tr} {bs : List UInt8} (hl : TrAt w A n L) (hb : Src w A' m bs) (hmc : m ≤ c') (hc : c' ≤ 9223372036854775807) (hn : n ≤ 100) (hm : m ≤ 300) :
    Calls Tryd.prog 4 #[.slice A n c, .slice A' m c'] w (Fine w) := by
  have HA := Lib.hid (fun W => sc_alive W)
  have HOf := Lib.hid (fun W t => of_any W t)
  have HE := Lib.hid hes
  have HL := Lib.hid hl
  have HBs := Lib.hid hb
  have HBd : Hid (∀ W, Only (fun _ => False) w W → _) := fun W (ho : Only (fun _ => False) w W) => body_any (c := c) ((hes.of [2, 3, 4]).only ho) (hl.same ho) hn
  have HRb : Hid (∀ W (D : Option Addr) (cd : Nat), TrAt W D n L → _) := fun W D cd (h : TrAt W D n L) => rbody_any (c := cd) h hn
  have HPb : Hid (∀ W, Only (fun _ => False) w W → _) := fun W (ho : Only (fun _ => False) w W) => parse_any ((hes.of [2, 3, 4]).only ho) (hb.only ho (fun _ _ _ h => h)) hmc hc (by omega)
  have HQb := Lib.hid (fun W => rparse_any W bs (by have := hb.1; omega))
  have HTb := Lib.hid (hb.texts c')
  obtain ⟨N, hN⟩ : ∃ N, N = bodyN L := ⟨_, rfl⟩
  obtain ⟨O, hO⟩ : ∃ O, O = bodyOut L := ⟨_, rfl⟩
  obtain ⟨R, hR⟩ : ∃ R, R = parseR bs := ⟨_, rfl⟩
  obtain ⟨z, hz⟩ : ∃ z, z = parseN bs := ⟨_, rfl⟩
  simp only [← hN, ← hO] at HBd HRb
  simp only [← hR, ← hz] at HPb HQb
  have HRl : Hid (R.length ≤ 1000) := by
    show R.length ≤ 1000
    rw [hR]
    unfold parseR
    split
    · have := parseB_len _ bs (Nat.le_refl _)
      have := hb.1
      omega
    · simp
  have HNO : Hid (N = 0 → O = bodyB L ∧ L.all Tr.right = true) := by
    intro h
    rw [hN] at h
    refine ⟨by rw [hO, bodyOut, if_pos h], ?_⟩
    unfold bodyN at h
    split at h
    · assumption
    · omega
  obtain ⟨i, hi, hz', h1, h2⟩ := infoK info_rtri
  have HI := Lib.hid hi
  have HZ := Lib.hid hz'
  have HI1 := Lib.hid h1
  have HI2 := Lib.hid h2
  have hd : decide ((100 : Int) < (n : Int)) = false := by simp; omega
  have hd2 : decide ((300 : Int) < (m : Int)) = false := by simp; omega
  clear hes hl hb hN hO hR hz hi hz' h1 h2
  go_enter Tryd.func4, Tryd.ntmps4
  go_wp2_with (first
    | (go_at_call 6; refine (HA.out _).mono ?_; rintro e w1 ⟨rfl, ho1⟩; have HO1 := Lib.hid ho1; clear ho1)
    | fail)
  have HB0 : Hid ((w1.alloc (.cells #[] 41)).ownsRow w.heap.size 41 4 (.slice (some ⟨w1.heap.size, 0, none⟩) (0 : Nat) 0) 0 (csT [])) := own_of_blk (cur := []) (Blk.new w1 _ []) rfl rfl (by omega) (by omega) HO1.out.size
  have HO0 : Hid (Only (fun _ => False) w (w1.alloc (.cells #[] 41))) := HO1.out.alloc _
  obtain ⟨N1, hN1⟩ : ∃ N, N = (some (⟨w1.heap.size, 0, none⟩ : Addr)) := ⟨_, rfl⟩
  rw [← hN1] at HB0 ⊢
  generalize w1.alloc (.cells #[] 41) = w2 at *
  clear hN1 HO1
  go_loopw [5, 33] (fun a i W => ∃ (k : Nat) (D : Option Addr) (cd : Nat), k ≤ n ∧ a = .slice D k cd ∧ i = .int .i64 (k : Int) ∧ Hid (W.ownsRow w.heap.size 41 4 (.slice D k cd) k (csT (L.take k)) ∧ Only (fun _ => False) w W)) (fun _ i _ => n - (intOf i).toNat)
  case atStart => exact ⟨0, N1, 0, Nat.zero_le _, rfl, rfl, HB0.out, HO0.out⟩
  case round =>
    obtain ⟨k, D, cd, hk, rfl, rfl, hrel⟩ := hrel
    by_cases hlt : k < n
    · have hlt2 : (k : Int) < (n : Int) := by omega
      obtain ⟨x, hx⟩ : ∃ x, L[k]? = some x := ⟨_, List.getElem?_eq_getElem (by rw [HL.out.1]; omega)⟩
      obtain ⟨b, off, rfl, hbl, hrg⟩ := (HL.out.same hrel.out.2).2 k x hx
      have HTk : Hid (csT (L.take (k + 1)) = csT (L.take k) ++ x.cs) := by
        show csT (L.take (k + 1)) = _
        rw [take_snoc hx, csT_append, csT_one]
      have HRg := Lib.hid hrg
      have HOx := Lib.hid (fun W => HOf.out W x)
      obtain ⟨xf, ⟨xl, xv⟩, xa⟩ := x
      clear hx hrg
      go_wp2_with (first
        | ((with_reducible show wpList _ _ _ (⟨some 36, _, _, _, _, _⟩ :: _) _ _); refine wpList_load_mid rfl 34 _ rfl b (off + k * 4) rfl [.int .i64 xf, .int .i64 xl, .int .i64 xv, .bool xa] _ HRg.out Tryd.underlying34 rfl size_tri ?_)
        | (go_at_call 12; refine (HOx.out _).mono ?_; rintro e w5 ⟨rfl, ho5⟩; have HO5 : Hid (Only (fun _ => False) wr w5) := ((Only.refl _ _).alloc _).trans ho5 (fun _ h => h.elim); clear ho5)
        | ((with_reducible show wpList _ _ _ (⟨some 41, _, _, _, _, _⟩ :: _) _ _); refine step_append_own rfl (.tmp 37) (.tmp 40) 63 rfl w.heap.size 41 i _ 4 32 Tryd.underlying63 HI.out HZ.out HI1.out HI2.out rfl (by omega) (.slice D k cd) k (csT (L.take k)) rfl (own_same hrel.out.1 (HO5.out.alloc _)) (some ⟨w5.heap.size, 0, none⟩) 1 1 [.int .i64 xf, .int .i64 xl, .int .i64 xv, .bool xa] rfl rfl (fun _ => ⟨_, rfl, fun j u hj => by rw [at_add]; exact ((Blk.new w5 _ [.int .i64 xf, .int .i64 xl, .int .i64 xv, .bool xa]).cell j).trans hj⟩) (Tr.cs_one ⟨xf, ⟨xl, xv⟩, xa⟩) (by omega) (by omega) (Nat.le_trans (hrel.out.2.trans HO5.out (fun _ h => h.elim)).size (by simp)) ?_; intro A7 c7 w7 hq1 hq2 hq3; have HOw7 := Lib.hid hq3.out.1; have HOn7 : Hid (Only (fun _ => False) w w7) := Only.grown ((hrel.out.2.trans HO5.out (fun _ h => h.elim)).alloc _) hq3.out.2.1 (fun k hk => .inr (own_lt hrel.out.1 k hk).1); clear hq1 hq2 hq3)
        | fail)
      go_roundw
      case rel => exact ⟨k + 1, A7, c7, by omega, rfl, by go_num, by rw [HTk.out]; exact HOw7.out, HOn7.out⟩
      case measure => simp [intOf]; omega
    · obtain rfl : k = n := by omega
      have HTd : Hid (TrAt wr D k L) := by
        have ho := hrel.out.1
        rw [List.take_of_length_le (by rw [HL.out.1]; exact Nat.le_refl _)] at ho
        exact ls_own ho HL.out.1.symm
      have HOr := Lib.hid hrel.out.2
      clear hrel hlt
      by_cases hN0 : N = 0
      · subst hN0
        obtain ⟨hO, hall⟩ := HNO.out rfl
        have HOb := Lib.hid hO
        have HAl := Lib.hid hall
        clear HNO hO hall
        go_wp2_with (first
          | (go_at_call 21; refine (HBd.out _ HOr.out).mono ?_; rintro e w5 ⟨X5, m5, c5, E, rfl, hE, hEn, _, hm5, hmc5, hc5, hs5, ho5⟩; obtain rfl := hEn rfl; have HS5 := Lib.hid hs5; have HM5 := Lib.hid hm5; have HO5 : Hid (Only (fun _ => False) w w5) := HOr.out.trans ho5 (fun _ h => h.elim); have HT5 := Lib.hid (HTd.out.same ho5); have HEv := Lib.hid hE; clear hs5 hm5 ho5 hE)
          | (go_at_call 22; refine (HRb.out _ _ _ HT5.out).mono ?_; rintro e w6 ⟨rfl, ho6⟩; have HO6 : Hid (Only (fun _ => False) w w6) := HO5.out.trans ho6 (fun _ h => h.elim); have HS6 := Lib.hid (HS5.out.only ho6 (fun _ _ _ h => h)); have hcv := HS6.out.texts c5 w6 (Only.refl _ _); have HNm : Hid (∀ W, Only (fun _ => False) w W → Calls Tryd.prog 15 #[.nilIface] W fun e w' => e = .returned (.int .i64 (0 : Int)) ∧ Only (fun _ => False) W w') := fun W ho => num_any (HE.out.only ho) HEv.out; clear ho6)
          | ((with_reducible show Calls _ 15 _ w6 _); refine (HNm.out _ HO6.out).mono ?_; rintro e w7 ⟨rfl, ho7⟩; have HO7 : Hid (Only (fun _ => False) w w7) := HO6.out.trans ho7 (fun _ h => h.elim); have HS7 := Lib.hid (HS6.out.only ho7 (fun _ _ _ h => h)); clear ho7)
          | (go_at_call 23; refine (parse_ok HS7.out hmc5 hc5 (by have := HM5.out; rw [HOb.out, bodyB_len] at this; omega) (by have := HM5.out; rw [HOb.out, bodyB_len, HL.out.1] at this; omega)).mono ?_; rintro e w8 ⟨B8, m8, c8, rfl, hm8, hr8, ho8⟩; have HB8 := Lib.hid (ls_own hr8 hm8); have HM8 := Lib.hid hm8; have HO8 : Hid (Only (fun _ => False) w w8) := HO7.out.trans ho8 (fun _ h => h.elim); obtain rfl : m8 = k := (by rw [hm8, HOb.out, parse_body HAl.out]; exact HL.out.1); clear hm8 hr8 ho8)
          | fail)
        go_loopw [81] (fun i W => ∃ j : Nat, j ≤ m8 ∧ i = .int .i64 (j : Int) ∧ Hid (Only (fun _ => False) w8 W)) (fun i _ => m8 - (intOf i).toNat)
        case atStart => exact ⟨0, Nat.zero_le _, rfl, Only.refl _ _⟩
        case round =>
          obtain ⟨j, hj, rfl, hrel⟩ := hrel
          have HRel := Lib.hid hrel.out
          have HORel : Hid (Only (fun _ => False) w wr) := HO8.out.trans hrel.out (fun _ h => h.elim)
          clear hrel
          by_cases hlt : j < m8
          · have hlt2 : (j : Int) < (m8 : Int) := by omega
            obtain ⟨x, hx⟩ : ∃ x, L[j]? = some x := ⟨_, List.getElem?_eq_getElem (by rw [HL.out.1]; exact hlt)⟩
            have hpb : parseB O = L := by rw [HOb.out, parse_body HAl.out]
            obtain ⟨b, off, rfl, hbl, hrg⟩ := (HB8.out.same HRel.out).2 j x (by rw [hpb]; exact hx)
            obtain ⟨b2, off2, rfl, hbl2, hrg2⟩ := (HL.out.same HORel.out).2 j x hx
            have HRg := Lib.hid hrg
            have HRg2 := Lib.hid hrg2
            obtain ⟨xf, ⟨xl, xv⟩, xa⟩ := x
            have heq : ∀ W, _ := fun W => eq_tri W xf xl xv xa
            have hgr := guard_tri'
            have hr0 : ∀ ob, (wr.alloc ob).cell? ⟨b2, off2 + j * 4, none⟩ = some (.int .i64 xf) := fun ob => ((Only.refl (fun _ => False) wr).alloc ob).cellv (HRg2.out 0 _ rfl) (fun h => h)
            have hr1 : ∀ ob, (wr.alloc ob).cell? ⟨b2, off2 + j * 4 + 1, none⟩ = some (.int .i64 xl) := fun ob => ((Only.refl (fun _ => False) wr).alloc ob).cellv (HRg2.out 1 _ rfl) (fun h => h)
            have hr2 : ∀ ob, (wr.alloc ob).cell? ⟨b2, off2 + j * 4 + 2, none⟩ = some (.int .i64 xv) := fun ob => ((Only.refl (fun _ => False) wr).alloc ob).cellv (HRg2.out 2 _ rfl) (fun h => h)
            have hr3 : ∀ ob, (wr.alloc ob).cell? ⟨b2, off2 + j * 4 + 3, none⟩ = some (.bool xa) := fun ob => ((Only.refl (fun _ => False) wr).alloc ob).cellv (HRg2.out 3 _ rfl) (fun h => h)
            clear hx hrg hrg2 hpb
            go_wp2_with (first
              | ((with_reducible show wpList _ _ _ (⟨some 85, _, _, _, _, _⟩ :: _) _ _); refine wpList_load_mid rfl 34 _ rfl b (off + j * 4) rfl [.int .i64 xf, .int .i64 xl, .int .i64 xv, .bool xa] _ HRg.out Tryd.underlying34 rfl size_tri ?_)
              | fail)
            go_quiet (fail)
            go_wp2
            go_roundw
            case rel => exact ⟨j + 1, by omega, by go_num, (HRel.out.alloc _).drewN _⟩
            case measure => simp [intOf]; omega
          · obtain rfl : j = m8 := by omega
            clear hlt
            go_wp2_with (first
              | (go_at_call 23; refine (HPb.out _ HORel.out).mono ?_; rintro e u1 ⟨P1, k1, d1, E1, rfl, hE1, _, hk1, ht1, ho1⟩; have HP1 := Lib.hid ht1; have HK1 := Lib.hid hk1; have HU1 : Hid (Only (fun _ => False) w u1) := HORel.out.trans ho1 (fun _ h => h.elim); have HEv1 := Lib.hid hE1; have hcv1 := HTb.out u1 HU1.out; clear ht1 hk1 ho1 hE1)
              | (go_at_call 24; refine (HQb.out _).mono ?_; rintro e u2 ⟨Q1, k2, d2, rfl, hk2, ht2, ho2⟩; have HQ1 := Lib.hid ht2; have HK2 := Lib.hid hk2; have HP2 := Lib.hid (HP1.out.same ho2); have HU2 : Hid (Only (fun _ => False) w u2) := HU1.out.trans ho2 (fun _ h => h.elim); have HNm1 : Hid (∀ W, Only (fun _ => False) w W → Calls Tryd.prog 15 #[E1] W fun e w' => e = .returned (.int .i64 (z : Int)) ∧ Only (fun _ => False) W w') := fun W ho => num_any (HE.out.only ho) HEv1.out; obtain rfl : k2 = k1 := hk2.trans HK1.out.symm; clear ht2 hk2 ho2)
              | ((with_reducible show Calls _ 15 _ u2 _); refine (HNm1.out _ HU2.out).mono ?_; rintro e u3 ⟨rfl, ho3⟩; have HU3 : Hid (Only (fun _ => False) w u3) := HU2.out.trans ho3 (fun _ h => h.elim); have HP3 := Lib.hid (HP2.out.same ho3); have HQ3 := Lib.hid (HQ1.out.same ho3); clear ho3)
              | fail)
            have hk1000 : k2 ≤ 1000 := by have := HK1.out; have := HRl.out; omega
            go_loopw [117] (fun i W => ∃ j : Nat, j ≤ k2 ∧ i = .int .i64 (j : Int) ∧ Hid (Only (fun _ => False) u3 W)) (fun i _ => k2 - (intOf i).toNat)
            case atStart => exact ⟨0, Nat.zero_le _, rfl, Only.refl _ _⟩
            case round =>
              obtain ⟨j, hj, rfl, hrel⟩ := hrel
              have HRel := Lib.hid hrel.out
              clear hrel
              by_cases hlt : j < k2
              · have hlt2 : (j : Int) < (k2 : Int) := by omega
                obtain ⟨x, hx⟩ : ∃ x, R[j]? = some x := ⟨_, List.getElem?_eq_getElem (by rw [← HK1.out]; exact hlt)⟩
                obtain ⟨b, off, rfl, hbl, hrg⟩ := (HP3.out.same HRel.out).2 j x hx
                have HQr := Lib.hid (HQ3.out.same HRel.out)
                obtain ⟨b2, off2, rfl, hbl2, hrg2⟩ := HQr.out.2 j x hx
                have HRg := Lib.hid hrg
                have HRg2 := Lib.hid hrg2
                have HOx := Lib.hid (fun W => HOf.out W x)
                obtain ⟨xf, ⟨xl, xv⟩, xa⟩ := x
                have heq : ∀ W, _ := fun W => eq_rtri W xf xl xv xa
                have hgr := guard_rtri
                clear hx hrg hrg2
                go_wp2_with (first
                  | ((with_reducible show wpList _ _ _ (⟨some 121, _, _, _, _, _⟩ :: _) _ _); refine wpList_load_mid rfl 34 _ rfl b (off + j * 4) rfl [.int .i64 xf, .int .i64 xl, .int .i64 xv, .bool xa] _ HRg.out Tryd.underlying34 rfl size_tri ?_)
                  | fail)
                have HBt := Lib.hid (Blk.new wr 34 [.int .i64 xf, .int .i64 xl, .int .i64 xv, .bool xa])
                have HOt : Hid (Only (fun _ => False) wr (wr.alloc (.cells #[.int .i64 xf, .int .i64 xl, .int .i64 xv, .bool xa] 34))) := (Only.refl _ _).alloc _
                obtain ⟨V, hV⟩ : ∃ V, V = wr.heap.size := ⟨_, rfl⟩
                rw [← hV] at HBt ⊢
                clear hV
                generalize wr.alloc (.cells #[.int .i64 xf, .int .i64 xl, .int .i64 xv, .bool xa] 34) = v1 at *
                have HK : Hid (∀ W, Only (fun _ => False) v1 W → (W.cell? ⟨V, 0, none⟩ = some (.int .i64 xf) ∧ W.cell? ⟨V, 1, none⟩ = some (.int .i64 xl) ∧ W.cell? ⟨V, 2, none⟩ = some (.int .i64 xv) ∧ W.cell? ⟨V, 3, none⟩ = some (.bool xa)) ∧ W.cell? ⟨b2, off2 + j * 4, none⟩ = some (.int .i64 xf) ∧ W.cell? ⟨b2, off2 + j * 4 + 1, none⟩ = some (.int .i64 xl) ∧ W.cell? ⟨b2, off2 + j * 4 + 2, none⟩ = some (.int .i64 xv) ∧ W.cell? ⟨b2, off2 + j * 4 + 3, none⟩ = some (.bool xa)) := fun W ho => by
                  have hb := HBt.out.only ho (fun h => h)
                  have hot := HOt.out.trans ho (fun _ h => h.elim)
                  exact ⟨⟨hb.cell 0, hb.cell 1, hb.cell 2, hb.cell 3⟩, hot.cellv (HRg2.out 0 _ rfl) (fun h => h), hot.cellv (HRg2.out 1 _ rfl) (fun h => h), hot.cellv (HRg2.out 2 _ rfl) (fun h => h), hot.cellv (HRg2.out 3 _ rfl) (fun h => h)⟩
                go_region_held3 (fun W => (W.cell? ⟨V, 0, none⟩ = some (.int .i64 xf) ∧ W.cell? ⟨V, 1, none⟩ = some (.int .i64 xl) ∧ W.cell? ⟨V, 2, none⟩ = some (.int .i64 xv) ∧ W.cell? ⟨V, 3, none⟩ = some (.bool xa)) ∧ W.cell? ⟨b2, off2 + j * 4, none⟩ = some (.int .i64 xf) ∧ W.cell? ⟨b2, off2 + j * 4 + 1, none⟩ = some (.int .i64 xl) ∧ W.cell? ⟨b2, off2 + j * 4 + 2, none⟩ = some (.int .i64 xv) ∧ W.cell? ⟨b2, off2 + j * 4 + 3, none⟩ = some (.bool xa))
                  (first | exact HK.out _ (Only.refl _ _).drew | exact HK.out _ HO20.out)
                  (first
                    | (go_at_call 12; (with_reducible refine (HOx.out _).mono ?_); rintro e w20 ⟨rfl, ho20⟩; have HO20 : Hid (Only (fun _ => False) v1 w20) := (Only.refl _ _).drew.trans ho20 (fun _ h => h.elim); clear ho20))
                go_wp2
                go_roundw
                case rel => exact ⟨j + 1, by omega, by go_num, (HRel.out.trans HOt.out (fun _ h => h.elim)).trans HO20.out (fun _ h => h.elim)⟩
                case measure => simp [intOf]; omega
              · obtain rfl : j = k2 := by omega
                clear hlt
                go_wp2
                go_ret
                exact ⟨rfl, HU3.out.trans HRel.out (fun _ h => h.elim)⟩
      · have HNe := Lib.hid hN0
        clear hN0 HNO
        go_wp2_with (first
          | (go_at_call 21; refine (HBd.out _ HOr.out).mono ?_; rintro e w5 ⟨X5, m5, c5, E, rfl, hE, _, hEe, hm5, hmc5, hc5, hs5, ho5⟩; obtain ⟨ea, rfl⟩ := hEe HNe.out; have HS5 := Lib.hid hs5; have HM5 := Lib.hid hm5; have HO5 : Hid (Only (fun _ => False) w w5) := HOr.out.trans ho5 (fun _ h => h.elim); have HT5 := Lib.hid (HTd.out.same ho5); have HEv := Lib.hid hE; clear hs5 hm5 ho5 hE)
          | (go_at_call 22; refine (HRb.out _ _ _ HT5.out).mono ?_; rintro e w6 ⟨rfl, ho6⟩; have HO6 : Hid (Only (fun _ => False) w w6) := HO5.out.trans ho6 (fun _ h => h.elim); have HS6 := Lib.hid (HS5.out.only ho6 (fun _ _ _ h => h)); have hcv := HS6.out.texts c5 w6 (Only.refl _ _); have HNm : Hid (∀ W, Only (fun _ => False) w W → Calls Tryd.prog 15 #[(.iface 103 (.pointer (some ea)))] W fun e w' => e = .returned (.int .i64 (N : Int)) ∧ Only (fun _ => False) W w') := fun W ho => num_any (HE.out.only ho) HEv.out; clear ho6)
          | ((with_reducible show Calls _ 15 _ w6 _); refine (HNm.out _ HO6.out).mono ?_; rintro e w7 ⟨rfl, ho7⟩; have HO7 : Hid (Only (fun _ => False) w w7) := HO6.out.trans ho7 (fun _ h => h.elim); have HS7 := Lib.hid (HS6.out.only ho7 (fun _ _ _ h => h)); clear ho7)
          | (go_at_call 23; refine (HPb.out _ HO7.out).mono ?_; rintro e u1 ⟨P1, k1, d1, E1, rfl, hE1, _, hk1, ht1, ho1⟩; have HP1 := Lib.hid ht1; have HK1 := Lib.hid hk1; have HU1 : Hid (Only (fun _ => False) w u1) := HO7.out.trans ho1 (fun _ h => h.elim); have HEv1 := Lib.hid hE1; have hcv1 := HTb.out u1 HU1.out; clear ht1 hk1 ho1 hE1)
          | (go_at_call 24; refine (HQb.out _).mono ?_; rintro e u2 ⟨Q1, k2, d2, rfl, hk2, ht2, ho2⟩; have HQ1 := Lib.hid ht2; have HK2 := Lib.hid hk2; have HP2 := Lib.hid (HP1.out.same ho2); have HU2 : Hid (Only (fun _ => False) w u2) := HU1.out.trans ho2 (fun _ h => h.elim); have HNm1 : Hid (∀ W, Only (fun _ => False) w W → Calls Tryd.prog 15 #[E1] W fun e w' => e = .returned (.int .i64 (z : Int)) ∧ Only (fun _ => False) W w') := fun W ho => num_any (HE.out.only ho) HEv1.out; obtain rfl : k2 = k1 := hk2.trans HK1.out.symm; clear ht2 hk2 ho2)
          | ((with_reducible show Calls _ 15 _ u2 _); refine (HNm1.out _ HU2.out).mono ?_; rintro e u3 ⟨rfl, ho3⟩; have HU3 : Hid (Only (fun _ => False) w u3) := HU2.out.trans ho3 (fun _ h => h.elim); have HP3 := Lib.hid (HP2.out.same ho3); have HQ3 := Lib.hid (HQ1.out.same ho3); clear ho3)
          | fail)
        have hk1000 : k2 ≤ 1000 := by have := HK1.out; have := HRl.out; omega
        go_loopw [117] (fun i W => ∃ j : Nat, j ≤ k2 ∧ i = .int .i64 (j : Int) ∧ Hid (Only (fun _ => False) u3 W)) (fun i _ => k2 - (intOf i).toNat)
        case atStart => exact ⟨0, Nat.zero_le _, rfl, Only.refl _ _⟩
        case round =>
          obtain ⟨j, hj, rfl, hrel⟩ := hrel
          have HRel := Lib.hid hrel.out
          clear hrel
          by_cases hlt : j < k2
          · have hlt2 : (j : Int) < (k2 : Int) := by omega
            obtain ⟨x, hx⟩ : ∃ x, R[j]? = some x := ⟨_, List.getElem?_eq_getElem (by rw [← HK1.out]; exact hlt)⟩
            obtain ⟨b, off, rfl, hbl, hrg⟩ := (HP3.out.same HRel.out).2 j x hx
            have HQr := Lib.hid (HQ3.out.same HRel.out)
            obtain ⟨b2, off2, rfl, hbl2, hrg2⟩ := HQr.out.2 j x hx
            have HRg := Lib.hid hrg
            have HRg2 := Lib.hid hrg2
            have HOx := Lib.hid (fun W => HOf.out W x)
            obtain ⟨xf, ⟨xl, xv⟩, xa⟩ := x
            have heq : ∀ W, _ := fun W => eq_rtri W xf xl xv xa
            have hgr := guard_rtri
            clear hx hrg hrg2
            go_wp2_with (first
              | ((with_reducible show wpList _ _ _ (⟨some 121, _, _, _, _, _⟩ :: _) _ _); refine wpList_load_mid rfl 34 _ rfl b (off + j * 4) rfl [.int .i64 xf, .int .i64 xl, .int .i64 xv, .bool xa] _ HRg.out Tryd.underlying34 rfl size_tri ?_)
              | fail)
            have HBt := Lib.hid (Blk.new wr 34 [.int .i64 xf, .int .i64 xl, .int .i64 xv, .bool xa])
            have HOt : Hid (Only (fun _ => False) wr (wr.alloc (.cells #[.int .i64 xf, .int .i64 xl, .int .i64 xv, .bool xa] 34))) := (Only.refl _ _).alloc _
            obtain ⟨V, hV⟩ : ∃ V, V = wr.heap.size := ⟨_, rfl⟩
            rw [← hV] at HBt ⊢
            clear hV
            generalize wr.alloc (.cells #[.int .i64 xf, .int .i64 xl, .int .i64 xv, .bool xa] 34) = v1 at *
            have HK : Hid (∀ W, Only (fun _ => False) v1 W → (W.cell? ⟨V, 0, none⟩ = some (.int .i64 xf) ∧ W.cell? ⟨V, 1, none⟩ = some (.int .i64 xl) ∧ W.cell? ⟨V, 2, none⟩ = some (.int .i64 xv) ∧ W.cell? ⟨V, 3, none⟩ = some (.bool xa)) ∧ W.cell? ⟨b2, off2 + j * 4, none⟩ = some (.int .i64 xf) ∧ W.cell? ⟨b2, off2 + j * 4 + 1, none⟩ = some (.int .i64 xl) ∧ W.cell? ⟨b2, off2 + j * 4 + 2, none⟩ = some (.int .i64 xv) ∧ W.cell? ⟨b2, off2 + j * 4 + 3, none⟩ = some (.bool xa)) := fun W ho => by
              have hb := HBt.out.only ho (fun h => h)
              have hot := HOt.out.trans ho (fun _ h => h.elim)
              exact ⟨⟨hb.cell 0, hb.cell 1, hb.cell 2, hb.cell 3⟩, hot.cellv (HRg2.out 0 _ rfl) (fun h => h), hot.cellv (HRg2.out 1 _ rfl) (fun h => h), hot.cellv (HRg2.out 2 _ rfl) (fun h => h), hot.cellv (HRg2.out 3 _ rfl) (fun h => h)⟩
            go_region_held3 (fun W => (W.cell? ⟨V, 0, none⟩ = some (.int .i64 xf) ∧ W.cell? ⟨V, 1, none⟩ = some (.int .i64 xl) ∧ W.cell? ⟨V, 2, none⟩ = some (.int .i64 xv) ∧ W.cell? ⟨V, 3, none⟩ = some (.bool xa)) ∧ W.cell? ⟨b2, off2 + j * 4, none⟩ = some (.int .i64 xf) ∧ W.cell? ⟨b2, off2 + j * 4 + 1, none⟩ = some (.int .i64 xl) ∧ W.cell? ⟨b2, off2 + j * 4 + 2, none⟩ = some (.int .i64 xv) ∧ W.cell? ⟨b2, off2 + j * 4 + 3, none⟩ = some (.bool xa))
              (first | exact HK.out _ (Only.refl _ _).drew | exact HK.out _ HO20.out)
              (first
                | (go_at_call 12; (with_reducible refine (HOx.out _).mono ?_); rintro e w20 ⟨rfl, ho20⟩; have HO20 : Hid (Only (fun _ => False) v1 w20) := (Only.refl _ _).drew.trans ho20 (fun _ h => h.elim); clear ho20))
            go_wp2
            go_roundw
            case rel => exact ⟨j + 1, by omega, by go_num, (HRel.out.trans HOt.out (fun _ h => h.elim)).trans HO20.out (fun _ h => h.elim)⟩
            case measure => simp [intOf]; omega
          · obtain rfl : j = k2 := by omega
            clear hlt
            go_wp2
            go_ret
            exact ⟨rfl, HU3.out.trans HRel.out (fun _ h => h.elim)⟩

theorem open_tris {H : Type} {enc : TypeId × Value → H} {W : World} {spare : Nat → Bool} {fuel : Nat} {a0 : Option Addr} {len cap : Nat} {x : DataW H × List MemPlace} (h : DataW.trod enc Tryd.prog W 0 spare true fuel 61 [.slice a0 len cap] = some x) : len ≤ cap ∧ cap ≤ 9223372036854775807 ∧ ∃ l, TrAt W a0 len l :=
  open_ls (cs := Tr.cs) (m := 4) (by omega) Tryd.underlying61 (by kernel_rfl) (fun _ => rfl) (fun hl h => trod_tri hl h) h
theorem slcBodies_walk (w : World) {A A' : Option Addr} {n c m c' : Nat} {H : Type} {enc : TypeId × Value → H} {fuel fuel' : Nat} {x y : DataW H × List MemPlace}
    (hs : DataW.trod enc Tryd.prog w 0 (fun _ => true) true fuel 61 [.slice A n c] = some x) (hb : DataW.trod enc Tryd.prog w 0 (fun _ => true) true fuel' 62 [.slice A' m c'] = some y) {es : List Addr} (hes : ErrsAt w es) :
    Calls Tryd.prog 4 #[.slice A n c, .slice A' m c'] w (Fine w) := by
  obtain ⟨_, _, L, hL⟩ := open_tris hs
  obtain ⟨bs, hbs, h1, h2⟩ := opened Tryd.underlying62 Tryd.underlying5 (by kernel_rfl) hb
  by_cases h : 100 < n ∨ 300 < m
  · exact bodies_long w h
  · exact bodies_ok w hes hL hbs h1 h2 (by omega) (by omega)
end Go.Proofs.YtojnhheeholaeaaDoor
