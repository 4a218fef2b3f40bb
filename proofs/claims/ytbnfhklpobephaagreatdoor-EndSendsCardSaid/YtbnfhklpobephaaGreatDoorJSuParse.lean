/- Several texts in one. -/
import Derived.Test.YtbnfhklpobephaaGreatDoorJHsMode
import Derived.Deep.RegionHeld3
import Derived.Test.YtbnfhklpobephaaGreatDoorJHsGather
import Derived.Test.YtbnfhklpobephaaGreatDoorJRow1
import Derived.Test.YtbnfhklpobephaaGreatDoorSnMaps
import Derived.Test.YtbnfhklpobephaaGreatDoorJSc
import Derived.Test.YtbnfhklpobephaaGreatDoorJSnList
/- Package status: Parse. -/
namespace Go.Proofs.YtbnfhklpobephaaGreatDoor
open Go Go.RowKit
set_option maxRecDepth 100000
set_option maxHeartbeats 4000000

/-- What the bytes behind the first one come to. -/
def toNum (r : List UInt8) : Nat := if r.length % 2 = 1 then 3 else if enKind r then 0 else 9
def toList (r : List UInt8) : List En := if r.length % 2 = 0 ∧ enKind r = true then enPairs r else []
theorem paNum_zero {x : UInt8} {r : List UInt8} (h : x.toNat = 0) : paNum (x :: r) = toNum r ∧ paList (x :: r) = toList r ∧ paAsks (x :: r) = false := by
  refine ⟨by rw [paNum, if_neg (by omega), if_neg (by omega)]; rfl, ?_, beq_eq_false_iff_ne.2 (fun e => by injection e with e _; subst e; cases h)⟩
  rw [paList, toList]
  simp only [h, true_and]

/-- What a call answers: entries, or an error. -/
def Listed (w : World) (es : List Addr) (num : Nat) (l : List En) (e : Ending) (w' : World) : Prop :=
  ∃ A m c E, e = .returned (.tuple #[.slice A m c, E]) ∧ ErrV es E num ∧ (EnAt w' A m l ∧ (0 < m → ∀ ad, A = some ad → w.heap.size ≤ ad.block)) ∧ Only (fun _ => False) w w'

theorem suTold_odd {w : World} {es : List Addr} (hE : ErrsAt w es) (A : Option Addr) {n : Nat} (c : Nat) {r : List UInt8} (hl : r.length = n) (hn : n ≤ 1000) (hp : n % 2 = 1) :
    Calls Tryz.prog 233 #[.slice A n c] w (Listed w es (toNum r) (toList r)) := by
  obtain ⟨a, ha⟩ : ∃ a, es[2]? = some a := ⟨_, List.getElem?_eq_getElem (by rw [hE.len]; omega)⟩
  have hc := hE.at_ 2 2 a rfl ha
  unfold errV at hc
  have HA := Lib.hid ha
  obtain ⟨q, hq⟩ : ∃ q, (n : Int).tmod 2 = q := ⟨_, rfl⟩
  have hq1 : q = 1 := by rw [← hq, Int.tmod_eq_emod_of_nonneg (by omega)]; omega
  have hqb : (q != 0) = true := by rw [hq1]; rfl
  have hz : Hid (toNum r = 3 ∧ toList r = []) := ⟨by rw [toNum, if_pos (by omega)], by rw [toList, if_neg (by omega)]⟩
  clear ha hE hq1 hl
  go_enter Tryz.func233, Tryz.ntmps233
  go_wp2
  go_quiet (fail)
  go_wp2
  go_ret2
  rw [hz.out.1, hz.out.2]
  exact ⟨none, 0, 0, errV a, rfl, ErrV.err HA.out 3 rfl, ⟨LsOf.nil _ _ _ _, fun h => absurd h (by omega)⟩, (Only.refl _ _).drewN _⟩

theorem suTold_even {w : World} {es : List Addr} (hE : ErrsAt w es) {A : Option Addr} {n c : Nat} {r : List UInt8} (hs : Src w A n r) (hnc : n ≤ c) (hn : n ≤ 1000) (hp : n % 2 = 0) :
    Calls Tryz.prog 233 #[.slice A n c] w (Listed w es (toNum r) (toList r)) := by
  have H := Lib.hid hs
  have HE := Lib.hid hE
  have HL := Lib.hid hs.1
  obtain ⟨i, hi, hz, h1, h2⟩ := infoK info_en
  have HI := Lib.hid hi
  have HZ := Lib.hid hz
  have HI1 := Lib.hid h1
  have HI2 := Lib.hid h2
  obtain ⟨N, rfl⟩ : ∃ N, n = 2 * N := ⟨n / 2, by omega⟩
  obtain ⟨n, hn2⟩ : ∃ n, n = 2 * N := ⟨_, rfl⟩
  rw [← hn2] at H HL hn hnc ⊢
  obtain ⟨q, hq⟩ : ∃ q, (n : Int).tmod 2 = q := ⟨_, rfl⟩
  have hq1 : q = 0 := by rw [← hq, Int.tmod_eq_emod_of_nonneg (by omega)]; omega
  have hqb : (q != 0) = false := by rw [hq1]; rfl
  have hd2 : (n : Int).tdiv 2 = (N : Int) := by rw [Int.tdiv_eq_ediv_of_nonneg (by omega)]; omega
  have HN2 := Lib.hid hn2
  have hN : N ≤ 1000 := by omega
  clear hs hE hi hz h1 h2 hq1 hn2 hp
  go_enter Tryz.func233, Tryz.ntmps233
  go_wp2_with (first
    | ((with_reducible show wpList _ _ _ (⟨some 15, _, _, _, _, _⟩ :: _) _ _); refine wpList_make_own w rfl _ _ 107 rfl w.heap.size 162 i _ 2 Tryz.underlying107 HI.out HZ.out HI1.out .i64 .i64 _ N rfl rfl rfl (by rw [HI2.out]; omega) (by unfold maxLen; omega) (Nat.le_refl _) ?_; intro w0 hr0 hg0; have HR0 := Lib.hid hr0; have HO0 : Hid (Only (fun _ => False) w w0) := (Only.refl _ _).grown hg0 (fun k hk => by cases hk); clear hr0 hg0)
    | fail)
  go_loopw [4, 5] (fun v i W => ∃ (j cb k : Nat) (B : Option Addr), k = 2 * j ∧ k ≤ n ∧ v = .slice B j cb ∧ i = .int .i64 (k : Int) ∧ Hid (∃ done, W.ownsRow w.heap.size 162 2 (.slice B j cb) j (csE done) ∧ done.length = j ∧ done ++ enPairs (r.drop k) = enPairs r ∧ enKind (r.drop k) = enKind r ∧ Only (fun _ => False) w W)) (fun _ i _ => n - (intOf i).toNat)
  case atStart => exact ⟨0, N, 0, _, rfl, Nat.zero_le _, rfl, rfl, [], HR0.out, rfl, rfl, rfl, HO0.out⟩
  case round =>
    clear HR0 HO0
    obtain ⟨j, cb, k, B, hkj, hk, rfl, rfl, hrel⟩ := hrel
    obtain ⟨done, hown, hdl, hcat, hkd, hon⟩ := hrel.out
    have HOw := Lib.hid hown
    have HDl := Lib.hid hdl
    have HCat := Lib.hid hcat
    have HKd := Lib.hid hkd
    have HOn := Lib.hid hon
    have HKj := Lib.hid hkj
    have hj : j ≤ 1000 := by omega
    have hk1 : k < n → k + 1 < n := by have := HN2.out; omega
    clear hrel hown hdl hcat hkd hon hkj
    by_cases hlt : k < n
    · have hlt1 := hk1 hlt
      have hlt2 : (k : Int) < (n : Int) := by omega
      have hlt3 : (k : Int) + 1 < (n : Int) := by omega
      have hrl := HL.out
      obtain ⟨x, hx⟩ : ∃ x, r[k]? = some x := ⟨_, List.getElem?_eq_getElem (by omega)⟩
      obtain ⟨y, hy⟩ : ∃ y, r[k + 1]? = some y := ⟨_, List.getElem?_eq_getElem (by omega)⟩
      have hd0 : r.drop k = x :: y :: r.drop (k + 2) := by
        obtain ⟨h1, e1⟩ := List.getElem?_eq_some_iff.1 hx
        obtain ⟨h2, e2⟩ := List.getElem?_eq_some_iff.1 hy
        rw [List.drop_eq_getElem_cons h1, e1, List.drop_eq_getElem_cons h2, e2]
      obtain ⟨ad, rfl, hcell⟩ := (H.out.only HOn.out (fun _ _ _ h => h)).2 (by omega)
      have c0 := hcell k x hx
      have c1 := hcell (k + 1) y hy
      have add_k : ad.add (k + 1) = ⟨ad.block, ad.off + (k + 1), none⟩ := by simp [Addr.add]
      rw [add_k] at c1
      have HD := Lib.hid hd0
      have HVb := Lib.hid (fun W => verb_any W (x.toNat : Int))
      obtain ⟨p, hp⟩ : ∃ p, p = decide (251 ≤ (x.toNat : Int) ∧ (x.toNat : Int) ≤ 254) := ⟨_, rfl⟩
      rw [← hp] at HVb
      have HP := Lib.hid hp
      have HC : Hid (∀ W, Only (fun _ => False) wr W → W.cell? (ad.add k) = some (.int .u8 (x.toNat : Int)) ∧ W.cell? ⟨ad.block, ad.off + (k + 1), none⟩ = some (.int .u8 (y.toNat : Int))) := fun W ho => ⟨ho.cellv c0 (fun h => h), ho.cellv c1 (fun h => h)⟩
      clear hx hy hd0 hp hcell c0 c1 hk1 hrl add_k
      have hx255 : x.toNat ≤ 255 := by have := x.toNat_lt; omega
      have hy255 : y.toNat ≤ 255 := by have := y.toNat_lt; omega
      have c0 := (HC.out _ (Only.refl _ _)).1
      have c1 := (HC.out _ (Only.refl _ _)).2
      have c0' := fun ob => (HC.out (wr.alloc ob) ((Only.refl _ _).alloc _)).1
      have c1' := fun ob => (HC.out (wr.alloc ob) ((Only.refl _ _).alloc _)).2
      go_wp2
      go_region
      clear c0 c1 c0' c1'
      obtain ⟨w1, hw1⟩ : ∃ w1, w1 = (wr.alloc (.cells #[.int .i64 (x.toNat : Int), .int .i64 (y.toNat : Int)] 162)).drew := ⟨_, rfl⟩
      obtain ⟨M, hM⟩ : ∃ M, M = wr.heap.size := ⟨_, rfl⟩
      have HB1 : Hid (Blk w1 M 162 [.int .i64 (x.toNat : Int), .int .i64 (y.toNat : Int)]) := by
        rw [hw1, hM]
        exact (Blk.new wr _ [.int .i64 (x.toNat : Int), .int .i64 (y.toNat : Int)]).drew
      have HO1 : Hid (Only (fun _ => False) wr w1) := by
        rw [hw1]
        exact ((Only.refl _ wr).alloc _).drew
      have HMw : Hid (w.heap.size ≤ M) := by
        show w.heap.size ≤ M
        rw [hM]
        exact HOn.out.size
      rw [← hw1, ← hM]
      clear hw1 hM
      have e0 := HB1.out.cell 0
      simp only [List.getElem?_cons_zero] at e0
      have HOw1 := Lib.hid (own_same HOw.out HO1.out)
      have HOn1 : Hid (Only (fun _ => False) w w1) := HOn.out.trans HO1.out (fun _ h => h.elim)
      clear HOw HOn HO1 HC
      cases p
      · obtain ⟨a, ha⟩ : ∃ a, es[8]? = some a := ⟨_, List.getElem?_eq_getElem (by rw [HE.out.len]; omega)⟩
        have hc : w1.cell? ⟨8, 0, none⟩ = some (.iface 409 (.pointer (some a))) := (HE.out.only HOn1.out).at_ 8 _ a rfl ha
        have HA := Lib.hid ha
        clear ha
        go_wp2_with (first
          | (go_at_call 158; refine (HVb.out _).mono ?_; rintro e w5 ⟨rfl, e5⟩; subst w5)
          | fail)
        go_quiet (fail)
        go_wp2
        go_ret2
        have hk9 : enKind r = false := by rw [← HKd.out, HD.out, enKind, ← HP.out]; rfl
        have hl2 := HL.out
        have hn2 := HN2.out
        have z1 : toNum r = 9 := by rw [toNum, if_neg (by omega), hk9]; rfl
        have z2 : toList r = [] := by rw [toList, hk9, if_neg (fun h => by cases h.2)]
        rw [z1, z2]
        exact ⟨none, 0, 0, errV a, rfl, ErrV.err HA.out 9 rfl, ⟨LsOf.nil _ _ _ _, fun h => absurd h (by omega)⟩, HOn1.out.drewN _⟩
      · have HKd2 : Hid (enKind (r.drop (k + 2)) = enKind r) := by
          show enKind (r.drop (k + 2)) = enKind r
          rw [← HKd.out, HD.out, enKind, ← HP.out, Bool.true_and]
        have HCat2 : Hid ((done ++ [⟨x.toNat, y.toNat⟩]) ++ enPairs (r.drop (k + 2)) = enPairs r) := by
          show (done ++ [⟨x.toNat, y.toNat⟩]) ++ enPairs (r.drop (k + 2)) = enPairs r
          rw [← HCat.out, HD.out, enPairs, List.append_assoc]
          rfl
        go_wp2_with (first
          | (go_at_call 158; refine (HVb.out _).mono ?_; rintro e w5 ⟨rfl, e5⟩; subst w5)
          | ((with_reducible show wpList _ _ _ (⟨some 40, _, _, _, _, _⟩ :: _) _ _); refine wpList_load_mid rfl 162 _ rfl M 0 rfl [.int .i64 (x.toNat : Int), .int .i64 (y.toNat : Int)] _ (range_of HB1.out) Tryz.underlying162 rfl size_en ?_)
          | (at_builtin; refine step_append_own rfl (.tmp 39) (.tmp 41) 107 rfl w.heap.size 162 i _ 2 16 Tryz.underlying107 HI.out HZ.out HI1.out HI2.out rfl (by omega) (.slice B j cb) j (csE done) rfl (own_same HOw1.out ((Only.refl _ _).alloc _)) (some ⟨w1.heap.size, 0, none⟩) 1 1 [.int .i64 (x.toNat : Int), .int .i64 (y.toNat : Int)] rfl rfl (fun _ => ⟨_, rfl, fun j u hj => by rw [at_add]; exact ((Blk.new' _ _ [.int .i64 (x.toNat : Int), .int .i64 (y.toNat : Int)] (by simp)).cell j).trans hj⟩) (En.cs_one ⟨x.toNat, y.toNat⟩) (by omega) (by omega) (Nat.le_trans HOn1.out.size (by simp; try omega)) ?_; intro A7 c7 w7 hq1 hq2 hq3; have HOw7 := Lib.hid hq3.out.1; have HOn7 : Hid (Only (fun _ => False) w w7) := Only.grown (HOn1.out.alloc _) hq3.out.2.1 (fun k hk => .inr (own_lt HOw1.out k hk).1); clear hq1 hq2 hq3)
          | fail)
        go_roundw
        case rel => exact ⟨j + 1, c7, k + 2, A7, by have := HKj.out; omega, by omega, rfl, by go_num, done ++ [⟨x.toNat, y.toNat⟩], by rw [csE_append, csE_one]; exact HOw7.out, by rw [List.length_append, HDl.out]; rfl, HCat2.out, HKd2.out, HOn7.out⟩
        case measure => simp [intOf]; omega
    · obtain rfl : k = n := by omega
      have hl2 := HL.out
      have hn2 := HN2.out
      have hdr : r.drop k = [] := List.drop_eq_nil_of_le (by omega)
      have hkt : enKind r = true := by rw [← HKd.out, hdr]; rfl
      have hdn : done = enPairs r := by have := HCat.out; rw [hdr, enPairs, List.append_nil] at this; exact this; simp
      have z1 : Hid (toNum r = 0) := by show toNum r = 0; rw [toNum, if_neg (by omega), hkt]; rfl
      have z2 : Hid (toList r = done) := by show toList r = done; rw [toList, hkt, if_pos ⟨by omega, rfl⟩, hdn]
      clear hl2 hn2 hdr hkt hdn hk1
      go_wp2
      go_ret2
      rw [z1.out, z2.out]
      exact ⟨B, j, cb, .nilIface, rfl, ErrV.nil es, ⟨LsOf.of_own (cs := En.cs) (m := 2) (fun _ => rfl) HOw.out HDl.out, fun h0 ad e => by
        obtain ⟨g, e1, hg, _⟩ := own_at HOw.out h0
        rw [e] at e1
        injection e1 with e1
        subst e1
        exact hg⟩, HOn.out⟩

theorem suTold_any {w : World} {es : List Addr} (hE : ErrsAt w es) {A : Option Addr} {n c : Nat} {r : List UInt8} (hs : Src w A n r) (hnc : n ≤ c) (hn : n ≤ 1000) :
    Calls Tryz.prog 233 #[.slice A n c] w (Listed w es (toNum r) (toList r)) := by
  by_cases h : n % 2 = 1
  · exact suTold_odd hE A c hs.1 hn h
  · exact suTold_even hE hs hnc hn (by omega)

/-- What Parse answers. -/
def Parsed (w : World) (es : List Addr) (b : List UInt8) (e : Ending) (w' : World) : Prop :=
  ∃ A m c E, e = .returned (.tuple #[.slice A m c, .bool (paAsks b), E]) ∧ ErrV es E (paNum b) ∧ (EnAt w' A m (paList b) ∧ (0 < m → ∀ ad, A = some ad → w.heap.size ≤ ad.block)) ∧ Only (fun _ => False) w w'
section
variable {w : World} {es : List Addr} {A : Option Addr} {n : Nat} {r : List UInt8} {x : UInt8}
theorem suParse_short (hE : ErrsAt w es) (A : Option Addr) (cap : Nat) : Calls Tryz.prog 223 #[.slice A 0 cap] w (Parsed w es []) := by
  obtain ⟨a, ha⟩ : ∃ a, es[2]? = some a := ⟨_, List.getElem?_eq_getElem (by rw [hE.len]; omega)⟩
  have hc := hE.at_ 2 2 a rfl ha
  unfold errV at hc
  have HA := Lib.hid ha
  clear ha hE
  go_enter Tryz.func223, Tryz.ntmps223
  go_wp2
  go_quiet (fail)
  go_wp2
  go_ret3
  exact ⟨none, 0, 0, errV a, rfl, ErrV.err HA.out 3 rfl, ⟨LsOf.nil _ _ _ _, fun h => absurd h (by omega)⟩, (Only.refl _ _).drewN _⟩
theorem suParse_long (hE : ErrsAt w es) (cap : Nat) (hs : Src w A n (x :: r)) (hn : n ≤ 1000) (h1 : x.toNat = 1) (hr : 0 < r.length) : Calls Tryz.prog 223 #[.slice A n cap] w (Parsed w es (x :: r)) := by
  obtain ⟨a, ha⟩ : ∃ a, es[3]? = some a := ⟨_, List.getElem?_eq_getElem (by rw [hE.len]; omega)⟩
  have hc := hE.at_ 3 3 a rfl ha
  unfold errV at hc
  have HA := Lib.hid ha
  have z1 : Hid (paNum (x :: r) = 4) := by show paNum (x :: r) = 4; rw [paNum, if_pos h1, if_neg (by omega)]
  have z2 : Hid (paList (x :: r) = []) := by show paList (x :: r) = []; rw [paList, if_neg (fun h => by omega)]
  have z3 : Hid (paAsks (x :: r) = false) := beq_eq_false_iff_ne.2 (fun e => by injection e with _ e; subst e; simp at hr)
  obtain ⟨ad, rfl, c0, hl⟩ := hs.head
  rw [h1] at c0
  clear hs hE ha
  go_enter Tryz.func223, Tryz.ntmps223
  go_wp2
  go_quiet (fail)
  go_wp2
  go_ret3
  exact ⟨none, 0, 0, errV a, by rw [z3.out]; rfl, by rw [z1.out]; exact ErrV.err HA.out 4 rfl, by rw [z2.out]; exact ⟨LsOf.nil _ _ _ _, fun h => absurd h (by omega)⟩, (Only.refl _ _).drewN _⟩
theorem suParse_asks (es : List Addr) (cap : Nat) (hs : Src w A n [x]) (h1 : x.toNat = 1) : Calls Tryz.prog 223 #[.slice A n cap] w (Parsed w es [x]) := by
  have z1 : Hid (paNum [x] = 0) := by show paNum [x] = 0; rw [paNum, if_pos h1]; rfl
  have z2 : Hid (paList [x] = []) := by show paList [x] = []; rw [paList, if_neg (fun h => by omega)]
  have hx : x = 1 := UInt8.toNat.inj h1
  have z3 : Hid (paAsks [x] = true) := by show paAsks [x] = true; rw [hx]; rfl
  obtain ⟨ad, rfl, c0, hl⟩ := hs.head
  rw [h1] at c0
  obtain rfl : n = 1 := hl
  clear hs hx
  go_enter Tryz.func223, Tryz.ntmps223
  go_wp2
  go_ret3
  exact ⟨none, 0, 0, .nilIface, by rw [z3.out]; rfl, by rw [z1.out]; exact ErrV.nil es, by rw [z2.out]; exact ⟨LsOf.nil _ _ _ _, fun h => absurd h (by omega)⟩, Only.refl _ _⟩
theorem suParse_form (hE : ErrsAt w es) (cap : Nat) (hs : Src w A n (x :: r)) (hn : n ≤ 1000) (h1 : 1 < x.toNat) : Calls Tryz.prog 223 #[.slice A n cap] w (Parsed w es (x :: r)) := by
  obtain ⟨a, ha⟩ : ∃ a, es[4]? = some a := ⟨_, List.getElem?_eq_getElem (by rw [hE.len]; omega)⟩
  have hc := hE.at_ 4 4 a rfl ha
  unfold errV at hc
  have HA := Lib.hid ha
  have z1 : Hid (paNum (x :: r) = 5) := by show paNum (x :: r) = 5; rw [paNum, if_neg (by omega), if_pos (by omega)]
  have z2 : Hid (paList (x :: r) = []) := by show paList (x :: r) = []; rw [paList, if_neg (fun h => by omega)]
  have z3 : Hid (paAsks (x :: r) = false) := beq_eq_false_iff_ne.2 (fun e => by injection e with e _; subst e; exact absurd h1 (by decide))
  obtain ⟨ad, rfl, c0, hl⟩ := hs.head
  have e1 : ((x.toNat : Int) == 1) = false := by simp; omega
  have e2 : ((x.toNat : Int) == 0) = false := by simp; omega
  have e3 : ((x.toNat : Int) != 0) = true := by simp; omega
  clear hs hE ha
  go_enter Tryz.func223, Tryz.ntmps223
  go_wp2
  go_quiet (fail)
  go_wp2
  go_ret3
  exact ⟨none, 0, 0, errV a, by rw [z3.out]; rfl, by rw [z1.out]; exact ErrV.err HA.out 5 rfl, by rw [z2.out]; exact ⟨LsOf.nil _ _ _ _, fun h => absurd h (by omega)⟩, (Only.refl _ _).drewN _⟩
theorem suParse_told (hE : ErrsAt w es) {cap : Nat} (hs : Src w A n (x :: r)) (hn : n ≤ 1000) (hnc : n ≤ cap) (_hcap : cap ≤ 9223372036854775807) (h1 : x.toNat = 0) : Calls Tryz.prog 223 #[.slice A n cap] w (Parsed w es (x :: r)) := by
  obtain ⟨z1, z2, z3⟩ := paNum_zero (r := r) h1
  obtain ⟨ad, hA, c0, hl⟩ := hs.head
  obtain ⟨D, hD⟩ : ∃ D, (if cap = 1 then some ad else some ⟨ad.block, ad.off + 1, none⟩) = D := ⟨_, rfl⟩
  have hT : Src w D (n - 1) r := hs.tail D (fun h1 ad' e => by
    rw [hA] at e
    injection e with e
    subst e
    rw [← hD, if_neg (by omega)]
    simp [Addr.add])
  have HTo := Lib.hid (suTold_any hE (c := cap - 1) hT (by omega) (by omega))
  subst hA
  rw [h1] at c0
  have hn1 : 1 ≤ n := by omega
  unfold Parsed
  rw [z1, z2, z3]
  clear hs hE hl hT z1 z2 z3 h1
  go_enter Tryz.func223, Tryz.ntmps223
  go_wp2_with (go_at_call 233; (with_reducible refine HTo.out.mono ?_); rintro e w1 ⟨A1, m1, c1, E1, rfl, hE1, hl1, ho1⟩)
  go_ret3
  exact ⟨A1, m1, c1, E1, rfl, hE1, hl1, ho1⟩
theorem suParse_any (hE : ErrsAt w es) {cap : Nat} {b : List UInt8} (hs : Src w A n b) (hn : n ≤ 1000) (hnc : n ≤ cap) (hcap : cap ≤ 9223372036854775807) : Calls Tryz.prog 223 #[.slice A n cap] w (Parsed w es b) := by
  cases b with
  | nil =>
    obtain rfl : n = 0 := hs.1.symm
    exact suParse_short hE A cap
  | cons x r =>
    rcases (by omega : x.toNat = 1 ∨ 1 < x.toNat ∨ x.toNat = 0) with h | h | h
    · cases r with
      | nil => exact suParse_asks es cap hs h
      | cons y r => exact suParse_long hE cap hs hn h (by simp)
    · exact suParse_form hE cap hs hn h
    · exact suParse_told hE hs hn hnc hcap h
end
end Go.Proofs.YtbnfhklpobephaaGreatDoor
/- A hub hears a body of Status: all that comes of it. -/
namespace Go.Proofs.YtbnfhklpobephaaGreatDoor
open Go Go.RowKit
set_option maxRecDepth 100000
set_option maxHeartbeats 4000000

section
variable {w : World} {es : List Addr} {A : Option Addr} {n c : Nat} {b : List UInt8} {p q mo mq : Nat} {tp tq : TypeId} {pre post prq poq : List Value} {G : Nat → Prop} {h : Hb} {H : Hs} {ag : Nat → Nat → Bool} {T : Tb}
theorem hsReport (hE : ErrsAt w es) (hT : TbAt w q mq tq prq poq ag T) :
    Calls Tryz.prog 224 #[.pointer (some ⟨q, mq, none⟩)] w fun e w' => ∃ v E, e = .returned (.tuple #[v, E]) ∧ Hid (ErrV es E (suNum (tbRep T)) ∧ HTold w.heap.size w' v 5 (if suNum (tbRep T) = 0 then some (suBody (tbRep T)) else none)) ∧ Hid (Only (fun _ => False) w w') := by
  have HO := Lib.hid (suTab_any hT)
  have HB := Lib.hid (fun W (ho : Only (fun _ => False) w W) A n c (h : EnAt W A n (tbRep T)) (hn : n ≤ 1000) => suBody_any (c := c) (hE.only ho) h hn)
  have HT := Lib.hid (fun W A n c => tell_any W 5 A n c)
  clear hE hT
  obtain ⟨num, hnum⟩ : ∃ num, num = suNum (tbRep T) := ⟨_, rfl⟩
  unfold Answered at HB
  rw [← hnum] at HB ⊢
  clear hnum
  by_cases h0 : num = 0
  · have HB0 : Hid (∀ W, Only (fun _ => False) w W → ∀ A n c, EnAt W A n (tbRep T) → n ≤ 1000 → Calls Tryz.prog 234 #[.slice A n c] W fun e w' => ∃ A' m c', e = .returned (.tuple #[.slice A' m c', .nilIface]) ∧ (Src w' A' m (suBody (tbRep T)) ∧ (m ≤ c' ∧ c' ≤ 9223372036854775807) ∧ (0 < m → ∀ ad, A' = some ad → W.heap.size ≤ ad.block)) ∧ Only (fun _ => False) W w') := fun W ho A n c h1 h2 => (HB.out W ho A n c h1 h2).mono (fun e w' ⟨A', m, c', E, h3, h4, h5, h5', h6⟩ => by
      rcases h4.ways with ⟨_, rfl⟩ | ⟨h, _⟩
      · exact ⟨A', m, c', h3, ⟨h5, h5'.1, h5'.2⟩, h6⟩
      · exact absurd h0 h)
    rw [if_pos h0]
    clear HB
    subst h0
    go_enter Tryz.func224, Tryz.ntmps224
    go_wp2_with (first
      | (go_at_call 235; (with_reducible refine HO.out.mono ?_); rintro e w1 ⟨A1, n1, c1, rfl, hen, hn1, ho1⟩; have HEn := Lib.hid hen; have HO1 := Lib.hid ho1; clear hen ho1)
      | (go_at_call 234; (with_reducible refine (HB0.out _ HO1.out _ _ _ HEn.out (by omega)).mono ?_); rintro e w2 ⟨A2, n2, c2, rfl, hs2, ho2⟩; have HS2 := Lib.hid hs2; have HO2 := Lib.hid (HO1.out.trans ho2 (fun _ h => h.elim)); have HZ2 := Lib.hid ho2.size; clear hs2 ho2)
      | (go_at_call 212; (with_reducible refine (HT.out _ _ _ _).mono ?_); rintro e w3 ⟨rfl, hb3, ho3⟩))
    go_ret2
    obtain ⟨s1, s2, s3⟩ := HS2.out
    have z1 := HO1.out.size
    have z2 := HZ2.out
    exact ⟨_, _, rfl, ⟨ErrV.nil es, _, A2, n2, c2, rfl, by omega, hb3.out, s1.only ho3.out (fun _ _ _ h => h), fun h0 ad e => Nat.le_trans z1 (s3 h0 ad e), s2⟩, HO2.out.trans ho3.out (fun _ h => h.elim)⟩
  · have HB0 : Hid (∀ W, Only (fun _ => False) w W → ∀ A n c, EnAt W A n (tbRep T) → n ≤ 1000 → Calls Tryz.prog 234 #[.slice A n c] W fun e w' => ∃ A' m c' a, e = .returned (.tuple #[.slice A' m c', .iface 409 (.pointer (some a))]) ∧ ErrV es (.iface 409 (.pointer (some a))) num ∧ Only (fun _ => False) W w') := fun W ho A n c h1 h2 => (HB.out W ho A n c h1 h2).mono (fun e w' ⟨A', m, c', E, h3, h4, h5, _, h6⟩ => by
      rcases h4.ways with ⟨h, _⟩ | ⟨_, a, rfl⟩
      · exact absurd h h0
      · exact ⟨A', m, c', a, h3, h4, h6⟩)
    rw [if_neg h0]
    clear HB h0
    go_enter Tryz.func224, Tryz.ntmps224
    go_wp2_with (first
      | (go_at_call 235; (with_reducible refine HO.out.mono ?_); rintro e w1 ⟨A1, n1, c1, rfl, hen, hn1, ho1⟩; have HEn := Lib.hid hen; have HO1 := Lib.hid ho1; clear hen ho1)
      | (go_at_call 234; (with_reducible refine (HB0.out _ HO1.out _ _ _ HEn.out (by omega)).mono ?_); rintro e w2 ⟨A2, n2, c2, a2, rfl, hv2, ho2⟩; have HV2 := Lib.hid hv2; have HO2 := Lib.hid (HO1.out.trans ho2 (fun _ h => h.elim)); clear hv2 ho2))
    go_ret2
    exact ⟨_, _, rfl, ⟨HV2.out, rfl⟩, HO2.out⟩
theorem hsStat (hE : ErrsAt w es) (k : HsAt w p mo tp pre post G h H) (hT : TbAt w q mq tq prq poq ag T) (hs : Src w A n b) (hn : n ≤ 256) (hnc : n ≤ c) (hcap : c ≤ 9223372036854775807) : HearsF 210 w es p mo tp pre post G q mq 5 A n c (H.hearStat T b) := by
  have HP := Lib.hid (suParse_any hE hs (by omega) hnc hcap)
  have HLn : Hid ((paList b).length ≤ 1000) := paList_length b (by have := hs.1; omega)
  have HOn := Lib.hid (on_at hT (paAsks b) 5)
  have HSd := Lib.hid (fun W => snSide_any W (paAsks b))
  have HR := Lib.hid (fun W (ho : Only (fun _ => False) w W) => hsReport (hE.only ho) (hT.same ho))
  obtain ⟨a, ha, hst⟩ := (hE.of [9]).get 9 9 (by decide) rfl
  have HA10 : Hid (ErrV es (errV a) 10) := ErrV.err ha 10 rfl
  unfold errV at hst HA10
  have HC : Hid (∀ W, Only (fun _ => False) w W → W.cell? ⟨9, 0, none⟩ = some (.iface 409 (.pointer (some a)))) := fun W ho => ho.cellv hst (fun h => h)
  have HK := Lib.hid k
  unfold Parsed at HP
  obtain ⟨r, hr⟩ : ∃ r, r = H.hearStat T b := ⟨_, rfl⟩
  rw [← hr]
  unfold Hs.hearStat at hr
  generalize paNum b = num at *
  generalize hx : paAsks b = x at *
  generalize onAt T x 5 = on at *
  have HRr := Lib.hid hr
  clear hE hT hs k ha hst hx hn hnc hcap hr
  by_cases h0 : num = 0
  · subst h0
    have HP0 : Hid (Calls Tryz.prog 223 #[.slice A n c] w fun e w' => ∃ A' m c', e = .returned (.tuple #[.slice A' m c', .bool x, .nilIface]) ∧ (EnAt w' A' m (paList b) ∧ (0 < m → ∀ ad, A' = some ad → w.heap.size ≤ ad.block)) ∧ Only (fun _ => False) w w') := HP.out.mono (fun e w' ⟨A', m, c', E, h3, h4, h5, h6⟩ => by
      rcases h4.ways with ⟨_, rfl⟩ | ⟨h, _⟩
      · exact ⟨A', m, c', h3, h5, h6⟩
      · exact absurd rfl h)
    clear HP
    cases on with
    | false =>
      generalize (if x = true then (0 : Int) else 1) = xi at *
      go_enter Tryz.func210, Tryz.ntmps210
      go_wp2_with (first
        | (go_at_call 223; (with_reducible refine HP0.out.mono ?_); rintro e w1 ⟨A1, m1, c1, rfl, hen, ho1⟩; have HO1 := Lib.hid ho1; clear ho1 hen)
        | (go_at_call 220; (with_reducible refine (HSd.out _).mono ?_); rintro e w' ⟨rfl, e2⟩; subst w')
        | (go_at_call 49; (with_reducible refine (HOn.out _ HO1.out).mono ?_); rintro e w2 ⟨rfl, ho2⟩; have HO2 := Lib.hid (HO1.out.trans ho2 (fun _ h => h.elim)); have hc2 := HC.out _ HO2.out; clear ho2))
      go_quiet (fail)
      go_wp2
      go_ret2
      rw [HRr.out]
      exact ⟨_, _, rfl, Ans.bad HK.out (HO2.out.drewN _) HA10.out⟩
    | true =>
      cases x with
      | true =>
        rw [show (if true = true then (0 : Int) else 1) = 0 from rfl] at HSd HOn
        go_enter Tryz.func210, Tryz.ntmps210
        go_wp2_with (first
          | (go_at_call 223; (with_reducible refine HP0.out.mono ?_); rintro e w1 ⟨A1, m1, c1, rfl, hen, ho1⟩; have HO1 := Lib.hid ho1; clear ho1 hen)
          | (go_at_call 220; (with_reducible refine (HSd.out _).mono ?_); rintro e w' ⟨rfl, e2⟩; subst w')
          | (go_at_call 49; (with_reducible refine (HOn.out _ HO1.out).mono ?_); rintro e w2 ⟨rfl, ho2⟩; have HO2 := Lib.hid (HO1.out.trans ho2 (fun _ h => h.elim)); clear ho2)
          | (go_at_call 224; (with_reducible refine (HR.out _ HO2.out).mono ?_); rintro e w3 ⟨v, E, rfl, h1, h2⟩))
        go_ret2
        have HO3 : Only (fun _ => False) w w3 := HO2.out.trans h2.out (fun _ h => h.elim)
        obtain ⟨q1, q2⟩ := h1.out
        rw [HRr.out]
        refine ⟨_, _, rfl, ?_⟩
        show Ans w es p mo tp pre post G 5 (if suNum (tbRep T) = 0 then (0, some (suBody (tbRep T)), H) else (suNum (tbRep T), none, H)) v E w3
        by_cases hz : suNum (tbRep T) = 0
        · rw [if_pos hz] at q2 ⊢
          rw [hz] at q1
          exact ⟨q1, q2.low HO2.out.size, ⟨_, G, HK.out.same HO3, fun _ h => .inl h⟩, HO3.mono (fun _ h => h.elim)⟩
        · rw [if_neg hz] at q2 ⊢
          exact ⟨q1, q2, ⟨_, G, HK.out.same HO3, fun _ h => .inl h⟩, HO3.mono (fun _ h => h.elim)⟩
      | false =>
        rw [show (if false = true then (0 : Int) else 1) = 1 from rfl] at HSd HOn
        have HCl : Hid (∀ W, Only (fun _ => False) w W → ∃ v, W.cell? ⟨p, mo + 17, none⟩ = some v ∧ W.frozen? ⟨p, mo + 17, none⟩ = false) := fun W ho => ⟨_, (HK.out.hub.same ho).in2.val (i := 0) rfl, (HK.out.hub.same ho).frozen (mo + 17)⟩
        go_enter Tryz.func210, Tryz.ntmps210
        go_wp2_with (first
          | (go_at_call 223; (with_reducible refine HP0.out.mono ?_); rintro e w1 ⟨A1, m1, c1, rfl, hen, ho1⟩; have HEn := Lib.hid hen; have HO1 := Lib.hid ho1; clear ho1 hen)
          | (go_at_call 220; (with_reducible refine (HSd.out _).mono ?_); rintro e w' ⟨rfl, e2⟩; subst w')
          | (go_at_call 49; (with_reducible refine (HOn.out _ HO1.out).mono ?_); rintro e w2 ⟨rfl, ho2⟩; have HO2 := Lib.hid (HO1.out.trans ho2 (fun _ h => h.elim)); have HE2 := Lib.hid (HEn.out.1.same ho2); obtain ⟨v17, c17, f17⟩ := HCl.out _ HO2.out; clear ho2))
        go_ret2
        have hI := (HK.out.hub.same HO2.out).in2.setCell (i := 0) (by simp) (.slice A1 m1 c1)
        have hO : Only (· = p) w2 (w2.setCell ⟨p, mo + 17, none⟩ (.slice A1 m1 c1)) := (Only.refl (· = p) w2).setCell (p := ⟨p, mo + 17, none⟩) (.inl rfl) _
        have hO' : Only (· = p) w (w2.setCell ⟨p, mo + 17, none⟩ (.slice A1 m1 c1)) := (Only.mono (T := (· = p)) HO2.out (fun _ h => h.elim)).trans hO (fun i hi => .inl hi)
        obtain ⟨z1, z2, z3, z4, z5, z6, z7, z8, z9, z9', z10, z11, z12, z13, z14, z15, z16, z17, z18⟩ := (HK.out.is.own hO').grow (G' := fun i => G i ∨ w.heap.size ≤ i) (fun _ h => .inl h)
        have hNp : ∀ ad, A1 = some ad → 0 < m1 → (G ad.block ∨ w.heap.size ≤ ad.block) ∧ ad.block ≠ p := fun ad e h0 => ⟨.inr (HEn.out.2 h0 ad e), fun hp => by have h1 := HEn.out.2 h0 ad e; have h2 := HK.out.hub.lt; omega⟩
        rw [HRr.out]
        exact ⟨_, _, rfl, ErrV.nil es, rfl, ⟨_, _, ⟨HuAt.of_rep HK.out.hub.ok hI, ⟨z1, z2, z3, z4, z5, z6, z7, z8, z9, z9', z10, ⟨A1, m1, c1, rfl, HE2.out.far hO (fun ad e h0 => (hNp ad e h0).2), by have h1 := HE2.out.1; have h2 := HLn.out; omega, hNp⟩, z12, z13, z14, z15, z16, z17, z18⟩⟩, fun _ h => h⟩, hO'⟩
  · have HP0 : Hid (Calls Tryz.prog 223 #[.slice A n c] w fun e w' => ∃ A' m c' a, e = .returned (.tuple #[.slice A' m c', .bool x, .iface 409 (.pointer (some a))]) ∧ ErrV es (.iface 409 (.pointer (some a))) num ∧ Only (fun _ => False) w w') := HP.out.mono (fun e w' ⟨A', m, c', E, h3, h4, _, h6⟩ => by
      rcases h4.ways with ⟨h, _⟩ | ⟨_, a, rfl⟩
      · exact absurd h h0
      · exact ⟨A', m, c', a, h3, h4, h6⟩)
    have e0 : onNum num on = num := by unfold onNum; rw [if_neg h0]
    have HRr2 : Hid (r = (num, none, H)) := by
      show r = _
      rw [HRr.out, e0]
      exact if_pos h0
    clear HP e0 HRr
    go_enter Tryz.func210, Tryz.ntmps210
    go_wp2_with (first
      | (go_at_call 223; (with_reducible refine HP0.out.mono ?_); rintro e w1 ⟨A1, m1, c1, a1, rfl, hv1, ho1⟩; have HV1 := Lib.hid hv1; have HO1 := Lib.hid ho1; clear ho1 hv1))
    go_ret2
    rw [HRr2.out]
    exact ⟨_, _, rfl, Ans.bad HK.out HO1.out HV1.out⟩
end
end Go.Proofs.YtbnfhklpobephaaGreatDoor
/- A hub hears a token: which option's body it is. -/
namespace Go.Proofs.YtbnfhklpobephaaGreatDoor
open Go Go.RowKit
set_option maxRecDepth 100000
set_option maxHeartbeats 4000000

@[reducible] def tkV (kind code opt : Int) (A : Option Addr) (n c : Nat) (cut : Bool) : Value := .agg #[.int .i64 kind, .int .i64 code, .int .i64 opt, .slice A n c, .bool cut]
theorem huHear_31 {w : World} {p q mo mq : Nat} {code : Int} {A : Option Addr} {n c : Nat} {C : Value → Value → World → Prop}
    (h : ∀ W, Only (fun _ => False) w W → Calls Tryz.prog 208 #[.pointer (some ⟨p, mo, none⟩), .pointer (some ⟨q, mq, none⟩), .slice A n c] W fun e w' => ∃ v E, e = .returned (.tuple #[v, E]) ∧ Hid (C v E w')) :
    Calls Tryz.prog 164 #[.pointer (some ⟨p, mo, none⟩), .pointer (some ⟨q, mq, none⟩), tkV 4 code 31 A n c false] w fun e w' => ∃ v E, e = .returned (.tuple #[v, E]) ∧ Hid (C v E w') := by
  have HF := Lib.hid h
  have HM := Lib.hid (fun W => hearings_any W ⟨p, mo, none⟩)
  have HB : Hid (∀ W, Only (fun _ => False) (w.alloc (.cells #[.int .i64 4, .int .i64 code, .int .i64 31, .slice A n c, .bool false] 178)) W → Blk W w.heap.size 178 [.int .i64 4, .int .i64 code, .int .i64 31, .slice A n c, .bool false]) := fun W ho => (Blk.new w 178 [.int .i64 4, .int .i64 code, .int .i64 31, .slice A n c, .bool false]).only ho (fun h => h)
  have HN : Hid (Only (fun _ => False) w (w.alloc (.cells #[.int .i64 4, .int .i64 code, .int .i64 31, .slice A n c, .bool false] 178))) := (Only.refl _ _).alloc _
  clear h
  go_enter Tryz.func164, Tryz.ntmps164
  go_wp2
  obtain ⟨w0, hw0⟩ : ∃ w0, w0 = w.alloc (.cells #[.int .i64 4, .int .i64 code, .int .i64 31, .slice A n c, .bool false] 178) := ⟨_, rfl⟩
  rw [← hw0] at HB HN ⊢
  clear hw0
  go_region_held3 (fun W => W.cell? ⟨w.heap.size, 2, none⟩ = some (.int .i64 31))
    (first | exact (HB.out _ (Only.refl _ _).drew).cell 2 | exact (HB.out _ HO1.out).cell 2)
    (first | (go_at_call 195; (with_reducible refine (HM.out _).mono ?_); rintro e w1 ⟨rfl, hm1, ho1⟩; have HO1 : Hid (Only (fun _ => False) w0 w1) := ((Only.refl _ _).drew).trans ho1.out (fun _ h => h.elim); have hlk := (look_opt (show MpAt w1 w0.heap.size [e31 ⟨p, mo, none⟩, e24 ⟨p, mo, none⟩, e5 ⟨p, mo, none⟩, e34 ⟨p, mo, none⟩] 4 from hm1.out)).1))
  have hb3 : w1.cell? ⟨w.heap.size, 3, none⟩ = some (.slice A n c) := (HB.out _ HO1.out).cell 3
  go_wp2_with (go_at_call 208; (with_reducible refine (HF.out _ (HN.out.trans HO1.out (fun _ h => h.elim))).mono ?_); rintro e w2 ⟨v, E, rfl, hC⟩)
  go_ret2
  exact ⟨v, E, rfl, hC⟩
theorem huHear_24 {w : World} {p q mo mq : Nat} {code : Int} {A : Option Addr} {n c : Nat} {C : Value → Value → World → Prop}
    (h : ∀ W, Only (fun _ => False) w W → Calls Tryz.prog 209 #[.pointer (some ⟨p, mo, none⟩), .pointer (some ⟨q, mq, none⟩), .slice A n c] W fun e w' => ∃ v E, e = .returned (.tuple #[v, E]) ∧ Hid (C v E w')) :
    Calls Tryz.prog 164 #[.pointer (some ⟨p, mo, none⟩), .pointer (some ⟨q, mq, none⟩), tkV 4 code 24 A n c false] w fun e w' => ∃ v E, e = .returned (.tuple #[v, E]) ∧ Hid (C v E w') := by
  have HF := Lib.hid h
  have HM := Lib.hid (fun W => hearings_any W ⟨p, mo, none⟩)
  have HB : Hid (∀ W, Only (fun _ => False) (w.alloc (.cells #[.int .i64 4, .int .i64 code, .int .i64 24, .slice A n c, .bool false] 178)) W → Blk W w.heap.size 178 [.int .i64 4, .int .i64 code, .int .i64 24, .slice A n c, .bool false]) := fun W ho => (Blk.new w 178 [.int .i64 4, .int .i64 code, .int .i64 24, .slice A n c, .bool false]).only ho (fun h => h)
  have HN : Hid (Only (fun _ => False) w (w.alloc (.cells #[.int .i64 4, .int .i64 code, .int .i64 24, .slice A n c, .bool false] 178))) := (Only.refl _ _).alloc _
  clear h
  go_enter Tryz.func164, Tryz.ntmps164
  go_wp2
  obtain ⟨w0, hw0⟩ : ∃ w0, w0 = w.alloc (.cells #[.int .i64 4, .int .i64 code, .int .i64 24, .slice A n c, .bool false] 178) := ⟨_, rfl⟩
  rw [← hw0] at HB HN ⊢
  clear hw0
  go_region_held3 (fun W => W.cell? ⟨w.heap.size, 2, none⟩ = some (.int .i64 24))
    (first | exact (HB.out _ (Only.refl _ _).drew).cell 2 | exact (HB.out _ HO1.out).cell 2)
    (first | (go_at_call 195; (with_reducible refine (HM.out _).mono ?_); rintro e w1 ⟨rfl, hm1, ho1⟩; have HO1 : Hid (Only (fun _ => False) w0 w1) := ((Only.refl _ _).drew).trans ho1.out (fun _ h => h.elim); have hlk := (look_opt (show MpAt w1 w0.heap.size [e31 ⟨p, mo, none⟩, e24 ⟨p, mo, none⟩, e5 ⟨p, mo, none⟩, e34 ⟨p, mo, none⟩] 4 from hm1.out)).2.1))
  have hb3 : w1.cell? ⟨w.heap.size, 3, none⟩ = some (.slice A n c) := (HB.out _ HO1.out).cell 3
  go_wp2_with (go_at_call 209; (with_reducible refine (HF.out _ (HN.out.trans HO1.out (fun _ h => h.elim))).mono ?_); rintro e w2 ⟨v, E, rfl, hC⟩)
  go_ret2
  exact ⟨v, E, rfl, hC⟩
theorem huHear_5 {w : World} {p q mo mq : Nat} {code : Int} {A : Option Addr} {n c : Nat} {C : Value → Value → World → Prop}
    (h : ∀ W, Only (fun _ => False) w W → Calls Tryz.prog 210 #[.pointer (some ⟨p, mo, none⟩), .pointer (some ⟨q, mq, none⟩), .slice A n c] W fun e w' => ∃ v E, e = .returned (.tuple #[v, E]) ∧ Hid (C v E w')) :
    Calls Tryz.prog 164 #[.pointer (some ⟨p, mo, none⟩), .pointer (some ⟨q, mq, none⟩), tkV 4 code 5 A n c false] w fun e w' => ∃ v E, e = .returned (.tuple #[v, E]) ∧ Hid (C v E w') := by
  have HF := Lib.hid h
  have HM := Lib.hid (fun W => hearings_any W ⟨p, mo, none⟩)
  have HB : Hid (∀ W, Only (fun _ => False) (w.alloc (.cells #[.int .i64 4, .int .i64 code, .int .i64 5, .slice A n c, .bool false] 178)) W → Blk W w.heap.size 178 [.int .i64 4, .int .i64 code, .int .i64 5, .slice A n c, .bool false]) := fun W ho => (Blk.new w 178 [.int .i64 4, .int .i64 code, .int .i64 5, .slice A n c, .bool false]).only ho (fun h => h)
  have HN : Hid (Only (fun _ => False) w (w.alloc (.cells #[.int .i64 4, .int .i64 code, .int .i64 5, .slice A n c, .bool false] 178))) := (Only.refl _ _).alloc _
  clear h
  go_enter Tryz.func164, Tryz.ntmps164
  go_wp2
  obtain ⟨w0, hw0⟩ : ∃ w0, w0 = w.alloc (.cells #[.int .i64 4, .int .i64 code, .int .i64 5, .slice A n c, .bool false] 178) := ⟨_, rfl⟩
  rw [← hw0] at HB HN ⊢
  clear hw0
  go_region_held3 (fun W => W.cell? ⟨w.heap.size, 2, none⟩ = some (.int .i64 5))
    (first | exact (HB.out _ (Only.refl _ _).drew).cell 2 | exact (HB.out _ HO1.out).cell 2)
    (first | (go_at_call 195; (with_reducible refine (HM.out _).mono ?_); rintro e w1 ⟨rfl, hm1, ho1⟩; have HO1 : Hid (Only (fun _ => False) w0 w1) := ((Only.refl _ _).drew).trans ho1.out (fun _ h => h.elim); have hlk := (look_opt (show MpAt w1 w0.heap.size [e31 ⟨p, mo, none⟩, e24 ⟨p, mo, none⟩, e5 ⟨p, mo, none⟩, e34 ⟨p, mo, none⟩] 4 from hm1.out)).2.2.1))
  have hb3 : w1.cell? ⟨w.heap.size, 3, none⟩ = some (.slice A n c) := (HB.out _ HO1.out).cell 3
  go_wp2_with (go_at_call 210; (with_reducible refine (HF.out _ (HN.out.trans HO1.out (fun _ h => h.elim))).mono ?_); rintro e w2 ⟨v, E, rfl, hC⟩)
  go_ret2
  exact ⟨v, E, rfl, hC⟩
theorem huHear_34 {w : World} {p q mo mq : Nat} {code : Int} {A : Option Addr} {n c : Nat} {C : Value → Value → World → Prop}
    (h : ∀ W, Only (fun _ => False) w W → Calls Tryz.prog 211 #[.pointer (some ⟨p, mo, none⟩), .pointer (some ⟨q, mq, none⟩), .slice A n c] W fun e w' => ∃ v E, e = .returned (.tuple #[v, E]) ∧ Hid (C v E w')) :
    Calls Tryz.prog 164 #[.pointer (some ⟨p, mo, none⟩), .pointer (some ⟨q, mq, none⟩), tkV 4 code 34 A n c false] w fun e w' => ∃ v E, e = .returned (.tuple #[v, E]) ∧ Hid (C v E w') := by
  have HF := Lib.hid h
  have HM := Lib.hid (fun W => hearings_any W ⟨p, mo, none⟩)
  have HB : Hid (∀ W, Only (fun _ => False) (w.alloc (.cells #[.int .i64 4, .int .i64 code, .int .i64 34, .slice A n c, .bool false] 178)) W → Blk W w.heap.size 178 [.int .i64 4, .int .i64 code, .int .i64 34, .slice A n c, .bool false]) := fun W ho => (Blk.new w 178 [.int .i64 4, .int .i64 code, .int .i64 34, .slice A n c, .bool false]).only ho (fun h => h)
  have HN : Hid (Only (fun _ => False) w (w.alloc (.cells #[.int .i64 4, .int .i64 code, .int .i64 34, .slice A n c, .bool false] 178))) := (Only.refl _ _).alloc _
  clear h
  go_enter Tryz.func164, Tryz.ntmps164
  go_wp2
  obtain ⟨w0, hw0⟩ : ∃ w0, w0 = w.alloc (.cells #[.int .i64 4, .int .i64 code, .int .i64 34, .slice A n c, .bool false] 178) := ⟨_, rfl⟩
  rw [← hw0] at HB HN ⊢
  clear hw0
  go_region_held3 (fun W => W.cell? ⟨w.heap.size, 2, none⟩ = some (.int .i64 34))
    (first | exact (HB.out _ (Only.refl _ _).drew).cell 2 | exact (HB.out _ HO1.out).cell 2)
    (first | (go_at_call 195; (with_reducible refine (HM.out _).mono ?_); rintro e w1 ⟨rfl, hm1, ho1⟩; have HO1 : Hid (Only (fun _ => False) w0 w1) := ((Only.refl _ _).drew).trans ho1.out (fun _ h => h.elim); have hlk := (look_opt (show MpAt w1 w0.heap.size [e31 ⟨p, mo, none⟩, e24 ⟨p, mo, none⟩, e5 ⟨p, mo, none⟩, e34 ⟨p, mo, none⟩] 4 from hm1.out)).2.2.2))
  have hb3 : w1.cell? ⟨w.heap.size, 3, none⟩ = some (.slice A n c) := (HB.out _ HO1.out).cell 3
  go_wp2_with (go_at_call 211; (with_reducible refine (HF.out _ (HN.out.trans HO1.out (fun _ h => h.elim))).mono ?_); rintro e w2 ⟨v, E, rfl, hC⟩)
  go_ret2
  exact ⟨v, E, rfl, hC⟩
theorem huHear_kind {w : World} {es : List Addr} (hE : ErrsAt w es) (p q mo mq : Nat) {kind : Int} (hk : kind ≠ 4) (code opt : Int) (A : Option Addr) (n c : Nat) (cut : Bool) :
    ∃ a, es[8]? = some a ∧ Calls Tryz.prog 164 #[.pointer (some ⟨p, mo, none⟩), .pointer (some ⟨q, mq, none⟩), tkV kind code opt A n c cut] w fun e w' => e = .returned (.tuple #[.slice none 0 0, errV a]) ∧ Only (fun _ => False) w w' := by
  obtain ⟨a, ha, hst⟩ := (hE.of [8]).get 8 8 (by decide) rfl
  refine ⟨a, ha, ?_⟩
  unfold errV at hst ⊢
  have HC : Hid (∀ W, Only (fun _ => False) w W → W.cell? ⟨8, 0, none⟩ = some (.iface 409 (.pointer (some a)))) := fun W ho => ho.cellv hst (fun h => h)
  have hc1 : ∀ ob, (w.alloc ob).cell? ⟨8, 0, none⟩ = some (.iface 409 (.pointer (some a))) := fun ob => HC.out _ ((Only.refl _ _).alloc ob)
  clear ha hst hE
  have hk1 : (kind != 4) = true := by simp [hk]
  clear hk
  go_enter Tryz.func164, Tryz.ntmps164
  go_wp2
  go_quiet (fail)
  go_wp2
  go_ret2
  exact ⟨rfl, ((Only.refl _ _).alloc _).drewN _⟩
theorem huHear_cut {w : World} {es : List Addr} (hE : ErrsAt w es) (p q mo mq : Nat) (code opt : Int) (A : Option Addr) (n c : Nat) :
    ∃ a, es[3]? = some a ∧ Calls Tryz.prog 164 #[.pointer (some ⟨p, mo, none⟩), .pointer (some ⟨q, mq, none⟩), tkV 4 code opt A n c true] w fun e w' => e = .returned (.tuple #[.slice none 0 0, errV a]) ∧ Only (fun _ => False) w w' := by
  obtain ⟨a, ha, hst⟩ := (hE.of [3]).get 3 3 (by decide) rfl
  refine ⟨a, ha, ?_⟩
  unfold errV at hst ⊢
  have HC : Hid (∀ W, Only (fun _ => False) w W → W.cell? ⟨3, 0, none⟩ = some (.iface 409 (.pointer (some a)))) := fun W ho => ho.cellv hst (fun h => h)
  have hc1 : ∀ ob, (w.alloc ob).cell? ⟨3, 0, none⟩ = some (.iface 409 (.pointer (some a))) := fun ob => HC.out _ ((Only.refl _ _).alloc ob)
  clear ha hst hE
  go_enter Tryz.func164, Tryz.ntmps164
  go_wp2
  go_quiet (fail)
  go_wp2
  go_ret2
  exact ⟨rfl, ((Only.refl _ _).alloc _).drewN _⟩
theorem huHear_name {w : World} {p q mo mq : Nat} {code : Int} {A : Option Addr} {n c : Nat} 
    {es : List Addr} (hE : ErrsAt w es) {opt : Int} (n1 : opt ≠ 31) (n2 : opt ≠ 24) (n3 : opt ≠ 5) (n4 : opt ≠ 34) :
    ∃ a, es[5]? = some a ∧ Calls Tryz.prog 164 #[.pointer (some ⟨p, mo, none⟩), .pointer (some ⟨q, mq, none⟩), tkV 4 code opt A n c false] w fun e w' => e = .returned (.tuple #[.slice none 0 0, errV a]) ∧ Only (fun _ => False) w w' := by
  obtain ⟨a, ha, hst⟩ := (hE.of [5]).get 5 5 (by decide) rfl
  refine ⟨a, ha, ?_⟩
  unfold errV at hst ⊢
  have HC : Hid (∀ W, Only (fun _ => False) w W → W.cell? ⟨5, 0, none⟩ = some (.iface 409 (.pointer (some a)))) := fun W ho => ho.cellv hst (fun h => h)
  have hc1 : ∀ ob, (w.alloc ob).cell? ⟨5, 0, none⟩ = some (.iface 409 (.pointer (some a))) := fun ob => HC.out _ ((Only.refl _ _).alloc ob)
  clear ha hst hE
  have HM := Lib.hid (fun W => hearings_any W ⟨p, mo, none⟩)
  have HB : Hid (∀ W, Only (fun _ => False) (w.alloc (.cells #[.int .i64 4, .int .i64 code, .int .i64 opt, .slice A n c, .bool false] 178)) W → Blk W w.heap.size 178 [.int .i64 4, .int .i64 code, .int .i64 opt, .slice A n c, .bool false]) := fun W ho => (Blk.new w 178 [.int .i64 4, .int .i64 code, .int .i64 opt, .slice A n c, .bool false]).only ho (fun h => h)
  have HN : Hid (Only (fun _ => False) w (w.alloc (.cells #[.int .i64 4, .int .i64 code, .int .i64 opt, .slice A n c, .bool false] 178))) := (Only.refl _ _).alloc _
  go_enter Tryz.func164, Tryz.ntmps164
  go_wp2
  obtain ⟨w0, hw0⟩ : ∃ w0, w0 = w.alloc (.cells #[.int .i64 4, .int .i64 code, .int .i64 opt, .slice A n c, .bool false] 178) := ⟨_, rfl⟩
  rw [← hw0] at HB HN ⊢
  clear hw0
  go_region_held3 (fun W => W.cell? ⟨w.heap.size, 2, none⟩ = some (.int .i64 opt))
    (first | exact (HB.out _ (Only.refl _ _).drew).cell 2 | exact (HB.out _ HO1.out).cell 2)
    (first | (go_at_call 195; (with_reducible refine (HM.out _).mono ?_); rintro e w1 ⟨rfl, hm1, ho1⟩; have HO1 : Hid (Only (fun _ => False) w0 w1) := ((Only.refl _ _).drew).trans ho1.out (fun _ h => h.elim); have hlk := look_other (show MpAt w1 w0.heap.size [e31 ⟨p, mo, none⟩, e24 ⟨p, mo, none⟩, e5 ⟨p, mo, none⟩, e34 ⟨p, mo, none⟩] 4 from hm1.out) n1 n2 n3 n4))
  have hc2 := HC.out _ (HN.out.trans HO1.out (fun _ h => h.elim))
  go_wp2
  go_quiet (fail)
  go_wp2
  go_ret2
  exact ⟨rfl, (HN.out.trans HO1.out (fun _ h => h.elim)).drewN _⟩
end Go.Proofs.YtbnfhklpobephaaGreatDoor
