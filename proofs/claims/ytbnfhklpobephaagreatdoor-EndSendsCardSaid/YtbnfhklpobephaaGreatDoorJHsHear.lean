/- Several texts in one. -/
import Derived.Test.YtbnfhklpobephaaGreatDoorHsMask
import Derived.Test.YtbnfhklpobephaaGreatDoorJHsMode
import Derived.Test.YtbnfhklpobephaaGreatDoorJSuParse
import Derived.Test.YtbnfhklpobephaaGreatDoorJEnTurn
import Derived.Test.YtbnfhklpobephaaGreatDoorLs
import Derived.Deep.RegionHeld3
/- A hub hears a body of Linemode, a token: all that comes of it. -/
namespace Go.Proofs.YtbnfhklpobephaaGreatDoor
open Go Go.RowKit
set_option maxRecDepth 100000
set_option maxHeartbeats 4000000

section
variable {w : World} {es : List Addr} {A : Option Addr} {n c : Nat} {b : List UInt8} {p q mo mq : Nat} {tp tq : TypeId} {pre post prq poq : List Value} {G : Nat → Prop} {h : Hb} {H : Hs} {ag : Nat → Nat → Bool} {T : Tb}
theorem hsLines (hE : ErrsAt w es) (k : HsAt w p mo tp pre post G h H) (hT : TbAt w q mq tq prq poq ag T) (hs : Src w A n b) (hn : n ≤ 256) (hnc : n ≤ c) (hcap : c ≤ 9223372036854775807) : HearsF 211 w es p mo tp pre post G q mq 34 A n c (H.hearLines T b) := by
  obtain ⟨R, hR⟩ : ∃ R, R = H.hearLines T b := ⟨_, rfl⟩
  rw [← hR]
  have HK := Lib.hid k
  by_cases h0 : n = 0
  · obtain ⟨a, ha, hst⟩ := (hE.of [2]).get 2 2 (by decide) rfl
    have HA3 : Hid (ErrV es (errV a) 3) := ErrV.err ha 3 rfl
    unfold errV at hst HA3
    subst h0
    have hb0 : b = [] := List.eq_nil_of_length_eq_zero hs.1
    have HR1 : Hid (R = (3, none, H)) := by show R = _; rw [hR, hb0]; rfl
    clear hE k hT hs hn hnc hcap ha hR hb0
    go_enter Tryz.func211, Tryz.ntmps211
    go_wp2
    go_quiet (fail)
    go_wp2
    go_ret2
    rw [HR1.out]
    exact ⟨_, _, rfl, Ans.bad HK.out ((Only.refl _ _).drewN _) HA3.out⟩
  · have hz : ((n : Int) == 0) = false := by simp; omega
    obtain ⟨ad, rfl, hcell⟩ := hs.2 (by omega)
    obtain ⟨x, r, rfl⟩ : ∃ x r, b = x :: r := by
      have := hs.1
      match b, this with
      | [], h => simp at h; omega
      | x :: r, _ => exact ⟨x, r, rfl⟩
    have c0 := hcell 0 x rfl
    rw [show ad.add 0 = ad from by simp [Addr.add]] at c0
    unfold B8 at c0
    have hi1 : (0 : Int) < (n : Int) := by omega
    have hx := x.toNat_lt
    have w1 : IntKind.i64.wrap (x.toNat : Int) = (x.toNat : Int) := IntWalk.i64_in _ (by omega)
    by_cases h1 : x.toNat = 1
    · have hR1 : R = H.hearMode T (x :: r) := by rw [hR]; exact if_pos h1
      have HM := Lib.hid (hsMode (c := c) hE k hT hs)
      rw [← hR1] at HM
      clear hR hR1
      rw [show ((x.toNat : Nat) : Int) = 1 by omega] at c0
      clear hE k hT hs hn hnc hcap hcell h0 hx w1 h1
      go_enter Tryz.func211, Tryz.ntmps211
      go_wp2_with (go_at_call 225; (with_reducible refine HM.out.mono ?_); rintro e w2 ⟨v, E, rfl, hC⟩)
      go_ret2
      exact ⟨v, E, rfl, hC⟩
    · by_cases h3 : x.toNat = 3
      · obtain ⟨D, hD⟩ : ∃ D, (if c = 1 then some ad else some ⟨ad.block, ad.off + 1, none⟩) = D := ⟨_, rfl⟩
        have hp := hs.piece 1 n (by omega) (Nat.le_refl _) D (fun hlt ad' e => by
          injection e with e
          subst e
          rw [if_neg (by omega)] at hD
          rw [← hD]
          simp [Addr.add])
        have hR1 : R = H.hearChars T r := by rw [hR]; exact (if_neg h1).trans (if_pos h3)
        have hp' : Src w D (n - 1) r := by
          have := hp
          rwa [show (List.take n (x :: r)).drop 1 = r from by rw [List.take_of_length_le (by rw [hs.1]; exact Nat.le_refl _)]; rfl] at this
        have HM := Lib.hid (hsChars (c := c - 1) hE k hT hp' (by omega) (by omega) (by omega))
        rw [← hR1] at HM
        clear hR hR1 hp'
        have hk4 : (1 : Int) ≤ (n : Int) := by omega
        have hk5 : (n : Int) ≤ (c : Int) := by omega
        rw [show ((x.toNat : Nat) : Int) = 3 by omega] at c0
        clear hE k hT hs hn hcell h0 hx w1 h1 h3 hp
        go_enter Tryz.func211, Tryz.ntmps211
        go_wp2_with (go_at_call 226; (with_reducible refine HM.out.mono ?_); rintro e w2 ⟨v, E, rfl, hC⟩)
        go_ret2
        exact ⟨v, E, rfl, hC⟩
      · have HV := Lib.hid (fun W => verb_any W (x.toNat : Int))
        have hx1 : ((x.toNat : Int) == 1) = false := by simp; omega
        have hx3 : ((x.toNat : Int) == 3) = false := by simp; omega
        by_cases hv : 251 ≤ x.toNat ∧ x.toNat ≤ 254
        · have hR1 : R = H.hearMask T (x :: r) := by rw [hR]; exact (if_neg h1).trans ((if_neg h3).trans (if_pos hv))
          have HM := Lib.hid (hsMask hE k hT hs hn hnc hcap)
          rw [← hR1] at HM
          clear hR hR1
          rw [decide_eq_true (show 251 ≤ (x.toNat : Int) ∧ (x.toNat : Int) ≤ 254 by omega)] at HV
          clear hE k hT hs hn hnc hcap hcell h0 h1 h3 hv
          go_enter Tryz.func211, Tryz.ntmps211
          go_wp2_with (first
            | (go_at_call 158; (with_reducible refine (HV.out _).mono ?_); rintro e w' ⟨rfl, e2⟩; subst w')
            | (go_at_call 227; (with_reducible refine HM.out.mono ?_); rintro e w2 ⟨v, E, rfl, hC⟩))
          go_ret2
          exact ⟨v, E, rfl, hC⟩
        · obtain ⟨a, ha, hst⟩ := (hE.of [8]).get 8 8 (by decide) rfl
          have HA9 : Hid (ErrV es (errV a) 9) := ErrV.err ha 9 rfl
          have HR1 : Hid (R = (9, none, H)) := by show R = _; rw [hR]; exact (if_neg h1).trans ((if_neg h3).trans (if_neg hv))
          unfold errV at hst HA9
          clear hR
          rw [decide_eq_false (show ¬ (251 ≤ (x.toNat : Int) ∧ (x.toNat : Int) ≤ 254) by omega)] at HV
          clear hE k hT hs hn hnc hcap hcell h0 h1 h3 hv ha
          go_enter Tryz.func211, Tryz.ntmps211
          go_wp2_with (first
            | (go_at_call 158; (with_reducible refine (HV.out _).mono ?_); rintro e w' ⟨rfl, e2⟩; subst w'))
          go_quiet (fail)
          go_wp2
          go_ret2
          rw [HR1.out]
          exact ⟨_, _, rfl, Ans.bad HK.out ((Only.refl _ _).drewN _) HA9.out⟩
/-- A token is heard. -/
theorem hsHear (hE : ErrsAt w es) (k : HsAt w p mo tp pre post G h H) (hT : TbAt w q mq tq prq poq ag T) (hs : Src w A n b) (hn : n ≤ 256) (hnc : n ≤ c) (hcap : c ≤ 9223372036854775807) (kind code opt : Int) (cut : Bool) :
    Calls Tryz.prog 164 #[.pointer (some ⟨p, mo, none⟩), .pointer (some ⟨q, mq, none⟩), tkV kind code opt A n c cut] w fun e w' => ∃ v E, e = .returned (.tuple #[v, E]) ∧ Hid (Ans w es p mo tp pre post G opt (H.hear T kind opt cut b) v E w') := by
  have key : ∀ f o r, (∀ W, Only (fun _ => False) w W → HearsF f W es p mo tp pre post G q mq o A n c r) → ∀ W, Only (fun _ => False) w W → Calls Tryz.prog f #[.pointer (some ⟨p, mo, none⟩), .pointer (some ⟨q, mq, none⟩), .slice A n c] W fun e w' => ∃ v E, e = .returned (.tuple #[v, E]) ∧ Hid (Ans w es p mo tp pre post G o r v E w') := fun f o r H W ho => (H W ho).mono (fun e w' ⟨v, E, h1, h2⟩ => ⟨v, E, h1, h2.out.from_ ho⟩)
  have bad : ∀ z (i g : Nat), z = i + 1 → (∃ a, es[i]? = some a ∧ Calls Tryz.prog 164 #[.pointer (some ⟨p, mo, none⟩), .pointer (some ⟨q, mq, none⟩), tkV kind code opt A n c cut] w fun e w' => e = .returned (.tuple #[.slice none 0 0, errV a]) ∧ Only (fun _ => False) w w') → Calls Tryz.prog 164 #[.pointer (some ⟨p, mo, none⟩), .pointer (some ⟨q, mq, none⟩), tkV kind code opt A n c cut] w fun e w' => ∃ v E, e = .returned (.tuple #[v, E]) ∧ Hid (Ans w es p mo tp pre post G opt (z, none, H) v E w') := by
    rintro z i _ hz ⟨a, ha, hc⟩
    refine hc.mono ?_
    rintro e w' ⟨rfl, ho⟩
    exact ⟨_, _, rfl, Ans.bad k ho (ErrV.err ha z hz)⟩
  unfold Hs.hear
  by_cases h4 : kind = 4
  · subst h4
    rw [if_neg (fun h => h rfl)]
    cases cut with
    | true =>
      rw [if_pos rfl]
      exact bad 4 3 0 rfl (huHear_cut hE p q mo mq code opt A n c)
    | false =>
      rw [if_neg (by decide)]
      by_cases n1 : opt = 31
      · subst n1
        rw [if_pos rfl]
        exact huHear_31 (C := Ans w es p mo tp pre post G 31 _) (key _ 31 _ fun W ho => hsSize (c := c) (hE.only ho) (k.same ho) (hT.same ho) (hs.only ho (fun _ _ _ h => h)))
      rw [if_neg n1]
      by_cases n2 : opt = 24
      · subst n2
        rw [if_pos rfl]
        exact huHear_24 (C := Ans w es p mo tp pre post G 24 _) (key _ 24 _ fun W ho => hsType (hE.only ho) (k.same ho) (hT.same ho) (hs.only ho (fun _ _ _ h => h)) hn hnc hcap)
      rw [if_neg n2]
      by_cases n3 : opt = 5
      · subst n3
        rw [if_pos rfl]
        exact huHear_5 (C := Ans w es p mo tp pre post G 5 _) (key _ 5 _ fun W ho => hsStat (hE.only ho) (k.same ho) (hT.same ho) (hs.only ho (fun _ _ _ h => h)) hn hnc hcap)
      rw [if_neg n3]
      by_cases n4 : opt = 34
      · subst n4
        rw [if_pos rfl]
        exact huHear_34 (C := Ans w es p mo tp pre post G 34 _) (key _ 34 _ fun W ho => hsLines (hE.only ho) (k.same ho) (hT.same ho) (hs.only ho (fun _ _ _ h => h)) hn hnc hcap)
      rw [if_neg n4]
      exact bad 6 5 0 rfl (huHear_name hE n1 n2 n3 n4)
  · rw [if_pos h4]
    exact bad 9 8 0 rfl (huHear_kind hE p q mo mq h4 code opt A n c cut)
end
end Go.Proofs.YtbnfhklpobephaaGreatDoor
/- What comes of a token at an end: data, a command, what is no subnegotiation, Mark. -/
namespace Go.Proofs.YtbnfhklpobephaaGreatDoor
open Go Go.RowKit
set_option maxRecDepth 100000
set_option maxHeartbeats 4000000

abbrev NtAt := LsOf Nt.cs 5
theorem ntOne {w : World} {N : Nat} {x : Nt} (h : Blk w N 87 x.cs) : NtAt w (some ⟨N, 0, none⟩) 1 [x] :=
  ⟨rfl, fun i y hy => by
    rcases i with _ | i
    · simp only [List.getElem?_cons_zero, Option.some.injEq] at hy
      subst hy
      exact ⟨N, 0, rfl, h.lt, fun j v hv => by simp only [Nat.zero_mul, Nat.zero_add]; rw [h.cell]; exact hv⟩
    · simp at hy⟩
/-- What is handed back beside what the call leaves: data, notes, in blocks that are new. -/
structure FedR (B : Nat) (w : World) (p mo : Nat) (tp : TypeId) (pre post : List Value) (M R : Nat → Prop) (ag : Nat → Nat → Bool) (r : Ee × List UInt8 × List Nt) (v1 v2 : Value) (w' : World) : Prop where
  en : EnGoes B w p mo tp pre post M R ag r.1 w'
  dat : ∃ A n c, v1 = .slice A n c ∧ Src w' A n r.2.1 ∧ (0 < n → ∀ ad, A = some ad → B ≤ ad.block)
  nts : ∃ A n c, v2 = .slice A n c ∧ NtAt w' A n r.2.2 ∧ n ≤ 3 ∧ (0 < n → ∀ ad, A = some ad → B ≤ ad.block)
theorem noDat (B : Nat) (w : World) : ∃ A n c, Value.slice none 0 0 = .slice A n c ∧ Src w A n [] ∧ (0 < n → ∀ ad, A = some ad → B ≤ ad.block) := ⟨none, 0, 0, rfl, Src.nil _ _, fun h => absurd h (by omega)⟩
theorem noNts (B : Nat) (w : World) : ∃ A n c, Value.slice none 0 0 = .slice A n c ∧ NtAt w A n [] ∧ n ≤ 3 ∧ (0 < n → ∀ ad, A = some ad → B ≤ ad.block) := ⟨none, 0, 0, rfl, LsOf.nil _ _ _ _, by omega, fun h => absurd h (by omega)⟩
theorem oneNts {B N : Nat} {w : World} {x : Nt} (h : Blk w N 87 x.cs) (hB : B ≤ N) : ∃ A n c, Value.slice (some ⟨N, 0, none⟩) 1 1 = .slice A n c ∧ NtAt w A n [x] ∧ n ≤ 3 ∧ (0 < n → ∀ ad, A = some ad → B ≤ ad.block) := ⟨_, 1, 1, rfl, ntOne h, by omega, fun _ ad e => by injection e with e; subst e; exact hB⟩
/-- What a token's call asks. -/
@[reducible] def HearsE (f : FuncId) (w : World) (p mo : Nat) (tp : TypeId) (pre post : List Value) (M R : Nat → Prop) (ag : Nat → Nat → Bool) (x : Value) (r : Ee × List UInt8 × List Nt) : Prop :=
  Calls Tryz.prog f #[.pointer (some ⟨p, mo, none⟩), x] w fun e w' => ∃ v1 v2, e = .returned (.tuple #[v1, v2]) ∧ Hid (FedR w.heap.size w p mo tp pre post M R ag r v1 v2 w')
@[reducible] def tkL (kind code opt : Int) (A : Option Addr) (n c : Nat) (cut : Bool) : List Value := [.int .i64 kind, .int .i64 code, .int .i64 opt, .slice A n c, .bool cut]
section
variable {w : World} {es : List Addr} {p mo : Nat} {tp : TypeId} {pre post : List Value} {M R : Nat → Prop} {ag : Nat → Nat → Bool} {E : Ee} {A : Option Addr} {n c : Nat} {kind code opt : Int} {cut : Bool}
theorem enDropped (w : World) (kind code opt : Int) (A : Option Addr) (n c : Nat) (cut : Bool) :
    Calls Tryz.prog 165 #[tkV kind code opt A n c cut] w fun e w' => ∃ N, e = .returned (.slice (some ⟨N, 0, none⟩) 1 1) ∧ Hid (Blk w' N 87 (Nt.cs ⟨5, 0, 0, opt, false⟩)) ∧ w.heap.size ≤ N ∧ Hid (Only (fun _ => False) w w') := by
  go_enter Tryz.func165, Tryz.ntmps165
  go_wp2
  go_ret
  exact ⟨_, rfl, Blk.new' _ _ _ (by simp), by omega, ((Only.refl _ _).alloc _).alloc _⟩
theorem enBadT (k : IsEe w p mo tp pre post M R ag E) : HearsE 118 w p mo tp pre post M R ag (tkV kind code opt A n c cut) (E, [], [⟨5, 0, 0, opt, false⟩]) := by
  have HD := Lib.hid (fun W => enDropped W kind code opt A n c cut)
  have HK := Lib.hid k
  have HR : Hid (∀ o, (w.alloc o).rangeAt w.heap.size 0 (tkL kind code opt A n c cut) ∨ True) := fun _ => .inr trivial
  have hr : (w.alloc (.cells (tkL kind code opt A n c cut).toArray 178)).rangeAt w.heap.size 0 (tkL kind code opt A n c cut) := range_of (Blk.new w _ _)
  have HRr := Lib.hid hr
  clear k hr HR
  go_enter Tryz.func118, Tryz.ntmps118
  go_wp2_with (go_at_call 165; (with_reducible refine (HD.out _).mono ?_); rintro e w1 ⟨N, rfl, hb, hN, ho⟩)
  go_ret2
  have hN' : w.heap.size ≤ N := by simp at hN; omega
  exact ⟨_, _, rfl, ⟨EnGoes.still HK.out (((Only.refl _ _).alloc _).trans ho.out (fun _ h => h.elim)), noDat _ _, oneNts hb.out hN'⟩⟩
theorem enData (k : IsEe w p mo tp pre post M R ag E) (x : UInt8) : HearsE 114 w p mo tp pre post M R ag (tkV kind (x.toNat : Int) opt A n c cut) (E, [b8 (x.toNat : Int)], []) := by
  have HK := Lib.hid k
  have hx := x.toNat_lt
  have hw : IntKind.u8.wrap (x.toNat : Int) = (x.toNat : Int) := IntWalk.u8_in _ (by omega)
  have hB8 : B8 (b8 (x.toNat : Int)) = .int .u8 (x.toNat : Int) := by unfold B8; rw [b8_int (by omega) (by omega)]
  have HB : Hid (∀ (W : World) (N : Nat), W.heap.size = N → Src (W.alloc (.cells #[.int .u8 (x.toNat : Int)] 5)) (some ⟨N, 0, none⟩) 1 [b8 (x.toNat : Int)]) := fun W N hN => by
    subst hN
    exact src_new W [b8 (x.toNat : Int)] _ _ _ 1 (by rw [List.map_cons, List.map_nil, hB8]) rfl
  generalize (x.toNat : Int) = z at *
  clear k hx hB8
  go_enter Tryz.func114, Tryz.ntmps114
  go_wp2
  go_ret2
  exact ⟨_, _, rfl, ⟨EnGoes.still HK.out (((Only.refl _ _).alloc _).alloc _), ⟨_, 1, 1, rfl, HB.out _ _ (by simp), fun _ ad e => by injection e with e; subst e; show w.heap.size ≤ w.heap.size + 1; omega⟩, noNts _ _⟩⟩
/-- A plain command is sent. -/
theorem enCmd (k : IsEe w p mo tp pre post M R ag E) (hes : ErrsAt w es) (hbd : E.out.length ≤ 100000) (code : Int) :
    Calls Tryz.prog 27 #[.pointer (some ⟨p, mo, none⟩), .int .i64 code] w fun e w' => ∃ Er, e = .returned Er ∧ Hid (ErrV es Er (E.cmd code).1 ∧ (tkNum (tk2 code) = 0 → Er = .nilIface) ∧ EnGoes w.heap.size w p mo tp pre post M R ag (E.cmd code).2 w') := by
  have HV := Lib.hid (plain_any (hes.of [0, 3, 8]) code 0 [] false)
  obtain ⟨bs, hbs⟩ : ∃ bs, bs = tkBytes (tk2 code) := ⟨_, rfl⟩
  obtain ⟨z, hz⟩ : ∃ z, z = tkNum (tk2 code) := ⟨_, rfl⟩
  have e1 : tkBytes ⟨2, code, 0, [], false⟩ = bs := hbs.symm
  have e2 : tkNum ⟨2, code, 0, [], false⟩ = z := hz.symm
  rw [e1, e2] at HV
  unfold Told at HV
  unfold Ee.cmd
  rw [← hbs, ← hz]
  have HK := Lib.hid k
  by_cases h0 : z = 0
  · have HV0 : Hid (Calls Tryz.prog 73 #[.int .i64 code] w fun e w' => ∃ A c, e = .returned (.tuple #[.slice A bs.length c, .nilIface]) ∧ Hid (Body w' w.heap.size (.slice A bs.length c) bs) ∧ Hid (Only (fun _ => False) w w')) := HV.out.mono (fun e w' ⟨A, c, E, h1, h2, h3, h4⟩ => by
      rcases h3.ways with ⟨_, rfl⟩ | ⟨h, _⟩
      · exact ⟨A, c, h1, h2, h4⟩
      · exact absurd h0 h)
    have HSd : Hid (∀ W A n c, IsEe W p mo tp pre post M R ag E → w.heap.size ≤ W.heap.size → Body W w.heap.size (.slice A n c) bs → n = bs.length → Calls Tryz.prog 70 #[.pointer (some ⟨p, mo, none⟩), .int .i64 2, .slice A n c] W fun e w' => e = .returned (.tuple #[]) ∧ Hid (EnGoes w.heap.size W p mo tp pre post M R ag (E.send 2 bs) w')) := fun W A n c hk hz hb hn =>
      enSend hk hz (hb.src hn) (hb.caps hn).1 (hb.caps hn).2 (fun h0 ad e => by
        have h1 := hb.newer hn h0 ad e
        exact ⟨h1, fun hm => by have := HK.out.mlt _ hm; omega⟩) hbd 2
    rw [if_pos h0]
    clear k hes HV hbs hz e1 e2 hbd
    subst h0
    go_enter Tryz.func27, Tryz.ntmps27
    go_wp2_with (first
      | (go_at_call 73; (with_reducible refine HV0.out.mono ?_); rintro e w1 ⟨A1, c1, rfl, hb1, ho1⟩; have HB1 := hb1; have HO1 := ho1; clear hb1 ho1)
      | (go_at_call 70; (with_reducible refine (HSd.out _ _ _ _ (HK.out.same HO1.out) HO1.out.size HB1.out rfl).mono ?_); rintro e w3 ⟨rfl, hg3⟩))
    go_ret
    exact ⟨_, rfl, ErrV.nil es, fun _ => rfl, EnGoes.from_ hg3.out HO1.out⟩
  · have HV0 : Hid (Calls Tryz.prog 73 #[.int .i64 code] w fun e w' => ∃ A n c a, e = .returned (.tuple #[.slice A n c, .iface 409 (.pointer (some a))]) ∧ ErrV es (.iface 409 (.pointer (some a))) z ∧ Hid (Only (fun _ => False) w w')) := HV.out.mono (fun e w' ⟨A, c, E, h1, h2, h3, h4⟩ => by
      rcases h3.ways with ⟨h, _⟩ | ⟨_, a, rfl⟩
      · exact absurd h h0
      · exact ⟨A, _, c, a, h1, h3, h4⟩)
    rw [if_neg h0]
    have HN := Lib.hid h0
    clear k hes HV hbs hz h0 e1 e2 hbd
    go_enter Tryz.func27, Tryz.ntmps27
    go_wp2_with (go_at_call 73; (with_reducible refine HV0.out.mono ?_); rintro e w1 ⟨A1, n1, c1, a1, rfl, hv1, ho1⟩; have HV1 := Lib.hid hv1; clear hv1)
    go_ret
    exact ⟨_, rfl, HV1.out, fun h => absurd h HN.out, EnGoes.still HK.out ho1.out⟩
theorem enPlain (k : IsEe w p mo tp pre post M R ag E) (hes : ErrsAt w es) (hbd : E.out.length ≤ 100000) : HearsE 115 w p mo tp pre post M R ag (tkV kind code opt A n c cut) (if code = 246 then E.send 2 (tkBytes (tk2 241)) else E, [], [⟨1, code, 0, 0, false⟩]) := by
  have HK := Lib.hid k
  have HC : Hid (∀ W, Only (fun _ => False) w W → Calls Tryz.prog 27 #[.pointer (some ⟨p, mo, none⟩), .int .i64 241] W fun e w' => e = .returned .nilIface ∧ Hid (EnGoes W.heap.size W p mo tp pre post M R ag (E.send 2 (tkBytes (tk2 241))) w')) := fun W ho => (enCmd (HK.out.same ho) (hes.only ho) hbd 241).mono (fun e w' ⟨Er, h1, h2⟩ => by
    have h3 := h2.out.2.1 (by decide)
    subst h3
    refine ⟨h1, ?_⟩
    have := h2.out.2.2
    unfold Ee.cmd at this
    rw [if_pos (by decide)] at this
    exact this)
  have hbk : Blk (w.alloc (.cells (tkL kind code opt A n c cut).toArray 178)) w.heap.size 178 (tkL kind code opt A n c cut) := Blk.new w _ _
  have HBk := Lib.hid hbk
  obtain ⟨r, hr⟩ : ∃ r, r = (if code = 246 then E.send 2 (tkBytes (tk2 241)) else E) := ⟨_, rfl⟩
  rw [← hr]
  by_cases h46 : code = 246
  · have HR1 : Hid (r = E.send 2 (tkBytes (tk2 241))) := by show r = _; rw [hr, if_pos h46]
    subst h46
    clear k hes hbd hr hbk
    go_enter Tryz.func115, Tryz.ntmps115
    go_wp2_with (go_at_call 27; (with_reducible refine (HC.out _ ((Only.refl _ _).alloc _)).mono ?_); rintro e w1 ⟨rfl, hg1⟩; have HG1 := hg1; have hB1 : Hid (Blk w1 w.heap.size 178 (tkL kind 246 opt A n c cut)) := (by obtain ⟨M1, R1, k1, g1⟩ := hg1.out; exact HBk.out.only g1.only (fun hm => by have := HK.out.mlt _ hm; omega)); clear hg1)
    have hS : ∀ W, Only (fun _ => False) w1 W → W.cell? ⟨w.heap.size, 1, none⟩ = some (.int .i64 246) := fun W ho => (hB1.out.only ho (fun h => h)).cell 1
    have HS := Lib.hid hS
    clear hS
    go_region_held3 (fun W => W.cell? ⟨w.heap.size, 1, none⟩ = some (.int .i64 246))
      (first | exact HS.out _ (Only.refl _ _).drew | exact HS.out _ ((Only.refl _ _).drew.alloc _))
      (fail)
    go_wp2
    go_ret2
    have hz1 : w.heap.size ≤ w1.heap.size := by obtain ⟨M1, R1, k1, g1⟩ := HG1.out; have := g1.only.size; simp at this; omega
    refine ⟨_, _, rfl, ⟨?_, noDat _ _, oneNts (N := w1.heap.size) (x := ⟨1, 246, 0, 0, false⟩) (Blk.new' _ _ _ rfl) hz1⟩⟩
    rw [HR1.out]
    exact EnGoes.then_ (EnGoes.from_ (EnGoes.low HG1.out (by simp)) ((Only.refl _ _).alloc _)) ((Only.refl _ _).drew.alloc _)
  · have HR1 : Hid (r = E) := by show r = _; rw [hr, if_neg h46]
    have hne : (code == 246) = false := by simpa using h46
    have hS : ∀ W, Only (fun _ => False) (w.alloc (.cells (tkL kind code opt A n c cut).toArray 178)) W → W.cell? ⟨w.heap.size, 1, none⟩ = some (.int .i64 code) := fun W ho => (HBk.out.only ho (fun h => h)).cell 1
    have HS := Lib.hid hS
    have HO0 : Hid (Only (fun _ => False) w (w.alloc (.cells (tkL kind code opt A n c cut).toArray 178))) := (Only.refl _ _).alloc _
    have HZ0 : Hid ((w.alloc (.cells (tkL kind code opt A n c cut).toArray 178)).heap.size = w.heap.size + 1) := by show _ = _; simp
    clear k hes hbd hr hbk hS HC
    go_enter Tryz.func115, Tryz.ntmps115
    go_wp2
    obtain ⟨w1, hw1⟩ : ∃ w1, w1 = w.alloc (.cells (tkL kind code opt A n c cut).toArray 178) := ⟨_, rfl⟩
    have hw1' : w.alloc (.cells #[.int .i64 kind, .int .i64 code, .int .i64 opt, .slice A n c, .bool cut] 178) = w1 := hw1.symm
    rw [← hw1] at HS HO0 HZ0
    try rw [hw1']
    clear hw1 hw1' HBk
    go_region_held3 (fun W => W.cell? ⟨w.heap.size, 1, none⟩ = some (.int .i64 code))
      (first | exact HS.out _ (Only.refl _ _).drew | exact HS.out _ ((Only.refl _ _).drew.alloc _))
      (fail)
    go_wp2
    go_ret2
    have hz1 := HZ0.out
    refine ⟨_, _, rfl, ⟨?_, noDat _ _, oneNts (N := w1.heap.size) (x := ⟨1, code, 0, 0, false⟩) (Blk.new' _ _ _ rfl) (by omega)⟩⟩
    rw [HR1.out]
    exact EnGoes.still HK.out ((HO0.out.drew).alloc _)
theorem enMark (k : IsEe w p mo tp pre post M R ag E) (hes : ErrsAt w es) (hbd : E.out.length ≤ 100000) (hcn : E.sent ≤ 1000000) (v : Int) :
    Calls Tryz.prog 162 #[.pointer (some ⟨p, mo, none⟩), .int .i64 v] w fun e w' => ∃ N, e = .returned (.slice (some ⟨N, 0, none⟩) 1 1) ∧ Hid (Blk w' N 87 (Nt.cs ⟨2, v, 0, 0, false⟩)) ∧ w.heap.size ≤ N ∧ Hid (EnGoes w.heap.size w p mo tp pre post M R ag (E.hearMark v) w') := by
  have HK := Lib.hid k
  have HV := Lib.hid (enSendV k hes hbd hcn 251 6)
  obtain ⟨r, hr⟩ : ∃ r, r = E.hearMark v := ⟨_, rfl⟩
  rw [← hr]
  unfold Ee.hearMark at hr
  by_cases h : v = 253
  · rw [if_pos h] at hr
    have HR1 := Lib.hid hr
    subst h
    clear k hes hbd hr
    go_enter Tryz.func162, Tryz.ntmps162
    go_wp2_with (go_at_call 66; (with_reducible refine HV.out.mono ?_); rintro e w1 ⟨rfl, hg1⟩)
    go_ret
    have hz1 : w.heap.size ≤ w1.heap.size := by obtain ⟨M1, R1, k1, g1⟩ := hg1.out; exact g1.only.size
    refine ⟨w1.heap.size, rfl, Blk.new' _ _ _ rfl, hz1, ?_⟩
    rw [HR1.out]
    exact EnGoes.then_ hg1.out ((Only.refl _ _).alloc _)
  · rw [if_neg h] at hr
    have HR1 := Lib.hid hr
    have hne : (v == 253) = false := by simpa using h
    clear k hes hbd hr HV
    go_enter Tryz.func162, Tryz.ntmps162
    go_wp2
    go_ret
    refine ⟨w.heap.size, rfl, Blk.new' _ _ _ rfl, Nat.le_refl _, ?_⟩
    rw [HR1.out]
    exact EnGoes.still HK.out ((Only.refl _ _).alloc _)
end
end Go.Proofs.YtbnfhklpobephaaGreatDoor
