/- Two hubs, one after the other's types: what each one's hearing comes to. -/
import Derived.Test.YtlmkpembccehkaaGreatDoorSnTyp
import Derived.Test.YtlmkpembccehkaaGreatDoorSnHear
import Derived.Test.YtlmkpembccehkaaGreatDoorNwAll
import Derived.Test.YtlmkpembccehkaaGreatDoorSnTell
namespace Go.Proofs.YtlmkpembccehkaaGreatDoor
open Go Go.RowKit
set_option maxRecDepth 100000
set_option maxHeartbeats 4000000

section
variable {w : World} {es : List Addr} {A : Option Addr} {n c : Nat} {b : List UInt8} {p q : Nat} {h : Hb} {ag : Nat → Nat → Bool} {T : Tb}
theorem One.later {B : Nat} {w : World} {v : Value} {o : Int} {b : List UInt8} (h : One B w v o b) : One B w v o b := h
theorem CyOk.only {D : Nat → Prop} {w w' : World} {h : Hb} {ts : List (List UInt8)} {k : Nat} (hc : CyOk w h ts k) (ho : Only D w w') (hD : ∀ A n c, h.ca = .slice A n c → 0 < n → ∀ ad, A = some ad → ¬ D ad.block) : CyOk w' h ts k := by
  obtain ⟨A, c, h1, h2⟩ := hc.ca
  exact ⟨⟨A, c, h1, h2.only ho (fun hn ad e => hD A _ c h1 hn ad e)⟩, hc.ck, hc.one, hc.most, hc.okT⟩
/-- The other side asks for a type. -/
theorem hAsk_any (hE : ErrsAt w es) (k : HuAt w p h) (hT : TbAt w q ag T) (hon : T.get 0 24 = .yes) {ts : List (List UInt8)} {m : Nat} (hc : CyOk w h ts m) (hs : Src w A n [1]) (hnc : n ≤ c) (hcap : c ≤ 9223372036854775807) (code : Int) :
    Calls Tryz.prog 15 #[.pointer (some ⟨p, 0, none⟩), .pointer (some ⟨q, 0, none⟩), tkV 4 code 24 A n c false] w fun e w' => ∃ N, e = .returned (.tuple #[.slice (some ⟨N, 0, none⟩) 1 1, .nilIface]) ∧ Hid (One w.heap.size w' (.slice (some ⟨N, 0, none⟩) 1 1) 24 (0 :: ansT ts m)) ∧ Hid (HuAt w' p { h with ck := (((m + 1) % (ts.length + 1) : Nat) : Int) }) ∧ Hid (Only (· = p) w w') := by
  have hn1 : n = 1 := hs.1.symm
  refine (huHear_24 (C := fun v E w' => E = .nilIface ∧ ∃ N, v = .slice (some ⟨N, 0, none⟩) 1 1 ∧ One w.heap.size w' v 24 (0 :: ansT ts m) ∧ HuAt w' p { h with ck := (((m + 1) % (ts.length + 1) : Nat) : Int) } ∧ Only (· = p) w w') (fun W ho => ?_)).mono ?_
  · refine (huType_asks (hE.only ho) (k.same ho) (hT.same ho) (hc.only ho (fun _ _ _ _ _ _ _ h => h)) c (hs.only ho (fun _ _ _ h => h)) (by omega) hnc hcap ?_ rfl).mono ?_
    · have h1 : saysT [1] = ([], true, 0) := by decide
      unfold tyNum
      rw [h1]
      unfold onNum onAt
      simp [hon]
    · rintro e w' ⟨N, rfl, h1, h2, h3⟩
      exact ⟨_, _, rfl, rfl, N, rfl, h1.out.low ho.size, h2.out, (Only.mono (T := (· = p)) ho (fun _ h => h.elim)).trans h3.out (fun i hi => .inl hi)⟩
  · rintro e w' ⟨v, E, rfl, hC⟩
    obtain ⟨rfl, N, rfl, h1, h2, h3⟩ := hC.out
    exact ⟨N, rfl, h1, h2, h3⟩
/-- The other side tells its size. -/
theorem kSize_any (hE : ErrsAt w es) (k : HuAt w p h) (hT : TbAt w q ag T) (hon : T.get 1 31 = .yes) {cc cr : Int} (h1 : fitsN cc = true) (h2 : fitsN cr = true) (hs : Src w A n (bodyOf cc cr)) (code : Int) :
    Calls Tryz.prog 15 #[.pointer (some ⟨p, 0, none⟩), .pointer (some ⟨q, 0, none⟩), tkV 4 code 31 A n c false] w fun e w' => e = .returned (.tuple #[.slice none 0 0, .nilIface]) ∧ Hid (HuAt w' p { h with pc := cc, pr := cr }) ∧ Hid (Only (· = p) w w') := by
  refine (huHear_31 (C := fun v E w' => E = .nilIface ∧ v = .slice none 0 0 ∧ HuAt w' p { h with pc := cc, pr := cr } ∧ Only (· = p) w w') (fun W ho => ?_)).mono ?_
  · refine (huSize_any (hE.only ho) (k.same ho) (hT.same ho) c (hs.only ho (fun _ _ _ h => h))).mono ?_
    rintro e w' ⟨E, rfl, h3, h4⟩
    obtain ⟨h5, h6⟩ := h3.out
    have e0 : onNum (nsNum (bodyOf cc cr)) (decide (T.get 1 31 = .yes)) = 0 := by simp [hon, onNum, nsNum, bodyOf]
    rw [e0] at h5 h6
    rw [if_pos rfl] at h6
    have hE0 : E = .nilIface := by
      rcases h5.ways with ⟨_, h⟩ | ⟨h, _⟩
      · exact h
      · exact absurd rfl h
    have e1 : nsCol (bodyOf cc cr) = cc := two_of h1
    have e2 : nsRow (bodyOf cc cr) = cr := two_of h2
    rw [e1, e2] at h6
    exact ⟨_, _, rfl, hE0, rfl, h6, (Only.mono (T := (· = p)) ho (fun _ h => h.elim)).trans h4.out (fun i hi => .inl hi)⟩
  · rintro e w' ⟨v, E, rfl, hC⟩
    obtain ⟨rfl, rfl, h1, h2⟩ := hC.out
    exact ⟨rfl, h1, h2⟩
/-- The other side tells a type. -/
theorem kType_any (hE : ErrsAt w es) (k : HuAt w p h) (hT : TbAt w q ag T) (hon : T.get 1 24 = .yes) {s : List UInt8} (ho : okT s = true) (hs : Src w A n (0 :: s)) (hnc : n ≤ c) (hcap : c ≤ 9223372036854775807) (code : Int) :
    Calls Tryz.prog 15 #[.pointer (some ⟨p, 0, none⟩), .pointer (some ⟨q, 0, none⟩), tkV 4 code 24 A n c false] w fun e w' => ∃ v, e = .returned (.tuple #[v, .nilIface]) ∧ Hid (if (h.li.take s).whole = true then v = .slice none 0 0 else One w.heap.size w' v 24 [1]) ∧ Hid (HuAt w' p { h with li := h.li.take s }) ∧ Hid (Only (· = p) w w') := by
  have hl := (okT_iff.1 ho).2.1
  have hn1 : n = s.length + 1 := hs.1.symm
  have hsay : saysT (0 :: s) = (s, false, 0) := by
    unfold saysT
    simp [ho]
  refine (huHear_24 (C := fun v E w' => E = .nilIface ∧ (if (h.li.take s).whole = true then v = .slice none 0 0 else One w.heap.size w' v 24 [1]) ∧ HuAt w' p { h with li := h.li.take s } ∧ Only (· = p) w w') (fun W hO => ?_)).mono ?_
  · refine (huType_name (hE.only hO) (k.same hO) (hT.same hO) c (hs.only hO (fun _ _ _ h => h)) (by omega) hnc hcap ?_ (by rw [hsay])).mono ?_
    · unfold tyNum
      rw [hsay]
      unfold onNum onAt
      simp [hon]
    · rintro e w' ⟨v, rfl, h1, h2, h3⟩
      rw [hsay] at h1 h2
      refine ⟨_, _, rfl, rfl, ?_, h2.out, (Only.mono (T := (· = p)) hO (fun _ h => h.elim)).trans h3.out (fun i hi => .inl hi)⟩
      have h1 := h1.out
      split at h1
      · rename_i hw
        rw [if_pos hw]
        exact h1
      · rename_i hw
        rw [if_neg hw]
        exact h1.low hO.size
  · rintro e w' ⟨v, E, rfl, hC⟩
    obtain ⟨rfl, h1, h2, h3⟩ := hC.out
    exact ⟨v, rfl, h1, h2, h3⟩
end
/-- The list behind so many types; the one that is told next. -/
theorem next_take {ts : List (List UInt8)} (hok : ∀ t ∈ ts, okT t = true) (hne : ∀ (i : Nat) (x y : List UInt8), ts[i]? = some x → ts[i + 1]? = some y → x ≠ y) (h1 : 1 ≤ ts.length) (h8 : ts.length ≤ 8) {j : Nat} (hj : j ≤ ts.length) (hj8 : j < 8) :
    (⟨ts.take j, false⟩ : Ls).take (ansT ts j) = if j < ts.length then ⟨ts.take (j + 1), decide (j + 1 = 8)⟩ else ⟨ts, true⟩ := by
  have hg := ansT_get (by omega : 0 < ts.length) j
  rw [Nat.mod_eq_of_lt (by omega)] at hg
  have hpre : (⟨ts.take j, false⟩ : Ls) = gatherT Ls.none (ts.take j) := by
    rw [gatherT_all hok hne h8 j hj, decide_eq_false (by omega)]
  by_cases hlt : j < ts.length
  · rw [if_pos hlt]
    rw [Nat.min_eq_left (by omega)] at hg
    rw [hpre, ← gatherT_snoc hg, gatherT_all hok hne h8 (j + 1) hlt]
  · rw [if_neg hlt]
    obtain rfl : j = ts.length := by omega
    rw [Nat.min_eq_right (by omega)] at hg
    rw [List.take_length]
    have hlast : ts.getLast? = some (ansT ts ts.length) := by rw [List.getLast?_eq_getElem?]; exact hg
    exact Ls.take_end rfl (hok _ (List.mem_of_getElem? hg)) hlast
section
variable {w : World} {es : List Addr} {A : Option Addr} {n c : Nat} {p q : Nat} {h : Hb} {ag : Nat → Nat → Bool} {T : Tb} {ts : List (List UInt8)} {j : Nat}
theorem kType_more (hE : ErrsAt w es) (k : HuAt w p h) (hT : TbAt w q ag T) (hon : T.get 1 24 = .yes) (hok : ∀ t ∈ ts, okT t = true) (hne : ∀ (i : Nat) (x y : List UInt8), ts[i]? = some x → ts[i + 1]? = some y → x ≠ y) (h1 : 1 ≤ ts.length) (h8 : ts.length ≤ 8) (hli : h.li = ⟨ts.take j, false⟩) (hj : j < ts.length) (hj8 : j + 1 < 8) (hs : Src w A n (0 :: ansT ts j)) (hnc : n ≤ c) (hcap : c ≤ 9223372036854775807) :
    Calls Tryz.prog 15 #[.pointer (some ⟨p, 0, none⟩), .pointer (some ⟨q, 0, none⟩), tkV 4 0 24 A n c false] w fun e w' => ∃ N, e = .returned (.tuple #[.slice (some ⟨N, 0, none⟩) 1 1, .nilIface]) ∧ Hid (One w.heap.size w' (.slice (some ⟨N, 0, none⟩) 1 1) 24 [1]) ∧ Hid (HuAt w' p { h with li := ⟨ts.take (j + 1), false⟩ }) ∧ Hid (Only (· = p) w w') := by
  have hst := next_take hok hne h1 h8 (j := j) (by omega) (by omega)
  rw [if_pos hj, decide_eq_false (by omega)] at hst
  refine (kType_any hE k hT hon (ansT_ok h1 hok j) hs hnc hcap 0).mono ?_
  rintro e w' ⟨v, rfl, h2, h3, h4⟩
  rw [hli, hst] at h2 h3
  have h2 := h2.out
  rw [if_neg (by simp)] at h2
  obtain ⟨N, A', n', c', rfl, _⟩ := id h2.form
  exact ⟨N, rfl, h2, h3, h4⟩
theorem kType_last (hE : ErrsAt w es) (k : HuAt w p h) (hT : TbAt w q ag T) (hon : T.get 1 24 = .yes) (hok : ∀ t ∈ ts, okT t = true) (hne : ∀ (i : Nat) (x y : List UInt8), ts[i]? = some x → ts[i + 1]? = some y → x ≠ y) (h1 : 1 ≤ ts.length) (h8 : ts.length ≤ 8) (hli : h.li = ⟨ts.take j, false⟩) (hj : j ≤ ts.length) (hj8 : j < 8) (hl : ¬ (j < ts.length ∧ j + 1 < 8)) (hs : Src w A n (0 :: ansT ts j)) (hnc : n ≤ c) (hcap : c ≤ 9223372036854775807) :
    Calls Tryz.prog 15 #[.pointer (some ⟨p, 0, none⟩), .pointer (some ⟨q, 0, none⟩), tkV 4 0 24 A n c false] w fun e w' => e = .returned (.tuple #[.slice none 0 0, .nilIface]) ∧ Hid (HuAt w' p { h with li := ⟨ts, true⟩ }) ∧ Hid (Only (· = p) w w') := by
  have hst := next_take hok hne h1 h8 (j := j) (by omega) (by omega)
  have hst2 : (⟨ts.take j, false⟩ : Ls).take (ansT ts j) = ⟨ts, true⟩ := by
    rw [hst]
    split
    · rw [decide_eq_true (by omega), List.take_of_length_le (by omega)]
    · rfl
  refine (kType_any hE k hT hon (ansT_ok h1 hok j) hs hnc hcap 0).mono ?_
  rintro e w' ⟨v, rfl, h2, h3, h4⟩
  rw [hli, hst2] at h2 h3
  have h2 := h2.out
  rw [if_pos rfl] at h2
  subst h2
  exact ⟨rfl, h3, h4⟩
end
end Go.Proofs.YtlmkpembccehkaaGreatDoor
