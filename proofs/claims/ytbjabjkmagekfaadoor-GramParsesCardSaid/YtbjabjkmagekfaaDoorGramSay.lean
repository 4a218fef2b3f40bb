/- The items of what is sent, as plain functions: what bytes begin with, the items of all bytes, what is left of them and what they say; the beginning of bytes of the grammar is of it. -/
import Derived.Test.YtbjabjkmagekfaaDoorIacSay
namespace Go.Proofs.YtbjabjkmagekfaaDoor

/-- An item, without its places. -/
structure It where
  kind : Int
  code : Int
  opt : Int
  body : List UInt8
deriving DecidableEq
def It.none : It := ⟨0, 0, 0, []⟩
/-- What bytes begin with: more of them could make it an item; none could; an item of so many. -/
inductive Cut
  | few
  | bad
  | got (x : It) (n : Nat)

def subCut (o : Int) : List UInt8 → Nat → List UInt8 → Cut
  | _, _, [] => .few
  | full, at_, [x] => if x.toNat = 255 then .few else subCut o (full ++ [x]) (at_ + 1) []
  | full, at_, x :: c :: l =>
    if x.toNat = 255 then
      if c.toNat = 255 then subCut o (full ++ [255]) (at_ + 2) l
      else if c.toNat = 240 then .got ⟨5, 0, o, full⟩ (at_ + 2)
      else .bad
    else subCut o (full ++ [x]) (at_ + 1) (c :: l)
/-- Behind a byte 255. -/
def iacCut : List UInt8 → Cut
  | [] => .few
  | d :: l =>
    if d.toNat = 255 then .got ⟨1, 255, 0, []⟩ 2
    else if d.toNat = 250 then
      match l with
      | [] => .few
      | e :: l => subCut (e.toNat : Int) [] 3 l
    else if 251 ≤ d.toNat then
      match l with
      | [] => .few
      | e :: _ => .got ⟨4, (d.toNat : Int), (e.toNat : Int), []⟩ 3
    else if 241 ≤ d.toNat then .got ⟨3, (d.toNat : Int), 0, []⟩ 2
    else .bad
/-- Behind a byte 13 that isn't raw. -/
def retCut : List UInt8 → Cut
  | [] => .few
  | d :: _ => if d.toNat = 0 ∨ d.toNat = 10 then .got ⟨2, (d.toNat : Int), 0, []⟩ 2 else .got ⟨1, 13, 0, []⟩ 1
def cut (raw : Bool) : List UInt8 → Cut
  | [] => .few
  | c :: l =>
    if c.toNat = 255 then iacCut l
    else if c.toNat = 13 ∧ raw = false then retCut l
    else .got ⟨1, (c.toNat : Int), 0, []⟩ 1

theorem cut_cons (raw : Bool) (c : UInt8) (l : List UInt8) : cut raw (c :: l) = if c.toNat = 255 then iacCut l else if c.toNat = 13 ∧ raw = false then retCut l else .got ⟨1, (c.toNat : Int), 0, []⟩ 1 := rfl
theorem iacCut_cons (d : UInt8) (l : List UInt8) : iacCut (d :: l) = if d.toNat = 255 then .got ⟨1, 255, 0, []⟩ 2 else if d.toNat = 250 then (match l with
      | [] => .few
      | e :: l => subCut (e.toNat : Int) [] 3 l) else if 251 ≤ d.toNat then (match l with
      | [] => .few
      | e :: _ => .got ⟨4, (d.toNat : Int), (e.toNat : Int), []⟩ 3) else if 241 ≤ d.toNat then .got ⟨3, (d.toNat : Int), 0, []⟩ 2 else .bad := rfl
theorem retCut_cons (d : UInt8) (l : List UInt8) : retCut (d :: l) = if d.toNat = 0 ∨ d.toNat = 10 then .got ⟨2, (d.toNat : Int), 0, []⟩ 2 else .got ⟨1, 13, 0, []⟩ 1 := rfl
theorem subCut_plain (o : Int) (full : List UInt8) (n : Nat) (x : UInt8) (hx : x.toNat ≠ 255) (l : List UInt8) : subCut o full n (x :: l) = subCut o (full ++ [x]) (n + 1) l := by
  cases l with
  | nil => simp [subCut, hx]
  | cons c l => rw [subCut, if_neg hx]
theorem subCut_two (o : Int) (full : List UInt8) (n : Nat) (x c : UInt8) (hx : x.toNat = 255) (hc : c.toNat = 255) (l : List UInt8) : subCut o full n (x :: c :: l) = subCut o (full ++ [c]) (n + 2) l := by
  rw [subCut, if_pos hx, if_pos hc]
  obtain rfl : c = 255 := UInt8.toNat_inj.1 hc
  rfl
theorem subCut_end (o : Int) (full : List UInt8) (n : Nat) (x c : UInt8) (hx : x.toNat = 255) (hc : c.toNat = 240) (l : List UInt8) : subCut o full n (x :: c :: l) = .got ⟨5, 0, o, full⟩ (n + 2) := by
  rw [subCut, if_pos hx, if_neg (by omega), if_pos hc]
theorem subCut_bad (o : Int) (full : List UInt8) (n : Nat) (x c : UInt8) (hx : x.toNat = 255) (hc : c.toNat ≠ 240) (hc2 : c.toNat ≠ 255) (l : List UInt8) : subCut o full n (x :: c :: l) = .bad := by
  rw [subCut, if_pos hx, if_neg hc2, if_neg hc]
theorem subCut_one (o : Int) (full : List UInt8) (n : Nat) (x : UInt8) (hx : x.toNat = 255) : subCut o full n [x] = .few := by
  rw [subCut, if_pos hx]

/-- A body's bytes, one 255 for each two. -/
def single : List UInt8 → List UInt8
  | [] => []
  | [c] => [c]
  | c :: d :: l => if c.toNat = 255 then c :: single l else c :: single (d :: l)
theorem single_plain (c : UInt8) (hc : c.toNat ≠ 255) (l : List UInt8) : single (c :: l) = c :: single l := by
  cases l with
  | nil => rfl
  | cons d l => rw [single, if_neg hc]
theorem single_two (c d : UInt8) (hc : c.toNat = 255) (l : List UInt8) : single (c :: d :: l) = c :: single l := by rw [single, if_pos hc]
theorem single_length : ∀ l : List UInt8, (single l).length ≤ l.length
  | [] => Nat.le_refl _
  | [c] => Nat.le_refl _
  | c :: d :: l => by
    rw [single]
    have h1 := single_length l
    have h2 := single_length (d :: l)
    split <;> simp only [List.length_cons] at * <;> omega

/-- What a Sub's text is. -/
theorem subCut_got (o : Int) : ∀ (full : List UInt8) (n : Nat) (l : List UInt8) (x : It) (m : Nat), subCut o full n l = .got x m →
    ∃ k, m = n + k + 2 ∧ k + 2 ≤ l.length ∧ x = ⟨5, 0, o, full ++ single (l.take k)⟩ ∧ ∀ q, subCut o full n (l.take (k + 2) ++ q) = .got x m
  | full, n, [], x, m, h => by simp [subCut] at h
  | full, n, [a], x, m, h => by
    by_cases ha : a.toNat = 255
    · rw [subCut_one _ _ _ _ ha] at h; cases h
    · rw [subCut_plain _ _ _ _ ha] at h; simp [subCut] at h
  | full, n, a :: c :: l, x, m, h => by
    by_cases ha : a.toNat = 255
    · by_cases hc : c.toNat = 255
      · rw [subCut_two _ _ _ _ _ ha hc] at h
        obtain ⟨k, h1, h2, h3, h4⟩ := subCut_got o _ _ _ _ _ h
        refine ⟨k + 2, by omega, by simp only [List.length_cons]; omega, ?_, fun q => ?_⟩
        · rw [h3, List.append_assoc]
          congr 2
          rw [List.take_succ_cons, List.take_succ_cons, single_two _ _ ha]
          have : a = c := UInt8.toNat_inj.1 (by omega)
          subst this
          rfl
        · rw [List.take_succ_cons, List.take_succ_cons, List.cons_append, List.cons_append, subCut_two _ _ _ _ _ ha hc]
          exact h4 q
      · by_cases hc2 : c.toNat = 240
        · rw [subCut_end _ _ _ _ _ ha hc2] at h
          injection h with h5 h6
          subst h5 h6
          refine ⟨0, by omega, by simp only [List.length_cons]; omega, by simp [single], fun q => ?_⟩
          rw [List.take_succ_cons, List.take_succ_cons, List.cons_append, List.cons_append, subCut_end _ _ _ _ _ ha hc2]
        · rw [subCut_bad _ _ _ _ _ ha hc2 hc] at h; cases h
    · rw [subCut_plain _ _ _ _ ha] at h
      obtain ⟨k, h1, h2, h3, h4⟩ := subCut_got o _ _ _ _ _ h
      refine ⟨k + 1, by omega, by simp only [List.length_cons] at *; omega, ?_, fun q => ?_⟩
      · rw [h3, List.append_assoc, List.take_succ_cons, single_plain _ ha]
        rfl
      · rw [List.take_succ_cons, List.cons_append, subCut_plain _ _ _ _ ha]
        exact h4 q
theorem subCut_is_bad (o : Int) : ∀ (full : List UInt8) (n : Nat) (l : List UInt8) (q : List UInt8), subCut o full n l = .bad → subCut o full n (l ++ q) = .bad
  | full, n, [], q, h => by simp [subCut] at h
  | full, n, [a], q, h => by
    by_cases ha : a.toNat = 255
    · rw [subCut_one _ _ _ _ ha] at h; cases h
    · rw [subCut_plain _ _ _ _ ha] at h; simp [subCut] at h
  | full, n, a :: c :: l, q, h => by
    by_cases ha : a.toNat = 255
    · by_cases hc : c.toNat = 255
      · rw [subCut_two _ _ _ _ _ ha hc] at h
        rw [List.cons_append, List.cons_append, subCut_two _ _ _ _ _ ha hc]
        exact subCut_is_bad o _ _ _ _ h
      · by_cases hc2 : c.toNat = 240
        · rw [subCut_end _ _ _ _ _ ha hc2] at h; cases h
        · rw [List.cons_append, List.cons_append, subCut_bad _ _ _ _ _ ha hc2 hc]
    · rw [subCut_plain _ _ _ _ ha] at h
      rw [List.cons_append, subCut_plain _ _ _ _ ha]
      exact subCut_is_bad o _ _ _ _ h

/-- What an item's bytes are. -/
inductive Form (s : List UInt8) : It → Nat → Prop
  | one (c : UInt8) (n : Nat) (h0 : s[0]? = some c) (hn : n = 1 ∨ (n = 2 ∧ c.toNat = 255)) : Form s ⟨1, (c.toNat : Int), 0, []⟩ n
  | pair (d : UInt8) (h1 : s[1]? = some d) (hd : d.toNat = 0 ∨ d.toNat = 10) : Form s ⟨2, (d.toNat : Int), 0, []⟩ 2
  | plain (d : UInt8) (h1 : s[1]? = some d) : Form s ⟨3, (d.toNat : Int), 0, []⟩ 2
  | verb (d e : UInt8) (h1 : s[1]? = some d) (h2 : s[2]? = some e) : Form s ⟨4, (d.toNat : Int), (e.toNat : Int), []⟩ 3
  | sub (e : UInt8) (k : Nat) (h2 : s[2]? = some e) (hk : k + 5 ≤ s.length) : Form s ⟨5, 0, (e.toNat : Int), single ((s.drop 3).take k)⟩ (k + 5)

theorem cut_form {raw : Bool} {s : List UInt8} {x : It} {n : Nat} (h : cut raw s = .got x n) : Form s x n := by
  match s, h with
  | [], h => simp [cut] at h
  | c :: l, h =>
    rw [cut_cons] at h
    by_cases hc : c.toNat = 255
    · rw [if_pos hc] at h
      match l, h with
      | [], h => simp [iacCut] at h
      | d :: l, h =>
        rw [iacCut_cons] at h
        by_cases hd : d.toNat = 255
        · rw [if_pos hd] at h
          injection h with h1 h2
          subst h1 h2
          have := Form.one (s := c :: d :: l) c 2 rfl (.inr ⟨rfl, hc⟩)
          rw [hc] at this
          exact this
        · rw [if_neg hd] at h
          by_cases hd2 : d.toNat = 250
          · rw [if_pos hd2] at h
            match l, h with
            | [], h => cases h
            | e :: l, h =>
              obtain ⟨k, h1, h2, h3, _⟩ := subCut_got _ _ _ _ _ _ h
              subst h3
              obtain rfl : n = k + 5 := by omega
              exact Form.sub (s := c :: d :: e :: l) e k rfl (by simp only [List.length_cons]; omega)
          · rw [if_neg hd2] at h
            by_cases hd3 : 251 ≤ d.toNat
            · rw [if_pos hd3] at h
              match l, h with
              | [], h => cases h
              | e :: l, h =>
                injection h with h1 h2
                subst h1 h2
                exact .verb d e rfl rfl
            · rw [if_neg hd3] at h
              split at h
              · injection h with h1 h2
                subst h1 h2
                exact .plain d rfl
              · cases h
    · rw [if_neg hc] at h
      split at h
      · rename_i h13
        match l, h with
        | [], h => simp [retCut] at h
        | d :: l, h =>
          rw [retCut_cons] at h
          split at h
          · rename_i hd
            injection h with h1 h2
            subst h1 h2
            exact .pair d rfl hd
          · injection h with h1 h2
            subst h1 h2
            have := Form.one (s := c :: d :: l) c 1 rfl (.inl rfl)
            rw [h13.1] at this
            exact this
      · injection h with h1 h2
        subst h1 h2
        exact .one c 1 rfl (.inl rfl)

theorem Form.pos {s : List UInt8} {x : It} {n : Nat} (h : Form s x n) : 0 < n := by
  cases h with
  | one c n h0 hn => omega
  | _ => omega
theorem cut_bounds {raw : Bool} {s : List UInt8} {x : It} {n : Nat} (h : cut raw s = .got x n) : 0 < n ∧ n ≤ s.length := by
  refine ⟨(cut_form h).pos, ?_⟩
  match s, h with
  | [], h => simp [cut] at h
  | c :: l, h =>
    rw [cut_cons] at h
    split at h
    · match l, h with
      | [], h => simp [iacCut] at h
      | d :: l, h =>
        rw [iacCut_cons] at h
        split at h
        · injection h with h1 h2
          simp only [List.length_cons]
          omega
        · split at h
          · match l, h with
            | [], h => cases h
            | e :: l, h =>
              obtain ⟨k, h1, h2, _⟩ := subCut_got _ _ _ _ _ _ h
              simp only [List.length_cons]
              omega
          · split at h
            · match l, h with
              | [], h => cases h
              | e :: l, h =>
                injection h with h1 h2
                simp only [List.length_cons]
                omega
            · split at h
              · injection h with h1 h2
                simp only [List.length_cons]
                omega
              · cases h
    · split at h
      · match l, h with
        | [], h => simp [retCut] at h
        | d :: l, h =>
          rw [retCut_cons] at h
          split at h <;> (injection h with h1 h2; simp only [List.length_cons]; omega)
      · injection h with h1 h2
        simp only [List.length_cons]
        omega
/-- More bytes make it no other item. -/
theorem cut_more {raw : Bool} {s q : List UInt8} {x : It} {n : Nat} (h : cut raw s = .got x n) : cut raw (s ++ q) = .got x n := by
  match s, h with
  | [], h => simp [cut] at h
  | c :: l, h =>
    rw [cut_cons] at h
    rw [List.cons_append, cut_cons]
    split at h
    · rename_i hc
      rw [if_pos hc]
      match l, h with
      | [], h => simp [iacCut] at h
      | d :: l, h =>
        rw [iacCut_cons] at h
        rw [List.cons_append, iacCut_cons]
        split at h
        · rename_i hd
          rw [if_pos hd]
          exact h
        · rename_i hd
          rw [if_neg hd]
          split at h
          · rename_i hd2
            rw [if_pos hd2]
            match l, h with
            | [], h => cases h
            | e :: l, h =>
              simp only [List.cons_append] at h ⊢
              obtain ⟨k, h1, h2, h3, h4⟩ := subCut_got _ _ _ _ _ _ h
              have := h4 (l.drop (k + 2) ++ q)
              rwa [← List.append_assoc, List.take_append_drop] at this
          · rename_i hd2
            rw [if_neg hd2]
            split at h
            · rename_i hd3
              rw [if_pos hd3]
              match l, h with
              | [], h => cases h
              | e :: l, h => exact h
            · rename_i hd3
              rw [if_neg hd3]
              exact h
    · rename_i hc
      rw [if_neg hc]
      split at h
      · rename_i h13
        rw [if_pos h13]
        match l, h with
        | [], h => simp [retCut] at h
        | d :: l, h => exact h
      · rename_i h13
        rw [if_neg h13]
        exact h
theorem cut_bad {raw : Bool} {s q : List UInt8} (h : cut raw s = .bad) : cut raw (s ++ q) = .bad := by
  match s, h with
  | [], h => simp [cut] at h
  | c :: l, h =>
    rw [cut_cons] at h
    rw [List.cons_append, cut_cons]
    split at h
    · rename_i hc
      rw [if_pos hc]
      match l, h with
      | [], h => simp [iacCut] at h
      | d :: l, h =>
        rw [iacCut_cons] at h
        rw [List.cons_append, iacCut_cons]
        split at h
        · cases h
        · rename_i hd
          rw [if_neg hd]
          split at h
          · rename_i hd2
            rw [if_pos hd2]
            match l, h with
            | [], h => cases h
            | e :: l, h => exact subCut_is_bad _ _ _ _ _ h
          · rename_i hd2
            rw [if_neg hd2]
            split at h
            · match l, h with
              | [], h => cases h
              | e :: l, h => cases h
            · rename_i hd3
              rw [if_neg hd3]
              split at h
              · cases h
              · rename_i hd4
                rw [if_neg hd4]
    · split at h
      · match l, h with
        | [], h => simp [retCut] at h
        | d :: l, h =>
          rw [retCut_cons] at h
          split at h <;> cases h
      · cases h
/-- Of its own bytes an item is the same, a 13 that isn't raw aside. -/
theorem cut_take {raw : Bool} {s : List UInt8} {x : It} {n : Nat} (h : cut raw s = .got x n) (hx : ¬ (x.kind = 1 ∧ x.code = 13 ∧ raw = false)) : cut raw (s.take n) = .got x n := by
  match s, h with
  | [], h => simp [cut] at h
  | c :: l, h =>
    rw [cut_cons] at h
    split at h
    · rename_i hc
      match l, h with
      | [], h => simp [iacCut] at h
      | d :: l, h =>
        rw [iacCut_cons] at h
        split at h
        · rename_i hd
          injection h with h1 h2
          subst h1 h2
          show cut raw [c, d] = _
          rw [cut_cons, if_pos hc, iacCut_cons, if_pos hd]
        · rename_i hd
          split at h
          · rename_i hd2
            match l, h with
            | [], h => cases h
            | e :: l, h =>
              obtain ⟨k, h1, h2, h3, h4⟩ := subCut_got _ _ _ _ _ _ h
              have := h4 []
              rw [List.append_nil] at this
              obtain rfl : n = (k + 2) + 1 + 1 + 1 := by omega
              rw [List.take_succ_cons, List.take_succ_cons, List.take_succ_cons, cut_cons, if_pos hc, iacCut_cons, if_neg hd, if_pos hd2]
              exact this
          · rename_i hd2
            split at h
            · rename_i hd3
              match l, h with
              | [], h => cases h
              | e :: l, h =>
                injection h with h1 h2
                subst h1 h2
                show cut raw [c, d, e] = _
                rw [cut_cons, if_pos hc, iacCut_cons, if_neg hd, if_neg hd2, if_pos hd3]
            · rename_i hd3
              split at h
              · rename_i hd4
                injection h with h1 h2
                subst h1 h2
                show cut raw [c, d] = _
                rw [cut_cons, if_pos hc, iacCut_cons, if_neg hd, if_neg hd2, if_neg hd3, if_pos hd4]
              · cases h
    · rename_i hc
      split at h
      · rename_i h13
        match l, h with
        | [], h => simp [retCut] at h
        | d :: l, h =>
          rw [retCut_cons] at h
          split at h
          · rename_i hd
            injection h with h1 h2
            subst h1 h2
            show cut raw [c, d] = _
            rw [cut_cons, if_neg hc, if_pos h13, retCut_cons, if_pos hd]
          · injection h with h1 h2
            subst h1
            exact absurd ⟨rfl, rfl, h13.2⟩ hx
      · rename_i h13
        injection h with h1 h2
        subst h1 h2
        show cut raw [c] = _
        rw [cut_cons, if_neg hc, if_neg h13]

/-- An item with its places. -/
structure Pl where
  it : It
  from_ : Nat
  to_ : Nat
/-- The items of bytes that begin at a place, and how many are left; none: they aren't of the grammar. -/
def parseAt (raw : Bool) : Nat → Nat → List UInt8 → Option (List Pl × Nat)
  | 0, _, s => some ([], s.length)
  | fuel + 1, k, s => match cut raw s with
    | .few => some ([], s.length)
    | .bad => .none
    | .got x n => (parseAt raw fuel (k + n) (s.drop n)).map fun r => (⟨x, k, k + n⟩ :: r.1, r.2)
/-- .. from place k on. -/
def parseFrom (raw : Bool) (k : Nat) (s : List UInt8) : Option (List Pl × Nat) := parseAt raw s.length k s
theorem parseAt_fuel (raw : Bool) : ∀ (f g k : Nat) (s : List UInt8), s.length ≤ f → s.length ≤ g → parseAt raw f k s = parseAt raw g k s
  | 0, 0, _, _, _, _ => rfl
  | 0, g + 1, k, s, h, _ => by
    obtain rfl : s = [] := List.eq_nil_of_length_eq_zero (by omega)
    rfl
  | f + 1, 0, k, s, _, h => by
    obtain rfl : s = [] := List.eq_nil_of_length_eq_zero (by omega)
    rfl
  | f + 1, g + 1, k, s, hf, hg => by
    unfold parseAt
    cases hc : cut raw s with
    | few => rfl
    | bad => rfl
    | got x n =>
      obtain ⟨h1, h2⟩ := cut_bounds hc
      simp only
      rw [parseAt_fuel raw f g (k + n) (s.drop n) (by rw [List.length_drop]; omega) (by rw [List.length_drop]; omega)]
theorem parseFrom_few {raw : Bool} {s : List UInt8} (h : cut raw s = .few) (k : Nat) : parseFrom raw k s = some ([], s.length) := by
  unfold parseFrom
  match s, h with
  | [], _ => rfl
  | c :: l, h => rw [List.length_cons, parseAt, h]; rfl
theorem parseFrom_bad {raw : Bool} {s : List UInt8} (h : cut raw s = .bad) (k : Nat) : parseFrom raw k s = .none := by
  unfold parseFrom
  match s, h with
  | [], h => simp [cut] at h
  | c :: l, h => rw [List.length_cons, parseAt, h]
theorem parseFrom_got {raw : Bool} {s : List UInt8} {x : It} {n : Nat} (h : cut raw s = .got x n) (k : Nat) : parseFrom raw k s = (parseFrom raw (k + n) (s.drop n)).map fun r => (⟨x, k, k + n⟩ :: r.1, r.2) := by
  obtain ⟨h1, h2⟩ := cut_bounds h
  unfold parseFrom
  have e : s.length = (s.length - 1) + 1 := by omega
  rw [e, parseAt, h]
  simp only
  rw [parseAt_fuel raw (s.length - 1) (s.drop n).length (k + n) (s.drop n) (by rw [List.length_drop]; omega) (Nat.le_refl _)]

/-- Is a place an item's beginning or end, or of what is left? -/
def bordered (l : List Pl) (many left at_ : Nat) : Prop := at_ = many ∨ at_ + left = many ∨ ∃ x ∈ l, x.from_ = at_
/-- A rule of induction over the items of bytes. -/
theorem parse_ind {raw : Bool} {M : Nat → List UInt8 → List Pl → Nat → Prop} (few : ∀ k s, cut raw s = .few → M k s [] s.length)
    (got : ∀ k s x n l r, cut raw s = .got x n → 0 < n → n ≤ s.length → parseFrom raw (k + n) (s.drop n) = some (l, r) → M (k + n) (s.drop n) l r → M k s (⟨x, k, k + n⟩ :: l) r) :
    ∀ (m k : Nat) (s : List UInt8) (l : List Pl) (r : Nat), s.length ≤ m → parseFrom raw k s = some (l, r) → M k s l r := by
  intro m
  induction m with
  | zero =>
    intro k s l r hm h
    obtain rfl : s = [] := List.eq_nil_of_length_eq_zero (by omega)
    rw [parseFrom_few rfl] at h
    cases h
    exact few k [] rfl
  | succ m ih =>
    intro k s l r hm h
    cases hc : cut raw s with
    | few =>
      rw [parseFrom_few hc] at h
      cases h
      exact few k s hc
    | bad =>
      rw [parseFrom_bad hc] at h
      cases h
    | got x n =>
      obtain ⟨h1, h2⟩ := cut_bounds hc
      rw [parseFrom_got hc] at h
      cases hq : parseFrom raw (k + n) (s.drop n) with
      | none => rw [hq] at h; cases h
      | some q =>
        obtain ⟨l', r'⟩ := q
        rw [hq] at h
        cases h
        exact got k s x n l' r' hc h1 h2 hq (ih (k + n) (s.drop n) l' r' (by rw [List.length_drop]; omega) hq)
theorem parse_rest {raw : Bool} {k : Nat} {s : List UInt8} {l : List Pl} {r : Nat} (h : parseFrom raw k s = some (l, r)) : r ≤ s.length ∧ l.length + r ≤ s.length :=
  parse_ind (M := fun _ s l r => r ≤ s.length ∧ l.length + r ≤ s.length) (fun _ s _ => by simp) (fun k s x n l r _ h1 h2 _ h3 => by
    rw [List.length_drop] at h3
    simp only [List.length_cons]
    omega) s.length k s l r (Nat.le_refl _) h
/-- Items stand one behind the other. -/
inductive Chain : Nat → List Pl → Nat → Prop
  | nil (k : Nat) : Chain k [] k
  | cons (k n e : Nat) (x : It) (l : List Pl) (hn : 0 < n) (h : Chain (k + n) l e) : Chain k (⟨x, k, k + n⟩ :: l) e
theorem parse_chain {raw : Bool} {k : Nat} {s : List UInt8} {l : List Pl} {r : Nat} (h : parseFrom raw k s = some (l, r)) : ∃ e, Chain k l e ∧ e + r = k + s.length :=
  parse_ind (M := fun k s l r => ∃ e, Chain k l e ∧ e + r = k + s.length) (fun k s _ => ⟨k, .nil k, rfl⟩) (fun k s x n l r _ h1 h2 _ h3 => by
    obtain ⟨e, h4, h5⟩ := h3
    rw [List.length_drop] at h5
    exact ⟨e, .cons k n e x l h1 h4, by omega⟩) s.length k s l r (Nat.le_refl _) h
theorem Chain.le {k e : Nat} {l : List Pl} (h : Chain k l e) : k ≤ e ∧ ∀ x ∈ l, k ≤ x.from_ ∧ x.from_ < x.to_ ∧ x.to_ ≤ e := by
  induction h with
  | nil k => exact ⟨Nat.le_refl _, fun x h => by cases h⟩
  | cons k n e x l hn h ih =>
    refine ⟨by omega, fun y hy => ?_⟩
    rcases List.mem_cons.1 hy with rfl | hy
    · exact ⟨Nat.le_refl _, by simp only; omega, by simp only; omega⟩
    · have := ih.2 y hy
      omega
/-- Each beginning but the last item's end is an end, and the other way round. -/
theorem Chain.ends {k e : Nat} {l : List Pl} (h : Chain k l e) (at_ : Nat) : (at_ = e ∨ ∃ x ∈ l, x.from_ = at_) ↔ (at_ = k ∨ ∃ x ∈ l, x.to_ = at_) := by
  induction h with
  | nil k => simp
  | cons k n e x l hn h ih =>
    simp only [List.mem_cons, exists_eq_or_imp]
    constructor
    · rintro (h1 | h1 | h1)
      · rcases ih.1 (.inl h1) with h2 | h2
        · exact .inr (.inl h2.symm)
        · exact .inr (.inr h2)
      · exact .inl h1.symm
      · rcases ih.1 (.inr h1) with h2 | h2
        · exact .inr (.inl h2.symm)
        · exact .inr (.inr h2)
    · rintro (h1 | h1 | h1)
      · exact .inr (.inl h1.symm)
      · rcases ih.2 (.inl h1.symm) with h2 | h2
        · exact .inl h2
        · exact .inr (.inr h2)
      · rcases ih.2 (.inr h1) with h2 | h2
        · exact .inl h2
        · exact .inr (.inr h2)
/-- A beginning of bytes of the grammar. -/
theorem parse_prefix {raw : Bool} {k : Nat} {s : List UInt8} {l : List Pl} {r : Nat} (h : parseFrom raw k s = some (l, r)) : ∀ p q : List UInt8, s = p ++ q →
    ∃ j r', parseFrom raw k p = some (l.take j, r') ∧ j ≤ l.length ∧ (r' = 0 → k + p.length + r = k + s.length ∨ ∃ x ∈ l, x.from_ = k + p.length) :=
  parse_ind (M := fun k s l r => ∀ p q : List UInt8, s = p ++ q → ∃ j r', parseFrom raw k p = some (l.take j, r') ∧ j ≤ l.length ∧ (r' = 0 → k + p.length + r = k + s.length ∨ ∃ x ∈ l, x.from_ = k + p.length))
    (fun k s hc p q e => by
      subst e
      cases hp : cut raw p with
      | few =>
        refine ⟨0, p.length, parseFrom_few hp k, Nat.le_refl _, fun h => .inl ?_⟩
        simp only [List.length_append]
        omega
      | bad => rw [cut_bad hp] at hc; cases hc
      | got x n => rw [cut_more hp] at hc; cases hc)
    (fun k s x n l r hc h1 h2 _ ih p q e => by
      cases hp : cut raw p with
      | few =>
        refine ⟨0, p.length, parseFrom_few hp k, Nat.zero_le _, fun h => .inr ⟨_, List.mem_cons_self .., ?_⟩⟩
        simp only
        omega
      | bad => rw [e, cut_bad hp] at hc; cases hc
      | got y m =>
        rw [e, cut_more hp] at hc
        injection hc with e1 e2
        subst e1 e2
        obtain ⟨_, h3⟩ := cut_bounds hp
        obtain ⟨j, r', h4, h5, h6⟩ := ih (p.drop m) q (by rw [e, List.drop_append_of_le_length h3])
        refine ⟨j + 1, r', by rw [parseFrom_got hp, h4]; rfl, by simp only [List.length_cons]; omega, fun h => ?_⟩
        rcases h6 h with h7 | ⟨z, hz, h7⟩
        · left
          rw [List.length_drop, List.length_drop] at h7
          omega
        · right
          rw [List.length_drop] at h7
          exact ⟨z, List.mem_cons_of_mem _ hz, by omega⟩)
    s.length k s l r (Nat.le_refl _) h
/-- What is left begins one more item, and each item stands by itself. -/
theorem parse_alone {raw : Bool} {k : Nat} {s : List UInt8} {l : List Pl} {r : Nat} (h : parseFrom raw k s = some (l, r)) :
    cut raw (s.drop (s.length - r)) = .few ∧ ∀ x ∈ l, k ≤ x.from_ ∧ x.from_ < x.to_ ∧ x.to_ ≤ k + s.length ∧ cut raw (s.drop (x.from_ - k)) = .got x.it (x.to_ - x.from_) :=
  parse_ind (M := fun k s l r => cut raw (s.drop (s.length - r)) = .few ∧ ∀ x ∈ l, k ≤ x.from_ ∧ x.from_ < x.to_ ∧ x.to_ ≤ k + s.length ∧ cut raw (s.drop (x.from_ - k)) = .got x.it (x.to_ - x.from_))
    (fun k s hc => ⟨by rw [Nat.sub_self]; exact hc, fun x h => by cases h⟩)
    (fun k s x n l r hc h1 h2 hp ih => by
      have hr := (parse_rest hp).1
      rw [List.length_drop] at hr
      refine ⟨?_, fun y hy => ?_⟩
      · have := ih.1
        rw [List.length_drop, List.drop_drop] at this
        rwa [show n + (s.length - n - r) = s.length - r by omega] at this
      · rcases List.mem_cons.1 hy with rfl | hy
        · refine ⟨Nat.le_refl _, by simp only; omega, by simp only; omega, ?_⟩
          simp only [Nat.sub_self, List.drop_zero]
          rw [hc]
          congr 1
          omega
        · obtain ⟨h3, h4, h5, h6⟩ := ih.2 y hy
          rw [List.length_drop] at h5
          rw [List.drop_drop] at h6
          refine ⟨by omega, h4, by omega, ?_⟩
          rwa [show n + (y.from_ - (k + n)) = y.from_ - k by omega] at h6)
    s.length k s l r (Nat.le_refl _) h

/-- What items say. -/
def itSays (x : It) : List UInt8 := if x.kind = 1 then [UInt8.ofNat x.code.toNat] else if x.kind = 2 then (if x.code = 10 then [13, 10] else [13]) else []
def says : List Pl → List UInt8
  | [] => []
  | x :: l => itSays x.it ++ says l
theorem says_append (a b : List Pl) : says (a ++ b) = says a ++ says b := by
  induction a with
  | nil => rfl
  | cons x a ih => simp [says, ih]
theorem itSays_length (x : It) : (itSays x).length ≤ 2 := by
  unfold itSays
  split
  · simp
  · split
    · split <;> simp
    · simp
theorem says_length (l : List Pl) : (says l).length ≤ 2 * l.length := by
  induction l with
  | nil => simp [says]
  | cons x l ih =>
    have := itSays_length x.it
    simp only [says, List.length_append, List.length_cons]
    omega

/-- The document's item, out of layer 5's token. -/
def cutOf (o : Option (Tk × Nat)) : Cut :=
  match o with
  | .none => .few
  | some (t, n) => if t.kind = 1 then .got ⟨1, t.code, 0, []⟩ n else if t.kind = 2 ∧ 240 < t.code then .got ⟨3, t.code, 0, []⟩ n else if t.kind = 3 then .got ⟨4, t.code, t.opt, []⟩ n else .bad
theorem cut_next (raw : Bool) (c : UInt8) (l : List UInt8) (h13 : ¬ (c.toNat = 13 ∧ raw = false) ∨ ∃ d l', l = d :: l' ∧ ¬ (d.toNat = 0 ∨ d.toNat = 10)) (h250 : ¬ (c.toNat = 255 ∧ ∃ d e l', l = d :: e :: l' ∧ d.toNat = 250)) : cut raw (c :: l) = cutOf (next (c :: l)) := by
  rw [cut_cons]
  by_cases hc : c.toNat = 255
  · rw [if_pos hc]
    match l, h250 with
    | [], _ => simp [iacCut, next, hc, cutOf]
    | d :: l, h250 =>
      have hdl := d.toNat_lt
      rw [iacCut_cons]
      by_cases hd : d.toNat = 255
      · simp [next, hc, hd, cutOf]
      · rw [if_neg hd]
        by_cases hd2 : d.toNat = 250
        · rw [if_pos hd2]
          match l, h250 with
          | [], _ => simp [next, hc, hd2, cutOf]
          | e :: l, h250 => exact absurd ⟨hc, d, e, l, rfl, hd2⟩ h250
        · rw [if_neg hd2]
          by_cases hd3 : 251 ≤ d.toNat
          · rw [if_pos hd3]
            have a1 : ¬ d.toNat < 250 := by omega
            have a2 : 250 < d.toNat := by omega
            match l with
            | [] => simp [next, hc, hd, a1, cutOf]
            | e :: l => simp [next, hc, hd, a1, a2, cutOf]
          · rw [if_neg hd3]
            have a1 : d.toNat < 250 := by omega
            by_cases hd4 : 241 ≤ d.toNat
            · have a2 : (240 : Int) < (d.toNat : Int) := by omega
              rw [if_pos hd4]
              simp [next, hc, hd, a1, a2, cutOf]
            · have a2 : ¬ (240 : Int) < (d.toNat : Int) := by omega
              rw [if_neg hd4]
              simp [next, hc, hd, a1, a2, cutOf]
  · rw [if_neg hc]
    have e : cutOf (next (c :: l)) = .got ⟨1, (c.toNat : Int), 0, []⟩ 1 := by simp [next, hc, cutOf]
    rw [e]
    split
    · rename_i h
      rcases h13 with h13 | ⟨d, l', rfl, hd⟩
      · exact absurd h h13
      · rw [retCut_cons, if_neg hd, h.1]
        rfl
    · rfl
end Go.Proofs.YtbjabjkmagekfaaDoor
