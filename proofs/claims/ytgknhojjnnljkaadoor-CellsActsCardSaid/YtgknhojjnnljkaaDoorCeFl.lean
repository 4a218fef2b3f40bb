/- Whole numbers as floating-point numbers: order, sums, differences, rounding down, tabs; of small ones by tables, of the order also of great ones. -/
import Derived.Laws.ComplexArith
namespace Go.Proofs.YtgknhojjnnljkaaDoor
open Go

/-- The word of a whole number. -/
abbrev fl (n : Int) : Nat := floatOfInt .f64 n
/-- What a word stands for, in units of the least place. -/
def Val (b : Nat) (v : Int) : Prop := ∃ s m e, FloatKind.f64.format.read b = .number s m e ∧ -1074 ≤ e ∧ Ieee.signed s m (e + 1074).toNat = v

theorem cmp_lt {x y : Int} (h : x < y) : compare x y = .lt := by
  show compareOfLessAndEq x y = _
  unfold compareOfLessAndEq
  rw [if_pos h]
theorem cmp_eq (x : Int) : compare x x = .eq := by
  show compareOfLessAndEq x x = _
  unfold compareOfLessAndEq
  rw [if_neg (by omega), if_pos rfl]
theorem cmp_gt {x y : Int} (h : y < x) : compare x y = .gt := by
  show compareOfLessAndEq x y = _
  unfold compareOfLessAndEq
  rw [if_neg (by omega), if_neg (by omega)]
theorem cmp_scale {x y : Int} {k : Int} (hk : 0 < k) : compare (x * k) (y * k) = compare x y := by
  rcases Int.lt_trichotomy x y with h | h | h
  · rw [cmp_lt h, cmp_lt (Int.mul_lt_mul_of_pos_right h hk)]
  · rw [h, cmp_eq, cmp_eq]
  · rw [cmp_gt h, cmp_gt (Int.mul_lt_mul_of_pos_right h hk)]
theorem signed_add (s : Bool) (m a b : Nat) : Ieee.signed s m (a + b) = Ieee.signed s m a * 2 ^ b := by
  unfold Ieee.signed
  cases s <;> simp [Nat.shiftLeft_eq, Nat.pow_add, Int.mul_assoc, Int.neg_mul]
theorem order_val {a b : Nat} {v u : Int} (ha : Val a v) (hb : Val b u) : FloatKind.f64.format.order a b = some (compare v u) := by
  obtain ⟨s, m, i, h1, h2, rfl⟩ := ha
  obtain ⟨t, n, j, h3, h4, rfl⟩ := hb
  unfold Ieee.Format.order
  rw [h1, h3]
  show some (compare (Ieee.signed s m (i - min i j).toNat) (Ieee.signed t n (j - min i j).toNat)) = _
  congr 1
  rw [show (i + 1074).toNat = (i - min i j).toNat + (min i j + 1074).toNat from by omega, show (j + 1074).toNat = (j - min i j).toNat + (min i j + 1074).toNat from by omega, signed_add, signed_add, cmp_scale]
  exact Int.pow_pos (by decide)

/-- As a program tells it. -/
def numb (b : Nat) (n : Int) : Bool := match FloatKind.f64.format.read b with
  | .number s m e => decide (-1074 ≤ e) && Ieee.signed s m (e + 1074).toNat == n * 2 ^ 1074
  | _ => false
theorem numb_t : ∀ a : Fin 358, numb (fl ((a.val : Int) - 130)) ((a.val : Int) - 130) = true := by decide +kernel
theorem val_of {b : Nat} {n : Int} (h : numb b n = true) : Val b (n * 2 ^ 1074) := by
  unfold numb at h
  split at h
  · rename_i s m e he
    rw [Bool.and_eq_true, decide_eq_true_eq] at h
    exact ⟨s, m, e, he, h.1, eq_of_beq h.2⟩
  · cases h
theorem val_small {n : Int} (h1 : -130 ≤ n) (h2 : n < 228) : Val (fl n) (n * 2 ^ 1074) := by
  have h := numb_t ⟨(n + 130).toNat, by omega⟩
  rw [show ((⟨(n + 130).toNat, by omega⟩ : Fin 358).val : Int) - 130 = n from by simp; omega] at h
  exact val_of h

theorem cut_form (neg : Bool) (n d : Nat) : ∃ q : Bool, Ieee.Toward.even.cut neg n d = n / 2 ^ min d (n.log2 + 2) + q.toNat ∧ (d = 0 → q = false) := by
  refine ⟨_, by unfold Ieee.Toward.cut; simp only [Nat.one_shiftLeft]; rfl, ?_⟩
  rintro rfl
  simp [Nat.mod_one]
theorem kept_big (neg : Bool) (mag L : Nat) (h7 : 7 ≤ L) (h63 : L ≤ 63) (hL : mag.log2 = L) (hlo : 2 ^ L ≤ mag) (hhi : mag < 2 ^ (L + 1)) :
    2 ^ 52 ≤ Ieee.Toward.even.cut neg (mag <<< ((0 : Int) - ((L : Int) - 52)).toNat) (((L : Int) - 52) - 0).toNat ∧ Ieee.Toward.even.cut neg (mag <<< ((0 : Int) - ((L : Int) - 52)).toNat) (((L : Int) - 52) - 0).toNat ≤ 2 ^ 53 := by
  rcases Nat.lt_or_ge 52 L with h | h
  · rw [show ((0 : Int) - ((L : Int) - 52)).toNat = 0 from by omega, show (((L : Int) - 52) - 0).toNat = L - 52 from by omega, Nat.shiftLeft_zero]
    obtain ⟨q, hc, _⟩ := cut_form neg mag (L - 52)
    rw [hc, hL, Nat.min_eq_left (by omega)]
    have hp : 0 < 2 ^ (L - 52) := Nat.two_pow_pos _
    have e1 : 2 ^ L = 2 ^ 52 * 2 ^ (L - 52) := by rw [← Nat.pow_add]; congr 1; omega
    have e2 : 2 ^ (L + 1) = 2 ^ 53 * 2 ^ (L - 52) := by rw [← Nat.pow_add]; congr 1; omega
    have h1 : 2 ^ 52 ≤ mag / 2 ^ (L - 52) := (Nat.le_div_iff_mul_le hp).2 (by rw [← e1]; exact hlo)
    have h2 : mag / 2 ^ (L - 52) < 2 ^ 53 := (Nat.div_lt_iff_lt_mul hp).2 (by rw [← e2]; exact hhi)
    have hq : q.toNat ≤ 1 := by cases q <;> decide
    exact ⟨by omega, by omega⟩
  · rw [show ((0 : Int) - ((L : Int) - 52)).toNat = 52 - L from by omega, show (((L : Int) - 52) - 0).toNat = 0 from by omega]
    have e1 : 2 ^ 52 = 2 ^ L * 2 ^ (52 - L) := by rw [← Nat.pow_add]; congr 1; omega
    have e2 : 2 ^ 53 = 2 ^ (L + 1) * 2 ^ (52 - L) := by rw [← Nat.pow_add]; congr 1; omega
    have h1 : 2 ^ 52 ≤ mag * 2 ^ (52 - L) := by rw [e1]; exact Nat.mul_le_mul_right _ hlo
    have h2 : mag * 2 ^ (52 - L) ≤ 2 ^ 53 := by rw [e2]; exact Nat.mul_le_mul_right _ (by omega)
    rw [Nat.shiftLeft_eq]
    obtain ⟨q, hc, hq⟩ := cut_form neg (mag * 2 ^ (52 - L)) 0
    rw [hc, hq rfl, Nat.zero_min, Nat.pow_zero, Nat.div_one]
    exact ⟨h1, h2⟩
theorem near_big (neg : Bool) (mag : Nat) (h1 : 128 ≤ mag) (h2 : mag < 2 ^ 64) : ∃ m e, Ieee.double.read (Ieee.double.nearest neg mag 0) = .number neg m e ∧ -45 ≤ e ∧ 2 ^ 52 ≤ m := by
  obtain ⟨L, hL⟩ : ∃ L, mag.log2 = L := ⟨_, rfl⟩
  have hlo : 2 ^ L ≤ mag := hL ▸ Nat.log2_self_le (by omega)
  have hhi : mag < 2 ^ (L + 1) := hL ▸ Nat.lt_log2_self
  have h7 : 7 ≤ L := by
    rcases Nat.lt_or_ge L 7 with h | h
    · have := Nat.pow_le_pow_right (by decide : 0 < 2) (show L + 1 ≤ 7 by omega)
      omega
    · exact h
  have h63 : L ≤ 63 := by
    rcases Nat.lt_or_ge 63 L with h | h
    · have := Nat.pow_le_pow_right (by decide : 0 < 2) (show 64 ≤ L by omega)
      omega
    · exact h
  have hK := kept_big neg mag L h7 h63 hL hlo hhi
  have hlp : Ieee.double.leastPlace = -1074 := by decide
  have hbi : Ieee.double.binade = 4503599627370496 := by decide
  have hin : Ieee.double.infRung = 9218868437227405312 := by decide
  have hsw : Ieee.double.signWeight = 9223372036854775808 := by decide
  have hfb : Ieee.double.fractionBits = 52 := rfl
  have e : Ieee.double.nearest neg mag 0 = Ieee.double.word neg ((L + 1022) * 4503599627370496 + Ieee.Toward.even.cut neg (mag <<< ((0 : Int) - ((L : Int) - 52)).toNat) (((L : Int) - 52) - 0).toNat) := by
    unfold Ieee.Format.nearest
    rw [if_neg (by omega), hL, hlp, hbi, hin, hfb]
    dsimp only
    rw [show max ((0 : Int) + (L : Int) - ((52 : Nat) : Int)) (-1074) = (L : Int) - 52 from by omega, show ((L : Int) - 52 - -1074).toNat = L + 1022 from by omega]
    generalize Ieee.Toward.even.cut neg _ _ = K at hK ⊢
    rw [Nat.min_eq_left (by simp only [Nat.reducePow] at hK; omega)]
  rw [e]
  generalize Ieee.Toward.even.cut neg _ _ = K at hK
  simp only [Nat.reducePow] at hK
  have hw : Ieee.double.word neg ((L + 1022) * 4503599627370496 + K) / 9223372036854775808 % 2 = neg.toNat ∧ Ieee.double.word neg ((L + 1022) * 4503599627370496 + K) % 9223372036854775808 = (L + 1022) * 4503599627370496 + K := by
    unfold Ieee.Format.word
    rw [hsw]
    cases neg
    · simp only [Bool.false_eq_true, if_false, Bool.toNat_false]
      omega
    · simp only [if_true, Bool.toNat_true]
      omega
  unfold Ieee.Format.read
  rw [hsw, hbi, hin, hlp]
  dsimp only
  rw [hw.1, hw.2, if_neg (by omega), if_pos (by omega)]
  refine ⟨_, _, by rw [show (neg.toNat == 1) = neg from by cases neg <;> rfl], ?_, ?_⟩
  · omega
  · simp only [Nat.reducePow]
    omega
theorem pw {m k : Nat} (a b : Nat) (hab : 52 + a = 7 + b) (hm : 2 ^ 52 ≤ m) (hk : a ≤ k) : (128 : Int) * 2 ^ b ≤ ((m <<< k : Nat) : Int) := by
  have h1 := Nat.mul_le_mul hm (Nat.pow_le_pow_right (show 0 < 2 by decide) hk)
  rw [← Nat.pow_add, hab, Nat.pow_add] at h1
  have h3 := Int.ofNat_le.2 h1
  rw [Int.natCast_mul, Int.natCast_pow] at h3
  rw [Nat.shiftLeft_eq]
  exact h3
theorem val_big {n : Int} (h1 : 128 ≤ n ∨ n ≤ -128) (h2 : -9223372036854775808 ≤ n) (h3 : n ≤ 9223372036854775807) : ∃ v, Val (fl n) v ∧ (0 < n → 128 * 2 ^ 1074 ≤ v) ∧ (n < 0 → v ≤ -128 * 2 ^ 1074) := by
  obtain ⟨m, e, hr, he, hm⟩ := near_big (decide (n < 0)) n.natAbs (by omega) (by omega)
  refine ⟨Ieee.signed (decide (n < 0)) m (e + 1074).toNat, ⟨_, m, e, hr, by omega, rfl⟩, ?_⟩
  have hb : (128 : Int) * 2 ^ 1074 ≤ ((m <<< (e + 1074).toNat : Nat) : Int) := by
    exact pw 1029 1074 rfl hm (by omega)
  constructor
  · intro hn
    rw [show decide (n < 0) = false from decide_eq_false (by omega)]
    exact hb
  · intro hn
    rw [show decide (n < 0) = true from decide_eq_true (by omega)]
    unfold Ieee.signed
    rw [if_pos rfl]
    generalize ((m <<< (e + 1074).toNat : Nat) : Int) = V at hb
    rw [Int.neg_mul]
    exact Int.neg_le_neg hb
/-- The order of whole numbers, one of them small. -/
theorem fl_ord {n k : Int} (h1 : -9223372036854775808 ≤ n) (h2 : n ≤ 9223372036854775807) (h3 : -100 ≤ k) (h4 : k ≤ 100) : FloatKind.f64.format.order (fl n) (fl k) = some (compare n k) := by
  have hk := val_small (show -130 ≤ k by omega) (show k < 228 by omega)
  have hp : (0 : Int) < 2 ^ 1074 := Int.pow_pos (by decide)
  rcases (by omega : (-130 ≤ n ∧ n < 228) ∨ 128 ≤ n ∨ n ≤ -128) with h | h | h
  · rw [order_val (val_small h.1 h.2) hk, cmp_scale hp]
  · obtain ⟨v, hv, hpos, _⟩ := val_big (.inl h) h1 h2
    rw [order_val hv hk, cmp_gt (by omega : k < n), cmp_gt]
    exact Int.lt_of_lt_of_le (Int.mul_lt_mul_of_pos_right (by omega) hp) (hpos (by omega))
  · obtain ⟨v, hv, _, hneg⟩ := val_big (.inr h) h1 h2
    rw [order_val hv hk, cmp_lt (by omega : n < k), cmp_lt]
    exact Int.lt_of_le_of_lt (hneg (by omega)) (Int.mul_lt_mul_of_pos_right (by omega) hp)
theorem fl_lt {n k : Int} (h1 : -9223372036854775808 ≤ n) (h2 : n ≤ 9223372036854775807) (h3 : -100 ≤ k) (h4 : k ≤ 100) : (FloatKind.f64.format.order (fl n) (fl k) == some .lt) = decide (n < k) := by
  rw [fl_ord h1 h2 h3 h4]
  rcases Int.lt_trichotomy n k with h | h | h
  · rw [cmp_lt h, decide_eq_true h]; rfl
  · rw [h, cmp_eq, decide_eq_false (by omega)]; rfl
  · rw [cmp_gt h, decide_eq_false (by omega)]; rfl
theorem fl_ge {n k : Int} (h1 : -9223372036854775808 ≤ n) (h2 : n ≤ 9223372036854775807) (h3 : -100 ≤ k) (h4 : k ≤ 100) : (FloatKind.f64.format.order (fl n) (fl k) == some .gt || FloatKind.f64.format.order (fl n) (fl k) == some .eq) = decide (k ≤ n) := by
  rw [fl_ord h1 h2 h3 h4]
  rcases Int.lt_trichotomy n k with h | h | h
  · rw [cmp_lt h, decide_eq_false (by omega)]; rfl
  · rw [h, cmp_eq, decide_eq_true (by omega)]; rfl
  · rw [cmp_gt h, decide_eq_true (by omega)]; rfl
theorem fl_eq {n k : Int} (h1 : -9223372036854775808 ≤ n) (h2 : n ≤ 9223372036854775807) (h3 : -100 ≤ k) (h4 : k ≤ 100) : (FloatKind.f64.format.order (fl n) (fl k) == some .eq) = decide (n = k) := by
  rw [fl_ord h1 h2 h3 h4]
  rcases Int.lt_trichotomy n k with h | h | h
  · rw [cmp_lt h, decide_eq_false (by omega)]; rfl
  · rw [h, cmp_eq, decide_eq_true rfl]; rfl
  · rw [cmp_gt h, decide_eq_false (by omega)]; rfl

/-- Rounded down. -/
def flo (b : Nat) : Option Nat := match FloatKind.f64.decode b with
  | .nan _ _ => none
  | d => some (FloatKind.f64.encode (d.integral .down))
theorem flo_t : ∀ a : Fin 74, flo (fl ((a.val : Int) - 1)) = some (fl ((a.val : Int) - 1)) := by decide +kernel
theorem flo_half : flo 4602678819172646912 = some 0 := by decide +kernel
theorem tab_t : ∀ a : Fin 64, (floatBits .quo .f64 (fl (a.val : Int)) 4620693217682128896).bind flo = some (fl ((a.val : Int) / 8)) := by decide +kernel
theorem tab_u : ∀ a : Fin 9, floatBits .add .f64 (fl (a.val : Int)) 4607182418800017408 = some (fl ((a.val : Int) + 1)) ∧ floatBits .mul .f64 (fl ((a.val : Int) + 1)) 4620693217682128896 = some (fl (((a.val : Int) + 1) * 8)) := by decide +kernel
theorem add_t : ∀ a : Fin 64, floatBits .add .f64 (fl (a.val : Int)) 4607182418800017408 = some (fl ((a.val : Int) + 1)) ∧ floatBits .add .f64 (fl (a.val : Int)) 0 = some (fl (a.val : Int)) ∧ floatBits .add .f64 (fl (a.val : Int)) 13830554455654793216 = some (fl ((a.val : Int) - 1)) ∧ floatBits .sub .f64 (fl (a.val : Int)) (fl (a.val : Int)) = some (fl 0) := by decide +kernel
theorem sub_t : ∀ a b : Fin 40, floatBits .sub .f64 (fl (a.val : Int)) (fl (b.val : Int)) = some (fl ((a.val : Int) - (b.val : Int))) := by decide +kernel
theorem sum_t : ∀ a b : Fin 40, floatBits .add .f64 (fl (a.val : Int)) (fl (b.val : Int)) = some (fl ((a.val : Int) + (b.val : Int))) := by decide +kernel
theorem neg_t : ∀ a : Fin 80, (FloatKind.f64.decode (fl ((a.val : Int) - 1))).neg = decide ((a.val : Int) - 1 < 0) := by decide +kernel
theorem toInt_t : ∀ a : Fin 80, floatToIntVal .f64 (fl (a.val : Int)) .i64 = some (a.val : Int) := by decide +kernel
theorem half_t : ∀ a : Fin 64, (FloatKind.f64.format.order 4602678819172646912 (fl ((a.val : Int) + 1)) == some .lt) = true := by decide +kernel
theorem fl_zero : fl 0 = 0 := by decide +kernel
theorem fl_one : fl 1 = 4607182418800017408 := by decide +kernel
theorem fl_four : fl 4 = 4616189618054758400 := by decide +kernel

theorem fl_flo {n : Int} (h1 : -1 ≤ n) (h2 : n ≤ 72) : flo (fl n) = some (fl n) := by
  have h := flo_t ⟨(n + 1).toNat, by omega⟩
  rwa [show ((⟨(n + 1).toNat, by omega⟩ : Fin 74).val : Int) - 1 = n from by simp; omega] at h
theorem fl_tab {a : Nat} (h : a < 64) : ∃ q, floatBits .quo .f64 (fl (a : Int)) 4620693217682128896 = some q ∧ flo q = some (fl ((a / 8 : Nat) : Int)) := by
  have h := tab_t ⟨a, h⟩
  obtain ⟨q, h1, h2⟩ := bind_some h
  exact ⟨q, h1, h2⟩
theorem c_right {x y : Nat} (hx : x < 64) (hy : y < 64) : cSumBits .add .f64 (fl (x : Int)) (fl (y : Int)) 4607182418800017408 0 = some (fl ((x + 1 : Nat) : Int), fl (y : Int)) := by
  have h1 := (add_t ⟨x, hx⟩).1
  have h2 := (add_t ⟨y, hy⟩).2.1
  unfold cSumBits
  rw [h1, h2]
  rfl
theorem c_left {x y : Nat} (hx : x < 64) (hy : y < 64) : cSumBits .add .f64 (fl (x : Int)) (fl (y : Int)) 13830554455654793216 0 = some (fl ((x : Int) - 1), fl (y : Int)) := by
  have h1 := (add_t ⟨x, hx⟩).2.2.1
  have h2 := (add_t ⟨y, hy⟩).2.1
  unfold cSumBits
  rw [h1, h2]
  rfl
theorem c_down {x y : Nat} (hx : x < 64) (hy : y < 64) : cSumBits .add .f64 (fl (x : Int)) (fl (y : Int)) 0 4607182418800017408 = some (fl (x : Int), fl ((y + 1 : Nat) : Int)) := by
  have h1 := (add_t ⟨x, hx⟩).2.1
  have h2 := (add_t ⟨y, hy⟩).1
  unfold cSumBits
  rw [h1, h2]
  rfl
theorem fl_sub {a x : Nat} (h : a = x ∧ a < 64 ∨ a < 40 ∧ x < 40) : floatBits .sub .f64 (fl (a : Int)) (fl (x : Int)) = some (fl ((a : Int) - (x : Int))) := by
  rcases h with ⟨rfl, h⟩ | ⟨h1, h2⟩
  · rw [(add_t ⟨a, h⟩).2.2.2, Int.sub_self]
  · exact sub_t ⟨a, h1⟩ ⟨x, h2⟩
theorem c_sub {a b x y : Nat} (h : a = x ∧ a < 64 ∨ a < 40 ∧ x < 40) (k : b = y ∧ b < 64 ∨ b < 40 ∧ y < 40) : cSumBits .sub .f64 (fl (a : Int)) (fl (b : Int)) (fl (x : Int)) (fl (y : Int)) = some (fl ((a : Int) - (x : Int)), fl ((b : Int) - (y : Int))) := by
  unfold cSumBits
  rw [fl_sub h, fl_sub k]
  rfl
end Go.Proofs.YtgknhojjnnljkaaDoor
