/- What is proved here: plain facts on numbers written as seven-bit bytes, on the zigzag of signed numbers, and on the model's bit operations at them; no program is named. -/
import Derived.Laws.BitsAllLaws
import Derived.Laws.BitsLemmas
import Derived.RowKit
namespace Go.Proofs.YthncoigjfhmldaaGreat
open Go.RowKit (wrap64)

/-! ### zigzag -/
def zigV (n : Int) : Int := if n < 0 then -2 * n - 1 else 2 * n
def zagV (n : Int) : Int := if n % 2 = 1 then -(n / 2) - 1 else n / 2

theorem zigV_bd (n : Int) (h0 : -9223372036854775808 ≤ n) (h1 : n < 9223372036854775808) : 0 ≤ zigV n ∧ zigV n < 18446744073709551616 := by
  unfold zigV; split <;> omega
theorem zagV_bd (n : Int) (h0 : 0 ≤ n) (h1 : n < 18446744073709551616) : -9223372036854775808 ≤ zagV n ∧ zagV n < 9223372036854775808 := by
  unfold zagV; split <;> omega
theorem zag_zig (n : Int) : zagV (zigV n) = n := by
  unfold zagV zigV; split <;> split <;> omega
theorem zig_zag (n : Int) (h0 : 0 ≤ n) : zigV (zagV n) = n := by
  unfold zagV zigV; split <;> split <;> omega
theorem zig_neg {n : Int} (h : n < 0) : zigV n = -2 * n - 1 := by unfold zigV; rw [if_pos h]
theorem zig_pos {n : Int} (h : ¬ n < 0) : zigV n = 2 * n := by unfold zigV; rw [if_neg h]
theorem zag_odd {n : Int} (h : n % 2 = 1) : zagV n = -(n / 2) - 1 := by unfold zagV; rw [if_pos h]
theorem zag_even {n : Int} (h : ¬ n % 2 = 1) : zagV n = n / 2 := by unfold zagV; rw [if_neg h]

theorem xor_ones (a : Nat) (ha : a < 18446744073709551616) : a ^^^ 18446744073709551615 = 18446744073709551615 - a := by
  have h : (BitVec.ofNat 64 a ^^^ BitVec.allOnes 64).toNat = (~~~ BitVec.ofNat 64 a).toNat := by rw [BitVec.xor_allOnes]
  rw [BitVec.toNat_xor, BitVec.toNat_not, BitVec.toNat_ofNat, BitVec.toNat_allOnes, Nat.mod_eq_of_lt (by omega)] at h
  have e : 2 ^ 64 - 1 = 18446744073709551615 := by decide
  rw [e] at h
  omega

theorem zig_bits (n : Int) (h0 : -9223372036854775808 ≤ n) (h1 : n < 9223372036854775808) :
    bits .xor .u64 (IntKind.u64.wrap (IntKind.u64.wrap n * 2)) (IntKind.u64.wrap (n / 9223372036854775808)) = zigV n := by
  simp only [IntKind.wrap_u64]
  by_cases h : n < 0
  · have e1 : n / 9223372036854775808 % 18446744073709551616 = ((18446744073709551615 : Nat) : Int) := by omega
    obtain ⟨a, ha⟩ : ∃ a : Nat, n % 18446744073709551616 * 2 % 18446744073709551616 = (a : Int) := ⟨_, (Int.toNat_of_nonneg (by omega)).symm⟩
    rw [e1, ha, u64_xor_nat a _ (by omega) (by omega), xor_ones a (by omega), zig_neg h]
    omega
  · have e1 : n / 9223372036854775808 % 18446744073709551616 = ((0 : Nat) : Int) := by omega
    obtain ⟨a, ha⟩ : ∃ a : Nat, n % 18446744073709551616 * 2 % 18446744073709551616 = (a : Int) := ⟨_, (Int.toNat_of_nonneg (by omega)).symm⟩
    rw [e1, ha, u64_xor_nat a _ (by omega) (by omega), Nat.xor_zero, zig_pos h]
    omega

theorem xor_neg1 (a : Nat) (ha : a < 9223372036854775808) : bits .xor .i64 (a : Int) (-1) = -(a : Int) - 1 := by
  show IntKind.i64.wrap ((BitVec.ofInt 64 (a : Int) ^^^ BitVec.ofInt 64 (-1)).toNat : Int) = _
  have e : BitVec.ofInt 64 (-1) = BitVec.allOnes 64 := by decide
  rw [e, BitVec.xor_allOnes, BitVec.toNat_not, BitVec.ofInt_natCast, BitVec.toNat_ofNat, Nat.mod_eq_of_lt (by omega), IntKind.wrap_i64]
  have e2 : 2 ^ 64 - 1 = 18446744073709551615 := by decide
  rw [e2]
  omega
theorem xor_zero_i64 (a : Nat) (ha : a < 9223372036854775808) : bits .xor .i64 (a : Int) 0 = (a : Int) := by
  show IntKind.i64.wrap ((BitVec.ofInt 64 (a : Int) ^^^ BitVec.ofInt 64 0).toNat : Int) = _
  have e : BitVec.ofInt 64 0 = 0#64 := by decide
  rw [e, BitVec.xor_zero, BitVec.ofInt_natCast, BitVec.toNat_ofNat, Nat.mod_eq_of_lt (by omega), IntKind.wrap_i64]
  omega
theorem and_one_any (n : Int) (h0 : 0 ≤ n) (h1 : n < 18446744073709551616) : bits .and .u64 n 1 = n % 2 := by
  rw [u64_and n 1 h0 h1 (by omega) (by omega), show (1 : Int).toNat = 1 from rfl, nat_mask1]
  omega
theorem zag_bits (n : Int) (h0 : 0 ≤ n) (h1 : n < 18446744073709551616) :
    bits .xor .i64 (n / 2) (wrap64 (-wrap64 (bits .and .u64 n 1))) = zagV n := by
  rw [and_one_any n h0 h1]
  obtain ⟨a, ha⟩ : ∃ a : Nat, n / 2 = (a : Int) := ⟨_, (Int.toNat_of_nonneg (by omega)).symm⟩
  by_cases h : n % 2 = 1
  · rw [h, show wrap64 (-wrap64 1) = -1 from by decide, ha, xor_neg1 a (by omega), zag_odd h, ha]
  · rw [show n % 2 = 0 from by omega, show wrap64 (-wrap64 0) = 0 from by decide, ha, xor_zero_i64 a (by omega), zag_even h, ha]

/-! ### a number's bytes -/
/-- The bytes of n, with at most f of them ahead of the last one. -/
def lebF : Nat → Nat → List UInt8
  | 0, n => [UInt8.ofNat n]
  | f + 1, n => if n < 128 then [UInt8.ofNat n] else UInt8.ofNat (n % 128 + 128) :: lebF f (n / 128)
def lebP (n : Nat) : List UInt8 := lebF 9 n

theorem lebF_length (f n : Nat) : 1 ≤ (lebF f n).length ∧ (lebF f n).length ≤ f + 1 := by
  induction f generalizing n with
  | zero => simp [lebF]
  | succ f ih =>
    unfold lebF
    split
    · simp
    · have := ih (n / 128)
      simp; omega
theorem lebP_length (n : Nat) : 1 ≤ (lebP n).length ∧ (lebP n).length ≤ 10 := lebF_length 9 n

theorem lebF_small (f n : Nat) (h : n < 128) : lebF f n = [UInt8.ofNat n] := by
  cases f with
  | zero => rfl
  | succ f => unfold lebF; rw [if_pos h]
theorem lebF_big (f n : Nat) (h : ¬ n < 128) : lebF (f + 1) n = UInt8.ofNat (n % 128 + 128) :: lebF f (n / 128) := by
  rw [lebF, if_neg h]

theorem lebF_mono (f a b : Nat) (h : a ≤ b) : (lebF f a).length ≤ (lebF f b).length := by
  induction f generalizing a b with
  | zero => simp [lebF]
  | succ f ih =>
    by_cases h1 : a < 128
    · rw [lebF_small _ _ h1]
      have := (lebF_length (f + 1) b).1
      simp; omega
    · rw [lebF_big _ _ h1, lebF_big _ _ (by omega)]
      have := ih (a / 128) (b / 128) (by omega)
      simp; omega

/-! ### reading -/
/-- What is read, acc and i ahead: the number, how many bytes, the error. -/
def readG : Nat → Nat → List UInt8 → Nat × Nat × Nat
  | _, _, [] => (0, 0, 22)
  | acc, i, c :: r =>
    if i = 9 ∧ 1 < c.toNat then (0, 0, 21)
    else if 128 ≤ c.toNat then readG (acc + c.toNat % 128 * 2 ^ (7 * i)) (i + 1) r
    else if c.toNat = 0 ∧ 0 < i then (0, 0, 21)
    else (acc + c.toNat % 128 * 2 ^ (7 * i), i + 1, 0)
def readL (l : List UInt8) : Nat × Nat × Nat := readG 0 0 l

theorem ofNat_toNat (n : Nat) (h : n < 256) : (UInt8.ofNat n).toNat = n := by
  simp [UInt8.toNat_ofNat']; omega

theorem readG_lebF (f n acc i : Nat) (more : List UInt8) (hf : f + i = 9) (hn : n * 2 ^ (7 * i) < 2 ^ 64) (h0 : i = 0 ∨ 0 < n) :
    readG acc i (lebF f n ++ more) = (acc + n * 2 ^ (7 * i), i + (lebF f n).length, 0) := by
  induction f generalizing n acc i with
  | zero =>
    have hi : i = 9 := by omega
    subst hi
    have hn1 : n < 2 := by
      rcases Nat.lt_or_ge n 2 with h | h
      · exact h
      · have : 2 * 2 ^ (7 * 9) ≤ n * 2 ^ (7 * 9) := Nat.mul_le_mul_right _ h
        omega
    have e : (UInt8.ofNat n).toNat = n := ofNat_toNat n (by omega)
    simp only [lebF, List.cons_append, List.nil_append, readG, e]
    rw [if_neg (by omega), if_neg (by omega), if_neg (by omega), Nat.mod_eq_of_lt (by omega)]
    simp
  | succ f ih =>
    by_cases h : n < 128
    · have e : (UInt8.ofNat n).toNat = n := ofNat_toNat n (by omega)
      rw [lebF_small _ _ h]
      simp only [List.cons_append, List.nil_append, readG, e]
      rw [if_neg (by omega), if_neg (by omega), if_neg (by omega), Nat.mod_eq_of_lt (by omega)]
      simp
    · have e : (UInt8.ofNat (n % 128 + 128)).toNat = n % 128 + 128 := ofNat_toNat _ (by omega)
      rw [lebF_big _ _ h]
      have hp : n * 2 ^ (7 * i) = n / 128 * 2 ^ (7 * (i + 1)) + n % 128 * 2 ^ (7 * i) := by
        have e1 : 2 ^ (7 * (i + 1)) = 128 * 2 ^ (7 * i) := by rw [Nat.mul_add, Nat.pow_add, Nat.mul_comm]
        rw [e1, ← Nat.mul_assoc, ← Nat.add_mul]
        congr 1
        omega
      simp only [List.cons_append, readG, e]
      rw [if_neg (by omega), if_pos (by omega), ih (n / 128) _ (i + 1) (by omega) (by omega) (Or.inr (by omega))]
      have e2 : (n % 128 + 128) % 128 = n % 128 := by omega
      rw [e2, List.length_cons, hp]
      simp; omega

theorem readL_lebP (n : Nat) (more : List UInt8) (hn : n < 18446744073709551616) : readL (lebP n ++ more) = (n, (lebP n).length, 0) := by
  have h := readG_lebF 9 n 0 0 more rfl (by simpa using hn) (Or.inl rfl)
  simpa [readL, lebP] using h

/-- Each beginning of a number is short. -/
theorem readG_short (f n acc i k : Nat) (hf : f + i = 9) (hk : k < (lebF f n).length) : readG acc i ((lebF f n).take k) = (0, 0, 22) := by
  induction f generalizing n acc i k with
  | zero =>
    have : k = 0 := by simp [lebF] at hk; omega
    subst this
    simp [readG]
  | succ f ih =>
    cases k with
    | zero => simp [readG]
    | succ k =>
      by_cases h : n < 128
      · rw [lebF_small _ _ h] at hk; simp at hk
      · rw [lebF_big _ _ h] at hk ⊢
        have e : (UInt8.ofNat (n % 128 + 128)).toNat = n % 128 + 128 := ofNat_toNat _ (by omega)
        simp only [List.take_succ_cons, readG, e]
        rw [if_neg (by omega), if_pos (by omega)]
        exact ih _ _ (i + 1) k (by omega) (by simpa using hk)
theorem readL_short (n k : Nat) (hk : k < (lebP n).length) : readL ((lebP n).take k) = (0, 0, 22) := readG_short 9 n 0 0 k rfl hk

theorem lebP_inj (a b : Nat) (ha : a < 18446744073709551616) (hb : b < 18446744073709551616) (h : lebP a = lebP b) : a = b := by
  have h1 := readL_lebP a [] ha
  have h2 := readL_lebP b [] hb
  rw [h] at h1
  rw [h1] at h2
  exact (Prod.mk.inj h2).1

/-- What reading comes to: bounds. -/
theorem readG_bd (acc i : Nat) (l : List UInt8) (hacc : acc < 2 ^ (7 * i)) (hi : i ≤ 9) :
    (readG acc i l).1 < 18446744073709551616 ∧ (readG acc i l).2.1 ≤ i + l.length ∧ ((readG acc i l).2.2 = 0 ∨ (readG acc i l).2.2 = 21 ∨ (readG acc i l).2.2 = 22) := by
  induction l generalizing acc i with
  | nil => simp [readG]
  | cons c r ih =>
    have e1 : 2 ^ (7 * (i + 1)) = 128 * 2 ^ (7 * i) := by rw [Nat.mul_add, Nat.pow_add, Nat.mul_comm]
    have hc := c.toNat_lt
    have hb : acc + c.toNat % 128 * 2 ^ (7 * i) < 2 ^ (7 * (i + 1)) := by
      have : c.toNat % 128 * 2 ^ (7 * i) ≤ 127 * 2 ^ (7 * i) := Nat.mul_le_mul_right _ (by omega)
      omega
    unfold readG
    split
    · simp
    · rename_i h9
      split
      · have h8 : i ≤ 8 := by omega
        have := ih _ (i + 1) hb (by omega)
        simp only [List.length_cons]
        omega
      · split
        · simp
        · refine ⟨?_, by simp only [List.length_cons]; omega, Or.inl rfl⟩
          show acc + c.toNat % 128 * 2 ^ (7 * i) < 18446744073709551616
          rcases Nat.lt_or_ge i 9 with h | h
          · have : 2 ^ (7 * (i + 1)) ≤ 2 ^ 63 := Nat.pow_le_pow_right (by decide) (by omega)
            omega
          · have : i = 9 := by omega
            subst this
            have : c.toNat % 128 * 2 ^ (7 * 9) ≤ 1 * 2 ^ (7 * 9) := Nat.mul_le_mul_right _ (by omega)
            omega
theorem readL_bd (l : List UInt8) : (readL l).1 < 18446744073709551616 ∧ (readL l).2.1 ≤ l.length ∧ ((readL l).2.2 = 0 ∨ (readL l).2.2 = 21 ∨ (readL l).2.2 = 22) := by
  have := readG_bd 0 0 l (by simp) (by omega)
  simpa [readL] using this

/-! ### bytes with their length ahead -/
/-- What comes of reading bytes: they, how many there are in all, the error. -/
def readB (l : List UInt8) (most : Int) : List UInt8 × Nat × Nat :=
  if (readL l).2.2 ≠ 0 then ([], 0, (readL l).2.2)
  else if most.toNat < (readL l).1 then ([], 0, 25)
  else if l.length - (readL l).2.1 < (readL l).1 then ([], 0, 22)
  else ((l.drop (readL l).2.1).take (readL l).1, (readL l).2.1 + (readL l).1, 0)
theorem readB_err (l : List UInt8) (most : Int) (h : (readL l).2.2 ≠ 0) : readB l most = ([], 0, (readL l).2.2) := by unfold readB; rw [if_pos h]
theorem readB_long (l : List UInt8) (most : Int) (h : (readL l).2.2 = 0) (h1 : most.toNat < (readL l).1) : readB l most = ([], 0, 25) := by
  unfold readB; rw [if_neg (by omega), if_pos h1]
theorem readB_short (l : List UInt8) (most : Int) (h : (readL l).2.2 = 0) (h1 : ¬ most.toNat < (readL l).1) (h2 : l.length - (readL l).2.1 < (readL l).1) : readB l most = ([], 0, 22) := by
  unfold readB; rw [if_neg (by omega), if_neg h1, if_pos h2]
theorem readB_ok (l : List UInt8) (most : Int) (h : (readL l).2.2 = 0) (h1 : ¬ most.toNat < (readL l).1) (h2 : ¬ l.length - (readL l).2.1 < (readL l).1) :
    readB l most = ((l.drop (readL l).2.1).take (readL l).1, (readL l).2.1 + (readL l).1, 0) := by
  unfold readB; rw [if_neg (by omega), if_neg h1, if_neg h2]

/-- l with its length ahead. -/
def putB (l : List UInt8) : List UInt8 := lebP l.length ++ l
theorem readB_putB (l more : List UInt8) (most : Int) (hl : l.length < 18446744073709551616) (hm : (l.length : Int) ≤ most) :
    readB (putB l ++ more) most = (l, (putB l).length, 0) := by
  have h := readL_lebP l.length (l ++ more) hl
  unfold putB
  rw [List.append_assoc, readB_ok]
  · rw [h]; simp
  · rw [h]
  · rw [h]; show ¬ most.toNat < l.length; omega
  · rw [h]; simp
theorem readB_putB_long (l : List UInt8) (most : Int) (hl : l.length < 18446744073709551616) (hm : most < (l.length : Int)) (h0 : 0 < l.length) : readB (putB l) most = ([], 0, 25) := by
  have h := readL_lebP l.length l hl
  unfold putB
  rw [readB_long]
  · rw [h]
  · rw [h]; show most.toNat < l.length; omega
end Go.Proofs.YthncoigjfhmldaaGreat

