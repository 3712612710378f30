/- What is proved here: plain facts on numbers written as seven-bit bytes, on the zigzag of signed numbers, and on the model's bit operations at them; no program is named. -/
import Derived.Laws.BitsAllLaws
import Derived.Laws.BitsLemmas
import Derived.RowKit
namespace Go.Proofs.YtbegccgpmhbnfaaGreat
open Go.RowKit (wrap64)
/-! ### zigzag -/
def lebF : Nat → Nat → List UInt8
 | 0, n => [UInt8.ofNat n]
 | f + 1, n => if n < 128 then [UInt8.ofNat n] else UInt8.ofNat (n % 128 + 128) :: lebF f (n / 128)
def lebP (n : Nat) : List UInt8 := lebF 9 n
theorem lebF_length (f n : Nat) : 1 ≤ (lebF f n).length ∧ (lebF f n).length ≤ f + 1 := by
 induction f generalizing n with
 | zero => simp [lebF]
 | succ f ih =>
  unfold lebF
  split
  ·simp
  ·have := ih (n / 128)
   simp; omega
theorem lebP_length (n : Nat) : 1 ≤ (lebP n).length ∧ (lebP n).length ≤ 10 := lebF_length 9 n
theorem lebF_small (f n : Nat) (h : n < 128) : lebF f n = [UInt8.ofNat n] := by
 cases f with
 | zero => rfl
 | succ f => unfold lebF; rw [if_pos h]
theorem lebF_big (f n : Nat) (h : ¬ n < 128) : lebF (f + 1) n = UInt8.ofNat (n % 128 + 128) :: lebF f (n / 128) := by
 rw [lebF, if_neg h]
def readG : Nat → Nat → List UInt8 → Nat × Nat × Nat
 | _, _, [] => (0, 0, 22)
 | acc, i, c :: r =>
  if i = 9 ∧ 1 < c.toNat then (0, 0, 21)
  else if 128 ≤ c.toNat then readG (acc + c.toNat % 128 * 2 ^ (7 * i)) (i + 1) r
  else if c.toNat = 0 ∧ 0 < i then (0, 0, 21)
  else (acc + c.toNat % 128 * 2 ^ (7 * i), i + 1, 0)
def readL (l : List UInt8) : Nat × Nat × Nat := readG 0 0 l
theorem ofNat_toNat (n : Nat) (h : n < 256) : (UInt8.ofNat n).toNat = n := by
 simp [UInt8.toNat_ofNat']; omega
theorem readG_lebF (f n acc i : Nat) (more : List UInt8) (hf : f + i = 9) (hn : n * 2 ^ (7 * i) < 2 ^ 64) (h0 : i = 0 ∨ 0 < n) :
  readG acc i (lebF f n ++ more) = (acc + n * 2 ^ (7 * i), i + (lebF f n).length, 0) := by
 induction f generalizing n acc i with
 | zero =>
  have hi : i = 9 := by omega
  subst hi
  have hn1 : n < 2 := by
   rcases Nat.lt_or_ge n 2 with h | h
   ·exact h
   ·have : 2 * 2 ^ (7 * 9) ≤ n * 2 ^ (7 * 9) := Nat.mul_le_mul_right _ h
    omega
  have e : (UInt8.ofNat n).toNat = n := ofNat_toNat n (by omega)
  simp only [lebF, List.cons_append, List.nil_append, readG, e]
  rw [if_neg (by omega), if_neg (by omega), if_neg (by omega), Nat.mod_eq_of_lt (by omega)]
  simp
 | succ f ih =>
  by_cases h : n < 128
  ·have e : (UInt8.ofNat n).toNat = n := ofNat_toNat n (by omega)
   rw [lebF_small _ _ h]
   simp only [List.cons_append, List.nil_append, readG, e]
   rw [if_neg (by omega), if_neg (by omega), if_neg (by omega), Nat.mod_eq_of_lt (by omega)]
   simp
  ·have e : (UInt8.ofNat (n % 128 + 128)).toNat = n % 128 + 128 := ofNat_toNat _ (by omega)
   rw [lebF_big _ _ h]
   have hp : n * 2 ^ (7 * i) = n / 128 * 2 ^ (7 * (i + 1)) + n % 128 * 2 ^ (7 * i) := by
    have e1 : 2 ^ (7 * (i + 1)) = 128 * 2 ^ (7 * i) := by rw [Nat.mul_add, Nat.pow_add, Nat.mul_comm]
    rw [e1, ← Nat.mul_assoc, ← Nat.add_mul]
    congr 1
    omega
   simp only [List.cons_append, readG, e]
   rw [if_neg (by omega), if_pos (by omega), ih (n / 128) _ (i + 1) (by omega) (by omega) (Or.inr (by omega))]
   have e2 : (n % 128 + 128) % 128 = n % 128 := by omega
   rw [e2, List.length_cons, hp]
   simp; omega
theorem readL_lebP (n : Nat) (more : List UInt8) (hn : n < 18446744073709551616) : readL (lebP n ++ more) = (n, (lebP n).length, 0) := by
 have h := readG_lebF 9 n 0 0 more rfl (by simpa using hn) (Or.inl rfl)
 simpa [readL, lebP] using h
theorem readG_bd (acc i : Nat) (l : List UInt8) (hacc : acc < 2 ^ (7 * i)) (hi : i ≤ 9) :
  (readG acc i l).1 < 18446744073709551616 ∧ (readG acc i l).2.1 ≤ i + l.length ∧ ((readG acc i l).2.2 = 0 ∨ (readG acc i l).2.2 = 21 ∨ (readG acc i l).2.2 = 22) := by
 induction l generalizing acc i with
 | nil => simp [readG]
 | cons c r ih =>
  have e1 : 2 ^ (7 * (i + 1)) = 128 * 2 ^ (7 * i) := by rw [Nat.mul_add, Nat.pow_add, Nat.mul_comm]
  have hc := c.toNat_lt
  have hb : acc + c.toNat % 128 * 2 ^ (7 * i) < 2 ^ (7 * (i + 1)) := by
   have : c.toNat % 128 * 2 ^ (7 * i) ≤ 127 * 2 ^ (7 * i) := Nat.mul_le_mul_right _ (by omega)
   omega
  unfold readG
  split
  ·simp
  ·rename_i h9
   split
   ·have h8 : i ≤ 8 := by omega
    have := ih _ (i + 1) hb (by omega)
    simp only [List.length_cons]
    omega
   ·split
    ·simp
    ·refine ⟨?_, by simp only [List.length_cons]; omega, Or.inl rfl⟩
     show acc + c.toNat % 128 * 2 ^ (7 * i) < 18446744073709551616
     rcases Nat.lt_or_ge i 9 with h | h
     ·have : 2 ^ (7 * (i + 1)) ≤ 2 ^ 63 := Nat.pow_le_pow_right (by decide) (by omega)
      omega
     ·have : i = 9 := by omega
      subst this
      have : c.toNat % 128 * 2 ^ (7 * 9) ≤ 1 * 2 ^ (7 * 9) := Nat.mul_le_mul_right _ (by omega)
      omega
theorem readL_bd (l : List UInt8) : (readL l).1 < 18446744073709551616 ∧ (readL l).2.1 ≤ l.length ∧ ((readL l).2.2 = 0 ∨ (readL l).2.2 = 21 ∨ (readL l).2.2 = 22) := by
 have := readG_bd 0 0 l (by simp) (by omega)
 simpa [readL] using this
/-! ### bytes with their length ahead -/
def readB (l : List UInt8) (most : Int) : List UInt8 × Nat × Nat :=
 if (readL l).2.2 ≠ 0 then ([], 0, (readL l).2.2)
 else if most.toNat < (readL l).1 then ([], 0, 25)
 else if l.length - (readL l).2.1 < (readL l).1 then ([], 0, 22)
 else ((l.drop (readL l).2.1).take (readL l).1, (readL l).2.1 + (readL l).1, 0)
theorem readB_err (l : List UInt8) (most : Int) (h : (readL l).2.2 ≠ 0) : readB l most = ([], 0, (readL l).2.2) := by unfold readB; rw [if_pos h]
theorem readB_long (l : List UInt8) (most : Int) (h : (readL l).2.2 = 0) (h1 : most.toNat < (readL l).1) : readB l most = ([], 0, 25) := by
 unfold readB; rw [if_neg (by omega), if_pos h1]
theorem readB_short (l : List UInt8) (most : Int) (h : (readL l).2.2 = 0) (h1 : ¬ most.toNat < (readL l).1) (h2 : l.length - (readL l).2.1 < (readL l).1) : readB l most = ([], 0, 22) := by
 unfold readB; rw [if_neg (by omega), if_neg h1, if_pos h2]
theorem readB_ok (l : List UInt8) (most : Int) (h : (readL l).2.2 = 0) (h1 : ¬ most.toNat < (readL l).1) (h2 : ¬ l.length - (readL l).2.1 < (readL l).1) :
  readB l most = ((l.drop (readL l).2.1).take (readL l).1, (readL l).2.1 + (readL l).1, 0) := by
 unfold readB; rw [if_neg (by omega), if_neg h1, if_neg h2]
def putB (l : List UInt8) : List UInt8 := lebP l.length ++ l
theorem readB_putB (l more : List UInt8) (most : Int) (hl : l.length < 18446744073709551616) (hm : (l.length : Int) ≤ most) :
  readB (putB l ++ more) most = (l, (putB l).length, 0) := by
 have h := readL_lebP l.length (l ++ more) hl
 unfold putB
 rw [List.append_assoc, readB_ok]
 ·rw [h]; simp
 ·rw [h]
 ·rw [h]; show ¬ most.toNat < l.length; omega
 ·rw [h]; simp
end Go.Proofs.YtbegccgpmhbnfaaGreat
