/- What is proved here: plain facts on bytes of which up to four neighbours are turned: their checksum is the same just when nothing was turned. -/
import Derived.Test.YtaiclombimdkmaaCrcSum
namespace Go.Proofs.Ytaiclombimdkmaa
open Go.RowKit

/-- The j-th byte of x. -/
def byteOf (x j : Nat) : UInt8 := UInt8.ofNat (x / 2 ^ (8 * j) % 256)
/-- The bytes, k of them turned from place n on. -/
def turnC (l : List UInt8) (n x k : Nat) : List UInt8 := (List.range l.length).map fun i => if n ≤ i ∧ i < n + k then l.getD i 0 ^^^ byteOf x (i - n) else l.getD i 0
def sameC (x k : Nat) : Bool := (List.range k).all fun j => byteOf x j == 0
theorem turnC_len (l : List UInt8) (n x k : Nat) : (turnC l n x k).length = l.length := by simp [turnC]
theorem turnC_get (l : List UInt8) (n x k i : Nat) (h : i < l.length) : (turnC l n x k)[i]? = some (if n ≤ i ∧ i < n + k then l[i] ^^^ byteOf x (i - n) else l[i]) := by
  simp [turnC, h, List.getD]
theorem turnC_zero (l : List UInt8) (n x : Nat) : turnC l n x 0 = l := by
  apply List.ext_getElem?
  intro i
  by_cases h : i < l.length
  · rw [turnC_get _ _ _ _ _ h, if_neg (by omega), List.getElem?_eq_getElem h]
  · rw [List.getElem?_eq_none (by rw [turnC_len]; omega), List.getElem?_eq_none (by omega)]
theorem turnC_at (l : List UInt8) (n x k : Nat) (h : n + k < l.length) : (turnC l n x k)[n + k]'(by rw [turnC_len]; exact h) = l[n + k] := by
  have := turnC_get l n x k (n + k) h
  rw [if_neg (by omega), List.getElem?_eq_getElem (by rw [turnC_len]; exact h)] at this
  injection this
theorem turnC_set (l : List UInt8) (n x k : Nat) (h : n + k < l.length) : (turnC l n x k).set (n + k) (l[n + k] ^^^ byteOf x k) = turnC l n x (k + 1) := by
  apply List.ext_getElem?
  intro i
  by_cases hi : i < l.length
  · rw [turnC_get _ _ _ _ _ hi]
    by_cases e : n + k = i
    · subst e
      rw [List.getElem?_set_self (by rw [turnC_len]; exact h), if_pos (by omega), show n + k - n = k by omega]
    · rw [List.getElem?_set_ne e, turnC_get _ _ _ _ _ hi]
      by_cases hk : n ≤ i ∧ i < n + k
      · rw [if_pos hk, if_pos (by omega)]
      · rw [if_neg hk, if_neg (by omega)]
  · rw [List.getElem?_eq_none (by rw [List.length_set, turnC_len]; omega), List.getElem?_eq_none (by rw [turnC_len]; omega)]
theorem sameC_succ (x k : Nat) : sameC x (k + 1) = (sameC x k && (byteOf x k == 0)) := by
  unfold sameC
  rw [List.range_succ, List.all_append]
  simp
theorem xor_same (a b : UInt8) : ((a ^^^ b).toNat == a.toNat) = (b == 0) := by
  rw [Bool.eq_iff_iff]
  simp only [beq_iff_eq]
  constructor
  · intro h
    have h2 : a ^^^ b = a := UInt8.toNat_inj.1 h
    have : a ^^^ (a ^^^ b) = a ^^^ a := by rw [h2]
    rw [← UInt8.xor_assoc, UInt8.xor_self, UInt8.zero_xor] at this
    exact this
  · intro h
    rw [h, UInt8.xor_zero]

/-- The bytes that are turned, as numbers. -/
def dsC (x k : Nat) : List Nat := (List.range k).map fun j => (byteOf x j).toNat
theorem xorL_get' (l m : List Nat) (i : Nat) (hl : i < l.length) (hm : i < m.length) : (xorL l m)[i]? = some (l[i] ^^^ m[i]) := by
  induction l generalizing m i with
  | nil => simp at hl
  | cons a l ih => cases m with
    | nil => simp at hm
    | cons b m => cases i with
      | zero => rfl
      | succ i =>
        simp only [xorL, List.getElem?_cons_succ, List.getElem_cons_succ]
        exact ih m i (by simpa using hl) (by simpa using hm)
theorem natB_len (l : List UInt8) : (natB l).length = l.length := by simp [natB]
theorem turnC_xorL (l : List UInt8) (n x k : Nat) (h : n + k ≤ l.length) : xorL (natB (turnC l n x k)) (natB l) = List.replicate n 0 ++ dsC x k ++ List.replicate (l.length - n - k) 0 := by
  have l0 := natB_len (turnC l n x k)
  rw [turnC_len] at l0
  have l1 := natB_len l
  have l2 := xorL_length (natB (turnC l n x k)) (natB l) (by omega)
  have l3 : (dsC x k).length = k := by simp [dsC]
  apply List.ext_getElem?
  intro i
  by_cases hi : i < l.length
  · rw [xorL_get' _ _ i (by omega) (by omega)]
    have hg : (natB (turnC l n x k))[i]'(by omega) = (if n ≤ i ∧ i < n + k then l[i] ^^^ byteOf x (i - n) else l[i]).toNat := by
      have := turnC_get l n x k i hi
      rw [List.getElem?_eq_getElem (by rw [turnC_len]; exact hi)] at this
      injection this with this
      simp only [natB, List.getElem_map, this]
    rw [hg]
    have hg2 : (natB l)[i]'(by omega) = l[i].toNat := by simp [natB]
    rw [hg2]
    by_cases hk : n ≤ i ∧ i < n + k
    · rw [if_pos hk, List.append_assoc, List.getElem?_append_right (by simp; omega), List.getElem?_append_left (by simp; omega)]
      simp only [List.length_replicate, dsC, List.getElem?_map, List.getElem?_range (show i - n < k by omega), Option.map_some, UInt8.toNat_xor]
      rw [Nat.xor_comm l[i].toNat, Nat.xor_assoc, Nat.xor_self, Nat.xor_zero]
    · rw [if_neg hk, Nat.xor_self]
      by_cases h1 : i < n
      · rw [List.append_assoc, List.getElem?_append_left (by simp; omega), List.getElem?_replicate, if_pos h1]
      · rw [List.getElem?_append_right (by simp; omega), List.getElem?_replicate, if_pos (by simp; omega)]
  · rw [List.getElem?_eq_none (by omega), List.getElem?_eq_none (by simp; omega)]
theorem sameC_iff (x k : Nat) : sameC x k = true ↔ ∀ b ∈ dsC x k, b = 0 := by
  unfold sameC dsC
  rw [List.all_eq_true]
  constructor
  · intro h b hb
    rw [List.mem_map] at hb
    obtain ⟨j, hj, rfl⟩ := hb
    have := h j hj
    rw [beq_iff_eq] at this
    rw [this]
    rfl
  · intro h j hj
    rw [beq_iff_eq]
    exact UInt8.toNat_inj.1 (h _ (List.mem_map.2 ⟨j, hj, rfl⟩))
theorem turned_iff (l : List UInt8) (n x k : Nat) (hk : k ≤ 4) (h : n + k ≤ l.length) : moreC 0 (turnC l n x k) = moreC 0 l ↔ sameC x k = true := by
  have l0 := natB_len (turnC l n x k)
  rw [turnC_len] at l0
  have l1 := natB_len l
  have e := foldC_xor (flip 0) (flip 0) (natB (turnC l n x k)) (natB l) (by omega)
  rw [Nat.xor_self, turnC_xorL l n x k h] at e
  have f1 := foldC_lt (flip 0) (natB (turnC l n x k)) (flip_lt 0) (natB_lt _)
  have f2 := foldC_lt (flip 0) (natB l) (flip_lt 0) (natB_lt _)
  rw [sameC_iff]
  unfold moreC
  constructor
  · intro hh
    have h2 : foldC (flip 0) (natB (turnC l n x k)) = foldC (flip 0) (natB l) := by
      rw [← flip_flip _ f1, hh, flip_flip _ f2]
    rw [h2, Nat.xor_self] at e
    refine turned n _ (dsC x k) ?_ (by simp [dsC]; omega) e.symm
    intro b hb
    unfold dsC at hb
    rw [List.mem_map] at hb
    obtain ⟨j, _, rfl⟩ := hb
    exact UInt8.toNat_lt _
  · intro hz
    have h3 : dsC x k = List.replicate k 0 := by
      apply List.eq_replicate_iff.2
      exact ⟨by simp [dsC], hz⟩
    rw [h3, List.replicate_append_replicate, List.replicate_append_replicate, foldC_zeros0] at e
    rw [xor_eq_zero e]
theorem xor8c (a b : UInt8) : bits .xor .u8 (a.toNat : Int) (b.toNat : Int) = ((a ^^^ b).toNat : Int) := by
  rw [u8_xor_nat _ _ a.toNat_lt b.toNat_lt, UInt8.toNat_xor]
theorem byteOf_int (x j : Nat) (y : Int) (hy : y = (x : Int) / (2 ^ (8 * j) : Nat)) : y % 256 = ((byteOf x j).toNat : Int) := by
  subst hy
  unfold byteOf
  rw [ofNat_toNat _ (by omega)]
  omega
end Go.Proofs.Ytaiclombimdkmaa
