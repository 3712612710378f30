/- What is proved here: the law CrcLinear, called with any three slices of bytes, returns true and leaves alone whatever memory was there. -/
import Derived.Test.YtaiclombimdkmaaCrcKnown
import Derived.Test.YtaiclombimdkmaaBytesOwn
import Derived.Deep.RegionHeld3
import Derived.Deep.OwnRows
import Derived.Deep.DeepCutAuto
namespace Go.Proofs.Ytaiclombimdkmaa
open Go.RowKit
set_option linter.unusedVariables false

/-- The third text, as far as it is made: n bytes. -/
def x3 (a b c : List UInt8) (n k : Nat) : List UInt8 := (List.range n).map fun j => if j < k then a.getD j 0 ^^^ b.getD j 0 ^^^ c.getD j 0 else 0
theorem x3_len (a b c : List UInt8) (n k : Nat) : (x3 a b c n k).length = n := by simp [x3]
theorem x3_zero (a b c : List UInt8) (n : Nat) : x3 a b c n 0 = List.replicate n 0 := by
  apply List.ext_getElem?
  intro i
  by_cases h : i < n
  · simp [x3, h]
  · simp [x3, h]
theorem x3_get (a b c : List UInt8) (n k i : Nat) (h : i < n) : (x3 a b c n k)[i]? = some (if i < k then a.getD i 0 ^^^ b.getD i 0 ^^^ c.getD i 0 else 0) := by simp [x3, h]
theorem x3_set (a b c : List UInt8) (n k : Nat) (h : k < n) : (x3 a b c n k).set k (a.getD k 0 ^^^ b.getD k 0 ^^^ c.getD k 0) = x3 a b c n (k + 1) := by
  apply List.ext_getElem?
  intro i
  by_cases hi : i < n
  · rw [x3_get _ _ _ _ _ _ hi]
    by_cases e : k = i
    · subst e
      rw [List.getElem?_set_self (by rw [x3_len]; exact h), if_pos (by omega)]
    · rw [List.getElem?_set_ne e, x3_get _ _ _ _ _ _ hi]
      by_cases hk : i < k
      · rw [if_pos hk, if_pos (by omega)]
      · rw [if_neg hk, if_neg (by omega)]
  · rw [List.getElem?_eq_none (by rw [List.length_set, x3_len]; omega), List.getElem?_eq_none (by rw [x3_len]; omega)]
theorem xorL_get (l m : List Nat) (i : Nat) (hl : i < l.length) (hm : i < m.length) : (xorL l m)[i]? = some (l[i] ^^^ m[i]) := by
  induction l generalizing m i with
  | nil => simp at hl
  | cons a l ih => cases m with
    | nil => simp at hm
    | cons b m => cases i with
      | zero => rfl
      | succ i =>
        simp only [xorL, List.getElem?_cons_succ, List.getElem_cons_succ]
        exact ih m i (by simpa using hl) (by simpa using hm)
theorem x3_xorL (a b c : List UInt8) (n : Nat) (ha : n ≤ a.length) (hb : n ≤ b.length) (hc : n ≤ c.length) : natB (x3 a b c n n) = xorL (xorL (natB (a.take n)) (natB (b.take n))) (natB (c.take n)) := by
  have l1 : (natB (a.take n)).length = n := by simp [natB]; omega
  have l2 : (natB (b.take n)).length = n := by simp [natB]; omega
  have l3 : (natB (c.take n)).length = n := by simp [natB]; omega
  have l4 := xorL_length (natB (a.take n)) (natB (b.take n)) (by omega)
  have l5 := xorL_length (xorL (natB (a.take n)) (natB (b.take n))) (natB (c.take n)) (by omega)
  apply List.ext_getElem?
  intro i
  by_cases hi : i < n
  · rw [xorL_get _ _ i (by omega) (by omega)]
    have h4 := xorL_get (natB (a.take n)) (natB (b.take n)) i (by omega) (by omega)
    rw [List.getElem?_eq_getElem (by omega)] at h4
    injection h4 with h4
    rw [h4]
    unfold natB
    rw [List.getElem?_map, x3_get _ _ _ _ _ _ hi, if_pos hi]
    simp [List.getD, List.getElem?_eq_getElem (show i < a.length by omega), List.getElem?_eq_getElem (show i < b.length by omega), List.getElem?_eq_getElem (show i < c.length by omega)]
  · rw [List.getElem?_eq_none (by simp [natB, x3_len]; omega), List.getElem?_eq_none (by omega)]
theorem flip3 (a b c : Nat) (ha : a < 4294967296) (hb : b < 4294967296) (hc : c < 4294967296) : flip a ^^^ flip b ^^^ flip c = flip (a ^^^ b ^^^ c) := by
  have h3 : a ^^^ b ^^^ c < 4294967296 := Nat.xor_lt_two_pow (n := 32) (Nat.xor_lt_two_pow (n := 32) ha hb) hc
  rw [← flip_xor a ha, ← flip_xor b hb, ← flip_xor c hc, ← flip_xor _ h3]
  generalize 4294967295 = M
  rw [xor_swap M a M b, Nat.xor_self, Nat.zero_xor, ← Nat.xor_assoc, Nat.xor_comm (a ^^^ b) M, Nat.xor_assoc]
theorem linear (a b c : List UInt8) (n : Nat) (ha : n ≤ a.length) (hb : n ≤ b.length) (hc : n ≤ c.length) : moreC 0 (a.take n) ^^^ moreC 0 (b.take n) ^^^ moreC 0 (c.take n) = moreC 0 (x3 a b c n n) := by
  have l1 : (natB (a.take n)).length = n := by simp [natB]; omega
  have l2 : (natB (b.take n)).length = n := by simp [natB]; omega
  have l3 : (natB (c.take n)).length = n := by simp [natB]; omega
  have l4 := xorL_length (natB (a.take n)) (natB (b.take n)) (by omega)
  unfold moreC
  rw [flip3 _ _ _ (foldC_lt _ _ (flip_lt 0) (natB_lt _)) (foldC_lt _ _ (flip_lt 0) (natB_lt _)) (foldC_lt _ _ (flip_lt 0) (natB_lt _)), foldC_xor _ _ _ _ (by omega), foldC_xor _ _ _ _ (by omega), Nat.xor_self, Nat.zero_xor, x3_xorL a b c n ha hb hc]
theorem xor8b (a b : UInt8) : bits .xor .u8 (a.toNat : Int) (b.toNat : Int) = ((a ^^^ b).toNat : Int) := by
  rw [u8_xor_nat _ _ a.toNat_lt b.toNat_lt, UInt8.toNat_xor]

/-- What stands at the head of a round. -/
def LinRel (a b c : List UInt8) (n : Nat) (w0 : World) (t : Value) (wr : World) : Prop :=
  ∃ k : Nat, k ≤ n ∧ t = .int .i64 (k : Int) ∧ OB wr w0.heap.size (.slice (some ⟨w0.heap.size, 0, none⟩) n n) (x3 a b c n k) ∧ Below w0.heap.size w0 wr

set_option maxHeartbeats 4000000 in
set_option maxRecDepth 100000 in
theorem crcLinear_walk (a0 : Option Addr) (len0 cap0 : Nat) (l0 : List UInt8) (a1 : Option Addr) (len1 cap1 : Nat) (l1 : List UInt8) (a2 : Option Addr) (len2 cap2 : Nat) (l2 : List UInt8) (w : World) (h0 : BS w w.heap.size (.slice a0 len0 cap0) l0) (h1 : BS w w.heap.size (.slice a1 len1 cap1) l1) (h2 : BS w w.heap.size (.slice a2 len2 cap2) l2) :
    Calls Try.prog 6 #[.slice a0 len0 cap0, .slice a1 len1 cap1, .slice a2 len2 cap2] w fun e w' => e = .returned (.bool true) ∧ Below w.heap.size w w' := by
  obtain rfl := h0.lenC
  obtain rfl := h1.lenC
  obtain rfl := h2.lenC
  obtain ⟨g00, g01⟩ := h0.capC
  obtain ⟨g10, g11⟩ := h1.capC
  obtain ⟨g20, g21⟩ := h2.capC
  unfold maxLen at g01 g11 g21
  go_enter Try.func6, Try.ntmps6
  go_wp2_with fail
  refine (knownC_any _).mono ?_
  rintro e w1 ⟨rfl, hb1⟩
  go_upto_region 4 with fail
  obtain ⟨n, hn, n0, n1, n2⟩ : ∃ n : Nat, (if (if l2.length < l1.length then (l2.length : Int) else (l1.length : Int)) < (l0.length : Int) then (if l2.length < l1.length then (l2.length : Int) else (l1.length : Int)) else (l0.length : Int)) = (n : Int) ∧ n ≤ l0.length ∧ n ≤ l1.length ∧ n ≤ l2.length := by
    refine ⟨min l0.length (min l1.length l2.length), ?_, by omega, by omega, by omega⟩
    by_cases h : l2.length < l1.length
    · simp only [h, if_true]
      by_cases h' : (l2.length : Int) < (l0.length : Int)
      · rw [if_pos h']; omega
      · rw [if_neg h']; omega
    · simp only [h, if_false]
      by_cases h' : (l1.length : Int) < (l0.length : Int)
      · rw [if_pos h']; omega
      · rw [if_neg h']; omega
  rw [hn]
  generalize (if l2.length < l1.length then (l2.length : Int) else (l1.length : Int)) = q
  clear hn
  by_cases hlong : 200 < n
  · have d1 : decide (200 < (n : Int)) = true := by simp; omega
    go_wp2
    go_ret
    exact ⟨rfl, hb1⟩
  have d1 : decide (200 < (n : Int)) = false := by simp; omega
  have hmk := run_makeB n (by omega)
  have H0 := h0.below hb1
  have H1 := h1.below hb1
  have H2 := h2.below hb1
  have hown := OB.made w1 n (by omega)
  have hbm : Below w1.heap.size w1 (w1.alloc (.cells (madeCells #[.int .u8 0] n) 5)) := (Below.refl _ _).alloc (Nat.le_refl _) _
  have hsz := hb1.size
  rw [← x3_zero l0 l1 l2 n] at hown
  go_wp2
  clear hmk
  generalize w1.alloc (.cells (madeCells #[.int .u8 0] n) 5) = W at *
  go_loopw [9] (fun t wr => LinRel l0 l1 l2 n w1 t wr) (fun t _ => n - (intOf t).toNat)
  case atStart => exact ⟨0, by omega, rfl, hown, hbm⟩
  case round =>
    clear hown hbm
    obtain ⟨k, hk, rfl, hown, hbel⟩ := hrel
    by_cases hlt : k < n
    · obtain ⟨ad0, rfl, c0⟩ := (H0.below (hbel.mono hsz)).cellC k (by omega)
      obtain ⟨ad1, rfl, c1⟩ := (H1.below (hbel.mono hsz)).cellC k (by omega)
      obtain ⟨ad2, rfl, c2⟩ := (H2.below (hbel.mono hsz)).cellC k (by omega)
      have hx := x3_len l0 l1 l2 n k
      have hsx := x3_set l0 l1 l2 n k hlt
      rw [show l0.getD k 0 = l0[k] from by simp [List.getD, List.getElem?_eq_getElem (show k < l0.length by omega)], show l1.getD k 0 = l1[k] from by simp [List.getD, List.getElem?_eq_getElem (show k < l1.length by omega)], show l2.getD k 0 = l2[k] from by simp [List.getD, List.getElem?_eq_getElem (show k < l2.length by omega)]] at hsx
      generalize l0[k] = y0 at *
      generalize l1[k] = y1 at *
      generalize l2[k] = y2 at *
      have hst : OB (wr.setCell ⟨w1.heap.size, k, none⟩ (vB (y0 ^^^ y1 ^^^ y2))) w1.heap.size (.slice (some ⟨w1.heap.size, 0, none⟩) n n) (x3 l0 l1 l2 n (k + 1)) := by
        have h := OB.stored (cap := n) (g := w1.heap.size) (l := x3 l0 l1 l2 n k) (by rw [hx]; exact hown) k (y0 ^^^ y1 ^^^ y2)
        rw [hsx, hx] at h
        exact h
      have cd : ∃ y, wr.cell? ⟨w1.heap.size, k, none⟩ = some (vB y) := ⟨_, OB.cellAt (cap := n) (l := x3 l0 l1 l2 n k) (by rw [hx]; exact hown) k (by omega)⟩
      have fd : wr.frozen? ⟨w1.heap.size, k, none⟩ = false := OB.frozenAt (cap := n) (l := x3 l0 l1 l2 n k) (by rw [hx]; exact hown) k
      obtain ⟨y, cd⟩ := cd
      have e1 := xor8b y0 y1
      have e2 := xor8b (y0 ^^^ y1) y2
      have q0 : k < l0.length := by omega
      have q1 : k < l1.length := by omega
      have q2 : k < l2.length := by omega
      unfold vB at c0 c1 c2 cd hst
      generalize (y0 ^^^ y1 ^^^ y2).toNat = z012 at *
      generalize (y0 ^^^ y1).toNat = z01 at *
      generalize y0.toNat = z0 at *
      generalize y1.toNat = z1 at *
      generalize y2.toNat = z2 at *
      have HST := Lib.hid hst
      clear hst hx hsx hown
      go_wp2_with fail
      go_region
      go_wp2
      go_roundw
      case rel => exact ⟨k + 1, by omega, by go_num, HST.out, (hbel.setCell (Nat.le_refl _) _).drew⟩
      case measure => simp [intOf]; omega
    · obtain rfl : n = k := by omega
      have hbs : BS wr.drew wr.drew.heap.size (.slice (some ⟨w1.heap.size, 0, none⟩) n n) (x3 l0 l1 l2 n n) := hown.bs
      have hbw : Below w.heap.size w wr := hb1.trans (hbel.mono hsz)
      have C0 : BS wr.drew wr.drew.heap.size (.slice a0 n cap0) (l0.take n) := ((h0.below hbw).more hbw.size).cutH n n n0 rfl
      have C1 : BS wr.drew wr.drew.heap.size (.slice a1 n cap1) (l1.take n) := ((h1.below hbw).more hbw.size).cutH n n n1 rfl
      have C2 : BS wr.drew wr.drew.heap.size (.slice a2 n cap2) (l2.take n) := ((h2.below hbw).more hbw.size).cutH n n n2 rfl
      have hlin := linear l0 l1 l2 n n0 n1 n2
      have m0 := moreC_lt 0 (l0.take n)
      have m1 := moreC_lt 0 (l1.take n)
      have m2 := moreC_lt 0 (l2.take n)
      obtain ⟨r0, e0⟩ : ∃ r, moreC 0 (l0.take n) = r := ⟨_, rfl⟩
      obtain ⟨r1, e1⟩ : ∃ r, moreC 0 (l1.take n) = r := ⟨_, rfl⟩
      obtain ⟨r2, e2⟩ : ∃ r, moreC 0 (l2.take n) = r := ⟨_, rfl⟩
      obtain ⟨r, e3⟩ : ∃ r, moreC 0 (x3 l0 l1 l2 n n) = r := ⟨_, rfl⟩
      rw [e0, e1, e2, e3] at hlin
      rw [e0] at m0
      rw [e1] at m1
      rw [e2] at m2
      have m01 : r0 ^^^ r1 < 4294967296 := Nat.xor_lt_two_pow (n := 32) m0 m1
      have b1 := u32_xor_nat r0 r1 m0 m1
      have b2 := u32_xor_nat (r0 ^^^ r1) r2 m01 m2
      rw [hlin] at b2
      generalize r0 ^^^ r1 = r01 at b1 b2
      have N0 : (l0.take n).length ≤ 1099511627776 := by simp; omega
      have N1 : (l1.take n).length ≤ 1099511627776 := by simp; omega
      have N2 : (l2.take n).length ≤ 1099511627776 := by simp; omega
      have N3 : (x3 l0 l1 l2 n n).length ≤ 1099511627776 := by rw [x3_len]; omega
      have E0 := Lib.hid e0
      have E1 := Lib.hid e1
      have E2 := Lib.hid e2
      have E3 := Lib.hid e3
      have q0 : (n : Int) ≤ (cap0 : Int) := by omega
      have q1 : (n : Int) ≤ (cap1 : Int) := by omega
      have q2 : (n : Int) ≤ (cap2 : Int) := by omega
      have q3 : (0 : Int) ≤ (n : Int) := by omega
      have hb0 : Below wr.drew.heap.size wr.drew wr.drew := Below.refl _ _
      have hbA : Below w.heap.size w wr.drew := hbw.drew
      have hsA := hbA.size
      clear e0 e1 e2 e3 hlin m0 m1 m2 m01 hown hbel hbw h0 h1 h2 H0 H1 H2 hb1 hsz d1
      go_wp2_with fail
      go_region_held3 (fun _ => True) (trivial)
        (first
         | (go_at_call 9; (with_reducible refine (sum_in (W := wr.drew) (by assumption) hbs N3 E3.out).mono ?_); rintro e w4 ⟨rfl, hb4⟩)
         | (go_at_call 9; (with_reducible refine (sum_in (W := wr.drew) (by assumption) C0 N0 E0.out).mono ?_); rintro e w4 ⟨rfl, hb4⟩)
         | (go_at_call 9; (with_reducible refine (sum_in (W := wr.drew) (by assumption) C1 N1 E1.out).mono ?_); rintro e w4 ⟨rfl, hb4⟩)
         | (go_at_call 9; (with_reducible refine (sum_in (W := wr.drew) (by assumption) C2 N2 E2.out).mono ?_); rintro e w4 ⟨rfl, hb4⟩))
      all_goals
        go_wp2
        go_ret
        exact ⟨rfl, hbA.trans (hb4.mono hsA)⟩
end Go.Proofs.Ytaiclombimdkmaa
