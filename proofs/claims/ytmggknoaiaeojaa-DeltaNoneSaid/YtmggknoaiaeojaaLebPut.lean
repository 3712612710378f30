/- What is proved here: contracts of the two Put functions: each number below 2^64 comes to its bytes, in new memory. -/
import Derived.Test.YtmggknoaiaeojaaLebWords
namespace Go.Proofs.Ytmggknoaiaeojaa
open Go.RowKit

theorem or128_nat : ∀ a : Nat, a < 256 → a ||| 128 = a % 128 + 128 := by decide +kernel
theorem or128 (a : Int) (h0 : 0 ≤ a) (h1 : a < 256) : bits .or .u8 a 128 = a % 128 + 128 := by
  rw [u8_or a 128 h0 h1 (by omega) (by omega), show (128 : Int).toNat = 128 from rfl, or128_nat _ (by omega)]
  omega
theorem and127 (a : Int) (h0 : 0 ≤ a) (h1 : a < 18446744073709551616) : bits .and .u64 a 127 = a % 128 := by
  rw [u64_and a 127 h0 h1 (by omega) (by omega), show (127 : Int).toNat = 127 from rfl, nat_mask7]
  omega

theorem mul_pow_lt (m : Int) (k : Nat) (_h0 : 0 ≤ m) (h : m.toNat * 2 ^ (7 * k) < 2 ^ 64) : m < 18446744073709551616 := by
  have := Nat.le_mul_of_pos_right m.toNat (Nat.two_pow_pos (7 * k))
  omega

/-- What stands at the head of a round: l is written, m is left. -/
def PutRel (n : Int) (base : Nat) (w0 : World) (t v : Value) (w : World) : Prop :=
  ∃ (m : Int) (f : Nat) (l : List UInt8), 0 ≤ m ∧ t = .int .u64 m ∧ l.length + f = 9 ∧ m.toNat * 2 ^ (7 * l.length) < 2 ^ 64 ∧ l ++ lebF f m.toNat = lebP n.toNat ∧ OB w base v l ∧ Below base w0 w
def PutPost (n : Int) (w : World) (e : Ending) (w' : World) : Prop := ∃ v, e = .returned v ∧ OB w' w.heap.size v (lebP n.toNat) ∧ Below w.heap.size w w'

theorem put_step {n m : Int} {f base : Nat} {l : List UInt8} {w0 w1 : World} {v1 : Value} (_hm0 : 0 ≤ m) (hlt : ¬ m < 128) (hf : l.length + f = 9) (hm : m.toNat * 2 ^ (7 * l.length) < 2 ^ 64) (hl : l ++ lebF f m.toNat = lebP n.toNat)
    (hown : OB w1 base v1 (l ++ [UInt8.ofNat (m % 128 + 128).toNat])) (hb : Below base w0 w1) : PutRel n base w0 (.int .u64 (m / 128)) v1 w1 := by
  have hf1 : 1 ≤ f := by
    rcases Nat.eq_zero_or_pos f with h | h
    · have : l.length = 9 := by omega
      rw [this] at hm
      omega
    · exact h
  obtain ⟨f, rfl⟩ : ∃ g, f = g + 1 := ⟨f - 1, by omega⟩
  have e1 : (m / 128).toNat = m.toNat / 128 := by omega
  have e2 : (m % 128 + 128).toNat = m.toNat % 128 + 128 := by omega
  refine ⟨m / 128, f, _, by omega, rfl, by simp; omega, ?_, ?_, hown, hb⟩
  · rw [e1, List.length_append, List.length_singleton]
    have e3 : 2 ^ (7 * (l.length + 1)) = 128 * 2 ^ (7 * l.length) := by rw [Nat.mul_add, Nat.pow_add, Nat.mul_comm]
    rw [e3, ← Nat.mul_assoc]
    have : m.toNat / 128 * 128 * 2 ^ (7 * l.length) ≤ m.toNat * 2 ^ (7 * l.length) := Nat.mul_le_mul_right _ (by omega)
    omega
  · rw [e1, e2, List.append_assoc, ← hl, lebF_big _ _ (by omega)]
    rfl
theorem put_last {n m : Int} {f base : Nat} {l : List UInt8} {w1 : World} {v1 : Value} (hlt : m < 128) (hl : l ++ lebF f m.toNat = lebP n.toNat)
    (hown : OB w1 base v1 (l ++ [UInt8.ofNat m.toNat])) : OB w1 base v1 (lebP n.toNat) := by
  rw [← hl, lebF_small _ _ (by omega)]
  exact hown

set_option maxHeartbeats 400000 in
theorem put_any (n : Int) (hn0 : 0 ≤ n) (hn : n < 18446744073709551616) (w : World) : Calls Try.prog 25 #[.int .u64 n] w (PutPost n w) := by
  go_enter Try.func25, Try.ntmps25
  go_wp2
  go_loopw [0, 3] (fun t v wr => PutRel n w.heap.size w t v wr) (fun t _ _ => (intOf t).toNat)
  case atStart => exact ⟨n, 9, [], hn0, rfl, rfl, by simp; omega, rfl, OB.nil _ _, Below.refl _ _⟩
  case round =>
    obtain ⟨m, f, l, hm0, rfl, hf, hm, hl, hown, hbel⟩ := hrel
    have hmb := mul_pow_lt m _ hm0 hm
    have hll : l.length ≤ 9 := by omega
    have HF := Lib.hid hf
    have HM := Lib.hid hm
    have HL := Lib.hid hl
    clear hf hm hl hn hn0
    have hs := hbel.size
    by_cases hlt : m < 128
    · go_wp2_with (at_builtin; refine wpl_app _ rfl (.tmp 15) (.tmp 18) rfl w.heap.size _ _ _ l _ rfl rfl (hown.alloc _) (BS.one' wr m hm0 (by omega) _) (by simp; omega) (by simp; omega) ?_; intro v1 w1 hown1 hg1 hbel1 _)
      go_ret
      exact ⟨v1, rfl, put_last hlt HL.out hown1, (hbel.alloc hs _).trans hbel1⟩
    · have e1 := and127 m hm0 hmb
      have e2 := or128 (m % 128) (by omega) (by omega)
      rw [show m % 128 % 128 = m % 128 from by omega] at e2
      have b1 : 0 ≤ m % 128 := by omega
      have b2 : m % 128 < 128 := by omega
      go_wp2_with (at_builtin; refine wpl_app _ rfl (.tmp 6) (.tmp 11) rfl w.heap.size _ _ _ l _ rfl rfl (hown.alloc _) (BS.one' wr (m % 128 + 128) (by omega) (by omega) _) (by simp; omega) (by simp; omega) ?_; intro v1 w1 hown1 hg1 hbel1 _)
      go_roundw
      case rel => exact put_step hm0 hlt HF.out HM.out HL.out hown1 ((hbel.alloc hs _).trans hbel1)
      case measure => simp [intOf]; omega

set_option maxHeartbeats 400000 in
theorem putr_any (n : Int) (hn0 : 0 ≤ n) (hn : n < 18446744073709551616) (w : World) : Calls Try.prog 19 #[.int .u64 n] w (PutPost n w) := by
  go_enter Try.func19, Try.ntmps19
  go_wp2
  go_loopw [0, 3] (fun t v wr => PutRel n w.heap.size w t v wr) (fun t _ _ => (intOf t).toNat)
  case atStart => exact ⟨n, 9, [], hn0, rfl, rfl, by simp; omega, rfl, OB.nil _ _, Below.refl _ _⟩
  case round =>
    obtain ⟨m, f, l, hm0, rfl, hf, hm, hl, hown, hbel⟩ := hrel
    have hmb := mul_pow_lt m _ hm0 hm
    have hll : l.length ≤ 9 := by omega
    have HF := Lib.hid hf
    have HM := Lib.hid hm
    have HL := Lib.hid hl
    clear hf hm hl hn hn0
    have hs := hbel.size
    by_cases hlt : m < 128
    · go_wp2_with (at_builtin; refine wpl_app _ rfl (.tmp 14) (.tmp 17) rfl w.heap.size _ _ _ l _ rfl rfl (hown.alloc _) (BS.one' wr m hm0 (by omega) _) (by simp; omega) (by simp; omega) ?_; intro v1 w1 hown1 hg1 hbel1 _)
      go_ret
      exact ⟨v1, rfl, put_last hlt HL.out hown1, (hbel.alloc hs _).trans hbel1⟩
    · have e2 : bits .or .u8 (m % 256) 128 = m % 128 + 128 := by
        rw [or128 _ (by omega) (by omega)]
        omega
      have b1 : 0 ≤ m % 128 := by omega
      have b2 : m % 128 < 128 := by omega
      go_wp2_with (at_builtin; refine wpl_app _ rfl (.tmp 6) (.tmp 10) rfl w.heap.size _ _ _ l _ rfl rfl (hown.alloc _) (BS.one' wr (m % 128 + 128) (by omega) (by omega) _) (by simp; omega) (by simp; omega) ?_; intro v1 w1 hown1 hg1 hbel1 _)
      go_roundw
      case rel => exact put_step hm0 hlt HF.out HM.out HL.out hown1 ((hbel.alloc hs _).trans hbel1)
      case measure => simp [intOf]; omega
end Go.Proofs.Ytmggknoaiaeojaa
