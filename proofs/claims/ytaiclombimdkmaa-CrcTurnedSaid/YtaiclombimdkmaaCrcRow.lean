/- What is proved here: contracts of the two functions that make a row of the checksum's table: each comes to eight halvings; memory is left alone. -/
import Derived.Test.YtaiclombimdkmaaLebWords
import Derived.Test.YtaiclombimdkmaaCrcPlain
namespace Go.Proofs.Ytaiclombimdkmaa
open Go.RowKit

def halfs : Nat → Nat → Nat
  | 0, c => c
  | k + 1, c => half (halfs k c)
theorem halfs8 (c : Nat) : halfs 8 c = half8 c := rfl
theorem halfs_lt (k c : Nat) (h : c < 2 ^ 32) : halfs k c < 2 ^ 32 := by
  induction k with
  | zero => exact h
  | succ k ih => exact half_lt _ ih
theorem half_odd (d : Nat) (h : d % 2 = 1) : half d = d / 2 ^^^ poly := by unfold half; rw [if_pos h]
theorem half_ev (d : Nat) (h : d % 2 ≠ 1) : half d = d / 2 := by unfold half; rw [if_neg h]
theorem and1 (d : Nat) (h : d < 4294967296) : bits .and .u32 (d : Int) 1 = ((d % 2 : Nat) : Int) := by
  have := u32_and_nat d 1 h (by omega)
  rw [nat_mask1] at this
  exact this
theorem xorP (d : Nat) (h : d < 4294967296) : bits .xor .u32 ((d : Int) / 2) 3988292384 = ((d / 2 ^^^ poly : Nat) : Int) := by
  have := u32_xor_nat (d / 2) poly (by omega) (by decide)
  exact this
theorem u32_eq {a b : Nat} (h : a = b) : Value.int .u32 (a : Int) = .int .u32 (b : Int) := by rw [h]
theorem retI {k : IntKind} {a b : Int} (h : a = b) : Ending.returned (.int k a) = .returned (.int k b) := by rw [h]

set_option maxHeartbeats 400000 in
theorem row_any (c : Nat) (h : c < 4294967296) (w : World) : Calls Try.prog 16 #[.int .u32 c] w fun e w' => e = .returned (.int .u32 (half8 c : Nat)) ∧ w = w' := by
  go_enter Try.func16, Try.ntmps16
  go_wp2
  go_loop [0, 4] (fun t i => ∃ k : Nat, k ≤ 8 ∧ i = .int .i64 k ∧ t = .int .u32 (halfs k c : Nat)) (fun _ i => 8 - (intOf i).toNat)
  case atStart => exact ⟨0, by omega, rfl, rfl⟩
  case round =>
    obtain ⟨k, hk, rfl, rfl⟩ := hrel
    have hb := halfs_lt k c h
    obtain ⟨d, hd⟩ : ∃ d, halfs k c = d := ⟨_, rfl⟩
    rw [hd] at hb
    rw [hd]
    have HD := Lib.hid hd
    clear hd
    by_cases hlt : k < 8
    · by_cases ho : d % 2 = 1
      · have e1 : (bits .and .u32 (d : Int) 1 == 1) = true := by rw [and1 d hb, ho]; rfl
        have e2 := xorP d hb
        have HO := Lib.hid ho
        clear ho
        go_wp2
        go_round
        case rel => exact ⟨k + 1, by omega, by go_num, by show _ = Value.int .u32 ((half (halfs k c) : Nat) : Int); rw [HD.out, half_odd d HO.out]⟩
        case measure => simp [intOf]; omega
      · have e1 : (bits .and .u32 (d : Int) 1 == 1) = false := by rw [and1 d hb]; simp; omega
        have HO := Lib.hid ho
        clear ho
        go_wp2
        go_round
        case rel => exact ⟨k + 1, by omega, by go_num, by show _ = Value.int .u32 ((half (halfs k c) : Nat) : Int); rw [HD.out, half_ev d HO.out]; rfl⟩
        case measure => simp [intOf]; omega
    · obtain rfl : k = 8 := by omega
      go_wp2
      go_ret
      exact ⟨retI (by rw [← HD.out]; rfl), rfl⟩

set_option maxHeartbeats 400000 in
theorem rowr_any (c : Nat) (h : c < 256) (w : World) : Calls Try.prog 13 #[.int .i64 c] w fun e w' => e = .returned (.int .u32 (half8 c : Nat)) ∧ w = w' := by
  go_enter Try.func13, Try.ntmps13
  go_wp2
  go_loop [3, 4] (fun t i => ∃ k : Nat, k ≤ 8 ∧ i = .int .i64 k ∧ t = .int .u32 (halfs k c : Nat)) (fun _ i => 8 - (intOf i).toNat)
  case atStart => exact ⟨0, by omega, rfl, rfl⟩
  case round =>
    obtain ⟨k, hk, rfl, rfl⟩ := hrel
    have hb := halfs_lt k c (by omega)
    obtain ⟨d, hd⟩ : ∃ d, halfs k c = d := ⟨_, rfl⟩
    rw [hd] at hb
    rw [hd]
    have HD := Lib.hid hd
    clear hd
    by_cases hlt : k < 8
    · by_cases ho : d % 2 = 1
      · have e1 : (bits .and .u32 (d : Int) 1 == 1) = true := by rw [and1 d hb, ho]; rfl
        have e2 := xorP d hb
        have HO := Lib.hid ho
        clear ho
        go_wp2
        go_round
        case rel => exact ⟨k + 1, by omega, by go_num, by show _ = Value.int .u32 ((half (halfs k c) : Nat) : Int); rw [HD.out, half_odd d HO.out]⟩
        case measure => simp [intOf]; omega
      · have e1 : (bits .and .u32 (d : Int) 1 == 1) = false := by rw [and1 d hb]; simp; omega
        have HO := Lib.hid ho
        clear ho
        go_wp2
        go_round
        case rel => exact ⟨k + 1, by omega, by go_num, by show _ = Value.int .u32 ((half (halfs k c) : Nat) : Int); rw [HD.out, half_ev d HO.out]; rfl⟩
        case measure => simp [intOf]; omega
    · obtain rfl : k = 8 := by omega
      go_wp2
      go_ret
      exact ⟨retI (by rw [← HD.out]; rfl), rfl⟩
end Go.Proofs.Ytaiclombimdkmaa
