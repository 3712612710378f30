/- What is proved here: contracts of the two Read functions: which number any bytes begin with; memory is left alone. -/
import Derived.Test.YtklbfeemnekclaaM2
namespace Go.Proofs.Ytklbfeemnekclaa
open Go.RowKit
set_option linter.unusedVariables false

/-- The three results of a reading. -/
def tup (x k e : Nat) : Value := .tuple #[.int .u64 (x : Int), .int .i64 (k : Int), .int .i64 (e : Int)]
def ReadPost (l : List UInt8) (w : World) (e : Ending) (w' : World) : Prop := e = .returned (tup (readL l).1 (readL l).2.1 (readL l).2.2) ∧ w = w'

/-- What stands at the head of a round. -/
def ReadRel (l : List UInt8) (t i : Value) : Prop :=
  ∃ (acc : Int) (k : Nat), 0 ≤ acc ∧ k ≤ l.length ∧ k ≤ 9 ∧ t = .int .u64 acc ∧ i = .int .i64 (k : Int) ∧ acc.toNat < 2 ^ (7 * k) ∧ readG acc.toNat k (l.drop k) = readL l

theorem or_step (acc x : Int) (k : Nat) (ha0 : 0 ≤ acc) (ha : acc.toNat < 2 ^ (7 * k)) (hx0 : 0 ≤ x) (hx1 : x < 256) (hk : k ≤ 9) (h9 : k = 9 → x ≤ 1) :
    bits .or .u64 acc (IntKind.u64.wrap (IntKind.u64.wrap (bits .and .u8 x 127) * 2 ^ (7 * k))) = ((acc.toNat + x.toNat % 128 * 2 ^ (7 * k) : Nat) : Int) := by
  rw [u8_and x 127 hx0 hx1 (by omega) (by omega), show (127 : Int).toNat = 127 from rfl, nat_mask7]
  generalize hy : x.toNat % 128 = y
  have hy1 : y < 128 := by omega
  have hp : y * 2 ^ (7 * k) < 18446744073709551616 := by
    rcases Nat.lt_or_ge k 9 with h | h
    · have h1 : 2 ^ (7 * k) ≤ 2 ^ 56 := Nat.pow_le_pow_right (by decide) (by omega)
      have h2 : y * 2 ^ (7 * k) ≤ 127 * 2 ^ (7 * k) := Nat.mul_le_mul_right _ (by omega)
      omega
    · have : k = 9 := by omega
      subst this
      have := h9 rfl
      have h2 : y * 2 ^ (7 * 9) ≤ 1 * 2 ^ (7 * 9) := Nat.mul_le_mul_right _ (by omega)
      omega
  have ha1 : acc.toNat < 18446744073709551616 := by
    have h1 : 2 ^ (7 * k) ≤ 2 ^ 63 := Nat.pow_le_pow_right (by decide) (by omega)
    omega
  have e1 : IntKind.u64.wrap (y : Int) = (y : Int) := by rw [IntKind.wrap_u64]; omega
  have e2 : (y : Int) * 2 ^ (7 * k) = ((y * 2 ^ (7 * k) : Nat) : Int) := by simp
  have e3 : IntKind.u64.wrap ((y * 2 ^ (7 * k) : Nat) : Int) = ((y * 2 ^ (7 * k) : Nat) : Int) := by rw [IntKind.wrap_u64]; omega
  obtain ⟨a, rfl⟩ := Int.eq_ofNat_of_zero_le ha0
  rw [e1, e2, e3, u64_or_nat a _ (by simpa using ha1) hp, Nat.or_comm, nat_join (7 * k) _ a (Nat.mul_mod_left _ _) (by simpa using ha)]
  simp
  omega

section
variable {acc : Int} {k : Nat} {l : List UInt8} {x : Int} (hlt : k < l.length) (hx : ((l[k].toNat : Nat) : Int) = x) (hr : readG acc.toNat k (l.drop k) = readL l)
include hlt hx hr
theorem rd_tenth (h9 : k = 9 ∧ 1 < x) : readL l = (0, 0, 21) := by
  rw [← hr, List.drop_eq_getElem_cons hlt, readG, if_pos (by omega)]
theorem rd_more (h9 : ¬ (k = 9 ∧ 1 < x)) (h : 128 ≤ x) : readG (acc.toNat + x.toNat % 128 * 2 ^ (7 * k)) (k + 1) (l.drop (k + 1)) = readL l := by
  have e : x.toNat = l[k].toNat := by omega
  rw [← hr, List.drop_eq_getElem_cons hlt, readG, if_neg (by omega), if_pos (by omega), e]
theorem rd_zero (h9 : ¬ (k = 9 ∧ 1 < x)) (h : x = 0) (h0 : 0 < k) : readL l = (0, 0, 21) := by
  rw [← hr, List.drop_eq_getElem_cons hlt, readG, if_neg (by omega), if_neg (by omega), if_pos (by omega)]
theorem rd_last (h9 : ¬ (k = 9 ∧ 1 < x)) (h : ¬ 128 ≤ x) (h0 : ¬ (x = 0 ∧ 0 < k)) : readL l = (acc.toNat + x.toNat % 128 * 2 ^ (7 * k), k + 1, 0) := by
  have e : x.toNat = l[k].toNat := by omega
  rw [← hr, List.drop_eq_getElem_cons hlt, readG, if_neg (by omega), if_neg (by omega), if_neg (by omega), e]
end
theorem rd_end {acc : Int} {k : Nat} {l : List UInt8} (hge : ¬ k < l.length) (hr : readG acc.toNat k (l.drop k) = readL l) : readL l = (0, 0, 22) := by
  rw [← hr, List.drop_of_length_le (by omega), readG]
theorem acc_lt (acc x : Int) (k : Nat) (ha : acc.toNat < 2 ^ (7 * k)) : acc.toNat + x.toNat % 128 * 2 ^ (7 * k) < 2 ^ (7 * (k + 1)) := by
  have e1 : 2 ^ (7 * (k + 1)) = 128 * 2 ^ (7 * k) := by rw [Nat.mul_add, Nat.pow_add, Nat.mul_comm]
  have : x.toNat % 128 * 2 ^ (7 * k) ≤ 127 * 2 ^ (7 * k) := Nat.mul_le_mul_right _ (by omega)
  omega
theorem rel_step {acc x y : Int} {k : Nat} {l : List UInt8} (ha : acc.toNat < 2 ^ (7 * k)) (hk : k ≤ 8) (hkl : k < l.length) (hy : y = ((acc.toNat + x.toNat % 128 * 2 ^ (7 * k) : Nat) : Int))
    (hr : readG (acc.toNat + x.toNat % 128 * 2 ^ (7 * k)) (k + 1) (l.drop (k + 1)) = readL l) : ReadRel l (.int .u64 y) (.int .i64 ((k : Int) + 1)) :=
  ⟨y, k + 1, by omega, by omega, by omega, rfl, by simp, by rw [hy, Int.toNat_natCast]; exact acc_lt acc x k ha, by rw [hy, Int.toNat_natCast]; exact hr⟩
theorem post_of {l : List UInt8} {w : World} {v : Value} {a b c : Nat} (h : readL l = (a, b, c)) (hv : v = tup a b c) : ReadPost l w (.returned v) w := by
  refine ⟨?_, rfl⟩
  rw [h, hv]

set_option maxHeartbeats 400000 in
theorem read_any (v : Value) (l : List UInt8) (B : Nat) (w : World) (h : BS w B v l) (hl : l.length ≤ 1099511627776) : Calls Try.prog 42 #[v] w (ReadPost l w) := by
  obtain ⟨A, c, rfl, _, _, hcell⟩ := h.at_
  go_enter Try.func42, Try.ntmps42
  go_wp2
  go_loop [5, 10] (fun t i => ReadRel l t i) (fun _ i => l.length - (intOf i).toNat)
  case atStart => exact ⟨0, 0, by omega, Nat.zero_le _, by omega, rfl, rfl, by simp, rfl⟩
  case round =>
    obtain ⟨acc, k, ha0, hkl, hk9, rfl, rfl, ha, hr⟩ := hrel
    have HA := Lib.hid ha
    have HR := Lib.hid hr
    clear ha hr
    by_cases hlt : k < l.length
    · obtain ⟨ad, rfl, hc⟩ := hcell k hlt
      have hcl := (l[k]).toNat_lt
      unfold vB at hc
      generalize hx : ((l[k].toNat : Nat) : Int) = x at hc
      have hx0 : 0 ≤ x := by omega
      have hx1 : x < 256 := by omega
      have HX := Lib.hid hx
      clear hx hcl hcell
      by_cases h9 : k = 9 ∧ 1 < x
      · have H9 := Lib.hid h9
        have b1 : ((k : Int) == 9) = true := by simp; omega
        have b2 : 1 < x := h9.2
        clear h9
        go_wp2
        go_ret3
        exact post_of (rd_tenth hlt HX.out HR.out H9.out) rfl
      · have H9 := Lib.hid h9
        by_cases h128 : 128 ≤ x
        · have hk8 : k ≤ 8 := by omega
          have h9' : ((k : Int) == 9) = false := by simp; omega
          clear h9
          go_wp2
          go_round
          case rel => exact rel_step HA.out hk8 hlt (or_step acc x k ha0 HA.out hx0 hx1 hk9 (by omega)) (rd_more hlt HX.out HR.out H9.out h128)
          case measure => simp [intOf]; omega
        · have e9 : (k = 9 → x ≤ 1) := by omega
          have E9 := Lib.hid e9
          clear e9
          by_cases h0 : x = 0 ∧ 0 < k
          · have H0 := Lib.hid h0
            have b1 : (x == 0) = true := by simp; omega
            have b2 : 0 < k := h0.2
            have b3 : decide (1 < x) = false := by simp; omega
            clear h0 h9
            by_cases hk : k = 9
            · have b4 : ((k : Int) == 9) = true := by simp; omega
              clear hk
              go_wp2
              go_ret3
              exact post_of (rd_zero hlt HX.out HR.out H9.out H0.out.1 b2) rfl
            · have b4 : ((k : Int) == 9) = false := by simp; omega
              clear hk
              go_wp2
              go_ret3
              exact post_of (rd_zero hlt HX.out HR.out H9.out H0.out.1 b2) rfl
          · have H0 := Lib.hid h0
            have hfin := rd_last hlt HX.out HR.out h9 h128 h0
            have HFIN := Lib.hid hfin
            have hor := or_step acc x k ha0 HA.out hx0 hx1 hk9 E9.out
            have HOR := Lib.hid hor
            clear hor hfin
            have b3 : decide (1 < x) = false ∨ ¬ k = 9 := by
              by_cases hk : k = 9
              · left; have := E9.out hk; simp; omega
              · right; exact hk
            have b5 : (x == 0) = false ∨ k = 0 := by
              by_cases hk : x = 0
              · right; omega
              · left; simp; omega
            clear h0 h9
            have b6 : decide (128 ≤ x) = false := by simp; omega
            by_cases hk : k = 9
            · have b1 : ((k : Int) == 9) = true := by simp; omega
              have b4 : decide (1 < x) = false := by rcases b3 with h | h; exact h; exact absurd hk h
              have b7 : (x == 0) = false := by rcases b5 with h | h; exact h; omega
              clear hk b3 b5
              go_wp2
              all_goals (go_ret3; exact post_of HFIN.out (by simp [tup, HOR.out]))
            · have b1 : ((k : Int) == 9) = false := by simp; omega
              clear hk b3
              by_cases hz : x = 0
              · have b8 : (x == 0) = true := by simp; omega
                have b9 : decide (0 < k) = false := by
                  rcases b5 with h | h
                  · rw [b8] at h; cases h
                  · simp; omega
                clear hz b5
                go_wp2
                all_goals (go_ret3; exact post_of HFIN.out (by simp [tup, HOR.out]))
              · have b7 : (x == 0) = false := by simp; omega
                clear hz b5
                go_wp2
                all_goals (go_ret3; exact post_of HFIN.out (by simp [tup, HOR.out]))
    · go_wp2
      go_ret3
      exact post_of (rd_end hlt HR.out) rfl

set_option maxHeartbeats 400000 in
theorem readr_any (v : Value) (l : List UInt8) (B : Nat) (w : World) (h : BS w B v l) (hl : l.length ≤ 1099511627776) : Calls Try.prog 26 #[v] w (ReadPost l w) := by
  obtain ⟨A, c, rfl, _, _, hcell⟩ := h.at_
  go_enter Try.func26, Try.ntmps26
  go_wp2
  go_loop [5, 6] (fun t i => ReadRel l t i) (fun _ i => l.length - (intOf i).toNat)
  case atStart => exact ⟨0, 0, by omega, Nat.zero_le _, by omega, rfl, rfl, by simp, rfl⟩
  case round =>
    obtain ⟨acc, k, ha0, hkl, hk9, rfl, rfl, ha, hr⟩ := hrel
    have HA := Lib.hid ha
    have HR := Lib.hid hr
    clear ha hr
    by_cases hlt : k < l.length
    · obtain ⟨ad, rfl, hc⟩ := hcell k hlt
      have hcl := (l[k]).toNat_lt
      unfold vB at hc
      generalize hx : ((l[k].toNat : Nat) : Int) = x at hc
      have hx0 : 0 ≤ x := by omega
      have hx1 : x < 256 := by omega
      have HX := Lib.hid hx
      clear hx hcl hcell
      by_cases h9 : k = 9 ∧ 1 < x
      · have H9 := Lib.hid h9
        have b1 : ((k : Int) == 9) = true := by simp; omega
        have b2 : 1 < x := h9.2
        clear h9
        go_wp2
        go_ret3
        exact post_of (rd_tenth hlt HX.out HR.out H9.out) rfl
      · have H9 := Lib.hid h9
        by_cases h128 : 128 ≤ x
        · have hk8 : k ≤ 8 := by omega
          have h9' : ((k : Int) == 9) = false := by simp; omega
          clear h9
          go_wp2
          go_round
          case rel => exact rel_step HA.out hk8 hlt (or_step acc x k ha0 HA.out hx0 hx1 hk9 (by omega)) (rd_more hlt HX.out HR.out H9.out h128)
          case measure => simp [intOf]; omega
        · have e9 : (k = 9 → x ≤ 1) := by omega
          have E9 := Lib.hid e9
          clear e9
          by_cases h0 : x = 0 ∧ 0 < k
          · have H0 := Lib.hid h0
            have b1 : (x == 0) = true := by simp; omega
            have b2 : 0 < k := h0.2
            have b3 : decide (1 < x) = false := by simp; omega
            clear h0 h9
            by_cases hk : k = 9
            · have b4 : ((k : Int) == 9) = true := by simp; omega
              clear hk
              go_wp2
              go_ret3
              exact post_of (rd_zero hlt HX.out HR.out H9.out H0.out.1 b2) rfl
            · have b4 : ((k : Int) == 9) = false := by simp; omega
              clear hk
              go_wp2
              go_ret3
              exact post_of (rd_zero hlt HX.out HR.out H9.out H0.out.1 b2) rfl
          · have H0 := Lib.hid h0
            have hfin := rd_last hlt HX.out HR.out h9 h128 h0
            have HFIN := Lib.hid hfin
            have hor := or_step acc x k ha0 HA.out hx0 hx1 hk9 E9.out
            have HOR := Lib.hid hor
            clear hor hfin
            have b3 : decide (1 < x) = false ∨ ¬ k = 9 := by
              by_cases hk : k = 9
              · left; have := E9.out hk; simp; omega
              · right; exact hk
            have b5 : (x == 0) = false ∨ k = 0 := by
              by_cases hk : x = 0
              · right; omega
              · left; simp; omega
            clear h0 h9
            have b6 : decide (128 ≤ x) = false := by simp; omega
            by_cases hk : k = 9
            · have b1 : ((k : Int) == 9) = true := by simp; omega
              have b4 : decide (1 < x) = false := by rcases b3 with h | h; exact h; exact absurd hk h
              have b7 : (x == 0) = false := by rcases b5 with h | h; exact h; omega
              clear hk b3 b5
              go_wp2
              all_goals (go_ret3; exact post_of HFIN.out (by simp [tup, HOR.out]))
            · have b1 : ((k : Int) == 9) = false := by simp; omega
              clear hk b3
              by_cases hz : x = 0
              · have b8 : (x == 0) = true := by simp; omega
                have b9 : decide (0 < k) = false := by
                  rcases b5 with h | h
                  · rw [b8] at h; cases h
                  · simp; omega
                clear hz b5
                go_wp2
                all_goals (go_ret3; exact post_of HFIN.out (by simp [tup, HOR.out]))
              · have b7 : (x == 0) = false := by simp; omega
                clear hz b5
                go_wp2
                all_goals (go_ret3; exact post_of HFIN.out (by simp [tup, HOR.out]))
    · go_wp2
      go_ret3
      exact post_of (rd_end hlt HR.out) rfl
end Go.Proofs.Ytklbfeemnekclaa
