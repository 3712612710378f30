/- What is proved here: contracts of the program's Begins and of its inner function that tells the rune of a whole form: memory is left alone. -/
import Derived.Test.YtjbjfhbldodjfaaUtfFits
namespace Go.Proofs.Ytjbjfhbldodjfaa
open Go.RowKit
set_option linter.unusedVariables false

theorem okT0 (a c : UInt8) : okT a 0 c = secB a c := rfl
theorem okT1 (a c : UInt8) (k : Nat) : okT a (k + 1) c = contB c := rfl
theorem fits1_iff (a : UInt8) : fitsL [a] = true ↔ 0 < fsN a.toNat := by
  show (decide (0 < fsN a.toNat) && tailsL a 0 []) = true ↔ _
  simp [tailsL]
theorem fits2_iff (a b : UInt8) : fitsL [a, b] = true ↔ 1 < fsN a.toNat ∧ secB a b = true := by
  show (decide (1 < fsN a.toNat) && tailsL a 0 [b]) = true ↔ _
  simp [tailsL, okT0]
theorem fits3_iff (a b c : UInt8) : fitsL [a, b, c] = true ↔ 2 < fsN a.toNat ∧ secB a b = true ∧ contB c = true := by
  show (decide (2 < fsN a.toNat) && tailsL a 0 [b, c]) = true ↔ _
  simp [tailsL, okT0, okT1]
theorem fits4_iff (a b c d : UInt8) : fitsL [a, b, c, d] = true ↔ 3 < fsN a.toNat ∧ secB a b = true ∧ contB c = true ∧ contB d = true := by
  show (decide (3 < fsN a.toNat) && tailsL a 0 [b, c, d]) = true ↔ _
  simp [tailsL, okT0, okT1]
theorem fits5 (a b c d e : UInt8) (t : List UInt8) : fitsL (a :: b :: c :: d :: e :: t) = false := fits_long a _ (by have := fs_le a.toNat; simp; omega)
theorem fs_cases (x : Nat) : (x < 128 ∧ fsN x = 1) ∨ (128 ≤ x ∧ x < 194 ∧ fsN x = 0) ∨ (194 ≤ x ∧ x < 224 ∧ fsN x = 2) ∨ (224 ≤ x ∧ x < 240 ∧ fsN x = 3) ∨ (240 ≤ x ∧ x < 245 ∧ fsN x = 4) ∨ (245 ≤ x ∧ fsN x = 0) := by
  unfold fsN
  (repeat' split) <;> omega
/-- Begins by fits. -/
theorem beg_fits (a : UInt8) (t : List UInt8) : beginsL (a :: t) = (fitsL (a :: t) && decide (t.length + 1 < fsN a.toNat)) := by
  have hx := fs_cases a.toNat
  match t with
  | [] =>
    rw [Bool.eq_iff_iff, beg1_iff, Bool.and_eq_true, fits1_iff, decide_eq_true_eq]
    simp only [List.length_nil]
    omega
  | [b] =>
    rw [Bool.eq_iff_iff, beg2_iff, Bool.and_eq_true, fits2_iff, secB_iff, decide_eq_true_eq]
    simp only [List.length_cons, List.length_nil]
    omega
  | [b, c] =>
    rw [Bool.eq_iff_iff, beg3_iff, Bool.and_eq_true, fits3_iff, secB_iff, decide_eq_true_eq]
    simp only [List.length_cons, List.length_nil]
    constructor
    · rintro ⟨h1, h2, h3, h4, h5⟩
      exact ⟨⟨by omega, ⟨h3, h4⟩, h5⟩, by omega⟩
    · rintro ⟨⟨h1, ⟨h3, h4⟩, h5⟩, h6⟩
      exact ⟨by omega, by omega, h3, h4, h5⟩
  | b :: c :: d :: t =>
    have := fs_le a.toNat
    rw [decide_eq_false (by simp; omega), Bool.and_false]
    rfl
theorem secB_low (a b : UInt8) (h : a.toNat < 224) : secB a b = contB b := by
  rw [Bool.eq_iff_iff, secB_iff, contB_iff, lo_other _ (by omega) (by omega), hi_other _ (by omega) (by omega)]
  omega
/-- Bytes that fit and don't begin are a form. -/
theorem fits_whole (q : List UInt8) (hf : fitsL q = true) (hb : beginsL q = false) : ∃ r, wholeL q = some r := by
  match q, hf, hb with
  | [a], hf, hb =>
    rw [beg_fits, hf, Bool.true_and] at hb
    rw [fits1_iff] at hf
    have hx := fs_cases a.toNat
    have := of_decide_eq_false hb
    simp at this
    refine ⟨a.toNat, ?_⟩
    simp only [wholeL]
    rw [if_pos (by omega)]
  | [a, b], hf, hb =>
    rw [beg_fits, hf, Bool.true_and] at hb
    rw [fits2_iff] at hf
    have hx := fs_cases a.toNat
    have := of_decide_eq_false hb
    simp at this
    have h1 : 194 ≤ a.toNat ∧ a.toNat < 224 := by omega
    exact ⟨_, whole2_yes a b h1.1 h1.2 (by rw [← secB_low a b h1.2]; exact hf.2)⟩
  | [a, b, c], hf, hb =>
    rw [beg_fits, hf, Bool.true_and] at hb
    rw [fits3_iff] at hf
    have hx := fs_cases a.toNat
    have := of_decide_eq_false hb
    simp at this
    have h1 : 224 ≤ a.toNat ∧ a.toNat < 240 := by omega
    exact ⟨_, whole3_yes a b c h1.1 h1.2 hf.2.1 hf.2.2⟩
  | [a, b, c, d], hf, hb =>
    rw [fits4_iff] at hf
    have hx := fs_cases a.toNat
    have h1 : 240 ≤ a.toNat ∧ a.toNat ≤ 244 := by omega
    exact ⟨_, whole4_yes a b c d h1.1 h1.2 hf.2.1 hf.2.2.1 hf.2.2.2⟩
  | a :: b :: c :: d :: e :: t, hf, hb => rw [fits5] at hf; cases hf
/-- A form fits, and doesn't begin. -/
theorem whole_fits (q : List UInt8) (r : Nat) (h : wholeL q = some r) : fitsL q = true ∧ beginsL q = false := by
  match q, h with
  | [a], h =>
    simp only [wholeL] at h
    split at h
    · rename_i h1
      have hx := fs_cases a.toNat
      refine ⟨(fits1_iff a).2 (by omega), ?_⟩
      rw [← Bool.not_eq_true, beg1_iff]
      omega
    · cases h
  | [a, b], h =>
    simp only [wholeL] at h
    split at h
    · rename_i h1
      simp only [Bool.and_eq_true, decide_eq_true_eq] at h1
      have hx := fs_cases a.toNat
      refine ⟨(fits2_iff a b).2 ⟨by omega, by rw [secB_low a b (by omega)]; exact h1.2⟩, ?_⟩
      rw [← Bool.not_eq_true, beg2_iff]
      omega
    · cases h
  | [a, b, c], h =>
    simp only [wholeL] at h
    split at h
    · rename_i h1
      simp only [Bool.and_eq_true, decide_eq_true_eq] at h1
      have hx := fs_cases a.toNat
      refine ⟨(fits3_iff a b c).2 ⟨by omega, h1.1.2, h1.2⟩, ?_⟩
      rw [← Bool.not_eq_true, beg3_iff]
      omega
    · cases h
  | [a, b, c, d], h =>
    simp only [wholeL] at h
    split at h
    · rename_i h1
      simp only [Bool.and_eq_true, decide_eq_true_eq] at h1
      have hx := fs_cases a.toNat
      exact ⟨(fits4_iff a b c d).2 ⟨by omega, h1.1.1.2, h1.1.2, h1.2⟩, rfl⟩
    · cases h

set_option maxHeartbeats 400000 in
/-- Begins. -/
theorem begins_any (v : Value) (l : List UInt8) (B : Nat) (w : World) (hv : BS w B v l) : Calls Try.prog 14 #[v] w (BegPost l w) := by
  have hfit := fits_any v l B w hv
  cases hf : fitsL l
  · have HB : Hid (false = beginsL l) := by
      match l, hf with
      | [], _ => rfl
      | a :: t, hf => rw [beg_fits, hf, Bool.false_and]; rfl
    obtain ⟨A, c, rfl, _⟩ := hv
    unfold FitPost at hfit
    rw [hf] at hfit
    clear hf
    go_enter Try.func14, Try.ntmps14
    go_wp2_with (go_at_call 22; refine hfit.mono ?_; rintro e w' ⟨rfl, rfl⟩)
    go_ret
    exact begPost_of HB.out
  · match l, hv, hfit, hf with
    | a :: t, hv, hfit, hf =>
      have hb := beg_fits a t
      rw [hf, Bool.true_and] at hb
      obtain ⟨ad, cp, rfl, h1, h2, ca, _⟩ := hv.lits
      unfold maxLen at h2
      unfold FitPost at hfit
      rw [hf] at hfit
      obtain ⟨x, hx⟩ : ∃ x, a.toNat = x := ⟨_, rfl⟩
      have hx1 : x < 256 := by rw [← hx]; exact a.toNat_lt
      rw [hx] at ca hb
      clear hf hx hv
      have hn : (a :: t).length = t.length + 1 := rfl
      rw [← hn] at hb
      have hn1 : 0 < (a :: t).length := by simp
      clear hn
      have hfs := fs_le x
      have hsz := fsize_any x w hx1
      have HB := Lib.hid hb
      generalize (a :: t).length = n at *
      generalize fsN x = N at *
      clear hb
      go_enter Try.func14, Try.ntmps14
      go_wp2_with (first
        | (go_at_call 22; refine hfit.mono ?_; rintro e w' ⟨rfl, rfl⟩)
        | (go_at_call 23; refine hsz.mono ?_; rintro e w' ⟨rfl, rfl⟩))
      go_ret
      exact begPost_of HB.out.symm

theorem and31 (x : Int) (h0 : 0 ≤ x) (h1 : x < 2147483648) : bits .and .i32 x 31 = x % 32 := bits_mask .i32 31 (by decide) wraps_i32 5 (by decide) x h0 h1
theorem and15 (x : Int) (h0 : 0 ≤ x) (h1 : x < 2147483648) : bits .and .i32 x 15 = x % 16 := bits_mask .i32 31 (by decide) wraps_i32 4 (by decide) x h0 h1
theorem and7 (x : Int) (h0 : 0 ≤ x) (h1 : x < 2147483648) : bits .and .i32 x 7 = x % 8 := bits_mask .i32 31 (by decide) wraps_i32 3 (by decide) x h0 h1
def RunePost (r : Nat) (w : World) (e : Ending) (w' : World) : Prop := e = .returned (.int .i32 (r : Int)) ∧ w = w'
def Ru2 (m R : Nat) (r i : Value) : Prop := (i = .int .i64 0 ∧ r = .int .i32 (m : Int)) ∨ (i = .int .i64 1 ∧ r = .int .i32 (R : Int))
def Ru3 (m R2 R : Nat) (r i : Value) : Prop := (i = .int .i64 0 ∧ r = .int .i32 (m : Int)) ∨ (i = .int .i64 1 ∧ r = .int .i32 (R2 : Int)) ∨ (i = .int .i64 2 ∧ r = .int .i32 (R : Int))
def Ru4 (m R2 R3 R : Nat) (r i : Value) : Prop := (i = .int .i64 0 ∧ r = .int .i32 (m : Int)) ∨ (i = .int .i64 1 ∧ r = .int .i32 (R2 : Int)) ∨ (i = .int .i64 2 ∧ r = .int .i32 (R3 : Int)) ∨ (i = .int .i64 3 ∧ r = .int .i32 (R : Int))

set_option maxHeartbeats 400000 in
theorem rune1 (ad : Addr) (cp x : Nat) (w : World) (ca : w.cell? ad = some (.int .u8 (x : Int))) (hcp : cp ≤ 9223372036854775807) (h1 : 1 ≤ cp) (hx : x < 128) : Calls Try.prog 27 #[.slice (some ad) 1 cp] w (RunePost x w) := by
  by_cases hc1 : cp = 1
  · subst hc1
    go_enter Try.func27, Try.ntmps27
    go_wp2
    go_loop [3, 21] (fun r i => r = .int .i32 (x : Int) ∧ i = .int .i64 0) (fun _ i => 1 - (intOf i).toNat)
    case atStart => exact ⟨rfl, rfl⟩
    case round =>
      obtain ⟨rfl, rfl⟩ := hrel
      go_wp2
      go_ret
      exact ⟨rfl, rfl⟩
  · go_enter Try.func27, Try.ntmps27
    go_wp2
    go_loop [3, 21] (fun r i => r = .int .i32 (x : Int) ∧ i = .int .i64 0) (fun _ i => 1 - (intOf i).toNat)
    case atStart => exact ⟨rfl, rfl⟩
    case round =>
      obtain ⟨rfl, rfl⟩ := hrel
      go_wp2
      go_ret
      exact ⟨rfl, rfl⟩

set_option maxHeartbeats 1000000 in
set_option maxRecDepth 100000 in
theorem rune2 (ad : Addr) (cp : Nat) (a b : UInt8) (w : World) (ca : w.cell? ad = some (.int .u8 (a.toNat : Int))) (cb : w.cell? ⟨ad.block, ad.off + 1, none⟩ = some (.int .u8 (b.toNat : Int))) (hcp : cp ≤ 9223372036854775807) (h2 : 2 ≤ cp) (h0 : 194 ≤ a.toNat) (h1 : a.toNat < 224) (hc : contB b = true) :
    Calls Try.prog 27 #[.slice (some ad) 2 cp] w (RunePost ((a.toNat - 192) * 64 + (b.toNat - 128)) w) := by
  have e1 : bits .and .i32 (a.toNat : Int) 31 = ((a.toNat - 192 : Nat) : Int) := by rw [and31 _ (by omega) (by omega)]; omega
  have e2 := m63 b hc
  rw [contB_iff] at hc
  obtain ⟨m, hm⟩ : ∃ m, a.toNat - 192 = m := ⟨_, rfl⟩
  obtain ⟨v, hv⟩ : ∃ v, b.toNat - 128 = v := ⟨_, rfl⟩
  obtain ⟨R, hR⟩ : ∃ R, m * 64 + v = R := ⟨_, rfl⟩
  have hm2 : m < 32 := by omega
  have hv1 : v < 64 := by omega
  have e4 := or6n m v R (by omega) hv1 hR
  rw [hm, hv, hR]
  rw [hm] at e1
  rw [hv] at e2
  have r2 : R < 2048 := by omega
  clear hm hv hR
  have hcx : ¬ cp = 1 := by omega
  go_enter Try.func27, Try.ntmps27
  go_wp2
  go_loop [3, 21] (fun r i => Ru2 m R r i) (fun _ i => 1 - (intOf i).toNat)
  case atStart => exact .inl ⟨rfl, rfl⟩
  case round =>
    rcases hrel with ⟨rfl, rfl⟩ | ⟨rfl, rfl⟩
    · go_wp2
      go_round
      case rel => exact .inr ⟨rfl, rfl⟩
      case measure => simp [intOf]
    · go_wp2
      go_ret
      exact ⟨rfl, rfl⟩
set_option maxHeartbeats 1000000 in
set_option maxRecDepth 100000 in
theorem rune3 (ad : Addr) (cp : Nat) (a b c : UInt8) (w : World) (ca : w.cell? ad = some (.int .u8 (a.toNat : Int))) (cb : w.cell? ⟨ad.block, ad.off + 1, none⟩ = some (.int .u8 (b.toNat : Int))) (cc : w.cell? ⟨ad.block, ad.off + 1 + 1, none⟩ = some (.int .u8 (c.toNat : Int))) (hcp : cp ≤ 9223372036854775807) (h2 : 3 ≤ cp) (h0 : 224 ≤ a.toNat) (h1 : a.toNat < 240) (hb : contB b = true) (hc : contB c = true) :
    Calls Try.prog 27 #[.slice (some ad) 3 cp] w (RunePost ((a.toNat - 224) * 4096 + (b.toNat - 128) * 64 + (c.toNat - 128)) w) := by
  have e1 : bits .and .i32 (a.toNat : Int) 15 = ((a.toNat - 224 : Nat) : Int) := by rw [and15 _ (by omega) (by omega)]; omega
  have e2 := m63 b hb
  have e3 := m63 c hc
  rw [contB_iff] at hb hc
  obtain ⟨m, hm⟩ : ∃ m, a.toNat - 224 = m := ⟨_, rfl⟩
  obtain ⟨v, hv⟩ : ∃ v, b.toNat - 128 = v := ⟨_, rfl⟩
  obtain ⟨u, hu⟩ : ∃ u, c.toNat - 128 = u := ⟨_, rfl⟩
  obtain ⟨R2, hR2⟩ : ∃ R, m * 64 + v = R := ⟨_, rfl⟩
  obtain ⟨R, hR⟩ : ∃ R, R2 * 64 + u = R := ⟨_, rfl⟩
  have hm2 : m < 16 := by omega
  have hv1 : v < 64 := by omega
  have hu1 : u < 64 := by omega
  have e4 := or6n m v R2 (by omega) hv1 hR2
  have e7 := or6n R2 u R (by omega) hu1 hR
  rw [hm, hv, hu, show m * 4096 + v * 64 + u = R by omega]
  rw [hm] at e1
  rw [hv] at e2
  rw [hu] at e3
  have r2 : R < 65536 := by omega
  have r3 : R2 < 1024 := by omega
  clear hm hv hu hR hR2
  have hcx : ¬ cp = 1 := by omega
  go_enter Try.func27, Try.ntmps27
  go_wp2
  go_loop [3, 21] (fun r i => Ru3 m R2 R r i) (fun _ i => 2 - (intOf i).toNat)
  case atStart => exact .inl ⟨rfl, rfl⟩
  case round =>
    rcases hrel with ⟨rfl, rfl⟩ | ⟨rfl, rfl⟩ | ⟨rfl, rfl⟩
    · go_wp2
      go_round
      case rel => exact .inr (.inl ⟨rfl, rfl⟩)
      case measure => simp [intOf]
    · go_wp2
      go_round
      case rel => exact .inr (.inr ⟨rfl, rfl⟩)
      case measure => simp [intOf]
    · go_wp2
      go_ret
      exact ⟨rfl, rfl⟩
set_option maxHeartbeats 1000000 in
set_option maxRecDepth 100000 in
theorem rune4 (ad : Addr) (cp : Nat) (a b c d : UInt8) (w : World) (ca : w.cell? ad = some (.int .u8 (a.toNat : Int))) (cb : w.cell? ⟨ad.block, ad.off + 1, none⟩ = some (.int .u8 (b.toNat : Int))) (cc : w.cell? ⟨ad.block, ad.off + 1 + 1, none⟩ = some (.int .u8 (c.toNat : Int))) (cd : w.cell? ⟨ad.block, ad.off + 1 + 2, none⟩ = some (.int .u8 (d.toNat : Int))) (hcp : cp ≤ 9223372036854775807) (h2 : 4 ≤ cp) (h0 : 240 ≤ a.toNat) (h1 : a.toNat ≤ 244) (hb : contB b = true) (hc : contB c = true) (hd : contB d = true) :
    Calls Try.prog 27 #[.slice (some ad) 4 cp] w (RunePost ((a.toNat - 240) * 262144 + (b.toNat - 128) * 4096 + (c.toNat - 128) * 64 + (d.toNat - 128)) w) := by
  have e1 : bits .and .i32 (a.toNat : Int) 7 = ((a.toNat - 240 : Nat) : Int) := by rw [and7 _ (by omega) (by omega)]; omega
  have e2 := m63 b hb
  have e3 := m63 c hc
  have e5 := m63 d hd
  rw [contB_iff] at hb hc hd
  obtain ⟨m, hm⟩ : ∃ m, a.toNat - 240 = m := ⟨_, rfl⟩
  obtain ⟨v, hv⟩ : ∃ v, b.toNat - 128 = v := ⟨_, rfl⟩
  obtain ⟨u, hu⟩ : ∃ u, c.toNat - 128 = u := ⟨_, rfl⟩
  obtain ⟨q, hq⟩ : ∃ q, d.toNat - 128 = q := ⟨_, rfl⟩
  obtain ⟨R2, hR2⟩ : ∃ R, m * 64 + v = R := ⟨_, rfl⟩
  obtain ⟨R3, hR3⟩ : ∃ R, R2 * 64 + u = R := ⟨_, rfl⟩
  obtain ⟨R, hR⟩ : ∃ R, R3 * 64 + q = R := ⟨_, rfl⟩
  have hm2 : m < 8 := by omega
  have hv1 : v < 64 := by omega
  have hu1 : u < 64 := by omega
  have hq1 : q < 64 := by omega
  have e4 := or6n m v R2 (by omega) hv1 hR2
  have e7 := or6n R2 u R3 (by omega) hu1 hR3
  have e8 := or6n R3 q R (by omega) hq1 hR
  rw [hm, hv, hu, hq, show m * 262144 + v * 4096 + u * 64 + q = R by omega]
  rw [hm] at e1
  rw [hv] at e2
  rw [hu] at e3
  rw [hq] at e5
  have r2 : R < 2097152 := by omega
  have r3 : R2 < 512 := by omega
  have r4 : R3 < 32768 := by omega
  clear hm hv hu hq hR hR2 hR3
  have hcx : ¬ cp = 1 := by omega
  go_enter Try.func27, Try.ntmps27
  go_wp2
  go_loop [3, 21] (fun r i => Ru4 m R2 R3 R r i) (fun _ i => 3 - (intOf i).toNat)
  case atStart => exact .inl ⟨rfl, rfl⟩
  case round =>
    rcases hrel with ⟨rfl, rfl⟩ | ⟨rfl, rfl⟩ | ⟨rfl, rfl⟩ | ⟨rfl, rfl⟩
    · go_wp2
      go_round
      case rel => exact .inr (.inl ⟨rfl, rfl⟩)
      case measure => simp [intOf]
    · go_wp2
      go_round
      case rel => exact .inr (.inr (.inl ⟨rfl, rfl⟩))
      case measure => simp [intOf]
    · go_wp2
      go_round
      case rel => exact .inr (.inr (.inr ⟨rfl, rfl⟩))
      case measure => simp [intOf]
    · go_wp2
      go_ret
      exact ⟨rfl, rfl⟩
/-- The rune of a whole form. -/
theorem rune_any (v : Value) (q : List UInt8) (B : Nat) (w : World) (hv : BS w B v q) (r : Nat) (hw : wholeL q = some r) : Calls Try.prog 27 #[v] w (RunePost r w) := by
  match q, hv, hw with
  | [a], hv, hw =>
    obtain ⟨ad, cp, rfl, h1, h2, ca, hcs⟩ := hv.lits
    unfold maxLen at h2
    simp only [wholeL] at hw
    split at hw
    · injection hw with hw
      subst hw
      exact rune1 ad cp a.toNat w ca (by omega) (by simpa using h1) (by assumption)
    · cases hw
  | [a, b], hv, hw =>
    obtain ⟨ad, cp, rfl, h1, h2, ca, hcs⟩ := hv.lits
    unfold maxLen at h2
    simp only [wholeL] at hw
    split at hw
    · rename_i h
      simp only [Bool.and_eq_true, decide_eq_true_eq] at h
      injection hw with hw
      subst hw
      exact rune2 ad cp a b w ca (hcs 0 b rfl) (by omega) (by simpa using h1) h.1.1 h.1.2 h.2
    · cases hw
  | [a, b, c], hv, hw =>
    obtain ⟨ad, cp, rfl, h1, h2, ca, hcs⟩ := hv.lits
    unfold maxLen at h2
    simp only [wholeL] at hw
    split at hw
    · rename_i h
      simp only [Bool.and_eq_true, decide_eq_true_eq] at h
      injection hw with hw
      subst hw
      exact rune3 ad cp a b c w ca (hcs 0 b rfl) (hcs 1 c rfl) (by omega) (by simpa using h1) h.1.1.1 h.1.1.2 (secB_cont a b h.1.2) h.2
    · cases hw
  | [a, b, c, d], hv, hw =>
    obtain ⟨ad, cp, rfl, h1, h2, ca, hcs⟩ := hv.lits
    unfold maxLen at h2
    simp only [wholeL] at hw
    split at hw
    · rename_i h
      simp only [Bool.and_eq_true, decide_eq_true_eq] at h
      injection hw with hw
      subst hw
      exact rune4 ad cp a b c d w ca (hcs 0 b rfl) (hcs 1 c rfl) (hcs 2 d rfl) (by omega) (by simpa using h1) h.1.1.1.1 h.1.1.1.2 (secB_cont a b h.1.1.2) h.1.2 h.2
    · cases hw
end Go.Proofs.Ytjbjfhbldodjfaa
