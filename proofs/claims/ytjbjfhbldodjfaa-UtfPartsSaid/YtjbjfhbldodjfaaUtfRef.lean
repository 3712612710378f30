/- What is proved here: contracts of the document's functions on UTF-8 (which runes may be, which bytes begin one, which are one): memory is left alone. -/
import Derived.Test.YtjbjfhbldodjfaaRuneWords
import Derived.Test.YtjbjfhbldodjfaaUtfPlain
import Derived.Test.YtjbjfhbldodjfaaBytesOwn
namespace Go.Proofs.Ytjbjfhbldodjfaa
open Go.RowKit
set_option linter.unusedVariables false

theorem ret_bool {a b : Bool} (h : a = b) : Ending.returned (.bool a) = .returned (.bool b) := by rw [h]
theorem mayR_true {r : Int} (h0 : 0 ≤ r) (h1 : r ≤ 1114111) (h2 : r < 55296 ∨ 57343 < r) : mayR r = true := by simp [mayR, h0, h1, h2]
theorem mayR_false {r : Int} (h : r < 0 ∨ 1114111 < r ∨ (55296 ≤ r ∧ r ≤ 57343)) : mayR r = false := by
  rw [Bool.eq_false_iff]
  intro hh
  simp [mayR] at hh
  omega
theorem mayr_any (r : Int) (h0 : -2147483648 ≤ r) (h1 : r ≤ 2147483647) (w : World) : Calls Try.prog 19 #[.int .i32 r] w fun e w' => e = .returned (.bool (mayR r)) ∧ w = w' := by
  by_cases a1 : 0 ≤ r
  · by_cases a2 : r ≤ 1114111
    · by_cases a3 : r < 55296
      · rw [mayR_true a1 a2 (.inl a3)]
        go_enter Try.func19, Try.ntmps19
        go_wp2
        go_ret
        exact ⟨rfl, rfl⟩
      · have d3 : decide (r < 55296) = false := by simp; omega
        by_cases a4 : 57343 < r
        · rw [mayR_true a1 a2 (.inr a4)]
          go_enter Try.func19, Try.ntmps19
          go_wp2
          go_ret
          exact ⟨rfl, rfl⟩
        · have d4 : decide (57343 < r) = false := by simp; omega
          rw [mayR_false (.inr (.inr ⟨by omega, by omega⟩))]
          go_enter Try.func19, Try.ntmps19
          go_wp2
          go_ret
          exact ⟨rfl, rfl⟩
    · have d2 : decide (r ≤ 1114111) = false := by simp; omega
      rw [mayR_false (.inr (.inl (by omega)))]
      go_enter Try.func19, Try.ntmps19
      go_wp2
      go_ret
      exact ⟨rfl, rfl⟩
  · have d1 : decide (0 ≤ r) = false := by simp; omega
    rw [mayR_false (.inl (by omega))]
    go_enter Try.func19, Try.ntmps19
    go_wp2
    go_ret
    exact ⟨rfl, rfl⟩

theorem and192 : ∀ a : Nat, a < 256 → a &&& 192 = a / 64 * 64 := by decide +kernel
theorem and192_int (b : UInt8) : bits .and .u8 (b.toNat : Int) 192 = ((b.toNat / 64 * 64 : Nat) : Int) := by
  have := u8_and_nat b.toNat 192 b.toNat_lt (by omega)
  rw [and192 _ b.toNat_lt] at this
  exact this
theorem contB_yes (b : UInt8) (h : contB b = true) : ((bits .and .u8 (b.toNat : Int) 192) != 128) = false := by
  rw [and192_int]
  simp [contB] at h
  have : b.toNat / 64 * 64 = 128 := by omega
  rw [this]
  rfl
theorem contB_no (b : UInt8) (h : contB b = false) : ((bits .and .u8 (b.toNat : Int) 192) != 128) = true := by
  rw [and192_int]
  have h2 : ¬ (b.toNat / 64 * 64 = 128) := by
    intro e
    rw [Bool.eq_false_iff] at h
    apply h
    simp [contB]
    omega
  simp
  omega
theorem BS.lits {w : World} {B : Nat} {v : Value} {a : UInt8} {l : List UInt8} (h : BS w B v (a :: l)) : ∃ ad c, v = .slice (some ad) (a :: l).length c ∧ (a :: l).length ≤ c ∧ c ≤ maxLen ∧ w.cell? ad = some (.int .u8 (a.toNat : Int)) ∧ ∀ j b, l[j]? = some b → w.cell? ⟨ad.block, ad.off + (j + 1), none⟩ = some (.int .u8 (b.toNat : Int)) := by
  obtain ⟨A, c, rfl, h1, h2, h3⟩ := h
  obtain ⟨ad, rfl, _, hc⟩ := h3 (by simp)
  refine ⟨ad, c, rfl, h1, h2, ?_, fun j b hj => ?_⟩
  · have := hc 0 a rfl
    rw [show ad.add 0 = ad from by simp [Addr.add]] at this
    exact this
  · have := hc (j + 1) b (by simpa using hj)
    rw [show ad.add (j + 1) = ⟨ad.block, ad.off + (j + 1), none⟩ from by simp [Addr.add]] at this
    exact this

theorem lo_other (x : Nat) (h1 : x ≠ 224) (h2 : x ≠ 240) : loB x = 128 := by unfold loB; rw [if_neg h1, if_neg h2]
theorem hi_other (x : Nat) (h1 : x ≠ 237) (h2 : x ≠ 244) : hiB x = 191 := by unfold hiB; rw [if_neg h1, if_neg h2]
theorem beg1_iff (a : UInt8) : beginsL [a] = true ↔ 194 ≤ a.toNat ∧ a.toNat ≤ 244 := by simp [beginsL]
theorem beg2_iff (a b : UInt8) : beginsL [a, b] = true ↔ 224 ≤ a.toNat ∧ a.toNat ≤ 244 ∧ loB a.toNat ≤ b.toNat ∧ b.toNat ≤ hiB a.toNat := by simp [beginsL, secB, and_assoc]
theorem beg3_iff (a b c : UInt8) : beginsL [a, b, c] = true ↔ 240 ≤ a.toNat ∧ a.toNat ≤ 244 ∧ loB a.toNat ≤ b.toNat ∧ b.toNat ≤ hiB a.toNat ∧ contB c = true := by simp [beginsL, secB, and_assoc]
theorem lo_ge (x : Nat) : 128 ≤ loB x := by
  unfold loB
  split
  · omega
  · split <;> omega
theorem contB_iff (b : UInt8) : contB b = true ↔ 128 ≤ b.toNat ∧ b.toNat < 192 := by simp [contB]

/-- The last test, at the bounds that the switch has set. -/
theorem fin2 {a b : UInt8} {x L H : Nat} (ha : a.toNat = x) (h0 : 224 ≤ x) (h1 : x ≤ 244) (hL : loB x = L) (hH : hiB x = H) (hb : L ≤ b.toNat) : decide ((b.toNat : Int) ≤ (H : Int)) = beginsL [a, b] := by
  rw [Bool.eq_iff_iff, beg2_iff, ha, hL, hH, decide_eq_true_eq]
  omega
theorem fin2n {a b : UInt8} {x L : Nat} (ha : a.toNat = x) (hL : loB x = L) (hb : b.toNat < L) : false = beginsL [a, b] := by
  rw [Bool.eq_iff_iff, beg2_iff, ha, hL]
  simp
  omega
theorem fin3 {a b c : UInt8} {x L H : Nat} (ha : a.toNat = x) (h0 : 240 ≤ x) (h1 : x ≤ 244) (hL : loB x = L) (hH : hiB x = H) (hc : contB c = true) (hb : L ≤ b.toNat) : decide ((b.toNat : Int) ≤ (H : Int)) = beginsL [a, b, c] := by
  rw [Bool.eq_iff_iff, beg3_iff, ha, hL, hH, decide_eq_true_eq]
  simp only [hc, and_true]
  omega
theorem fin3n {a b c : UInt8} {x L : Nat} (ha : a.toNat = x) (hL : loB x = L) (hb : b.toNat < L) : false = beginsL [a, b, c] := by
  rw [Bool.eq_iff_iff, beg3_iff, ha, hL]
  simp
  omega

theorem nocont2 {a b : UInt8} (h : contB b = false) : false = beginsL [a, b] := by
  cases hh : beginsL [a, b]
  · rfl
  · rw [beg2_iff] at hh
    have h1 := lo_ge a.toNat
    have h2 := hiB_le a.toNat
    rw [(contB_iff b).2 (by omega)] at h
    cases h
theorem nocont3 {a b c : UInt8} (h : contB b = false) : false = beginsL [a, b, c] := by
  cases hh : beginsL [a, b, c]
  · rfl
  · rw [beg3_iff] at hh
    have h1 := lo_ge a.toNat
    have h2 := hiB_le a.toNat
    rw [(contB_iff b).2 (by omega)] at h
    cases h
theorem nocont3c {a b c : UInt8} (h : contB c = false) : false = beginsL [a, b, c] := by
  cases hh : beginsL [a, b, c]
  · rfl
  · rw [beg3_iff, h] at hh
    simp at hh

def BegPost (l : List UInt8) (w : World) (e : Ending) (w' : World) : Prop := e = .returned (.bool (beginsL l)) ∧ w = w'
theorem begPost_of {l : List UInt8} {w : World} {b : Bool} (h : b = beginsL l) : BegPost l w (.returned (.bool b)) w := ⟨by rw [h], rfl⟩

/-- The rounds that have gone by. -/
def Beg2 (b : UInt8) (i : Value) : Prop := ∃ k : Nat, i = .int .i64 (k : Int) ∧ (k = 1 ∨ (k = 2 ∧ contB b = true))
def Beg3 (b c : UInt8) (i : Value) : Prop := ∃ k : Nat, i = .int .i64 (k : Int) ∧ (k = 1 ∨ (k = 2 ∧ contB b = true) ∨ (k = 3 ∧ contB b = true ∧ contB c = true))

set_option maxHeartbeats 1000000 in
set_option maxRecDepth 100000 in
theorem begr2_224 (ad : Addr) (cp : Nat) (a b : UInt8) (x : Nat) (w : World) (ca : w.cell? ad = some (.int .u8 (x : Int))) (cb : w.cell? ⟨ad.block, ad.off + 1, none⟩ = some (.int .u8 (b.toNat : Int))) (HX : Hid (a.toNat = x)) (hx : x = 224) :
    Calls Try.prog 15 #[.slice (some ad) 2 cp] w (BegPost [a, b] w) := by
  subst hx
  have HL : Hid (loB 224 = 160) := rfl
  have HH : Hid (hiB 224 = 191) := rfl
  have y1 := b.toNat_lt
  go_enter Try.func15, Try.ntmps15
  go_wp2
  go_loop [4] (fun i => Beg2 b i) (fun i => 2 - (intOf i).toNat)
  case atStart => exact ⟨1, rfl, .inl rfl⟩
  case round =>
    obtain ⟨k, rfl, hk⟩ := hrel
    rcases hk with rfl | ⟨rfl, hcb⟩
    · cases hcb : contB b
      · have e1 := contB_no b hcb
        have HC := Lib.hid hcb
        clear hcb
        go_wp2
        go_ret
        exact begPost_of (nocont2 HC.out)
      · have e1 := contB_yes b hcb
        have HC := Lib.hid hcb
        clear hcb
        go_wp2
        go_round
        case rel => exact ⟨2, rfl, .inr ⟨rfl, HC.out⟩⟩
        case measure => simp [intOf]
    · have HC := Lib.hid hcb
      clear hcb
      by_cases hb : 160 ≤ b.toNat
      · have hb' : (160 : Int) ≤ (b.toNat : Int) := by omega
        go_wp2
        go_ret
        exact begPost_of (fin2 HX.out (by omega) (by omega) HL.out HH.out hb)
      · have hb' : decide ((160 : Int) ≤ (b.toNat : Int)) = false := by simp; omega
        go_wp2
        go_ret
        exact begPost_of (fin2n HX.out HL.out (by omega))
set_option maxHeartbeats 1000000 in
set_option maxRecDepth 100000 in
theorem begr2_237 (ad : Addr) (cp : Nat) (a b : UInt8) (x : Nat) (w : World) (ca : w.cell? ad = some (.int .u8 (x : Int))) (cb : w.cell? ⟨ad.block, ad.off + 1, none⟩ = some (.int .u8 (b.toNat : Int))) (HX : Hid (a.toNat = x)) (hx : x = 237) :
    Calls Try.prog 15 #[.slice (some ad) 2 cp] w (BegPost [a, b] w) := by
  subst hx
  have HL : Hid (loB 237 = 128) := rfl
  have HH : Hid (hiB 237 = 159) := rfl
  have y1 := b.toNat_lt
  go_enter Try.func15, Try.ntmps15
  go_wp2
  go_loop [4] (fun i => Beg2 b i) (fun i => 2 - (intOf i).toNat)
  case atStart => exact ⟨1, rfl, .inl rfl⟩
  case round =>
    obtain ⟨k, rfl, hk⟩ := hrel
    rcases hk with rfl | ⟨rfl, hcb⟩
    · cases hcb : contB b
      · have e1 := contB_no b hcb
        have HC := Lib.hid hcb
        clear hcb
        go_wp2
        go_ret
        exact begPost_of (nocont2 HC.out)
      · have e1 := contB_yes b hcb
        have HC := Lib.hid hcb
        clear hcb
        go_wp2
        go_round
        case rel => exact ⟨2, rfl, .inr ⟨rfl, HC.out⟩⟩
        case measure => simp [intOf]
    · have HC := Lib.hid hcb
      clear hcb
      by_cases hb : 128 ≤ b.toNat
      · have hb' : (128 : Int) ≤ (b.toNat : Int) := by omega
        go_wp2
        go_ret
        exact begPost_of (fin2 HX.out (by omega) (by omega) HL.out HH.out hb)
      · have hb' : decide ((128 : Int) ≤ (b.toNat : Int)) = false := by simp; omega
        go_wp2
        go_ret
        exact begPost_of (fin2n HX.out HL.out (by omega))
set_option maxHeartbeats 1000000 in
set_option maxRecDepth 100000 in
theorem begr2_240 (ad : Addr) (cp : Nat) (a b : UInt8) (x : Nat) (w : World) (ca : w.cell? ad = some (.int .u8 (x : Int))) (cb : w.cell? ⟨ad.block, ad.off + 1, none⟩ = some (.int .u8 (b.toNat : Int))) (HX : Hid (a.toNat = x)) (hx : x = 240) :
    Calls Try.prog 15 #[.slice (some ad) 2 cp] w (BegPost [a, b] w) := by
  subst hx
  have HL : Hid (loB 240 = 144) := rfl
  have HH : Hid (hiB 240 = 191) := rfl
  have y1 := b.toNat_lt
  go_enter Try.func15, Try.ntmps15
  go_wp2
  go_loop [4] (fun i => Beg2 b i) (fun i => 2 - (intOf i).toNat)
  case atStart => exact ⟨1, rfl, .inl rfl⟩
  case round =>
    obtain ⟨k, rfl, hk⟩ := hrel
    rcases hk with rfl | ⟨rfl, hcb⟩
    · cases hcb : contB b
      · have e1 := contB_no b hcb
        have HC := Lib.hid hcb
        clear hcb
        go_wp2
        go_ret
        exact begPost_of (nocont2 HC.out)
      · have e1 := contB_yes b hcb
        have HC := Lib.hid hcb
        clear hcb
        go_wp2
        go_round
        case rel => exact ⟨2, rfl, .inr ⟨rfl, HC.out⟩⟩
        case measure => simp [intOf]
    · have HC := Lib.hid hcb
      clear hcb
      by_cases hb : 144 ≤ b.toNat
      · have hb' : (144 : Int) ≤ (b.toNat : Int) := by omega
        go_wp2
        go_ret
        exact begPost_of (fin2 HX.out (by omega) (by omega) HL.out HH.out hb)
      · have hb' : decide ((144 : Int) ≤ (b.toNat : Int)) = false := by simp; omega
        go_wp2
        go_ret
        exact begPost_of (fin2n HX.out HL.out (by omega))
set_option maxHeartbeats 1000000 in
set_option maxRecDepth 100000 in
theorem begr2_244 (ad : Addr) (cp : Nat) (a b : UInt8) (x : Nat) (w : World) (ca : w.cell? ad = some (.int .u8 (x : Int))) (cb : w.cell? ⟨ad.block, ad.off + 1, none⟩ = some (.int .u8 (b.toNat : Int))) (HX : Hid (a.toNat = x)) (hx : x = 244) :
    Calls Try.prog 15 #[.slice (some ad) 2 cp] w (BegPost [a, b] w) := by
  subst hx
  have HL : Hid (loB 244 = 128) := rfl
  have HH : Hid (hiB 244 = 143) := rfl
  have y1 := b.toNat_lt
  go_enter Try.func15, Try.ntmps15
  go_wp2
  go_loop [4] (fun i => Beg2 b i) (fun i => 2 - (intOf i).toNat)
  case atStart => exact ⟨1, rfl, .inl rfl⟩
  case round =>
    obtain ⟨k, rfl, hk⟩ := hrel
    rcases hk with rfl | ⟨rfl, hcb⟩
    · cases hcb : contB b
      · have e1 := contB_no b hcb
        have HC := Lib.hid hcb
        clear hcb
        go_wp2
        go_ret
        exact begPost_of (nocont2 HC.out)
      · have e1 := contB_yes b hcb
        have HC := Lib.hid hcb
        clear hcb
        go_wp2
        go_round
        case rel => exact ⟨2, rfl, .inr ⟨rfl, HC.out⟩⟩
        case measure => simp [intOf]
    · have HC := Lib.hid hcb
      clear hcb
      by_cases hb : 128 ≤ b.toNat
      · have hb' : (128 : Int) ≤ (b.toNat : Int) := by omega
        go_wp2
        go_ret
        exact begPost_of (fin2 HX.out (by omega) (by omega) HL.out HH.out hb)
      · have hb' : decide ((128 : Int) ≤ (b.toNat : Int)) = false := by simp; omega
        go_wp2
        go_ret
        exact begPost_of (fin2n HX.out HL.out (by omega))
set_option maxHeartbeats 1000000 in
set_option maxRecDepth 100000 in
theorem begr2_o3 (ad : Addr) (cp : Nat) (a b : UInt8) (x : Nat) (w : World) (ca : w.cell? ad = some (.int .u8 (x : Int))) (cb : w.cell? ⟨ad.block, ad.off + 1, none⟩ = some (.int .u8 (b.toNat : Int))) (HX : Hid (a.toNat = x)) (hx0 : 224 < x) (hx1 : x < 240) (hx2 : x ≠ 237) :
    Calls Try.prog 15 #[.slice (some ad) 2 cp] w (BegPost [a, b] w) := by
  have HL : Hid (loB x = 128) := lo_other x (by omega) (by omega)
  have HH : Hid (hiB x = 191) := hi_other x (by omega) (by omega)
  have d3 : decide ((x : Int) < 194) = false := by simp; omega
  have d4 : decide (244 < (x : Int)) = false := by simp; omega
  have r1 : 224 ≤ (x : Int) := by omega
  have r2 : decide (240 ≤ (x : Int)) = false := by simp; omega
  have e224 : ((x : Int) == 224) = false := beq_eq_false_iff_ne.2 (by omega)
  have e237 : ((x : Int) == 237) = false := beq_eq_false_iff_ne.2 (by omega)
  have e240 : ((x : Int) == 240) = false := beq_eq_false_iff_ne.2 (by omega)
  have e244 : ((x : Int) == 244) = false := beq_eq_false_iff_ne.2 (by omega)
  clear hx2
  have y1 := b.toNat_lt
  go_enter Try.func15, Try.ntmps15
  go_wp2
  go_loop [4] (fun i => Beg2 b i) (fun i => 2 - (intOf i).toNat)
  case atStart => exact ⟨1, rfl, .inl rfl⟩
  case round =>
    obtain ⟨k, rfl, hk⟩ := hrel
    rcases hk with rfl | ⟨rfl, hcb⟩
    · cases hcb : contB b
      · have e1 := contB_no b hcb
        have HC := Lib.hid hcb
        clear hcb
        go_wp2
        go_ret
        exact begPost_of (nocont2 HC.out)
      · have e1 := contB_yes b hcb
        have HC := Lib.hid hcb
        clear hcb
        go_wp2
        go_round
        case rel => exact ⟨2, rfl, .inr ⟨rfl, HC.out⟩⟩
        case measure => simp [intOf]
    · have HC := Lib.hid hcb
      clear hcb
      by_cases hb : 128 ≤ b.toNat
      · have hb' : (128 : Int) ≤ (b.toNat : Int) := by omega
        go_wp2
        go_ret
        exact begPost_of (fin2 HX.out (by omega) (by omega) HL.out HH.out hb)
      · have hb' : decide ((128 : Int) ≤ (b.toNat : Int)) = false := by simp; omega
        go_wp2
        go_ret
        exact begPost_of (fin2n HX.out HL.out (by omega))
set_option maxHeartbeats 1000000 in
set_option maxRecDepth 100000 in
theorem begr2_o4 (ad : Addr) (cp : Nat) (a b : UInt8) (x : Nat) (w : World) (ca : w.cell? ad = some (.int .u8 (x : Int))) (cb : w.cell? ⟨ad.block, ad.off + 1, none⟩ = some (.int .u8 (b.toNat : Int))) (HX : Hid (a.toNat = x)) (hx0 : 240 < x) (hx1 : x < 244) :
    Calls Try.prog 15 #[.slice (some ad) 2 cp] w (BegPost [a, b] w) := by
  have HL : Hid (loB x = 128) := lo_other x (by omega) (by omega)
  have HH : Hid (hiB x = 191) := hi_other x (by omega) (by omega)
  have d3 : decide ((x : Int) < 194) = false := by simp; omega
  have d4 : decide (244 < (x : Int)) = false := by simp; omega
  have r1 : 224 ≤ (x : Int) := by omega
  have r2 : 240 ≤ (x : Int) := by omega
  have e224 : ((x : Int) == 224) = false := beq_eq_false_iff_ne.2 (by omega)
  have e237 : ((x : Int) == 237) = false := beq_eq_false_iff_ne.2 (by omega)
  have e240 : ((x : Int) == 240) = false := beq_eq_false_iff_ne.2 (by omega)
  have e244 : ((x : Int) == 244) = false := beq_eq_false_iff_ne.2 (by omega)
  have y1 := b.toNat_lt
  go_enter Try.func15, Try.ntmps15
  go_wp2
  go_loop [4] (fun i => Beg2 b i) (fun i => 2 - (intOf i).toNat)
  case atStart => exact ⟨1, rfl, .inl rfl⟩
  case round =>
    obtain ⟨k, rfl, hk⟩ := hrel
    rcases hk with rfl | ⟨rfl, hcb⟩
    · cases hcb : contB b
      · have e1 := contB_no b hcb
        have HC := Lib.hid hcb
        clear hcb
        go_wp2
        go_ret
        exact begPost_of (nocont2 HC.out)
      · have e1 := contB_yes b hcb
        have HC := Lib.hid hcb
        clear hcb
        go_wp2
        go_round
        case rel => exact ⟨2, rfl, .inr ⟨rfl, HC.out⟩⟩
        case measure => simp [intOf]
    · have HC := Lib.hid hcb
      clear hcb
      by_cases hb : 128 ≤ b.toNat
      · have hb' : (128 : Int) ≤ (b.toNat : Int) := by omega
        go_wp2
        go_ret
        exact begPost_of (fin2 HX.out (by omega) (by omega) HL.out HH.out hb)
      · have hb' : decide ((128 : Int) ≤ (b.toNat : Int)) = false := by simp; omega
        go_wp2
        go_ret
        exact begPost_of (fin2n HX.out HL.out (by omega))
set_option maxHeartbeats 1000000 in
set_option maxRecDepth 100000 in
theorem begr3_240 (ad : Addr) (cp : Nat) (a b c : UInt8) (x : Nat) (w : World) (ca : w.cell? ad = some (.int .u8 (x : Int))) (cb : w.cell? ⟨ad.block, ad.off + 1, none⟩ = some (.int .u8 (b.toNat : Int))) (cc : w.cell? ⟨ad.block, ad.off + 2, none⟩ = some (.int .u8 (c.toNat : Int))) (HX : Hid (a.toNat = x)) (hx : x = 240) :
    Calls Try.prog 15 #[.slice (some ad) 3 cp] w (BegPost [a, b, c] w) := by
  subst hx
  have HL : Hid (loB 240 = 144) := rfl
  have HH : Hid (hiB 240 = 191) := rfl
  have y1 := b.toNat_lt
  go_enter Try.func15, Try.ntmps15
  go_wp2
  go_loop [4] (fun i => Beg3 b c i) (fun i => 3 - (intOf i).toNat)
  case atStart => exact ⟨1, rfl, .inl rfl⟩
  case round =>
    obtain ⟨k, rfl, hk⟩ := hrel
    rcases hk with rfl | ⟨rfl, hcb⟩ | ⟨rfl, hcb, hcc⟩
    · cases hcb : contB b
      · have e1 := contB_no b hcb
        have HC := Lib.hid hcb
        clear hcb
        go_wp2
        go_ret
        exact begPost_of (nocont3 HC.out)
      · have e1 := contB_yes b hcb
        have HC := Lib.hid hcb
        clear hcb
        go_wp2
        go_round
        case rel => exact ⟨2, rfl, .inr (.inl ⟨rfl, HC.out⟩)⟩
        case measure => simp [intOf]
    · have HC := Lib.hid hcb
      clear hcb
      cases hcc : contB c
      · have e1 := contB_no c hcc
        have HD := Lib.hid hcc
        clear hcc
        go_wp2
        go_ret
        exact begPost_of (nocont3c HD.out)
      · have e1 := contB_yes c hcc
        have HD := Lib.hid hcc
        clear hcc
        go_wp2
        go_round
        case rel => exact ⟨3, rfl, .inr (.inr ⟨rfl, HC.out, HD.out⟩)⟩
        case measure => simp [intOf]
    · have HC := Lib.hid hcb
      have HD := Lib.hid hcc
      clear hcb hcc
      by_cases hb : 144 ≤ b.toNat
      · have hb' : (144 : Int) ≤ (b.toNat : Int) := by omega
        go_wp2
        go_ret
        exact begPost_of (fin3 HX.out (by omega) (by omega) HL.out HH.out HD.out hb)
      · have hb' : decide ((144 : Int) ≤ (b.toNat : Int)) = false := by simp; omega
        go_wp2
        go_ret
        exact begPost_of (fin3n HX.out HL.out (by omega))
set_option maxHeartbeats 1000000 in
set_option maxRecDepth 100000 in
theorem begr3_244 (ad : Addr) (cp : Nat) (a b c : UInt8) (x : Nat) (w : World) (ca : w.cell? ad = some (.int .u8 (x : Int))) (cb : w.cell? ⟨ad.block, ad.off + 1, none⟩ = some (.int .u8 (b.toNat : Int))) (cc : w.cell? ⟨ad.block, ad.off + 2, none⟩ = some (.int .u8 (c.toNat : Int))) (HX : Hid (a.toNat = x)) (hx : x = 244) :
    Calls Try.prog 15 #[.slice (some ad) 3 cp] w (BegPost [a, b, c] w) := by
  subst hx
  have HL : Hid (loB 244 = 128) := rfl
  have HH : Hid (hiB 244 = 143) := rfl
  have y1 := b.toNat_lt
  go_enter Try.func15, Try.ntmps15
  go_wp2
  go_loop [4] (fun i => Beg3 b c i) (fun i => 3 - (intOf i).toNat)
  case atStart => exact ⟨1, rfl, .inl rfl⟩
  case round =>
    obtain ⟨k, rfl, hk⟩ := hrel
    rcases hk with rfl | ⟨rfl, hcb⟩ | ⟨rfl, hcb, hcc⟩
    · cases hcb : contB b
      · have e1 := contB_no b hcb
        have HC := Lib.hid hcb
        clear hcb
        go_wp2
        go_ret
        exact begPost_of (nocont3 HC.out)
      · have e1 := contB_yes b hcb
        have HC := Lib.hid hcb
        clear hcb
        go_wp2
        go_round
        case rel => exact ⟨2, rfl, .inr (.inl ⟨rfl, HC.out⟩)⟩
        case measure => simp [intOf]
    · have HC := Lib.hid hcb
      clear hcb
      cases hcc : contB c
      · have e1 := contB_no c hcc
        have HD := Lib.hid hcc
        clear hcc
        go_wp2
        go_ret
        exact begPost_of (nocont3c HD.out)
      · have e1 := contB_yes c hcc
        have HD := Lib.hid hcc
        clear hcc
        go_wp2
        go_round
        case rel => exact ⟨3, rfl, .inr (.inr ⟨rfl, HC.out, HD.out⟩)⟩
        case measure => simp [intOf]
    · have HC := Lib.hid hcb
      have HD := Lib.hid hcc
      clear hcb hcc
      by_cases hb : 128 ≤ b.toNat
      · have hb' : (128 : Int) ≤ (b.toNat : Int) := by omega
        go_wp2
        go_ret
        exact begPost_of (fin3 HX.out (by omega) (by omega) HL.out HH.out HD.out hb)
      · have hb' : decide ((128 : Int) ≤ (b.toNat : Int)) = false := by simp; omega
        go_wp2
        go_ret
        exact begPost_of (fin3n HX.out HL.out (by omega))
set_option maxHeartbeats 1000000 in
set_option maxRecDepth 100000 in
theorem begr3_o4 (ad : Addr) (cp : Nat) (a b c : UInt8) (x : Nat) (w : World) (ca : w.cell? ad = some (.int .u8 (x : Int))) (cb : w.cell? ⟨ad.block, ad.off + 1, none⟩ = some (.int .u8 (b.toNat : Int))) (cc : w.cell? ⟨ad.block, ad.off + 2, none⟩ = some (.int .u8 (c.toNat : Int))) (HX : Hid (a.toNat = x)) (hx0 : 240 < x) (hx1 : x < 244) :
    Calls Try.prog 15 #[.slice (some ad) 3 cp] w (BegPost [a, b, c] w) := by
  have HL : Hid (loB x = 128) := lo_other x (by omega) (by omega)
  have HH : Hid (hiB x = 191) := hi_other x (by omega) (by omega)
  have d3 : decide ((x : Int) < 194) = false := by simp; omega
  have d4 : decide (244 < (x : Int)) = false := by simp; omega
  have r1 : 224 ≤ (x : Int) := by omega
  have r2 : 240 ≤ (x : Int) := by omega
  have e224 : ((x : Int) == 224) = false := beq_eq_false_iff_ne.2 (by omega)
  have e237 : ((x : Int) == 237) = false := beq_eq_false_iff_ne.2 (by omega)
  have e240 : ((x : Int) == 240) = false := beq_eq_false_iff_ne.2 (by omega)
  have e244 : ((x : Int) == 244) = false := beq_eq_false_iff_ne.2 (by omega)
  have y1 := b.toNat_lt
  go_enter Try.func15, Try.ntmps15
  go_wp2
  go_loop [4] (fun i => Beg3 b c i) (fun i => 3 - (intOf i).toNat)
  case atStart => exact ⟨1, rfl, .inl rfl⟩
  case round =>
    obtain ⟨k, rfl, hk⟩ := hrel
    rcases hk with rfl | ⟨rfl, hcb⟩ | ⟨rfl, hcb, hcc⟩
    · cases hcb : contB b
      · have e1 := contB_no b hcb
        have HC := Lib.hid hcb
        clear hcb
        go_wp2
        go_ret
        exact begPost_of (nocont3 HC.out)
      · have e1 := contB_yes b hcb
        have HC := Lib.hid hcb
        clear hcb
        go_wp2
        go_round
        case rel => exact ⟨2, rfl, .inr (.inl ⟨rfl, HC.out⟩)⟩
        case measure => simp [intOf]
    · have HC := Lib.hid hcb
      clear hcb
      cases hcc : contB c
      · have e1 := contB_no c hcc
        have HD := Lib.hid hcc
        clear hcc
        go_wp2
        go_ret
        exact begPost_of (nocont3c HD.out)
      · have e1 := contB_yes c hcc
        have HD := Lib.hid hcc
        clear hcc
        go_wp2
        go_round
        case rel => exact ⟨3, rfl, .inr (.inr ⟨rfl, HC.out, HD.out⟩)⟩
        case measure => simp [intOf]
    · have HC := Lib.hid hcb
      have HD := Lib.hid hcc
      clear hcb hcc
      by_cases hb : 128 ≤ b.toNat
      · have hb' : (128 : Int) ≤ (b.toNat : Int) := by omega
        go_wp2
        go_ret
        exact begPost_of (fin3 HX.out (by omega) (by omega) HL.out HH.out HD.out hb)
      · have hb' : decide ((128 : Int) ≤ (b.toNat : Int)) = false := by simp; omega
        go_wp2
        go_ret
        exact begPost_of (fin3n HX.out HL.out (by omega))
set_option maxHeartbeats 1000000 in
set_option maxRecDepth 100000 in
theorem begr1_2 (ad : Addr) (cp : Nat) (a : UInt8) (x : Nat) (w : World) (ca : w.cell? ad = some (.int .u8 (x : Int))) (HX : Hid (a.toNat = x)) (hx0 : 194 ≤ x) (hx1 : x < 224) :
    Calls Try.prog 15 #[.slice (some ad) 1 cp] w (BegPost [a] w) := by
  have d3 : decide ((x : Int) < 194) = false := by simp; omega
  have d4 : decide (244 < (x : Int)) = false := by simp; omega
  have r1 : decide (224 ≤ (x : Int)) = false := by simp; omega
  have r2 : decide (240 ≤ (x : Int)) = false := by simp; omega
  go_enter Try.func15, Try.ntmps15
  go_wp2
  go_loop [4] (fun i => i = .int .i64 1) (fun i => 1 - (intOf i).toNat)
  case atStart => rfl
  case round =>
    obtain rfl := hrel
    go_wp2
    go_ret
    exact begPost_of (((beg1_iff a).2 (by rw [HX.out]; omega)).symm)
set_option maxHeartbeats 1000000 in
set_option maxRecDepth 100000 in
theorem begr1_3 (ad : Addr) (cp : Nat) (a : UInt8) (x : Nat) (w : World) (ca : w.cell? ad = some (.int .u8 (x : Int))) (HX : Hid (a.toNat = x)) (hx0 : 224 ≤ x) (hx1 : x < 240) :
    Calls Try.prog 15 #[.slice (some ad) 1 cp] w (BegPost [a] w) := by
  have d3 : decide ((x : Int) < 194) = false := by simp; omega
  have d4 : decide (244 < (x : Int)) = false := by simp; omega
  have r1 : 224 ≤ (x : Int) := by omega
  have r2 : decide (240 ≤ (x : Int)) = false := by simp; omega
  go_enter Try.func15, Try.ntmps15
  go_wp2
  go_loop [4] (fun i => i = .int .i64 1) (fun i => 1 - (intOf i).toNat)
  case atStart => rfl
  case round =>
    obtain rfl := hrel
    go_wp2
    go_ret
    exact begPost_of (((beg1_iff a).2 (by rw [HX.out]; omega)).symm)
set_option maxHeartbeats 1000000 in
set_option maxRecDepth 100000 in
theorem begr1_4 (ad : Addr) (cp : Nat) (a : UInt8) (x : Nat) (w : World) (ca : w.cell? ad = some (.int .u8 (x : Int))) (HX : Hid (a.toNat = x)) (hx0 : 240 ≤ x) (hx1 : x ≤ 244) :
    Calls Try.prog 15 #[.slice (some ad) 1 cp] w (BegPost [a] w) := by
  have d3 : decide ((x : Int) < 194) = false := by simp; omega
  have d4 : decide (244 < (x : Int)) = false := by simp; omega
  have r1 : 224 ≤ (x : Int) := by omega
  have r2 : 240 ≤ (x : Int) := by omega
  go_enter Try.func15, Try.ntmps15
  go_wp2
  go_loop [4] (fun i => i = .int .i64 1) (fun i => 1 - (intOf i).toNat)
  case atStart => rfl
  case round =>
    obtain rfl := hrel
    go_wp2
    go_ret
    exact begPost_of (((beg1_iff a).2 (by rw [HX.out]; omega)).symm)
set_option maxHeartbeats 1000000 in
set_option maxRecDepth 100000 in
theorem begr_low (ad : Addr) (cp n : Nat) (l : List UInt8) (x : Nat) (w : World) (ca : w.cell? ad = some (.int .u8 (x : Int))) (hf : beginsL l = false) (hn : 1 ≤ n) (hn3 : n ≤ 3) (hx : x < 194) :
    Calls Try.prog 15 #[.slice (some ad) n cp] w (BegPost l w) := by
  have HF := Lib.hid hf
  clear hf
  have l1 : decide ((n : Int) < 1) = false := by simp; omega
  have l2 : decide (3 < (n : Int)) = false := by simp; omega
  have l3 : 0 < n := by omega
  have d3 : (x : Int) < 194 := by omega
  go_enter Try.func15, Try.ntmps15
  go_wp2
  go_ret
  exact begPost_of HF.out.symm
set_option maxHeartbeats 1000000 in
set_option maxRecDepth 100000 in
theorem begr_high (ad : Addr) (cp n : Nat) (l : List UInt8) (x : Nat) (w : World) (ca : w.cell? ad = some (.int .u8 (x : Int))) (hf : beginsL l = false) (hn : 1 ≤ n) (hn3 : n ≤ 3) (hx : 244 < x) :
    Calls Try.prog 15 #[.slice (some ad) n cp] w (BegPost l w) := by
  have HF := Lib.hid hf
  clear hf
  have l1 : decide ((n : Int) < 1) = false := by simp; omega
  have l2 : decide (3 < (n : Int)) = false := by simp; omega
  have l3 : 0 < n := by omega
  have d3 : decide ((x : Int) < 194) = false := by simp; omega
  have d4 : 244 < (x : Int) := by omega
  go_enter Try.func15, Try.ntmps15
  go_wp2
  go_ret
  exact begPost_of HF.out.symm
set_option maxHeartbeats 1000000 in
set_option maxRecDepth 100000 in
theorem begr_2 (ad : Addr) (cp n : Nat) (l : List UInt8) (x : Nat) (w : World) (ca : w.cell? ad = some (.int .u8 (x : Int))) (hf : beginsL l = false) (hn : 1 ≤ n) (hn3 : n ≤ 3) (hx0 : 194 ≤ x) (hx1 : x < 224) (hn2 : 2 ≤ n) :
    Calls Try.prog 15 #[.slice (some ad) n cp] w (BegPost l w) := by
  have HF := Lib.hid hf
  clear hf
  have l1 : decide ((n : Int) < 1) = false := by simp; omega
  have l2 : decide (3 < (n : Int)) = false := by simp; omega
  have l3 : 0 < n := by omega
  have d3 : decide ((x : Int) < 194) = false := by simp; omega
  have d4 : decide (244 < (x : Int)) = false := by simp; omega
  have r1 : decide (224 ≤ (x : Int)) = false := by simp; omega
  have r2 : decide (240 ≤ (x : Int)) = false := by simp; omega
  have l4 : (2 : Int) ≤ (n : Int) := by omega
  go_enter Try.func15, Try.ntmps15
  go_wp2
  go_ret
  exact begPost_of HF.out.symm
set_option maxHeartbeats 1000000 in
set_option maxRecDepth 100000 in
theorem begr_3 (ad : Addr) (cp n : Nat) (l : List UInt8) (x : Nat) (w : World) (ca : w.cell? ad = some (.int .u8 (x : Int))) (hf : beginsL l = false) (hn : 1 ≤ n) (hn3 : n ≤ 3) (hx0 : 224 ≤ x) (hx1 : x < 240) (hn2 : 3 ≤ n) :
    Calls Try.prog 15 #[.slice (some ad) n cp] w (BegPost l w) := by
  have HF := Lib.hid hf
  clear hf
  have l1 : decide ((n : Int) < 1) = false := by simp; omega
  have l2 : decide (3 < (n : Int)) = false := by simp; omega
  have l3 : 0 < n := by omega
  have d3 : decide ((x : Int) < 194) = false := by simp; omega
  have d4 : decide (244 < (x : Int)) = false := by simp; omega
  have r1 : 224 ≤ (x : Int) := by omega
  have r2 : decide (240 ≤ (x : Int)) = false := by simp; omega
  have l4 : (3 : Int) ≤ (n : Int) := by omega
  go_enter Try.func15, Try.ntmps15
  go_wp2
  go_ret
  exact begPost_of HF.out.symm
theorem begr_nil (A : Option Addr) (cp : Nat) (w : World) : Calls Try.prog 15 #[.slice A 0 cp] w (BegPost [] w) := by
  go_enter Try.func15, Try.ntmps15
  go_wp2
  go_ret
  exact begPost_of rfl
theorem begr_long (A : Option Addr) (cp n : Nat) (l : List UInt8) (w : World) (hf : beginsL l = false) (hn : 4 ≤ n) : Calls Try.prog 15 #[.slice A n cp] w (BegPost l w) := by
  have HF := Lib.hid hf
  clear hf
  have l1 : decide ((n : Int) < 1) = false := by simp; omega
  have l2 : 3 < (n : Int) := by omega
  go_enter Try.func15, Try.ntmps15
  go_wp2
  go_ret
  exact begPost_of HF.out.symm

/-- The document's Begins. -/
theorem beginsr_any (v : Value) (l : List UInt8) (B : Nat) (w : World) (hv : BS w B v l) : Calls Try.prog 15 #[v] w fun e w' => e = .returned (.bool (beginsL l)) ∧ w = w' := by
  show Calls Try.prog 15 #[v] w (BegPost l w)
  match l, hv with
  | [], hv =>
    obtain ⟨A, c, rfl, _⟩ := hv
    exact begr_nil A c w
  | a :: l, hv =>
    obtain ⟨ad, cp, rfl, _, _, ca, hcs⟩ := hv.lits
    obtain ⟨x, hx⟩ : ∃ x, a.toNat = x := ⟨_, rfl⟩
    have hx1 : x < 256 := by rw [← hx]; exact a.toNat_lt
    rw [hx] at ca
    have HX : Hid (a.toNat = x) := hx
    match l, hcs with
    | [], hcs =>
      by_cases h0 : x < 194
      · exact begr_low ad cp 1 [a] x w ca (by rw [← Bool.not_eq_true, beg1_iff]; omega) (by omega) (by omega) h0
      by_cases h1 : x < 224
      · exact begr1_2 ad cp a x w ca HX (by omega) h1
      by_cases h2 : x < 240
      · exact begr1_3 ad cp a x w ca HX (by omega) h2
      by_cases h3 : x ≤ 244
      · exact begr1_4 ad cp a x w ca HX (by omega) h3
      · exact begr_high ad cp 1 [a] x w ca (by rw [← Bool.not_eq_true, beg1_iff]; omega) (by omega) (by omega) (by omega)
    | [b], hcs =>
      have cb := hcs 0 b rfl
      by_cases h0 : x < 194
      · exact begr_low ad cp 2 [a, b] x w ca (by rw [← Bool.not_eq_true, beg2_iff]; omega) (by omega) (by omega) h0
      by_cases h1 : x < 224
      · exact begr_2 ad cp 2 [a, b] x w ca (by rw [← Bool.not_eq_true, beg2_iff]; omega) (by omega) (by omega) (by omega) h1 (by omega)
      by_cases h2 : x = 224
      · exact begr2_224 ad cp a b x w ca cb HX h2
      by_cases h3 : x = 237
      · exact begr2_237 ad cp a b x w ca cb HX h3
      by_cases h4 : x = 240
      · exact begr2_240 ad cp a b x w ca cb HX h4
      by_cases h5 : x = 244
      · exact begr2_244 ad cp a b x w ca cb HX h5
      by_cases h6 : x < 240
      · exact begr2_o3 ad cp a b x w ca cb HX (by omega) h6 h3
      by_cases h7 : x < 244
      · exact begr2_o4 ad cp a b x w ca cb HX (by omega) h7
      · exact begr_high ad cp 2 [a, b] x w ca (by rw [← Bool.not_eq_true, beg2_iff]; omega) (by omega) (by omega) (by omega)
    | [b, c], hcs =>
      have cb := hcs 0 b rfl
      have cc := hcs 1 c rfl
      by_cases h0 : x < 194
      · exact begr_low ad cp 3 [a, b, c] x w ca (by rw [← Bool.not_eq_true, beg3_iff]; omega) (by omega) (by omega) h0
      by_cases h1 : x < 224
      · exact begr_2 ad cp 3 [a, b, c] x w ca (by rw [← Bool.not_eq_true, beg3_iff]; omega) (by omega) (by omega) (by omega) h1 (by omega)
      by_cases h6 : x < 240
      · exact begr_3 ad cp 3 [a, b, c] x w ca (by rw [← Bool.not_eq_true, beg3_iff]; omega) (by omega) (by omega) (by omega) h6 (by omega)
      by_cases h4 : x = 240
      · exact begr3_240 ad cp a b c x w ca cb cc HX h4
      by_cases h5 : x = 244
      · exact begr3_244 ad cp a b c x w ca cb cc HX h5
      by_cases h7 : x < 244
      · exact begr3_o4 ad cp a b c x w ca cb cc HX (by omega) h7
      · exact begr_high ad cp 3 [a, b, c] x w ca (by rw [← Bool.not_eq_true, beg3_iff]; omega) (by omega) (by omega) (by omega)
    | b :: c :: d :: m, hcs => exact begr_long (some ad) cp _ _ w (by simp [beginsL]) (by simp)
end Go.Proofs.Ytjbjfhbldodjfaa
