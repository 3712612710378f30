/- What is proved here: a contract of the document's function that tells the rune that bytes are just a form of, behind a beginning: memory is left alone. -/
import Derived.Test.YtjbjfhbldodjfaaUtfRef
import Derived.Laws.BitsLemmas
namespace Go.Proofs.Ytjbjfhbldodjfaa
open Go.RowKit
set_option linter.unusedVariables false

/-- What is answered: the rune and true, or some number and false. -/
def WholePost (q : List UInt8) (w : World) (e : Ending) (w' : World) : Prop :=
  w = w' ∧ ((∃ r, wholeL q = some r ∧ e = .returned (.tuple #[.int .i32 (r : Int), .bool true])) ∨ (wholeL q = none ∧ ∃ r : Int, e = .returned (.tuple #[.int .i32 r, .bool false])))

theorem whole2_yes (a b : UInt8) (h0 : 194 ≤ a.toNat) (h1 : a.toNat < 224) (hc : contB b = true) : wholeL [a, b] = some ((a.toNat - 192) * 64 + (b.toNat - 128)) := by
  simp only [wholeL]
  rw [if_pos (by simp [hc]; omega)]
theorem whole2_no (a b : UInt8) (h : 224 ≤ a.toNat ∨ contB b = false) : wholeL [a, b] = none := by
  simp only [wholeL]
  rw [if_neg]
  intro hh
  simp at hh
  rcases h with h | h
  · omega
  · rw [h] at hh; simp at hh
theorem m63 (b : UInt8) (h : contB b = true) : bits .and .u8 (b.toNat : Int) 63 = ((b.toNat - 128 : Nat) : Int) := by
  rw [contB_iff] at h
  rw [u8_and63 _ (by omega) (by omega)]
  omega
theorem whole3_yes (a b c : UInt8) (h0 : 224 ≤ a.toNat) (h1 : a.toNat < 240) (hs : secB a b = true) (hc : contB c = true) : wholeL [a, b, c] = some ((a.toNat - 224) * 4096 + (b.toNat - 128) * 64 + (c.toNat - 128)) := by
  simp only [wholeL]
  rw [if_pos (by simp [hs, hc]; omega)]
theorem whole3_no (a b c : UInt8) (h : 240 ≤ a.toNat ∨ contB c = false) : wholeL [a, b, c] = none := by
  simp only [wholeL]
  rw [if_neg]
  intro hh
  simp at hh
  rcases h with h | h
  · omega
  · rw [h] at hh; simp at hh
theorem whole4_yes (a b c d : UInt8) (h0 : 240 ≤ a.toNat) (h1 : a.toNat ≤ 244) (hs : secB a b = true) (hc : contB c = true) (hd : contB d = true) : wholeL [a, b, c, d] = some ((a.toNat - 240) * 262144 + (b.toNat - 128) * 4096 + (c.toNat - 128) * 64 + (d.toNat - 128)) := by
  simp only [wholeL]
  rw [if_pos (by simp [hs, hc, hd]; omega)]
theorem whole4_no (a b c d : UInt8) (h : contB d = false) : wholeL [a, b, c, d] = none := by
  simp only [wholeL]
  rw [if_neg]
  intro hh
  simp [h] at hh
theorem or6n (m v R : Nat) (h0 : m < 1000000) (h1 : v < 64) (hR : m * 64 + v = R) : bits .or .i32 ((m : Int) * 64) (v : Int) = (R : Int) := by
  rw [i32_or6 _ _ (by omega) (by omega) (by omega) (by omega) (by omega)]
  omega
theorem may_ok (r : Nat) (h : r < 1114112) (h2 : r < 55296 ∨ 57343 < r) : mayR (r : Int) = true := mayR_true (by omega) (by omega) (by omega)
theorem secB_cont (a b : UInt8) (h : secB a b = true) : contB b = true := by
  rw [secB_iff] at h
  have h1 := lo_ge a.toNat
  have h2 := hiB_le a.toNat
  rw [contB_iff]
  omega
theorem sec3_ok (a b c : UInt8) (R : Nat) (h0 : 224 ≤ a.toNat) (h1 : a.toNat < 240) (hs : secB a b = true) (hc : contB c = true) (hR : (a.toNat - 224) * 4096 + (b.toNat - 128) * 64 + (c.toNat - 128) = R) : 2048 ≤ R ∧ R < 1114112 ∧ (R < 55296 ∨ 57343 < R) := by
  rw [secB_iff] at hs
  rw [contB_iff] at hc
  have l1 := lo_ge a.toNat
  have l2 := hiB_le a.toNat
  by_cases e1 : a.toNat = 224
  · have : loB a.toNat = 160 := by rw [e1]; rfl
    omega
  by_cases e2 : a.toNat = 237
  · have : hiB a.toNat = 159 := by rw [e2]; rfl
    omega
  omega
theorem sec4_ok (a b c d : UInt8) (R : Nat) (h0 : 240 ≤ a.toNat) (h1 : a.toNat ≤ 244) (hs : secB a b = true) (hc : contB c = true) (hd : contB d = true) (hR : (a.toNat - 240) * 262144 + (b.toNat - 128) * 4096 + (c.toNat - 128) * 64 + (d.toNat - 128) = R) : 65536 ≤ R ∧ R < 1114112 := by
  rw [secB_iff] at hs
  rw [contB_iff] at hc hd
  have l1 := lo_ge a.toNat
  have l2 := hiB_le a.toNat
  by_cases e1 : a.toNat = 240
  · have : loB a.toNat = 144 := by rw [e1]; rfl
    omega
  by_cases e2 : a.toNat = 244
  · have : hiB a.toNat = 143 := by rw [e2]; rfl
    omega
  omega

def Wh2 (m R : Nat) (r i : Value) : Prop := ∃ k : Nat, i = .int .i64 (k : Int) ∧ ((k = 1 ∧ r = .int .i32 (m : Int)) ∨ (k = 2 ∧ r = .int .i32 (R : Int)))
def Wh3 (m R2 R : Nat) (r i : Value) : Prop := ∃ k : Nat, i = .int .i64 (k : Int) ∧ ((k = 1 ∧ r = .int .i32 (m : Int)) ∨ (k = 2 ∧ r = .int .i32 (R2 : Int)) ∨ (k = 3 ∧ r = .int .i32 (R : Int)))
def Wh4 (m R2 R3 R : Nat) (r i : Value) : Prop := ∃ k : Nat, i = .int .i64 (k : Int) ∧ ((k = 1 ∧ r = .int .i32 (m : Int)) ∨ (k = 2 ∧ r = .int .i32 (R2 : Int)) ∨ (k = 3 ∧ r = .int .i32 (R3 : Int)) ∨ (k = 4 ∧ r = .int .i32 (R : Int)))

set_option maxHeartbeats 1000000 in
set_option maxRecDepth 100000 in
theorem wholer2_yes (ad : Addr) (cp : Nat) (a b : UInt8) (x : Nat) (w : World) (ca : w.cell? ad = some (.int .u8 (x : Int))) (cb : w.cell? ⟨ad.block, ad.off + 1, none⟩ = some (.int .u8 (b.toNat : Int))) (HX : Hid (a.toNat = x)) (h0 : 194 ≤ x) (h1 : x < 224) (hc : contB b = true) :
    Calls Try.prog 21 #[.slice (some ad) 2 cp] w (WholePost [a, b] w) := by
  have d1 : 192 ≤ (x : Int) := by omega
  have d2 : (x : Int) < 224 := by omega
  have HW : Hid (wholeL [a, b] = some ((x - 192) * 64 + (b.toNat - 128))) := by
    have := whole2_yes a b (by rw [HX.out]; exact h0) (by rw [HX.out]; exact h1) hc
    rw [HX.out] at this
    exact this
  have e1 : bits .and .u8 (x : Int) 31 = ((x - 192 : Nat) : Int) := by rw [u8_and31 _ (by omega) (by omega)]; omega
  have e2 := m63 b hc
  have e3 := contB_yes b hc
  rw [contB_iff] at hc
  obtain ⟨m, hm⟩ : ∃ m, x - 192 = m := ⟨_, rfl⟩
  obtain ⟨v, hv⟩ : ∃ v, b.toNat - 128 = v := ⟨_, rfl⟩
  obtain ⟨R, hR⟩ : ∃ R, m * 64 + v = R := ⟨_, rfl⟩
  rw [hm, hv, hR] at HW
  have hm1 : 2 ≤ m := by omega
  have hm2 : m < 32 := by omega
  have hv1 : v < 64 := by omega
  have e4 := or6n m v R (by omega) hv1 hR
  have r1 : 128 ≤ (R : Int) := by omega
  have hmay := may_ok R (by omega) (by omega)
  have r2 : R < 2048 := by omega
  rw [hm] at e1
  rw [hv] at e2
  clear hm hv hc hR
  go_enter Try.func21, Try.ntmps21
  go_wp2
  go_loop [7, 8] (fun r i => Wh2 m R r i) (fun _ i => 2 - (intOf i).toNat)
  case atStart => exact ⟨1, rfl, .inl ⟨rfl, rfl⟩⟩
  case round =>
    obtain ⟨k, rfl, hk⟩ := hrel
    rcases hk with ⟨rfl, rfl⟩ | ⟨rfl, rfl⟩
    · go_wp2
      go_round
      case rel => exact ⟨2, rfl, .inr ⟨rfl, rfl⟩⟩
      case measure => simp [intOf]
    · go_wp2_with (go_at_call 19; (with_reducible refine (mayr_any (R : Int) (by omega) (by omega) _).mono ?_); rintro e w' ⟨rfl, rfl⟩; rw [hmay])
      go_ret2
      exact ⟨rfl, .inl ⟨R, HW.out, rfl⟩⟩
set_option maxHeartbeats 1000000 in
set_option maxRecDepth 100000 in
theorem wholer2_no (ad : Addr) (cp : Nat) (a b : UInt8) (x : Nat) (w : World) (ca : w.cell? ad = some (.int .u8 (x : Int))) (cb : w.cell? ⟨ad.block, ad.off + 1, none⟩ = some (.int .u8 (b.toNat : Int))) (HX : Hid (a.toNat = x)) (h0 : 194 ≤ x) (h1 : x < 224) (hc : contB b = false) :
    Calls Try.prog 21 #[.slice (some ad) 2 cp] w (WholePost [a, b] w) := by
  have d1 : 192 ≤ (x : Int) := by omega
  have d2 : (x : Int) < 224 := by omega
  have HW : Hid (wholeL [a, b] = none) := whole2_no a b (.inr hc)
  have e1 : bits .and .u8 (x : Int) 31 = ((x - 192 : Nat) : Int) := by rw [u8_and31 _ (by omega) (by omega)]; omega
  have e3 := contB_no b hc
  obtain ⟨m, hm⟩ : ∃ m, x - 192 = m := ⟨_, rfl⟩
  rw [hm] at e1
  clear hm hc
  go_enter Try.func21, Try.ntmps21
  go_wp2
  go_loop [7, 8] (fun r i => i = .int .i64 1) (fun _ i => 2 - (intOf i).toNat)
  case atStart => rfl
  case round =>
    obtain rfl := hrel
    go_wp2
    go_ret2
    exact ⟨rfl, .inr ⟨HW.out, 0, rfl⟩⟩
set_option maxHeartbeats 1000000 in
set_option maxRecDepth 100000 in
theorem wholer2_3 (ad : Addr) (cp : Nat) (a b : UInt8) (x : Nat) (w : World) (ca : w.cell? ad = some (.int .u8 (x : Int))) (cb : w.cell? ⟨ad.block, ad.off + 1, none⟩ = some (.int .u8 (b.toNat : Int))) (HX : Hid (a.toNat = x)) (h0 : 224 ≤ x) (h1 : x < 240) :
    Calls Try.prog 21 #[.slice (some ad) 2 cp] w (WholePost [a, b] w) := by
  have d1 : 192 ≤ (x : Int) := by omega
  have d2 : decide ((x : Int) < 224) = false := by simp; omega
  have d3 : 224 ≤ (x : Int) := by omega
  have d4 : (x : Int) < 240 := by omega
  have HW : Hid (wholeL [a, b] = none) := whole2_no a b (.inl (by rw [HX.out]; exact h0))
  go_enter Try.func21, Try.ntmps21
  go_wp2
  go_ret2
  exact ⟨rfl, .inr ⟨HW.out, 0, rfl⟩⟩
set_option maxHeartbeats 1000000 in
set_option maxRecDepth 100000 in
theorem wholer2_4 (ad : Addr) (cp : Nat) (a b : UInt8) (x : Nat) (w : World) (ca : w.cell? ad = some (.int .u8 (x : Int))) (cb : w.cell? ⟨ad.block, ad.off + 1, none⟩ = some (.int .u8 (b.toNat : Int))) (HX : Hid (a.toNat = x)) (h0 : 240 ≤ x) (h1 : x ≤ 244) :
    Calls Try.prog 21 #[.slice (some ad) 2 cp] w (WholePost [a, b] w) := by
  have d1 : 192 ≤ (x : Int) := by omega
  have d2 : decide ((x : Int) < 224) = false := by simp; omega
  have d3 : 224 ≤ (x : Int) := by omega
  have d4 : decide ((x : Int) < 240) = false := by simp; omega
  have d5 : 240 ≤ (x : Int) := by omega
  have d6 : (x : Int) < 248 := by omega
  have HW : Hid (wholeL [a, b] = none) := whole2_no a b (.inl (by rw [HX.out]; omega))
  go_enter Try.func21, Try.ntmps21
  go_wp2
  go_ret2
  exact ⟨rfl, .inr ⟨HW.out, 0, rfl⟩⟩
set_option maxHeartbeats 1000000 in
set_option maxRecDepth 100000 in
theorem wholer3_yes (ad : Addr) (cp : Nat) (a b c : UInt8) (x : Nat) (w : World) (ca : w.cell? ad = some (.int .u8 (x : Int))) (cb : w.cell? ⟨ad.block, ad.off + 1, none⟩ = some (.int .u8 (b.toNat : Int))) (cc : w.cell? ⟨ad.block, ad.off + 2, none⟩ = some (.int .u8 (c.toNat : Int))) (HX : Hid (a.toNat = x)) (h0 : 224 ≤ x) (h1 : x < 240) (hs : secB a b = true) (hc : contB c = true) :
    Calls Try.prog 21 #[.slice (some ad) 3 cp] w (WholePost [a, b, c] w) := by
  have d1 : 192 ≤ (x : Int) := by omega
  have d2 : decide ((x : Int) < 224) = false := by simp; omega
  have d3 : 224 ≤ (x : Int) := by omega
  have d4 : (x : Int) < 240 := by omega
  have HW : Hid (wholeL [a, b, c] = some ((x - 224) * 4096 + (b.toNat - 128) * 64 + (c.toNat - 128))) := by
    have := whole3_yes a b c (by rw [HX.out]; exact h0) (by rw [HX.out]; exact h1) hs hc
    rw [HX.out] at this
    exact this
  have hok := sec3_ok a b c _ (by rw [HX.out]; exact h0) (by rw [HX.out]; exact h1) hs hc rfl
  rw [HX.out] at hok
  have hb := secB_cont a b hs
  have e1 : bits .and .u8 (x : Int) 15 = ((x - 224 : Nat) : Int) := by rw [u8_and15 _ (by omega) (by omega)]; omega
  have e2 := m63 b hb
  have e3 := contB_yes b hb
  have e5 := m63 c hc
  have e6 := contB_yes c hc
  rw [contB_iff] at hc hb
  obtain ⟨m, hm⟩ : ∃ m, x - 224 = m := ⟨_, rfl⟩
  obtain ⟨v, hv⟩ : ∃ v, b.toNat - 128 = v := ⟨_, rfl⟩
  obtain ⟨u, hu⟩ : ∃ u, c.toNat - 128 = u := ⟨_, rfl⟩
  obtain ⟨R2, hR2⟩ : ∃ R, m * 64 + v = R := ⟨_, rfl⟩
  obtain ⟨R, hR⟩ : ∃ R, R2 * 64 + u = R := ⟨_, rfl⟩
  rw [hm, hv, hu] at HW hok
  rw [show m * 4096 + v * 64 + u = R by omega] at HW hok
  have hm2 : m < 16 := by omega
  have hv1 : v < 64 := by omega
  have hu1 : u < 64 := by omega
  have e4 := or6n m v R2 (by omega) hv1 hR2
  have e7 := or6n R2 u R (by omega) hu1 hR
  have r1 : 2048 ≤ (R : Int) := by omega
  have hmay := may_ok R hok.2.1 hok.2.2
  have r2 : R < 65536 := by omega
  have r3 : R2 < 1024 := by omega
  rw [hm] at e1
  rw [hv] at e2
  rw [hu] at e5
  clear hm hv hu hc hb hR hR2 hok hs
  go_enter Try.func21, Try.ntmps21
  go_wp2
  go_loop [7, 8] (fun r i => Wh3 m R2 R r i) (fun _ i => 3 - (intOf i).toNat)
  case atStart => exact ⟨1, rfl, .inl ⟨rfl, rfl⟩⟩
  case round =>
    obtain ⟨k, rfl, hk⟩ := hrel
    rcases hk with ⟨rfl, rfl⟩ | ⟨rfl, rfl⟩ | ⟨rfl, rfl⟩
    · go_wp2
      go_round
      case rel => exact ⟨2, rfl, .inr (.inl ⟨rfl, rfl⟩)⟩
      case measure => simp [intOf]
    · go_wp2
      go_round
      case rel => exact ⟨3, rfl, .inr (.inr ⟨rfl, rfl⟩)⟩
      case measure => simp [intOf]
    · go_wp2_with (go_at_call 19; (with_reducible refine (mayr_any (R : Int) (by omega) (by omega) _).mono ?_); rintro e w' ⟨rfl, rfl⟩; rw [hmay])
      go_ret2
      exact ⟨rfl, .inl ⟨R, HW.out, rfl⟩⟩
set_option maxHeartbeats 1000000 in
set_option maxRecDepth 100000 in
theorem wholer3_no (ad : Addr) (cp : Nat) (a b c : UInt8) (x : Nat) (w : World) (ca : w.cell? ad = some (.int .u8 (x : Int))) (cb : w.cell? ⟨ad.block, ad.off + 1, none⟩ = some (.int .u8 (b.toNat : Int))) (cc : w.cell? ⟨ad.block, ad.off + 2, none⟩ = some (.int .u8 (c.toNat : Int))) (HX : Hid (a.toNat = x)) (h0 : 224 ≤ x) (h1 : x < 240) (hs : secB a b = true) (hc : contB c = false) :
    Calls Try.prog 21 #[.slice (some ad) 3 cp] w (WholePost [a, b, c] w) := by
  have d1 : 192 ≤ (x : Int) := by omega
  have d2 : decide ((x : Int) < 224) = false := by simp; omega
  have d3 : 224 ≤ (x : Int) := by omega
  have d4 : (x : Int) < 240 := by omega
  have HW : Hid (wholeL [a, b, c] = none) := whole3_no a b c (.inr hc)
  have hb := secB_cont a b hs
  have e1 : bits .and .u8 (x : Int) 15 = ((x - 224 : Nat) : Int) := by rw [u8_and15 _ (by omega) (by omega)]; omega
  have e2 := m63 b hb
  have e3 := contB_yes b hb
  have e6 := contB_no c hc
  rw [contB_iff] at hb
  obtain ⟨m, hm⟩ : ∃ m, x - 224 = m := ⟨_, rfl⟩
  obtain ⟨v, hv⟩ : ∃ v, b.toNat - 128 = v := ⟨_, rfl⟩
  obtain ⟨R2, hR2⟩ : ∃ R, m * 64 + v = R := ⟨_, rfl⟩
  have hm2 : m < 16 := by omega
  have hv1 : v < 64 := by omega
  have e4 := or6n m v R2 (by omega) hv1 hR2
  rw [hm] at e1
  rw [hv] at e2
  clear hm hv hc hb hR2 hs
  go_enter Try.func21, Try.ntmps21
  go_wp2
  go_loop [7, 8] (fun r i => Wh2 m R2 r i) (fun _ i => 3 - (intOf i).toNat)
  case atStart => exact ⟨1, rfl, .inl ⟨rfl, rfl⟩⟩
  case round =>
    obtain ⟨k, rfl, hk⟩ := hrel
    rcases hk with ⟨rfl, rfl⟩ | ⟨rfl, rfl⟩
    · go_wp2
      go_round
      case rel => exact ⟨2, rfl, .inr ⟨rfl, rfl⟩⟩
      case measure => simp [intOf]
    · go_wp2
      go_ret2
      exact ⟨rfl, .inr ⟨HW.out, 0, rfl⟩⟩
set_option maxHeartbeats 1000000 in
set_option maxRecDepth 100000 in
theorem wholer3_4 (ad : Addr) (cp : Nat) (a b c : UInt8) (x : Nat) (w : World) (ca : w.cell? ad = some (.int .u8 (x : Int))) (cb : w.cell? ⟨ad.block, ad.off + 1, none⟩ = some (.int .u8 (b.toNat : Int))) (cc : w.cell? ⟨ad.block, ad.off + 2, none⟩ = some (.int .u8 (c.toNat : Int))) (HX : Hid (a.toNat = x)) (h0 : 240 ≤ x) (h1 : x ≤ 244) :
    Calls Try.prog 21 #[.slice (some ad) 3 cp] w (WholePost [a, b, c] w) := by
  have d1 : 192 ≤ (x : Int) := by omega
  have d2 : decide ((x : Int) < 224) = false := by simp; omega
  have d3 : 224 ≤ (x : Int) := by omega
  have d4 : decide ((x : Int) < 240) = false := by simp; omega
  have d5 : 240 ≤ (x : Int) := by omega
  have d6 : (x : Int) < 248 := by omega
  have HW : Hid (wholeL [a, b, c] = none) := whole3_no a b c (.inl (by rw [HX.out]; exact h0))
  go_enter Try.func21, Try.ntmps21
  go_wp2
  go_ret2
  exact ⟨rfl, .inr ⟨HW.out, 0, rfl⟩⟩
set_option maxHeartbeats 1000000 in
set_option maxRecDepth 100000 in
theorem wholer4_yes (ad : Addr) (cp : Nat) (a b c d : UInt8) (x : Nat) (w : World) (ca : w.cell? ad = some (.int .u8 (x : Int))) (cb : w.cell? ⟨ad.block, ad.off + 1, none⟩ = some (.int .u8 (b.toNat : Int))) (cc : w.cell? ⟨ad.block, ad.off + 2, none⟩ = some (.int .u8 (c.toNat : Int))) (cd : w.cell? ⟨ad.block, ad.off + 3, none⟩ = some (.int .u8 (d.toNat : Int))) (HX : Hid (a.toNat = x)) (h0 : 240 ≤ x) (h1 : x ≤ 244) (hs : secB a b = true) (hc : contB c = true) (hd : contB d = true) :
    Calls Try.prog 21 #[.slice (some ad) 4 cp] w (WholePost [a, b, c, d] w) := by
  have d1 : 192 ≤ (x : Int) := by omega
  have d2 : decide ((x : Int) < 224) = false := by simp; omega
  have d3 : 224 ≤ (x : Int) := by omega
  have d4 : decide ((x : Int) < 240) = false := by simp; omega
  have d5 : 240 ≤ (x : Int) := by omega
  have d6 : (x : Int) < 248 := by omega
  have HW : Hid (wholeL [a, b, c, d] = some ((x - 240) * 262144 + (b.toNat - 128) * 4096 + (c.toNat - 128) * 64 + (d.toNat - 128))) := by
    have := whole4_yes a b c d (by rw [HX.out]; exact h0) (by rw [HX.out]; exact h1) hs hc hd
    rw [HX.out] at this
    exact this
  have hok := sec4_ok a b c d _ (by rw [HX.out]; exact h0) (by rw [HX.out]; exact h1) hs hc hd rfl
  rw [HX.out] at hok
  have hb := secB_cont a b hs
  have e1 : bits .and .u8 (x : Int) 7 = ((x - 240 : Nat) : Int) := by rw [u8_and7 _ (by omega) (by omega)]; omega
  have e2 := m63 b hb
  have e3 := contB_yes b hb
  have e5 := m63 c hc
  have e6 := contB_yes c hc
  have e8 := m63 d hd
  have e9 := contB_yes d hd
  rw [contB_iff] at hc hb hd
  obtain ⟨m, hm⟩ : ∃ m, x - 240 = m := ⟨_, rfl⟩
  obtain ⟨v, hv⟩ : ∃ v, b.toNat - 128 = v := ⟨_, rfl⟩
  obtain ⟨u, hu⟩ : ∃ u, c.toNat - 128 = u := ⟨_, rfl⟩
  obtain ⟨t, ht⟩ : ∃ t, d.toNat - 128 = t := ⟨_, rfl⟩
  obtain ⟨R2, hR2⟩ : ∃ R, m * 64 + v = R := ⟨_, rfl⟩
  obtain ⟨R3, hR3⟩ : ∃ R, R2 * 64 + u = R := ⟨_, rfl⟩
  obtain ⟨R, hR⟩ : ∃ R, R3 * 64 + t = R := ⟨_, rfl⟩
  rw [hm, hv, hu, ht] at HW hok
  rw [show m * 262144 + v * 4096 + u * 64 + t = R by omega] at HW hok
  have hm2 : m < 8 := by omega
  have hv1 : v < 64 := by omega
  have hu1 : u < 64 := by omega
  have ht1 : t < 64 := by omega
  have e4 := or6n m v R2 (by omega) hv1 hR2
  have e7 := or6n R2 u R3 (by omega) hu1 hR3
  have e10 := or6n R3 t R (by omega) ht1 hR
  have r1 : 65536 ≤ (R : Int) := by omega
  have hmay := may_ok R hok.2 (.inr (by omega))
  have r2 : R < 1114112 := hok.2
  have r3 : R2 < 1024 := by omega
  have r4 : R3 < 65536 := by omega
  rw [hm] at e1
  rw [hv] at e2
  rw [hu] at e5
  rw [ht] at e8
  clear hm hv hu ht hc hb hd hR hR2 hR3 hok hs
  go_enter Try.func21, Try.ntmps21
  go_wp2
  go_loop [7, 8] (fun r i => Wh4 m R2 R3 R r i) (fun _ i => 4 - (intOf i).toNat)
  case atStart => exact ⟨1, rfl, .inl ⟨rfl, rfl⟩⟩
  case round =>
    obtain ⟨k, rfl, hk⟩ := hrel
    rcases hk with ⟨rfl, rfl⟩ | ⟨rfl, rfl⟩ | ⟨rfl, rfl⟩ | ⟨rfl, rfl⟩
    · go_wp2
      go_round
      case rel => exact ⟨2, rfl, .inr (.inl ⟨rfl, rfl⟩)⟩
      case measure => simp [intOf]
    · go_wp2
      go_round
      case rel => exact ⟨3, rfl, .inr (.inr (.inl ⟨rfl, rfl⟩))⟩
      case measure => simp [intOf]
    · go_wp2
      go_round
      case rel => exact ⟨4, rfl, .inr (.inr (.inr ⟨rfl, rfl⟩))⟩
      case measure => simp [intOf]
    · go_wp2_with (go_at_call 19; (with_reducible refine (mayr_any (R : Int) (by omega) (by omega) _).mono ?_); rintro e w' ⟨rfl, rfl⟩; rw [hmay])
      go_ret2
      exact ⟨rfl, .inl ⟨R, HW.out, rfl⟩⟩
set_option maxHeartbeats 1000000 in
set_option maxRecDepth 100000 in
theorem wholer4_no (ad : Addr) (cp : Nat) (a b c d : UInt8) (x : Nat) (w : World) (ca : w.cell? ad = some (.int .u8 (x : Int))) (cb : w.cell? ⟨ad.block, ad.off + 1, none⟩ = some (.int .u8 (b.toNat : Int))) (cc : w.cell? ⟨ad.block, ad.off + 2, none⟩ = some (.int .u8 (c.toNat : Int))) (cd : w.cell? ⟨ad.block, ad.off + 3, none⟩ = some (.int .u8 (d.toNat : Int))) (HX : Hid (a.toNat = x)) (h0 : 240 ≤ x) (h1 : x ≤ 244) (hs : secB a b = true) (hc : contB c = true) (hd : contB d = false) :
    Calls Try.prog 21 #[.slice (some ad) 4 cp] w (WholePost [a, b, c, d] w) := by
  have d1 : 192 ≤ (x : Int) := by omega
  have d2 : decide ((x : Int) < 224) = false := by simp; omega
  have d3 : 224 ≤ (x : Int) := by omega
  have d4 : decide ((x : Int) < 240) = false := by simp; omega
  have d5 : 240 ≤ (x : Int) := by omega
  have d6 : (x : Int) < 248 := by omega
  have HW : Hid (wholeL [a, b, c, d] = none) := whole4_no a b c d hd
  have hb := secB_cont a b hs
  have e1 : bits .and .u8 (x : Int) 7 = ((x - 240 : Nat) : Int) := by rw [u8_and7 _ (by omega) (by omega)]; omega
  have e2 := m63 b hb
  have e3 := contB_yes b hb
  have e5 := m63 c hc
  have e6 := contB_yes c hc
  have e9 := contB_no d hd
  rw [contB_iff] at hc hb
  obtain ⟨m, hm⟩ : ∃ m, x - 240 = m := ⟨_, rfl⟩
  obtain ⟨v, hv⟩ : ∃ v, b.toNat - 128 = v := ⟨_, rfl⟩
  obtain ⟨u, hu⟩ : ∃ u, c.toNat - 128 = u := ⟨_, rfl⟩
  obtain ⟨R2, hR2⟩ : ∃ R, m * 64 + v = R := ⟨_, rfl⟩
  obtain ⟨R3, hR3⟩ : ∃ R, R2 * 64 + u = R := ⟨_, rfl⟩
  have hm2 : m < 8 := by omega
  have hv1 : v < 64 := by omega
  have hu1 : u < 64 := by omega
  have e4 := or6n m v R2 (by omega) hv1 hR2
  have e7 := or6n R2 u R3 (by omega) hu1 hR3
  have r3 : R2 < 1024 := by omega
  rw [hm] at e1
  rw [hv] at e2
  rw [hu] at e5
  clear hm hv hu hc hb hd hR2 hR3 hs
  go_enter Try.func21, Try.ntmps21
  go_wp2
  go_loop [7, 8] (fun r i => Wh3 m R2 R3 r i) (fun _ i => 4 - (intOf i).toNat)
  case atStart => exact ⟨1, rfl, .inl ⟨rfl, rfl⟩⟩
  case round =>
    obtain ⟨k, rfl, hk⟩ := hrel
    rcases hk with ⟨rfl, rfl⟩ | ⟨rfl, rfl⟩ | ⟨rfl, rfl⟩
    · go_wp2
      go_round
      case rel => exact ⟨2, rfl, .inr (.inl ⟨rfl, rfl⟩)⟩
      case measure => simp [intOf]
    · go_wp2
      go_round
      case rel => exact ⟨3, rfl, .inr (.inr ⟨rfl, rfl⟩)⟩
      case measure => simp [intOf]
    · go_wp2
      go_ret2
      exact ⟨rfl, .inr ⟨HW.out, 0, rfl⟩⟩

/-- The document's whole, behind a beginning. -/
theorem wholer_any (v : Value) (p : List UInt8) (b : UInt8) (B : Nat) (w : World) (hv : BS w B v (p ++ [b])) (hp : beginsL p = true) : Calls Try.prog 21 #[v] w (WholePost (p ++ [b]) w) := by
  match p, hp, hv with
  | [a], hp, hv =>
    rw [beg1_iff] at hp
    obtain ⟨ad, cp, rfl, _, _, ca, hcs⟩ := hv.lits
    have cb := hcs 0 b rfl
    obtain ⟨x, hx⟩ : ∃ x, a.toNat = x := ⟨_, rfl⟩
    rw [hx] at ca hp
    have HX : Hid (a.toNat = x) := hx
    by_cases h1 : x < 224
    · cases hc : contB b
      · exact wholer2_no ad cp a b x w ca cb HX hp.1 h1 hc
      · exact wholer2_yes ad cp a b x w ca cb HX hp.1 h1 hc
    by_cases h2 : x < 240
    · exact wholer2_3 ad cp a b x w ca cb HX (by omega) h2
    · exact wholer2_4 ad cp a b x w ca cb HX (by omega) hp.2
  | [a, b0], hp, hv =>
    have hs : secB a b0 = true := by rw [secB_iff]; rw [beg2_iff] at hp; exact hp.2.2
    rw [beg2_iff] at hp
    obtain ⟨ad, cp, rfl, _, _, ca, hcs⟩ := hv.lits
    have cb := hcs 0 b0 rfl
    have cc := hcs 1 b rfl
    obtain ⟨x, hx⟩ : ∃ x, a.toNat = x := ⟨_, rfl⟩
    rw [hx] at ca hp
    have HX : Hid (a.toNat = x) := hx
    by_cases h1 : x < 240
    · cases hc : contB b
      · exact wholer3_no ad cp a b0 b x w ca cb cc HX hp.1 h1 hs hc
      · exact wholer3_yes ad cp a b0 b x w ca cb cc HX hp.1 h1 hs hc
    · exact wholer3_4 ad cp a b0 b x w ca cb cc HX (by omega) hp.2.1
  | [a, b0, c0], hp, hv =>
    have hs : secB a b0 = true := by rw [secB_iff]; rw [beg3_iff] at hp; exact ⟨hp.2.2.1, hp.2.2.2.1⟩
    rw [beg3_iff] at hp
    obtain ⟨ad, cp, rfl, _, _, ca, hcs⟩ := hv.lits
    have cb := hcs 0 b0 rfl
    have cc := hcs 1 c0 rfl
    have cd := hcs 2 b rfl
    obtain ⟨x, hx⟩ : ∃ x, a.toNat = x := ⟨_, rfl⟩
    rw [hx] at ca hp
    have HX : Hid (a.toNat = x) := hx
    cases hd : contB b
    · exact wholer4_no ad cp a b0 c0 b x w ca cb cc cd HX hp.1 hp.2.1 hs hp.2.2.2.2 hd
    · exact wholer4_yes ad cp a b0 c0 b x w ca cb cc cd HX hp.1 hp.2.1 hs hp.2.2.2.2 hd
end Go.Proofs.Ytjbjfhbldodjfaa
