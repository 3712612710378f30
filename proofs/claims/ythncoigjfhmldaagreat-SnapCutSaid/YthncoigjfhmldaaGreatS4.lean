/- What is proved here: parts of the proofs of the laws of layer 10. -/
import Derived.Test.YthncoigjfhmldaaGreatS1
import Derived.Laws.BitsLemmas
import Derived.Test.YthncoigjfhmldaaGreatS3
import Derived.RegionTactic
import Derived.BigRegion
namespace Go.Proofs.YthncoigjfhmldaaGreat
open Go.RowKit
set_option linter.unusedVariables false
set_option linter.unusedSimpArgs false
set_option maxHeartbeats 1000000
set_option maxRecDepth 100000
def WholePost (q : List UInt8) (w : World) (e : Ending) (w' : World) : Prop :=
 w = w' ∧ ((∃ r, wholeL q = some r ∧ e = .returned (.tuple #[.int .i32 (r : Int), .bool true])) ∨ (wholeL q = none ∧ ∃ r : Int, e = .returned (.tuple #[.int .i32 r, .bool false])))
theorem whole2_yes (a b : UInt8) (h0 : 194 ≤ a.toNat) (h1 : a.toNat < 224) (hc : contB b = true) : wholeL [a, b] = some ((a.toNat - 192) * 64 + (b.toNat - 128)) := by
 simp only [wholeL]
 rw [if_pos (by simp [hc]; omega)]
theorem whole2_no (a b : UInt8) (h : 224 ≤ a.toNat ∨ contB b = false) : wholeL [a, b] = none := by
 simp only [wholeL]
 rw [if_neg]
 intro hh
 simp at hh
 rcases h with h | h
 ·omega
 ·rw [h] at hh; simp at hh
theorem m63 (b : UInt8) (h : contB b = true) : bits .and .u8 (b.toNat : Int) 63 = ((b.toNat - 128 : Nat) : Int) := by
 rw [contB_iff] at h
 rw [u8_and63 _ (by omega) (by omega)]
 omega
theorem whole3_yes (a b c : UInt8) (h0 : 224 ≤ a.toNat) (h1 : a.toNat < 240) (hs : secB a b = true) (hc : contB c = true) : wholeL [a, b, c] = some ((a.toNat - 224) * 4096 + (b.toNat - 128) * 64 + (c.toNat - 128)) := by
 simp only [wholeL]
 rw [if_pos (by simp [hs, hc]; omega)]
theorem whole3_no (a b c : UInt8) (h : 240 ≤ a.toNat ∨ contB c = false) : wholeL [a, b, c] = none := by
 simp only [wholeL]
 rw [if_neg]
 intro hh
 simp at hh
 rcases h with h | h
 ·omega
 ·rw [h] at hh; simp at hh
theorem whole4_yes (a b c d : UInt8) (h0 : 240 ≤ a.toNat) (h1 : a.toNat ≤ 244) (hs : secB a b = true) (hc : contB c = true) (hd : contB d = true) : wholeL [a, b, c, d] = some ((a.toNat - 240) * 262144 + (b.toNat - 128) * 4096 + (c.toNat - 128) * 64 + (d.toNat - 128)) := by
 simp only [wholeL]
 rw [if_pos (by simp [hs, hc, hd]; omega)]
theorem whole4_no (a b c d : UInt8) (h : contB d = false) : wholeL [a, b, c, d] = none := by
 simp only [wholeL]
 rw [if_neg]
 intro hh
 simp [h] at hh
theorem or6n (m v R : Nat) (h0 : m < 1000000) (h1 : v < 64) (hR : m * 64 + v = R) : bits .or .i32 ((m : Int) * 64) (v : Int) = (R : Int) := by
 rw [i32_or6 _ _ (by omega) (by omega) (by omega) (by omega) (by omega)]
 omega
theorem may_ok (r : Nat) (h : r < 1114112) (h2 : r < 55296 ∨ 57343 < r) : mayR (r : Int) = true := mayR_true (by omega) (by omega) (by omega)
theorem secB_cont (a b : UInt8) (h : secB a b = true) : contB b = true := by
 rw [secB_iff] at h
 have h1 := lo_ge a.toNat
 have h2 := hiB_le a.toNat
 rw [contB_iff]
 omega
theorem sec3_ok (a b c : UInt8) (R : Nat) (h0 : 224 ≤ a.toNat) (h1 : a.toNat < 240) (hs : secB a b = true) (hc : contB c = true) (hR : (a.toNat - 224) * 4096 + (b.toNat - 128) * 64 + (c.toNat - 128) = R) : 2048 ≤ R ∧ R < 1114112 ∧ (R < 55296 ∨ 57343 < R) := by
 rw [secB_iff] at hs
 rw [contB_iff] at hc
 have l1 := lo_ge a.toNat
 have l2 := hiB_le a.toNat
 by_cases e1 : a.toNat = 224
 ·have : loB a.toNat = 160 := by rw [e1]; rfl
  omega
 by_cases e2 : a.toNat = 237
 ·have : hiB a.toNat = 159 := by rw [e2]; rfl
  omega
 omega
theorem sec4_ok (a b c d : UInt8) (R : Nat) (h0 : 240 ≤ a.toNat) (h1 : a.toNat ≤ 244) (hs : secB a b = true) (hc : contB c = true) (hd : contB d = true) (hR : (a.toNat - 240) * 262144 + (b.toNat - 128) * 4096 + (c.toNat - 128) * 64 + (d.toNat - 128) = R) : 65536 ≤ R ∧ R < 1114112 := by
 rw [secB_iff] at hs
 rw [contB_iff] at hc hd
 have l1 := lo_ge a.toNat
 have l2 := hiB_le a.toNat
 by_cases e1 : a.toNat = 240
 ·have : loB a.toNat = 144 := by rw [e1]; rfl
  omega
 by_cases e2 : a.toNat = 244
 ·have : hiB a.toNat = 143 := by rw [e2]; rfl
  omega
 omega
def Wh2 (m R : Nat) (r i : Value) : Prop := ∃ k : Nat, i = .int .i64 (k : Int) ∧ ((k = 1 ∧ r = .int .i32 (m : Int)) ∨ (k = 2 ∧ r = .int .i32 (R : Int)))
def Wh3 (m R2 R : Nat) (r i : Value) : Prop := ∃ k : Nat, i = .int .i64 (k : Int) ∧ ((k = 1 ∧ r = .int .i32 (m : Int)) ∨ (k = 2 ∧ r = .int .i32 (R2 : Int)) ∨ (k = 3 ∧ r = .int .i32 (R : Int)))
def Wh4 (m R2 R3 R : Nat) (r i : Value) : Prop := ∃ k : Nat, i = .int .i64 (k : Int) ∧ ((k = 1 ∧ r = .int .i32 (m : Int)) ∨ (k = 2 ∧ r = .int .i32 (R2 : Int)) ∨ (k = 3 ∧ r = .int .i32 (R3 : Int)) ∨ (k = 4 ∧ r = .int .i32 (R : Int)))
theorem wholer2_yes (ad : Addr) (cp : Nat) (a b : UInt8) (x : Nat) (w : World) (ca : w.cell? ad = some (.int .u8 (x : Int))) (cb : w.cell? ⟨ad.block, ad.off + 1, none⟩ = some (.int .u8 (b.toNat : Int))) (HX : Hid (a.toNat = x)) (h0 : 194 ≤ x) (h1 : x < 224) (hc : contB b = true) :
  Calls Tryz.prog 94 #[.slice (some ad) 2 cp] w (WholePost [a, b] w) := by
 have d1 : 192 ≤ (x : Int) := by omega
 have d2 : (x : Int) < 224 := by omega
 have HW : Hid (wholeL [a, b] = some ((x - 192) * 64 + (b.toNat - 128))) := by
  have := whole2_yes a b (by rw [HX.out]; exact h0) (by rw [HX.out]; exact h1) hc
  rw [HX.out] at this
  exact this
 have e1 : bits .and .u8 (x : Int) 31 = ((x - 192 : Nat) : Int) := by rw [u8_and31 _ (by omega) (by omega)]; omega
 have e2 := m63 b hc
 have e3 := contB_yes b hc
 rw [contB_iff] at hc
 obtain ⟨m, hm⟩ : ∃ m, x - 192 = m := ⟨_, rfl⟩
 obtain ⟨v, hv⟩ : ∃ v, b.toNat - 128 = v := ⟨_, rfl⟩
 obtain ⟨R, hR⟩ : ∃ R, m * 64 + v = R := ⟨_, rfl⟩
 rw [hm, hv, hR] at HW
 have hm1 : 2 ≤ m := by omega
 have hm2 : m < 32 := by omega
 have hv1 : v < 64 := by omega
 have e4 := or6n m v R (by omega) hv1 hR
 have r1 : 128 ≤ (R : Int) := by omega
 have hmay := may_ok R (by omega) (by omega)
 have r2 : R < 2048 := by omega
 rw [hm] at e1
 rw [hv] at e2
 clear hm hv hc hR
 go_enter Tryz.func94, Tryz.ntmps94
 go_wp2
 go_loop [7, 8] (fun r i => Wh2 m R r i) (fun _ i => 2 - (intOf i).toNat)
 case atStart => exact ⟨1, rfl, .inl ⟨rfl, rfl⟩⟩
 case round =>
  obtain ⟨k, rfl, hk⟩ := hrel
  rcases hk with ⟨rfl, rfl⟩ | ⟨rfl, rfl⟩
  ·go_wp2
   go_round
   case rel => exact ⟨2, rfl, .inr ⟨rfl, rfl⟩⟩
   case measure => simp [intOf]
  ·go_wp2_with (go_at_call 89; (with_reducible refine (mayr_any (R : Int) (by omega) (by omega) _).mono ?_); rintro e w' ⟨rfl, rfl⟩; rw [hmay])
   go_ret2
   exact ⟨rfl, .inl ⟨R, HW.out, rfl⟩⟩
theorem wholer2_no (ad : Addr) (cp : Nat) (a b : UInt8) (x : Nat) (w : World) (ca : w.cell? ad = some (.int .u8 (x : Int))) (cb : w.cell? ⟨ad.block, ad.off + 1, none⟩ = some (.int .u8 (b.toNat : Int))) (HX : Hid (a.toNat = x)) (h0 : 194 ≤ x) (h1 : x < 224) (hc : contB b = false) :
  Calls Tryz.prog 94 #[.slice (some ad) 2 cp] w (WholePost [a, b] w) := by
 have d1 : 192 ≤ (x : Int) := by omega
 have d2 : (x : Int) < 224 := by omega
 have HW : Hid (wholeL [a, b] = none) := whole2_no a b (.inr hc)
 have e1 : bits .and .u8 (x : Int) 31 = ((x - 192 : Nat) : Int) := by rw [u8_and31 _ (by omega) (by omega)]; omega
 have e3 := contB_no b hc
 obtain ⟨m, hm⟩ : ∃ m, x - 192 = m := ⟨_, rfl⟩
 rw [hm] at e1
 clear hm hc
 go_enter Tryz.func94, Tryz.ntmps94
 go_wp2
 go_loop [7, 8] (fun r i => i = .int .i64 1) (fun _ i => 2 - (intOf i).toNat)
 case atStart => rfl
 case round =>
  obtain rfl := hrel
  go_wp2
  go_ret2
  exact ⟨rfl, .inr ⟨HW.out, 0, rfl⟩⟩
theorem wholer2_3 (ad : Addr) (cp : Nat) (a b : UInt8) (x : Nat) (w : World) (ca : w.cell? ad = some (.int .u8 (x : Int))) (cb : w.cell? ⟨ad.block, ad.off + 1, none⟩ = some (.int .u8 (b.toNat : Int))) (HX : Hid (a.toNat = x)) (h0 : 224 ≤ x) (h1 : x < 240) :
  Calls Tryz.prog 94 #[.slice (some ad) 2 cp] w (WholePost [a, b] w) := by
 have d1 : 192 ≤ (x : Int) := by omega
 have d2 : decide ((x : Int) < 224) = false := by simp; omega
 have d3 : 224 ≤ (x : Int) := by omega
 have d4 : (x : Int) < 240 := by omega
 have HW : Hid (wholeL [a, b] = none) := whole2_no a b (.inl (by rw [HX.out]; exact h0))
 go_enter Tryz.func94, Tryz.ntmps94
 go_wp2
 go_ret2
 exact ⟨rfl, .inr ⟨HW.out, 0, rfl⟩⟩
theorem wholer2_4 (ad : Addr) (cp : Nat) (a b : UInt8) (x : Nat) (w : World) (ca : w.cell? ad = some (.int .u8 (x : Int))) (cb : w.cell? ⟨ad.block, ad.off + 1, none⟩ = some (.int .u8 (b.toNat : Int))) (HX : Hid (a.toNat = x)) (h0 : 240 ≤ x) (h1 : x ≤ 244) :
  Calls Tryz.prog 94 #[.slice (some ad) 2 cp] w (WholePost [a, b] w) := by
 have d1 : 192 ≤ (x : Int) := by omega
 have d2 : decide ((x : Int) < 224) = false := by simp; omega
 have d3 : 224 ≤ (x : Int) := by omega
 have d4 : decide ((x : Int) < 240) = false := by simp; omega
 have d5 : 240 ≤ (x : Int) := by omega
 have d6 : (x : Int) < 248 := by omega
 have HW : Hid (wholeL [a, b] = none) := whole2_no a b (.inl (by rw [HX.out]; omega))
 go_enter Tryz.func94, Tryz.ntmps94
 go_wp2
 go_ret2
 exact ⟨rfl, .inr ⟨HW.out, 0, rfl⟩⟩
theorem wholer3_yes (ad : Addr) (cp : Nat) (a b c : UInt8) (x : Nat) (w : World) (ca : w.cell? ad = some (.int .u8 (x : Int))) (cb : w.cell? ⟨ad.block, ad.off + 1, none⟩ = some (.int .u8 (b.toNat : Int))) (cc : w.cell? ⟨ad.block, ad.off + 2, none⟩ = some (.int .u8 (c.toNat : Int))) (HX : Hid (a.toNat = x)) (h0 : 224 ≤ x) (h1 : x < 240) (hs : secB a b = true) (hc : contB c = true) :
  Calls Tryz.prog 94 #[.slice (some ad) 3 cp] w (WholePost [a, b, c] w) := by
 have d1 : 192 ≤ (x : Int) := by omega
 have d2 : decide ((x : Int) < 224) = false := by simp; omega
 have d3 : 224 ≤ (x : Int) := by omega
 have d4 : (x : Int) < 240 := by omega
 have HW : Hid (wholeL [a, b, c] = some ((x - 224) * 4096 + (b.toNat - 128) * 64 + (c.toNat - 128))) := by
  have := whole3_yes a b c (by rw [HX.out]; exact h0) (by rw [HX.out]; exact h1) hs hc
  rw [HX.out] at this
  exact this
 have hok := sec3_ok a b c _ (by rw [HX.out]; exact h0) (by rw [HX.out]; exact h1) hs hc rfl
 rw [HX.out] at hok
 have hb := secB_cont a b hs
 have e1 : bits .and .u8 (x : Int) 15 = ((x - 224 : Nat) : Int) := by rw [u8_and15 _ (by omega) (by omega)]; omega
 have e2 := m63 b hb
 have e3 := contB_yes b hb
 have e5 := m63 c hc
 have e6 := contB_yes c hc
 rw [contB_iff] at hc hb
 obtain ⟨m, hm⟩ : ∃ m, x - 224 = m := ⟨_, rfl⟩
 obtain ⟨v, hv⟩ : ∃ v, b.toNat - 128 = v := ⟨_, rfl⟩
 obtain ⟨u, hu⟩ : ∃ u, c.toNat - 128 = u := ⟨_, rfl⟩
 obtain ⟨R2, hR2⟩ : ∃ R, m * 64 + v = R := ⟨_, rfl⟩
 obtain ⟨R, hR⟩ : ∃ R, R2 * 64 + u = R := ⟨_, rfl⟩
 rw [hm, hv, hu] at HW hok
 rw [show m * 4096 + v * 64 + u = R by omega] at HW hok
 have hm2 : m < 16 := by omega
 have hv1 : v < 64 := by omega
 have hu1 : u < 64 := by omega
 have e4 := or6n m v R2 (by omega) hv1 hR2
 have e7 := or6n R2 u R (by omega) hu1 hR
 have r1 : 2048 ≤ (R : Int) := by omega
 have hmay := may_ok R hok.2.1 hok.2.2
 have r2 : R < 65536 := by omega
 have r3 : R2 < 1024 := by omega
 rw [hm] at e1
 rw [hv] at e2
 rw [hu] at e5
 clear hm hv hu hc hb hR hR2 hok hs
 go_enter Tryz.func94, Tryz.ntmps94
 go_wp2
 go_loop [7, 8] (fun r i => Wh3 m R2 R r i) (fun _ i => 3 - (intOf i).toNat)
 case atStart => exact ⟨1, rfl, .inl ⟨rfl, rfl⟩⟩
 case round =>
  obtain ⟨k, rfl, hk⟩ := hrel
  rcases hk with ⟨rfl, rfl⟩ | ⟨rfl, rfl⟩ | ⟨rfl, rfl⟩
  ·go_wp2
   go_round
   case rel => exact ⟨2, rfl, .inr (.inl ⟨rfl, rfl⟩)⟩
   case measure => simp [intOf]
  ·go_wp2
   go_round
   case rel => exact ⟨3, rfl, .inr (.inr ⟨rfl, rfl⟩)⟩
   case measure => simp [intOf]
  ·go_wp2_with (go_at_call 89; (with_reducible refine (mayr_any (R : Int) (by omega) (by omega) _).mono ?_); rintro e w' ⟨rfl, rfl⟩; rw [hmay])
   go_ret2
   exact ⟨rfl, .inl ⟨R, HW.out, rfl⟩⟩
theorem wholer3_no (ad : Addr) (cp : Nat) (a b c : UInt8) (x : Nat) (w : World) (ca : w.cell? ad = some (.int .u8 (x : Int))) (cb : w.cell? ⟨ad.block, ad.off + 1, none⟩ = some (.int .u8 (b.toNat : Int))) (cc : w.cell? ⟨ad.block, ad.off + 2, none⟩ = some (.int .u8 (c.toNat : Int))) (HX : Hid (a.toNat = x)) (h0 : 224 ≤ x) (h1 : x < 240) (hs : secB a b = true) (hc : contB c = false) :
  Calls Tryz.prog 94 #[.slice (some ad) 3 cp] w (WholePost [a, b, c] w) := by
 have d1 : 192 ≤ (x : Int) := by omega
 have d2 : decide ((x : Int) < 224) = false := by simp; omega
 have d3 : 224 ≤ (x : Int) := by omega
 have d4 : (x : Int) < 240 := by omega
 have HW : Hid (wholeL [a, b, c] = none) := whole3_no a b c (.inr hc)
 have hb := secB_cont a b hs
 have e1 : bits .and .u8 (x : Int) 15 = ((x - 224 : Nat) : Int) := by rw [u8_and15 _ (by omega) (by omega)]; omega
 have e2 := m63 b hb
 have e3 := contB_yes b hb
 have e6 := contB_no c hc
 rw [contB_iff] at hb
 obtain ⟨m, hm⟩ : ∃ m, x - 224 = m := ⟨_, rfl⟩
 obtain ⟨v, hv⟩ : ∃ v, b.toNat - 128 = v := ⟨_, rfl⟩
 obtain ⟨R2, hR2⟩ : ∃ R, m * 64 + v = R := ⟨_, rfl⟩
 have hm2 : m < 16 := by omega
 have hv1 : v < 64 := by omega
 have e4 := or6n m v R2 (by omega) hv1 hR2
 rw [hm] at e1
 rw [hv] at e2
 clear hm hv hc hb hR2 hs
 go_enter Tryz.func94, Tryz.ntmps94
 go_wp2
 go_loop [7, 8] (fun r i => Wh2 m R2 r i) (fun _ i => 3 - (intOf i).toNat)
 case atStart => exact ⟨1, rfl, .inl ⟨rfl, rfl⟩⟩
 case round =>
  obtain ⟨k, rfl, hk⟩ := hrel
  rcases hk with ⟨rfl, rfl⟩ | ⟨rfl, rfl⟩
  ·go_wp2
   go_round
   case rel => exact ⟨2, rfl, .inr ⟨rfl, rfl⟩⟩
   case measure => simp [intOf]
  ·go_wp2
   go_ret2
   exact ⟨rfl, .inr ⟨HW.out, 0, rfl⟩⟩
theorem wholer3_4 (ad : Addr) (cp : Nat) (a b c : UInt8) (x : Nat) (w : World) (ca : w.cell? ad = some (.int .u8 (x : Int))) (cb : w.cell? ⟨ad.block, ad.off + 1, none⟩ = some (.int .u8 (b.toNat : Int))) (cc : w.cell? ⟨ad.block, ad.off + 2, none⟩ = some (.int .u8 (c.toNat : Int))) (HX : Hid (a.toNat = x)) (h0 : 240 ≤ x) (h1 : x ≤ 244) :
  Calls Tryz.prog 94 #[.slice (some ad) 3 cp] w (WholePost [a, b, c] w) := by
 have d1 : 192 ≤ (x : Int) := by omega
 have d2 : decide ((x : Int) < 224) = false := by simp; omega
 have d3 : 224 ≤ (x : Int) := by omega
 have d4 : decide ((x : Int) < 240) = false := by simp; omega
 have d5 : 240 ≤ (x : Int) := by omega
 have d6 : (x : Int) < 248 := by omega
 have HW : Hid (wholeL [a, b, c] = none) := whole3_no a b c (.inl (by rw [HX.out]; exact h0))
 go_enter Tryz.func94, Tryz.ntmps94
 go_wp2
 go_ret2
 exact ⟨rfl, .inr ⟨HW.out, 0, rfl⟩⟩
theorem wholer4_yes (ad : Addr) (cp : Nat) (a b c d : UInt8) (x : Nat) (w : World) (ca : w.cell? ad = some (.int .u8 (x : Int))) (cb : w.cell? ⟨ad.block, ad.off + 1, none⟩ = some (.int .u8 (b.toNat : Int))) (cc : w.cell? ⟨ad.block, ad.off + 2, none⟩ = some (.int .u8 (c.toNat : Int))) (cd : w.cell? ⟨ad.block, ad.off + 3, none⟩ = some (.int .u8 (d.toNat : Int))) (HX : Hid (a.toNat = x)) (h0 : 240 ≤ x) (h1 : x ≤ 244) (hs : secB a b = true) (hc : contB c = true) (hd : contB d = true) :
  Calls Tryz.prog 94 #[.slice (some ad) 4 cp] w (WholePost [a, b, c, d] w) := by
 have d1 : 192 ≤ (x : Int) := by omega
 have d2 : decide ((x : Int) < 224) = false := by simp; omega
 have d3 : 224 ≤ (x : Int) := by omega
 have d4 : decide ((x : Int) < 240) = false := by simp; omega
 have d5 : 240 ≤ (x : Int) := by omega
 have d6 : (x : Int) < 248 := by omega
 have HW : Hid (wholeL [a, b, c, d] = some ((x - 240) * 262144 + (b.toNat - 128) * 4096 + (c.toNat - 128) * 64 + (d.toNat - 128))) := by
  have := whole4_yes a b c d (by rw [HX.out]; exact h0) (by rw [HX.out]; exact h1) hs hc hd
  rw [HX.out] at this
  exact this
 have hok := sec4_ok a b c d _ (by rw [HX.out]; exact h0) (by rw [HX.out]; exact h1) hs hc hd rfl
 rw [HX.out] at hok
 have hb := secB_cont a b hs
 have e1 : bits .and .u8 (x : Int) 7 = ((x - 240 : Nat) : Int) := by rw [u8_and7 _ (by omega) (by omega)]; omega
 have e2 := m63 b hb
 have e3 := contB_yes b hb
 have e5 := m63 c hc
 have e6 := contB_yes c hc
 have e8 := m63 d hd
 have e9 := contB_yes d hd
 rw [contB_iff] at hc hb hd
 obtain ⟨m, hm⟩ : ∃ m, x - 240 = m := ⟨_, rfl⟩
 obtain ⟨v, hv⟩ : ∃ v, b.toNat - 128 = v := ⟨_, rfl⟩
 obtain ⟨u, hu⟩ : ∃ u, c.toNat - 128 = u := ⟨_, rfl⟩
 obtain ⟨t, ht⟩ : ∃ t, d.toNat - 128 = t := ⟨_, rfl⟩
 obtain ⟨R2, hR2⟩ : ∃ R, m * 64 + v = R := ⟨_, rfl⟩
 obtain ⟨R3, hR3⟩ : ∃ R, R2 * 64 + u = R := ⟨_, rfl⟩
 obtain ⟨R, hR⟩ : ∃ R, R3 * 64 + t = R := ⟨_, rfl⟩
 rw [hm, hv, hu, ht] at HW hok
 rw [show m * 262144 + v * 4096 + u * 64 + t = R by omega] at HW hok
 have hm2 : m < 8 := by omega
 have hv1 : v < 64 := by omega
 have hu1 : u < 64 := by omega
 have ht1 : t < 64 := by omega
 have e4 := or6n m v R2 (by omega) hv1 hR2
 have e7 := or6n R2 u R3 (by omega) hu1 hR3
 have e10 := or6n R3 t R (by omega) ht1 hR
 have r1 : 65536 ≤ (R : Int) := by omega
 have hmay := may_ok R hok.2 (.inr (by omega))
 have r2 : R < 1114112 := hok.2
 have r3 : R2 < 1024 := by omega
 have r4 : R3 < 65536 := by omega
 rw [hm] at e1
 rw [hv] at e2
 rw [hu] at e5
 rw [ht] at e8
 clear hm hv hu ht hc hb hd hR hR2 hR3 hok hs
 go_enter Tryz.func94, Tryz.ntmps94
 go_wp2
 go_loop [7, 8] (fun r i => Wh4 m R2 R3 R r i) (fun _ i => 4 - (intOf i).toNat)
 case atStart => exact ⟨1, rfl, .inl ⟨rfl, rfl⟩⟩
 case round =>
  obtain ⟨k, rfl, hk⟩ := hrel
  rcases hk with ⟨rfl, rfl⟩ | ⟨rfl, rfl⟩ | ⟨rfl, rfl⟩ | ⟨rfl, rfl⟩
  ·go_wp2
   go_round
   case rel => exact ⟨2, rfl, .inr (.inl ⟨rfl, rfl⟩)⟩
   case measure => simp [intOf]
  ·go_wp2
   go_round
   case rel => exact ⟨3, rfl, .inr (.inr (.inl ⟨rfl, rfl⟩))⟩
   case measure => simp [intOf]
  ·go_wp2
   go_round
   case rel => exact ⟨4, rfl, .inr (.inr (.inr ⟨rfl, rfl⟩))⟩
   case measure => simp [intOf]
  ·go_wp2_with (go_at_call 89; (with_reducible refine (mayr_any (R : Int) (by omega) (by omega) _).mono ?_); rintro e w' ⟨rfl, rfl⟩; rw [hmay])
   go_ret2
   exact ⟨rfl, .inl ⟨R, HW.out, rfl⟩⟩
theorem wholer4_no (ad : Addr) (cp : Nat) (a b c d : UInt8) (x : Nat) (w : World) (ca : w.cell? ad = some (.int .u8 (x : Int))) (cb : w.cell? ⟨ad.block, ad.off + 1, none⟩ = some (.int .u8 (b.toNat : Int))) (cc : w.cell? ⟨ad.block, ad.off + 2, none⟩ = some (.int .u8 (c.toNat : Int))) (cd : w.cell? ⟨ad.block, ad.off + 3, none⟩ = some (.int .u8 (d.toNat : Int))) (HX : Hid (a.toNat = x)) (h0 : 240 ≤ x) (h1 : x ≤ 244) (hs : secB a b = true) (hc : contB c = true) (hd : contB d = false) :
  Calls Tryz.prog 94 #[.slice (some ad) 4 cp] w (WholePost [a, b, c, d] w) := by
 have d1 : 192 ≤ (x : Int) := by omega
 have d2 : decide ((x : Int) < 224) = false := by simp; omega
 have d3 : 224 ≤ (x : Int) := by omega
 have d4 : decide ((x : Int) < 240) = false := by simp; omega
 have d5 : 240 ≤ (x : Int) := by omega
 have d6 : (x : Int) < 248 := by omega
 have HW : Hid (wholeL [a, b, c, d] = none) := whole4_no a b c d hd
 have hb := secB_cont a b hs
 have e1 : bits .and .u8 (x : Int) 7 = ((x - 240 : Nat) : Int) := by rw [u8_and7 _ (by omega) (by omega)]; omega
 have e2 := m63 b hb
 have e3 := contB_yes b hb
 have e5 := m63 c hc
 have e6 := contB_yes c hc
 have e9 := contB_no d hd
 rw [contB_iff] at hc hb
 obtain ⟨m, hm⟩ : ∃ m, x - 240 = m := ⟨_, rfl⟩
 obtain ⟨v, hv⟩ : ∃ v, b.toNat - 128 = v := ⟨_, rfl⟩
 obtain ⟨u, hu⟩ : ∃ u, c.toNat - 128 = u := ⟨_, rfl⟩
 obtain ⟨R2, hR2⟩ : ∃ R, m * 64 + v = R := ⟨_, rfl⟩
 obtain ⟨R3, hR3⟩ : ∃ R, R2 * 64 + u = R := ⟨_, rfl⟩
 have hm2 : m < 8 := by omega
 have hv1 : v < 64 := by omega
 have hu1 : u < 64 := by omega
 have e4 := or6n m v R2 (by omega) hv1 hR2
 have e7 := or6n R2 u R3 (by omega) hu1 hR3
 have r3 : R2 < 1024 := by omega
 rw [hm] at e1
 rw [hv] at e2
 rw [hu] at e5
 clear hm hv hu hc hb hd hR2 hR3 hs
 go_enter Tryz.func94, Tryz.ntmps94
 go_wp2
 go_loop [7, 8] (fun r i => Wh3 m R2 R3 r i) (fun _ i => 4 - (intOf i).toNat)
 case atStart => exact ⟨1, rfl, .inl ⟨rfl, rfl⟩⟩
 case round =>
  obtain ⟨k, rfl, hk⟩ := hrel
  rcases hk with ⟨rfl, rfl⟩ | ⟨rfl, rfl⟩ | ⟨rfl, rfl⟩
  ·go_wp2
   go_round
   case rel => exact ⟨2, rfl, .inr (.inl ⟨rfl, rfl⟩)⟩
   case measure => simp [intOf]
  ·go_wp2
   go_round
   case rel => exact ⟨3, rfl, .inr (.inr ⟨rfl, rfl⟩)⟩
   case measure => simp [intOf]
  ·go_wp2
   go_ret2
   exact ⟨rfl, .inr ⟨HW.out, 0, rfl⟩⟩
theorem wholer_any (v : Value) (p : List UInt8) (b : UInt8) (B : Nat) (w : World) (hv : BS w B v (p ++ [b])) (hp : beginsL p = true) : Calls Tryz.prog 94 #[v] w (WholePost (p ++ [b]) w) := by
 match p, hp, hv with
 | [a], hp, hv =>
  rw [beg1_iff] at hp
  obtain ⟨ad, cp, rfl, _, _, ca, hcs⟩ := hv.lits
  have cb := hcs 0 b rfl
  obtain ⟨x, hx⟩ : ∃ x, a.toNat = x := ⟨_, rfl⟩
  rw [hx] at ca hp
  have HX : Hid (a.toNat = x) := hx
  by_cases h1 : x < 224
  ·cases hc : contB b
   ·exact wholer2_no ad cp a b x w ca cb HX hp.1 h1 hc
   ·exact wholer2_yes ad cp a b x w ca cb HX hp.1 h1 hc
  by_cases h2 : x < 240
  ·exact wholer2_3 ad cp a b x w ca cb HX (by omega) h2
  ·exact wholer2_4 ad cp a b x w ca cb HX (by omega) hp.2
 | [a, b0], hp, hv =>
  have hs : secB a b0 = true := by rw [secB_iff]; rw [beg2_iff] at hp; exact hp.2.2
  rw [beg2_iff] at hp
  obtain ⟨ad, cp, rfl, _, _, ca, hcs⟩ := hv.lits
  have cb := hcs 0 b0 rfl
  have cc := hcs 1 b rfl
  obtain ⟨x, hx⟩ : ∃ x, a.toNat = x := ⟨_, rfl⟩
  rw [hx] at ca hp
  have HX : Hid (a.toNat = x) := hx
  by_cases h1 : x < 240
  ·cases hc : contB b
   ·exact wholer3_no ad cp a b0 b x w ca cb cc HX hp.1 h1 hs hc
   ·exact wholer3_yes ad cp a b0 b x w ca cb cc HX hp.1 h1 hs hc
  ·exact wholer3_4 ad cp a b0 b x w ca cb cc HX (by omega) hp.2.1
 | [a, b0, c0], hp, hv =>
  have hs : secB a b0 = true := by rw [secB_iff]; rw [beg3_iff] at hp; exact ⟨hp.2.2.1, hp.2.2.2.1⟩
  rw [beg3_iff] at hp
  obtain ⟨ad, cp, rfl, _, _, ca, hcs⟩ := hv.lits
  have cb := hcs 0 b0 rfl
  have cc := hcs 1 c0 rfl
  have cd := hcs 2 b rfl
  obtain ⟨x, hx⟩ : ∃ x, a.toNat = x := ⟨_, rfl⟩
  rw [hx] at ca hp
  have HX : Hid (a.toNat = x) := hx
  cases hd : contB b
  ·exact wholer4_no ad cp a b0 c0 b x w ca cb cc cd HX hp.1 hp.2.1 hs hp.2.2.2.2 hd
  ·exact wholer4_yes ad cp a b0 c0 b x w ca cb cc cd HX hp.1 hp.2.1 hs hp.2.2.2.2 hd
def ints (l : List Nat) : List Int := List.map (fun n : Nat => Int.ofNat n) l
def BN (w : World) (lo : Nat) (v : Value) (l : List UInt8) : Prop := BS w w.heap.size v l ∧ ∀ ad n c, v = .slice (some ad) n c → 0 < l.length → lo ≤ ad.block
theorem BN.nil (w : World) (lo : Nat) : BN w lo (.slice none 0 0) [] := ⟨BS.nil _ _, fun _ _ _ h => by cases h⟩
theorem OB.bn {w : World} {base : Nat} {v : Value} {l : List UInt8} (h : OB w base v l) : BN w base v l := by
 refine ⟨h.bs, fun ad n c hv _ => ?_⟩
 subst hv
 exact (World.ownsRow.lt h ad.block rfl).1
theorem BN.grown {w w' : World} {lo : Nat} {v : Value} {l : List UInt8} {row : Option Nat} (h : BN w lo v l) (hg : w.grownBy w' row) (hrow : ∀ k, row = some k → k < lo) : BN w' lo v l := by
 obtain ⟨⟨A, c, hv, h1, h2, h3⟩, h4⟩ := h
 refine ⟨⟨A, c, hv, h1, h2, fun hl => ?_⟩, h4⟩
 obtain ⟨ad, hA, hb, hc⟩ := h3 hl
 subst hA
 have hlo := h4 ad _ _ hv hl
 refine ⟨ad, rfl, Nat.lt_of_lt_of_le hb hg.size, fun j b hj => ?_⟩
 have e : w'.cell? (ad.add j) = w.cell? (ad.add j) := World.cell?_of_block (w := w) (by
  rw [block_add]
  exact hg.block ad.block hb (fun e => by have := hrow _ e.symm; omega))
 rw [e]
 exact hc j b hj
def StepPost (p : List UInt8) (b : UInt8) (w : World) (e : Ending) (w' : World) : Prop :=
 ∃ v1 v2, e = .returned (.tuple #[v1, v2]) ∧ BN w' w.heap.size v1 (stepL p b).1 ∧ RS w' w'.heap.size v2 (ints (stepL p b).2) ∧ Below w.heap.size w w'
theorem stepPost_of {p : List UInt8} {b : UInt8} {w w' : World} {v1 v2 : Value} {q : List UInt8} {o : List Nat} (h : stepL p b = (q, o)) (h1 : BN w' w.heap.size v1 q) (h2 : RS w' w'.heap.size v2 (ints o)) (h3 : Below w.heap.size w w') :
  StepPost p b w (.returned (.tuple #[v1, v2])) w' := ⟨v1, v2, rfl, by rw [h]; exact h1, by rw [h]; exact h2, h3⟩
theorem stepL_no (p : List UInt8) (b : UInt8) (h : beginsL p = false) : stepL p b = firstL b [] := by simp [stepL, h]
theorem stepL_some (p : List UInt8) (b : UInt8) (r : Nat) (h : beginsL p = true) (hw : wholeL (p ++ [b]) = some r) : stepL p b = ([], [r]) := by simp [stepL, h, hw]
theorem stepL_pends (p : List UInt8) (b : UInt8) (h : beginsL p = true) (hw : wholeL (p ++ [b]) = none) (hq : beginsL (p ++ [b]) = true) : stepL p b = (p ++ [b], []) := by simp [stepL, h, hw, hq]
theorem stepL_breaks (p : List UInt8) (b : UInt8) (h : beginsL p = true) (hw : wholeL (p ++ [b]) = none) (hq : beginsL (p ++ [b]) = false) : stepL p b = firstL b [65533] := by simp [stepL, h, hw, hq]
theorem firstL_ascii (b : UInt8) (o : List Nat) (h : b.toNat < 128) : firstL b o = ([], o ++ [b.toNat]) := by simp [firstL, h]
theorem firstL_lead (b : UInt8) (o : List Nat) (h : ¬ b.toNat < 128) (hb : beginsL [b] = true) : firstL b o = ([b], o) := by simp [firstL, h, hb]
theorem firstL_bad (b : UInt8) (o : List Nat) (h : ¬ b.toNat < 128) (hb : beginsL [b] = false) : firstL b o = ([], o ++ [65533]) := by simp [firstL, h, hb]
theorem BS.lead (w : World) (b : UInt8) (t : TypeId) : BS (w.alloc (.cells #[.int .u8 (b.toNat : Int)] t)) (w.alloc (.cells #[.int .u8 (b.toNat : Int)] t)).heap.size (.slice (some ⟨w.heap.size, 0, none⟩) 1 1) [b] := (BS.one w b t).more (by simp)
theorem BS.leadAt (w : World) (b : UInt8) (t : TypeId) (g : Nat) (hg : g = w.heap.size) : BS (w.alloc (.cells #[.int .u8 (b.toNat : Int)] t)) (w.alloc (.cells #[.int .u8 (b.toNat : Int)] t)).heap.size (.slice (some ⟨g, 0, none⟩) 1 1) [b] := by
 subst hg
 exact BS.lead w b t
theorem BN.leadAt (w : World) (lo : Nat) (b : UInt8) (t : TypeId) (g : Nat) (hg : g = w.heap.size) (hlo : lo ≤ w.heap.size) : BN (w.alloc (.cells #[.int .u8 (b.toNat : Int)] t)) lo (.slice (some ⟨g, 0, none⟩) 1 1) [b] := by
 refine ⟨BS.leadAt w b t g hg, fun ad n c h _ => ?_⟩
 simp only [Value.slice.injEq, Option.some.injEq] at h
 rw [← h.1]
 show lo ≤ g
 omega
theorem RS.oneAt (w : World) (b : Int) (t : TypeId) (g : Nat) (hg : g = w.heap.size) : RS (w.alloc (.cells #[.int .i32 b] t)) (w.heap.size + 1) (.slice (some ⟨g, 0, none⟩) 1 1) [b] := by
 subst hg
 exact RS.one w b t
theorem stepr_no1 (v : Value) (p : List UInt8) (b : UInt8) (w : World) (hv : BS w w.heap.size v p) (hp : beginsL p = false) (h0 : b.toNat < 128) :
  Calls Tryz.prog 68 #[v, .int .u8 (b.toNat : Int)] w (StepPost p b w) := by
 have hs := stepL_no p b hp
 rw [firstL_ascii b _ h0] at hs
 obtain ⟨A, c, rfl, g1, g2, _⟩ := hv.at_
 unfold maxLen at g2
 have HV := Lib.hid hv
 have HP := Lib.hid hp
 have HS := Lib.hid hs
 clear hv hp hs
 have h0' : (b.toNat : Int) < 128 := by omega
 by_cases hl : 0 < p.length
 ·go_enter Tryz.func68, Tryz.ntmps68
  go_wp2_with (first
   | (go_at_call 87; (with_reducible refine (beginsr_any _ p _ _ HV.out).mono ?_); rintro e w' ⟨rfl, rfl⟩; rw [HP.out])
   | (at_builtin; refine wpl_appR _ rfl (.tmp 39) (.tmp 42) rfl w.heap.size _ _ _ [] [(b.toNat : Int)] rfl rfl (OR.nil _ _) (RS.one w _ _) (by simp) (by simp) ?_; intro v1 w1 hown1 hg1 hbel1 _))
  go_ret2
  exact stepPost_of HS.out (BN.nil _ _) hown1.bs (((Below.refl _ _).alloc (Nat.le_refl _) _).trans hbel1)
 ·have hl' : decide (0 < p.length) = false := decide_eq_false (by omega)
  go_enter Tryz.func68, Tryz.ntmps68
  go_wp2_with (first
   | (at_builtin; refine wpl_appR _ rfl (.tmp 39) (.tmp 42) rfl w.heap.size _ _ _ [] [(b.toNat : Int)] rfl rfl (OR.nil _ _) (RS.one w _ _) (by simp) (by simp) ?_; intro v1 w1 hown1 hg1 hbel1 _))
  go_ret2
  exact stepPost_of HS.out (BN.nil _ _) hown1.bs (((Below.refl _ _).alloc (Nat.le_refl _) _).trans hbel1)
theorem stepr_no2 (v : Value) (p : List UInt8) (b : UInt8) (w : World) (hv : BS w w.heap.size v p) (hp : beginsL p = false) (h0 : ¬ b.toNat < 128) (hb : beginsL [b] = true) :
  Calls Tryz.prog 68 #[v, .int .u8 (b.toNat : Int)] w (StepPost p b w) := by
 have hs := stepL_no p b hp
 rw [firstL_lead b _ h0 hb] at hs
 obtain ⟨A, c, rfl, g1, g2, _⟩ := hv.at_
 unfold maxLen at g2
 have HV := Lib.hid hv
 have HP := Lib.hid hp
 have HS := Lib.hid hs
 have HB := Lib.hid hb
 clear hv hp hs hb
 have h0' : decide ((b.toNat : Int) < 128) = false := by simp; omega
 by_cases hl : 0 < p.length
 ·go_enter Tryz.func68, Tryz.ntmps68
  go_wp2_with (first
   | (go_at_call 87; (with_reducible refine (beginsr_any _ p _ _ HV.out).mono ?_); rintro e w' ⟨rfl, rfl⟩; rw [HP.out])
   | (go_at_call 87; (with_reducible refine (beginsr_any _ [b] _ _ (BS.lead w b _)).mono ?_); rintro e w' ⟨rfl, rfl⟩; rw [HB.out]))
  go_ret2
  exact stepPost_of HS.out (BN.leadAt _ _ b _ _ (by simp) (by simp; try omega)) (RS.nil _ _) (((Below.refl _ _).alloc (Nat.le_refl _) _).alloc (by simp) _)
 ·have hl' : decide (0 < p.length) = false := decide_eq_false (by omega)
  go_enter Tryz.func68, Tryz.ntmps68
  go_wp2_with (first
   | (go_at_call 87; (with_reducible refine (beginsr_any _ [b] _ _ (BS.lead w b _)).mono ?_); rintro e w' ⟨rfl, rfl⟩; rw [HB.out]))
  go_ret2
  exact stepPost_of HS.out (BN.leadAt _ _ b _ _ (by simp) (by simp; try omega)) (RS.nil _ _) (((Below.refl _ _).alloc (Nat.le_refl _) _).alloc (by simp) _)
theorem stepr_no3 (v : Value) (p : List UInt8) (b : UInt8) (w : World) (hv : BS w w.heap.size v p) (hp : beginsL p = false) (h0 : ¬ b.toNat < 128) (hb : beginsL [b] = false) :
  Calls Tryz.prog 68 #[v, .int .u8 (b.toNat : Int)] w (StepPost p b w) := by
 have hs := stepL_no p b hp
 rw [firstL_bad b _ h0 hb] at hs
 obtain ⟨A, c, rfl, g1, g2, _⟩ := hv.at_
 unfold maxLen at g2
 have HV := Lib.hid hv
 have HP := Lib.hid hp
 have HS := Lib.hid hs
 have HB := Lib.hid hb
 clear hv hp hs hb
 have h0' : decide ((b.toNat : Int) < 128) = false := by simp; omega
 by_cases hl : 0 < p.length
 ·go_enter Tryz.func68, Tryz.ntmps68
  go_wp2_with (first
   | (go_at_call 87; (with_reducible refine (beginsr_any _ p _ _ HV.out).mono ?_); rintro e w' ⟨rfl, rfl⟩; rw [HP.out])
   | (go_at_call 87; (with_reducible refine (beginsr_any _ [b] _ _ (BS.lead w b _)).mono ?_); rintro e w' ⟨rfl, rfl⟩; rw [HB.out])
   | (at_builtin; refine wpl_appR _ rfl (.tmp 51) (.tmp 52) rfl w.heap.size _ _ _ [] [(65533 : Int)] rfl rfl (OR.nil _ _) (RS.oneAt _ _ _ _ (by simp)) (by simp) (by simp; omega) ?_; intro v1 w1 hown1 hg1 hbel1 _))
  go_ret2
  exact stepPost_of HS.out (BN.nil _ _) hown1.bs ((((Below.refl _ _).alloc (Nat.le_refl _) _).alloc (by simp) _).trans hbel1)
 ·have hl' : decide (0 < p.length) = false := decide_eq_false (by omega)
  go_enter Tryz.func68, Tryz.ntmps68
  go_wp2_with (first
   | (go_at_call 87; (with_reducible refine (beginsr_any _ [b] _ _ (BS.lead w b _)).mono ?_); rintro e w' ⟨rfl, rfl⟩; rw [HB.out])
   | (at_builtin; refine wpl_appR _ rfl (.tmp 51) (.tmp 52) rfl w.heap.size _ _ _ [] [(65533 : Int)] rfl rfl (OR.nil _ _) (RS.oneAt _ _ _ _ (by simp)) (by simp) (by simp; omega) ?_; intro v1 w1 hown1 hg1 hbel1 _))
  go_ret2
  exact stepPost_of HS.out (BN.nil _ _) hown1.bs ((((Below.refl _ _).alloc (Nat.le_refl _) _).alloc (by simp) _).trans hbel1)
theorem stepr_some (v : Value) (p : List UInt8) (b : UInt8) (w : World) (hv : BS w w.heap.size v p) (hp : beginsL p = true) (r : Nat) (hw : wholeL (p ++ [b]) = some r) :
  Calls Tryz.prog 68 #[v, .int .u8 (b.toNat : Int)] w (StepPost p b w) := by
 have hs := stepL_some p b r hp hw
 obtain ⟨A, c, rfl, g1, g2, _⟩ := hv.at_
 unfold maxLen at g2
 have hpl := beginsL_len p hp
 have hl : 0 < p.length := by omega
 have hl3 : p.length ≤ 3 := by omega
 have HV := Lib.hid hv
 have HP := Lib.hid hp
 have HS := Lib.hid hs
 clear hv hs hpl
 have HW := Lib.hid hw
 clear hw hp
 go_enter Tryz.func68, Tryz.ntmps68
 go_wp2_with (first
   | (go_at_call 87; (with_reducible refine (beginsr_any _ p _ _ HV.out).mono ?_); rintro e w' ⟨rfl, rfl⟩; rw [HP.out])
   | (at_builtin; refine wpl_app _ rfl (.const (.slice none 0 0)) (.tmp 17) rfl w.heap.size _ (.slice none 0 0) _ [] p rfl rfl (OB.nil _ _) HV.out (by simp; omega) (Nat.le_refl _) ?_; intro v1 w1 hown0 hg1 hbel1 _; have hown1 : OB w1 w.heap.size v1 p := hown0; clear hown0 hg1; have hz1 := hbel1.size)
   | (at_builtin; refine wpl_app _ rfl (.tmp 18) (.tmp 20) rfl w.heap.size _ _ _ p [b] rfl rfl (hown1.alloc _) (BS.one w1 b _) (by simp; omega) (by simp; omega) ?_; intro v2 w2 hown2 hg2 hbel2 _; have hbq := (hbel1.alloc hz1 _).trans hbel2; have hz2 := hbq.size)
   | (go_at_call 94; (with_reducible refine (wholer_any _ p b _ _ hown2.bs HP.out).mono ?_); rintro e w' ⟨rfl, he⟩; rw [HW.out] at he; obtain ⟨r', hr', rfl⟩ : ∃ r', some r = some r' ∧ e = .returned (.tuple #[.int .i32 (r' : Int), .bool true]) := (by rcases he with he | ⟨he, _⟩; exact he; cases he); injection hr' with hr'; subst hr'))
 go_ret2
 exact stepPost_of HS.out (BN.nil _ _) ((RS.one w2 _ _).more (by simp)) (hbq.alloc hz2 _)
theorem stepr_pends (v : Value) (p : List UInt8) (b : UInt8) (w : World) (hv : BS w w.heap.size v p) (hp : beginsL p = true) (hw : wholeL (p ++ [b]) = none) (hq : beginsL (p ++ [b]) = true) :
  Calls Tryz.prog 68 #[v, .int .u8 (b.toNat : Int)] w (StepPost p b w) := by
 have hs := stepL_pends p b hp hw hq
 obtain ⟨A, c, rfl, g1, g2, _⟩ := hv.at_
 unfold maxLen at g2
 have hpl := beginsL_len p hp
 have hl : 0 < p.length := by omega
 have hl3 : p.length ≤ 3 := by omega
 have HV := Lib.hid hv
 have HP := Lib.hid hp
 have HS := Lib.hid hs
 clear hv hs hpl
 have HW := Lib.hid hw
 have HQ := Lib.hid hq
 clear hw hp hq
 go_enter Tryz.func68, Tryz.ntmps68
 go_wp2_with (first
   | (go_at_call 87; (with_reducible refine (beginsr_any _ p _ _ HV.out).mono ?_); rintro e w' ⟨rfl, rfl⟩; rw [HP.out])
   | (at_builtin; refine wpl_app _ rfl (.const (.slice none 0 0)) (.tmp 17) rfl w.heap.size _ (.slice none 0 0) _ [] p rfl rfl (OB.nil _ _) HV.out (by simp; omega) (Nat.le_refl _) ?_; intro v1 w1 hown0 hg1 hbel1 _; have hown1 : OB w1 w.heap.size v1 p := hown0; clear hown0 hg1; have hz1 := hbel1.size)
   | (at_builtin; refine wpl_app _ rfl (.tmp 18) (.tmp 20) rfl w.heap.size _ _ _ p [b] rfl rfl (hown1.alloc _) (BS.one w1 b _) (by simp; omega) (by simp; omega) ?_; intro v2 w2 hown2 hg2 hbel2 _; have hbq := (hbel1.alloc hz1 _).trans hbel2; have hz2 := hbq.size)
   | (go_at_call 94; (with_reducible refine (wholer_any _ p b _ _ hown2.bs HP.out).mono ?_); rintro e w' ⟨rfl, he⟩; rw [HW.out] at he; obtain ⟨r', rfl⟩ : ∃ r' : Int, e = .returned (.tuple #[.int .i32 r', .bool false]) := (by rcases he with ⟨_, he, _⟩ | ⟨_, he⟩; cases he; exact he))
   | (go_at_call 87; (with_reducible refine (beginsr_any _ (p ++ [b]) _ _ hown2.bs).mono ?_); rintro e w' ⟨rfl, rfl⟩; rw [HQ.out]))
 go_ret2
 exact stepPost_of HS.out hown2.bn (RS.nil _ _) hbq
theorem stepr_b1 (v : Value) (p : List UInt8) (b : UInt8) (w : World) (hv : BS w w.heap.size v p) (hp : beginsL p = true) (hw : wholeL (p ++ [b]) = none) (hq : beginsL (p ++ [b]) = false) (h0 : b.toNat < 128) :
  Calls Tryz.prog 68 #[v, .int .u8 (b.toNat : Int)] w (StepPost p b w) := by
 have hs := stepL_breaks p b hp hw hq
 rw [firstL_ascii b _ h0] at hs
 obtain ⟨A, c, rfl, g1, g2, _⟩ := hv.at_
 unfold maxLen at g2
 have hpl := beginsL_len p hp
 have hl : 0 < p.length := by omega
 have hl3 : p.length ≤ 3 := by omega
 have HV := Lib.hid hv
 have HP := Lib.hid hp
 have HS := Lib.hid hs
 clear hv hs hpl
 have HW := Lib.hid hw
 have HQ := Lib.hid hq
 clear hw hp hq
 have h0' : (b.toNat : Int) < 128 := by omega
 go_enter Tryz.func68, Tryz.ntmps68
 go_wp2_with (first
   | (go_at_call 87; (with_reducible refine (beginsr_any _ p _ _ HV.out).mono ?_); rintro e w' ⟨rfl, rfl⟩; rw [HP.out])
   | (at_builtin; refine wpl_app _ rfl (.const (.slice none 0 0)) (.tmp 17) rfl w.heap.size _ (.slice none 0 0) _ [] p rfl rfl (OB.nil _ _) HV.out (by simp; omega) (Nat.le_refl _) ?_; intro v1 w1 hown0 hg1 hbel1 _; have hown1 : OB w1 w.heap.size v1 p := hown0; clear hown0 hg1; have hz1 := hbel1.size)
   | (at_builtin; refine wpl_app _ rfl (.tmp 18) (.tmp 20) rfl w.heap.size _ _ _ p [b] rfl rfl (hown1.alloc _) (BS.one w1 b _) (by simp; omega) (by simp; omega) ?_; intro v2 w2 hown2 hg2 hbel2 _; have hbq := (hbel1.alloc hz1 _).trans hbel2; have hz2 := hbq.size)
   | (go_at_call 94; (with_reducible refine (wholer_any _ p b _ _ hown2.bs HP.out).mono ?_); rintro e w' ⟨rfl, he⟩; rw [HW.out] at he; obtain ⟨r', rfl⟩ : ∃ r' : Int, e = .returned (.tuple #[.int .i32 r', .bool false]) := (by rcases he with ⟨_, he, _⟩ | ⟨_, he⟩; cases he; exact he))
   | (go_at_call 87; (with_reducible refine (beginsr_any _ (p ++ [b]) _ _ hown2.bs).mono ?_); rintro e w' ⟨rfl, rfl⟩; rw [HQ.out])
   | (at_builtin; refine wpl_appR _ rfl (.tmp 33) (.tmp 34) rfl w.heap.size _ _ _ [] [(65533 : Int)] rfl rfl (OR.nil _ _) (RS.oneAt _ _ _ _ (by simp)) (by simp) (by simp; omega) ?_; intro v3 w3 hown3 hg3 hbel3 _; have hb3 := (hbq.alloc hz2 _).trans hbel3; have hz3 := hb3.size)
   | (at_builtin; refine wpl_appR _ rfl (.tmp 39) (.tmp 42) rfl w.heap.size _ _ _ [65533] [(b.toNat : Int)] rfl rfl (hown3.alloc _) (RS.oneAt _ _ _ _ (by simp)) (by simp) (by simp; omega) ?_; intro v4 w4 hown4 hg4 hbel4 _; have hb4 := (hb3.alloc hz3 _).trans hbel4))
 go_ret2
 exact stepPost_of HS.out (BN.nil _ _) hown4.bs hb4
theorem stepr_b2 (v : Value) (p : List UInt8) (b : UInt8) (w : World) (hv : BS w w.heap.size v p) (hp : beginsL p = true) (hw : wholeL (p ++ [b]) = none) (hq : beginsL (p ++ [b]) = false) (h0 : ¬ b.toNat < 128) (hb : beginsL [b] = true) :
  Calls Tryz.prog 68 #[v, .int .u8 (b.toNat : Int)] w (StepPost p b w) := by
 have hs := stepL_breaks p b hp hw hq
 rw [firstL_lead b _ h0 hb] at hs
 obtain ⟨A, c, rfl, g1, g2, _⟩ := hv.at_
 unfold maxLen at g2
 have hpl := beginsL_len p hp
 have hl : 0 < p.length := by omega
 have hl3 : p.length ≤ 3 := by omega
 have HV := Lib.hid hv
 have HP := Lib.hid hp
 have HS := Lib.hid hs
 clear hv hs hpl
 have HW := Lib.hid hw
 have HQ := Lib.hid hq
 have HB := Lib.hid hb
 clear hw hp hq hb
 have h0' : decide ((b.toNat : Int) < 128) = false := by simp; omega
 go_enter Tryz.func68, Tryz.ntmps68
 go_wp2_with (first
   | (go_at_call 87; (with_reducible refine (beginsr_any _ p _ _ HV.out).mono ?_); rintro e w' ⟨rfl, rfl⟩; rw [HP.out])
   | (at_builtin; refine wpl_app _ rfl (.const (.slice none 0 0)) (.tmp 17) rfl w.heap.size _ (.slice none 0 0) _ [] p rfl rfl (OB.nil _ _) HV.out (by simp; omega) (Nat.le_refl _) ?_; intro v1 w1 hown0 hg1 hbel1 _; have hown1 : OB w1 w.heap.size v1 p := hown0; clear hown0 hg1; have hz1 := hbel1.size)
   | (at_builtin; refine wpl_app _ rfl (.tmp 18) (.tmp 20) rfl w.heap.size _ _ _ p [b] rfl rfl (hown1.alloc _) (BS.one w1 b _) (by simp; omega) (by simp; omega) ?_; intro v2 w2 hown2 hg2 hbel2 _; have hbq := (hbel1.alloc hz1 _).trans hbel2; have hz2 := hbq.size)
   | (go_at_call 94; (with_reducible refine (wholer_any _ p b _ _ hown2.bs HP.out).mono ?_); rintro e w' ⟨rfl, he⟩; rw [HW.out] at he; obtain ⟨r', rfl⟩ : ∃ r' : Int, e = .returned (.tuple #[.int .i32 r', .bool false]) := (by rcases he with ⟨_, he, _⟩ | ⟨_, he⟩; cases he; exact he))
   | (go_at_call 87; (with_reducible refine (beginsr_any _ (p ++ [b]) _ _ hown2.bs).mono ?_); rintro e w' ⟨rfl, rfl⟩; rw [HQ.out])
   | (at_builtin; refine wpl_appR _ rfl (.tmp 33) (.tmp 34) rfl w.heap.size _ _ _ [] [(65533 : Int)] rfl rfl (OR.nil _ _) (RS.oneAt _ _ _ _ (by simp)) (by simp) (by simp; omega) ?_; intro v3 w3 hown3 hg3 hbel3 _; have hb3 := (hbq.alloc hz2 _).trans hbel3; have hz3 := hb3.size)
   | (go_at_call 87; (with_reducible refine (beginsr_any _ [b] _ _ (BS.lead w3 b _)).mono ?_); rintro e w' ⟨rfl, rfl⟩; rw [HB.out]))
 go_ret2
 exact stepPost_of HS.out (BN.leadAt _ _ b _ _ (by simp) (by simp; try omega)) (((hown3.alloc _).alloc _).bs) ((hb3.alloc hz3 _).alloc (by simp; omega) _)
theorem stepr_b3 (v : Value) (p : List UInt8) (b : UInt8) (w : World) (hv : BS w w.heap.size v p) (hp : beginsL p = true) (hw : wholeL (p ++ [b]) = none) (hq : beginsL (p ++ [b]) = false) (h0 : ¬ b.toNat < 128) (hb : beginsL [b] = false) :
  Calls Tryz.prog 68 #[v, .int .u8 (b.toNat : Int)] w (StepPost p b w) := by
 have hs := stepL_breaks p b hp hw hq
 rw [firstL_bad b _ h0 hb] at hs
 obtain ⟨A, c, rfl, g1, g2, _⟩ := hv.at_
 unfold maxLen at g2
 have hpl := beginsL_len p hp
 have hl : 0 < p.length := by omega
 have hl3 : p.length ≤ 3 := by omega
 have HV := Lib.hid hv
 have HP := Lib.hid hp
 have HS := Lib.hid hs
 clear hv hs hpl
 have HW := Lib.hid hw
 have HQ := Lib.hid hq
 have HB := Lib.hid hb
 clear hw hp hq hb
 have h0' : decide ((b.toNat : Int) < 128) = false := by simp; omega
 go_enter Tryz.func68, Tryz.ntmps68
 go_wp2_with (first
   | (go_at_call 87; (with_reducible refine (beginsr_any _ p _ _ HV.out).mono ?_); rintro e w' ⟨rfl, rfl⟩; rw [HP.out])
   | (at_builtin; refine wpl_app _ rfl (.const (.slice none 0 0)) (.tmp 17) rfl w.heap.size _ (.slice none 0 0) _ [] p rfl rfl (OB.nil _ _) HV.out (by simp; omega) (Nat.le_refl _) ?_; intro v1 w1 hown0 hg1 hbel1 _; have hown1 : OB w1 w.heap.size v1 p := hown0; clear hown0 hg1; have hz1 := hbel1.size)
   | (at_builtin; refine wpl_app _ rfl (.tmp 18) (.tmp 20) rfl w.heap.size _ _ _ p [b] rfl rfl (hown1.alloc _) (BS.one w1 b _) (by simp; omega) (by simp; omega) ?_; intro v2 w2 hown2 hg2 hbel2 _; have hbq := (hbel1.alloc hz1 _).trans hbel2; have hz2 := hbq.size)
   | (go_at_call 94; (with_reducible refine (wholer_any _ p b _ _ hown2.bs HP.out).mono ?_); rintro e w' ⟨rfl, he⟩; rw [HW.out] at he; obtain ⟨r', rfl⟩ : ∃ r' : Int, e = .returned (.tuple #[.int .i32 r', .bool false]) := (by rcases he with ⟨_, he, _⟩ | ⟨_, he⟩; cases he; exact he))
   | (go_at_call 87; (with_reducible refine (beginsr_any _ (p ++ [b]) _ _ hown2.bs).mono ?_); rintro e w' ⟨rfl, rfl⟩; rw [HQ.out])
   | (at_builtin; refine wpl_appR _ rfl (.tmp 33) (.tmp 34) rfl w.heap.size _ _ _ [] [(65533 : Int)] rfl rfl (OR.nil _ _) (RS.oneAt _ _ _ _ (by simp)) (by simp) (by simp; omega) ?_; intro v3 w3 hown3 hg3 hbel3 _; have hb3 := (hbq.alloc hz2 _).trans hbel3; have hz3 := hb3.size)
   | (go_at_call 87; (with_reducible refine (beginsr_any _ [b] _ _ (BS.lead w3 b _)).mono ?_); rintro e w' ⟨rfl, rfl⟩; rw [HB.out])
   | (at_builtin; refine wpl_appR _ rfl (.tmp 51) (.tmp 52) rfl w.heap.size _ _ _ [65533] [(65533 : Int)] rfl rfl ((hown3.alloc _).alloc _) (RS.oneAt _ _ _ _ (by simp)) (by simp) (by simp; omega) ?_; intro v4 w4 hown4 hg4 hbel4 _; have hb4 := ((hb3.alloc hz3 _).alloc (by simp; omega) _).trans hbel4))
 go_ret2
 exact stepPost_of HS.out (BN.nil _ _) hown4.bs hb4
theorem stepr_any (v : Value) (p : List UInt8) (b : UInt8) (w : World) (hv : BS w w.heap.size v p) : Calls Tryz.prog 68 #[v, .int .u8 (b.toNat : Int)] w (StepPost p b w) := by
 cases hp : beginsL p
 ·by_cases h0 : b.toNat < 128
  ·exact stepr_no1 v p b w hv hp h0
  cases hb : beginsL [b]
  ·exact stepr_no3 v p b w hv hp h0 hb
  ·exact stepr_no2 v p b w hv hp h0 hb
 ·cases hw : wholeL (p ++ [b]) with
  | some r => exact stepr_some v p b w hv hp r hw
  | none =>
   cases hq : beginsL (p ++ [b])
   ·by_cases h0 : b.toNat < 128
    ·exact stepr_b1 v p b w hv hp hw hq h0
    cases hb : beginsL [b]
    ·exact stepr_b3 v p b w hv hp hw hq h0 hb
    ·exact stepr_b2 v p b w hv hp hw hq h0 hb
   ·exact stepr_pends v p b w hv hp hw hq
def SL {α : Type} (f : α → Value) (w : World) (S : Nat → Prop) (v : Value) (l : List α) : Prop :=
 ∃ A c, v = .slice A l.length c ∧ l.length ≤ c ∧ c ≤ maxLen ∧ (0 < l.length → ∃ ad, A = some ad ∧ S ad.block ∧ ∀ j b, l[j]? = some b → w.cell? (ad.add j) = some (f b))
section
variable {α : Type} {f : α → Value} {w w' : World} {S S' : Nat → Prop} {v : Value} {l : List α}
theorem SL.keep (h : SL f w S v l) (hk : ∀ p : Addr, S p.block → w'.cell? p = w.cell? p) : SL f w' S v l := by
 obtain ⟨A, c, hv, h1, h2, h3⟩ := h
 refine ⟨A, c, hv, h1, h2, fun hl => ?_⟩
 obtain ⟨ad, hA, hb, hc⟩ := h3 hl
 exact ⟨ad, hA, hb, fun j b hj => (hk _ (by rw [block_add]; exact hb)).trans (hc j b hj)⟩
theorem SL.mono (h : SL f w S v l) (hS : ∀ x, S x → S' x) : SL f w S' v l := by
 obtain ⟨A, c, hv, h1, h2, h3⟩ := h
 refine ⟨A, c, hv, h1, h2, fun hl => ?_⟩
 obtain ⟨ad, hA, hb, hc⟩ := h3 hl
 exact ⟨ad, hA, hS _ hb, hc⟩
theorem SL.nil (f : α → Value) (w : World) (S : Nat → Prop) : SL f w S (.slice none 0 0) [] := ⟨none, 0, rfl, by simp, by simp [maxLen], fun h => absurd h (by simp)⟩
theorem SL.form (h : SL f w S v l) : ∃ A c, v = .slice A l.length c ∧ l.length ≤ c ∧ c ≤ 9223372036854775807 := by
 obtain ⟨A, c, hv, h1, h2, _⟩ := h
 unfold maxLen at h2
 exact ⟨A, c, hv, h1, by omega⟩
end
theorem SL.bs {w : World} {S : Nat → Prop} {B : Nat} {v : Value} {l : List UInt8} (h : SL vB w S v l) (hS : ∀ x, S x → x < B) : BS w B v l := h.mono hS
theorem SL.is {w : World} {S : Nat → Prop} {B : Nat} {v : Value} {l : List Int} (h : SL vI w S v l) (hS : ∀ x, S x → x < B) : IS w B v l := h.mono hS
def NewB (w : World) (lo : Nat) (x : Nat) : Prop := lo ≤ x ∧ x < w.heap.size
theorem BN.sl {w : World} {lo : Nat} {v : Value} {l : List UInt8} (h : BN w lo v l) : SL vB w (NewB w lo) v l := by
 obtain ⟨⟨A, c, hv, h1, h2, h3⟩, h4⟩ := h
 refine ⟨A, c, hv, h1, h2, fun hl => ?_⟩
 obtain ⟨ad, hA, hb, hc⟩ := h3 hl
 exact ⟨ad, hA, ⟨h4 ad _ _ (by rw [hv, hA]) hl, hb⟩, hc⟩
theorem OB.sl {w : World} {base : Nat} {v : Value} {l : List UInt8} (h : OB w base v l) : SL vB w (NewB w base) v l := h.bn.sl
theorem OI.sl {w : World} {base : Nat} {v : Value} {l : List Int} (h : OI w base v l) : SL vI w (NewB w base) v l := by
 obtain ⟨A, c, hv, h1, h2, h3⟩ := h.bs
 refine ⟨A, c, hv, h1, h2, fun hl => ?_⟩
 obtain ⟨ad, hA, hb, hc⟩ := h3 hl
 subst hA
 exact ⟨ad, rfl, ⟨(World.ownsRow.lt h ad.block (by rw [hv]; rfl)).1, hb⟩, hc⟩
def PV (w : World) (S : Nat → Prop) (v : Value) (p : Pr) : Prop :=
 ∃ vp vi vu, v = .agg #[.int .i64 (p.mode : Int), .int .u8 (p.priv : Int), vp, vi, vu] ∧ SL vI w S vp p.params ∧ SL vB w S vi p.inter ∧ SL vB w S vu p.utf
theorem PV.keep {w w' : World} {S : Nat → Prop} {v : Value} {p : Pr} (h : PV w S v p) (hk : ∀ q : Addr, S q.block → w'.cell? q = w.cell? q) : PV w' S v p := by
 obtain ⟨vp, vi, vu, hv, h1, h2, h3⟩ := h
 exact ⟨vp, vi, vu, hv, h1.keep hk, h2.keep hk, h3.keep hk⟩
theorem PV.mono {w : World} {S S' : Nat → Prop} {v : Value} {p : Pr} (h : PV w S v p) (hS : ∀ x, S x → S' x) : PV w S' v p := by
 obtain ⟨vp, vi, vu, hv, h1, h2, h3⟩ := h
 exact ⟨vp, vi, vu, hv, h1.mono hS, h2.mono hS, h3.mono hS⟩
def AcsV (w : World) (S : Nat → Prop) : List Value → List Ac → Prop
 | xs, [] => xs = []
 | xs, a :: l => ∃ vp vi ys, xs = [.int .i64 (a.kind : Int), .int .i32 a.r, .int .u8 (a.b : Int), .int .u8 (a.priv : Int), vp, vi] ++ ys ∧ SL vI w S vp a.params ∧ SL vB w S vi a.inter ∧ AcsV w S ys l
section
variable {w w' : World} {S S' : Nat → Prop}
theorem AcsV.keep {xs : List Value} {l : List Ac} (h : AcsV w S xs l) (hk : ∀ q : Addr, S q.block → w'.cell? q = w.cell? q) : AcsV w' S xs l := by
 induction l generalizing xs with
 | nil => exact h
 | cons a l ih =>
  obtain ⟨vp, vi, ys, hx, h1, h2, h3⟩ := h
  exact ⟨vp, vi, ys, hx, h1.keep hk, h2.keep hk, ih h3⟩
theorem AcsV.mono {xs : List Value} {l : List Ac} (h : AcsV w S xs l) (hS : ∀ x, S x → S' x) : AcsV w S' xs l := by
 induction l generalizing xs with
 | nil => exact h
 | cons a l ih =>
  obtain ⟨vp, vi, ys, hx, h1, h2, h3⟩ := h
  exact ⟨vp, vi, ys, hx, h1.mono hS, h2.mono hS, ih h3⟩
theorem AcsV.len {xs : List Value} {l : List Ac} (h : AcsV w S xs l) : xs.length = l.length * 6 := by
 induction l generalizing xs with
 | nil => rw [show xs = [] from h]; simp
 | cons a l ih =>
  obtain ⟨vp, vi, ys, hx, h1, h2, h3⟩ := h
  have := ih h3
  rw [hx]
  simp
  omega
theorem AcsV.append {xs ys : List Value} {l m : List Ac} (h : AcsV w S xs l) (h2 : AcsV w S ys m) : AcsV w S (xs ++ ys) (l ++ m) := by
 induction l generalizing xs with
 | nil => rw [show xs = [] from h]; exact h2
 | cons a l ih =>
  obtain ⟨vp, vi, zs, hx, g1, g2, g3⟩ := h
  exact ⟨vp, vi, zs ++ ys, by rw [hx, List.append_assoc], g1, g2, ih g3⟩
theorem SL.one {α : Type} {f : α → Value} {v : Value} {l : List α} (h : SL f w S v l) : v.oneCell' = true := by
 obtain ⟨A, c, rfl, _⟩ := h
 rfl
theorem AcsV.ones {xs : List Value} {l : List Ac} (h : AcsV w S xs l) : ∀ u ∈ xs, u.oneCell' = true := by
 induction l generalizing xs with
 | nil => rw [show xs = [] from h]; simp
 | cons a l ih =>
  obtain ⟨vp, vi, ys, hx, h1, h2, h3⟩ := h
  intro u hu
  rw [hx] at hu
  simp only [List.cons_append, List.nil_append, List.mem_cons] at hu
  rcases hu with rfl | rfl | rfl | rfl | rfl | rfl | hu
  ·rfl
  ·rfl
  ·rfl
  ·rfl
  ·exact h1.one
  ·exact h2.one
  ·exact ih h3 u hu
end
def AS (w : World) (T S : Nat → Prop) (v : Value) (l : List Ac) : Prop :=
 ∃ A c xs, v = .slice A l.length c ∧ l.length ≤ c ∧ c ≤ maxLen ∧ AcsV w S xs l ∧ (0 < l.length → ∃ ad, A = some ad ∧ T ad.block ∧ ∀ j u, xs[j]? = some u → w.cell? (ad.add j) = some u)
def OA (w : World) (base : Nat) (S : Nat → Prop) (v : Value) (l : List Ac) : Prop :=
 ∃ xs, w.ownsRow base 85 6 v l.length xs ∧ AcsV w S xs l ∧ (∀ g, v.ownBlock = some g → ¬ S g)
section
variable {w w' : World} {T T' S S' : Nat → Prop} {v : Value} {l : List Ac} {base : Nat}
theorem AS.keep (h : AS w T S v l) (hT : ∀ q : Addr, T q.block → w'.cell? q = w.cell? q) (hk : ∀ q : Addr, S q.block → w'.cell? q = w.cell? q) : AS w' T S v l := by
 obtain ⟨A, c, xs, hv, h1, h2, h3, h4⟩ := h
 refine ⟨A, c, xs, hv, h1, h2, h3.keep hk, fun hl => ?_⟩
 obtain ⟨ad, hA, hb, hc⟩ := h4 hl
 exact ⟨ad, hA, hb, fun j u hj => (hT _ (by rw [block_add]; exact hb)).trans (hc j u hj)⟩
theorem AS.mono (h : AS w T S v l) (hT : ∀ x, T x → T' x) (hS : ∀ x, S x → S' x) : AS w T' S' v l := by
 obtain ⟨A, c, xs, hv, h1, h2, h3, h4⟩ := h
 refine ⟨A, c, xs, hv, h1, h2, h3.mono hS, fun hl => ?_⟩
 obtain ⟨ad, hA, hb, hc⟩ := h4 hl
 exact ⟨ad, hA, hT _ hb, hc⟩
theorem AS.nil (w : World) (T S : Nat → Prop) : AS w T S (.slice none 0 0) [] := ⟨none, 0, [], rfl, by simp, by simp [maxLen], rfl, fun h => absurd h (by simp)⟩
theorem AS.form (h : AS w T S v l) : ∃ A c, v = .slice A l.length c ∧ l.length ≤ c ∧ c ≤ 9223372036854775807 := by
 obtain ⟨A, c, xs, hv, h1, h2, _⟩ := h
 unfold maxLen at h2
 exact ⟨A, c, hv, h1, by omega⟩
theorem OA.nil (w : World) (base : Nat) (S : Nat → Prop) : OA w base S (.slice none 0 0) [] := ⟨[], World.ownsRow_nil w base _ _, rfl, fun g h => by cases h⟩
theorem OA.as (h : OA w base S v l) : AS w (NewB w base) S v l := by
 obtain ⟨xs, h1, h2, h3⟩ := h
 rcases h1.2 with ⟨rfl, hn⟩ | ⟨g, cap, cur, rfl, hbg, hg, hnc, hcm, hcs, htake⟩
 ·have : l = [] := List.eq_nil_of_length_eq_zero hn
  subst this
  exact AS.nil _ _ _
 ·exact ⟨_, cap, xs, rfl, hnc, hcm, h2, fun hl => ⟨_, rfl, World.ownsRow.lt h1 g rfl, fun j u hj => h1.cells (g := g) rfl j u hj⟩⟩
theorem OA.lt (h : OA w base S v l) (g : Nat) (hg : v.ownBlock = some g) : base ≤ g ∧ g < w.heap.size := by
 obtain ⟨xs, h1, _⟩ := h
 exact World.ownsRow.lt h1 g hg
theorem OA.weak (h : OA w base S v l) (h1 : ∀ x, S x → S' x) (h2 : ∀ g, v.ownBlock = some g → ¬ S' g) : OA w base S' v l := by
 obtain ⟨xs, a, b, c⟩ := h
 exact ⟨xs, a, b.mono h1, h2⟩
theorem OA.lower {b2 : Nat} (h : OA w base S v l) (hb : b2 ≤ base) : OA w b2 S v l := by
 obtain ⟨xs, ⟨a1, a2⟩, b, c⟩ := h
 refine ⟨xs, ⟨a1, ?_⟩, b, c⟩
 rcases a2 with a2 | ⟨g, cap, cur, hv, hg, hr⟩
 ·exact .inl a2
 ·exact .inr ⟨g, cap, cur, hv, Nat.le_trans hb hg, hr⟩
theorem OA.below (h : OA w base S v l) (hS : ∀ x, S x → x < w.heap.size) (hb : Below w.heap.size w w') : OA w' base S v l := by
 obtain ⟨xs, a, b, c⟩ := h
 have hg : w.grownBy w' none := ⟨hb.os, hb.tape, hb.output, hb.size, fun i hi _ => hb.block i hi⟩
 refine ⟨xs, ?_, b.keep (fun q hq => hb.cell (hS _ hq)), c⟩
 refine World.ownsRow.kept a hg ?_
 cases hv : v.ownBlock with
 | none => exact Or.inl rfl
 | some k => exact Or.inr (by simp)
end
theorem AS.one (w : World) (S : Nat → Prop) (a : Ac) (vp vi : Value) (t : TypeId) (hp : SL vI w S vp a.params) (hi : SL vB w S vi a.inter) (hS : ∀ x, S x → x < w.heap.size) :
  AS (w.alloc (.cells #[.int .i64 (a.kind : Int), .int .i32 a.r, .int .u8 (a.b : Int), .int .u8 (a.priv : Int), vp, vi] t)) (fun x => x = w.heap.size) S (.slice (some ⟨w.heap.size, 0, none⟩) 1 1) [a] := by
 have hk : ∀ q : Addr, S q.block → (w.alloc (.cells #[.int .i64 (a.kind : Int), .int .i32 a.r, .int .u8 (a.b : Int), .int .u8 (a.priv : Int), vp, vi] t)).cell? q = w.cell? q := fun q hq => World.cell?_alloc_lt w _ q (hS _ hq)
 refine ⟨_, 1, [.int .i64 (a.kind : Int), .int .i32 a.r, .int .u8 (a.b : Int), .int .u8 (a.priv : Int), vp, vi], rfl, by simp, by simp [maxLen], ⟨vp, vi, [], rfl, hp.keep hk, hi.keep hk, rfl⟩, fun _ => ⟨_, rfl, rfl, fun j u hj => ?_⟩⟩
 exact World.news_of_block (heap_alloc_new w (.cells #[.int .i64 (a.kind : Int), .int .i32 a.r, .int .u8 (a.b : Int), .int .u8 (a.priv : Int), vp, vi] t)) j u (by simpa using hj)
theorem actInfo : (Tryz.prog.info? 85).map (fun i => (i.zero, i.size, i.bytes)) = some (some (.agg #[.int .i64 0, .int .i32 0, .int .u8 0, .int .u8 0, .slice none 0 0, .slice none 0 0]), 6, 64) := by kernel_rfl
theorem grown_keep {w w' : World} {row : Option Nat} {S : Nat → Prop} (hg : w.grownBy w' row) (hS : ∀ x, S x → x < w.heap.size) (hrow : ∀ g, row = some g → ¬ S g) : ∀ q : Addr, S q.block → w'.cell? q = w.cell? q := fun q hq =>
 World.cell?_of_block (hg.block q.block (hS _ hq) (fun e => hrow _ e.symm hq))
theorem run_appA (w : World) (ty : TypeId) {base : Nat} {S T R : Nat → Prop} {v u : Value} {l m : List Ac} (hown : OA w base S v l) (hr : AS w R T u m) (hS : ∀ x, S x → x < w.heap.size) (hT : ∀ x, T x → x < w.heap.size) (hTg : ∀ g, v.ownBlock = some g → ¬ T g)
  (hlen : l.length + m.length ≤ 1099511627776) (hbase : base ≤ w.heap.size) :
  ∃ v' w', (Builtin.append_ #[80, 80] ty #[v, u]).run Tryz.prog w = .ok v' w' ∧ OA w' base (fun x => S x ∨ T x) v' (l ++ m) ∧ w.grownBy w' v.ownBlock ∧ Below base w w' ∧ (v'.ownBlock = v.ownBlock ∨ v'.ownBlock = some w.heap.size) := by
 obtain ⟨i0, hi0, hz0, hz1, hz2⟩ := info_parts actInfo
 obtain ⟨xs, hx, hax, hng⟩ := hown
 have hlt := World.ownsRow.lt hx
 obtain ⟨A, c, ys, rfl, h1, h2, h3, h4⟩ := hr
 have hlen6 : ys.length = m.length * 6 := h3.len
 rcases Nat.eq_zero_or_pos m.length with h0 | h0
 ·have hm : m = [] := List.eq_nil_of_length_eq_zero h0
  subst hm
  refine ⟨v, w, ?_, ⟨xs, by simpa using hx, by rw [List.append_nil]; exact hax.mono (fun _ h => .inl h), fun g hg h => h.elim (hng g hg) (hTg g hg)⟩, World.grownBy.refl w _, Below.refl _ _, .inl rfl⟩
  rcases hx.2 with ⟨rfl, hn⟩ | ⟨g, cap, cur, rfl, _, _, hnc, _⟩
  ·cases A <;> simp [Builtin.append_, run_underlying Tryz.underlying80, sizeOf, typeInfo, hi0, Builtin.lenOf, Builtin.firstCells, loadCells, loadCellsFrom]
  ·cases A <;> simp [Builtin.append_, run_underlying Tryz.underlying80, sizeOf, typeInfo, hi0, Builtin.lenOf, Builtin.firstCells, hnc, storeCells, loadCells, loadCellsFrom]
 ·obtain ⟨ad, rfl, hb, hc⟩ := h4 h0
  obtain ⟨v', w', hrun, h5, h6, _, h7⟩ := run_append_own_at (P := Tryz.prog) w base 80 ty 85 i0 _ 6 64 Tryz.underlying80 hi0 hz0 hz1 hz2 rfl (by omega) v l.length xs hx ad m.length c ys hlen6 hc h3.ones (by simp only [maxLen]; omega) (by omega) hbase
  have k1 := grown_keep h6 hS (fun g hg => hng g hg)
  have k2 := grown_keep h6 hT hTg
  refine ⟨v', w', hrun, ⟨xs ++ ys, by rw [List.length_append]; exact h5, ((hax.keep k1).mono (fun _ h => .inl h)).append ((h3.keep k2).mono (fun _ h => .inr h)), fun g hg h => ?_⟩, h6, (Below.refl _ _).grown h6 hbase (fun k hk => (hlt k hk).1), h7⟩
  rcases h7 with e | e
  ·rw [e] at hg
   exact h.elim (hng g hg) (hTg g hg)
  ·rw [e] at hg
   injection hg with hg
   subst hg
   rcases h with h | h
   ·exact absurd (hS _ h) (by omega)
   ·exact absurd (hT _ h) (by omega)
theorem wpl_appA (w : World) {ops : Array Oper} {rest : List Oper} {o : Oper} {a : Act} {Q : Exit → Act → World → Prop} (hgd : o.guard = none) (s x : Operand)
  (ho : o.op = .call { callee := .builtin .append, args := #[s, x], argTypes := #[80, 80] })
  (base : Nat) (S R T : Nat → Prop) (v u : Value) (l m : List Ac) (hs : a.eval s = v) (hx : a.eval x = u) (hown : OA w base S v l) (hr : AS w R T u m) (hS : ∀ x, S x → x < w.heap.size) (hT : ∀ x, T x → x < w.heap.size) (hTg : ∀ g, v.ownBlock = some g → ¬ T g) (hlen : l.length + m.length ≤ 1099511627776) (hbase : base ≤ w.heap.size)
  (h : ∀ v' w', OA w' base (fun x => S x ∨ T x) v' (l ++ m) → w.grownBy w' v.ownBlock → Below base w w' → (v'.ownBlock = v.ownBlock ∨ v'.ownBlock = some w.heap.size) → wpList Tryz.prog ops Q rest (a.put o.dst v') w') :
  wpList Tryz.prog ops Q (o :: rest) a w := by
 refine wpList_plain hgd fun K hK => ?_
 obtain ⟨v', w', hrun, h2, h3, h4, h5⟩ := run_appA w o.type hown hr hS hT hTg hlen hbase
 unfold Oper.wp execOp
 simp only [ho, resolve, invoke, builtin, Sem.run_bind, Sem.run_pure, Result.andThen_ok, List.map_toArray, List.map_cons, List.map_nil, hs, hx, hrun]
 exact hK _ _ (h v' w' h2 h3 h4 h5)
@[reducible] def vPq (p : Pr) (Ap Ai Au : Option Addr) (cp ci cu : Nat) : Array Value := #[.int .i64 (p.mode : Int), .int .u8 (p.priv : Int), .slice Ap p.params.length cp, .slice Ai p.inter.length ci, .slice Au p.utf.length cu]
theorem SL.get {α : Type} {f : α → Value} {w : World} {S : Nat → Prop} {A : Option Addr} {n c : Nat} {l : List α} (h : SL f w S (.slice A n c) l) (k : Nat) (x : α) (hx : l[k]? = some x) : ∃ ad, A = some ad ∧ w.cell? (ad.add k) = some (f x) := by
 obtain ⟨A', c', hv, _, _, h3⟩ := h
 simp only [Value.slice.injEq] at hv
 have hk : k < l.length := (List.getElem?_eq_some_iff.1 hx).1
 obtain ⟨ad, hA, _, hc⟩ := h3 (by omega)
 exact ⟨ad, hv.1.trans hA, hc k x hx⟩
theorem AcsV.get {w : World} {S : Nat → Prop} {xs : List Value} {l : List Ac} (h : AcsV w S xs l) (k : Nat) (a : Ac) (ha : l[k]? = some a) : ∃ vp vi, SL vI w S vp a.params ∧ SL vB w S vi a.inter ∧ ∀ i u, [Value.int .i64 (a.kind : Int), .int .i32 a.r, .int .u8 (a.b : Int), .int .u8 (a.priv : Int), vp, vi][i]? = some u → xs[k * 6 + i]? = some u := by
 induction k generalizing xs l with
 | zero =>
  match l, h, ha with
  | x :: l, h, ha =>
   simp only [List.getElem?_cons_zero, Option.some.injEq] at ha
   subst ha
   obtain ⟨vp, vi, ys, hx, h1, h2, h3⟩ := h
   refine ⟨vp, vi, h1, h2, fun i u hu => ?_⟩
   rw [hx, Nat.zero_mul, Nat.zero_add]
   have hi := (List.getElem?_eq_some_iff.1 hu).1
   rw [List.getElem?_append_left hi]
   exact hu
 | succ k ih =>
  match l, h, ha with
  | x :: l, h, ha =>
   obtain ⟨vp, vi, ys, hx, h1, h2, h3⟩ := h
   obtain ⟨vp', vi', g1, g2, g3⟩ := ih h3 (by simpa using ha)
   refine ⟨vp', vi', g1, g2, fun i u hu => ?_⟩
   rw [hx, List.getElem?_append_right (by simp; omega), ← g3 i u hu]
   congr 1
   simp
   omega
theorem add_at (ad : Addr) (n i : Nat) (hi : 0 < i) : ad.add (n + i) = ⟨(ad.add n).block, (ad.add n).off + i, none⟩ := by
 unfold Addr.add
 rw [if_neg (by omega)]
 split
 ·next h => subst h; simp
 ·simp [Nat.add_assoc]
def SixAt (w : World) (xa : Addr) (a : Ac) (vp vi : Value) : Prop :=
 w.cell? xa = some (.int .i64 (a.kind : Int)) ∧ w.cell? ⟨xa.block, xa.off + 1, none⟩ = some (.int .i32 a.r) ∧ w.cell? ⟨xa.block, xa.off + 2, none⟩ = some (.int .u8 (a.b : Int)) ∧ w.cell? ⟨xa.block, xa.off + 3, none⟩ = some (.int .u8 (a.priv : Int)) ∧ w.cell? ⟨xa.block, xa.off + 4, none⟩ = some vp ∧ w.cell? ⟨xa.block, xa.off + 5, none⟩ = some vi
theorem AS.get {w : World} {T S : Nat → Prop} {A : Option Addr} {n c : Nat} {l : List Ac} (h : AS w T S (.slice A n c) l) (k : Nat) (a : Ac) (ha : l[k]? = some a) :
  ∃ ad vp vi, A = some ad ∧ T (ad.add (k * 6)).block ∧ SL vI w S vp a.params ∧ SL vB w S vi a.inter ∧ SixAt w (ad.add (k * 6)) a vp vi := by
 obtain ⟨A', c', xs, hv, _, _, h3, h4⟩ := h
 simp only [Value.slice.injEq] at hv
 have hk : k < l.length := (List.getElem?_eq_some_iff.1 ha).1
 obtain ⟨ad, hA, hT, hc⟩ := h4 (by omega)
 obtain ⟨vp, vi, g1, g2, g3⟩ := h3.get k a ha
 refine ⟨ad, vp, vi, hv.1.trans hA, by rw [block_add]; exact hT, g1, g2, hc _ _ (g3 0 _ rfl), ?_, ?_, ?_, ?_, ?_⟩
 ·rw [← add_at _ _ _ (by omega)]; exact hc _ _ (g3 1 _ rfl)
 ·rw [← add_at _ _ _ (by omega)]; exact hc _ _ (g3 2 _ rfl)
 ·rw [← add_at _ _ _ (by omega)]; exact hc _ _ (g3 3 _ rfl)
 ·rw [← add_at _ _ _ (by omega)]; exact hc _ _ (g3 4 _ rfl)
 ·rw [← add_at _ _ _ (by omega)]; exact hc _ _ (g3 5 _ rfl)
theorem inter_yes (b : UInt8) (h0 : 32 ≤ b.toNat) (h1 : b.toNat ≤ 47) : interB b = true := by simp [interB, h0, h1]
theorem inter_no (b : UInt8) (h : b.toNat < 32 ∨ 47 < b.toNat) : interB b = false := by
 rw [← Bool.not_eq_true]
 simp [interB]
 omega
theorem interr_any (b : UInt8) (w : World) : Calls Tryz.prog 88 #[.int .u8 (b.toNat : Int)] w fun e w' => e = .returned (.bool (interB b)) ∧ w = w' := by
 by_cases h0 : 32 ≤ b.toNat
 ·have d0 : (32 : Int) ≤ (b.toNat : Int) := by omega
  by_cases h1 : b.toNat ≤ 47
  ·have d1 : (b.toNat : Int) ≤ 47 := by omega
   rw [inter_yes b h0 h1]
   go_enter Tryz.func88, Tryz.ntmps88
   go_wp2
   go_ret
   exact ⟨rfl, rfl⟩
  ·have d1 : decide ((b.toNat : Int) ≤ 47) = false := by simp; omega
   rw [inter_no b (.inr (by omega))]
   go_enter Tryz.func88, Tryz.ntmps88
   go_wp2
   go_ret
   exact ⟨rfl, rfl⟩
 ·have d0 : decide ((32 : Int) ≤ (b.toNat : Int)) = false := by simp; omega
  rw [inter_no b (.inl (by omega))]
  go_enter Tryz.func88, Tryz.ntmps88
  go_wp2
  go_ret
  exact ⟨rfl, rfl⟩
theorem withr_any (v : Value) (l : List UInt8) (b : UInt8) (w : World) (hv : BS w w.heap.size v l) (hl : l.length ≤ 1048576) : Calls Tryz.prog 95 #[v, .int .u8 (b.toNat : Int)] w fun e w' => ∃ u, e = .returned u ∧ OB w' w.heap.size u (l ++ [b]) ∧ Below w.heap.size w w' := by
 have HV := Lib.hid hv
 obtain ⟨A, c, rfl, g1, g2, -⟩ := hv.at_
 clear hv
 go_enter Tryz.func95, Tryz.ntmps95
 go_wp2_with (first
  | (at_builtin; refine wpl_app _ rfl (.const (.slice none 0 0)) (.tmp 5) rfl w.heap.size _ (.slice none 0 0) _ [] l rfl rfl (OB.nil _ _) HV.out (by simp; omega) (Nat.le_refl _) ?_; intro v1 w1 ho1 hg1 hb1 _; have hz1 := hb1.size)
  | (at_builtin; refine wpl_app _ rfl (.tmp 6) (.tmp 8) rfl w.heap.size _ _ _ ([] ++ l) [b] rfl rfl (ho1.alloc _) (BS.one _ b _) (by simp; omega) (by simp; omega) ?_; intro v2 w2 ho2 hg2 hb2 _))
 go_ret
 exact ⟨v2, rfl, by rw [← List.nil_append l]; exact ho2, (hb1.alloc hz1 _).trans hb2⟩
def PrintsRel (l : List Nat) (w0 : World) (o i : Value) (wr : World) : Prop := ∃ k : Nat, k ≤ l.length ∧ i = .int .i64 (k : Int) ∧ OA wr w0.heap.size (fun _ => False) o (printsL (l.take k)) ∧ Below w0.heap.size w0 wr
theorem AS.print (w : World) (r : Int) (t : TypeId) : AS (w.alloc (.cells #[.int .i64 0, .int .i32 r, .int .u8 0, .int .u8 0, .slice none 0 0, .slice none 0 0] t)) (fun x => x = w.heap.size) (fun _ => False) (.slice (some ⟨w.heap.size, 0, none⟩) 1 1) [acP r] :=
 AS.one w (fun _ => False) (acP r) (.slice none 0 0) (.slice none 0 0) t (SL.nil _ _ _) (SL.nil _ _ _) (fun _ h => h.elim)
theorem printsL_succ (l : List Nat) (k : Nat) (h : k < l.length) : printsL (l.take (k + 1)) = printsL (l.take k) ++ [acP (Int.ofNat l[k])] := by
 unfold printsL
 rw [List.take_succ_eq_append_getElem h, List.map_append]
 rfl
theorem printsr_any (v : Value) (l : List Nat) (w : World) (hv : RS w w.heap.size v (ints l)) (hl : l.length ≤ 1048576) : Calls Tryz.prog 70 #[v] w fun e w' => ∃ u, e = .returned u ∧ OA w' w.heap.size (fun _ => False) u (printsL l) ∧ Below w.heap.size w w' := by
 have hil : (ints l).length = l.length := by simp [ints]
 obtain ⟨A, c, rfl, g1, g2, -⟩ := hv.at_
 have HV := Lib.hid hv
 rw [hil] at g1 HV ⊢
 have HIL := Lib.hid hil
 unfold maxLen at g2
 clear hv hil
 go_enter Tryz.func70, Tryz.ntmps70
 go_wp2
 go_loopw [3, 4] (fun o i wr => PrintsRel l w o i wr) (fun _ i _ => l.length - (intOf i).toNat)
 case atStart => exact ⟨0, Nat.zero_le _, rfl, OA.nil _ _ _, Below.refl _ _⟩
 case round =>
  obtain ⟨k, hk, rfl, ho, hbel⟩ := hrel
  have hz := hbel.size
  by_cases hlt : k < l.length
  ·obtain ⟨ad, hA, hc⟩ : ∃ ad, A = some ad ∧ wr.cell? (ad.add k) = some (vR (Int.ofNat l[k])) := by
    obtain ⟨A', c', hv', _, _, h3⟩ := (HV.out.below hbel).at_
    obtain ⟨ad, hA, hc⟩ := h3 k (by rw [HIL.out]; exact hlt)
    simp only [Value.slice.injEq] at hv'
    refine ⟨ad, hv'.1.trans hA, hc.trans ?_⟩
    simp [ints]
   subst hA
   unfold vR at hc
   have hsucc := printsL_succ l k hlt
   have hpl : (printsL (l.take k)).length ≤ k := by simp [printsL]; omega
   generalize Int.ofNat l[k] = r at *
   have HS := Lib.hid hsucc
   have HO := Lib.hid ho
   have HG : Hid (∀ g, u3.ownBlock = some g → g < wr.heap.size) := fun g hg => (ho.lt g hg).2
   clear hsucc ho
   go_wp2_with (at_builtin; refine wpl_appA _ rfl (.tmp 11) (.tmp 17) rfl w.heap.size (fun _ => False) _ (fun _ => False) _ _ _ [acP r] rfl rfl (HO.out.below (fun _ h => h.elim) ((Below.refl _ _).alloc (Nat.le_refl _) _)) (AS.print _ r _) (fun _ h => h.elim) (fun _ h => h.elim) (fun _ _ h => h) (by simp; omega) (by simp; omega) ?_; intro v3 w3 ho3 hg3 hb3 _)
   go_roundw
   case rel => exact ⟨k + 1, hlt, by go_num, by rw [HS.out]; exact ho3.weak (fun _ h => h.elim id id) (fun _ _ h => h), (hbel.alloc hz _).trans hb3⟩
   case measure => simp [intOf]; omega
  ·obtain rfl : k = l.length := by omega
   rw [List.take_length] at ho
   go_wp2
   go_ret
   exact ⟨_, rfl, ho, hbel⟩
theorem formed_two (a c b : UInt8) : formedB [a, c] b = (decide (a.toNat = 239) && decide (c.toNat = 191) && decide (b.toNat = 189)) := by
 rw [Bool.eq_iff_iff]
 simp only [formedB, Bool.and_eq_true, beq_iff_eq, List.cons.injEq, and_true, decide_eq_true_eq, ← UInt8.toNat_inj]
 exact Iff.rfl
theorem formed_not (p : List UInt8) (b : UInt8) (h : p.length ≠ 2) : formedB p b = false := by
 rw [← Bool.not_eq_true]
 intro hh
 simp only [formedB, Bool.and_eq_true, beq_iff_eq] at hh
 rw [hh.1] at h
 exact h rfl
theorem formedr_any (v : Value) (p : List UInt8) (b : UInt8) (B : Nat) (w : World) (hv : BS w B v p) : Calls Tryz.prog 69 #[v, .int .u8 (b.toNat : Int)] w fun e w' => e = .returned (.bool (formedB p b)) ∧ w = w' := by
 by_cases h2 : p.length = 2
 ·match p, hv, h2 with
  | [a, c], hv, _ =>
   obtain ⟨ad, cp, rfl, _, _, ca, hcs⟩ := hv.lits
   have cc := hcs 0 c rfl
   rw [formed_two]
   clear hv hcs
   by_cases e1 : a.toNat = 239
   ·have f1 : ((a.toNat : Int) == 239) = true := beq_iff_eq.2 (by omega)
    by_cases e2 : c.toNat = 191
    ·have f2 : ((c.toNat : Int) == 191) = true := beq_iff_eq.2 (by omega)
     by_cases e3 : b.toNat = 189
     ·have f3 : ((b.toNat : Int) == 189) = true := beq_iff_eq.2 (by omega)
      rw [decide_eq_true e1, decide_eq_true e2, decide_eq_true e3]
      clear e1 e2 e3
      go_enter Tryz.func69, Tryz.ntmps69
      go_wp2
      go_ret
      exact ⟨rfl, rfl⟩
     ·have f3 : ((b.toNat : Int) == 189) = false := beq_eq_false_iff_ne.2 (by omega)
      rw [decide_eq_true e1, decide_eq_true e2, decide_eq_false e3]
      clear e1 e2 e3
      go_enter Tryz.func69, Tryz.ntmps69
      go_wp2
      go_ret
      exact ⟨rfl, rfl⟩
    ·have f2 : ((c.toNat : Int) == 191) = false := beq_eq_false_iff_ne.2 (by omega)
     rw [decide_eq_true e1, decide_eq_false e2]
     clear e1 e2
     go_enter Tryz.func69, Tryz.ntmps69
     go_wp2
     go_ret
     exact ⟨rfl, rfl⟩
   ·have f1 : ((a.toNat : Int) == 239) = false := beq_eq_false_iff_ne.2 (by omega)
    rw [decide_eq_false e1]
    clear e1
    go_enter Tryz.func69, Tryz.ntmps69
    go_wp2
    go_ret
    exact ⟨rfl, rfl⟩
 ·rw [formed_not p b h2]
  obtain ⟨A, c, rfl, _, _, -⟩ := hv.at_
  have f2 : ((p.length : Int) == 2) = false := beq_eq_false_iff_ne.2 (by omega)
  clear h2 hv
  go_enter Tryz.func69, Tryz.ntmps69
  go_wp2
  go_ret
  exact ⟨rfl, rfl⟩
def VtPost (S : Nat → Prop) (r : Pr × List Ac) (w : World) (e : Ending) (w' : World) : Prop :=
 ∃ qv av, e = .returned (.tuple #[qv, av]) ∧ PV w' (fun x => S x ∨ NewB w' w.heap.size x) qv r.1 ∧ AS w' (NewB w' w.heap.size) (fun x => S x ∨ NewB w' w.heap.size x) av r.2 ∧ Below w.heap.size w w'
theorem prM_pv (w : World) (S : Nat → Prop) (m : Nat) : PV w S (.agg #[.int .i64 (m : Int), .int .u8 0, .slice none 0 0, .slice none 0 0, .slice none 0 0]) (prM m) := ⟨_, _, _, rfl, SL.nil _ _ _, SL.nil _ _ _, SL.nil _ _ _⟩
theorem act_new {w W : World} {S : Nat → Prop} (hb : Below w.heap.size w W) (hS : ∀ x, S x → x < w.heap.size) (a : Ac) (vp vi : Value) (t : TypeId) (g : Nat) (hg : g = W.heap.size) (hp : SL vI w S vp a.params) (hi : SL vB w S vi a.inter) (cs : Array Value) (hcs : cs = #[.int .i64 (a.kind : Int), .int .i32 a.r, .int .u8 (a.b : Int), .int .u8 (a.priv : Int), vp, vi]) :
  AS (W.alloc (.cells cs t)).drew (NewB (W.alloc (.cells cs t)).drew w.heap.size) (fun x => S x ∨ NewB (W.alloc (.cells cs t)).drew w.heap.size x) (.slice (some ⟨g, 0, none⟩) 1 1) [a] := by
 subst hg hcs
 have hk : ∀ q : Addr, S q.block → W.cell? q = w.cell? q := fun q hq => hb.cell (hS _ hq)
 have h := AS.one W S a vp vi t (hp.keep hk) (hi.keep hk) (fun x hx => Nat.lt_of_lt_of_le (hS x hx) hb.size)
 have h2 := h.mono (T' := NewB (W.alloc (.cells #[.int .i64 (a.kind : Int), .int .i32 a.r, .int .u8 (a.b : Int), .int .u8 (a.priv : Int), vp, vi] t)) w.heap.size) (fun x hx => by rw [hx]; exact ⟨hb.size, by simp⟩) (fun x hx => Or.inl (b := NewB (W.alloc (.cells #[.int .i64 (a.kind : Int), .int .i32 a.r, .int .u8 (a.b : Int), .int .u8 (a.priv : Int), vp, vi] t)) w.heap.size x) hx)
 exact h2
theorem csir_fin (vp vi vu : Value) (p : Pr) (b : UInt8) (S : Nat → Prop) (w : World) (hp : SL vI w S vp p.params) (hi : SL vB w S vi p.inter) (hu : SL vB w S vu p.utf) (hS : ∀ x, S x → x < w.heap.size) (h64 : 64 ≤ b.toNat) :
  Calls Tryz.prog 96 #[.agg #[.int .i64 (p.mode : Int), .int .u8 (p.priv : Int), vp, vi, vu], .int .u8 (b.toNat : Int)] w (VtPost S (prM 0, [acS p b.toNat]) w) := by
 have HP := Lib.hid hp
 have HI := Lib.hid hi
 have HSS := Lib.hid hS
 obtain ⟨Ap, cp, rfl, _, _⟩ := hp.form
 obtain ⟨Ai, ci, rfl, _, _⟩ := hi.form
 obtain ⟨Au, cu, rfl, _, _⟩ := hu.form
 have d1 : (64 : Int) ≤ (b.toNat : Int) := by omega
 clear hp hi hu hS
 go_enter Tryz.func96, Tryz.ntmps96
 go_wp2
 go_region
 all_goals
  go_wp2
  have hb3 := ((((Below.refl w.heap.size w).alloc (Nat.le_refl _) (.cells (vPq p Ap Ai Au cp ci cu) 28)).alloc (by simp) (.cells #[Value.int .i64 0, Value.int .u8 0, Value.slice none 0 0, Value.slice none 0 0, Value.slice none 0 0] 28)).alloc (by simp; omega) (.cells #[Value.int .i64 6, Value.int .u8 0, Value.slice none 0 0, Value.slice none 0 0, Value.slice none 0 0] 28))
  exact bodyPost_ret (v := .tuple #[.agg #[.int .i64 0, .int .u8 0, .slice none 0 0, .slice none 0 0, .slice none 0 0], .slice (some ⟨w.heap.size + 1 + 1 + 1, 0, none⟩) 1 1]) (by simp [results, Tryz.results96, go_sem]) rfl ⟨_, _, rfl, prM_pv _ _ 0, act_new hb3 HSS.out (acS p b.toNat) _ _ _ _ (by simp) HP.out HI.out _ rfl, (hb3.alloc (by simp; omega) _).drew⟩
theorem three_new (w : World) (x y z : Obj) : Below w.heap.size w (((w.alloc x).alloc y).alloc z) ∧ (((w.alloc x).alloc y).alloc z).heap.size = w.heap.size + 1 + 1 + 1 :=
 ⟨(((Below.refl w.heap.size w).alloc (Nat.le_refl _) x).alloc (by simp) y).alloc (by simp; omega) z, by simp⟩
theorem ignPost {S : Nat → Prop} {w w' : World} (hb : Below w.heap.size w w') : VtPost S (prM 6, []) w (.returned (.tuple #[.agg #[.int .i64 6, .int .u8 0, .slice none 0 0, .slice none 0 0, .slice none 0 0], .slice none 0 0])) w' :=
 ⟨_, _, rfl, prM_pv _ _ 6, AS.nil _ _ _, hb⟩
theorem sl_old {α : Type} {f : α → Value} {w w' : World} {S : Nat → Prop} {v : Value} {l : List α} (hb : Below w.heap.size w w') (hS : ∀ x, S x → x < w.heap.size) (h : SL f w S v l) : SL f w' (fun x => S x ∨ NewB w' w.heap.size x) v l :=
 (h.keep (fun q hq => hb.cell (hS _ hq))).mono (fun _ hx => .inl hx)
theorem csir_i2 (vp vi vu : Value) (p : Pr) (b : UInt8) (S : Nat → Prop) (w : World) (hp : SL vI w S vp p.params) (hi : SL vB w S vi p.inter) (hu : SL vB w S vu p.utf) (hS : ∀ x, S x → x < w.heap.size) (h64 : ¬ 64 ≤ b.toNat) (hB : interB b = true) (hl : 2 ≤ p.inter.length) :
  Calls Tryz.prog 96 #[.agg #[.int .i64 (p.mode : Int), .int .u8 (p.priv : Int), vp, vi, vu], .int .u8 (b.toNat : Int)] w (VtPost S (prM 6, []) w) := by
 have HP := Lib.hid hp
 have HI := Lib.hid hi
 have HU := Lib.hid hu
 have HSS := Lib.hid hS
 obtain ⟨Ap, cp, rfl, p1, p2⟩ := hp.form
 obtain ⟨Ai, ci, rfl, i1, i2⟩ := hi.form
 obtain ⟨Au, cu, rfl, u1, u2⟩ := hu.form
 clear hp hi hu hS
 have HIB := Lib.hid hB
 clear hB
 have d64 : decide ((64 : Int) ≤ (b.toNat : Int)) = false := by simp; omega
 have d2 : (2 : Int) ≤ (p.inter.length : Int) := by omega
 go_enter Tryz.func96, Tryz.ntmps96
 go_wp2_with (go_at_call 88; refine (interr_any b _).mono ?_; rintro e w' ⟨rfl, rfl⟩; rw [HIB.out])
 exact bodyPost_ret (v := .tuple #[.agg #[.int .i64 6, .int .u8 0, .slice none 0 0, .slice none 0 0, .slice none 0 0], .slice none 0 0]) (by simp [results, Tryz.results96, go_sem]) rfl (ignPost (three_new w _ _ _).1)
theorem csir_i5 (vp vi vu : Value) (p : Pr) (b : UInt8) (S : Nat → Prop) (w : World) (hp : SL vI w S vp p.params) (hi : SL vB w S vi p.inter) (hu : SL vB w S vu p.utf) (hS : ∀ x, S x → x < w.heap.size) (h64 : ¬ 64 ≤ b.toNat) (hB : interB b = false) (hm : p.mode = 5) :
  Calls Tryz.prog 96 #[.agg #[.int .i64 (p.mode : Int), .int .u8 (p.priv : Int), vp, vi, vu], .int .u8 (b.toNat : Int)] w (VtPost S (prM 6, []) w) := by
 have HP := Lib.hid hp
 have HI := Lib.hid hi
 have HU := Lib.hid hu
 have HSS := Lib.hid hS
 obtain ⟨Ap, cp, rfl, p1, p2⟩ := hp.form
 obtain ⟨Ai, ci, rfl, i1, i2⟩ := hi.form
 obtain ⟨Au, cu, rfl, u1, u2⟩ := hu.form
 clear hp hi hu hS
 have HIB := Lib.hid hB
 clear hB
 have d64 : decide ((64 : Int) ≤ (b.toNat : Int)) = false := by simp; omega
 have d2 : ((p.mode : Int) == 5) = true := by rw [hm]; rfl
 clear hm
 go_enter Tryz.func96, Tryz.ntmps96
 go_wp2_with (go_at_call 88; refine (interr_any b _).mono ?_; rintro e w' ⟨rfl, rfl⟩; rw [HIB.out])
 exact bodyPost_ret (v := .tuple #[.agg #[.int .i64 6, .int .u8 0, .slice none 0 0, .slice none 0 0, .slice none 0 0], .slice none 0 0]) (by simp [results, Tryz.results96, go_sem]) rfl (ignPost (three_new w _ _ _).1)
theorem csir_col (vp vi vu : Value) (p : Pr) (b : UInt8) (S : Nat → Prop) (w : World) (hp : SL vI w S vp p.params) (hi : SL vB w S vi p.inter) (hu : SL vB w S vu p.utf) (hS : ∀ x, S x → x < w.heap.size) (h64 : ¬ 64 ≤ b.toNat) (hB : interB b = false) (hm : p.mode ≠ 5) (h58 : b.toNat = 58) :
  Calls Tryz.prog 96 #[.agg #[.int .i64 (p.mode : Int), .int .u8 (p.priv : Int), vp, vi, vu], .int .u8 (b.toNat : Int)] w (VtPost S (prM 6, []) w) := by
 have HP := Lib.hid hp
 have HI := Lib.hid hi
 have HU := Lib.hid hu
 have HSS := Lib.hid hS
 obtain ⟨Ap, cp, rfl, p1, p2⟩ := hp.form
 obtain ⟨Ai, ci, rfl, i1, i2⟩ := hi.form
 obtain ⟨Au, cu, rfl, u1, u2⟩ := hu.form
 clear hp hi hu hS
 have HIB := Lib.hid hB
 clear hB
 have d64 : decide ((64 : Int) ≤ (b.toNat : Int)) = false := by simp; omega
 have d5 : ((p.mode : Int) == 5) = false := beq_eq_false_iff_ne.2 (by omega)
 clear hm
 have d2 : ((b.toNat : Int) == 58) = true := beq_iff_eq.2 (by omega)
 clear h58
 go_enter Tryz.func96, Tryz.ntmps96
 go_wp2_with (go_at_call 88; refine (interr_any b _).mono ?_; rintro e w' ⟨rfl, rfl⟩; rw [HIB.out])
 exact bodyPost_ret (v := .tuple #[.agg #[.int .i64 6, .int .u8 0, .slice none 0 0, .slice none 0 0, .slice none 0 0], .slice none 0 0]) (by simp [results, Tryz.results96, go_sem]) rfl (ignPost (three_new w _ _ _).1)
theorem csir_pr1 (vp vi vu : Value) (p : Pr) (b : UInt8) (S : Nat → Prop) (w : World) (hp : SL vI w S vp p.params) (hi : SL vB w S vi p.inter) (hu : SL vB w S vu p.utf) (hS : ∀ x, S x → x < w.heap.size) (h64 : ¬ 64 ≤ b.toNat) (hB : interB b = false) (hm : p.mode ≠ 5) (h58 : b.toNat ≠ 58) (h60 : 60 ≤ b.toNat) (hq : 0 < p.params.length) :
  Calls Tryz.prog 96 #[.agg #[.int .i64 (p.mode : Int), .int .u8 (p.priv : Int), vp, vi, vu], .int .u8 (b.toNat : Int)] w (VtPost S (prM 6, []) w) := by
 have HP := Lib.hid hp
 have HI := Lib.hid hi
 have HU := Lib.hid hu
 have HSS := Lib.hid hS
 obtain ⟨Ap, cp, rfl, p1, p2⟩ := hp.form
 obtain ⟨Ai, ci, rfl, i1, i2⟩ := hi.form
 obtain ⟨Au, cu, rfl, u1, u2⟩ := hu.form
 clear hp hi hu hS
 have HIB := Lib.hid hB
 clear hB
 have d64 : decide ((64 : Int) ≤ (b.toNat : Int)) = false := by simp; omega
 have d5 : ((p.mode : Int) == 5) = false := beq_eq_false_iff_ne.2 (by omega)
 clear hm
 have d58 : ((b.toNat : Int) == 58) = false := beq_eq_false_iff_ne.2 (by omega)
 clear h58
 have d60 : (60 : Int) ≤ (b.toNat : Int) := by omega
 go_enter Tryz.func96, Tryz.ntmps96
 go_wp2_with (go_at_call 88; refine (interr_any b _).mono ?_; rintro e w' ⟨rfl, rfl⟩; rw [HIB.out])
 exact bodyPost_ret (v := .tuple #[.agg #[.int .i64 6, .int .u8 0, .slice none 0 0, .slice none 0 0, .slice none 0 0], .slice none 0 0]) (by simp [results, Tryz.results96, go_sem]) rfl (ignPost (three_new w _ _ _).1)
theorem csir_pr2 (vp vi vu : Value) (p : Pr) (b : UInt8) (S : Nat → Prop) (w : World) (hp : SL vI w S vp p.params) (hi : SL vB w S vi p.inter) (hu : SL vB w S vu p.utf) (hS : ∀ x, S x → x < w.heap.size) (h64 : ¬ 64 ≤ b.toNat) (hB : interB b = false) (hm : p.mode ≠ 5) (h58 : b.toNat ≠ 58) (h60 : 60 ≤ b.toNat) (hq : p.params.length = 0) (hv : p.priv ≠ 0) :
  Calls Tryz.prog 96 #[.agg #[.int .i64 (p.mode : Int), .int .u8 (p.priv : Int), vp, vi, vu], .int .u8 (b.toNat : Int)] w (VtPost S (prM 6, []) w) := by
 have HP := Lib.hid hp
 have HI := Lib.hid hi
 have HU := Lib.hid hu
 have HSS := Lib.hid hS
 obtain ⟨Ap, cp, rfl, p1, p2⟩ := hp.form
 obtain ⟨Ai, ci, rfl, i1, i2⟩ := hi.form
 obtain ⟨Au, cu, rfl, u1, u2⟩ := hu.form
 clear hp hi hu hS
 have HIB := Lib.hid hB
 clear hB
 have d64 : decide ((64 : Int) ≤ (b.toNat : Int)) = false := by simp; omega
 have d5 : ((p.mode : Int) == 5) = false := beq_eq_false_iff_ne.2 (by omega)
 clear hm
 have d58 : ((b.toNat : Int) == 58) = false := beq_eq_false_iff_ne.2 (by omega)
 clear h58
 have d60 : (60 : Int) ≤ (b.toNat : Int) := by omega
 have dq : decide (0 < p.params.length) = false := decide_eq_false (by omega)
 have dv : ((p.priv : Int) != 0) = true := by simp; omega
 clear hq hv
 go_enter Tryz.func96, Tryz.ntmps96
 go_wp2_with (go_at_call 88; refine (interr_any b _).mono ?_; rintro e w' ⟨rfl, rfl⟩; rw [HIB.out])
 exact bodyPost_ret (v := .tuple #[.agg #[.int .i64 6, .int .u8 0, .slice none 0 0, .slice none 0 0, .slice none 0 0], .slice none 0 0]) (by simp [results, Tryz.results96, go_sem]) rfl (ignPost (three_new w _ _ _).1)
theorem csir_pr3 (vp vi vu : Value) (p : Pr) (b : UInt8) (S : Nat → Prop) (w : World) (hp : SL vI w S vp p.params) (hi : SL vB w S vi p.inter) (hu : SL vB w S vu p.utf) (hS : ∀ x, S x → x < w.heap.size) (h64 : ¬ 64 ≤ b.toNat) (hB : interB b = false) (hm : p.mode ≠ 5) (h58 : b.toNat ≠ 58) (h60 : 60 ≤ b.toNat) (hq : p.params.length = 0) (hv : p.priv = 0) :
  Calls Tryz.prog 96 #[.agg #[.int .i64 (p.mode : Int), .int .u8 (p.priv : Int), vp, vi, vu], .int .u8 (b.toNat : Int)] w (VtPost S ({ p with priv := b.toNat }, []) w) := by
 have HP := Lib.hid hp
 have HI := Lib.hid hi
 have HU := Lib.hid hu
 have HSS := Lib.hid hS
 obtain ⟨Ap, cp, rfl, p1, p2⟩ := hp.form
 obtain ⟨Ai, ci, rfl, i1, i2⟩ := hi.form
 obtain ⟨Au, cu, rfl, u1, u2⟩ := hu.form
 clear hp hi hu hS
 have HIB := Lib.hid hB
 clear hB
 have d64 : decide ((64 : Int) ≤ (b.toNat : Int)) = false := by simp; omega
 have d5 : ((p.mode : Int) == 5) = false := beq_eq_false_iff_ne.2 (by omega)
 clear hm
 have d58 : ((b.toNat : Int) == 58) = false := beq_eq_false_iff_ne.2 (by omega)
 clear h58
 have d60 : (60 : Int) ≤ (b.toNat : Int) := by omega
 have dq : decide (0 < p.params.length) = false := decide_eq_false (by omega)
 have dv : ((p.priv : Int) != 0) = false := by simp; omega
 clear hq hv
 go_enter Tryz.func96, Tryz.ntmps96
 go_wp2_with (go_at_call 88; refine (interr_any b _).mono ?_; rintro e w' ⟨rfl, rfl⟩; rw [HIB.out])
 exact bodyPost_ret (v := .tuple #[.agg #[.int .i64 (p.mode : Int), .int .u8 (b.toNat : Int), Value.slice Ap p.params.length cp, Value.slice Ai p.inter.length ci, Value.slice Au p.utf.length cu], .slice none 0 0]) (by simp [results, Tryz.results96, go_sem]) rfl ⟨_, _, rfl, ⟨_, _, _, rfl, sl_old (three_new w _ _ _).1 HSS.out HP.out, sl_old (three_new w _ _ _).1 HSS.out HI.out, sl_old (three_new w _ _ _).1 HSS.out HU.out⟩, AS.nil _ _ _, (three_new w _ _ _).1⟩
end Go.Proofs.YthncoigjfhmldaaGreat
