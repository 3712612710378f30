/- What is proved here: contracts of the program's inner functions on bytes that may be a rune's form (how many bytes a first one asks for, which may be the second, whether bytes fit), and of Begins: memory is left alone. -/
import Derived.Test.YtjbjfhbldodjfaaUtfForm
namespace Go.Proofs.Ytjbjfhbldodjfaa
open Go.RowKit
set_option linter.unusedVariables false

/-- How many bytes a form has that begins with x; 0: there is none. -/
def fsN (x : Nat) : Nat := if x < 128 then 1 else if x < 194 then 0 else if x < 224 then 2 else if x < 240 then 3 else if x < 245 then 4 else 0
theorem fs_1 (x : Nat) (h : x < 128) : fsN x = 1 := by unfold fsN; rw [if_pos h]
theorem fs_0 (x : Nat) (h : 128 ≤ x) (h2 : x < 194) : fsN x = 0 := by unfold fsN; rw [if_neg (by omega), if_pos h2]
theorem fs_2 (x : Nat) (h : 194 ≤ x) (h2 : x < 224) : fsN x = 2 := by unfold fsN; rw [if_neg (by omega), if_neg (by omega), if_pos h2]
theorem fs_3 (x : Nat) (h : 224 ≤ x) (h2 : x < 240) : fsN x = 3 := by unfold fsN; rw [if_neg (by omega), if_neg (by omega), if_neg (by omega), if_pos h2]
theorem fs_4 (x : Nat) (h : 240 ≤ x) (h2 : x < 245) : fsN x = 4 := by unfold fsN; rw [if_neg (by omega), if_neg (by omega), if_neg (by omega), if_neg (by omega), if_pos h2]
theorem fs_5 (x : Nat) (h : 245 ≤ x) : fsN x = 0 := by unfold fsN; rw [if_neg (by omega), if_neg (by omega), if_neg (by omega), if_neg (by omega), if_neg (by omega)]
theorem fs_le (x : Nat) : fsN x ≤ 4 := by unfold fsN; (repeat' split) <;> omega
/-- May c stand at place i + 1 behind a? -/
def okT (a : UInt8) (i : Nat) (c : UInt8) : Bool := if i = 0 then secB a c else contB c
def tailsL (a : UInt8) : Nat → List UInt8 → Bool
  | _, [] => true
  | i, c :: t => okT a i c && tailsL a (i + 1) t
/-- Are bytes the beginning of a form, or all of it? -/
def fitsL : List UInt8 → Bool
  | [] => false
  | a :: t => decide (t.length < fsN a.toNat) && tailsL a 0 t
theorem tails_all (a : UInt8) (t : List UInt8) : ∀ i, (∀ k (h : k < t.length), okT a (i + k) t[k] = true) → tailsL a i t = true := by
  induction t with
  | nil => intro i _; rfl
  | cons c t ih =>
    intro i h
    unfold tailsL
    have h0 := h 0 (by simp)
    have h1 := ih (i + 1) (fun k hk => by
      have := h (k + 1) (by simp; omega)
      rw [show i + 1 + k = i + (k + 1) from by omega]
      simpa using this)
    simp at h0
    rw [h0, h1]
    rfl
theorem tails_not (a : UInt8) (t : List UInt8) : ∀ i k (h : k < t.length), okT a (i + k) t[k] = false → tailsL a i t = false := by
  induction t with
  | nil => intro i k h; simp at h
  | cons c t ih =>
    intro i k h h2
    unfold tailsL
    cases k with
    | zero =>
      simp at h2
      rw [h2]
      rfl
    | succ k =>
      have := ih (i + 1) k (by simpa using h) (by
        rw [show i + 1 + k = i + (k + 1) from by omega]
        simpa using h2)
      rw [this, Bool.and_false]

set_option maxHeartbeats 400000 in
theorem fsize_any (x : Nat) (w : World) (hx : x < 256) : Calls Try.prog 23 #[.int .u8 (x : Int)] w fun e w' => e = .returned (.int .i64 (fsN x : Int)) ∧ w = w' := by
  by_cases h1 : x < 128
  · rw [fs_1 x h1]
    have d1 : (x : Int) < 128 := by omega
    go_enter Try.func23, Try.ntmps23
    go_wp2
    go_ret
    exact ⟨rfl, rfl⟩
  have d1 : decide ((x : Int) < 128) = false := by simp; omega
  by_cases h2 : x < 194
  · rw [fs_0 x (by omega) h2]
    have d2 : (x : Int) < 194 := by omega
    go_enter Try.func23, Try.ntmps23
    go_wp2
    go_ret
    exact ⟨rfl, rfl⟩
  have d2 : decide ((x : Int) < 194) = false := by simp; omega
  by_cases h3 : x < 224
  · rw [fs_2 x (by omega) h3]
    have d3 : (x : Int) < 224 := by omega
    go_enter Try.func23, Try.ntmps23
    go_wp2
    go_ret
    exact ⟨rfl, rfl⟩
  have d3 : decide ((x : Int) < 224) = false := by simp; omega
  by_cases h4 : x < 240
  · rw [fs_3 x (by omega) h4]
    have d4 : (x : Int) < 240 := by omega
    go_enter Try.func23, Try.ntmps23
    go_wp2
    go_ret
    exact ⟨rfl, rfl⟩
  have d4 : decide ((x : Int) < 240) = false := by simp; omega
  by_cases h5 : x < 245
  · rw [fs_4 x (by omega) h5]
    have d5 : (x : Int) < 245 := by omega
    go_enter Try.func23, Try.ntmps23
    go_wp2
    go_ret
    exact ⟨rfl, rfl⟩
  have d5 : decide ((x : Int) < 245) = false := by simp; omega
  rw [fs_5 x (by omega)]
  go_enter Try.func23, Try.ntmps23
  go_wp2
  go_ret
  exact ⟨rfl, rfl⟩

set_option maxHeartbeats 400000 in
theorem second_any (x : Nat) (w : World) (hx : x < 256) : Calls Try.prog 28 #[.int .u8 (x : Int)] w fun e w' => e = .returned (.tuple #[.int .u8 (loB x : Int), .int .u8 (hiB x : Int)]) ∧ w = w' := by
  by_cases h1 : x = 224
  · subst h1
    go_enter Try.func28, Try.ntmps28
    go_wp2
    go_ret2
    exact ⟨rfl, rfl⟩
  by_cases h2 : x = 237
  · subst h2
    go_enter Try.func28, Try.ntmps28
    go_wp2
    go_ret2
    exact ⟨rfl, rfl⟩
  by_cases h3 : x = 240
  · subst h3
    go_enter Try.func28, Try.ntmps28
    go_wp2
    go_ret2
    exact ⟨rfl, rfl⟩
  by_cases h4 : x = 244
  · subst h4
    go_enter Try.func28, Try.ntmps28
    go_wp2
    go_ret2
    exact ⟨rfl, rfl⟩
  have e224 : ((x : Int) == 224) = false := beq_eq_false_iff_ne.2 (by omega)
  have e237 : ((x : Int) == 237) = false := beq_eq_false_iff_ne.2 (by omega)
  have e240 : ((x : Int) == 240) = false := beq_eq_false_iff_ne.2 (by omega)
  have e244 : ((x : Int) == 244) = false := beq_eq_false_iff_ne.2 (by omega)
  rw [lo_other x h1 h3, hi_other x h2 h4]
  clear h1 h2 h3 h4
  go_enter Try.func28, Try.ntmps28
  go_wp2
  go_ret2
  exact ⟨rfl, rfl⟩

def FitPost (l : List UInt8) (w : World) (e : Ending) (w' : World) : Prop := e = .returned (.bool (fitsL l)) ∧ w = w'
theorem fitPost_of {l : List UInt8} {w : World} {b : Bool} (h : b = fitsL l) : FitPost l w (.returned (.bool b)) w := ⟨by rw [h], rfl⟩
def FitRel (a : UInt8) (t : List UInt8) (m : Nat) (i : Value) : Prop := i = .int .i64 0 ∨ ∃ k : Nat, 1 ≤ k ∧ k ≤ m ∧ i = .int .i64 (k : Int) ∧ ∀ j (h : j < t.length), j < k → okT a j t[j] = true
theorem fits_yes (a : UInt8) (t : List UInt8) (h : t.length < fsN a.toNat) (h2 : ∀ j (h : j < t.length), okT a j t[j] = true) : fitsL (a :: t) = true := by
  show (decide (t.length < fsN a.toNat) && tailsL a 0 t) = _
  rw [tails_all a t 0 (fun k hk => by simpa using h2 k hk), Bool.and_true]
  exact decide_eq_true h
theorem fits_no (a : UInt8) (t : List UInt8) (k : Nat) (h : k < t.length) (h2 : okT a k t[k] = false) : fitsL (a :: t) = false := by
  show (decide (t.length < fsN a.toNat) && tailsL a 0 t) = _
  rw [tails_not a t 0 k h (by simpa using h2), Bool.and_false]
theorem fits_long (a : UInt8) (t : List UInt8) (h : fsN a.toNat ≤ t.length) : fitsL (a :: t) = false := by
  show (decide (t.length < fsN a.toNat) && tailsL a 0 t) = _
  rw [decide_eq_false (by omega), Bool.false_and]
theorem okT_zero (a : UInt8) (t : List UInt8) (c : Nat) (h : 0 < t.length) (hc : (t[0]'h).toNat = c) (x : Nat) (hx : a.toNat = x) : okT a 0 t[0] = (decide (loB x ≤ c) && decide (c ≤ hiB x)) := by
  unfold okT secB
  rw [if_pos rfl, hc, hx]
theorem okT_pos (a : UInt8) (c : UInt8) (k : Nat) (h : 1 ≤ k) : okT a k c = contB c := by
  unfold okT
  rw [if_neg (by omega)]

set_option maxHeartbeats 1000000 in
set_option maxRecDepth 100000 in
theorem fits_cons (ad : Addr) (cp n : Nat) (a : UInt8) (t : List UInt8) (x : Nat) (w : World) (hx : a.toNat = x) (ca : w.cell? ad = some (.int .u8 (x : Int))) (hcs : ∀ j b, t[j]? = some b → w.cell? ⟨ad.block, ad.off + (j + 1), none⟩ = some (.int .u8 (b.toNat : Int)))
    (hn : n = t.length + 1) (hlen : n ≤ cp) (hcp : cp ≤ 9223372036854775807) : Calls Try.prog 22 #[.slice (some ad) n cp] w (FitPost (a :: t) w) := by
  have hx1 : x < 256 := by rw [← hx]; exact a.toNat_lt
  have HX := Lib.hid hx
  have HC := Lib.hid hcs
  have hn1 : 1 ≤ n := by omega
  have HT := Lib.hid hn
  clear hx hcs hn
  have hfs := fs_le x
  have e0 : ((n : Int) == 0) = false := beq_eq_false_iff_ne.2 (by omega)
  obtain ⟨N, hN⟩ : ∃ N, fsN x = N := ⟨_, rfl⟩
  have HN := Lib.hid hN
  rw [hN] at hfs
  clear hN
  by_cases hf : n ≤ N
  · have HF : Hid (t.length < fsN a.toNat) := by
      have := HT.out
      rw [HX.out, HN.out]
      show t.length < N
      omega
    have d1 : decide (N < n) = false := by simp; omega
    by_cases hc1 : cp = 1
    · obtain rfl : n = 1 := by omega
      have hnil : t = [] := List.eq_nil_of_length_eq_zero (by have := HT.out; omega)
      subst hnil
      subst hc1
      go_enter Try.func22, Try.ntmps22
      go_wp2_with (go_at_call 23; refine (fsize_any x w hx1).mono ?_; rintro e w' ⟨rfl, rfl⟩; rw [HN.out])
      go_loop [22] (fun i => i = .int .i64 0) (fun i => 1 - (intOf i).toNat)
      case atStart => rfl
      case round =>
        obtain rfl := hrel
        go_wp2
        go_ret
        exact fitPost_of (fits_yes a [] HF.out (fun j h => by simp at h)).symm
    · obtain ⟨m, hm⟩ : ∃ m, n - 1 = m := ⟨_, rfl⟩
      have hmn : m < n := by omega
      have HM : Hid (m = t.length) := by
        have := HT.out
        show m = t.length
        omega
      go_enter Try.func22, Try.ntmps22
      go_wp2_with (go_at_call 23; refine (fsize_any x w hx1).mono ?_; rintro e w' ⟨rfl, rfl⟩; rw [HN.out])
      clear hm d1 e0
      go_loop [22] (fun i => FitRel a t m i) (fun i => m - (intOf i).toNat)
      case atStart => exact .inl rfl
      case round =>
        rcases hrel with rfl | ⟨k, hk1, hk2, rfl, hok⟩
        · by_cases hlt : 0 < m
          · have ht : 0 < t.length := by rw [← HM.out]; exact hlt
            have hc := HC.out 0 t[0] (List.getElem?_eq_getElem ht)
            obtain ⟨c, hce⟩ : ∃ c, (t[0]'ht).toNat = c := ⟨_, rfl⟩
            have hc1 : c < 256 := by rw [← hce]; exact UInt8.toNat_lt _
            rw [hce] at hc
            have HO : Hid _ := okT_zero a t c ht hce x HX.out
            have hlo := lo_ge x
            have hhi := hiB_le x
            clear hce
            obtain ⟨L, hL⟩ : ∃ L, loB x = L := ⟨_, rfl⟩
            obtain ⟨H, hH⟩ : ∃ H, hiB x = H := ⟨_, rfl⟩
            rw [hL] at hlo HO
            rw [hH] at hhi HO
            have HL := Lib.hid hL
            have HH := Lib.hid hH
            clear hL hH
            by_cases c1 : c < L
            · have HZ := Lib.hid (fits_no a t 0 ht (by rw [HO.out, decide_eq_false (by omega), Bool.false_and]))
              go_wp2_with (go_at_call 28; refine (second_any x w hx1).mono ?_; rintro e w' ⟨rfl, rfl⟩; rw [HL.out, HH.out])
              go_ret
              exact fitPost_of HZ.out.symm
            have d1 : decide (c < L) = false := by simp; omega
            by_cases c2 : H < c
            · have HZ := Lib.hid (fits_no a t 0 ht (by rw [HO.out, decide_eq_false (show ¬ c ≤ H by omega), Bool.and_false]))
              go_wp2_with (go_at_call 28; refine (second_any x w hx1).mono ?_; rintro e w' ⟨rfl, rfl⟩; rw [HL.out, HH.out])
              go_ret
              exact fitPost_of HZ.out.symm
            have d2 : decide (H < c) = false := by simp; omega
            have HZ : Hid (okT a 0 t[0] = true) := by
              rw [HO.out, decide_eq_true (show L ≤ c by omega), decide_eq_true (show c ≤ H by omega)]
              rfl
            go_wp2_with (go_at_call 28; refine (second_any x w hx1).mono ?_; rintro e w' ⟨rfl, rfl⟩; rw [HL.out, HH.out])
            go_round
            case rel => exact .inr ⟨1, by omega, by omega, rfl, fun j h hj => by obtain rfl : j = 0 := by omega
                                                                                 exact HZ.out⟩
            case measure => simp [intOf]; omega
          · have hm0 : m = 0 := by omega
            subst hm0
            have hnil : t = [] := List.eq_nil_of_length_eq_zero HM.out.symm
            subst hnil
            go_wp2
            go_ret
            exact fitPost_of (fits_yes a [] HF.out (fun j h => by simp at h)).symm
        · have HK := Lib.hid hok
          clear hok
          have e1 : ((k : Int) == 0) = false := beq_eq_false_iff_ne.2 (by omega)
          by_cases hlt : k < m
          · have ht : k < t.length := by rw [← HM.out]; exact hlt
            have hc0 := HC.out k t[k] (List.getElem?_eq_getElem ht)
            have hc : w.cell? ⟨ad.block, ad.off + 1 + k, none⟩ = some (.int .u8 ((t[k]).toNat : Int)) := by
              rw [← hc0, show ad.off + 1 + k = ad.off + (k + 1) from by omega]
            clear hc0
            have HO := Lib.hid (okT_pos a t[k] k hk1)
            have hci := contB_iff t[k]
            obtain ⟨c, hce⟩ : ∃ c, (t[k]'ht).toNat = c := ⟨_, rfl⟩
            have hc1 : c < 256 := by rw [← hce]; exact UInt8.toNat_lt _
            rw [hce] at hc hci
            have HI := Lib.hid hci
            clear hce hci
            by_cases c1 : c < 128
            · have c1' : (c : Int) < 128 := by omega
              have HZ := Lib.hid (fits_no a t k ht (by rw [HO.out, ← Bool.not_eq_true, HI.out]; omega))
              go_wp2
              go_ret
              exact fitPost_of HZ.out.symm
            have d1 : decide ((c : Int) < 128) = false := by simp; omega
            by_cases c2 : 191 < c
            · have c2' : 191 < (c : Int) := by omega
              have HZ := Lib.hid (fits_no a t k ht (by rw [HO.out, ← Bool.not_eq_true, HI.out]; omega))
              go_wp2
              go_ret
              exact fitPost_of HZ.out.symm
            have d2 : decide (191 < (c : Int)) = false := by simp; omega
            have HZ : Hid (okT a k t[k] = true) := by
              rw [HO.out]
              exact HI.out.2 (by omega)
            go_wp2
            go_round
            case rel => exact .inr ⟨k + 1, by omega, by omega, by go_num, fun j h hj => by
              by_cases hjk : j = k
              · subst hjk
                exact HZ.out
              · exact HK.out j h (by omega)⟩
            case measure => simp [intOf]; omega
          · have hkm : k = m := by omega
            subst hkm
            have HZ := Lib.hid (fits_yes a t HF.out (fun j h => HK.out j h (by rw [HM.out]; exact h)))
            go_wp2
            go_ret
            exact fitPost_of HZ.out.symm
  · have HF : Hid (fsN a.toNat ≤ t.length) := by
      have := HT.out
      rw [HX.out, HN.out]
      show N ≤ t.length
      omega
    have d1 : N < n := by omega
    go_enter Try.func22, Try.ntmps22
    go_wp2_with (go_at_call 23; refine (fsize_any x w hx1).mono ?_; rintro e w' ⟨rfl, rfl⟩; rw [HN.out])
    go_ret
    exact fitPost_of (fits_long a t HF.out).symm

theorem fits_nil (A : Option Addr) (cp : Nat) (w : World) : Calls Try.prog 22 #[.slice A 0 cp] w (FitPost [] w) := by
  go_enter Try.func22, Try.ntmps22
  go_wp2
  go_ret
  exact fitPost_of rfl
/-- fits. -/
theorem fits_any (v : Value) (l : List UInt8) (B : Nat) (w : World) (hv : BS w B v l) : Calls Try.prog 22 #[v] w (FitPost l w) := by
  match l, hv with
  | [], hv =>
    obtain ⟨A, c, rfl, _⟩ := hv
    exact fits_nil A c w
  | a :: t, hv =>
    obtain ⟨ad, cp, rfl, h1, h2, ca, hcs⟩ := hv.lits
    unfold maxLen at h2
    exact fits_cons ad cp _ a t a.toNat w rfl ca hcs rfl h1 (by omega)
end Go.Proofs.Ytjbjfhbldodjfaa
