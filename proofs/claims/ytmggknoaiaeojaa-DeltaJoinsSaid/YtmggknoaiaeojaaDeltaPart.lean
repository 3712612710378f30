/- What is proved here: contracts of the program's functions that read one part of a delta: memory is left alone. -/
import Derived.Test.YtmggknoaiaeojaaDeltaProg2
namespace Go.Proofs.Ytmggknoaiaeojaa
open Go.RowKit
set_option linter.unusedVariables false
set_option linter.unusedSimpArgs false

/-! ### plain: one part -/
def sizeE (n room : Nat) : Nat := if n = 0 then 21 else if room < n then 25 else 0
def bytesL (l : List UInt8) (n room : Nat) : List UInt8 × List UInt8 × Nat :=
  if sizeE n room ≠ 0 then ([], [], sizeE n room) else if l.length < n then ([], [], 22) else (l.take n, l.drop n, 0)
def oldL (old l : List UInt8) (n room : Nat) : List UInt8 × List UInt8 × Nat :=
  if (readL l).2.2 ≠ 0 then ([], [], (readL l).2.2) else if sizeE n room ≠ 0 then ([], [], sizeE n room)
  else if old.length < (readL l).1 ∨ old.length - (readL l).1 < n then ([], [], 21) else ((old.drop (readL l).1).take n, l.drop (readL l).2.1, 0)
def partL (old d : List UInt8) (room : Nat) : List UInt8 × List UInt8 × Nat :=
  if (readL d).2.2 ≠ 0 then ([], [], (readL d).2.2) else if (readL d).1 % 2 = 1 then oldL old (d.drop (readL d).2.1) ((readL d).1 / 2) room else bytesL (d.drop (readL d).2.1) ((readL d).1 / 2) room
theorem applyF_part (old : List UInt8) (f : Nat) (d : List UInt8) (room : Nat) (out : List UInt8) (hd : 0 < d.length) (hf : d.length ≤ f) :
    applyF old f d room out = if (partL old d room).2.2 ≠ 0 then ([], (partL old d room).2.2) else applyF old f (partL old d room).2.1 (room - (partL old d room).1.length) (out ++ (partL old d room).1) := by
  rcases hr : readL d with ⟨v, k, e⟩
  unfold partL
  rw [hr]
  by_cases he : e ≠ 0
  · simp only [he, if_true, not_false_eq_true, ne_eq]
    exact applyF_err old f d room out v k e hd hf hr he
  · have he : e = 0 := by omega
    subst he
    simp only [ne_eq, not_true_eq_false, if_false]
    by_cases hv : v % 2 = 1
    · rw [if_pos hv]
      unfold oldL sizeE
      rcases hr2 : readL (d.drop k) with ⟨a, j, e2⟩
      by_cases he2 : e2 ≠ 0
      · simp only [he2, if_true, not_false_eq_true, ne_eq]
        exact applyF_odd_err old f d room out v k a j e2 hf hr hv hr2 he2
      · have he2 : e2 = 0 := by omega
        subst he2
        rw [applyF_odd old f d room out v k a j hf hr hv hr2]
        simp only [ne_eq, not_true_eq_false, if_false]
        by_cases h0 : v / 2 = 0
        · simp [h0]
        · by_cases h1 : room < v / 2
          · simp [h0, h1]
          · by_cases h2 : old.length < a ∨ old.length - a < v / 2
            · simp [h0, h1, h2]
            · simp only [h0, h1, h2, if_false, not_true_eq_false, ne_eq]
              have hl : ((old.drop a).take (v / 2)).length = v / 2 := by simp; omega
              rw [hl]
    · rw [if_neg hv]
      unfold bytesL sizeE
      rw [applyF_even old f d room out v k hf hr (by omega)]
      by_cases h0 : v / 2 = 0
      · simp [h0]
      · by_cases h1 : room < v / 2
        · simp [h0, h1]
        · by_cases h2 : (d.drop k).length < v / 2
          · simp only [h0, h1, h2, if_false, if_true, not_true_eq_false, ne_eq]
            simp
          · simp only [h0, h1, h2, if_false, not_true_eq_false, ne_eq]
            have hl : ((d.drop k).take (v / 2)).length = v / 2 := by simp at h2 ⊢; omega
            rw [hl]

/-- What a call answers that reads a part. -/
def PartPost (x : List UInt8 × List UInt8 × Nat) (w : World) (B : Nat) (e : Ending) (w' : World) : Prop :=
  ∃ pv rv, e = .returned (.tuple #[pv, rv, .int .i64 (x.2.2 : Int)]) ∧ BS w B pv x.1 ∧ BS w B rv x.2.1 ∧ ∃ m, w' = w.drewN m
theorem part_err {w w' : World} {B e : Nat} {c : Int} (x : List UInt8 × List UInt8 × Nat) (hx : x = ([], [], e)) (hc : c = (e : Int)) (hw : ∃ m, w' = w.drewN m) : PartPost x w B (.returned (.tuple #[.slice none 0 0, .slice none 0 0, .int .i64 c])) w' := by
  subst hx hc
  exact ⟨_, _, rfl, BS.nil _ _, BS.nil _ _, hw⟩

set_option maxHeartbeats 400000 in
theorem checkSize_any (n r : Int) (w : World) (h0 : 0 ≤ n) (h1 : n < 18446744073709551616) (h2 : 0 ≤ r) (h3 : r < 18446744073709551616) : Calls Try.prog 34 #[.int .u64 n, .int .u64 r] w fun e w' => e = .returned (.int .i64 (sizeE n.toNat r.toNat : Int)) ∧ w' = w := by
  by_cases hn : n = 0
  · subst hn
    go_enter Try.func34, Try.ntmps34
    go_wp2
    go_ret
    exact ⟨rfl, rfl⟩
  · have d0 : (n == 0) = false := beq_eq_false_iff_ne.2 hn
    by_cases hr : r < n
    · have HE := Lib.hid (show sizeE n.toNat r.toNat = 25 by unfold sizeE; rw [if_neg (by omega), if_pos (by omega)])
      go_enter Try.func34, Try.ntmps34
      go_wp2
      go_ret
      exact ⟨by rw [HE.out]; rfl, rfl⟩
    · have HE := Lib.hid (show sizeE n.toNat r.toNat = 0 by unfold sizeE; rw [if_neg (by omega), if_neg (by omega)])
      have d1 : decide (r < n) = false := by simp; omega
      go_enter Try.func34, Try.ntmps34
      go_wp2
      go_ret
      exact ⟨by rw [HE.out]; rfl, rfl⟩

set_option maxHeartbeats 1000000 in
theorem readBytes_any (v : Value) (l : List UInt8) (n r : Int) (w : World) (B : Nat) (hv : BS w B v l) (hl : l.length ≤ 1099511627776) (h0 : 0 ≤ n) (h1 : n < 18446744073709551616) (h2 : 0 ≤ r) (h3 : r < 18446744073709551616) :
    Calls Try.prog 28 #[v, .int .u64 n, .int .u64 r] w (PartPost (bytesL l n.toNat r.toNat) w B) := by
  have HV := Lib.hid hv
  obtain ⟨A, c, rfl, g1, g2, -⟩ := hv.at_
  unfold maxLen at g2
  clear hv
  have hck := checkSize_any n r w h0 h1 h2 h3
  by_cases hE : sizeE n.toNat r.toNat = 0
  · rw [hE] at hck
    by_cases hln : (l.length : Int) < n
    · have HX := Lib.hid (show bytesL l n.toNat r.toNat = ([], [], 22) by unfold bytesL; rw [if_neg (by omega), if_pos (by omega)])
      go_enter Try.func28, Try.ntmps28
      go_wp2_with (first
        | (go_at_call 34; refine hck.mono ?_; rintro e w1 ⟨rfl, rfl⟩))
      go_ret3
      exact part_err _ HX.out rfl ⟨0, rfl⟩
    · have HX := Lib.hid (show bytesL l n.toNat r.toNat = (l.take n.toNat, l.drop n.toNat, 0) by unfold bytesL; rw [if_neg (by omega), if_neg (by omega)])
      have d1 : decide ((l.length : Int) < n) = false := by simp; omega
      have hln : n ≤ (l.length : Int) := by omega
      clear h1
      obtain ⟨k, rfl⟩ : ∃ k : Nat, n = (k : Int) := ⟨n.toNat, by omega⟩
      rw [Int.toNat_natCast] at HX
      have hkl : k ≤ l.length := by omega
      obtain ⟨A4, hif⟩ : ∃ A4, (if c = k then A else Option.map (fun x => x.add k) A) = A4 := ⟨_, rfl⟩
      have HC1 := Lib.hid (HV.out.cutH k k hkl rfl)
      have hc2 := HV.out.cut k (l.length - k) (l.length - k) (by omega) rfl
      rw [hif, List.take_of_length_le (by simp)] at hc2
      have HC2 := Lib.hid hc2
      clear hc2
      go_enter Try.func28, Try.ntmps28
      go_wp2_with (first
        | (go_at_call 34; refine hck.mono ?_; rintro e w1 ⟨rfl, rfl⟩))
      go_quiet (fail)
      go_wp2
      go_ret3
      rw [Int.toNat_natCast, HX.out]
      exact ⟨_, _, rfl, HC1.out, HC2.out, _, rfl⟩
  · have HX := Lib.hid (show bytesL l n.toNat r.toNat = ([], [], sizeE n.toNat r.toNat) by unfold bytesL; rw [if_pos hE])
    generalize sizeE n.toNat r.toNat = E at *
    have e1 : ((E : Int) != 0) = true := by simp; omega
    go_enter Try.func28, Try.ntmps28
    go_wp2_with (first
      | (go_at_call 34; refine hck.mono ?_; rintro e w1 ⟨rfl, rfl⟩))
    go_ret3
    exact part_err _ HX.out rfl ⟨0, rfl⟩

theorem readp_at {v : Value} {l : List UInt8} {B : Nat} {w : World} (h : BS w B v l) (hl : l.length ≤ 1099511627776) {x : Int} {k er : Nat} (hx : 0 ≤ x) (hr : readL l = (x.toNat, k, er)) :
    Calls Try.prog 26 #[v] w fun e w' => e = .returned (.tuple #[.int .u64 x, .int .i64 (k : Int), .int .i64 (er : Int)]) ∧ w' = w := by
  refine (read_any v l B w h hl).mono ?_
  rintro e w' ⟨rfl, rfl⟩
  refine ⟨?_, rfl⟩
  rw [hr, tup]
  simp
  omega

set_option maxHeartbeats 2000000 in
theorem readOld_any (v1 v : Value) (old l : List UInt8) (n r : Int) (w : World) (B : Nat) (ho : BS w B v1 old) (hv : BS w B v l) (hlo : old.length ≤ 1099511627776) (hl : l.length ≤ 1099511627776) (h0 : 0 ≤ n) (h1 : n < 18446744073709551616) (h2 : 0 ≤ r) (h3 : r < 18446744073709551616) :
    Calls Try.prog 27 #[v1, v, .int .u64 n, .int .u64 r] w (PartPost (oldL old l n.toNat r.toNat) w B) := by
  have HV := Lib.hid hv
  have HO := Lib.hid ho
  obtain ⟨A, c, rfl, g1, g2, -⟩ := hv.at_
  obtain ⟨A1, c1, rfl, g3, g4, -⟩ := ho.at_
  unfold maxLen at g2 g4
  have hck := checkSize_any n r w h0 h1 h2 h3
  obtain ⟨x, k, er, hr, x0, x1, hk, hk1, her⟩ := readL_ex l
  have hread := readp_at hv hl x0 hr
  have HR := Lib.hid hr
  clear hv ho hr hk1
  by_cases he : er = 0
  · subst he
    by_cases hE : sizeE n.toNat r.toNat = 0
    · rw [hE] at hck
      by_cases hb : (old.length : Int) < x
      · have HX := Lib.hid (show oldL old l n.toNat r.toNat = ([], [], 21) by unfold oldL; rw [HR.out]; simp only; rw [if_neg (by omega), if_neg (by omega), if_pos (.inl (by omega))])
        go_enter Try.func27, Try.ntmps27
        go_wp2_with (first
          | (go_at_call 26; refine hread.mono ?_; rintro e w1 ⟨rfl, rfl⟩)
          | (go_at_call 34; refine hck.mono ?_; rintro e w1 ⟨rfl, rfl⟩))
        go_ret3
        exact part_err _ HX.out rfl ⟨0, rfl⟩
      · have db : decide ((old.length : Int) < x) = false := by simp; omega
        by_cases hb2 : (old.length : Int) - x < n
        · have HX := Lib.hid (show oldL old l n.toNat r.toNat = ([], [], 21) by unfold oldL; rw [HR.out]; simp only; rw [if_neg (by omega), if_neg (by omega), if_pos (.inr (by omega))])
          go_enter Try.func27, Try.ntmps27
          go_wp2_with (first
            | (go_at_call 26; refine hread.mono ?_; rintro e w1 ⟨rfl, rfl⟩)
            | (go_at_call 34; refine hck.mono ?_; rintro e w1 ⟨rfl, rfl⟩))
          go_ret3
          exact part_err _ HX.out rfl ⟨0, rfl⟩
        · have db2 : decide ((old.length : Int) - x < n) = false := by simp; omega
          have HX := Lib.hid (show oldL old l n.toNat r.toNat = ((old.drop x.toNat).take n.toNat, l.drop k, 0) by unfold oldL; rw [HR.out]; simp only; rw [if_neg (by omega), if_neg (by omega), if_neg (by omega)])
          clear h1 x1
          obtain ⟨a, rfl⟩ : ∃ a : Nat, x = (a : Int) := ⟨x.toNat, by omega⟩
          obtain ⟨N, rfl⟩ : ∃ N : Nat, n = (N : Int) := ⟨n.toNat, by omega⟩
          rw [Int.toNat_natCast, Int.toNat_natCast] at HX
          have haN : a + N ≤ old.length := by omega
          have haI : (a : Int) + (N : Int) ≤ (old.length : Int) := by omega
          obtain ⟨A4, hif⟩ : ∃ A4, (if c1 = a then A1 else Option.map (fun x => x.add a) A1) = A4 := ⟨_, rfl⟩
          obtain ⟨A5, hif5⟩ : ∃ A5, (if c = k then A else Option.map (fun x => x.add k) A) = A5 := ⟨_, rfl⟩
          have hc1 := HO.out.cut a N N haN rfl
          rw [hif] at hc1
          have HC1 := Lib.hid hc1
          have hc2 := HV.out.cut k (l.length - k) (l.length - k) (by omega) rfl
          rw [hif5, List.take_of_length_le (by simp)] at hc2
          have HC2 := Lib.hid hc2
          clear hc1 hc2
          have s1 : IntKind.u64.wrap ((a : Int) + (N : Int)) = (a : Int) + (N : Int) := by rw [IntKind.wrap_u64]; omega
          have s2 : ((a : Int) + (N : Int)).toNat = a + N := by omega
          have s3 : a + N - a = N := by omega
          go_enter Try.func27, Try.ntmps27
          go_wp2_with (first
            | (go_at_call 26; refine hread.mono ?_; rintro e w1 ⟨rfl, rfl⟩)
            | (go_at_call 34; refine hck.mono ?_; rintro e w1 ⟨rfl, rfl⟩))
          go_quiet (fail)
          go_wp2
          go_ret3
          rw [Int.toNat_natCast, HX.out]
          exact ⟨_, _, rfl, HC1.out, HC2.out, _, rfl⟩
    · have HX := Lib.hid (show oldL old l n.toNat r.toNat = ([], [], sizeE n.toNat r.toNat) by unfold oldL; rw [HR.out]; simp only; rw [if_neg (by omega), if_pos hE])
      generalize sizeE n.toNat r.toNat = E at *
      have e1 : ((E : Int) != 0) = true := by simp; omega
      go_enter Try.func27, Try.ntmps27
      go_wp2_with (first
        | (go_at_call 26; refine hread.mono ?_; rintro e w1 ⟨rfl, rfl⟩)
        | (go_at_call 34; refine hck.mono ?_; rintro e w1 ⟨rfl, rfl⟩))
      go_ret3
      exact part_err _ HX.out rfl ⟨0, rfl⟩
  · have HX := Lib.hid (show oldL old l n.toNat r.toNat = ([], [], er) by unfold oldL; rw [HR.out]; simp only; rw [if_pos he])
    have e1 : ((er : Int) != 0) = true := by simp; omega
    go_enter Try.func27, Try.ntmps27
    go_wp2_with (first
      | (go_at_call 26; refine hread.mono ?_; rintro e w1 ⟨rfl, rfl⟩))
    go_ret3
    exact part_err _ HX.out rfl ⟨0, rfl⟩
end Go.Proofs.Ytmggknoaiaeojaa
