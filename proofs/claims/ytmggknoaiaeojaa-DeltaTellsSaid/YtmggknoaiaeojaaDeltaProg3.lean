/- What is proved here: a contract of the program's function that applies a delta: in new memory. -/
import Derived.Test.YtmggknoaiaeojaaDeltaPart
namespace Go.Proofs.Ytmggknoaiaeojaa
open Go.RowKit
set_option linter.unusedVariables false
set_option linter.unusedSimpArgs false

theorem and_one (x : Int) (h0 : 0 ≤ x) (h1 : x < 18446744073709551616) : bits .and .u64 x 1 = x % 2 := by
  obtain ⟨a, rfl⟩ := Int.eq_ofNat_of_zero_le h0
  have e2 : (1 : Int) = ((1 : Nat) : Int) := rfl
  rw [e2, u64_and_nat a 1 (by omega) (by omega), Nat.and_one_is_mod]
  simp
set_option maxHeartbeats 2000000 in
theorem readPart_any (v1 v : Value) (old d : List UInt8) (r : Int) (w : World) (B : Nat) (ho : BS w B v1 old) (hv : BS w B v d) (hlo : old.length ≤ 1099511627776) (hl : d.length ≤ 1099511627776) (h2 : 0 ≤ r) (h3 : r < 18446744073709551616) :
    Calls Try.prog 20 #[v1, v, .int .u64 r] w (PartPost (partL old d r.toNat) w B) := by
  have HV := Lib.hid hv
  have HO := Lib.hid ho
  obtain ⟨A, c, rfl, g1, g2, -⟩ := hv.at_
  obtain ⟨A1, c1, rfl, g3, g4, -⟩ := ho.at_
  unfold maxLen at g2 g4
  obtain ⟨x, k, er, hr, x0, x1, hk, hk1, her⟩ := readL_ex d
  have hread := readp_at hv hl x0 hr
  have HR := Lib.hid hr
  clear hv ho hr hk1
  by_cases he : er = 0
  · subst he
    obtain ⟨A5, hif5⟩ : ∃ A5, (if c = k then A else Option.map (fun x => x.add k) A) = A5 := ⟨_, rfl⟩
    have hc2 := HV.out.cut k (d.length - k) (d.length - k) (by omega) rfl
    rw [hif5, List.take_of_length_le (by simp)] at hc2
    have HC2 := Lib.hid hc2
    clear hc2
    have hand := and_one x x0 x1
    have y0 : 0 ≤ x / 2 := by omega
    have y1 : x / 2 < 18446744073709551616 := by omega
    by_cases hodd : x % 2 = 1
    · have HX := Lib.hid (show partL old d r.toNat = oldL old (d.drop k) (x / 2).toNat r.toNat by unfold partL; rw [HR.out]; simp only; rw [if_neg (by omega), if_pos (toNat_odd x x0 hodd), toNat_half x x0])
      go_enter Try.func20, Try.ntmps20
      go_wp2_with (first
        | (go_at_call 26; refine hread.mono ?_; rintro e w1 ⟨rfl, rfl⟩))
      go_quiet (fail)
      have hcall := readOld_any _ _ old (d.drop k) (x / 2) r (w1.drewN nq) B (HO.out.below (below_drewN (Below.refl _ _) nq)) (HC2.out.below (below_drewN (Below.refl _ _) nq)) hlo (by simp; omega) y0 y1 h2 h3
      go_wp2_with (first
        | (go_at_call 27; refine hcall.mono ?_; rintro e w2 ⟨pv, rv, rfl, b1, b2, m, rfl⟩))
      go_ret3
      rw [HX.out]
      exact ⟨pv, rv, rfl, b1, b2, nq + m, by first | rfl | rw [World.drewN_drewN]⟩
    · have hev : x % 2 = 0 := by omega
      clear hodd
      have HX := Lib.hid (show partL old d r.toNat = bytesL (d.drop k) (x / 2).toNat r.toNat by unfold partL; rw [HR.out]; simp only; rw [if_neg (by omega), if_neg (by have := toNat_even x x0 hev; omega), toNat_half x x0])
      go_enter Try.func20, Try.ntmps20
      go_wp2_with (first
        | (go_at_call 26; refine hread.mono ?_; rintro e w1 ⟨rfl, rfl⟩))
      go_quiet (fail)
      have hcall := readBytes_any _ (d.drop k) (x / 2) r (w1.drewN nq) B (HC2.out.below (below_drewN (Below.refl _ _) nq)) (by simp; omega) y0 y1 h2 h3
      go_wp2_with (first
        | (go_at_call 28; refine hcall.mono ?_; rintro e w2 ⟨pv, rv, rfl, b1, b2, m, rfl⟩))
      go_ret3
      rw [HX.out]
      exact ⟨pv, rv, rfl, b1, b2, nq + m, by first | rfl | rw [World.drewN_drewN]⟩
  · have HX := Lib.hid (show partL old d r.toNat = ([], [], er) by unfold partL; rw [HR.out]; simp only; rw [if_pos he])
    have e1 : ((er : Int) != 0) = true := by simp; omega
    go_enter Try.func20, Try.ntmps20
    go_wp2_with (first
      | (go_at_call 26; refine hread.mono ?_; rintro e w1 ⟨rfl, rfl⟩))
    go_ret3
    exact part_err _ HX.out rfl ⟨0, rfl⟩

theorem sizeE_ok {n room : Nat} (h : sizeE n room = 0) : n ≤ room := by
  unfold sizeE at h
  by_cases c1 : n = 0
  · omega
  · by_cases c2 : room < n
    · rw [if_neg c1, if_pos c2] at h; omega
    · omega
theorem bytesL_len (l : List UInt8) (n room : Nat) (h : (bytesL l n room).2.2 = 0) : (bytesL l n room).2.1.length ≤ l.length ∧ (bytesL l n room).1.length ≤ l.length ∧ (bytesL l n room).1.length ≤ room := by
  unfold bytesL at h ⊢
  by_cases h1 : sizeE n room ≠ 0
  · rw [if_pos h1] at h; exact absurd h h1
  · rw [if_neg h1] at h ⊢
    have h4 := sizeE_ok (n := n) (room := room) (by omega)
    by_cases h2 : l.length < n
    · rw [if_pos h2] at h; exact absurd h (by decide)
    · rw [if_neg h2]
      simp only [List.length_take, List.length_drop]
      omega
theorem oldL_len (old l : List UInt8) (n room : Nat) (h : (oldL old l n room).2.2 = 0) : (oldL old l n room).2.1.length ≤ l.length ∧ (oldL old l n room).1.length ≤ old.length ∧ (oldL old l n room).1.length ≤ room := by
  unfold oldL at h ⊢
  by_cases h0 : (readL l).2.2 ≠ 0
  · rw [if_pos h0] at h; exact absurd h h0
  rw [if_neg h0] at h ⊢
  by_cases h1 : sizeE n room ≠ 0
  · rw [if_pos h1] at h; exact absurd h h1
  · rw [if_neg h1] at h ⊢
    have h4 := sizeE_ok (n := n) (room := room) (by omega)
    by_cases h2 : old.length < (readL l).1 ∨ old.length - (readL l).1 < n
    · rw [if_pos h2] at h; exact absurd h (by decide)
    · rw [if_neg h2]
      simp only [List.length_take, List.length_drop]
      omega
theorem part_len (old d : List UInt8) (room : Nat) (hd : 0 < d.length) (h : (partL old d room).2.2 = 0) : (partL old d room).2.1.length < d.length ∧ ((partL old d room).1.length ≤ old.length ∨ (partL old d room).1.length ≤ d.length) ∧ (partL old d room).1.length ≤ room := by
  have hb := readL_bd d
  unfold partL at h ⊢
  by_cases h0 : (readL d).2.2 ≠ 0
  · rw [if_pos h0] at h; exact absurd h h0
  rw [if_neg h0] at h ⊢
  have hp := readL_pos d (by omega)
  by_cases h1 : (readL d).1 % 2 = 1
  · rw [if_pos h1] at h ⊢
    have := oldL_len _ _ _ _ h
    simp only [List.length_drop] at this
    omega
  · rw [if_neg h1] at h ⊢
    have := bytesL_len _ _ _ h
    simp only [List.length_drop] at this
    omega

def ApyRel (old d : List UInt8) (most R : Int) (w0 : World) (dv ov : Value) (wr : World) : Prop :=
  ∃ (dl lo : List UInt8), BS wr w0.heap.size dv dl ∧ OB wr w0.heap.size ov lo ∧ Below w0.heap.size w0 wr ∧ dl.length ≤ d.length ∧ (lo.length : Int) ≤ R ∧ lo.length + dl.length * 1048576 ≤ d.length * 1048576 ∧ applyF old d.length dl (R.toNat - lo.length) lo = applyL old d most

set_option maxHeartbeats 2000000 in
set_option maxRecDepth 100000 in
theorem apply_any (v1 v2 : Value) (old d : List UInt8) (most : Int) (w : World) (h1 : BS w w.heap.size v1 old) (h2 : BS w w.heap.size v2 d) (hl1 : old.length ≤ 1048576) (hl2 : d.length ≤ 1048576) (hm0 : -9223372036854775808 ≤ most) (hm1 : most < 9223372036854775808) :
    Calls Try.prog 11 #[v1, v2, .int .i64 most] w (ApplyPost old d most w) := by
  have HO := Lib.hid h1
  have HD := Lib.hid h2
  obtain ⟨A1, c1, rfl, g1, g2, -⟩ := h1.at_
  obtain ⟨A2, c2, rfl, g3, g4, -⟩ := h2.at_
  unfold maxLen at g2 g4
  clear h1 h2
  obtain ⟨R, hR⟩ : ∃ R, (if most < 0 then 0 else most) = R := ⟨_, rfl⟩
  have R0 : 0 ≤ R := by split at hR <;> omega
  have R1 : R < 9223372036854775808 := by split at hR <;> omega
  have HR0 : Hid (R.toNat = most.toNat) := by
    show R.toNat = most.toNat
    split at hR <;> omega
  go_enter Try.func11, Try.ntmps11
  go_wp2
  go_loopw [1, 8] (fun dv ov wr => ApyRel old d most R w dv ov wr) (fun dv _ _ => match dv with | .slice _ n _ => n | _ => 0)
  case atStart => exact ⟨d, [], HD.out, OB.nil _ _, Below.refl _ _, Nat.le_refl _, by simpa using R0, by simp, by rw [HR0.out]; rfl⟩
  case round =>
    obtain ⟨dl, lo, hd, ho, hbel, hdl, hlR, hlo, hap⟩ := hrel
    obtain ⟨A3, c3, rfl, g5, g6, -⟩ := hd.at_
    unfold maxLen at g6
    have hle := hbel.size
    obtain ⟨A9, c9, rfl, g7, g8, -⟩ := ho.bs.at_
    unfold maxLen at g8
    by_cases hlt : 0 < dl.length
    · have hroom : (R - (lo.length : Int)).toNat = R.toNat - lo.length := by omega
      have hcall := readPart_any _ _ old dl (R - (lo.length : Int)) wr w.heap.size (HO.out.below hbel) hd (by omega) (by omega) (by omega) (by omega)
      rw [hroom] at hcall
      have hst := applyF_part old d.length dl (R.toNat - lo.length) lo hlt hdl
      have hpl := part_len old dl (R.toNat - lo.length) hlt
      obtain ⟨⟨P, Q, E⟩, hP⟩ : ∃ X, partL old dl (R.toNat - lo.length) = X := ⟨_, rfl⟩
      rw [hP] at hcall hst hpl
      simp only at hst hpl
      have HOO := Lib.hid ho
      have HAP := Lib.hid hap
      have HBE := Lib.hid hbel
      have s0 : 0 ≤ R - (lo.length : Int) := by omega
      have s1 : R - (lo.length : Int) < 9223372036854775808 := by omega
      by_cases hE : E = 0
      · subst hE
        obtain ⟨p1, p2, p3⟩ := hpl rfl
        have hsum : lo.length + P.length ≤ 1099511627776 := by omega
        rw [if_neg (by simp)] at hst
        have HST := Lib.hid hst
        clear ho hap hbel hst hpl hd hP hroom
        go_wp2_with (first
          | (go_at_call 20; refine hcall.mono ?_; rintro e w1 ⟨pv, rv, rfl, b1, b2, m, rfl⟩
             have HO1 := Lib.hid (HOO.out.below (below_drewN (Below.refl _ _) m))
             have HB1 := Lib.hid (below_drewN HBE.out m)
             have hb1 := b1.below (below_drewN (Below.refl _ _) m)
             have hb2 := b2.below (below_drewN (Below.refl _ _) m)
             obtain ⟨A7, c7, rfl, _, _, -⟩ := b1.at_
             obtain ⟨A8, c8, rfl, _, _, -⟩ := b2.at_
             have hle1 : w.heap.size ≤ (wr.drewN m).heap.size := hle)
          | (at_builtin; refine wpl_app _ rfl (.tmp 33) (.tmp 34) rfl w.heap.size _ _ _ lo P rfl rfl HO1.out hb1 hsum hle1 ?_; intro v3 w3 ho3 hg3 hb3 _))
        go_roundw
        case rel =>
          refine ⟨Q, lo ++ P, hb2.below hb3, ho3, HB1.out.trans hb3, ?_, ?_, ?_, ?_⟩
          · omega
          · rw [List.length_append]; omega
          · rw [List.length_append]; omega
          · rw [← HAP.out, HST.out, List.length_append, Nat.sub_add_eq]
        case measure => exact p1
      · have e1 : ((E : Int) != 0) = true := by simp; omega
        rw [if_pos (by simpa using hE)] at hst
        have HST := Lib.hid hst
        clear ho hap hbel hst hpl hd hP hroom
        go_wp2_with (first
          | (go_at_call 20; refine hcall.mono ?_; rintro e w1 ⟨pv, rv, rfl, b1, b2, m, rfl⟩
             obtain ⟨A7, c7, rfl, _, _, -⟩ := b1.at_
             obtain ⟨A8, c8, rfl, _, _, -⟩ := b2.at_))
        go_ret2
        refine ⟨_, by rw [← HAP.out, HST.out]; rfl, by rw [← HAP.out, HST.out]; exact BS.nil _ _, below_drewN HBE.out m⟩
    · have hnil : dl = [] := List.eq_nil_of_length_eq_zero (by omega)
      subst hnil
      rw [applyF_nil] at hap
      have HAP := Lib.hid hap
      clear hap
      go_wp2
      go_ret2
      exact ⟨_, by rw [← HAP.out]; rfl, by rw [← HAP.out]; exact ho.bs, hbel⟩
end Go.Proofs.Ytmggknoaiaeojaa
