/- What is proved here: the law VtEnds, called with any bytes and any numbers, returns true and leaves alone whatever memory was there; for every input the law VtEnds answers true (from whatever mode a cancel leads to Ground, and a text behind it is printed); no condition. -/
import Derived.Test.YtbimhhcmfhooaaaM11
import Derived.Test.YtbimhhcmfhooaaaRows
import Derived.WalkKit
import Derived.ProofKit
import Derived.OpenShut
import Derived.ShutString
import Derived.ChangeOld
import Derived.Below
namespace Go.Proofs.Ytbimhhcmfhooaaa
open Go.RowKit
set_option linter.unusedVariables false
set_option linter.unusedSimpArgs false

set_option maxHeartbeats 4000000 in
set_option maxRecDepth 100000 in
theorem vtEnds_walk (a0 : Option Addr) (len0 cap0 : Nat) (z0 : List UInt8) (a1 : Int) (a2 : Option Addr) (len2 cap2 : Nat) (z2 : List Int) (w : World) (w0 : BS w w.heap.size (.slice a0 len0 cap0) z0) (w1 : (Lit.int .u8 a1).wf = true) (w2 : IS w w.heap.size (.slice a2 len2 cap2) z2) (f2 : ∀ n ∈ z2, (Lit.int .i64 n).wf = true) :
    Calls Try.prog 5 #[.slice a0 len0 cap0, .int .u8 a1, .slice a2 len2 cap2] w fun e w' => e = .returned (.bool true) ∧ Below w.heap.size w w' := by
  obtain ⟨_, _, hv0, -⟩ := w0.at_
  obtain ⟨_, _, hv2, -⟩ := w2.at_
  simp only [Value.slice.injEq] at hv0 hv2
  obtain ⟨-, rfl, -⟩ := hv0
  obtain ⟨-, rfl, -⟩ := hv2
  have W0 := Lib.hid w0
  have W2 := Lib.hid w2
  have F2 := Lib.hid (show ∀ x ∈ z2, -9223372036854775808 ≤ x ∧ x ≤ 9223372036854775807 from fun x hx => bounds_i64 (f2 x hx))
  obtain ⟨k0, k1⟩ := bounds_u8 w1
  obtain ⟨k, rfl⟩ : ∃ k : Nat, a1 = (k : Int) := ⟨a1.toNat, by omega⟩
  have kl : k < 256 := by omega
  clear w0 w1 w2 f2
  have hk := knownV_any w
  by_cases t0 : 60 < (z0.length : Int)
  · go_enter Try.func5, Try.ntmps5
    go_wp2_with (go_at_call 8; refine hk.mono ?_; rintro e wk ⟨rfl, hbk⟩)
    go_ret
    exact ⟨rfl, hbk⟩
  have t0' : decide (60 < (z0.length : Int)) = false := by simp; omega
  by_cases t2 : 30 < (z2.length : Int)
  · go_enter Try.func5, Try.ntmps5
    go_wp2_with (go_at_call 8; refine hk.mono ?_; rintro e wk ⟨rfl, hbk⟩)
    go_ret
    exact ⟨rfl, hbk⟩
  have t2' : decide (30 < (z2.length : Int)) = false := by simp; omega
  go_enter Try.func5, Try.ntmps5
  go_wp2_with fail
  refine hk.mono ?_
  rintro e w1 ⟨rfl, hb1⟩
  have HB1 := Lib.hid hb1
  clear hk hb1
  go_wp2_with fail
  refine (some_any k kl _ z2 w1 ((W2.out.below HB1.out).more HB1.out.size) (by omega) F2.out).mono ?_
  rintro e w2 ⟨m, pv, Ap, np, cp, Ai, ni, ci, Au, nu, cu, p, rfl, hok, hpw, hb2⟩
  have HB2 := Lib.hid (HB1.out.trans (hb2.mono HB1.out.size))
  have hal := allw_any hpw hok ((W0.out.below HB2.out).more HB2.out.size) (by omega)
  have HOK := Lib.hid (vtAll_ok p z0 hok)
  clear hb2 hpw hok
  generalize vtAll p z0 = R at *
  go_wp2_with fail
  refine hal.mono ?_
  rintro e w3 ⟨m2, pv2, Ap2, np2, cp2, Ai2, ni2, ci2, Au2, nu2, cu2, Aa2, na2, ca2, rfl, ⟨hm, hpv, hnp, hni, hnu, hna, x1, x2⟩, hpw, haw, hb3⟩
  have HB3 := Lib.hid (HB2.out.trans (hb3.mono HB2.out.size))
  have HPB := Lib.hid (PB.laid hpw)
  have HBW := Lib.hid (HB3.out.alloc HB3.out.size (.cells (v5 m2 pv2 Ap2 np2 cp2 Ai2 ni2 ci2 Au2 nu2 cu2) 25))
  clear hal hm hpv hnp hni hnu hna hpw haw hb3
  go_upto_region 6 with fail
  generalize World.alloc w3 _ = W at HPB HBW ⊢
  generalize w3.heap.size = g at *
  obtain ⟨c0, c1, c2, c3, c4⟩ := HPB.out.cells
  have hkc := Lib.run_convert_bytes_const (P := Try.prog) W 22 5 #[.int .u8 24, .int .u8 111, .int .u8 107] 3 3 Try.underlying22 Try.underlying5
  have HBC := Lib.hid (show Below W.heap.size W (W.alloc (.cells #[.int .u8 24, .int .u8 111, .int .u8 107] 5 (3, 4))) from (Below.refl _ _).alloc (Nat.le_refl _) _)
  obtain ⟨o, hends, hol⟩ := vt_ends R.1
  have hal := allw_any (HPB.out.below HBC.out).2 HOK.out (bsc_lit W [24, 111, 107] 3 #[.int .u8 24, .int .u8 111, .int .u8 107] 5 rfl rfl (by decide) (3, 4)) (by decide)
  rw [hends] at hal
  go_wp2_with fail
  refine hal.mono ?_
  rintro e w4 ⟨m3, pv3, Ap3, np3, cp3, Ai3, ni3, ci3, Au3, nu3, cu3, Aa3, na3, ca3, rfl, ⟨hm, hpv, hnp, hni, hnu, hna, y1, y2⟩, hpw, haw, hb4⟩
  obtain rfl : m3 = 0 := hm
  obtain rfl : pv3 = 0 := hpv
  obtain rfl : np3 = 0 := hnp
  obtain rfl : ni3 = 0 := hni
  obtain rfl : nu3 = 0 := hnu
  obtain rfl : na3 = o.length + 2 := by rw [hna]; simp
  have HB4 := Lib.hid ((HBW.out.trans (HBC.out.mono HBW.out.size)).trans (hb4.mono (HBW.out.trans (HBC.out.mono HBW.out.size)).size))
  have HPB4 := Lib.hid (PB.laid hpw)
  have HAW4 := Lib.hid (haw.below ((Below.refl _ _).alloc (Nat.le_refl _) (.cells (v5 0 0 Ap3 0 cp3 Ai3 0 ci3 Au3 0 cu3) 25)))
  have HBW4 := Lib.hid (HB4.out.alloc HB4.out.size (.cells (v5 0 0 Ap3 0 cp3 Ai3 0 ci3 Au3 0 cu3) 25))
  clear hal hkc hpw haw hb4 c0 c1 c2 c3 c4 hends hna
  go_upto_region 7 with fail
  generalize World.alloc w4 _ = W4 at HPB4 HAW4 HBW4 ⊢
  generalize w4.heap.size = g4 at *
  obtain ⟨c0, c1, c2, c3, c4⟩ := HPB4.out.cells
  obtain ⟨t, ht⟩ : ∃ t, o.length = t := ⟨_, rfl⟩
  obtain ⟨ad, vp, vi, hAd, -, -, -, s0, s1, -⟩ := AS.get HAW4.out t (acP 111) (by rw [← ht]; simp)
  obtain ⟨ad2, vp2, vi2, hAd2, -, -, -, -, r1, -⟩ := AS.get HAW4.out (t + 1) (acP 107) (by rw [← ht]; simp)
  subst hAd
  injection hAd2 with hAd2
  subst hAd2
  have u0 : W4.cell? (ad.add (t * 6)) = some (.int .i64 0) := s0
  have u1 : W4.cell? ⟨(ad.add (t * 6)).block, (ad.add (t * 6)).off + 1, none⟩ = some (.int .i32 111) := s1
  obtain ⟨T1, hT1⟩ : ∃ T1, t + 1 = T1 := ⟨_, rfl⟩
  have u2 : W4.cell? ⟨(ad.add (T1 * 6)).block, (ad.add (T1 * 6)).off + 1, none⟩ = some (.int .i32 107) := by rw [← hT1]; exact r1
  obtain ⟨L, hL⟩ : ∃ L, o.length + 2 = L := ⟨_, rfl⟩
  rw [hL] at y1 ⊢
  have e1 : (L : Int) - 2 = (t : Int) := by omega
  have e2 : (L : Int) - 1 = (T1 : Int) := by omega
  have l3 : (L : Int) ≤ 3 := by omega
  have l1 : t < L := by omega
  have l2 : T1 < L := by omega
  have hd : decide ((L : Int) < 2) = false := by simp; omega
  clear s0 s1 r1 hol hT1 hL ht
  go_wp2
  go_ret
  exact ⟨rfl, HBW4.out⟩
end Go.Proofs.Ytbimhhcmfhooaaa

namespace Go.Proofs.Ytbimhhcmfhooaaa
open Go.ChangeShapes Go.WideShapes Go.ChangeAt Go.RowKit
open Go.ChangeMaps (open_string shut_string)
set_option linter.unusedVariables false

theorem vtEnds_own : ownKnob Try.prog.godebug = none := by kernel_rfl
theorem vtEnds_laidOut : laidOutB Try.prog = true := by kernel_rfl

set_option maxRecDepth 100000 in
theorem vtEnds_lifted (os : Os) (started : os.Started) (H : Type) (enc : TypeId × Value → H) :
    ReturnsInHanded {} Try.checked os 5 .any (Rows.vtEndsSpec.pre6 enc Try.prog Try.f5 Rows.vtEndsRow.domain false) (Rows.vtEndsSpec.post enc Try.prog Try.f5 false true false false) := by
  refine returnsInHanded_of_change (C := Try.checked) vtEnds_own started (by kernel_rfl) Try.func5
    (ChangeSpec.witness6 (enc := enc) (C := Try.checked) false ⟨#[], #[.slice none 0 0, .int .u8 0, .slice none 0 0], []⟩ 8 (by kernel_rfl) (by kernel_rfl) (by kernel_rfl) (by kernel_rfl)) ?_
  intro W base args ds gs before hval0 hW hcnd _
  have hval : ∀ (j : Nat) t v, Try.f5.params[j]? = some t → args[j]? = some v → Value.okWide Try.prog W .any base t v := hval0
  have hW' := hW
  obtain ⟨p, q, hA0, hV, rfl, hfz, hnd⟩ := hW
  have hA : DataW.TrodAll enc Try.prog W 0 (fun _ => true) true Try.f5.params.toList args.toList ds p := hA0
  rw [Try.params5] at hA hval
  obtain ⟨v0, vs0, d0, ds0, p0, q0, hargs, rfl, rfl, h0, r0⟩ := trodAll_cons hA
  obtain ⟨v1, vs1, d1, ds1, p1, q1, rfl, rfl, rfl, h1, r1⟩ := trodAll_cons r0
  obtain ⟨v2, vs2, d2, ds2, p2, q2, rfl, rfl, rfl, h2, r2⟩ := trodAll_cons r1
  obtain ⟨rfl, rfl, rfl⟩ := trodAll_nil r2
  obtain rfl : args = #[v0, v1, v2] := by cases args; simp_all
  obtain ⟨rfl, rfl⟩ := trodVars_none hV
  obtain ⟨a0, len0, cap0, rfl⟩ := okWide_slice Try.underlying22 (hval 0 22 v0 rfl rfl)
  have k0 := h0
  have lt0 : ∀ x ∈ p0, x.block < W.heap.size := by obtain ⟨m, hm⟩ := k0; exact DataW.trod_lt m _ _ _ hm
  obtain ⟨z0, w0⟩ : ∃ l, BS W W.heap.size (.slice a0 len0 cap0) l := by
    obtain ⟨fuel, hf⟩ := h0
    rcases open_ints Try.underlying22 Try.underlying5 (by kernel_rfl) hf with ⟨hcs, _⟩ | ⟨x, l, c, zs, hcs, _, hl, hm, hz, _, hcell, hwz⟩
    · simp [Value.cells] at hcs
      obtain ⟨rfl, rfl, rfl⟩ := hcs
      exact ⟨[], BS.nil _ _⟩
    · simp [Value.cells] at hcs
      obtain ⟨rfl, rfl, rfl⟩ := hcs
      exact bs_row hl hm (by simpa using hz) hcell hwz
  obtain ⟨a1, rfl, rfl, rfl, w1⟩ := open_int Try.underlying5 (hval 1 5 v1 rfl rfl) h1
  obtain ⟨a2, len2, cap2, rfl⟩ := okWide_slice Try.underlying23 (hval 2 23 v2 rfl rfl)
  have k2 := h2
  have lt2 : ∀ x ∈ p2, x.block < W.heap.size := by obtain ⟨m, hm⟩ := k2; exact DataW.trod_lt m _ _ _ hm
  obtain ⟨z2, w2, f2⟩ : ∃ l, IS W W.heap.size (.slice a2 len2 cap2) l ∧ ∀ n ∈ l, (Lit.int .i64 n).wf = true := by
    obtain ⟨fuel, hf⟩ := h2
    rcases open_ints Try.underlying23 Try.underlying3 (by kernel_rfl) hf with ⟨hcs, _⟩ | ⟨x, l, c, zs, hcs, _, hl, hm, hz, _, hcell, hwz⟩
    · simp [Value.cells] at hcs
      obtain ⟨rfl, rfl, rfl⟩ := hcs
      exact ⟨[], IS.nil _ _, by simp⟩
    · simp [Value.cells] at hcs
      obtain ⟨rfl, rfl, rfl⟩ := hcs
      exact is_row hl hm (by simpa using hz) hcell hwz
  clear hA0 hval0
  refine (vtEnds_walk a0 len0 cap0 z0 a1 a2 len2 cap2 z2 W w0 w1 w2 f2).mono fun e W' ⟨he, bel⟩ => ?_
  subst he
  exact ⟨_, rfl, _, _, _, [], _, [], hW', trodAll_mk1 (shut_bool Try.underlying4 _), (trodAll_cons_mk (Below.trod vtEnds_laidOut (by kernel_rfl) (of_decide_eq_true (by kernel_rfl)) k0 bel lt0) (trodAll_cons_mk (shut_int Try.underlying5 w1) (trodAll_cons_mk (Below.trod vtEnds_laidOut (by kernel_rfl) (of_decide_eq_true (by kernel_rfl)) k2 bel lt2) trodAll_mk0))), rfl, bel.frame _, fun h => by cases h⟩

theorem vtEnds_over : Rows.vtEndsRow.holds Try.pinned (OpenSpec.ofChange Rows.vtEndsSpec) :=
  OpenClaim.holds_of_wide 5 Try.f5 rfl rfl rfl rfl rfl rfl rfl ⟨rfl, rfl, rfl, rfl, rfl⟩ rfl rfl rfl rfl rfl (by kernel_rfl) Try.func5 (by kernel_rfl)
    (of_decide_eq_true (by kernel_rfl)) (by unfold Func.isWrapper; first | (rw [if_pos (by decide +kernel)]; kernel_rfl) | (rw [if_neg (by decide +kernel)]; exact ⟨rfl, rfl⟩))
    (fun os started H enc _ => vtEnds_lifted os started H enc)

theorem vtEnds_holds : Rows.VtEndsSaid := vtEnds_over
#print axioms vtEnds_holds
end Go.Proofs.Ytbimhhcmfhooaaa
