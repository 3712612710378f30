/- What is proved here: parts of the proofs of the laws of layer 10. -/
import Derived.Test.YthncoigjfhmldaaGreatS30
import Derived.Test.YthncoigjfhmldaaGreatS32
import Derived.Test.YthncoigjfhmldaaGreatRows
import Derived.WalkKit
import Derived.ProofKit
import Derived.OpenShut
import Derived.ShutString
import Derived.ChangeOld
import Derived.Below
namespace Go.Proofs.YthncoigjfhmldaaGreat
open Go.RowKit
open Go.ChangeShapes Go.WideShapes Go.ChangeAt Go.RowKit
open Go.ChangeMaps (open_string shut_string)
set_option linter.unusedVariables false
set_option linter.unusedSimpArgs false
set_option maxHeartbeats 8000000
set_option maxRecDepth 100000
theorem snapCut_walk (a0 a1 : Int) (a2 : Option Addr) (len2 cap2 : Nat) (z2 : List UInt8) (a3 a4 : Int) (w : World) (w0 : (Lit.int .u8 a0).wf = true) (w1 : (Lit.int .u8 a1).wf = true) (w2 : BS w w.heap.size (.slice a2 len2 cap2) z2) (w3 : (Lit.int .u16 a3).wf = true) (w4 : (Lit.int .u8 a4).wf = true) :
  Calls Tryz.prog 5 #[.int .u8 a0, .int .u8 a1, .slice a2 len2 cap2, .int .u16 a3, .int .u8 a4] w fun e w' => e = .returned (.bool true) ∧ Below w.heap.size w w' := by
 obtain ⟨_, _, hv0, -⟩ := w2.at_
 simp only [Value.slice.injEq] at hv0
 obtain ⟨-, rfl, -⟩ := hv0
 have hb0 := bounds_u8 w0
 have hb1 := bounds_u8 w1
 have hb3 := bounds_u16 w3
 have hb4 := bounds_u8 w4
 obtain ⟨r, rfl⟩ : ∃ k : Nat, a0 = (k : Int) := ⟨a0.toNat, by omega⟩
 obtain ⟨c, rfl⟩ : ∃ k : Nat, a1 = (k : Int) := ⟨a1.toNat, by omega⟩
 obtain ⟨m, rfl⟩ : ∃ k : Nat, a3 = (k : Int) := ⟨a3.toNat, by omega⟩
 have r1 : r < 256 := by omega
 have c1 : c < 256 := by omega
 have m1 : (m : Int) < 65536 := by omega
 have x0 : 0 ≤ a4 := hb4.1
 have x1 : a4 < 256 := by omega
 clear w0 w1 w3 w4 hb0 hb1 hb3 hb4
 have hk := knownZ_any w
 by_cases t0 : 40 < (z2.length : Int)
 ·go_enter Tryz.func5, Tryz.ntmps5
  go_wp2_with (go_at_call 6; refine hk.mono ?_; rintro e wk ⟨rfl, hbk⟩)
  go_ret
  exact ⟨rfl, hbk⟩
 have W2 := Lib.hid w2
 have hin := seatS_in r c z2
 have hhw := seatS_w r c z2
 have HSEAT : Hid (∀ wk, Below w.heap.size w wk → Calls Tryz.prog 8 #[.int .u8 (r : Int), .int .u8 (c : Int), .slice a2 z2.length cap2] wk (SeatScrF (seatS r c z2) wk)) := fun wk hb => seatScreenF_any r c r1 c1 _ z2 wk ((W2.out.below hb).more hb.size) (by omega)
 generalize seatS r c z2 = s at *
 have hr6 : r % 6 + 1 ≤ 6 := by omega
 have hc9 : c % 9 + 1 ≤ 9 := by omega
 generalize r % 6 + 1 = rr at *
 generalize c % 9 + 1 = cc at *
 have HR := Lib.hid (rightS_in hin hhw)
 have HF := Lib.hid (fitS_in hin)
 have hbl := snapL_small hin hhw hr6 hc9
 have hpos := snapL_pos s
 have hcv : IntKind.i64.wrap (m : Int) = (m : Int) := IntWalk.i64_in _ (by omega)
 have HCV := Lib.hid hcv
 clear w2 hin hhw hr6 hc9 m1 hcv
 go_enter Tryz.func5, Tryz.ntmps5
 go_wp2_with first
  | (go_at_call 6; refine hk.mono ?_; rintro e wk ⟨rfl, hbk⟩; have HBK := Lib.hid hbk; have zk := hbk.size; clear hbk)
  | (go_at_call 8; refine (HSEAT.out _ HBK.out).mono ?_; rintro e w1 ⟨v, rfl, hs1, b1⟩; have z1 := b1.size; have B1 := Lib.hid (HBK.out.trans (b1.mono zk)); have S1 := Lib.hid hs1; clear b1 hs1)
 obtain ⟨vc, vt, vo, vp, vi, vu, rfl, hs⟩ := S1.out
 refine (pPut_any (s.p.mode : Int) s vc vt vo vp vi vu _ w1 (fun x hx => hx.2) hs HF.out (fun _ => rfl)).mono ?_
 rintro e w3 ⟨u, er, rfl, b3, h3⟩
 rcases h3 with ⟨-, rfl, o3⟩ | ⟨hn, -⟩
 rotate_left
 ·exact absurd HR.out hn
 obtain ⟨A3, c3, hu, p3, q3⟩ := o3.sl.form
 subst hu
 have z3 := b3.size
 have BB3 := Lib.hid o3.bs
 have B3 := Lib.hid (B1.out.trans (b3.mono (by omega)))
 obtain ⟨L, hL⟩ : ∃ L, snapL s = L := ⟨_, rfl⟩
 rw [hL] at hbl hpos p3 BB3 ⊢
 have HL := Lib.hid hL
 have c3i : (c3 : Int) ≤ 9223372036854775807 := by omega
 have hmod : (m : Int).tmod (L.length : Int) = ((m % L.length : Nat) : Int) := by rw [Int.tmod_eq_emod_of_nonneg (by omega)]; rfl
 obtain ⟨k, hk9⟩ : ∃ k, m % L.length = k := ⟨_, rfl⟩
 have hkl : k < L.length := by rw [← hk9]; exact Nat.mod_lt _ hpos
 rw [hk9] at hmod
 have hki : (k : Int) < (L.length : Int) := by omega
 have BC := Lib.hid (BB3.out.cutH k k (by omega) rfl)
 have hLz : ¬ ((L.length : Int) = 0) := by omega
 have hcv := HCV.out
 clear hL o3 b3 B1 S1 hs hk9 hk
 go_wp2_with fail
 refine (pRead_any _ (L.take k) w3 BC.out (by rw [List.length_take]; omega)).mono ?_
 rintro e v4 h4
 obtain ⟨xs4, er, rfl, hn, h1, b4, h4⟩ := h4.agg
 rcases h4 with ⟨s4, his, -, -⟩ | ⟨-, rfl⟩
 ·have e1 : snapL s4 ++ L.drop k = snapL s := by rw [his.2, List.take_append_drop]; exact HL.out.symm
  have e2 := congrArg List.length (snap_pre his.1 HR.out e1)
  rw [List.length_drop, List.length_nil] at e2
  omega
 have z4 := b4.size
 rename_i K hK
 refine hK _ _ ?_
 clear hK K
 iterate 4 (refine wpList_plain rfl fun K hK => ?_; go_simp; refine hK _ _ ?_; clear hK K)
 refine wpl_storeS rfl (.tmp 13) (.tmp 48) rfl rfl rfl (heap_one v4 _) rfl hn h1 ?_
 obtain ⟨-, b5, z5⟩ := box_of v4 xs4
 generalize hW : (v4.alloc _).setRow _ _ = W4 at b5 z5 ⊢
 clear hW
 have BB := Lib.hid (b4.trans (b5.mono z4))
 have zB := BB.out.size
 have B4 := Lib.hid (B3.out.trans (BB.out.mono (by omega)))
 have BB4 := Lib.hid ((BB3.out.below BB.out).more zB)
 clear b4 b5 BB hn h1 B3 BB3 BC
 obtain ⟨L6, hL6⟩ : ∃ L6, L ++ [UInt8.ofNat a4.toNat] = L6 := ⟨_, rfl⟩
 have hl6 : L6.length ≤ 6000 := by rw [← hL6, List.length_append]; simp; omega
 have HL6 := Lib.hid hL6
 clear hL6
 go_simp
 go_wp2_with first
  | (at_builtin; refine wpl_app _ rfl (.const (.slice none 0 0)) (.tmp 51) rfl W4.heap.size _ _ _ [] L rfl rfl (OB.nil _ _) BB4.out (by simp; omega) (Nat.le_refl _) ?_; intro v6 w6 ho6 hg6 hb6 hat6; rw [List.nil_append] at ho6; obtain ⟨A6, c6, hv6, -, -⟩ := ho6.sl.form; subst hv6; have HO6 := Lib.hid ho6; have HB6 := Lib.hid hb6; have z6 := hb6.size; clear ho6 hg6 hb6 hat6)
  | (at_builtin; refine wpl_app _ rfl (.tmp 52) (.tmp 54) rfl W4.heap.size _ _ _ L _ rfl rfl (HO6.out.alloc _) (BS.one' _ a4 x0 x1 _) (by simp; omega) (by simp; omega) ?_; intro v7 w7 ho7 hg7 hb7 hat7; rw [HL6.out] at ho7; obtain ⟨A7, c7, hv7, -, -⟩ := ho7.sl.form; subst hv7; have HO7 := Lib.hid ho7; have HB7 := Lib.hid (HB6.out.trans ((Below.alloc (Below.refl _ _) z6 _).trans hb7)); have z7 := hb7.size; clear ho7 hg7 hb7 hat7)
 refine (pRead_any _ L6 w7 HO7.out.bs (by omega)).mono ?_
 rintro e v8 h4
 obtain ⟨xs8, er, rfl, hn, h1, b4, h4⟩ := h4.agg
 rcases h4 with ⟨s8, his, -, -⟩ | ⟨-, rfl⟩
 ·have e1 : snapL s ++ [UInt8.ofNat a4.toNat] = snapL s8 := by rw [HL.out, HL6.out, his.2]
  exact absurd (snap_pre HR.out his.1 e1) (by simp)
 have z7x := HB7.out.size
 have z4 := b4.size
 rename_i K hK
 refine hK _ _ ?_
 clear hK K
 iterate 4 (refine wpList_plain rfl fun K hK => ?_; go_simp; refine hK _ _ ?_; clear hK K)
 refine wpl_storeS rfl (.tmp 15) (.tmp 57) rfl rfl rfl (heap_one v8 _) rfl hn h1 ?_
 obtain ⟨-, b5, z5⟩ := box_of v8 xs8
 generalize hW : (v8.alloc _).setRow _ _ = W8 at b5 z5 ⊢
 clear hW
 have BB := Lib.hid (b4.trans (b5.mono z4))
 have zB := BB.out.size
 have B8 := Lib.hid (B4.out.trans ((HB7.out.trans (BB.out.mono z7x)).mono (by omega)))
 have BB8 := Lib.hid ((BB4.out.below (HB7.out.trans (BB.out.mono z7x))).more (by omega : W4.heap.size ≤ W8.heap.size))
 clear b4 b5 BB hn h1 B4 BB4 HO6 HO7 HB6 HB7
 go_simp
 go_wp2_with fail
 refine (pRead_any _ L W8 BB8.out (by omega)).mono ?_
 rintro e v9 h4
 obtain ⟨xs9, er, rfl, hn, h1, b4, h4⟩ := h4.agg
 rcases h4 with ⟨s9, his, rfl, -⟩ | ⟨hnn, -⟩
 rotate_left
 ·exact absurd ⟨s, HR.out, HL.out⟩ hnn
 have z4 := b4.size
 rename_i K hK
 refine hK _ _ ?_
 clear hK K
 iterate 4 (refine wpList_plain rfl fun K hK => ?_; go_simp; refine hK _ _ ?_; clear hK K)
 refine wpl_storeS rfl (.tmp 17) (.tmp 62) rfl rfl rfl (heap_one v9 _) rfl hn h1 ?_
 obtain ⟨-, b5, z5⟩ := box_of v9 xs9
 generalize hW : (v9.alloc _).setRow _ _ = W9 at b5 z5 ⊢
 clear hW
 have BB := Lib.hid (b4.trans (b5.mono z4))
 have zB := BB.out.size
 have B9 := Lib.hid (B8.out.trans (BB.out.mono (by have := B8.out.size; omega)))
 clear b4 b5 BB hn h1 B8 BB8
 go_simp
 go_wp2
 go_ret
 exact ⟨rfl, B9.out⟩
theorem snapCut_own : ownKnob Tryz.prog.godebug = none := by kernel_rfl
theorem snapCut_laidOut : laidOutB Tryz.prog = true := by kernel_rfl
theorem snapCut_lifted (os : Os) (started : os.Started) (H : Type) (enc : TypeId × Value → H) :
  ReturnsInHanded {} Tryz.checked os 5 .any (Rows.snapCutSpec.pre6 enc Tryz.prog Tryz.f5 Rows.snapCutRow.domain false) (Rows.snapCutSpec.post enc Tryz.prog Tryz.f5 false true false false) := by
 refine returnsInHanded_of_change (C := Tryz.checked) snapCut_own started (by kernel_rfl) Tryz.func5
  (ChangeSpec.witness6 (enc := enc) (C := Tryz.checked) false ⟨#[], #[.int .u8 0, .int .u8 0, .slice none 0 0, .int .u16 0, .int .u8 0], []⟩ 8 (by kernel_rfl) (by kernel_rfl) (by kernel_rfl) (by kernel_rfl)) ?_
 intro W base args ds gs before hval0 hW hcnd _
 have hval : ∀ (j : Nat) t v, Tryz.f5.params[j]? = some t → args[j]? = some v → Value.okWide Tryz.prog W .any base t v := hval0
 have hW' := hW
 obtain ⟨p, q, hA0, hV, rfl, hfz, hnd⟩ := hW
 have hA : DataW.TrodAll enc Tryz.prog W 0 (fun _ => true) true Tryz.f5.params.toList args.toList ds p := hA0
 rw [Tryz.params5] at hA hval
 obtain ⟨v0, vs0, d0, ds0, p0, q0, hargs, rfl, rfl, h0, r0⟩ := trodAll_cons hA
 obtain ⟨v1, vs1, d1, ds1, p1, q1, rfl, rfl, rfl, h1, r1⟩ := trodAll_cons r0
 obtain ⟨v2, vs2, d2, ds2, p2, q2, rfl, rfl, rfl, h2, r2⟩ := trodAll_cons r1
 obtain ⟨v3, vs3, d3, ds3, p3, q3, rfl, rfl, rfl, h3, r3⟩ := trodAll_cons r2
 obtain ⟨v4, vs4, d4, ds4, p4, q4, rfl, rfl, rfl, h4, r4⟩ := trodAll_cons r3
 obtain ⟨rfl, rfl, rfl⟩ := trodAll_nil r4
 obtain rfl : args = #[v0, v1, v2, v3, v4] := by cases args; simp_all
 obtain ⟨rfl, rfl⟩ := trodVars_none hV
 obtain ⟨a0, rfl, rfl, rfl, w0⟩ := open_int Tryz.underlying5 (hval 0 5 v0 rfl rfl) h0
 obtain ⟨a1, rfl, rfl, rfl, w1⟩ := open_int Tryz.underlying5 (hval 1 5 v1 rfl rfl) h1
 obtain ⟨a2, len2, cap2, rfl⟩ := okWide_slice Tryz.underlying26 (hval 2 26 v2 rfl rfl)
 have k2 := h2
 have lt2 : ∀ x ∈ p2, x.block < W.heap.size := by obtain ⟨m, hm⟩ := k2; exact DataW.trod_lt m _ _ _ hm
 obtain ⟨z2, w2⟩ : ∃ l, BS W W.heap.size (.slice a2 len2 cap2) l := by
  obtain ⟨fuel, hf⟩ := h2
  rcases open_ints Tryz.underlying26 Tryz.underlying5 (by kernel_rfl) hf with ⟨hcs, _⟩ | ⟨x, l, c, zs, hcs, _, hl, hm, hz, _, hcell, hwz⟩
  ·simp [Value.cells] at hcs
   obtain ⟨rfl, rfl, rfl⟩ := hcs
   exact ⟨[], BS.nil _ _⟩
  ·simp [Value.cells] at hcs
   obtain ⟨rfl, rfl, rfl⟩ := hcs
   exact bs_row hl hm (by simpa using hz) hcell hwz
 obtain ⟨a3, rfl, rfl, rfl, w3⟩ := open_int Tryz.underlying23 (hval 3 23 v3 rfl rfl) h3
 obtain ⟨a4, rfl, rfl, rfl, w4⟩ := open_int Tryz.underlying5 (hval 4 5 v4 rfl rfl) h4
 clear hA0 hval0
 refine (snapCut_walk a0 a1 a2 len2 cap2 z2 a3 a4 W w0 w1 w2 w3 w4).mono fun e W' ⟨he, bel⟩ => ?_
 subst he
 exact ⟨_, rfl, _, _, _, [], _, [], hW', trodAll_mk1 (shut_bool Tryz.underlying4 _), (trodAll_cons_mk (shut_int Tryz.underlying5 w0) (trodAll_cons_mk (shut_int Tryz.underlying5 w1) (trodAll_cons_mk (Below.trod snapCut_laidOut (by kernel_rfl) (of_decide_eq_true (by kernel_rfl)) k2 bel lt2) (trodAll_cons_mk (shut_int Tryz.underlying23 w3) (trodAll_cons_mk (shut_int Tryz.underlying5 w4) trodAll_mk0))))), rfl, bel.frame _, fun h => by cases h⟩
theorem snapCut_over : Rows.snapCutRow.holds Tryz.pinned (OpenSpec.ofChange Rows.snapCutSpec) :=
 OpenClaim.holds_of_wide 5 Tryz.f5 rfl rfl rfl rfl rfl rfl rfl ⟨rfl, rfl, rfl, rfl, rfl⟩ rfl rfl rfl rfl rfl (by kernel_rfl) Tryz.func5 (by kernel_rfl)
  (of_decide_eq_true (by kernel_rfl)) (by unfold Func.isWrapper; first | (rw [if_pos (by decide +kernel)]; kernel_rfl) | (rw [if_neg (by decide +kernel)]; exact ⟨rfl, rfl⟩))
  (fun os started H enc _ => snapCut_lifted os started H enc)
theorem snapCut_holds : Rows.SnapCutSaid := snapCut_over
#print axioms snapCut_holds
end Go.Proofs.YthncoigjfhmldaaGreat
