/- What is proved here: parts of layer 10's proofs. -/
import Derived.Test.YthepofkdgbcifaaGreatS17
import Derived.Test.YthepofkdgbcifaaGreatS18
import Derived.ProofKit
import Derived.ShutString
import Derived.ChangeOld
namespace Go.Proofs.YthepofkdgbcifaaGreat
open Go.RowKit
open Go.ChangeShapes Go.WideShapes Go.ChangeAt Go.RowKit
open Go.ChangeMaps (open_string shut_string)
set_option linter.unusedVariables false
set_option linter.unusedSimpArgs false
set_option maxHeartbeats 8000000
set_option maxRecDepth 100000
theorem SSl.upK {w w' : World} {s : Sc} {vc vt vo vp vi vu : Value} (h : SSl w (fun x => x < w.heap.size) s vc vt vo vp vi vu) (hb : Below w.heap.size w w') : SSl w' (fun x => x < w'.heap.size) s vc vt vo vp vi vu := (h.below (fun x hx => hx) hb).mono fun x hx => Nat.lt_of_lt_of_le hx hb.size
theorem two_box (w : World) (X Y : Array Value) : ((((w.alloc (sO zN)).alloc (sO zN)).setRow w.heap.size X).setRow (w.heap.size + 1) Y).heap[w.heap.size]? = some (.cells X 30) ∧ ((((w.alloc (sO zN)).alloc (sO zN)).setRow w.heap.size X).setRow (w.heap.size + 1) Y).heap[w.heap.size + 1]? = some (.cells Y 30) ∧ Below w.heap.size w ((((w.alloc (sO zN)).alloc (sO zN)).setRow w.heap.size X).setRow (w.heap.size + 1) Y) ∧ ((((w.alloc (sO zN)).alloc (sO zN)).setRow w.heap.size X).setRow (w.heap.size + 1) Y).heap.size = w.heap.size + 2 :=
 ⟨(heap_setRow_other (by omega)).trans (heap_setRow_same (heap_a1 w (sO zN) (sO zN))), heap_setRow_same ((heap_setRow_other (by omega)).trans (heap_a2 w (sO zN) (sO zN))), below_setRow (below_setRow (two_new w _ _).1 (Nat.le_refl _) X) (Nat.le_succ _) Y, by rw [size_setRow, size_setRow]; exact (two_new w _ _).2⟩
theorem snapBack_walk (a0 a1 : Int) (a2 : Option Addr) (len2 cap2 : Nat) (z2 : List UInt8) (a3 : Option Addr) (len3 cap3 : Nat) (z3 : List UInt8) (w : World) (w0 : (Lit.int .u8 a0).wf = true) (w1 : (Lit.int .u8 a1).wf = true) (w2 : BS w w.heap.size (.slice a2 len2 cap2) z2) (w3 : BS w w.heap.size (.slice a3 len3 cap3) z3) :
  Calls Tryz.prog 4 #[.int .u8 a0, .int .u8 a1, .slice a2 len2 cap2, .slice a3 len3 cap3] w fun e w' => e = .returned (.bool true) ∧ Below w.heap.size w w' := by
 obtain ⟨_, _, hv0, -⟩ := w2.at_
 simp only [Value.slice.injEq] at hv0
 obtain ⟨-, rfl, -⟩ := hv0
 obtain ⟨_, _, hv1, -⟩ := w3.at_
 simp only [Value.slice.injEq] at hv1
 obtain ⟨-, rfl, -⟩ := hv1
 have hb0 := bounds_u8 w0
 have hb1 := bounds_u8 w1
 obtain ⟨r, rfl⟩ : ∃ k : Nat, a0 = (k : Int) := ⟨a0.toNat, by omega⟩
 obtain ⟨c, rfl⟩ : ∃ k : Nat, a1 = (k : Int) := ⟨a1.toNat, by omega⟩
 have r1 : r < 256 := by omega
 have c1 : c < 256 := by omega
 clear w0 w1 hb0 hb1
 have hk := knownZ_any w
 by_cases t0 : 40 < (z2.length : Int)
 ·go_enter Tryz.func4, Tryz.ntmps4
  go_wp2_with (go_at_call 6; refine hk.mono ?_; rintro e wk ⟨rfl, hbk⟩)
  go_ret
  exact ⟨rfl, hbk⟩
 by_cases t1 : 40 < (z3.length : Int)
 ·go_enter Tryz.func4, Tryz.ntmps4
  go_wp2_with (go_at_call 6; refine hk.mono ?_; rintro e wk ⟨rfl, hbk⟩)
  go_ret
  exact ⟨rfl, hbk⟩
 have W2 := Lh w2
 have W3 := Lh w3
 have hin := seatS_in r c z2
 have hhw := seatS_w r c z2
 have tin := seatS_in r c z3
 have thw := seatS_w r c z3
 have HSEAT : Hid (∀ wk, Below w.heap.size w wk → Calls Tryz.prog 8 #[.int .u8 (r : Int), .int .u8 (c : Int), .slice a2 z2.length cap2] wk (SeatScrF (seatS r c z2) wk)) := fun wk hb => seatScreenF_any r c r1 c1 _ z2 wk ((W2.out.below hb).more hb.size) (by omega)
 have HSEAT2 : Hid (∀ wk, Below w.heap.size w wk → Calls Tryz.prog 8 #[.int .u8 (r : Int), .int .u8 (c : Int), .slice a3 z3.length cap3] wk (SeatScrF (seatS r c z3) wk)) := fun wk hb => seatScreenF_any r c r1 c1 _ z3 wk ((W3.out.below hb).more hb.size) (by omega)
 generalize seatS r c z2 = s at *
 generalize seatS r c z3 = t at *
 have hr6 : r % 6 + 1 ≤ 6 := by omega
 have hc9 : c % 9 + 1 ≤ 9 := by omega
 generalize r % 6 + 1 = rr at *
 generalize c % 9 + 1 = cc at *
 have HR := Lh (rightS_in hin hhw)
 have HF := Lh (fitS_in hin)
 have HLN := Lh (lenS_in hin)
 have TR := Lh (rightS_in tin thw)
 have TF := Lh (fitS_in tin)
 have TLN := Lh (lenS_in tin)
 have hbl := snapL_small hin hhw hr6 hc9
 have tbl := snapL_small tin thw hr6 hc9
 clear w2 w3 hin hhw tin thw hr6 hc9
 go_enter Tryz.func4, Tryz.ntmps4
 go_wp2_with (go_at_call 6; refine hk.mono ?_; rintro e wk ⟨rfl, hbk⟩; have HBK := Lh hbk; have zk := hbk.size; clear hbk)
 refine (HSEAT.out _ HBK.out).mono ?_
 rintro e w1 ⟨v, rfl, hs1, b1⟩
 have z1 := b1.size
 have B1 := Lh (HBK.out.trans (b1.mono zk))
 have S1 := Lh hs1
 clear b1 hs1 hk
 go_wp2_with fail
 refine (HSEAT2.out _ B1.out).mono ?_
 rintro e w2 ⟨v2, rfl, hs2, b2⟩
 obtain ⟨vc, vt, vo, vp, vi, vu, rfl, hs⟩ := S1.out
 obtain ⟨uc, ut, uo, up, ui, uu, rfl, ht⟩ := hs2
 have z2' := b2.size
 have hsu := SSl.upK (hs.mono fun x hx => hx.2) b2
 have htu := ht.mono (S' := fun x => x < w2.heap.size) fun x hx => hx.2
 have B2 := Lh (B1.out.trans (b2.mono (by omega)))
 clear S1 hs ht b2 B1
 rename_i K hK
 refine hK _ _ ?_
 clear hK K
 iterate 2 (refine wpList_plain rfl fun K hK => ?_; go_simp; refine hK _ _ ?_; clear hK K)
 refine wpl_storeS rfl (.tmp 9) (.tmp 30) rfl rfl rfl (heap_a1 w2 _ _) rfl rfl hsu.one ?_
 refine wpl_storeS rfl (.tmp 10) (.tmp 34) rfl rfl rfl ((heap_setRow_other (by omega)).trans (heap_a2 w2 _ _)) rfl rfl htu.one ?_
 obtain ⟨k1, k2, b3, z3'⟩ := two_box w2 (vS s vc vt vo vp vi vu) (vS t uc ut uo up ui uu)
 generalize hW : (((w2.alloc _).alloc _).setRow _ _).setRow _ _ = w3 at k1 k2 b3 z3' ⊢
 clear hW
 have KS := Lh k1
 have KT := Lh k2
 have HS := Lh (hsu.upK b3)
 have HT := Lh (htu.upK b3)
 have B3 := Lh (B2.out.trans (b3.mono (by have := B2.out.size; omega)))
 clear k1 k2 b3 hsu htu B2
 go_simp
 go_upto_region 6 with fail
 refine wp_region_lit ?_
 refine wpl_loadS rfl (.tmp 9) rfl rfl KS.out rfl ?_
 have hP := pPut_any (s.p.mode : Int) s vc vt vo vp vi vu _ w3 (fun x hx => hx) HS.out HF.out (fun _ => rfl)
 go_wp2_with fail
 refine hP.mono ?_
 rintro e w4 ⟨u, er, rfl, b4, h4⟩
 rcases h4 with ⟨-, rfl, o4⟩ | ⟨hn, -⟩
 rotate_left
 ·exact absurd HR.out hn
 clear hP
 obtain ⟨A4, c4, hu, p4, q4⟩ := o4.sl.form
 subst hu
 have z4 := b4.size
 have BA4 := Lh o4.bs
 have KS4 := Lh ((b4.block _ (by omega)).trans KS.out)
 have KT4 := Lh ((b4.block _ (by omega)).trans KT.out)
 have HS4 := Lh (HS.out.upK b4)
 have HT4 := Lh (HT.out.upK b4)
 have B4 := Lh (B3.out.trans (b4.mono (by have := B3.out.size; omega)))
 clear o4 b4 KS KT HS HT B3
 go_upto_region 7 with fail
 refine wp_region_lit ?_
 refine wpl_loadS rfl (.tmp 10) rfl rfl KT4.out rfl ?_
 have hP := pPut_any (t.p.mode : Int) t uc ut uo up ui uu _ w4 (fun x hx => hx) HT4.out TF.out (fun _ => rfl)
 go_wp2_with fail
 refine hP.mono ?_
 rintro e w5 ⟨u, er, rfl, b5, h5⟩
 rcases h5 with ⟨-, rfl, o5⟩ | ⟨hn, -⟩
 rotate_left
 ·exact absurd TR.out hn
 clear hP
 obtain ⟨A5, c5, hu, p5, q5⟩ := o5.sl.form
 subst hu
 have z5 := b5.size
 have BB5 := Lh o5.bs
 have BA5 := Lh ((BA4.out.below b5).more z5)
 have KS5 := Lh ((b5.block _ (by omega)).trans KS4.out)
 have KT5 := Lh ((b5.block _ (by omega)).trans KT4.out)
 have HS5 := Lh (HS4.out.upK b5)
 have HT5 := Lh (HT4.out.upK b5)
 have B5 := Lh (B4.out.trans (b5.mono (by have := B4.out.size; omega)))
 clear o5 b5 KS4 KT4 HS4 HT4 B4 BA4
 have hRd := pRead_any _ (snapL s) w5 BA5.out (by omega)
 go_wp2_with fail
 refine hRd.mono ?_
 rintro e w6 h6
 obtain ⟨xs, er, rfl, hn6, h16, b6, h6⟩ := h6.agg
 rcases h6 with ⟨s6, his, rfl, hs6⟩ | ⟨hn, -⟩
 rotate_left
 ·exact absurd ⟨s, HR.out, rfl⟩ hn
 obtain rfl : s6 = s := snap_inj his.1 HR.out his.2
 have z6 := b6.size
 clear hRd his
 rename_i K hK
 refine hK _ _ ?_
 clear hK K
 iterate 4 (refine wpList_plain rfl fun K hK => ?_; go_simp; refine hK _ _ ?_; clear hK K)
 refine wpl_storeS rfl (.tmp 15) (.tmp 48) rfl rfl rfl (heap_one w6 _) rfl hn6 h16 ?_
 obtain ⟨k7, b7, z7⟩ := box_of w6 xs
 generalize hW7 : (w6.alloc _).setRow _ _ = w7 at k7 b7 z7 ⊢
 clear hW7
 have b57 := b6.trans (b7.mono z6)
 have hlt := b57.size
 have KU := Lh k7
 have KS7 := Lh ((b57.block _ (by omega)).trans KS5.out)
 have KT7 := Lh ((b57.block _ (by omega)).trans KT5.out)
 have HS7 := Lh (HS5.out.upK b57)
 have HT7 := Lh (HT5.out.upK b57)
 have BA7 := Lh ((BA5.out.below b57).more hlt)
 have BB7 := Lh ((BB5.out.below b57).more hlt)
 have B7 := Lh (B5.out.trans (b57.mono (by have := B5.out.size; omega)))
 obtain ⟨xc, xt, xo, xp, xi, xu, hxs, hu⟩ := SCV.below hs6 (B := w6.heap.size) (fun x hx => hx.2) b7
 have HU7 := Lh (hu.mono (S' := fun x => x < w7.heap.size) fun x hx => Nat.lt_of_lt_of_le hx.2 b7.size)
 clear KS5 KT5 HS5 HT5 BA5 BB5 B5 b57 b6 b7 k7 hs6 hu
 simp only [Value.agg.injEq] at hxs
 subst hxs
 have hIFF : (snapL s6 == snapL t) = true ↔ s6 = t := ⟨fun h => snap_inj HR.out TR.out (eq_of_beq h), fun h => by rw [h]; exact beq_self_eq_true _⟩
 have HIFF := Lh hIFF
 clear hIFF
 go_simp
 go_upto_region 9 with fail
 refine skAt _ _ _ rfl rfl rfl _ _ _ _ _ _ _ _ _ _ _ w7 KS7.out KT7.out KU.out BA7.out BB7.out ?_ ?_ ?_ _ fun f wf hbf => ?_
 ·intro V hV
  refine (sameSr_any (s6.p.mode : Int) (s6.p.mode : Int) s6 s6 _ _ _ _ _ _ _ _ _ _ _ _ _ V (fun x hx => hx) (HU7.out.upK hV) (HS7.out.upK hV) HLN.out HLN.out).mono ?_
  rintro e wx ⟨⟨b, rfl, hb⟩, bx⟩
  obtain rfl : b = true := hb.2 ((sameR_iff s6 s6).2 rfl)
  exact ⟨rfl, bx⟩
 ·intro V hV
  refine (sameSr_any (s6.p.mode : Int) (t.p.mode : Int) s6 t _ _ _ _ _ _ _ _ _ _ _ _ _ V (fun x hx => hx) (HS7.out.upK hV) (HT7.out.upK hV) HLN.out TLN.out).mono ?_
  rintro e wx ⟨⟨b, rfl, hb⟩, bx⟩
  obtain rfl : b = (snapL s6 == snapL t) := Bool.eq_iff_iff.2 (hb.trans ((sameR_iff s6 t).trans HIFF.out.symm))
  exact ⟨rfl, bx⟩
 ·intro V hV
  refine (pSame_any (s6.p.mode : Int) (s6.p.mode : Int) s6 s6 _ _ _ _ _ _ _ _ _ _ _ _ _ V (fun x hx => hx) (HS7.out.upK hV) (HU7.out.upK hV) HLN.out HLN.out).mono ?_
  rintro e wx ⟨⟨b, rfl, hb⟩, bx⟩
  obtain rfl : b = true := hb.2 ((sameR_iff s6 s6).2 rfl)
  exact ⟨rfl, bx⟩
 have BF := Lh (B7.out.trans (hbf.mono (by have := B7.out.size; omega)))
 clear hbf
 go_simp
 go_wp2
 go_ret
 exact ⟨rfl, BF.out⟩
theorem snapBack_own : ownKnob Tryz.prog.godebug = none := by kernel_rfl
theorem snapBack_laidOut : laidOutB Tryz.prog = true := by kernel_rfl
theorem snapBack_lifted (os : Os) (started : os.Started) (H : Type) (enc : TypeId × Value → H) :
  ReturnsInHanded {} Tryz.checked os 4 .any (Rows.snapBackSpec.pre6 enc Tryz.prog Tryz.f4 Rows.snapBackRow.domain false) (Rows.snapBackSpec.post enc Tryz.prog Tryz.f4 false true false false) := by
 refine returnsInHanded_of_change (C := Tryz.checked) snapBack_own started (by kernel_rfl) Tryz.func4
  (ChangeSpec.witness6 (enc := enc) (C := Tryz.checked) false ⟨#[], #[.int .u8 0, .int .u8 0, .slice none 0 0, .slice none 0 0], []⟩ 8 (by kernel_rfl) (by kernel_rfl) (by kernel_rfl) (by kernel_rfl)) ?_
 intro W base args ds gs before hval0 hW hcnd _
 have hval : ∀ (j : Nat) t v, Tryz.f4.params[j]? = some t → args[j]? = some v → Value.okWide Tryz.prog W .any base t v := hval0
 have hW' := hW
 obtain ⟨p, q, hA0, hV, rfl, hfz, hnd⟩ := hW
 have hA : DataW.TrodAll enc Tryz.prog W 0 (fun _ => true) true Tryz.f4.params.toList args.toList ds p := hA0
 rw [Tryz.params4] at hA hval
 obtain ⟨v0, vs0, d0, ds0, p0, q0, hargs, rfl, rfl, h0, r0⟩ := trodAll_cons hA
 obtain ⟨v1, vs1, d1, ds1, p1, q1, rfl, rfl, rfl, h1, r1⟩ := trodAll_cons r0
 obtain ⟨v2, vs2, d2, ds2, p2, q2, rfl, rfl, rfl, h2, r2⟩ := trodAll_cons r1
 obtain ⟨v3, vs3, d3, ds3, p3, q3, rfl, rfl, rfl, h3, r3⟩ := trodAll_cons r2
 obtain ⟨rfl, rfl, rfl⟩ := trodAll_nil r3
 obtain rfl : args = #[v0, v1, v2, v3] := by cases args; simp_all
 obtain ⟨rfl, rfl⟩ := trodVars_none hV
 obtain ⟨a0, rfl, rfl, rfl, w0⟩ := open_int Tryz.underlying5 (hval 0 5 v0 rfl rfl) h0
 obtain ⟨a1, rfl, rfl, rfl, w1⟩ := open_int Tryz.underlying5 (hval 1 5 v1 rfl rfl) h1
 obtain ⟨a2, len2, cap2, rfl⟩ := okWide_slice Tryz.underlying26 (hval 2 26 v2 rfl rfl)
 have k2 := h2
 have lt2 : ∀ x ∈ p2, x.block < W.heap.size := by obtain ⟨m, hm⟩ := k2; exact DataW.trod_lt m _ _ _ hm
 obtain ⟨z2, w2⟩ : ∃ l, BS W W.heap.size (.slice a2 len2 cap2) l := by
  obtain ⟨fuel, hf⟩ := h2
  rcases open_ints Tryz.underlying26 Tryz.underlying5 (by kernel_rfl) hf with ⟨hcs, _⟩ | ⟨x, l, c, zs, hcs, _, hl, hm, hz, _, hcell, hwz⟩
  ·simp [Value.cells] at hcs
   obtain ⟨rfl, rfl, rfl⟩ := hcs
   exact ⟨[], BS.nil _ _⟩
  ·simp [Value.cells] at hcs
   obtain ⟨rfl, rfl, rfl⟩ := hcs
   exact bs_row hl hm (by simpa using hz) hcell hwz
 obtain ⟨a3, len3, cap3, rfl⟩ := okWide_slice Tryz.underlying26 (hval 3 26 v3 rfl rfl)
 have k3 := h3
 have lt3 : ∀ x ∈ p3, x.block < W.heap.size := by obtain ⟨m, hm⟩ := k3; exact DataW.trod_lt m _ _ _ hm
 obtain ⟨z3, w3⟩ : ∃ l, BS W W.heap.size (.slice a3 len3 cap3) l := by
  obtain ⟨fuel, hf⟩ := h3
  rcases open_ints Tryz.underlying26 Tryz.underlying5 (by kernel_rfl) hf with ⟨hcs, _⟩ | ⟨x, l, c, zs, hcs, _, hl, hm, hz, _, hcell, hwz⟩
  ·simp [Value.cells] at hcs
   obtain ⟨rfl, rfl, rfl⟩ := hcs
   exact ⟨[], BS.nil _ _⟩
  ·simp [Value.cells] at hcs
   obtain ⟨rfl, rfl, rfl⟩ := hcs
   exact bs_row hl hm (by simpa using hz) hcell hwz
 clear hA0 hval0
 refine (snapBack_walk a0 a1 a2 len2 cap2 z2 a3 len3 cap3 z3 W w0 w1 w2 w3).mono fun e W' ⟨he, bel⟩ => ?_
 subst he
 exact ⟨_, rfl, _, _, _, [], _, [], hW', trodAll_mk1 (shut_bool Tryz.underlying4 _), (trodAll_cons_mk (shut_int Tryz.underlying5 w0) (trodAll_cons_mk (shut_int Tryz.underlying5 w1) (trodAll_cons_mk (Below.trod snapBack_laidOut (by kernel_rfl) (of_decide_eq_true (by kernel_rfl)) k2 bel lt2) (trodAll_cons_mk (Below.trod snapBack_laidOut (by kernel_rfl) (of_decide_eq_true (by kernel_rfl)) k3 bel lt3) trodAll_mk0)))), rfl, bel.frame _, fun h => by cases h⟩
theorem snapBack_over : Rows.snapBackRow.holds Tryz.pinned (OpenSpec.ofChange Rows.snapBackSpec) :=
 OpenClaim.holds_of_wide 4 Tryz.f4 rfl rfl rfl rfl rfl rfl rfl ⟨rfl, rfl, rfl, rfl, rfl⟩ rfl rfl rfl rfl rfl (by kernel_rfl) Tryz.func4 (by kernel_rfl)
  (of_decide_eq_true (by kernel_rfl)) (by unfold Func.isWrapper; first | (rw [if_pos (by decide +kernel)]; kernel_rfl) | (rw [if_neg (by decide +kernel)]; exact ⟨rfl, rfl⟩))
  (fun os started H enc _ => snapBack_lifted os started H enc)
theorem snapBack_holds : Rows.SnapBackSaid := snapBack_over
#print axioms snapBack_holds
end Go.Proofs.YthepofkdgbcifaaGreat
