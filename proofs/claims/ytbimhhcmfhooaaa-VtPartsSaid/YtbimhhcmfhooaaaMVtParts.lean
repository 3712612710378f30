/- What is proved here: the law VtParts, called with any bytes and any number, returns true and leaves alone whatever memory was there; for every input the law VtParts answers true (bytes that are parted come to the same parser and the same acts, in order); no condition. -/
import Derived.Test.YtbimhhcmfhooaaaM11
import Derived.Test.YtbimhhcmfhooaaaRows
import Derived.WalkKit
import Derived.ProofKit
import Derived.OpenShut
import Derived.ShutString
import Derived.ChangeOld
import Derived.Below
namespace Go.Proofs.Ytbimhhcmfhooaaa
open Go.RowKit
set_option linter.unusedVariables false
set_option linter.unusedSimpArgs false

theorem vall_in {W W1 : World} {x : Array Value} {bv : Value} {p : Pr} {l : List UInt8} (hW : Below W.heap.size W W1) (h : PW W (.agg x) p) (hok : PrOk p) (hl : BS W W.heap.size bv l) (hll : l.length ≤ 1048576) : Calls Try.prog 17 #[.agg x, bv] W1 (VtPost (Old W) (vtAll p l) W1) := by
  obtain ⟨vp, vi, vu, hv, h1, h2, h3⟩ := h.keep (fun q hq => hW.cell hq)
  rw [hv]
  exact vall_any vp vi vu p bv l (Old W) W1 h1 h2 h3 (fun x hx => Nat.lt_of_lt_of_le hx hW.size) hok ((hl.below hW).more hW.size) hll
/-- append of acts at an operation that is guarded, where its guard lets it through. -/
theorem wpl_appAg (w : World) {ops : Array Oper} {rest : List Oper} {o : Oper} {a : Act} {Q : Exit → Act → World → Prop} (hw : Region.wanted o (yielded ops a.tmps) = true) (s x : Operand)
    (ho : o.op = .call { callee := .builtin .append, args := #[s, x], argTypes := #[32, 32] })
    (base : Nat) (S R T : Nat → Prop) (v u : Value) (l m : List Ac) (hs : a.eval s = v) (hx : a.eval x = u) (hown : OA w base S v l) (hr : AS w R T u m) (hS : ∀ x, S x → x < w.heap.size) (hT : ∀ x, T x → x < w.heap.size) (hTg : ∀ g, v.ownBlock = some g → ¬ T g) (hlen : l.length + m.length ≤ 1099511627776) (hbase : base ≤ w.heap.size)
    (h : ∀ v' w', OA w' base (fun x => S x ∨ T x) v' (l ++ m) → w.grownBy w' v.ownBlock → Below base w w' → (v'.ownBlock = v.ownBlock ∨ v'.ownBlock = some w.heap.size) → wpList Try.prog ops Q rest (a.put o.dst v') w') :
    wpList Try.prog ops Q (o :: rest) a w := by
  refine wpList_step fun K hK => ?_
  rw [if_pos hw]
  obtain ⟨v', w', hrun, h2, h3, h4, h5⟩ := run_appA w o.type hown hr hS hT hTg hlen hbase
  unfold Oper.wp execOp
  simp only [ho, resolve, invoke, builtin, Sem.run_bind, Sem.run_pure, Result.andThen_ok, List.map_toArray, List.map_cons, List.map_nil, hs, hx, hrun]
  exact hK _ _ (h v' w' h2 h3 h4 h5)
set_option maxHeartbeats 4000000 in
set_option maxRecDepth 100000 in
theorem vtParts_walk (a0 : Option Addr) (len0 cap0 : Nat) (z0 : List UInt8) (a1 : Int) (w : World) (w0 : BS w w.heap.size (.slice a0 len0 cap0) z0) (w1 : (Lit.int .u16 a1).wf = true) :
    Calls Try.prog 4 #[.slice a0 len0 cap0, .int .u16 a1] w fun e w' => e = .returned (.bool true) ∧ Below w.heap.size w w' := by
  obtain ⟨_, _, hv0, -⟩ := w0.at_
  simp only [Value.slice.injEq] at hv0
  obtain ⟨-, rfl, -⟩ := hv0
  have W0 := Lib.hid w0
  obtain ⟨k0, k1⟩ := bounds_u16 w1
  clear w0 w1
  have hk := knownV_any w
  by_cases t0 : 40 < (z0.length : Int)
  · go_enter Try.func4, Try.ntmps4
    go_wp2_with (go_at_call 8; refine hk.mono ?_; rintro e wk ⟨rfl, hbk⟩)
    go_ret
    exact ⟨rfl, hbk⟩
  have t0' : decide (40 < (z0.length : Int)) = false := by simp; omega
  go_enter Try.func4, Try.ntmps4
  go_wp2_with fail
  refine hk.mono ?_
  rintro e w1 ⟨rfl, hb1⟩
  have HB1 := Lib.hid hb1
  clear hk hb1
  go_wp2_with fail
  refine (seatBytes_any _ z0 w1 ((W0.out.below HB1.out).more HB1.out.size) (by omega)).mono ?_
  rintro e w2 ⟨bv, b, rfl, hob, hbl, hb2⟩
  have HB2 := Lib.hid (HB1.out.trans (hb2.mono HB1.out.size))
  have hbs := hob.bs
  obtain ⟨Ab, cb, rfl, g1, g2, -⟩ := hbs.at_
  unfold maxLen at g2
  have HBS := Lib.hid hbs
  clear hob hb2 hbs
  obtain ⟨N, hN⟩ : ∃ N : Nat, a1 % ((b.length : Int) + 1) = (N : Int) := ⟨(a1 % ((b.length : Int) + 1)).toNat, by have := Int.emod_nonneg a1 (show (b.length : Int) + 1 ≠ 0 by omega); omega⟩
  have hNl : N ≤ b.length := by have := Int.emod_lt_of_pos a1 (show (0 : Int) < (b.length : Int) + 1 by omega); omega
  have i3 : ¬ ((b.length : Int) + 1 = 0) := by omega
  have bl8 : (b.length : Int) ≤ 800 := by omega
  have hNi : (N : Int) ≤ (b.length : Int) := by omega
  have hNc : (N : Int) ≤ (cb : Int) := by omega
  have hal := allw_any (PW.zero w2) (prM_ok 0 (by omega) (by omega) (by omega)) HBS.out (by omega)
  go_wp2_with fail
  refine hal.mono ?_
  rintro e w3 ⟨m, pv, Ap, np, cp, Ai, ni, ci, Au, nu, cu, Aa, na, ca, rfl, ⟨hm, hpv, hnp, hni, hnu, hna, x1, x2⟩, hpw, haw, hb3⟩
  have HPB := Lib.hid (PB.laid hpw)
  have HAW := Lib.hid (haw.below ((Below.refl _ _).alloc (Nat.le_refl _) (.cells (v5 m pv Ap np cp Ai ni ci Au nu cu) 25)))
  have HB3 := Lib.hid (hb3.alloc hb3.size (.cells (v5 m pv Ap np cp Ai ni ci Au nu cu) 25))
  have HNA := Lib.hid hna
  clear hal i3 hm hpv hnp hni hnu hna hpw haw hb3
  go_upto_region 8 with fail
  try simp only [hN]
  clear hN
  generalize World.alloc w3 _ = WA at HPB HAW HB3 ⊢
  generalize w3.heap.size = ga at *
  have hcut := (((HBS.out.below HB3.out).more HB3.out.size).cutH N N hNl rfl)
  have hal := allw_any (PW.zero WA) (prM_ok 0 (by omega) (by omega) (by omega)) hcut (by simp; omega)
  clear hcut
  go_wp2_with fail
  (with_reducible refine hal.mono ?_)
  rintro e w4 ⟨m2, pv2, Ap2, np2, cp2, Ai2, ni2, ci2, Au2, nu2, cu2, Aa2, na2, ca2, rfl, ⟨hm, hpv, hnp, hni, hnu, hna, y1, y2⟩, hpw, haw, hb4⟩
  have HPB2 := Lib.hid (PB.laid hpw)
  have HAW2 := Lib.hid (haw.below ((Below.refl _ _).alloc (Nat.le_refl _) (.cells (v5 m2 pv2 Ap2 np2 cp2 Ai2 ni2 ci2 Au2 nu2 cu2) 25)))
  have HB4 := Lib.hid (hb4.alloc hb4.size (.cells (v5 m2 pv2 Ap2 np2 cp2 Ai2 ni2 ci2 Au2 nu2 cu2) 25))
  clear hal hm hpv hnp hni hnu hna hpw haw hb4
  go_upto_region 9 with fail
  generalize World.alloc w4 _ = W at HPB2 HAW2 HB4 ⊢
  generalize w4.heap.size = gb at *
  have HBA := Lib.hid (HB3.out.trans (HB4.out.mono HB3.out.size))
  have hbW := (HBS.out.below HBA.out).more HBA.out.size
  obtain ⟨A5, hif⟩ : ∃ A5, (if cb = N then Ab else Option.map (fun x => x.add N) Ab) = A5 := ⟨_, rfl⟩
  have hcut := hbW.cut N (b.length - N) (b.length - N) (by omega) rfl
  rw [hif, List.take_of_length_le (by simp)] at hcut
  have hok1 := vtAll_ok (prM 0) (b.take N) (prM_ok 0 (by omega) (by omega) (by omega))
  have HALL : Hid (∀ W1, Below W.heap.size W W1 → Calls Try.prog 17 #[.agg (v5 m2 pv2 Ap2 np2 cp2 Ai2 ni2 ci2 Au2 nu2 cu2), .slice A5 (b.length - N) (cb - N)] W1 (VtPost (Old W) (vtAll (vtAll (prM 0) (b.take N)).1 (b.drop N)) W1)) := fun W1 h => vall_in h HPB2.out.2 hok1 hcut (by simp; omega)
  have HOK1 := Lib.hid hok1
  obtain ⟨c0, c1, c2, c3, c4⟩ := HPB2.out.cells
  have hgb : gb < W.heap.size := lt7 HPB2.out.1
  have hB0 : Below W.heap.size W W.drew := (Below.refl _ _).drew
  have hB1 : ∀ o, Below W.heap.size W (W.alloc o).drew := fun o => ((Below.refl _ _).alloc (Nat.le_refl _) o).drew
  have i1 : IntKind.i64.wrap (N : Int) = (N : Int) := by rw [IntKind.wrap_i64]; omega
  have i2 : ((N : Int)).toNat = N := by omega
  clear hcut hbW hok1
  have happ := vtAll_app (prM 0) (b.take N) (b.drop N)
  rw [List.take_append_drop] at happ
  have hfew := vtAll_few (prM 0) b (prM_ok 0 (by omega) (by omega) (by omega))
  have hokb := vtAll_ok (prM 0) b (prM_ok 0 (by omega) (by omega) (by omega))
  have HAPP := Lib.hid happ
  have HFEW := Lib.hid hfew
  have HOKB := Lib.hid hokb
  clear happ hfew hokb
  generalize vtAll (vtAll (prM 0) (b.take N)).1 (b.drop N) = RZ at *
  generalize vtAll (prM 0) (b.take N) = QY at *
  generalize vtAll (prM 0) b = PX at *
  go_cut [11, 12] from 40 to 47 (fun s11 s12 wx => LaidAt W RZ s11 s12 wx)
  case first =>
    refine wp_region_any (by kernel_rfl) ?_
    try (change wpAny _ _ _ _ _ _ _ (World.drew _))
    refine wpAny_take (i := 1) (v := .slice Ab b.length cb) rfl (by kernel_rfl) (by kernel_rfl) (by kernel_rfl) (fun _ _ _ h => h) (Or.inl ⟨by rfl, fun w => by go_simp⟩) ?_
    go_simp
    refine wpAny_take (i := 2) (v := .int .i64 (N : Int)) rfl (by kernel_rfl) (by kernel_rfl) (by kernel_rfl) (fun _ _ _ h => h) (Or.inl ⟨by rfl, fun w => by go_simp⟩) ?_
    go_simp
    refine wpAny_take (i := 3) (v := .slice A5 (b.length - N) (cb - N)) rfl (by kernel_rfl) (by kernel_rfl) (by kernel_rfl) (fun _ _ _ h => h) (Or.inl ⟨by rfl, fun w => by go_simp⟩) ?_
    go_simp
    refine wpAny_ready (rs := [0, 8]) (by kernel_rfl) (by simp) ?_
    refine AllReady.cons rfl (fun K hK => ?_) (AllReady.cons rfl (fun K hK => ?_) AllReady.nil)
    · go_simp
      refine hK _ _ ?_
      clear hK K
      refine wpAny_ready (rs := [4, 8]) (by kernel_rfl) (by simp) ?_
      refine AllReady.cons rfl (fun K hK => ?_) (AllReady.cons rfl (fun K hK => ?_) AllReady.nil)
      · go_simp
        refine (HALL.out _ hB0).mono ?_
        rintro e w6 ⟨qv, av, rfl, hq, ha, b6⟩
        obtain ⟨xp, xi, xu, rfl, r1, r2, r3⟩ := hq
        obtain ⟨Bp, dp, rfl, s1, s2⟩ := r1.form
        obtain ⟨Bi, di, rfl, s3, s4⟩ := r2.form
        obtain ⟨Bu, du, rfl, s5, s6⟩ := r3.form
        obtain ⟨Ba, da, rfl, s7, s8⟩ := ha.form
        refine hK _ _ ?_
        clear hK K
        refine wpAny_take (i := 5) (v := .tuple #[.agg #[.int .i64 (RZ.1.mode : Int), .int .u8 (RZ.1.priv : Int), .slice Bp RZ.1.params.length dp, .slice Bi RZ.1.inter.length di, .slice Bu RZ.1.utf.length du], .slice Ba RZ.2.length da]) rfl (by kernel_rfl) (by kernel_rfl) (by kernel_rfl) (fun _ _ _ h => h) (Or.inl ⟨by rfl, fun w => by go_simp⟩) ?_
        go_simp
        refine wpAny_take (i := 6) (v := .agg #[.int .i64 (RZ.1.mode : Int), .int .u8 (RZ.1.priv : Int), .slice Bp RZ.1.params.length dp, .slice Bi RZ.1.inter.length di, .slice Bu RZ.1.utf.length du]) rfl (by kernel_rfl) (by kernel_rfl) (by kernel_rfl) (fun _ _ _ h => h) (Or.inl ⟨by rfl, fun w => by go_simp⟩) ?_
        go_simp
        refine wpAny_take (i := 7) (v := .slice Ba RZ.2.length da) rfl (by kernel_rfl) (by kernel_rfl) (by kernel_rfl) (fun _ _ _ h => h) (Or.inl ⟨by rfl, fun w => by go_simp⟩) ?_
        go_simp
        refine wpAny_ready (rs := [8]) (by kernel_rfl) (by simp) ?_
        refine AllReady.cons rfl (fun K hK => ?_) AllReady.nil
        go_simp
        refine hK _ _ ?_
        clear hK K
        refine wpAny_ready (rs := [9]) (by kernel_rfl) (by simp) ?_
        refine AllReady.cons rfl (fun K hK => ?_) AllReady.nil
        go_simp
        refine hK _ _ ?_
        clear hK K
        refine wpAny_take (i := 10) (v := .slice Ba RZ.2.length da) rfl (by kernel_rfl) (by kernel_rfl) (by kernel_rfl) (fun _ _ _ h => h) (Or.inl ⟨by rfl, fun w => by go_simp⟩) ?_
        go_simp
        refine wpAny_done (by kernel_rfl) ?_ _
        go_simp
        go_wp2_with fail
        go_meet
        exact laidA hB0 b6 r1 r2 r3 ha
      · go_simp
        refine hK _ _ ?_
        clear hK K
        refine wpAny_ready (rs := [4]) (by kernel_rfl) (by simp) ?_
        refine AllReady.cons rfl (fun K hK => ?_) AllReady.nil
        go_simp
        refine (HALL.out _ (hB1 _)).mono ?_
        rintro e w6 ⟨qv, av, rfl, hq, ha, b6⟩
        obtain ⟨xp, xi, xu, rfl, r1, r2, r3⟩ := hq
        obtain ⟨Bp, dp, rfl, s1, s2⟩ := r1.form
        obtain ⟨Bi, di, rfl, s3, s4⟩ := r2.form
        obtain ⟨Bu, du, rfl, s5, s6⟩ := r3.form
        obtain ⟨Ba, da, rfl, s7, s8⟩ := ha.form
        have kp := blk7 b6
        have kc0 := cell7 kp 0 rfl
        have kf0 := frz7 kp 0
        have kc1 := cell7 kp 1 rfl
        have kf1 := frz7 kp 1
        have kc2 := cell7 kp 2 rfl
        have kf2 := frz7 kp 2
        have kc3 := cell7 kp 3 rfl
        have kf3 := frz7 kp 3
        have kc4 := cell7 kp 4 rfl
        have kf4 := frz7 kp 4
        refine hK _ _ ?_
        clear hK K
        refine wpAny_take (i := 5) (v := .tuple #[.agg #[.int .i64 (RZ.1.mode : Int), .int .u8 (RZ.1.priv : Int), .slice Bp RZ.1.params.length dp, .slice Bi RZ.1.inter.length di, .slice Bu RZ.1.utf.length du], .slice Ba RZ.2.length da]) rfl (by kernel_rfl) (by kernel_rfl) (by kernel_rfl) (fun _ _ _ h => h) (Or.inl ⟨by rfl, fun w => by go_simp⟩) ?_
        go_simp
        refine wpAny_take (i := 6) (v := .agg #[.int .i64 (RZ.1.mode : Int), .int .u8 (RZ.1.priv : Int), .slice Bp RZ.1.params.length dp, .slice Bi RZ.1.inter.length di, .slice Bu RZ.1.utf.length du]) rfl (by kernel_rfl) (by kernel_rfl) (by kernel_rfl) (fun _ _ _ h => h) (Or.inl ⟨by rfl, fun w => by go_simp⟩) ?_
        go_simp
        refine wpAny_take (i := 7) (v := .slice Ba RZ.2.length da) rfl (by kernel_rfl) (by kernel_rfl) (by kernel_rfl) (fun _ _ _ h => h) (Or.inl ⟨by rfl, fun w => by go_simp⟩) ?_
        go_simp
        refine wpAny_ready (rs := [9]) (by kernel_rfl) (by simp) ?_
        refine AllReady.cons rfl (fun K hK => ?_) AllReady.nil
        go_simp
        refine hK _ _ ?_
        clear hK K
        refine wpAny_take (i := 10) (v := .slice Ba RZ.2.length da) rfl (by kernel_rfl) (by kernel_rfl) (by kernel_rfl) (fun _ _ _ h => h) (Or.inl ⟨by rfl, fun w => by go_simp⟩) ?_
        go_simp
        refine wpAny_done (by kernel_rfl) ?_ _
        go_simp
        go_wp2_with fail
        go_meet
        exact laidB b6 r1 r2 r3 ha
    · go_simp
      refine hK _ _ ?_
      clear hK K
      refine wpAny_ready (rs := [0]) (by kernel_rfl) (by simp) ?_
      refine AllReady.cons rfl (fun K hK => ?_) AllReady.nil
      go_simp
      refine hK _ _ ?_
      clear hK K
      refine wpAny_ready (rs := [4]) (by kernel_rfl) (by simp) ?_
      refine AllReady.cons rfl (fun K hK => ?_) AllReady.nil
      go_simp
      refine (HALL.out _ (hB1 _)).mono ?_
      rintro e w6 ⟨qv, av, rfl, hq, ha, b6⟩
      obtain ⟨xp, xi, xu, rfl, r1, r2, r3⟩ := hq
      obtain ⟨Bp, dp, rfl, s1, s2⟩ := r1.form
      obtain ⟨Bi, di, rfl, s3, s4⟩ := r2.form
      obtain ⟨Bu, du, rfl, s5, s6⟩ := r3.form
      obtain ⟨Ba, da, rfl, s7, s8⟩ := ha.form
      have kp := blk7 b6
      have kc0 := cell7 kp 0 rfl
      have kf0 := frz7 kp 0
      have kc1 := cell7 kp 1 rfl
      have kf1 := frz7 kp 1
      have kc2 := cell7 kp 2 rfl
      have kf2 := frz7 kp 2
      have kc3 := cell7 kp 3 rfl
      have kf3 := frz7 kp 3
      have kc4 := cell7 kp 4 rfl
      have kf4 := frz7 kp 4
      refine hK _ _ ?_
      clear hK K
      refine wpAny_take (i := 5) (v := .tuple #[.agg #[.int .i64 (RZ.1.mode : Int), .int .u8 (RZ.1.priv : Int), .slice Bp RZ.1.params.length dp, .slice Bi RZ.1.inter.length di, .slice Bu RZ.1.utf.length du], .slice Ba RZ.2.length da]) rfl (by kernel_rfl) (by kernel_rfl) (by kernel_rfl) (fun _ _ _ h => h) (Or.inl ⟨by rfl, fun w => by go_simp⟩) ?_
      go_simp
      refine wpAny_take (i := 6) (v := .agg #[.int .i64 (RZ.1.mode : Int), .int .u8 (RZ.1.priv : Int), .slice Bp RZ.1.params.length dp, .slice Bi RZ.1.inter.length di, .slice Bu RZ.1.utf.length du]) rfl (by kernel_rfl) (by kernel_rfl) (by kernel_rfl) (fun _ _ _ h => h) (Or.inl ⟨by rfl, fun w => by go_simp⟩) ?_
      go_simp
      refine wpAny_take (i := 7) (v := .slice Ba RZ.2.length da) rfl (by kernel_rfl) (by kernel_rfl) (by kernel_rfl) (fun _ _ _ h => h) (Or.inl ⟨by rfl, fun w => by go_simp⟩) ?_
      go_simp
      refine wpAny_ready (rs := [9]) (by kernel_rfl) (by simp) ?_
      refine AllReady.cons rfl (fun K hK => ?_) AllReady.nil
      go_simp
      refine hK _ _ ?_
      clear hK K
      refine wpAny_take (i := 10) (v := .slice Ba RZ.2.length da) rfl (by kernel_rfl) (by kernel_rfl) (by kernel_rfl) (fun _ _ _ h => h) (Or.inl ⟨by rfl, fun w => by go_simp⟩) ?_
      go_simp
      refine wpAny_done (by kernel_rfl) ?_ _
      go_simp
      go_wp2_with fail
      go_meet
      exact laidB b6 r1 r2 r3 ha
  case rest =>
    obtain ⟨g, m3, pv3, Ap3, np3, cp3, Ai3, ni3, ci3, Au3, nu3, cu3, Aa3, na3, ca3, rfl, rfl, ⟨-, -, -, -, -, hna3, u1, u2⟩, hpb, haw, hbc, hgl⟩ := hcut
    have hp1 := (HPB.out.below HB4.out).below hbc
    have hx1 := (HAW.out.below HB4.out).below hbc
    have hy1 := HAW2.out.below hbc
    rw [HAPP.out] at hp1 hx1 HOKB HFEW
    have hsame := samew_any hp1.2 hpb.2 HOKB.out
    obtain ⟨d0, d1, d2, d3, d4⟩ := hp1.cells
    obtain ⟨e0, e1, e2, e3, e4⟩ := hpb.cells
    have HX1 := Lib.hid hx1
    have HY1 := Lib.hid hy1
    have HZ1 := Lib.hid haw
    have HBC := Lib.hid ((HB2.out.trans (HBA.out.mono HB2.out.size)).trans (hbc.mono (HB2.out.trans (HBA.out.mono HB2.out.size)).size))
    clear hx1 hy1 haw hbc hp1 hpb c0 c1 c2 c3 c4 hB0 hB1 hna3
    go_wp2_with fail
    refine hsame.mono ?_
    rintro e w8 ⟨rfl, hb8⟩
    have HX8 := Lib.hid (HX1.out.below hb8)
    have HY8 := Lib.hid (HY1.out.below hb8)
    have HZ8 := Lib.hid (HZ1.out.below hb8)
    have HB8 := Lib.hid (HBC.out.trans (hb8.mono HBC.out.size))
    clear hsame hb8 d0 d1 d2 d3 d4 e0 e1 e2 e3 e4
    have hlen := HFEW.out.1
    rw [List.length_append] at hlen
    go_wp2_with (first
      | (at_builtin; refine wpl_appAg _ (by rfl) (.const (.slice none 0 0)) (.tmp 53) rfl w8.heap.size (fun _ => False) (Old w8) (Old w8) _ _ [] QY.2 rfl rfl (OA.nil _ _ _) HY8.out (fun _ h => h.elim) (fun _ h => h) (fun g h => by cases h) (by simp; omega) (Nat.le_refl _) ?_; intro v9 w9 ho9 hg9 hb9 _; have HB9 := Lib.hid hb9; have HO9 := Lib.hid ho9; clear ho9 hg9 hb9)
      | (at_builtin; refine wpl_appAg _ (by rfl) (.tmp 54) (.tmp 55) rfl w8.heap.size (fun x => False ∨ Old w8 x) (Old w8) (Old w8) _ _ ([] ++ QY.2) RZ.2 rfl rfl HO9.out (HZ8.out.keep (fun q hq => HB9.out.cell hq) (fun q hq => HB9.out.cell hq)) (fun x h => h.elim False.elim (fun h => Nat.lt_of_lt_of_le h HB9.out.size)) (fun x h => Nat.lt_of_lt_of_le h HB9.out.size) (fun g hg h => by have h1 := (HO9.out.lt g hg).1; have h2 : g < w8.heap.size := h; omega) (by simp; omega) HB9.out.size ?_; intro v10 w10 ho10 hg10 hb10 _; have HB10 := Lib.hid (HB9.out.trans hb10); have HO10 := Lib.hid ho10; clear ho10 hg10 hb10))
    have ha1 : AW w10 (.slice Aa na ca) (QY.2 ++ RZ.2) := HX8.out.below HB10.out
    have ha2 : AW w10 v10 (QY.2 ++ RZ.2) := (HO10.out.as).mono (fun x hx => hx.2) (fun x hx => by
      have hz := HB10.out.size
      rcases hx with (h | h) | h
      · exact h.elim
      · exact Nat.lt_of_lt_of_le h hz
      · exact Nat.lt_of_lt_of_le h hz)
    refine (actsw_any ha1 ha2 HFEW.out.2 (by rw [List.length_append]; omega)).mono ?_
    rintro e w11 ⟨rfl, hb11⟩
    go_wp2
    go_ret
    exact ⟨rfl, (HB8.out.trans (HB10.out.mono HB8.out.size)).trans (hb11.mono (HB8.out.trans (HB10.out.mono HB8.out.size)).size)⟩
end Go.Proofs.Ytbimhhcmfhooaaa

namespace Go.Proofs.Ytbimhhcmfhooaaa
open Go.ChangeShapes Go.WideShapes Go.ChangeAt Go.RowKit
open Go.ChangeMaps (open_string shut_string)
set_option linter.unusedVariables false

theorem vtParts_own : ownKnob Try.prog.godebug = none := by kernel_rfl
theorem vtParts_laidOut : laidOutB Try.prog = true := by kernel_rfl

set_option maxRecDepth 100000 in
theorem vtParts_lifted (os : Os) (started : os.Started) (H : Type) (enc : TypeId × Value → H) :
    ReturnsInHanded {} Try.checked os 4 .any (Rows.vtPartsSpec.pre6 enc Try.prog Try.f4 Rows.vtPartsRow.domain false) (Rows.vtPartsSpec.post enc Try.prog Try.f4 false true false false) := by
  refine returnsInHanded_of_change (C := Try.checked) vtParts_own started (by kernel_rfl) Try.func4
    (ChangeSpec.witness6 (enc := enc) (C := Try.checked) false ⟨#[], #[.slice none 0 0, .int .u16 0], []⟩ 8 (by kernel_rfl) (by kernel_rfl) (by kernel_rfl) (by kernel_rfl)) ?_
  intro W base args ds gs before hval0 hW hcnd _
  have hval : ∀ (j : Nat) t v, Try.f4.params[j]? = some t → args[j]? = some v → Value.okWide Try.prog W .any base t v := hval0
  have hW' := hW
  obtain ⟨p, q, hA0, hV, rfl, hfz, hnd⟩ := hW
  have hA : DataW.TrodAll enc Try.prog W 0 (fun _ => true) true Try.f4.params.toList args.toList ds p := hA0
  rw [Try.params4] at hA hval
  obtain ⟨v0, vs0, d0, ds0, p0, q0, hargs, rfl, rfl, h0, r0⟩ := trodAll_cons hA
  obtain ⟨v1, vs1, d1, ds1, p1, q1, rfl, rfl, rfl, h1, r1⟩ := trodAll_cons r0
  obtain ⟨rfl, rfl, rfl⟩ := trodAll_nil r1
  obtain rfl : args = #[v0, v1] := by cases args; simp_all
  obtain ⟨rfl, rfl⟩ := trodVars_none hV
  obtain ⟨a0, len0, cap0, rfl⟩ := okWide_slice Try.underlying22 (hval 0 22 v0 rfl rfl)
  have k0 := h0
  have lt0 : ∀ x ∈ p0, x.block < W.heap.size := by obtain ⟨m, hm⟩ := k0; exact DataW.trod_lt m _ _ _ hm
  obtain ⟨z0, w0⟩ : ∃ l, BS W W.heap.size (.slice a0 len0 cap0) l := by
    obtain ⟨fuel, hf⟩ := h0
    rcases open_ints Try.underlying22 Try.underlying5 (by kernel_rfl) hf with ⟨hcs, _⟩ | ⟨x, l, c, zs, hcs, _, hl, hm, hz, _, hcell, hwz⟩
    · simp [Value.cells] at hcs
      obtain ⟨rfl, rfl, rfl⟩ := hcs
      exact ⟨[], BS.nil _ _⟩
    · simp [Value.cells] at hcs
      obtain ⟨rfl, rfl, rfl⟩ := hcs
      exact bs_row hl hm (by simpa using hz) hcell hwz
  obtain ⟨a1, rfl, rfl, rfl, w1⟩ := open_int Try.underlying39 (hval 1 39 v1 rfl rfl) h1
  clear hA0 hval0
  refine (vtParts_walk a0 len0 cap0 z0 a1 W w0 w1).mono fun e W' ⟨he, bel⟩ => ?_
  subst he
  exact ⟨_, rfl, _, _, _, [], _, [], hW', trodAll_mk1 (shut_bool Try.underlying4 _), (trodAll_cons_mk (Below.trod vtParts_laidOut (by kernel_rfl) (of_decide_eq_true (by kernel_rfl)) k0 bel lt0) (trodAll_cons_mk (shut_int Try.underlying39 w1) trodAll_mk0)), rfl, bel.frame _, fun h => by cases h⟩

theorem vtParts_over : Rows.vtPartsRow.holds Try.pinned (OpenSpec.ofChange Rows.vtPartsSpec) :=
  OpenClaim.holds_of_wide 4 Try.f4 rfl rfl rfl rfl rfl rfl rfl ⟨rfl, rfl, rfl, rfl, rfl⟩ rfl rfl rfl rfl rfl (by kernel_rfl) Try.func4 (by kernel_rfl)
    (of_decide_eq_true (by kernel_rfl)) (by unfold Func.isWrapper; first | (rw [if_pos (by decide +kernel)]; kernel_rfl) | (rw [if_neg (by decide +kernel)]; exact ⟨rfl, rfl⟩))
    (fun os started H enc _ => vtParts_lifted os started H enc)

theorem vtParts_holds : Rows.VtPartsSaid := vtParts_over
#print axioms vtParts_holds
end Go.Proofs.Ytbimhhcmfhooaaa
