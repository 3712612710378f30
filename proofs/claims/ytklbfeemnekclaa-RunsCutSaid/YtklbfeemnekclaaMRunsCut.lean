/- What is proved here: the law RunsCut, called with any bytes and any numbers, returns true and leaves alone whatever memory was there; the law RunsCut, called with any arguments, returns true and leaves alone whatever memory was there. -/
import Derived.Test.YtklbfeemnekclaaM22
import Derived.Test.YtklbfeemnekclaaRows
import Derived.WalkKit
import Derived.ProofKit
import Derived.OpenShut
import Derived.ShutString
import Derived.ChangeOld
import Derived.Below
namespace Go.Proofs.Ytklbfeemnekclaa
open Go.RowKit
set_option linter.unusedVariables false
set_option linter.unusedSimpArgs false

theorem rc1 : readCL [1, 32, 0, 1, 32, 0] 2 = ([], 0, 21) := by decide +kernel
theorem rc2 : readCL [1, 32, 0, 1, 32, 0] 1 = ([⟨32, 0, 0⟩], 3, 0) := by decide +kernel
theorem rc3 : readCL [3, 32, 0] 2 = ([], 0, 21) := by decide +kernel
theorem bytL_pos (l : List Cl) (h : 0 < l.length) : 0 < (bytL l).length := by
  cases l with
  | nil => simp at h
  | cons c r =>
    rw [bytL_cons, List.length_append]
    have := (runB_len (sameN c r + 1) c).1
    omega
/-- A row that has just been laid, and another one behind it. -/
theorem OB.laid (w : World) (l : List UInt8) (cs : Array Value) (n : Nat) (hn : n = l.length) (hcs : cs = (vBs l).toArray) (hm : l.length ≤ 1048576) : OB (w.alloc (.cells cs 5)) w.heap.size (.slice (some ⟨w.heap.size, 0, none⟩) n n) l := by
  subst hn
  subst hcs
  have := World.ownsRow_lit (base := w.heap.size) (e := 5) (size := 1) w (vBs l).toArray l.length (Nat.le_refl _) (by simp [maxLen]; omega) (by simp [vBs])
  unfold OB
  exact this
theorem BS.lit2 (w : World) (o : Obj) (l : List UInt8) (n : Nat) (cs : Array Value) (t : TypeId) (hn : n = l.length) (hcs : cs = (vBs l).toArray) (hm : l.length ≤ 1048576) : BS ((w.alloc o).alloc (.cells cs t)) (w.heap.size + 1 + 1) (.slice (some ⟨w.heap.size + 1, 0, none⟩) n n) l := by
  have h := BS.lit (w.alloc o) l n cs t hn hcs hm
  have e : (w.alloc o).heap.size = w.heap.size + 1 := by simp
  rw [e] at h
  exact h
theorem OB.two3 (w : World) (o : Obj) : OB ((w.alloc (.cells #[.int .u8 1, .int .u8 32, .int .u8 0] 5)).alloc o) w.heap.size (.slice (some ⟨w.heap.size, 0, none⟩) 3 3) [1, 32, 0] := (OB.laid w [1, 32, 0] _ 3 rfl rfl (by simp)).alloc o
set_option maxHeartbeats 4000000 in
set_option maxRecDepth 100000 in
theorem runsCut_walk (a0 : Option Addr) (len0 cap0 : Nat) (z0 : List UInt8) (a1 : Int) (a2 : Int) (w : World) (w0 : BS w w.heap.size (.slice a0 len0 cap0) z0) (w1 : (Lit.int .u8 a1).wf = true) (w2 : (Lit.int .u16 a2).wf = true) :
    Calls Try.prog 5 #[.slice a0 len0 cap0, .int .u8 a1, .int .u16 a2] w fun e w' => e = .returned (.bool true) ∧ Below w.heap.size w w' := by
  obtain ⟨_, _, hv0, -⟩ := w0.at_
  simp only [Value.slice.injEq] at hv0
  obtain ⟨-, rfl, -⟩ := hv0
  have W0 := Lib.hid w0
  have hb1 := bounds_u8 w1
  have hb2 := bounds_u16 w2
  obtain ⟨k, rfl⟩ : ∃ k : Nat, a1 = (k : Int) := ⟨a1.toNat, by omega⟩
  obtain ⟨m, rfl⟩ : ∃ m : Nat, a2 = (m : Int) := ⟨a2.toNat, by omega⟩
  have k1 : k < 256 := by omega
  have k1i : (k : Int) < 256 := by omega
  have m1i : (m : Int) < 65536 := by omega
  clear w0 w1 w2 hb1 hb2
  have hk := knownR_any w
  by_cases t0 : 30 < (z0.length : Int)
  · go_enter Try.func5, Try.ntmps5
    go_wp2_with (go_at_call 6; refine hk.mono ?_; rintro e wk ⟨rfl, hbk⟩)
    go_ret
    exact ⟨rfl, hbk⟩
  have t0' : decide (30 < (z0.length : Int)) = false := by simp; omega
  obtain ⟨q, hq⟩ : ∃ q : Nat, (k : Int) / 6 = (q : Int) := ⟨k / 6, by omega⟩
  have q1 : q < 256 := by omega
  go_enter Try.func5, Try.ntmps5
  go_wp2_with fail
  refine hk.mono ?_
  rintro e w1 ⟨rfl, hb1⟩
  have HB1 := Lib.hid hb1
  clear hk hb1
  go_wp2_with fail
  refine (seatScreen_any k q k1 q1 _ z0 w1 ((W0.out.below HB1.out).more HB1.out.size) (by omega)).mono ?_
  rintro e w2 ⟨v2, s, r, c, rfl, hv2, hi, hr, hc, b2⟩
  obtain ⟨uc, ut, uo, up, ui, uu, rfl, hs2⟩ := hv2
  have HLS := Lib.hid (laidS b2 hs2 hi hr hc zS rfl)
  have k2 := heap_one w2 (.cells zS 31)
  rename_i K hK
  refine hK _ _ ?_
  clear hK
  iterate 1 (refine wpList_plain rfl fun K hK => ?_; go_simp; refine hK _ _ ?_; clear hK K)
  refine wpl_storeS rfl (.tmp 7) (.tmp 32) rfl rfl rfl k2 rfl rfl hs2.one ?_
  clear k2 hs2 b2 hi hr hc
  generalize World.setRow _ _ _ = W at HLS ⊢
  generalize vS s uc ut uo up ui uu = vs at *
  generalize s.cells = l at *
  generalize hsb : w2.heap.size = sb at *
  go_simp
  obtain ⟨A, cp, rfl, g1, g2⟩ := HLS.out.cs.form
  have l1 := HLS.out.pos
  have l2 := HLS.out.most
  have hc0 := HLS.out.cell
  have hbl := bytL_len l
  have hp := putP_any _ l W HLS.out.cs (by omega) HLS.out.fit
  unfold PutCPost at hp
  rw [putCL_yes HLS.out.all] at hp
  go_wp2_with fail
  refine hp.mono ?_
  rintro e w3 ⟨u3, rfl, o3, b3⟩
  have HL3 := Lib.hid (HLS.out.below b3)
  have hu3 := o3.bs
  obtain ⟨A3, c3, rfl, g3, g4, -⟩ := hu3.at_
  unfold maxLen at g4
  have HU3 := Lib.hid hu3
  clear hp hc0 o3 b3 hu3 hsb
  have hc0 := HL3.out.cell
  have hbp := bytL_pos l l1
  obtain ⟨K, hK⟩ : ∃ K : Nat, (m : Int) % ((bytL l).length : Int) = (K : Int) := ⟨m % (bytL l).length, by rw [Int.natCast_emod]⟩
  have hKl : K < (bytL l).length := by
    have : (m : Int) % ((bytL l).length : Int) < ((bytL l).length : Int) := Int.emod_lt_of_pos _ (by omega)
    omega
  have hcut := HU3.out.cutH K K (by omega) rfl
  have hdc : (((bytL l).length : Int) == 0) = false := beq_eq_false_iff_ne.2 (by omega)
  have hne0 : ¬ ((bytL l).length : Int) = 0 := by omega
  have htm : (m : Int).tmod ((bytL l).length : Int) = (K : Int) := by rw [Int.tmod_eq_emod_of_nonneg (by omega)]; exact hK
  have hKi : (K : Int) ≤ ((bytL l).length : Int) := by omega
  have hrd := readP_any _ ((bytL l).take K) (l.length : Int) w3.drew (hcut.below (Below.drew (Below.refl _ _))) (by simp; omega) (by omega) (by omega)
  unfold ReadCPost at hrd
  rw [readCL_cut l K HLS.out.all (by omega) hKl] at hrd
  have HRD := Lib.hid (show Calls Try.prog 12 #[.slice A3 K c3, .int .i64 (l.length : Int)] w3.drew (fun e w' => ∃ u, e = .returned (.tuple #[u, .int .i64 0, .int .i64 22]) ∧ Below w3.heap.size w3 w') from hrd.mono (by rintro e w' ⟨u, rfl, -, hb⟩; exact ⟨u, rfl, (Below.drew (Below.refl _ _)).trans hb⟩))
  clear hrd hcut hK
  generalize (bytL l).length = M at *
  have i0 : IntKind.i64.wrap (m : Int) = (m : Int) := by rw [IntKind.wrap_i64]; omega
  have i1 : IntKind.i64.wrap (K : Int) = (K : Int) := by rw [IntKind.wrap_i64]; omega
  have i2 : ((K : Int)).toNat = K := by omega
  have i3 : K ≤ c3 := by omega
  have hM0 : ¬ M = 0 := by omega
  go_wp2
  have hS : w3.drew.cell? ⟨sb, 2, none⟩ = some (.slice A l.length cp) := hc0
  refine wp_region_any (by kernel_rfl) ?_
  try (change wpAny _ _ _ _ _ _ _ (World.drew _))
  refine wpAny_take (i := 0) (v := .slice A3 M c3) rfl (by kernel_rfl) (by kernel_rfl) (by kernel_rfl) (fun _ _ _ h => h) (Or.inl ⟨by rfl, fun w => by go_simp⟩) ?_
  go_simp
  refine wpAny_take (i := 1) (v := .int .u16 (m : Int)) rfl (by kernel_rfl) (by kernel_rfl) (by kernel_rfl) (fun _ _ _ h => h) (Or.inl ⟨by rfl, fun w => by go_simp⟩) ?_
  go_simp
  refine wpAny_take (i := 2) (v := .int .i64 (m : Int)) rfl (by kernel_rfl) (by kernel_rfl) (by kernel_rfl) (fun _ _ _ h => h) (Or.inl ⟨by rfl, fun w => by go_simp⟩) ?_
  go_simp
  refine wpAny_take (i := 3) (v := .slice A3 M c3) rfl (by kernel_rfl) (by kernel_rfl) (by kernel_rfl) (fun _ _ _ h => h) (Or.inl ⟨by rfl, fun w => by go_simp⟩) ?_
  go_simp
  refine wpAny_take (i := 4) (v := .int .i64 (M : Int)) rfl (by kernel_rfl) (by kernel_rfl) (by kernel_rfl) (fun _ _ _ h => h) (Or.inl ⟨by rfl, fun w => by go_simp⟩) ?_
  go_simp
  refine wpAny_take (i := 5) (v := .int .i64 (K : Int)) rfl (by kernel_rfl) (by kernel_rfl) (by kernel_rfl) (fun _ _ _ h => h) (Or.inl ⟨by rfl, fun w => by go_simp⟩) ?_
  go_simp
  refine wpAny_take (i := 6) (v := .slice A3 K c3) rfl (by kernel_rfl) (by kernel_rfl) (by kernel_rfl) (fun _ _ _ h => h) (Or.inl ⟨by rfl, fun w => by go_simp⟩) ?_
  go_simp
  refine wpAny_take (i := 7) (v := .pointer (some ⟨sb, 2, none⟩)) rfl (by kernel_rfl) (by kernel_rfl) (by kernel_rfl) (fun _ _ _ h => h) (Or.inl ⟨by rfl, fun w => by go_simp⟩) ?_
  go_simp
  refine wpAny_ready (rs := [8]) (by kernel_rfl) (by simp) ?_
  refine AllReady.cons rfl (fun K hK => ?_) AllReady.nil
  go_simp
  refine hK _ _ ?_
  clear hK K
  refine wpAny_take (i := 9) (v := .int .i64 (l.length : Int)) rfl (by kernel_rfl) (by kernel_rfl) (by kernel_rfl) (fun _ _ _ h => h) (Or.inl ⟨by rfl, fun w => by go_simp⟩) ?_
  go_simp
  refine wpAny_ready (rs := [10]) (by kernel_rfl) (by simp) ?_
  refine AllReady.cons rfl (fun K hK => ?_) AllReady.nil
  go_simp
  refine HRD.out.mono ?_
  rintro e w4 ⟨u4, rfl, b4⟩
  refine hK _ _ ?_
  clear hK K
  refine wpAny_take (i := 11) (v := .tuple #[u4, .int .i64 0, .int .i64 22]) rfl (by kernel_rfl) (by kernel_rfl) (by kernel_rfl) (fun _ _ _ h => h) (Or.inl ⟨by rfl, fun w => by go_simp⟩) ?_
  go_simp
  refine wpAny_take (i := 12) (v := u4) rfl (by kernel_rfl) (by kernel_rfl) (by kernel_rfl) (fun _ _ _ h => h) (Or.inl ⟨by rfl, fun w => by go_simp⟩) ?_
  go_simp
  refine wpAny_take (i := 13) (v := .int .i64 0) rfl (by kernel_rfl) (by kernel_rfl) (by kernel_rfl) (fun _ _ _ h => h) (Or.inl ⟨by rfl, fun w => by go_simp⟩) ?_
  go_simp
  refine wpAny_take (i := 14) (v := .int .i64 22) rfl (by kernel_rfl) (by kernel_rfl) (by kernel_rfl) (fun _ _ _ h => h) (Or.inl ⟨by rfl, fun w => by go_simp⟩) ?_
  go_simp
  refine wpAny_take (i := 15) (v := u4) rfl (by kernel_rfl) (by kernel_rfl) (by kernel_rfl) (fun _ _ _ h => h) (Or.inl ⟨by rfl, fun w => by go_simp⟩) ?_
  go_simp
  refine wpAny_take (i := 16) (v := .int .i64 0) rfl (by kernel_rfl) (by kernel_rfl) (by kernel_rfl) (fun _ _ _ h => h) (Or.inl ⟨by rfl, fun w => by go_simp⟩) ?_
  go_simp
  refine wpAny_take (i := 17) (v := .int .i64 22) rfl (by kernel_rfl) (by kernel_rfl) (by kernel_rfl) (fun _ _ _ h => h) (Or.inl ⟨by rfl, fun w => by go_simp⟩) ?_
  go_simp
  refine wpAny_done (by kernel_rfl) ?_ _
  go_simp
  have HB4 := Lib.hid (HB1.out.trans ((HL3.out.below b4).bel.mono HB1.out.size))
  clear hS hc0 b4 i0 i1 i2 i3 hM0 htm hKi hne0 hdc
  go_wp2_with (first
    | (at_builtin; refine wpl_app _ rfl (.tmp 61) (.tmp 62) rfl w4.heap.size _ _ _ [1, 32, 0] [1, 32] rfl rfl (OB.two3 w4 _) (BS.lit2 w4 _ [1, 32] 2 #[.int .u8 1, .int .u8 32] _ rfl rfl (by simp)) (by simp) (by simp; omega) ?_; intro va wa oa ga ba _; have HBa := Lib.hid ((((Below.refl w4.heap.size w4).alloc (Nat.le_refl _) _).alloc (by simp) _).trans ba); have hza : w4.heap.size ≤ wa.heap.size := HBa.out.size; have HOa := Lib.hid oa; clear oa ga ba)
    | (at_builtin; refine wpl_app _ rfl (.tmp 63) (.tmp 64) rfl w4.heap.size _ _ _ [1, 32, 0, 1, 32] [0] rfl rfl (HOa.out.alloc _) (BS.lit wa [0] 1 #[.int .u8 0] _ rfl rfl (by simp)) (by simp) (by simp; omega) ?_; intro vb wb ob gb bb _; have HBb := Lib.hid ((HBa.out.alloc hza _).trans bb); have HOb := Lib.hid ob; clear ob gb bb))
  have hr1 := readP_any vb [1, 32, 0, 1, 32, 0] 2 wb HOb.out.bs (by simp) (by omega) (by omega)
  unfold ReadCPost at hr1
  rw [rc1] at hr1
  refine hr1.mono ?_
  rintro e w5 ⟨u5, rfl, o5, b5⟩
  have HV5 := Lib.hid ((HOb.out.below b5).bs)
  have HB5 := Lib.hid (HBb.out.trans (b5.mono HBb.out.size))
  clear hr1 o5 b5 HOb HBb HOa HBa
  have hr2 := readP_any vb [1, 32, 0, 1, 32, 0] 1 w5 HV5.out (by simp) (by omega) (by omega)
  unfold ReadCPost at hr2
  rw [rc2] at hr2
  go_wp2_with fail
  refine hr2.mono ?_
  rintro e w6 ⟨u6, rfl, o6, b6⟩
  have HB6 := Lib.hid (HB5.out.trans (b6.mono HB5.out.size))
  clear hr2 o6 b6
  have hr3 := readP_any (.slice (some ⟨w6.heap.size, 0, none⟩) 3 3) [3, 32, 0] 2 (w6.alloc (.cells #[.int .u8 3, .int .u8 32, .int .u8 0] 5)) ((BS.lit w6 [3, 32, 0] 3 _ _ rfl rfl (by simp)).more (by simp)) (by simp) (by omega) (by omega)
  unfold ReadCPost at hr3
  rw [rc3] at hr3
  go_wp2_with fail
  refine hr3.mono ?_
  rintro e w7 ⟨u7, rfl, o7, b7⟩
  have HB7 := Lib.hid ((HB6.out.alloc HB6.out.size _).trans (b7.mono (HB6.out.alloc HB6.out.size _).size))
  clear hr3 o7 b7
  go_wp2
  go_ret
  exact ⟨rfl, HB4.out.trans (HB7.out.mono HB4.out.size)⟩
end Go.Proofs.Ytklbfeemnekclaa

namespace Go.Proofs.Ytklbfeemnekclaa
open Go.ChangeShapes Go.WideShapes Go.ChangeAt Go.RowKit
open Go.ChangeMaps (open_string shut_string)
set_option linter.unusedVariables false

theorem runsCut_own : ownKnob Try.prog.godebug = none := by kernel_rfl
theorem runsCut_laidOut : laidOutB Try.prog = true := by kernel_rfl

set_option maxRecDepth 100000 in
theorem runsCut_lifted (os : Os) (started : os.Started) (H : Type) (enc : TypeId × Value → H) :
    ReturnsInHanded {} Try.checked os 5 .any (Rows.runsCutSpec.pre6 enc Try.prog Try.f5 Rows.runsCutRow.domain false) (Rows.runsCutSpec.post enc Try.prog Try.f5 false true false false) := by
  refine returnsInHanded_of_change (C := Try.checked) runsCut_own started (by kernel_rfl) Try.func5
    (ChangeSpec.witness6 (enc := enc) (C := Try.checked) false ⟨#[], #[.slice none 0 0, .int .u8 0, .int .u16 0], []⟩ 8 (by kernel_rfl) (by kernel_rfl) (by kernel_rfl) (by kernel_rfl)) ?_
  intro W base args ds gs before hval0 hW hcnd _
  have hval : ∀ (j : Nat) t v, Try.f5.params[j]? = some t → args[j]? = some v → Value.okWide Try.prog W .any base t v := hval0
  have hW' := hW
  obtain ⟨p, q, hA0, hV, rfl, hfz, hnd⟩ := hW
  have hA : DataW.TrodAll enc Try.prog W 0 (fun _ => true) true Try.f5.params.toList args.toList ds p := hA0
  rw [Try.params5] at hA hval
  obtain ⟨v0, vs0, d0, ds0, p0, q0, hargs, rfl, rfl, h0, r0⟩ := trodAll_cons hA
  obtain ⟨v1, vs1, d1, ds1, p1, q1, rfl, rfl, rfl, h1, r1⟩ := trodAll_cons r0
  obtain ⟨v2, vs2, d2, ds2, p2, q2, rfl, rfl, rfl, h2, r2⟩ := trodAll_cons r1
  obtain ⟨rfl, rfl, rfl⟩ := trodAll_nil r2
  obtain rfl : args = #[v0, v1, v2] := by cases args; simp_all
  obtain ⟨rfl, rfl⟩ := trodVars_none hV
  obtain ⟨a0, len0, cap0, rfl⟩ := okWide_slice Try.underlying23 (hval 0 23 v0 rfl rfl)
  have k0 := h0
  have lt0 : ∀ x ∈ p0, x.block < W.heap.size := by obtain ⟨m, hm⟩ := k0; exact DataW.trod_lt m _ _ _ hm
  obtain ⟨z0, w0⟩ : ∃ l, BS W W.heap.size (.slice a0 len0 cap0) l := by
    obtain ⟨fuel, hf⟩ := h0
    rcases open_ints Try.underlying23 Try.underlying5 (by kernel_rfl) hf with ⟨hcs, _⟩ | ⟨x, l, c, zs, hcs, _, hl, hm, hz, _, hcell, hwz⟩
    · simp [Value.cells] at hcs
      obtain ⟨rfl, rfl, rfl⟩ := hcs
      exact ⟨[], BS.nil _ _⟩
    · simp [Value.cells] at hcs
      obtain ⟨rfl, rfl, rfl⟩ := hcs
      exact bs_row hl hm (by simpa using hz) hcell hwz
  obtain ⟨a1, rfl, rfl, rfl, w1⟩ := open_int Try.underlying5 (hval 1 5 v1 rfl rfl) h1
  obtain ⟨a2, rfl, rfl, rfl, w2⟩ := open_int Try.underlying25 (hval 2 25 v2 rfl rfl) h2
  clear hA0 hval0
  refine (runsCut_walk a0 len0 cap0 z0 a1 a2 W w0 w1 w2).mono fun e W' ⟨he, bel⟩ => ?_
  subst he
  exact ⟨_, rfl, _, _, _, [], _, [], hW', trodAll_mk1 (shut_bool Try.underlying4 _), (trodAll_cons_mk (Below.trod runsCut_laidOut (by kernel_rfl) (of_decide_eq_true (by kernel_rfl)) k0 bel lt0) (trodAll_cons_mk (shut_int Try.underlying5 w1) (trodAll_cons_mk (shut_int Try.underlying25 w2) trodAll_mk0))), rfl, bel.frame _, fun h => by cases h⟩

theorem runsCut_over : Rows.runsCutRow.holds Try.pinned (OpenSpec.ofChange Rows.runsCutSpec) :=
  OpenClaim.holds_of_wide 5 Try.f5 rfl rfl rfl rfl rfl rfl rfl ⟨rfl, rfl, rfl, rfl, rfl⟩ rfl rfl rfl rfl rfl (by kernel_rfl) Try.func5 (by kernel_rfl)
    (of_decide_eq_true (by kernel_rfl)) (by unfold Func.isWrapper; first | (rw [if_pos (by decide +kernel)]; kernel_rfl) | (rw [if_neg (by decide +kernel)]; exact ⟨rfl, rfl⟩))
    (fun os started H enc _ => runsCut_lifted os started H enc)

theorem runsCut_holds : Rows.RunsCutSaid := runsCut_over
#print axioms runsCut_holds
end Go.Proofs.Ytklbfeemnekclaa
