/- What is proved here: the law GridSizes, called with any numbers, returns true and leaves alone whatever memory was there; for every input the law GridSizes answers true (a grid made greater and as it was again is as it was); no condition. -/
import Derived.Test.YtejemcpkmfhenaaM9
import Derived.Deep.CutRange
import Derived.Deep.RegionHeld3
import Derived.Deep.RegionLaw
import Derived.Test.YtejemcpkmfhenaaRows
import Derived.WalkKit
import Derived.ProofKit
import Derived.OpenShut
import Derived.ShutString
import Derived.ChangeOld
import Derived.Below
namespace Go.Proofs.Ytejemcpkmfhenaa
open Go.RowKit
set_option linter.unusedVariables false
set_option linter.unusedSimpArgs false

/-- A contract in a world behind W. -/
theorem sizeBehind {W : World} {v : Value} {l : List Cl} (h : CS W W.heap.size v l) (hl : l.length ≤ 1048576) (rows cols rows2 cols2 : Int) (w : World) (hb : Below W.heap.size W w) :
    Calls Try.prog 22 #[v, .int .i64 rows, .int .i64 cols, .int .i64 rows2, .int .i64 cols2] w (CsPost (sizeL l rows cols rows2 cols2) w) :=
  gsize_any v l rows cols rows2 cols2 w ((h.below hb).more hb.size) hl
theorem sameBehind {W : World} {va vb : Value} {l : List Cl} (ha : CS W W.heap.size va l) (hb : CS W W.heap.size vb l) (hl : l.length ≤ 1048576) (w : World) (h : Below W.heap.size W w) :
    Calls Try.prog 9 #[va, vb] w fun e w' => e = .returned (.bool true) ∧ Below W.heap.size W w' := by
  refine (sameC_eq va vb l w ((ha.below h).more h.size) ((hb.below h).more h.size) (by omega)).mono ?_
  rintro e w' ⟨he, hb2⟩
  exact ⟨he, h.trans (hb2.mono h.size)⟩
set_option maxHeartbeats 4000000 in
set_option maxRecDepth 100000 in
theorem gridSizes_walk (a0 : Option Addr) (len0 cap0 : Nat) (z0 : List UInt8) (a1 a2 a3 : Int) (w : World) (w0 : BS w w.heap.size (.slice a0 len0 cap0) z0) (w1 : (Lit.int .u8 a1).wf = true) (w2 : (Lit.int .u8 a2).wf = true) (w3 : (Lit.int .u8 a3).wf = true) :
    Calls Try.prog 6 #[.slice a0 len0 cap0, .int .u8 a1, .int .u8 a2, .int .u8 a3] w fun e w' => e = .returned (.bool true) ∧ Below w.heap.size w w' := by
  obtain ⟨_, _, hv0, -⟩ := w0.at_
  simp only [Value.slice.injEq] at hv0
  obtain ⟨-, rfl, -⟩ := hv0
  have W0 := Lib.hid w0
  have hb1 := bounds_u8 w1
  have hb2 := bounds_u8 w2
  have hb3 := bounds_u8 w3
  obtain ⟨k, rfl⟩ : ∃ k : Nat, a1 = (k : Int) := ⟨a1.toNat, by omega⟩
  obtain ⟨m, rfl⟩ : ∃ m : Nat, a2 = (m : Int) := ⟨a2.toNat, by omega⟩
  obtain ⟨n, rfl⟩ : ∃ n : Nat, a3 = (n : Int) := ⟨a3.toNat, by omega⟩
  have k1 : k < 256 := by omega
  have m1 : m < 256 := by omega
  have n1 : n < 256 := by omega
  clear w0 w1 w2 w3 hb1 hb2 hb3
  have hk := knownG_any w
  by_cases t0 : 30 < (z0.length : Int)
  · go_enter Try.func6, Try.ntmps6
    go_wp2_with (go_at_call 7; refine hk.mono ?_; rintro e wk ⟨rfl, hbk⟩)
    go_ret
    exact ⟨rfl, hbk⟩
  have t0' : decide (30 < (z0.length : Int)) = false := by simp; omega
  obtain ⟨q, hq⟩ : ∃ q : Nat, (k : Int) / 6 = (q : Int) := ⟨k / 6, by omega⟩
  have q1 : q < 256 := by omega
  go_enter Try.func6, Try.ntmps6
  go_wp2_with fail
  refine hk.mono ?_
  rintro e w1 ⟨rfl, hb1⟩
  have HB1 := Lib.hid hb1
  clear hk hb1
  go_wp2_with fail
  refine (seatScreenW_any k q k1 q1 _ z0 w1 ((W0.out.below HB1.out).more HB1.out.size) (by omega)).mono ?_
  rintro e w2 ⟨v2, s, r, c, rfl, hv2, ⟨hi, hw⟩, hr, hc, b2⟩
  obtain ⟨uc, ut, uo, up, ui, uu, rfl, hs2⟩ := hv2
  have HLS := Lib.hid (laidG b2 hs2 hi hw hr hc zG rfl)
  have k2 := heap_oneG w2 (.cells zG 32)
  rename_i K hK
  refine hK _ _ ?_
  clear hK
  iterate 1 (refine wpList_plain rfl fun K hK => ?_; go_simp; refine hK _ _ ?_; clear hK K)
  refine wpl_storeS rfl (.tmp 9) (.tmp 23) rfl rfl rfl k2 rfl rfl hs2.one ?_
  clear k2 hs2 b2 hi hw hr hc hq t0'
  generalize World.setRow _ _ _ = W at HLS ⊢
  generalize vS s uc ut uo up ui uu = vs at *
  generalize s.cells = l at *
  generalize hsb : w2.heap.size = sb at *
  clear hsb
  go_simp
  obtain ⟨l1, l2⟩ := HLS.out.len
  have hr6 := HLS.out.r6
  have hc9 := HLS.out.c9
  have hr1 := HLS.out.g.r1
  have hc1 := HLS.out.g.c1
  obtain ⟨A, hA⟩ : ∃ A : Nat, (m : Int) % 5 = (A : Int) := ⟨m % 5, by omega⟩
  obtain ⟨C, hC⟩ : ∃ C : Nat, (n : Int) % 5 = (C : Int) := ⟨n % 5, by omega⟩
  have hA5 : A < 5 := by omega
  have hC5 : C < 5 := by omega
  have hAt : (m : Int).tmod 5 = (A : Int) := by rw [Int.tmod_eq_emod_of_nonneg (by omega)]; exact hA
  have hCt : (n : Int).tmod 5 = (C : Int) := by rw [Int.tmod_eq_emod_of_nonneg (by omega)]; exact hC
  obtain ⟨R2, hR2⟩ : ∃ R2 : Nat, (r : Int) + (A : Int) = (R2 : Int) := ⟨r + A, by omega⟩
  obtain ⟨C2, hC2⟩ : ∃ C2 : Nat, (c : Int) + (C : Int) = (C2 : Int) := ⟨c + C, by omega⟩
  have hiA : IntKind.i64.wrap (A : Int) = (A : Int) := by rw [IntKind.wrap_i64]; omega
  have hiC : IntKind.i64.wrap (C : Int) = (C : Int) := by rw [IntKind.wrap_i64]; omega
  obtain ⟨c0, c1, c2⟩ := HLS.out.cell
  go_wp2
  go_quiet (fail)
  have HQ := Lib.hid (HLS.out.below (below_drewW (Below.refl _ _) nq))
  generalize World.drewN W nq = W6 at HQ ⊢
  clear c0 c1 c2 hA hC hAt hCt hiA hiC
  have r2a : r ≤ R2 := by omega
  have c2a : c ≤ C2 := by omega
  have r2b : R2 ≤ 1000 := by omega
  have c2b : C2 ≤ 1000 := by omega
  have hpr : R2 * C2 ≤ 10 * 13 := Nat.mul_le_mul (by omega) (by omega)
  have hback := sizeL_back HLS.out.g HLS.out.whole r2a c2a r2b c2b
  have hlen := sizeL_len (r2 := R2) (c2 := C2) HLS.out.g (by omega) r2b (by omega) c2b
  have hsame := sizeL_same HLS.out.g HLS.out.whole
  have HSAME := Lib.hid hsame
  have hz1 := gsize_any _ l (r : Int) (c : Int) (R2 : Int) (C2 : Int) W6 HQ.out.cs (by omega)
  generalize sizeL l (r : Int) (c : Int) (R2 : Int) (C2 : Int) = G at *
  have HBACK := Lib.hid hback
  have hprod : (R2 : Int) * (C2 : Int) = (G.length : Int) := by rw [hlen, Int.natCast_mul]
  have hG : G.length ≤ 1048576 := by omega
  clear hback hsame hlen hR2 hC2 hpr
  obtain ⟨d0, d1, d2⟩ := HQ.out.cell
  go_wp2_with fail
  refine hz1.mono ?_
  rintro e w7 ⟨v7, rfl, h7, b7⟩
  have HL7 := Lib.hid (HQ.out.below b7)
  have H7 := Lib.hid h7
  obtain ⟨A7, c7, rfl, g7, g8⟩ := h7.form
  clear hz1 d0 d1 d2 h7 b7
  obtain ⟨d0, d1, d2⟩ := HL7.out.cell
  have hz2 := gsize_any _ G (R2 : Int) (C2 : Int) (r : Int) (c : Int) w7 H7.out (by omega)
  rw [HBACK.out] at hz2
  go_wp2_with fail
  refine hz2.mono ?_
  rintro e w8 ⟨v8, rfl, h8, b8⟩
  have HL8 := Lib.hid (HL7.out.below b8)
  have H8 := Lib.hid h8
  obtain ⟨A8, c8, rfl, g9, g10⟩ := h8.form
  clear hz2 d0 d1 d2 h8 b8
  obtain ⟨d0, d1, d2⟩ := HL8.out.cell
  have hpw : IntKind.i64.wrap ((R2 : Int) * (C2 : Int)) = (G.length : Int) := by rw [hprod, IntKind.wrap_i64]; omega
  have hpg : IntKind.i64.wrap (G.length : Int) = (G.length : Int) := by rw [IntKind.wrap_i64]; omega
  have hpe : ((G.length : Int) == (G.length : Int)) = true := beq_iff_eq.2 rfl
  have HLD := Lib.hid (HL8.out.below (Below.refl w8.heap.size w8).drew)
  have HD := Lib.hid (show CS w8.drew w8.drew.heap.size (.slice A8 l.length c8) l from H8.out)
  have hS1 : ∀ w', Below w8.drew.heap.size w8.drew w' → Calls Try.prog 9 #[.slice A8 l.length c8, uc] w' (fun e w'' => e = .returned (.bool true) ∧ Below w8.drew.heap.size w8.drew w'') := fun w' hb => sameBehind HD.out HLD.out.cs (by omega) w' hb
  have hS2 : ∀ w', Below w8.drew.heap.size w8.drew w' → Calls Try.prog 22 #[uc, .int .i64 (r : Int), .int .i64 (c : Int), .int .i64 (r : Int), .int .i64 (c : Int)] w' (fun e w'' => ∃ v, e = .returned v ∧ CS w'' w''.heap.size v l ∧ Below w8.drew.heap.size w8.drew w'') := by
    intro w' hb
    have h := sizeBehind HLD.out.cs (by omega) (r : Int) (c : Int) (r : Int) (c : Int) w' hb
    rw [HSAME.out] at h
    refine h.mono ?_
    rintro e w'' ⟨v, he, hv, hb2⟩
    exact ⟨v, he, hv, hb.trans (hb2.mono hb.size)⟩
  have HS1 := Lib.hid hS1
  have HS2 := Lib.hid hS2
  have hS : ∀ x : World, Below w8.drew.heap.size w8.drew x → x.cell? ⟨sb, 0, none⟩ = some (Value.int .i64 (r : Int)) ∧ x.cell? ⟨sb, 1, none⟩ = some (Value.int .i64 (c : Int)) ∧ x.cell? ⟨sb, 2, none⟩ = some uc := fun x hx => (HLD.out.below hx).cell
  have HS := Lib.hid hS
  have hb0 : Below w8.drew.heap.size w8.drew w8.drew := Below.refl _ _
  clear hS1 hS2 hS d0 d1 d2
  go_wp2
  go_region_held3 (fun x : World => x.cell? ⟨sb, 0, none⟩ = some (Value.int .i64 (r : Int)) ∧ x.cell? ⟨sb, 1, none⟩ = some (Value.int .i64 (c : Int)) ∧ x.cell? ⟨sb, 2, none⟩ = some uc) (exact HS.out _ (by assumption))
    (first
      | (go_at_call 22; (with_reducible refine (HS2.out _ (by assumption)).mono ?_); rintro e wb ⟨vb, rfl, hvb, bb⟩; have HVB := Lib.hid hvb; clear hvb)
      | (go_at_call 9; (with_reducible refine (HS1.out _ (by assumption)).mono ?_); rintro e wa ⟨rfl, ba⟩)
      | (go_at_call 9; (with_reducible refine (sameBehind HVB.out ((HLD.out.below bb).cs) (by omega) _ (Below.refl _ _)).mono ?_); rintro e wc ⟨rfl, bc0⟩; have bc := bb.trans (bc0.mono bb.size); clear bc0))
  have hbw : Below w.heap.size w w8.drew := HB1.out.trans (HLD.out.bel.mono HB1.out.size)
  go_wp2
  go_ret
  exact ⟨rfl, hbw.trans (bc.mono hbw.size)⟩
end Go.Proofs.Ytejemcpkmfhenaa

namespace Go.Proofs.Ytejemcpkmfhenaa
open Go.ChangeShapes Go.WideShapes Go.ChangeAt Go.RowKit
open Go.ChangeMaps (open_string shut_string)
set_option linter.unusedVariables false

theorem gridSizes_own : ownKnob Try.prog.godebug = none := by kernel_rfl
theorem gridSizes_laidOut : laidOutB Try.prog = true := by kernel_rfl

set_option maxRecDepth 100000 in
theorem gridSizes_lifted (os : Os) (started : os.Started) (H : Type) (enc : TypeId × Value → H) :
    ReturnsInHanded {} Try.checked os 6 .any (Rows.gridSizesSpec.pre6 enc Try.prog Try.f6 Rows.gridSizesRow.domain false) (Rows.gridSizesSpec.post enc Try.prog Try.f6 false true false false) := by
  refine returnsInHanded_of_change (C := Try.checked) gridSizes_own started (by kernel_rfl) Try.func6
    (ChangeSpec.witness6 (enc := enc) (C := Try.checked) false ⟨#[], #[.slice none 0 0, .int .u8 0, .int .u8 0, .int .u8 0], []⟩ 8 (by kernel_rfl) (by kernel_rfl) (by kernel_rfl) (by kernel_rfl)) ?_
  intro W base args ds gs before hval0 hW hcnd _
  have hval : ∀ (j : Nat) t v, Try.f6.params[j]? = some t → args[j]? = some v → Value.okWide Try.prog W .any base t v := hval0
  have hW' := hW
  obtain ⟨p, q, hA0, hV, rfl, hfz, hnd⟩ := hW
  have hA : DataW.TrodAll enc Try.prog W 0 (fun _ => true) true Try.f6.params.toList args.toList ds p := hA0
  rw [Try.params6] at hA hval
  obtain ⟨v0, vs0, d0, ds0, p0, q0, hargs, rfl, rfl, h0, r0⟩ := trodAll_cons hA
  obtain ⟨v1, vs1, d1, ds1, p1, q1, rfl, rfl, rfl, h1, r1⟩ := trodAll_cons r0
  obtain ⟨v2, vs2, d2, ds2, p2, q2, rfl, rfl, rfl, h2, r2⟩ := trodAll_cons r1
  obtain ⟨v3, vs3, d3, ds3, p3, q3, rfl, rfl, rfl, h3, r3⟩ := trodAll_cons r2
  obtain ⟨rfl, rfl, rfl⟩ := trodAll_nil r3
  obtain rfl : args = #[v0, v1, v2, v3] := by cases args; simp_all
  obtain ⟨rfl, rfl⟩ := trodVars_none hV
  obtain ⟨a0, len0, cap0, rfl⟩ := okWide_slice Try.underlying23 (hval 0 23 v0 rfl rfl)
  have k0 := h0
  have lt0 : ∀ x ∈ p0, x.block < W.heap.size := by obtain ⟨m, hm⟩ := k0; exact DataW.trod_lt m _ _ _ hm
  obtain ⟨z0, w0⟩ : ∃ l, BS W W.heap.size (.slice a0 len0 cap0) l := by
    obtain ⟨fuel, hf⟩ := h0
    rcases open_ints Try.underlying23 Try.underlying5 (by kernel_rfl) hf with ⟨hcs, _⟩ | ⟨x, l, c, zs, hcs, _, hl, hm, hz, _, hcell, hwz⟩
    · simp [Value.cells] at hcs
      obtain ⟨rfl, rfl, rfl⟩ := hcs
      exact ⟨[], BS.nil _ _⟩
    · simp [Value.cells] at hcs
      obtain ⟨rfl, rfl, rfl⟩ := hcs
      exact bs_row hl hm (by simpa using hz) hcell hwz
  obtain ⟨a1, rfl, rfl, rfl, w1⟩ := open_int Try.underlying5 (hval 1 5 v1 rfl rfl) h1
  obtain ⟨a2, rfl, rfl, rfl, w2⟩ := open_int Try.underlying5 (hval 2 5 v2 rfl rfl) h2
  obtain ⟨a3, rfl, rfl, rfl, w3⟩ := open_int Try.underlying5 (hval 3 5 v3 rfl rfl) h3
  clear hA0 hval0
  refine (gridSizes_walk a0 len0 cap0 z0 a1 a2 a3 W w0 w1 w2 w3).mono fun e W' ⟨he, bel⟩ => ?_
  subst he
  exact ⟨_, rfl, _, _, _, [], _, [], hW', trodAll_mk1 (shut_bool Try.underlying4 _), (trodAll_cons_mk (Below.trod gridSizes_laidOut (by kernel_rfl) (of_decide_eq_true (by kernel_rfl)) k0 bel lt0) (trodAll_cons_mk (shut_int Try.underlying5 w1) (trodAll_cons_mk (shut_int Try.underlying5 w2) (trodAll_cons_mk (shut_int Try.underlying5 w3) trodAll_mk0)))), rfl, bel.frame _, fun h => by cases h⟩

theorem gridSizes_over : Rows.gridSizesRow.holds Try.pinned (OpenSpec.ofChange Rows.gridSizesSpec) :=
  OpenClaim.holds_of_wide 6 Try.f6 rfl rfl rfl rfl rfl rfl rfl ⟨rfl, rfl, rfl, rfl, rfl⟩ rfl rfl rfl rfl rfl (by kernel_rfl) Try.func6 (by kernel_rfl)
    (of_decide_eq_true (by kernel_rfl)) (by unfold Func.isWrapper; first | (rw [if_pos (by decide +kernel)]; kernel_rfl) | (rw [if_neg (by decide +kernel)]; exact ⟨rfl, rfl⟩))
    (fun os started H enc _ => gridSizes_lifted os started H enc)

theorem gridSizes_holds : Rows.GridSizesSaid := gridSizes_over
#print axioms gridSizes_holds
end Go.Proofs.Ytejemcpkmfhenaa
