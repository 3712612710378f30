/- What is proved here: the law GridHalves, called with any numbers, returns true and leaves alone whatever memory was there; for every input the law GridHalves answers true (no half of a rune is left alone, whatever is put in, taken out, erased); no condition. -/
import Derived.Test.YtejemcpkmfhenaaMGridSizes
import Derived.Deep.CutRange
import Derived.Deep.RegionHeld3
import Derived.Deep.RegionLaw
import Derived.Test.YtejemcpkmfhenaaRows
import Derived.WalkKit
import Derived.ProofKit
import Derived.OpenShut
import Derived.ShutString
import Derived.ChangeOld
import Derived.Below
namespace Go.Proofs.Ytejemcpkmfhenaa
open Go.RowKit
set_option linter.unusedVariables false
set_option linter.unusedSimpArgs false

theorem insertL_mend {l : List Cl} {r c : Nat} (hg : GOk l.length r c) (y x : Nat) (n : Int) (hy : y < r) (hx : x ≤ c) : mendL (insertL l c y x n) c y = insertL l c y x n := by
  unfold insertL
  rw [if_pos (gPlace_mk hg (by omega) (by omega) (by omega) (by omega)), mendL_mend]
theorem deleteL_mend {l : List Cl} {r c : Nat} (hg : GOk l.length r c) (y x : Nat) (n : Int) (hy : y < r) (hx : x ≤ c) : mendL (deleteL l c y x n) c y = deleteL l c y x n := by
  unfold deleteL
  rw [if_pos (gPlace_mk hg (by omega) (by omega) (by omega) (by omega)), mendL_mend]
theorem eraseL_mend {l : List Cl} {r c : Nat} (hg : GOk l.length r c) (y : Nat) (a b : Int) (hy : y < r) : mendL (eraseL l c y a b) c y = eraseL l c y a b := by
  unfold eraseL
  rw [if_pos (gPlace_mk hg (by omega) (by omega) (by omega) (by omega)), mendL_mend]
/-- A slice that reads as a list which Mend of row Y leaves as it is. -/
def HalfAt (D : World) (len c Y : Nat) (w : World) (e : Ending) (w' : World) : Prop := ∃ A k G, e = .returned (.slice A len k) ∧ CS w' w'.heap.size (.slice A len k) G ∧ mendL G (c : Int) (Y : Int) = G ∧ Below D.heap.size D w' ∧ Below w.heap.size w w'
theorem halfAt {D : World} {len c Y : Nat} {G : List Cl} {w w' : World} {e : Ending} (hb : Below D.heap.size D w) (hl : G.length = len) (hm : mendL G (c : Int) (Y : Int) = G) (h : CsPost G w e w') : HalfAt D len c Y w e w' := by
  obtain ⟨v, he, hv, hb2⟩ := h
  obtain ⟨A, k, rfl, _, _⟩ := hv.form
  subst hl
  exact ⟨A, k, G, he, hv, hm, hb.trans (hb2.mono hb.size), hb2⟩
set_option maxHeartbeats 4000000 in
set_option maxRecDepth 100000 in
theorem gridHalves_walk (a0 : Option Addr) (len0 cap0 : Nat) (z0 : List UInt8) (a1 a2 a3 a4 : Int) (w : World) (w0 : BS w w.heap.size (.slice a0 len0 cap0) z0) (w1 : (Lit.int .u8 a1).wf = true) (w2 : (Lit.int .u8 a2).wf = true) (w3 : (Lit.int .u8 a3).wf = true) (w4 : (Lit.int .u8 a4).wf = true) :
    Calls Try.prog 5 #[.slice a0 len0 cap0, .int .u8 a1, .int .u8 a2, .int .u8 a3, .int .u8 a4] w fun e w' => e = .returned (.bool true) ∧ Below w.heap.size w w' := by
  obtain ⟨_, _, hv0, -⟩ := w0.at_
  simp only [Value.slice.injEq] at hv0
  obtain ⟨-, rfl, -⟩ := hv0
  have W0 := Lib.hid w0
  have hb1 := bounds_u8 w1
  have hb2 := bounds_u8 w2
  have hb3 := bounds_u8 w3
  have hb4 := bounds_u8 w4
  obtain ⟨k, rfl⟩ : ∃ k : Nat, a1 = (k : Int) := ⟨a1.toNat, by omega⟩
  obtain ⟨m, rfl⟩ : ∃ m : Nat, a2 = (m : Int) := ⟨a2.toNat, by omega⟩
  obtain ⟨n, rfl⟩ : ∃ n : Nat, a3 = (n : Int) := ⟨a3.toNat, by omega⟩
  obtain ⟨d, rfl⟩ : ∃ d : Nat, a4 = (d : Int) := ⟨a4.toNat, by omega⟩
  have k1 : k < 256 := by omega
  have m1 : m < 256 := by omega
  have n1 : n < 256 := by omega
  have d1 : d < 256 := by omega
  clear w0 w1 w2 w3 w4 hb1 hb2 hb3 hb4
  have hk := knownG_any w
  by_cases t0 : 30 < (z0.length : Int)
  · go_enter Try.func5, Try.ntmps5
    go_wp2_with (go_at_call 7; refine hk.mono ?_; rintro e wk ⟨rfl, hbk⟩)
    go_ret
    exact ⟨rfl, hbk⟩
  have t0' : decide (30 < (z0.length : Int)) = false := by simp; omega
  obtain ⟨q, hq⟩ : ∃ q : Nat, (k : Int) / 6 = (q : Int) := ⟨k / 6, by omega⟩
  have q1 : q < 256 := by omega
  go_enter Try.func5, Try.ntmps5
  go_wp2_with fail
  refine hk.mono ?_
  rintro e w1 ⟨rfl, hb1⟩
  have HB1 := Lib.hid hb1
  clear hk hb1
  go_wp2_with fail
  refine (seatScreenW_any k q k1 q1 _ z0 w1 ((W0.out.below HB1.out).more HB1.out.size) (by omega)).mono ?_
  rintro e w2 ⟨v2, s, r, c, rfl, hv2, ⟨hi, hw⟩, hr, hc, b2⟩
  obtain ⟨uc, ut, uo, up, ui, uu, rfl, hs2⟩ := hv2
  have HLS := Lib.hid (laidG b2 hs2 hi hw hr hc zG rfl)
  have k2 := heap_oneG w2 (.cells zG 32)
  rename_i K hK
  refine hK _ _ ?_
  clear hK
  iterate 1 (refine wpList_plain rfl fun K hK => ?_; go_simp; refine hK _ _ ?_; clear hK K)
  refine wpl_storeS rfl (.tmp 11) (.tmp 26) rfl rfl rfl k2 rfl rfl hs2.one ?_
  clear k2 hs2 b2 hi hw hr hc hq t0'
  generalize World.setRow _ _ _ = W at HLS ⊢
  generalize vS s uc ut uo up ui uu = vs at *
  generalize s.cells = l at *
  generalize hsb : w2.heap.size = sb at *
  clear hsb
  go_simp
  obtain ⟨l1, l2⟩ := HLS.out.len
  have hr6 := HLS.out.r6
  have hc9 := HLS.out.c9
  have hr1 := HLS.out.g.r1
  have hc1 := HLS.out.g.c1
  obtain ⟨Y, hY⟩ : ∃ Y : Nat, (m : Int) % (r : Int) = (Y : Int) := ⟨m % r, by rw [Int.natCast_emod]⟩
  have hYr : Y < r := by
    have : (m : Int) % (r : Int) < (r : Int) := Int.emod_lt_of_pos _ (by omega)
    omega
  obtain ⟨C1, hC1⟩ : ∃ C1 : Nat, (c : Int) + 1 = (C1 : Int) := ⟨c + 1, by omega⟩
  obtain ⟨X, hX⟩ : ∃ X : Nat, (n : Int) % (C1 : Int) = (X : Int) := ⟨n % C1, by rw [Int.natCast_emod]⟩
  have hXc : X < C1 := by
    have : (n : Int) % (C1 : Int) < (C1 : Int) := Int.emod_lt_of_pos _ (by omega)
    omega
  have hXc2 : X ≤ c := by omega
  obtain ⟨M, hM⟩ : ∃ M : Nat, (d : Int) % 6 = (M : Int) := ⟨d % 6, by omega⟩
  have hM6 : M < 6 := by omega
  have hMt : (d : Int).tmod 6 = (M : Int) := by rw [Int.tmod_eq_emod_of_nonneg (by omega)]; exact hM
  have hYt : (m : Int).tmod (r : Int) = (Y : Int) := by rw [Int.tmod_eq_emod_of_nonneg (by omega)]; exact hY
  have hXt : (n : Int).tmod (C1 : Int) = (X : Int) := by rw [Int.tmod_eq_emod_of_nonneg (by omega)]; exact hX
  have hr0 : ¬ (r : Int) = 0 := by omega
  have hC0 : ¬ (C1 : Int) = 0 := by omega
  have hr0b : ((r : Int) == 0) = false := beq_eq_false_iff_ne.2 hr0
  have hC0b : ((C1 : Int) == 0) = false := beq_eq_false_iff_ne.2 hC0
  have i1 : IntKind.i64.wrap (m : Int) = (m : Int) := by rw [IntKind.wrap_i64]; omega
  have i2 : IntKind.i64.wrap (n : Int) = (n : Int) := by rw [IntKind.wrap_i64]; omega
  have i3 : IntKind.i64.wrap (M : Int) = (M : Int) := by rw [IntKind.wrap_i64]; omega
  have i4 : IntKind.i64.wrap (Y : Int) = (Y : Int) := by rw [IntKind.wrap_i64]; omega
  have i5 : IntKind.i64.wrap (X : Int) = (X : Int) := by rw [IntKind.wrap_i64]; omega
  obtain ⟨c0, c1, c2⟩ := HLS.out.cell
  go_wp2
  go_quiet (fail)
  have HQ := Lib.hid (HLS.out.below (below_drewW (Below.refl _ _) nq))
  generalize World.drewN W nq = W6 at HQ ⊢
  obtain ⟨E, hE⟩ : ∃ E : Nat, (X : Int) + (M : Int) = (E : Int) := ⟨X + M, by omega⟩
  have hEw : IntKind.i64.wrap (E : Int) = (E : Int) := by rw [IntKind.wrap_i64]; omega
  clear c0 c1 c2 hY hC1 hX hM hMt hYt hXt hr0 hC0 hr0b hC0b i1 i2 i3 i4 i5
  have HLD := Lib.hid (HQ.out.below (Below.refl W6.heap.size W6).drew)
  have h1 : ∀ w', Below W6.drew.heap.size W6.drew w' → Calls Try.prog 14 #[uc, .int .i64 (c : Int), .int .i64 (Y : Int), .int .i64 (X : Int), .int .i64 (M : Int)] w' (HalfAt W6.drew l.length c Y w') := fun w' hb => (ginsert_any uc l c Y X M w' ((HLD.out.cs.below hb).more hb.size) (by omega)).mono (fun {_ _} h => halfAt hb (insertL_len _ _ _ _ _) (insertL_mend HLD.out.g Y X M hYr hXc2) h)
  have h2 : ∀ w', Below W6.drew.heap.size W6.drew w' → Calls Try.prog 16 #[uc, .int .i64 (c : Int), .int .i64 (Y : Int), .int .i64 (X : Int), .int .i64 (M : Int)] w' (HalfAt W6.drew l.length c Y w') := fun w' hb => (gdelete_any uc l c Y X M w' ((HLD.out.cs.below hb).more hb.size) (by omega)).mono (fun {_ _} h => halfAt hb (deleteL_len _ _ _ _ _) (deleteL_mend HLD.out.g Y X M hYr hXc2) h)
  have h3 : ∀ w', Below W6.drew.heap.size W6.drew w' → Calls Try.prog 18 #[uc, .int .i64 (c : Int), .int .i64 (Y : Int), .int .i64 (X : Int), .int .i64 (E : Int)] w' (HalfAt W6.drew l.length c Y w') := fun w' hb => (gerase_any uc l c Y X E w' ((HLD.out.cs.below hb).more hb.size) (by omega)).mono (fun {_ _} h => halfAt hb (eraseL_len _ _ _ _ _) (eraseL_mend HLD.out.g Y X E hYr) h)
  have H1 := Lib.hid h1
  have H2 := Lib.hid h2
  have H3 := Lib.hid h3
  have hS : ∀ x : World, Below W6.drew.heap.size W6.drew x → x.cell? ⟨sb, 0, none⟩ = some (Value.int .i64 (r : Int)) ∧ x.cell? ⟨sb, 1, none⟩ = some (Value.int .i64 (c : Int)) ∧ x.cell? ⟨sb, 2, none⟩ = some uc := fun x hx => (HLD.out.below hx).cell
  have HS := Lib.hid hS
  have hb0 : Below W6.drew.heap.size W6.drew W6.drew := Below.refl _ _
  clear h1 h2 h3 hS
  go_wp2
  go_region_held3 (fun x : World => x.cell? ⟨sb, 0, none⟩ = some (Value.int .i64 (r : Int)) ∧ x.cell? ⟨sb, 1, none⟩ = some (Value.int .i64 (c : Int)) ∧ x.cell? ⟨sb, 2, none⟩ = some uc) (exact HS.out _ (by first | assumption | exact Below.alloc (by assumption) (Below.size (by assumption)) _))
    (first
      | (go_at_call 14; (with_reducible refine (H1.out _ (by assumption)).mono ?_); rintro e wa ⟨Aa, ka, Ga, rfl, ha, ma, ba, ba'⟩)
      | (go_at_call 16; (with_reducible refine (H2.out _ (by assumption)).mono ?_); rintro e wb ⟨Ab, kb, Gb, rfl, hb, mb, bb, bb'⟩)
      | (go_at_call 18; (with_reducible refine (H3.out _ (by assumption)).mono ?_); rintro e wc ⟨Ac, kc, Gc, rfl, hc, mc, bc, bc'⟩))
  have hbw : Below w.heap.size w W6.drew := HB1.out.trans (HLD.out.bel.mono HB1.out.size)
  have ha2 := (((ha.below bb').more bb'.size).below bc').more bc'.size
  have hb2 := (hb.below bc').more bc'.size
  have HC := HLD.out.below bc
  have hbc : Below w.heap.size w wc := hbw.trans (bc.mono hbw.size)
  have hal : Below wc.heap.size wc (wc.alloc (.cells #[.slice Aa l.length ka, .slice Ab l.length kb, .slice Ac l.length kc] 22)) := (Below.refl _ _).alloc (Nat.le_refl _) _
  have HA7 := Lib.hid ((ha2.below hal).more hal.size)
  have HB7 := Lib.hid ((hb2.below hal).more hal.size)
  have HC7 := Lib.hid ((hc.below hal).more hal.size)
  have HL7 := Lib.hid (HC.below hal)
  have HW7 := Lib.hid (hbc.trans (hal.mono hbc.size))
  have K7 := Lib.hid (heap_oneG wc (.cells #[.slice Aa l.length ka, .slice Ab l.length kb, .slice Ac l.length kc] 22))
  have hg7 : wc.heap.size < (wc.alloc (.cells #[.slice Aa l.length ka, .slice Ab l.length kb, .slice Ac l.length kc] 22)).heap.size := by simp
  generalize wc.alloc _ = W7 at HA7 HB7 HC7 HL7 HW7 K7 hg7 ⊢
  clear hal hbc HC ha2 hb2 ha hb hc ba bb bc ba' bb' bc' hbw
  generalize wc.heap.size = g7 at *
  have MA := Lib.hid ma
  have MB := Lib.hid mb
  have MC := Lib.hid mc
  clear ma mb mc hE hEw
  go_wp2
  go_loopw [69] (fun i wr => ∃ j : Nat, j ≤ 3 ∧ i = .int .i64 (j : Int) ∧ Below W7.heap.size W7 wr) (fun i _ => 3 - (intOf i).toNat)
  case atStart => exact ⟨0, by omega, rfl, Below.refl _ _⟩
  case round =>
    generalize wr = wx at *
    obtain ⟨j, hj, rfl, hbel⟩ := hrel
    by_cases hlt : j < 3
    · have hji : (j : Int) < 3 := by omega
      have hex : ∃ A k G, wx.cell? ⟨g7, j, none⟩ = some (.slice A l.length k) ∧ CS wx wx.heap.size (.slice A l.length k) G ∧ mendL G (c : Int) (Y : Int) = G := by
        have hk : ∀ v, W7.cell? ⟨g7, j, none⟩ = some v → wx.cell? ⟨g7, j, none⟩ = some v := fun v h => (hbel.cell (p := ⟨g7, j, none⟩) hg7).trans h
        rcases (by omega : j = 0 ∨ j = 1 ∨ j = 2) with rfl | rfl | rfl
        · exact ⟨_, _, _, hk _ (cellG K7.out 0 rfl), (HA7.out.below hbel).more hbel.size, MA.out⟩
        · exact ⟨_, _, _, hk _ (cellG K7.out 1 rfl), (HB7.out.below hbel).more hbel.size, MB.out⟩
        · exact ⟨_, _, _, hk _ (cellG K7.out 2 rfl), (HC7.out.below hbel).more hbel.size, MC.out⟩
      obtain ⟨Ax, kx, G, hcx, hG, hMd⟩ := hex
      have HLX := Lib.hid (HL7.out.below hbel)
      obtain ⟨c0, c1, c2⟩ := HLX.out.cell
      obtain ⟨Al, kl, hul, _, _⟩ := HLX.out.cs.form
      subst hul
      have hGl : G.length ≤ 1048576 := by have := hG; obtain ⟨A', k', e', _⟩ := this.form; simp only [Value.slice.injEq] at e'; omega
      have hm := gmend_any _ G (c : Int) (Y : Int) wx hG hGl
      rw [hMd] at hm
      have HG := Lib.hid hG
      have HBEL := Lib.hid hbel
      clear hG hMd hbel
      go_wp2_with (first
        | (go_at_call 20; refine hm.mono ?_; rintro e wy ⟨vy, rfl, hy, by1⟩; have HY := Lib.hid hy; have HGY := Lib.hid ((HG.out.below by1).more by1.size); have BY := Lib.hid (HBEL.out.trans (by1.mono HBEL.out.size)); clear hy by1)
        | (go_at_call 9; refine (sameC_eq _ _ G _ HY.out HGY.out (by omega)).mono ?_; rintro e wz ⟨rfl, bz⟩; have BZ := Lib.hid (BY.out.trans (bz.mono BY.out.size))))
      go_roundw
      case rel => exact ⟨j + 1, hlt, by go_num, BZ.out⟩
      case measure => simp [intOf]; omega
    · obtain rfl : j = 3 := by omega
      go_wp2
      go_ret
      exact ⟨rfl, HW7.out.trans (hbel.mono HW7.out.size)⟩
end Go.Proofs.Ytejemcpkmfhenaa

namespace Go.Proofs.Ytejemcpkmfhenaa
open Go.ChangeShapes Go.WideShapes Go.ChangeAt Go.RowKit
open Go.ChangeMaps (open_string shut_string)
set_option linter.unusedVariables false

theorem gridHalves_own : ownKnob Try.prog.godebug = none := by kernel_rfl
theorem gridHalves_laidOut : laidOutB Try.prog = true := by kernel_rfl

set_option maxRecDepth 100000 in
theorem gridHalves_lifted (os : Os) (started : os.Started) (H : Type) (enc : TypeId × Value → H) :
    ReturnsInHanded {} Try.checked os 5 .any (Rows.gridHalvesSpec.pre6 enc Try.prog Try.f5 Rows.gridHalvesRow.domain false) (Rows.gridHalvesSpec.post enc Try.prog Try.f5 false true false false) := by
  refine returnsInHanded_of_change (C := Try.checked) gridHalves_own started (by kernel_rfl) Try.func5
    (ChangeSpec.witness6 (enc := enc) (C := Try.checked) false ⟨#[], #[.slice none 0 0, .int .u8 0, .int .u8 0, .int .u8 0, .int .u8 0], []⟩ 8 (by kernel_rfl) (by kernel_rfl) (by kernel_rfl) (by kernel_rfl)) ?_
  intro W base args ds gs before hval0 hW hcnd _
  have hval : ∀ (j : Nat) t v, Try.f5.params[j]? = some t → args[j]? = some v → Value.okWide Try.prog W .any base t v := hval0
  have hW' := hW
  obtain ⟨p, q, hA0, hV, rfl, hfz, hnd⟩ := hW
  have hA : DataW.TrodAll enc Try.prog W 0 (fun _ => true) true Try.f5.params.toList args.toList ds p := hA0
  rw [Try.params5] at hA hval
  obtain ⟨v0, vs0, d0, ds0, p0, q0, hargs, rfl, rfl, h0, r0⟩ := trodAll_cons hA
  obtain ⟨v1, vs1, d1, ds1, p1, q1, rfl, rfl, rfl, h1, r1⟩ := trodAll_cons r0
  obtain ⟨v2, vs2, d2, ds2, p2, q2, rfl, rfl, rfl, h2, r2⟩ := trodAll_cons r1
  obtain ⟨v3, vs3, d3, ds3, p3, q3, rfl, rfl, rfl, h3, r3⟩ := trodAll_cons r2
  obtain ⟨v4, vs4, d4, ds4, p4, q4, rfl, rfl, rfl, h4, r4⟩ := trodAll_cons r3
  obtain ⟨rfl, rfl, rfl⟩ := trodAll_nil r4
  obtain rfl : args = #[v0, v1, v2, v3, v4] := by cases args; simp_all
  obtain ⟨rfl, rfl⟩ := trodVars_none hV
  obtain ⟨a0, len0, cap0, rfl⟩ := okWide_slice Try.underlying23 (hval 0 23 v0 rfl rfl)
  have k0 := h0
  have lt0 : ∀ x ∈ p0, x.block < W.heap.size := by obtain ⟨m, hm⟩ := k0; exact DataW.trod_lt m _ _ _ hm
  obtain ⟨z0, w0⟩ : ∃ l, BS W W.heap.size (.slice a0 len0 cap0) l := by
    obtain ⟨fuel, hf⟩ := h0
    rcases open_ints Try.underlying23 Try.underlying5 (by kernel_rfl) hf with ⟨hcs, _⟩ | ⟨x, l, c, zs, hcs, _, hl, hm, hz, _, hcell, hwz⟩
    · simp [Value.cells] at hcs
      obtain ⟨rfl, rfl, rfl⟩ := hcs
      exact ⟨[], BS.nil _ _⟩
    · simp [Value.cells] at hcs
      obtain ⟨rfl, rfl, rfl⟩ := hcs
      exact bs_row hl hm (by simpa using hz) hcell hwz
  obtain ⟨a1, rfl, rfl, rfl, w1⟩ := open_int Try.underlying5 (hval 1 5 v1 rfl rfl) h1
  obtain ⟨a2, rfl, rfl, rfl, w2⟩ := open_int Try.underlying5 (hval 2 5 v2 rfl rfl) h2
  obtain ⟨a3, rfl, rfl, rfl, w3⟩ := open_int Try.underlying5 (hval 3 5 v3 rfl rfl) h3
  obtain ⟨a4, rfl, rfl, rfl, w4⟩ := open_int Try.underlying5 (hval 4 5 v4 rfl rfl) h4
  clear hA0 hval0
  refine (gridHalves_walk a0 len0 cap0 z0 a1 a2 a3 a4 W w0 w1 w2 w3 w4).mono fun e W' ⟨he, bel⟩ => ?_
  subst he
  exact ⟨_, rfl, _, _, _, [], _, [], hW', trodAll_mk1 (shut_bool Try.underlying4 _), (trodAll_cons_mk (Below.trod gridHalves_laidOut (by kernel_rfl) (of_decide_eq_true (by kernel_rfl)) k0 bel lt0) (trodAll_cons_mk (shut_int Try.underlying5 w1) (trodAll_cons_mk (shut_int Try.underlying5 w2) (trodAll_cons_mk (shut_int Try.underlying5 w3) (trodAll_cons_mk (shut_int Try.underlying5 w4) trodAll_mk0))))), rfl, bel.frame _, fun h => by cases h⟩

theorem gridHalves_over : Rows.gridHalvesRow.holds Try.pinned (OpenSpec.ofChange Rows.gridHalvesSpec) :=
  OpenClaim.holds_of_wide 5 Try.f5 rfl rfl rfl rfl rfl rfl rfl ⟨rfl, rfl, rfl, rfl, rfl⟩ rfl rfl rfl rfl rfl (by kernel_rfl) Try.func5 (by kernel_rfl)
    (of_decide_eq_true (by kernel_rfl)) (by unfold Func.isWrapper; first | (rw [if_pos (by decide +kernel)]; kernel_rfl) | (rw [if_neg (by decide +kernel)]; exact ⟨rfl, rfl⟩))
    (fun os started H enc _ => gridHalves_lifted os started H enc)

theorem gridHalves_holds : Rows.GridHalvesSaid := gridHalves_over
#print axioms gridHalves_holds
end Go.Proofs.Ytejemcpkmfhenaa
