/- What is proved here: the law RunsTell, called with any cells, bytes and numbers, returns true and leaves alone whatever memory was there; an argument that is a slice of cells reads as a list of cells whose values fit their types; the law RunsTell, called with any arguments, returns true and leaves alone whatever memory was there. -/
import Derived.Test.YtklbfeemnekclaaM22
import Derived.Laws.BitsLemmas
import Derived.Deep.RegionHeld3
import Derived.Deep.CutRange
import Derived.Deep.RegionLaw
import Derived.IntWalk
import Derived.Laws.BitsAllLaws
import Derived.Test.YtklbfeemnekclaaM3
import Derived.Deep.Slices
import Derived.Deep.Strs
import Derived.Test.YtklbfeemnekclaaRows
import Derived.WalkKit
import Derived.ProofKit
import Derived.OpenShut
import Derived.ShutString
import Derived.ChangeOld
import Derived.Below
namespace Go.Proofs.Ytklbfeemnekclaa
open Go.RowKit
set_option linter.unusedVariables false
set_option linter.unusedSimpArgs false

/-- A row of slices of bytes: each cell holds one that reads as some bytes, not too many, below block B. -/
def Itm (w : World) (B blk n most : Nat) : Prop := ∀ k, k < n → ∃ v l, w.cell? ⟨blk, k, none⟩ = some v ∧ BS w B v l ∧ l.length ≤ most
theorem Itm.below {w w' : World} {B B' blk n most : Nat} (h : Itm w B blk n most) (hb : Below B' w w') (hB : B ≤ B') (hk : blk < B') : Itm w' B blk n most := by
  intro k hk2
  obtain ⟨v, l, hc, hs, hl⟩ := h k hk2
  exact ⟨v, l, (hb.cell (p := ⟨blk, k, none⟩) hk).trans hc, hs.keep fun p hp => hb.cell (Nat.lt_of_lt_of_le hp hB), hl⟩
theorem Itm.four {w : World} {B most : Nat} {v0 v1 v2 v3 : Value} {l0 l1 l2 l3 : List UInt8} (t : TypeId) (hB : B ≤ w.heap.size) (h0 : BS w B v0 l0) (h1 : BS w B v1 l1) (h2 : BS w B v2 l2) (h3 : BS w B v3 l3)
    (m0 : l0.length ≤ most) (m1 : l1.length ≤ most) (m2 : l2.length ≤ most) (m3 : l3.length ≤ most) : Itm (w.alloc (.cells #[v0, v1, v2, v3] t)) B w.heap.size 4 most := by
  intro k hk
  match k, hk with
  | 0, _ => exact ⟨v0, l0, by simp, h0.alloc hB _, m0⟩
  | 1, _ => exact ⟨v1, l1, by simp, h1.alloc hB _, m1⟩
  | 2, _ => exact ⟨v2, l2, by simp, h2.alloc hB _, m2⟩
  | 3, _ => exact ⟨v3, l3, by simp, h3.alloc hB _, m3⟩
/-- A row of slices of cells. -/
def ItmC (w : World) (B blk n : Nat) : Prop := ∀ k, k < n → ∃ v l, w.cell? ⟨blk, k, none⟩ = some v ∧ CS w B v l ∧ l.length ≤ 54 ∧ ∀ x ∈ l, FitC x
theorem ItmC.below {w w' : World} {B B' blk n : Nat} (h : ItmC w B blk n) (hb : Below B' w w') (hB : B ≤ B') (hk : blk < B') : ItmC w' B blk n := by
  intro k hk2
  obtain ⟨v, l, hc, hs, hl⟩ := h k hk2
  exact ⟨v, l, (hb.cell (p := ⟨blk, k, none⟩) hk).trans hc, hs.keep fun p hp => hb.cell (Nat.lt_of_lt_of_le hp hB), hl⟩
theorem ItmC.two {w : World} {B : Nat} {v0 v1 : Value} {l0 l1 : List Cl} (t : TypeId) (hB : B ≤ w.heap.size) (h0 : CS w B v0 l0) (h1 : CS w B v1 l1) (m0 : l0.length ≤ 54) (m1 : l1.length ≤ 54) (f0 : ∀ x ∈ l0, FitC x) (f1 : ∀ x ∈ l1, FitC x) : ItmC (w.alloc (.cells #[v0, v1] t)) B w.heap.size 2 := by
  intro k hk
  match k, hk with
  | 0, _ => exact ⟨v0, l0, by simp, h0.alloc hB _, m0, f0⟩
  | 1, _ => exact ⟨v1, l1, by simp, h1.alloc hB _, m1, f1⟩
/-- A row of three numbers that has just been laid. -/
def Thr (w : World) (blk : Nat) : Prop := ∀ k, k < 3 → ∃ m : Int, w.cell? ⟨blk, k, none⟩ = some (.int .i64 m) ∧ -9223372036854775808 ≤ m ∧ m ≤ 2000
theorem Thr.below {w w' : World} {B' blk : Nat} (h : Thr w blk) (hb : Below B' w w') (hk : blk < B') : Thr w' blk := by
  intro k hk2
  obtain ⟨m, hc, h1, h2⟩ := h k hk2
  exact ⟨m, (hb.cell (p := ⟨blk, k, none⟩) hk).trans hc, h1, h2⟩
theorem Thr.laid {w : World} {x y z : Int} (t : TypeId) (hx : -9223372036854775808 ≤ x ∧ x ≤ 2000) (hy : -9223372036854775808 ≤ y ∧ y ≤ 2000) (hz : -9223372036854775808 ≤ z ∧ z ≤ 2000) : Thr (w.alloc (.cells #[.int .i64 x, .int .i64 y, .int .i64 z] t)) w.heap.size := by
  intro k hk
  match k, hk with
  | 0, _ => exact ⟨x, by simp, hx⟩
  | 1, _ => exact ⟨y, by simp, hy⟩
  | 2, _ => exact ⟨z, by simp, hz⟩
def CntRel (n : Nat) (wb : World) (i : Value) (wr : World) : Prop := ∃ k : Nat, k ≤ n ∧ i = .int .i64 (k : Int) ∧ Below wb.heap.size wb wr
theorem putCL_len (l : List Cl) : (putCL l).1.length ≤ 30 * l.length := by
  unfold putCL
  split
  · exact bytL_len l
  · simp
/-- Contracts in a world behind W. -/
theorem right_in {W w : World} (hb : Below W.heap.size W w) {c : Cl} (hc : FitC c) : Calls Try.prog 10 #[.agg #[.int .i32 c.r, .int .u16 (c.a : Int), .int .u8 (c.h : Int)]] w fun e w' => e = .returned (.bool (cellB c)) ∧ Below w.heap.size w w' ∧ Below W.heap.size W w' := by
  refine (right_any c hc w).mono ?_
  rintro e w' ⟨rfl, hb2⟩
  exact ⟨rfl, hb2, hb.trans (hb2.mono hb.size)⟩
theorem cellr_in {W w : World} (hb : Below W.heap.size W w) {c : Cl} (hc : FitC c) : Calls Try.prog 11 #[.agg #[.int .i32 c.r, .int .u16 (c.a : Int), .int .u8 (c.h : Int)]] w fun e w' => e = .returned (.bool (cellB c)) ∧ Below w.heap.size w w' ∧ Below W.heap.size W w' := by
  refine (cellr_any c hc.1 hc.2.1 hc.2.2.2 w).mono ?_
  rintro e w' ⟨rfl, hb2⟩
  exact ⟨rfl, hb2, hb.trans (hb2.mono hb.size)⟩

set_option maxHeartbeats 4000000 in
set_option maxRecDepth 100000 in
theorem runsTell_walk (a0 : Option Addr) (len0 cap0 : Nat) (z0 : List Cl) (a1 : Option Addr) (len1 cap1 : Nat) (z1 : List UInt8) (a2 : Option Addr) (len2 cap2 : Nat) (z2 : List UInt8) (a3 : Int) (a4 : Int) (w : World) (w0 : CS w w.heap.size (.slice a0 len0 cap0) z0) (f0 : ∀ x ∈ z0, FitC x) (w1 : BS w w.heap.size (.slice a1 len1 cap1) z1) (w2 : BS w w.heap.size (.slice a2 len2 cap2) z2) (w3 : (Lit.int .i64 a3).wf = true) (w4 : (Lit.int .u8 a4).wf = true) :
    Calls Try.prog 3 #[.slice a0 len0 cap0, .slice a1 len1 cap1, .slice a2 len2 cap2, .int .i64 a3, .int .u8 a4] w fun e w' => e = .returned (.bool true) ∧ Below w.heap.size w w' := by
  obtain ⟨_, _, hv0, -⟩ := w0.form
  obtain ⟨_, _, hv1, -⟩ := w1.at_
  obtain ⟨_, _, hv2, -⟩ := w2.at_
  simp only [Value.slice.injEq] at hv0 hv1 hv2
  obtain ⟨-, rfl, -⟩ := hv0
  obtain ⟨-, rfl, -⟩ := hv1
  obtain ⟨-, rfl, -⟩ := hv2
  have W0 := Lib.hid w0
  have W1 := Lib.hid w1
  have W2 := Lib.hid w2
  have F0 := Lib.hid f0
  obtain ⟨m0, m1⟩ := bounds_i64 w3
  obtain ⟨k0, k1⟩ := bounds_u8 w4
  clear w0 w1 w2 w3 w4 f0
  have hk := knownR_any w
  by_cases t0 : 40 < (z0.length : Int)
  · go_enter Try.func3, Try.ntmps3
    go_wp2_with (go_at_call 6; refine hk.mono ?_; rintro e wk ⟨rfl, hbk⟩)
    go_ret
    exact ⟨rfl, hbk⟩
  have t0' : decide (40 < (z0.length : Int)) = false := by simp; omega
  by_cases t1 : 30 < (z1.length : Int)
  · go_enter Try.func3, Try.ntmps3
    go_wp2_with (go_at_call 6; refine hk.mono ?_; rintro e wk ⟨rfl, hbk⟩)
    go_ret
    exact ⟨rfl, hbk⟩
  have t1' : decide (30 < (z1.length : Int)) = false := by simp; omega
  by_cases t2 : 60 < (z2.length : Int)
  · go_enter Try.func3, Try.ntmps3
    go_wp2_with (go_at_call 6; refine hk.mono ?_; rintro e wk ⟨rfl, hbk⟩)
    go_ret
    exact ⟨rfl, hbk⟩
  have t2' : decide (60 < (z2.length : Int)) = false := by simp; omega
  obtain ⟨k, rfl⟩ : ∃ k : Nat, a4 = (k : Int) := ⟨a4.toNat, by omega⟩
  obtain ⟨q, hq⟩ : ∃ q : Nat, (k : Int) / 6 = (q : Int) := ⟨k / 6, by omega⟩
  have q1 : q < 256 := by omega
  have kl : k < 256 := by omega
  go_enter Try.func3, Try.ntmps3
  go_wp2_with fail
  refine hk.mono ?_
  rintro e w1 ⟨rfl, hb1⟩
  have HB1 := Lib.hid hb1
  clear hk hb1
  go_wp2_with fail
  refine (seatScreen_any k q kl q1 _ z1 w1 ((W1.out.below HB1.out).more HB1.out.size) (by omega)).mono ?_
  rintro e w2 ⟨v2, s, r, c, rfl, hv2, hi, hr, hc, b2⟩
  obtain ⟨uc, ut, uo, up, ui, uu, rfl, hs2⟩ := hv2
  have HLS := Lib.hid (laidS b2 hs2 hi hr hc zS rfl)
  have k2 := heap_one w2 (.cells zS 31)
  rename_i K hK
  refine hK _ _ ?_
  clear hK
  iterate 1 (refine wpList_plain rfl fun K hK => ?_; go_simp; refine hK _ _ ?_; clear hK K)
  refine wpl_storeS rfl (.tmp 11) (.tmp 49) rfl rfl rfl k2 rfl rfl hs2.one ?_
  clear k2 hs2 b2 hi hr hc hq q1
  generalize World.setRow _ _ _ = W at HLS ⊢
  generalize vS s uc ut uo up ui uu = vs at *
  generalize s.cells = l at *
  generalize w2.heap.size = sb at *
  go_simp
  obtain ⟨A, cp, rfl, g1, g2⟩ := HLS.out.cs.form
  have hc0 := HLS.out.cell
  have c4 := HB1.out.trans (HLS.out.bel.mono HB1.out.size)
  have s4 := c4.size
  have l2 := HLS.out.most
  have hit := ItmC.two (w := W) 22 (Nat.le_refl _) ((W0.out.below c4).more s4) HLS.out.cs (by omega) l2 F0.out HLS.out.fit
  have c5 := c4.alloc s4 (.cells #[Value.slice a0 z0.length cap0, Value.slice A l.length cp] 22)
  have z5 : (W.alloc (.cells #[Value.slice a0 z0.length cap0, Value.slice A l.length cp] 22)).heap.size = W.heap.size + 1 := by simp
  have HIT := Lib.hid hit
  have HC5 := Lib.hid c5
  have HZ5 := Lib.hid z5
  clear hit c5 z5 c4 s4
  go_wp2
  generalize World.alloc W _ = w5 at HIT HC5 HZ5 ⊢
  have hz5 : W.heap.size < w5.heap.size := by have := HZ5.out; omega
  have s5 := HC5.out.size
  clear hc0
  generalize W.heap.size = blk at *
  go_loopw [55] (fun i wr => CntRel 2 w5 i wr) (fun i _ => 2 - (intOf i).toNat)
  case atStart => exact ⟨0, by omega, rfl, Below.refl _ _⟩
  case round =>
    obtain ⟨j, hj, rfl, hbr⟩ := hrel
    have cr := HC5.out.trans (hbr.mono s5)
    have sr := cr.size
    have hsr := hbr.size
    by_cases hlt : j < 2
    · have hlt' : (j : Int) < 2 := by omega
      obtain ⟨v, X, hcv, hv, mx, fx⟩ := HIT.out.below hbr (by have := HZ5.out; omega) hz5 j hlt
      obtain ⟨Ax, qx, rfl, gx1, gx2⟩ := hv.form
      have HX := Lib.hid (hv.more (B' := wr.heap.size) (by omega))
      have HFX := Lib.hid fx
      have HBR := Lib.hid hbr
      have HCR := Lib.hid cr
      have hpl := putCL_len X
      clear hv fx hbr cr
      have hp1 := putP_any _ X wr HX.out (by omega) HFX.out
      unfold PutCPost at hp1
      obtain ⟨⟨Q, E⟩, hQ⟩ : ∃ Z, putCL X = Z := ⟨_, rfl⟩
      rw [hQ] at hp1 hpl
      simp only at hp1 hpl
      go_wp2_with fail
      refine hp1.mono ?_
      rintro e wp ⟨up1, rfl, op1, bp1⟩
      have HXP := Lib.hid ((HX.out.below bp1).more bp1.size)
      have HU1 := Lib.hid op1.bs
      obtain ⟨Ap, qp, rfl, gp1, gp2, -⟩ := op1.bs.at_
      have HBP := Lib.hid bp1
      clear hp1 op1 bp1 hcv
      have hp2 := putCr_any _ X wp HXP.out (by omega) HFX.out
      unfold PutCPost at hp2
      rw [hQ] at hp2
      simp only at hp2
      clear hQ
      go_wp2_with fail
      refine hp2.mono ?_
      rintro e wy ⟨uq1, rfl, oq1, bq1⟩
      have bY := HBP.out.trans (bq1.mono HBP.out.size)
      have HXY := Lib.hid ((HX.out.below bY).more bY.size)
      have hs1 := run_str ((HU1.out.below bq1).more bq1.size)
      have hs2 := run_str oq1.bs
      have HY := Lib.hid oq1.bs
      obtain ⟨Ay, qy, rfl, gy1, gy2, -⟩ := oq1.bs.at_
      unfold maxLen at gy2
      have HBY := Lib.hid bY
      clear hp2 oq1 bq1 bY
      go_wp2
      clear hs1 hs2
      generalize wr = wo at *
      go_loopw [18] (fun i wr => CntRel X.length wy i wr) (fun i _ => X.length - (intOf i).toNat)
      case atStart => exact ⟨0, Nat.zero_le _, rfl, Below.refl _ _⟩
      case round =>
        obtain ⟨i, hi, rfl, hbi⟩ := hrel
        have hzi := hbi.size
        have hii : (i : Int) ≤ 54 := by omega
        by_cases hli : i < X.length
        · obtain ⟨x, hx⟩ : ∃ x, X[i]? = some x := ⟨_, List.getElem?_eq_getElem hli⟩
          have HFXX := Lib.hid (HFX.out x (List.mem_of_getElem? hx))
          obtain ⟨ad, hAd, -, -⟩ := HXY.out.get i x hx
          subst hAd
          have hS : ∀ y : World, Below wr.drew.heap.size wr.drew y → y.cell? (ad.add (i * 3)) = some (.int .i32 x.r) ∧ y.cell? ⟨(ad.add (i * 3)).block, (ad.add (i * 3)).off + 1, none⟩ = some (.int .u16 (x.a : Int)) ∧ y.cell? ⟨(ad.add (i * 3)).block, (ad.add (i * 3)).off + 2, none⟩ = some (.int .u8 (x.h : Int)) := fun y hy => by
            obtain ⟨ad4, hAd4, hadb4, y0, y1, y2⟩ := (HXY.out.below (hbi.drew.trans (hy.mono hzi))).get i x hx
            injection hAd4 with hAd4
            subst hAd4
            exact ⟨y0, y1, y2⟩
          have HS := Lib.hid hS
          have hb0 : Below wr.drew.heap.size wr.drew wr.drew := Below.refl _ _
          have HBI := Lib.hid hbi
          clear hS hx hbi
          go_wp2
          go_region_held3 (fun y : World => y.cell? (ad.add (i * 3)) = some (.int .i32 x.r) ∧ y.cell? ⟨(ad.add (i * 3)).block, (ad.add (i * 3)).off + 1, none⟩ = some (.int .u16 (x.a : Int)) ∧ y.cell? ⟨(ad.add (i * 3)).block, (ad.add (i * 3)).off + 2, none⟩ = some (.int .u8 (x.h : Int))) (exact HS.out _ (by assumption))
            (first
              | (go_at_call 10; (with_reducible refine (right_in (W := wr.drew) (by assumption) HFXX.out).mono ?_); rintro e wa ⟨rfl, ba, ba'⟩)
              | (go_at_call 11; (with_reducible refine (cellr_in (W := wr.drew) (by assumption) HFXX.out).mono ?_); rintro e wb ⟨rfl, bb, bb'⟩))
          have hbn : (cellB x != cellB x) = false := by simp
          generalize cellB x = cx at *
          go_wp2
          go_roundw
          case rel => exact ⟨i + 1, hli, by go_num, HBI.out.drew.trans (bb'.mono hzi)⟩
          case measure => simp [intOf]; omega
        · obtain rfl : i = X.length := by omega
          have HBI := Lib.hid hbi
          have hy2 := (HY.out.below hbi).more hzi
          clear hbi
          go_upto_if 100 with (at_builtin; refine wpl_app _ rfl (.const (.slice none 0 0)) (.tmp 96) rfl wr.heap.size _ (.slice none 0 0) _ [] Q rfl rfl (OB.nil _ _) hy2 (by simp; omega) (Nat.le_refl _) ?_; intro vz wz hoz hgz hbz _; clear hgz; rw [List.nil_append] at hoz; obtain ⟨Az, qz, rfl, gz1, gz2, -⟩ := hoz.bs.at_)
          unfold maxLen at gz2
          have hzz := hbz.size
          go_cut [55] from 55 to 174 (fun s55 wx => s55 = .int .i64 (j : Int) ∧ ∃ zl, OB wx wr.heap.size (.slice Az Q.length qz) zl ∧ zl.length = Q.length ∧ Below wr.heap.size wr wx)
          case first =>
            by_cases hQ0 : 0 < Q.length
            · obtain ⟨n1, hn1⟩ : ∃ n1 : Nat, (k : Int) % (Q.length : Int) = (n1 : Int) := ⟨((k : Int) % (Q.length : Int)).toNat, by have := Int.emod_nonneg (k : Int) (show (Q.length : Int) ≠ 0 by omega); omega⟩
              have hjl : n1 < Q.length := by have := Int.emod_lt_of_pos (k : Int) (show (0 : Int) < (Q.length : Int) by omega); omega
              obtain ⟨g, hfm⟩ : ∃ g, Az = some ⟨g, 0, none⟩ := by
                unfold OB at hoz
                rcases hoz.2 with ⟨hv, h0⟩ | ⟨g', cap', cur, hv, _⟩
                · omega
                · simp only [Value.slice.injEq] at hv
                  exact ⟨g', hv.1⟩
              subst hfm
              have hc := hoz.cellAt n1 hjl
              have hf := hoz.frozenAt n1
              have hgb := hoz.block.1
              obtain ⟨x, hx⟩ : ∃ x : UInt8, Q[n1] = x := ⟨_, rfl⟩
              rw [hx] at hc
              unfold vB at hc
              have hx8 := x.toNat_lt
              obtain ⟨r, hr, hr0, hr1⟩ : ∃ r : Int, bits .xor .u8 (x.toNat : Int) ((k : Int) / 8 + 1) = r ∧ 0 ≤ r ∧ r < 256 := by
                refine ⟨_, rfl, ?_⟩
                rw [u8_xor _ _ (by omega) (by omega) (by omega) (by omega)]
                have := Nat.xor_lt_two_pow (n := 8) (x := ((x.toNat : Int)).toNat) (y := ((k : Int) / 8 + 1).toNat) (by omega) (by omega)
                omega
              have hst := hoz.stored n1 (UInt8.ofNat r.toNat)
              rw [vB_of r hr0 hr1] at hst
              have HST := Lib.hid hst
              have HOZ := Lib.hid hoz
              clear hst hoz hx
              have hYz : ¬ ((Q.length : Int) = 0) := by omega
              have hYn : ¬ (Q.length = 0) := by omega
              go_wp2_with fail
              go_meet
              exact ⟨rfl, _, HST.out, by rw [List.length_set], hbz.setCell hgb _⟩
            · have hQ0' : decide (0 < Q.length) = false := decide_eq_false hQ0
              go_wp2_with fail
              go_meet
              exact ⟨rfl, Q, hoz, rfl, hbz⟩
          case rest =>
            obtain ⟨rfl, zl, hoz2, hzl, hbz2⟩ := hcut
            have bC := HBY.out.trans ((HBI.out.trans (hbz2.mono hzi)).mono HBY.out.size)
            have cC := HCR.out.trans (bC.mono sr)
            have sC := cC.size
            have hzw := hbz2.size
            have HXC := Lib.hid ((HX.out.below bC).more bC.size)
            have HYC := Lib.hid ((hy2.below hbz2).more hzw)
            have HDC := Lib.hid ((W2.out.below cC).more sC)
            have HZC := Lib.hid hoz2.bs
            obtain ⟨n2, hn2⟩ : ∃ n2 : Nat, (k : Int) % ((Q.length : Int) + 1) = (n2 : Int) := ⟨((k : Int) % ((Q.length : Int) + 1)).toNat, by have := Int.emod_nonneg (k : Int) (show (Q.length : Int) + 1 ≠ 0 by omega); omega⟩
            have hjl : n2 ≤ Q.length := by have := Int.emod_lt_of_pos (k : Int) (show (0 : Int) < (Q.length : Int) + 1 by omega); omega
            have HCC := Lib.hid (HYC.out.cutH n2 n2 hjl rfl)
            have hcl : (Q.take n2).length ≤ Q.length := by simp; omega
            have i3 : ¬ ((Q.length : Int) + 1 = 0) := by omega
            have i5 : (n2 : Int) ≤ (qy : Int) := by omega
            have hit := Itm.four (w := wc) (most := 2000) 23 (Nat.le_refl _) HDC.out HYC.out HZC.out HCC.out (by omega) (by omega) (by omega) (by omega)
            have HITB := Lib.hid hit
            have b9 := bC.alloc bC.size (.cells #[Value.slice a2 z2.length cap2, Value.slice Ay Q.length qy, Value.slice Az Q.length qz, Value.slice Ay n2 qy] 23)
            have HB9 := Lib.hid b9
            have HZ9 := Lib.hid (show (wc.alloc (.cells #[Value.slice a2 z2.length cap2, Value.slice Ay Q.length qy, Value.slice Az Q.length qz, Value.slice Ay n2 qy] 23)).heap.size = wc.heap.size + 1 by simp)
            clear hit b9 hoz hoz2 hbz hbz2 bC cC hzl hy2
            go_wp2
            generalize World.alloc wc _ = w9 at HITB HB9 HZ9 ⊢
            have hz9 : wc.heap.size < w9.heap.size := by have := HZ9.out; omega
            have hxl : (X.length : Int) ≤ 54 := by omega
            clear hn2
            generalize wc.heap.size = blk9 at *
            go_loopw [127] (fun i wr => CntRel 4 w9 i wr) (fun i _ => 4 - (intOf i).toNat)
            case atStart => exact ⟨0, by omega, rfl, Below.refl _ _⟩
            case round =>
              obtain ⟨k3, hk3, rfl, hbr3⟩ := hrel
              have hz3 := hbr3.size
              by_cases hlt3 : k3 < 4
              · obtain ⟨v3, l3, hc3, hv3, hl3⟩ := HITB.out.below hbr3 (by have := HZ9.out; omega) hz9 k3 hlt3
                have hlt3' : (k3 : Int) < 4 := by omega
                obtain ⟨A3, q3, rfl, _, _, -⟩ := hv3.at_
                have HV3 := Lib.hid (hv3.more (B' := wr.heap.size) (by omega))
                clear hv3
                obtain ⟨V, hV⟩ : ∃ V : Int, (if 2000 < a3 then (2000 : Int) else a3) = V := ⟨_, rfl⟩
                have hV1 : -9223372036854775808 ≤ V ∧ V ≤ 2000 := by split at hV <;> omega
                obtain ⟨hv0, hv1⟩ := hV1
                have d0 : 0 ≤ (k : Int) % 20 := by omega
                have d1 : (k : Int) % 20 < 20 := by omega
                have h33 := Thr.laid (w := wr) (x := V) (y := (X.length : Int)) (z := (k : Int) % 20) 3 ⟨hv0, hv1⟩ ⟨by omega, by omega⟩ ⟨by omega, by omega⟩
                have bT := (Below.refl wr.heap.size wr).alloc (Nat.le_refl _) (.cells #[Value.int .i64 V, Value.int .i64 (X.length : Int), Value.int .i64 ((k : Int) % 20)] 3)
                have zT : (wr.alloc (.cells #[Value.int .i64 V, Value.int .i64 (X.length : Int), Value.int .i64 ((k : Int) % 20)] 3)).heap.size = wr.heap.size + 1 := by simp
                have H33 := Lib.hid h33
                have HBT := Lib.hid bT
                have HZT := Lib.hid zT
                clear h33 bT zT
                go_wp2_with fail
                generalize World.alloc wr _ = wT at H33 HBT HZT ⊢
                have hzT : wr.heap.size < wT.heap.size := by have := HZT.out; omega
                have HB3T := Lib.hid (hbr3.trans (HBT.out.mono hz3))
                have sT := HB3T.out.size
                have HV3T := Lib.hid ((HV3.out.below HBT.out).more HBT.out.size)
                clear hbr3 hc3 HV3 hV d0 d1
                generalize wr.heap.size = blkT at *
                go_loopw [140] (fun i wr => CntRel 3 wT i wr) (fun i _ => 3 - (intOf i).toNat)
                case atStart => exact ⟨0, by omega, rfl, Below.refl _ _⟩
                case round =>
                  obtain ⟨k4, hk4, rfl, hbr4⟩ := hrel
                  have hz4 := hbr4.size
                  by_cases hlt4 : k4 < 3
                  · obtain ⟨m, hc4, m2, m3⟩ := H33.out.below hbr4 hzT k4 hlt4
                    have hlt4' : (k4 : Int) < 3 := by omega
                    have HV3r := Lib.hid ((HV3T.out.below hbr4).more hz4)
                    have HB4 := Lib.hid hbr4
                    clear hbr4
                    have hr1 := readP_any _ l3 m wr HV3r.out (by omega) m2 (by omega)
                    unfold ReadCPost at hr1
                    go_wp2_with fail
                    refine hr1.mono ?_
                    rintro e wE ⟨vE, rfl, hE, hbE⟩
                    have HV3E := Lib.hid ((HV3r.out.below hbE).more hbE.size)
                    have HE := Lib.hid hE.cs
                    have bE := HB4.out.trans (hbE.mono hz4)
                    have HBE := Lib.hid bE
                    clear hr1 hE hbE bE hc4
                    have hr2 := readCr_any _ l3 m wE HV3E.out (by omega) m2 (by omega)
                    unfold ReadCPost at hr2
                    go_wp2_with fail
                    refine hr2.mono ?_
                    rintro e wF ⟨vF, rfl, hF, hbF⟩
                    have HEF := Lib.hid ((HE.out.below hbF).more hbF.size)
                    have HFF := Lib.hid hF.cs
                    have hlF := readCL_len l3 m
                    have HBF := Lib.hid (HBE.out.trans (hbF.mono HBE.out.size))
                    clear hr2 hF hbF
                    generalize (readCL l3 m).1 = R1 at *
                    generalize (readCL l3 m).2.1 = R2 at *
                    generalize (readCL l3 m).2.2 = R3 at *
                    go_wp2_with fail
                    refine (sameC_eq _ _ R1 wF HEF.out HFF.out (by omega)).mono ?_
                    rintro e wG ⟨rfl, bG⟩
                    go_wp2
                    go_roundw
                    case rel => exact ⟨k4 + 1, by omega, by go_num, HBF.out.trans (bG.mono HBF.out.size)⟩
                    case measure => simp [intOf]; omega
                  · obtain rfl : k4 = 3 := by omega
                    go_wp2
                    go_roundw
                    case rel => exact ⟨k3 + 1, by omega, by go_num, HB3T.out.trans (hbr4.mono sT)⟩
                    case measure => simp [intOf]; omega
              · obtain rfl : k3 = 4 := by omega
                go_wp2
                go_roundw
                case rel => exact ⟨j + 1, by omega, by go_num, HBR.out.trans ((HB9.out.trans (hbr3.mono HB9.out.size)).mono hsr)⟩
                case measure => simp [intOf]; omega
    · obtain rfl : j = 2 := by omega
      go_wp2
      go_ret
      exact ⟨rfl, cr⟩
end Go.Proofs.Ytklbfeemnekclaa

namespace Go.Proofs.Ytklbfeemnekclaa
open Go.RowKit
set_option linter.unusedVariables false
set_option linter.unusedSimpArgs false

/-- A list out of what holds at each place. -/
theorem list_of {α : Type} {p : Nat → α → Prop} (n : Nat) (h : ∀ i, i < n → ∃ x, p i x) : ∃ l : List α, l.length = n ∧ ∀ i x, l[i]? = some x → p i x := by
  induction n with
  | zero => exact ⟨[], rfl, fun i x hx => by simp at hx⟩
  | succ n ih =>
    obtain ⟨l, hl, hp⟩ := ih fun i hi => h i (by omega)
    obtain ⟨y, hy⟩ := h n (by omega)
    refine ⟨l ++ [y], by simp [hl], fun i x hx => ?_⟩
    rcases Nat.lt_or_ge i l.length with hi | hi
    · rw [List.getElem?_append_left hi] at hx
      exact hp i x hx
    · rw [List.getElem?_append_right hi] at hx
      obtain ⟨h1, h2⟩ := List.getElem?_eq_some_iff.1 hx
      simp only [List.length_singleton] at h1
      have e : i = n := by omega
      subst e
      have : [y][i - l.length]? = some y := by rw [show i - l.length = 0 by omega]; rfl
      rw [this] at hx
      injection hx with hx
      rw [← hx]
      exact hy
section
variable {H : Type} {enc : TypeId × Value → H} {w : World} {base : Nat} {spare : Nat → Bool} {held : Bool}
theorem cell_open {n : Nat} {cs : List Value} {x : DataW H × List MemPlace} (h : DataW.trod enc Try.prog w base spare held n 41 cs = some x) : ∃ c : Cl, cs = vC c ∧ FitC c := by
  obtain ⟨y0, y1, y2, m, -, hl, h0, h1, h2⟩ := Go.Deep.trod_struct3 Try.underlying41 h
  have hc : Try.prog.cellsOf 41 = 3 := by kernel_rfl
  have c0 : Try.prog.cellsOf 21 = 1 := by kernel_rfl
  have c1 : Try.prog.cellsOf 25 = 1 := by kernel_rfl
  have c2 : Try.prog.cellsOf 5 = 1 := by kernel_rfl
  rw [hc] at hl
  simp only [c0, c1, c2] at h0 h1 h2
  obtain ⟨r, e0, -, f0⟩ := DataW.trod_int Try.underlying21 h0
  obtain ⟨a, e1, -, f1⟩ := DataW.trod_int Try.underlying25 h1
  obtain ⟨b, e2, -, f2⟩ := DataW.trod_int Try.underlying5 h2
  match cs, hl with
  | [v0, v1, v2], _ =>
    simp only [List.drop_zero, List.drop_succ_cons, List.take_succ_cons, List.take_zero, List.cons.injEq, and_true] at e0 e1 e2
    have g0 := bounds_i32 f0
    have g1 := bounds_u16 f1
    have g2 := bounds_u8 f2
    refine ⟨⟨r, a.toNat, b.toNat⟩, ?_, by show (-2147483648 : Int) ≤ r; omega, by show r ≤ 2147483647; omega, by show a.toNat < 65536; omega, by show b.toNat < 256; omega⟩
    unfold vC
    simp only [List.cons.injEq, and_true]
    rw [e0, e1, e2, show ((a.toNat : Nat) : Int) = a by omega, show ((b.toNat : Nat) : Int) = b by omega]
    exact ⟨rfl, rfl, rfl⟩
theorem cs_open {fuel : Nat} {a : Option Addr} {len cap : Nat} {x : DataW H × List MemPlace} (h : DataW.trod enc Try.prog w base spare held fuel 22 [.slice a len cap] = some x) : ∃ l, CS w w.heap.size (.slice a len cap) l ∧ ∀ c ∈ l, FitC c := by
  have hc : Try.prog.cellsOf 41 = 3 := by kernel_rfl
  rcases Go.Deep.open_slice Try.underlying22 h with ⟨hcs, -⟩ | ⟨ad, len', cap', m, n, D, Pl, hcs, hb, hl, hm, hmm, -, hi⟩
  · simp only [List.cons.injEq, Value.slice.injEq, and_true] at hcs
    obtain ⟨rfl, rfl, rfl⟩ := hcs
    exact ⟨[], CS.nil _ _, by simp⟩
  · simp only [List.cons.injEq, Value.slice.injEq, and_true] at hcs
    obtain ⟨rfl, rfl, rfl⟩ := hcs
    have hml : len ≤ m := by rw [hmm]; split <;> omega
    obtain ⟨l, hll, hp⟩ := list_of (p := fun i (c : Cl) => ThreeAt w (ad.add (i * 3)) c ∧ FitC c) len (fun i hlt => by
      obtain ⟨cs', h1, h2⟩ := hi i (by omega)
      rw [hc] at h1
      obtain ⟨c, rfl, hf⟩ := cell_open h2
      obtain ⟨-, -, hat⟩ := World.cells?_some h1
      have t0 := hat 0 (by omega)
      have t1 := hat 1 (by omega)
      have t2 := hat 2 (by omega)
      rw [add_add] at t0 t1 t2
      rw [add_at3 _ _ _ (by omega)] at t1 t2
      exact ⟨c, ⟨t0, t1, t2⟩, hf⟩)
    refine ⟨l, ⟨_, cap, by rw [hll], by omega, hm, fun hpos => ⟨ad, rfl, ?_, fun j c hj => (hp j c hj).1⟩⟩, fun c hmem => ?_⟩
    · obtain ⟨c, hc0⟩ : ∃ c, l[0]? = some c := ⟨_, List.getElem?_eq_getElem hpos⟩
      have t := (hp 0 c hc0).1.1
      rw [Nat.zero_mul, show ad.add 0 = ad from by simp [Addr.add]] at t
      rcases Nat.lt_or_ge ad.block w.heap.size with hh | hh
      · exact hh
      · simp [World.cell?, Array.getElem?_eq_none hh] at t
    · obtain ⟨i, hx⟩ := List.getElem?_of_mem hmem
      exact (hp i c hx).2
end
end Go.Proofs.Ytklbfeemnekclaa

namespace Go.Proofs.Ytklbfeemnekclaa
open Go.ChangeShapes Go.WideShapes Go.ChangeAt Go.RowKit
open Go.ChangeMaps (open_string shut_string)
set_option linter.unusedVariables false

theorem runsTell_own : ownKnob Try.prog.godebug = none := by kernel_rfl
theorem runsTell_laidOut : laidOutB Try.prog = true := by kernel_rfl

set_option maxRecDepth 100000 in
theorem runsTell_lifted (os : Os) (started : os.Started) (H : Type) (enc : TypeId × Value → H) :
    ReturnsInHanded {} Try.checked os 3 .any (Rows.runsTellSpec.pre6 enc Try.prog Try.f3 Rows.runsTellRow.domain false) (Rows.runsTellSpec.post enc Try.prog Try.f3 false true false false) := by
  refine returnsInHanded_of_change (C := Try.checked) runsTell_own started (by kernel_rfl) Try.func3
    (ChangeSpec.witness6 (enc := enc) (C := Try.checked) false ⟨#[], #[.slice none 0 0, .slice none 0 0, .slice none 0 0, .int .i64 0, .int .u8 0], []⟩ 8 (by kernel_rfl) (by kernel_rfl) (by kernel_rfl) (by kernel_rfl)) ?_
  intro W base args ds gs before hval0 hW hcnd _
  have hval : ∀ (j : Nat) t v, Try.f3.params[j]? = some t → args[j]? = some v → Value.okWide Try.prog W .any base t v := hval0
  have hW' := hW
  obtain ⟨p, q, hA0, hV, rfl, hfz, hnd⟩ := hW
  have hA : DataW.TrodAll enc Try.prog W 0 (fun _ => true) true Try.f3.params.toList args.toList ds p := hA0
  rw [Try.params3] at hA hval
  obtain ⟨v0, vs0, d0, ds0, p0, q0, hargs, rfl, rfl, h0, r0⟩ := trodAll_cons hA
  obtain ⟨v1, vs1, d1, ds1, p1, q1, rfl, rfl, rfl, h1, r1⟩ := trodAll_cons r0
  obtain ⟨v2, vs2, d2, ds2, p2, q2, rfl, rfl, rfl, h2, r2⟩ := trodAll_cons r1
  obtain ⟨v3, vs3, d3, ds3, p3, q3, rfl, rfl, rfl, h3, r3⟩ := trodAll_cons r2
  obtain ⟨v4, vs4, d4, ds4, p4, q4, rfl, rfl, rfl, h4, r4⟩ := trodAll_cons r3
  obtain ⟨rfl, rfl, rfl⟩ := trodAll_nil r4
  obtain rfl : args = #[v0, v1, v2, v3, v4] := by cases args; simp_all
  obtain ⟨rfl, rfl⟩ := trodVars_none hV
  obtain ⟨a0, len0, cap0, rfl⟩ := okWide_slice Try.underlying22 (hval 0 22 v0 rfl rfl)
  have k0 := h0
  have lt0 : ∀ x ∈ p0, x.block < W.heap.size := by obtain ⟨m, hm⟩ := k0; exact DataW.trod_lt m _ _ _ hm
  obtain ⟨z0, w0, f0⟩ : ∃ l, CS W W.heap.size (.slice a0 len0 cap0) l ∧ ∀ c ∈ l, FitC c := by
    obtain ⟨fuel, hf⟩ := h0
    exact cs_open hf
  obtain ⟨a1, len1, cap1, rfl⟩ := okWide_slice Try.underlying23 (hval 1 23 v1 rfl rfl)
  have k1 := h1
  have lt1 : ∀ x ∈ p1, x.block < W.heap.size := by obtain ⟨m, hm⟩ := k1; exact DataW.trod_lt m _ _ _ hm
  obtain ⟨z1, w1⟩ : ∃ l, BS W W.heap.size (.slice a1 len1 cap1) l := by
    obtain ⟨fuel, hf⟩ := h1
    rcases open_ints Try.underlying23 Try.underlying5 (by kernel_rfl) hf with ⟨hcs, _⟩ | ⟨x, l, c, zs, hcs, _, hl, hm, hz, _, hcell, hwz⟩
    · simp [Value.cells] at hcs
      obtain ⟨rfl, rfl, rfl⟩ := hcs
      exact ⟨[], BS.nil _ _⟩
    · simp [Value.cells] at hcs
      obtain ⟨rfl, rfl, rfl⟩ := hcs
      exact bs_row hl hm (by simpa using hz) hcell hwz
  obtain ⟨a2, len2, cap2, rfl⟩ := okWide_slice Try.underlying23 (hval 2 23 v2 rfl rfl)
  have k2 := h2
  have lt2 : ∀ x ∈ p2, x.block < W.heap.size := by obtain ⟨m, hm⟩ := k2; exact DataW.trod_lt m _ _ _ hm
  obtain ⟨z2, w2⟩ : ∃ l, BS W W.heap.size (.slice a2 len2 cap2) l := by
    obtain ⟨fuel, hf⟩ := h2
    rcases open_ints Try.underlying23 Try.underlying5 (by kernel_rfl) hf with ⟨hcs, _⟩ | ⟨x, l, c, zs, hcs, _, hl, hm, hz, _, hcell, hwz⟩
    · simp [Value.cells] at hcs
      obtain ⟨rfl, rfl, rfl⟩ := hcs
      exact ⟨[], BS.nil _ _⟩
    · simp [Value.cells] at hcs
      obtain ⟨rfl, rfl, rfl⟩ := hcs
      exact bs_row hl hm (by simpa using hz) hcell hwz
  obtain ⟨a3, rfl, rfl, rfl, w3⟩ := open_int Try.underlying3 (hval 3 3 v3 rfl rfl) h3
  obtain ⟨a4, rfl, rfl, rfl, w4⟩ := open_int Try.underlying5 (hval 4 5 v4 rfl rfl) h4
  clear hA0 hval0
  refine (runsTell_walk a0 len0 cap0 z0 a1 len1 cap1 z1 a2 len2 cap2 z2 a3 a4 W w0 f0 w1 w2 w3 w4).mono fun e W' ⟨he, bel⟩ => ?_
  subst he
  exact ⟨_, rfl, _, _, _, [], _, [], hW', trodAll_mk1 (shut_bool Try.underlying4 _), (trodAll_cons_mk (Below.trod runsTell_laidOut (by kernel_rfl) (of_decide_eq_true (by kernel_rfl)) k0 bel lt0) (trodAll_cons_mk (Below.trod runsTell_laidOut (by kernel_rfl) (of_decide_eq_true (by kernel_rfl)) k1 bel lt1) (trodAll_cons_mk (Below.trod runsTell_laidOut (by kernel_rfl) (of_decide_eq_true (by kernel_rfl)) k2 bel lt2) (trodAll_cons_mk (shut_int Try.underlying3 w3) (trodAll_cons_mk (shut_int Try.underlying5 w4) trodAll_mk0))))), rfl, bel.frame _, fun h => by cases h⟩

theorem runsTell_over : Rows.runsTellRow.holds Try.pinned (OpenSpec.ofChange Rows.runsTellSpec) :=
  OpenClaim.holds_of_wide 3 Try.f3 rfl rfl rfl rfl rfl rfl rfl ⟨rfl, rfl, rfl, rfl, rfl⟩ rfl rfl rfl rfl rfl (by kernel_rfl) Try.func3 (by kernel_rfl)
    (of_decide_eq_true (by kernel_rfl)) (by unfold Func.isWrapper; first | (rw [if_pos (by decide +kernel)]; kernel_rfl) | (rw [if_neg (by decide +kernel)]; exact ⟨rfl, rfl⟩))
    (fun os started H enc _ => runsTell_lifted os started H enc)

theorem runsTell_holds : Rows.RunsTellSaid := runsTell_over
#print axioms runsTell_holds
end Go.Proofs.Ytklbfeemnekclaa
