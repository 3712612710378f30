/- What is proved here: the law DeltaBack, called with any bytes and any numbers, returns true and leaves alone whatever memory was there. -/
import Derived.Test.YtmggknoaiaeojaaDeltaKnown
namespace Go.Proofs.Ytmggknoaiaeojaa
open Go.RowKit
set_option linter.unusedVariables false

/-- A row of slices of bytes: each cell holds one that reads as some bytes, not too many, below block B. -/
def Items (w : World) (B blk n most : Nat) : Prop := ∀ k, k < n → ∃ v l, w.cell? ⟨blk, k, none⟩ = some v ∧ BS w B v l ∧ l.length ≤ most
theorem Items.below {w w' : World} {B B' blk n most : Nat} (h : Items w B blk n most) (hb : Below B' w w') (hB : B ≤ B') (hk : blk < B') : Items w' B blk n most := by
  intro k hk2
  obtain ⟨v, l, hc, hs, hl⟩ := h k hk2
  exact ⟨v, l, (hb.cell (p := ⟨blk, k, none⟩) hk).trans hc, hs.keep fun p hp => hb.cell (Nat.lt_of_lt_of_le hp hB), hl⟩
/-- Four slices that have just been laid. -/
theorem Items.four {w : World} {B most : Nat} {v0 v1 v2 v3 : Value} {l0 l1 l2 l3 : List UInt8} (t : TypeId) (hB : B ≤ w.heap.size) (h0 : BS w B v0 l0) (h1 : BS w B v1 l1) (h2 : BS w B v2 l2) (h3 : BS w B v3 l3)
    (m0 : l0.length ≤ most) (m1 : l1.length ≤ most) (m2 : l2.length ≤ most) (m3 : l3.length ≤ most) : Items (w.alloc (.cells #[v0, v1, v2, v3] t)) B w.heap.size 4 most := by
  intro k hk
  match k, hk with
  | 0, _ => exact ⟨v0, l0, by simp, h0.alloc hB _, m0⟩
  | 1, _ => exact ⟨v1, l1, by simp, h1.alloc hB _, m1⟩
  | 2, _ => exact ⟨v2, l2, by simp, h2.alloc hB _, m2⟩
  | 3, _ => exact ⟨v3, l3, by simp, h3.alloc hB _, m3⟩
def BackRel (w0 wb : World) (i : Value) (wr : World) : Prop := ∃ k : Nat, k ≤ 4 ∧ i = .int .i64 (k : Int) ∧ Below wb.heap.size wb wr

set_option maxHeartbeats 2000000 in
set_option maxRecDepth 100000 in
theorem deltaBack_walk (a0 : Option Addr) (len0 cap0 : Nat) (z0 : List UInt8) (a1 : Option Addr) (len1 cap1 : Nat) (z1 : List UInt8) (a2 : Option Addr) (len2 cap2 : Nat) (z2 : List Int) (w : World) (w0 : BS w w.heap.size (.slice a0 len0 cap0) z0) (w1 : BS w w.heap.size (.slice a1 len1 cap1) z1) (w2 : HS w w.heap.size (.slice a2 len2 cap2) z2) (f2 : ∀ n ∈ z2, (Lit.int .u16 n).wf = true) :
    Calls Try.prog 4 #[.slice a0 len0 cap0, .slice a1 len1 cap1, .slice a2 len2 cap2] w fun e w' => e = .returned (.bool true) ∧ Below w.heap.size w w' := by
  obtain ⟨_, _, hv0, -⟩ := w0.at_
  obtain ⟨_, _, hv1, -⟩ := w1.at_
  obtain ⟨_, _, hv2, -⟩ := id w2
  simp only [Value.slice.injEq] at hv0 hv1 hv2
  obtain ⟨-, rfl, -⟩ := hv0
  obtain ⟨-, rfl, -⟩ := hv1
  obtain ⟨-, rfl, -⟩ := hv2
  have W0 := Lib.hid w0
  have W1 := Lib.hid w1
  have W2 := Lib.hid w2
  have F2 := Lib.hid f2
  clear w0 w1 w2 f2
  have hk := knownD_any w
  by_cases t0 : 100 < (z0.length : Int)
  · go_enter Try.func4, Try.ntmps4
    go_wp2_with (go_at_call 7; refine hk.mono ?_; rintro e wk ⟨rfl, hbk⟩)
    go_ret
    exact ⟨rfl, hbk⟩
  have t0' : decide (100 < (z0.length : Int)) = false := by simp; omega
  by_cases t1 : 100 < (z1.length : Int)
  · go_enter Try.func4, Try.ntmps4
    go_wp2_with (go_at_call 7; refine hk.mono ?_; rintro e wk ⟨rfl, hbk⟩)
    go_ret
    exact ⟨rfl, hbk⟩
  have t1' : decide (100 < (z1.length : Int)) = false := by simp; omega
  by_cases t2 : 20 < (z2.length : Int)
  · go_enter Try.func4, Try.ntmps4
    go_wp2_with (go_at_call 7; refine hk.mono ?_; rintro e wk ⟨rfl, hbk⟩)
    go_ret
    exact ⟨rfl, hbk⟩
  have t2' : decide (20 < (z2.length : Int)) = false := by simp; omega
  go_enter Try.func4, Try.ntmps4
  go_wp2_with fail
  refine hk.mono ?_
  rintro e w1 ⟨rfl, hb1⟩
  have s1 := hb1.size
  go_wp2_with fail
  refine (twist_any _ _ z0 z2 w1 ((W0.out.below hb1).more s1) ((W2.out.below hb1).more s1) (by omega) (by omega) F2.out).mono ?_
  rintro e w2 ⟨vt, t, rfl, ht, htl, hb2⟩
  have c2 := hb1.trans (hb2.mono s1)
  have s2 := c2.size
  have ht2 := ht.bs
  obtain ⟨At, ct, rfl, _, _, -⟩ := ht2.at_
  clear ht hb1 hb2 s1 hk
  go_wp2_with (first
    | (at_builtin; refine wpl_app _ rfl (.const (.slice none 0 0)) (.tmp 33) rfl w2.heap.size _ (.slice none 0 0) _ [] z0 rfl rfl (OB.nil _ _) (W0.out.below c2) (by simp; omega) (Nat.le_refl _) ?_; intro v3 w3 ho3 hg3 hb3 _; have c3 := c2.trans (hb3.mono s2))
    | (at_builtin; refine wpl_app _ rfl (.tmp 34) (.tmp 35) rfl w2.heap.size _ _ _ ([] ++ z0) z0 rfl rfl ho3 (W0.out.below c3) (by simp; omega) hb3.size ?_; intro v4 w4 ho4 hg4 hb4 _; have b4 := hb3.trans hb4; obtain ⟨A4, q4, rfl, _, _, -⟩ := ho4.bs.at_))
  have c4 := c2.trans (b4.mono s2)
  have s4 := c4.size
  have h4' : BS w4 w4.heap.size (.slice A4 (z0.length + z0.length) q4) (z0 ++ z0) := by
    have h := ho4.bs
    rw [List.nil_append, List.length_append] at h
    exact h
  have hit := Items.four (w := w4) (most := 240) 22 (Nat.le_refl _) ((W1.out.below c4).more s4) ((ht2.below b4).more b4.size) ((W0.out.below c4).more s4) h4' (by omega) (by omega) (by omega) (by simp; omega)
  have c5 := c4.alloc s4 (.cells #[Value.slice a1 z1.length cap1, Value.slice At t.length ct, Value.slice a0 z0.length cap0, Value.slice A4 (z0.length + z0.length) q4] 22)
  have z5 : (w4.alloc (.cells #[Value.slice a1 z1.length cap1, Value.slice At t.length ct, Value.slice a0 z0.length cap0, Value.slice A4 (z0.length + z0.length) q4] 22)).heap.size = w4.heap.size + 1 := by simp
  generalize w4.alloc (.cells #[Value.slice a1 z1.length cap1, Value.slice At t.length ct, Value.slice a0 z0.length cap0, Value.slice A4 (z0.length + z0.length) q4] 22) = w5 at *
  have HIT := Lib.hid hit
  have HZ5 := Lib.hid z5
  have hz5 : w4.heap.size < w5.heap.size := by omega
  have s5 := c5.size
  clear hit z5 h4' ho3 ho4 hg3 hg4 hb3 hb4 b4 ht2 c2 c3 c4 s2 s4
  generalize w4.heap.size = blk at *
  go_loopw [39] (fun i wr => BackRel w w5 i wr) (fun i _ => 4 - (intOf i).toNat)
  case atStart => exact ⟨0, by omega, rfl, Below.refl _ _⟩
  case round =>
    obtain ⟨k, hk, rfl, hbr⟩ := hrel
    have cr := c5.trans (hbr.mono s5)
    have sr := cr.size
    by_cases hlt : k < 4
    · obtain ⟨v, l, hc, hv, hl⟩ := HIT.out.below hbr (by omega) hz5 k hlt
      have hlt' : (k : Int) < 4 := by omega
      obtain ⟨A, q, rfl, _, _, -⟩ := hv.at_
      have hvr := hv.more (B' := wr.heap.size) (by have := hbr.size; omega)
      have m1 := makeL_len z0 l (by omega) (by omega)
      have j1 := applyL_make z0 l (l.length : Int) (by omega) (by omega)
      rw [if_neg (by omega)] at j1
      go_wp2_with fail
      refine (make_any _ _ z0 l wr ((W0.out.below cr).more sr) hvr (by omega) (by omega)).mono ?_
      rintro e w6 ⟨vd, rfl, hd, hb6⟩
      have b6 := hbr.trans (hb6.mono hbr.size)
      have c6 := cr.trans (hb6.mono sr)
      have hd6 := hd.bs
      obtain ⟨Ad, qd, rfl, _, _, -⟩ := hd6.at_
      clear hd
      go_wp2_with fail
      refine (apply_any _ _ z0 (makeL z0 l) _ w6 ((W0.out.below c6).more c6.size) hd6 (by omega) (by omega) (by omega) (by omega)).mono ?_
      rintro e w7 ⟨vc, rfl, hcc, hb7⟩
      rw [j1] at hcc
      rw [j1]
      have b7 := b6.trans (hb7.mono b6.size)
      have hl7 : BS w7 wr.heap.size (.slice A l.length q) l := (hvr.below hb6).below (hb7.mono hb6.size)
      have hs1 := run_str hcc
      have hs2 := run_str hl7
      have e1 : decide ((l.length : Int) + 4 + (l.length : Int) / 4 * 2 < ((makeL z0 l).length : Int)) = false := by simp; omega
      clear j1 hb6 hb7 b6 c6 hd6 hcc hl7 hvr hv hc
      go_wp2
      go_roundw
      case rel => exact ⟨k + 1, by omega, by go_num, b7⟩
      case measure => simp [intOf]; omega
    · obtain rfl : k = 4 := by omega
      go_wp2_with fail
      refine (make_any _ _ z0 z0 wr ((W0.out.below cr).more sr) ((W0.out.below cr).more sr) (by omega) (by omega)).mono ?_
      rintro e w6 ⟨vd, rfl, hd, hb6⟩
      have c6 := cr.trans (hb6.mono sr)
      obtain ⟨Ad, qd, rfl, _, _, -⟩ := hd.bs.at_
      by_cases h4 : (z0.length : Int) < 4
      · go_wp2
        go_ret
        exact ⟨rfl, c6⟩
      · have h4' : decide ((z0.length : Int) < 4) = false := by simp; omega
        have hms := makeL_self z0 (by omega)
        have hm4 : (makeL z0 z0).length ≤ 4 := by
          have e2 := lebP_len2 (2 * z0.length + 1) (by omega)
          have e3 := lebP_len1 0 (by omega)
          rw [hms, List.length_append]
          omega
        have hm4' : ((makeL z0 z0).length : Int) ≤ 4 := by omega
        clear hms
        go_wp2
        go_ret
        exact ⟨rfl, c6⟩
end Go.Proofs.Ytmggknoaiaeojaa
