/- What is proved here: the law DeltaTells, called with any bytes and any numbers, returns true and leaves alone whatever memory was there. -/
import Derived.Test.YtmggknoaiaeojaaDeltaBackWalk
import Derived.Laws.BitsLemmas
import Derived.Deep.RegionHeld3
import Derived.Deep.CutRange
import Derived.Deep.RegionLaw
import Derived.IntWalk
import Derived.Laws.BitsAllLaws
namespace Go.Proofs.Ytmggknoaiaeojaa
open Go.RowKit
set_option linter.unusedVariables false

/-- Bytes whose first k are no more than they were; of the same number. -/
def SmallRel (n : Nat) (v : Value) (w0 : World) (i : Value) (wr : World) : Prop := ∃ (k : Nat) (sl : List UInt8), k ≤ n ∧ i = .int .i64 (k : Int) ∧ OB wr w0.heap.size v sl ∧ sl.length = n ∧ Below w0.heap.size w0 wr

/-- A row of pairs of slices of bytes. -/
def Pairs (w : World) (B blk n most : Nat) : Prop := ∀ k, k < n → ∃ v1 v2 l1 l2, w.cell? ⟨blk, k * 2, none⟩ = some v1 ∧ w.cell? ⟨blk, k * 2 + 1, none⟩ = some v2 ∧ BS w B v1 l1 ∧ BS w B v2 l2 ∧ l1.length ≤ 80 ∧ l2.length ≤ most
theorem Pairs.below {w w' : World} {B B' blk n most : Nat} (h : Pairs w B blk n most) (hb : Below B' w w') (hB : B ≤ B') (hk : blk < B') : Pairs w' B blk n most := by
  intro k hk2
  obtain ⟨v1, v2, l1, l2, c1, c2, s1, s2, m1, m2⟩ := h k hk2
  exact ⟨v1, v2, l1, l2, (hb.cell (p := ⟨blk, k * 2, none⟩) hk).trans c1, (hb.cell (p := ⟨blk, k * 2 + 1, none⟩) hk).trans c2, s1.keep fun p hp => hb.cell (Nat.lt_of_lt_of_le hp hB), s2.keep fun p hp => hb.cell (Nat.lt_of_lt_of_le hp hB), m1, m2⟩
theorem Pairs.five {w : World} {B most : Nat} {v0 v1 v2 v3 v4 v5 v6 v7 v8 v9 : Value} {l0 l1 l2 l3 l4 l5 l6 l7 l8 l9 : List UInt8} (t : TypeId) (hB : B ≤ w.heap.size) (h0 : BS w B v0 l0) (h1 : BS w B v1 l1) (h2 : BS w B v2 l2) (h3 : BS w B v3 l3) (h4 : BS w B v4 l4) (h5 : BS w B v5 l5) (h6 : BS w B v6 l6) (h7 : BS w B v7 l7) (h8 : BS w B v8 l8) (h9 : BS w B v9 l9)
    (m0 : l0.length ≤ 80) (m1 : l1.length ≤ most) (m2 : l2.length ≤ 80) (m3 : l3.length ≤ most) (m4 : l4.length ≤ 80) (m5 : l5.length ≤ most) (m6 : l6.length ≤ 80) (m7 : l7.length ≤ most) (m8 : l8.length ≤ 80) (m9 : l9.length ≤ most) : Pairs (w.alloc (.cells #[v0, v1, v2, v3, v4, v5, v6, v7, v8, v9] t)) B w.heap.size 5 most := by
  intro k hk
  match k, hk with
  | 0, _ => exact ⟨v0, v1, l0, l1, by simp, by simp, h0.alloc hB _, h1.alloc hB _, m0, m1⟩
  | 1, _ => exact ⟨v2, v3, l2, l3, by simp, by simp, h2.alloc hB _, h3.alloc hB _, m2, m3⟩
  | 2, _ => exact ⟨v4, v5, l4, l5, by simp, by simp, h4.alloc hB _, h5.alloc hB _, m4, m5⟩
  | 3, _ => exact ⟨v6, v7, l6, l7, by simp, by simp, h6.alloc hB _, h7.alloc hB _, m6, m7⟩
  | 4, _ => exact ⟨v8, v9, l8, l9, by simp, by simp, h8.alloc hB _, h9.alloc hB _, m8, m9⟩
/-- Contracts in a world behind W. -/
theorem make_in {W w : World} (hb : Below W.heap.size W w) {v1 v2 : Value} {old new : List UInt8} (h1 : BS W W.heap.size v1 old) (h2 : BS W W.heap.size v2 new) (hl1 : old.length ≤ 1048576) (hl2 : new.length ≤ 1048576) :
    Calls Try.prog 9 #[v1, v2] w fun e w' => ∃ v, e = .returned v ∧ BS w' w'.heap.size v (makeL old new) ∧ Below w.heap.size w w' ∧ Below W.heap.size W w' := by
  refine (make_any v1 v2 old new w ((h1.below hb).more hb.size) ((h2.below hb).more hb.size) hl1 hl2).mono ?_
  rintro e w' ⟨v, rfl, hv, hb2⟩
  exact ⟨v, rfl, hv.bs, hb2, hb.trans (hb2.mono hb.size)⟩
theorem maker_in {W w : World} (hb : Below W.heap.size W w) {v1 v2 : Value} {old new : List UInt8} (h1 : BS W W.heap.size v1 old) (h2 : BS W W.heap.size v2 new) (hl1 : old.length ≤ 1048576) (hl2 : new.length ≤ 1048576) :
    Calls Try.prog 10 #[v1, v2] w fun e w' => ∃ v, e = .returned v ∧ BS w' w'.heap.size v (makeL old new) ∧ Below w.heap.size w w' ∧ Below W.heap.size W w' := by
  refine (maker_any v1 v2 old new w ((h1.below hb).more hb.size) ((h2.below hb).more hb.size) hl1 hl2).mono ?_
  rintro e w' ⟨v, rfl, hv, hb2⟩
  exact ⟨v, rfl, hv.bs, hb2, hb.trans (hb2.mono hb.size)⟩
/-- append of bytes at a step of a region that draws. -/
theorem step_appB {ops : Array Oper} {o : Oper} {a : Act} {w : World} {K : Act → World → Prop} {Q : Exit → Act → World → Prop} {E : Prop} (hgd : o.guard = none) (s x : Operand)
    (ho : o.op = .call { callee := .builtin .append, args := #[s, x], argTypes := #[22, 22] })
    (base B : Nat) (v u : Value) (l m : List UInt8) (hs : a.eval s = v) (hx : a.eval x = u) (hown : OB w base v l) (hr : BS w B u m) (hlen : l.length + m.length ≤ 1099511627776) (hbase : base ≤ w.heap.size)
    (h : ∀ v' w', OB w' base v' (l ++ m) → w.grownBy w' v.ownBlock → Below base w w' → K (a.put o.dst v') w') :
    if Region.wanted o (yielded ops a.tmps) = true then Oper.wp Try.prog o a w K Q else E := by
  have hw : Region.wanted o (yielded ops a.tmps) = true := by simp [Region.wanted, hgd]
  rw [if_pos hw]
  obtain ⟨v', w', hrun, h2, h3, h4, h5⟩ := run_app w o.type hown hr hlen hbase
  unfold Oper.wp execOp
  simp only [ho, resolve, invoke, builtin, Sem.run_bind, Sem.run_pure, Result.andThen_ok, List.map_toArray, List.map_cons, List.map_nil, hs, hx, hrun]
  exact h v' w' h2 h3 h4
theorem Items.five {w : World} {B most : Nat} {v0 v1 v2 v3 v4 : Value} {l0 l1 l2 l3 l4 : List UInt8} (t : TypeId) (hB : B ≤ w.heap.size) (h0 : BS w B v0 l0) (h1 : BS w B v1 l1) (h2 : BS w B v2 l2) (h3 : BS w B v3 l3) (h4 : BS w B v4 l4)
    (m0 : l0.length ≤ most) (m1 : l1.length ≤ most) (m2 : l2.length ≤ most) (m3 : l3.length ≤ most) (m4 : l4.length ≤ most) : Items (w.alloc (.cells #[v0, v1, v2, v3, v4] t)) B w.heap.size 5 most := by
  intro k hk
  match k, hk with
  | 0, _ => exact ⟨v0, l0, by simp, h0.alloc hB _, m0⟩
  | 1, _ => exact ⟨v1, l1, by simp, h1.alloc hB _, m1⟩
  | 2, _ => exact ⟨v2, l2, by simp, h2.alloc hB _, m2⟩
  | 3, _ => exact ⟨v3, l3, by simp, h3.alloc hB _, m3⟩
  | 4, _ => exact ⟨v4, l4, by simp, h4.alloc hB _, m4⟩
/-- A row of three numbers that has just been laid. -/
def Three3 (w : World) (blk : Nat) : Prop := ∀ k, k < 3 → ∃ m : Int, w.cell? ⟨blk, k, none⟩ = some (.int .i64 m) ∧ -9223372036854775808 ≤ m ∧ m ≤ 9223372036854775807
theorem Three3.below {w w' : World} {B' blk : Nat} (h : Three3 w blk) (hb : Below B' w w') (hk : blk < B') : Three3 w' blk := by
  intro k hk2
  obtain ⟨m, hc, h1, h2⟩ := h k hk2
  exact ⟨m, (hb.cell (p := ⟨blk, k, none⟩) hk).trans hc, h1, h2⟩
theorem Three3.laid {w : World} {x y z : Int} (t : TypeId) (hx : -9223372036854775808 ≤ x ∧ x ≤ 9223372036854775807) (hy : -9223372036854775808 ≤ y ∧ y ≤ 9223372036854775807) (hz : -9223372036854775808 ≤ z ∧ z ≤ 9223372036854775807) : Three3 (w.alloc (.cells #[.int .i64 x, .int .i64 y, .int .i64 z] t)) w.heap.size := by
  intro k hk
  match k, hk with
  | 0, _ => exact ⟨x, by simp, hx⟩
  | 1, _ => exact ⟨y, by simp, hy⟩
  | 2, _ => exact ⟨z, by simp, hz⟩
def CountRel (n : Nat) (wb : World) (i : Value) (wr : World) : Prop := ∃ k : Nat, k ≤ n ∧ i = .int .i64 (k : Int) ∧ Below wb.heap.size wb wr

set_option maxHeartbeats 4000000 in
set_option maxRecDepth 100000 in
theorem deltaTells_walk (a0 : Option Addr) (len0 cap0 : Nat) (z0 : List UInt8) (a1 : Option Addr) (len1 cap1 : Nat) (z1 : List UInt8) (a2 : Option Addr) (len2 cap2 : Nat) (z2 : List Int) (a3 : Option Addr) (len3 cap3 : Nat) (z3 : List UInt8) (a4 : Int) (a5 : Int) (w : World) (w0 : BS w w.heap.size (.slice a0 len0 cap0) z0) (w1 : BS w w.heap.size (.slice a1 len1 cap1) z1) (w2 : HS w w.heap.size (.slice a2 len2 cap2) z2) (f2 : ∀ n ∈ z2, (Lit.int .u16 n).wf = true) (w3 : BS w w.heap.size (.slice a3 len3 cap3) z3) (w4 : (Lit.int .i64 a4).wf = true) (w5 : (Lit.int .u8 a5).wf = true) :
    Calls Try.prog 3 #[.slice a0 len0 cap0, .slice a1 len1 cap1, .slice a2 len2 cap2, .slice a3 len3 cap3, .int .i64 a4, .int .u8 a5] w fun e w' => e = .returned (.bool true) ∧ Below w.heap.size w w' := by
  obtain ⟨_, _, hv0, -⟩ := w0.at_
  obtain ⟨_, _, hv1, -⟩ := w1.at_
  obtain ⟨_, _, hv2, -⟩ := id w2
  obtain ⟨_, _, hv3, -⟩ := w3.at_
  simp only [Value.slice.injEq] at hv0 hv1 hv2 hv3
  obtain ⟨-, rfl, -⟩ := hv0
  obtain ⟨-, rfl, -⟩ := hv1
  obtain ⟨-, rfl, -⟩ := hv2
  obtain ⟨-, rfl, -⟩ := hv3
  have W0 := Lib.hid w0
  have W1 := Lib.hid w1
  have W2 := Lib.hid w2
  have W3 := Lib.hid w3
  have F2 := Lib.hid f2
  obtain ⟨m0, m1⟩ := bounds_i64 w4
  obtain ⟨k0, k1⟩ := bounds_u8 w5
  clear w0 w1 w2 w3 f2 w4 w5
  have hk := knownD_any w
  by_cases t0 : 80 < (z0.length : Int)
  · go_enter Try.func3, Try.ntmps3
    go_wp2_with (go_at_call 7; refine hk.mono ?_; rintro e wk ⟨rfl, hbk⟩)
    go_ret
    exact ⟨rfl, hbk⟩
  have t0' : decide (80 < (z0.length : Int)) = false := by simp; omega
  by_cases t1 : 80 < (z1.length : Int)
  · go_enter Try.func3, Try.ntmps3
    go_wp2_with (go_at_call 7; refine hk.mono ?_; rintro e wk ⟨rfl, hbk⟩)
    go_ret
    exact ⟨rfl, hbk⟩
  have t1' : decide (80 < (z1.length : Int)) = false := by simp; omega
  by_cases t2 : 20 < (z2.length : Int)
  · go_enter Try.func3, Try.ntmps3
    go_wp2_with (go_at_call 7; refine hk.mono ?_; rintro e wk ⟨rfl, hbk⟩)
    go_ret
    exact ⟨rfl, hbk⟩
  have t2' : decide (20 < (z2.length : Int)) = false := by simp; omega
  by_cases t3 : 40 < (z3.length : Int)
  · go_enter Try.func3, Try.ntmps3
    go_wp2_with (go_at_call 7; refine hk.mono ?_; rintro e wk ⟨rfl, hbk⟩)
    go_ret
    exact ⟨rfl, hbk⟩
  have t3' : decide (40 < (z3.length : Int)) = false := by simp; omega
  go_enter Try.func3, Try.ntmps3
  go_wp2_with fail
  refine hk.mono ?_
  rintro e w1 ⟨rfl, hb1⟩
  have s1 := hb1.size
  go_wp2_with (at_builtin; refine wpl_app _ rfl (.const (.slice none 0 0)) (.tmp 48) rfl w1.heap.size _ (.slice none 0 0) _ [] z0 rfl rfl (OB.nil _ _) (W0.out.below hb1) (by simp; omega) (Nat.le_refl _) ?_; intro v2 w2 ho2 hg2 hb2 _)
  rw [List.nil_append] at ho2
  clear hg2 hk
  obtain ⟨As, cs, rfl, gs1, gs2, -⟩ := ho2.bs.at_
  unfold maxLen at gs2
  go_loopw [14] (fun i wr => SmallRel z0.length (.slice As z0.length cs) w1 i wr) (fun i _ => z0.length - (intOf i).toNat)
  case atStart => exact ⟨0, z0, Nat.zero_le _, rfl, ho2, rfl, hb2⟩
  case round =>
    obtain ⟨k, sl, hk, rfl, hos, hsl, hbr⟩ := hrel
    by_cases hlt : k < z0.length
    · have HSL := Lib.hid hsl
      obtain ⟨g, cap, hfm, hcap⟩ : ∃ g cap, (Value.slice As z0.length cs) = .slice (some ⟨g, 0, none⟩) z0.length cap ∧ True := by
        unfold OB at hos
        rcases hos.2 with ⟨hv, h0⟩ | ⟨g', cap', cur, hv, _⟩
        · omega
        · exact ⟨g', cap', by rw [hv, hsl], trivial⟩
      simp only [Value.slice.injEq, true_and] at hfm
      obtain ⟨rfl, rfl⟩ := hfm
      have hos' := hos
      rw [← hsl] at hos'
      have hc := hos'.cellAt k (by omega)
      obtain ⟨x, hx⟩ : ∃ x : UInt8, sl[k]'(by omega) = x := ⟨_, rfl⟩
      rw [hx] at hc
      unfold vB at hc
      have hx8 := x.toNat_lt
      have hf := hos'.frozenAt k
      have hst := hos'.stored k (UInt8.ofNat ((x.toNat : Int) % 4).toNat)
      rw [hsl, vB_of _ (by omega) (by omega)] at hst
      have e3 : bits .and .u8 (x.toNat : Int) 3 = (x.toNat : Int) % 4 := bits_mask .u8 8 (by decide) wraps_u8 2 (by decide) _ (by omega) (by omega)
      have HST := Lib.hid hst
      have HGL := Lib.hid hos.block.1
      clear hst hos hos' hx
      have hgl : w1.heap.size ≤ g := HGL.out
      go_wp2
      go_roundw
      case rel => exact ⟨k + 1, sl.set k (UInt8.ofNat ((x.toNat : Int) % 4).toNat), hlt, by go_num, HST.out, by rw [List.length_set]; exact HSL.out, hbr.setCell hgl _⟩
      case measure => simp [intOf]; omega
    · obtain rfl : k = z0.length := by omega
      have cr := hb1.trans (hbr.mono s1)
      have sr := cr.size
      have hsm := hos.bs
      have hsl' : sl.length ≤ 80 := by omega
      have hsm' : BS wr wr.heap.size (.slice As z0.length cs) sl := hsm
      clear hos hsm ho2 hb2
      go_wp2_with fail
      refine (twist_any _ _ z0 z2 wr ((W0.out.below cr).more sr) ((W2.out.below cr).more sr) (by omega) (by omega) F2.out).mono ?_
      rintro e w3 ⟨vt, t, rfl, ht, htl, hb3⟩
      have c3 := cr.trans (hb3.mono sr)
      have s3 := c3.size
      have ht3 := ht.bs
      obtain ⟨At, ct, rfl, _, _, -⟩ := ht3.at_
      have hsm3 := (hsm'.below hb3).more hb3.size
      clear ht hb3 cr sr hsm' hbr s1 hb1
      go_wp2_with fail
      refine (twist_any _ _ sl z2 w3 hsm3 ((W2.out.below c3).more s3) (by omega) (by omega) F2.out).mono ?_
      rintro e w4 ⟨vu, u, rfl, hu, hul, hb4⟩
      have c4 := c3.trans (hb4.mono s3)
      have s4 := c4.size
      have hu4 := hu.bs
      obtain ⟨Au, cu, rfl, _, _, -⟩ := hu4.at_
      have hsm4 := (hsm3.below hb4).more hb4.size
      have ht4 := (ht3.below hb4).more hb4.size
      have hz4 := (W0.out.below c4).more s4
      have hr4 := (W1.out.below c4).more s4
      clear hu hb4 c3 s3 hsm3 ht3
      go_wp2
      have hpr := Pairs.five (w := w4) (most := 240) 25 (Nat.le_refl _) hz4 hr4 hz4 ht4 hsm4 hu4 hsm4 hsm4 (BS.nil _ _) hr4 (by omega) (by omega) (by omega) (by omega) (by omega) (by omega) (by omega) (by omega) (by simp) (by omega)
      have c5 := c4.alloc s4 (.cells #[Value.slice a0 z0.length cap0, Value.slice a1 z1.length cap1, Value.slice a0 z0.length cap0, Value.slice At t.length ct, Value.slice As z0.length cs, Value.slice Au u.length cu, Value.slice As z0.length cs, Value.slice As z0.length cs, Value.slice none 0 0, Value.slice a1 z1.length cap1] 25)
      have z5 : (w4.alloc (.cells #[Value.slice a0 z0.length cap0, Value.slice a1 z1.length cap1, Value.slice a0 z0.length cap0, Value.slice At t.length ct, Value.slice As z0.length cs, Value.slice Au u.length cu, Value.slice As z0.length cs, Value.slice As z0.length cs, Value.slice none 0 0, Value.slice a1 z1.length cap1] 25)).heap.size = w4.heap.size + 1 := by simp
      generalize w4.alloc (.cells #[Value.slice a0 z0.length cap0, Value.slice a1 z1.length cap1, Value.slice a0 z0.length cap0, Value.slice At t.length ct, Value.slice As z0.length cs, Value.slice Au u.length cu, Value.slice As z0.length cs, Value.slice As z0.length cs, Value.slice none 0 0, Value.slice a1 z1.length cap1] 25) = w5 at *
      have HPR := Lib.hid hpr
      have hz5 : w4.heap.size < w5.heap.size := by omega
      have s5 := c5.size
      clear hpr z5 hz4 hr4 ht4 hsm4 hu4 c4 s4
      generalize w4.heap.size = blk at *
      go_loopw [82] (fun i wr => CountRel 5 w5 i wr) (fun i _ => 5 - (intOf i).toNat)
      case atStart => exact ⟨0, by omega, rfl, Below.refl _ _⟩
      case round =>
        obtain ⟨k, hk, rfl, hbr⟩ := hrel
        have cr := c5.trans (hbr.mono s5)
        have sr := cr.size
        by_cases hlt : k < 5
        · obtain ⟨v1, v2, l1, l2, hc1, hc2, hv1, hv2, ml1, ml2⟩ := HPR.out.below hbr (by omega) hz5 k hlt
          have hlt' : (k : Int) < 5 := by omega
          obtain ⟨A1, q1, rfl, _, _, -⟩ := hv1.at_
          obtain ⟨A2, q2, rfl, _, _, -⟩ := hv2.at_
          go_wp2
          have hbA := (Below.refl wr.heap.size wr).alloc (Nat.le_refl _) (.cells #[Value.slice A1 l1.length q1, Value.slice A2 l2.length q2] 25)
          have hp1 : (wr.alloc (.cells #[Value.slice A1 l1.length q1, Value.slice A2 l2.length q2] 25)).cell? ⟨wr.heap.size, 0, none⟩ = some (Value.slice A1 l1.length q1) := by simp
          have hp2 : (wr.alloc (.cells #[Value.slice A1 l1.length q1, Value.slice A2 l2.length q2] 25)).cell? ⟨wr.heap.size, 1, none⟩ = some (Value.slice A2 l2.length q2) := by simp
          have zA : (wr.alloc (.cells #[Value.slice A1 l1.length q1, Value.slice A2 l2.length q2] 25)).heap.size = wr.heap.size + 1 := by simp
          generalize wr.alloc (.cells #[Value.slice A1 l1.length q1, Value.slice A2 l2.length q2] 25) = wA at *
          have hzA : wr.heap.size < wA.heap.size := by omega
          have hsr := hbr.size
          have cA := cr.trans (hbA.mono sr)
          have bA := hbr.trans (hbA.mono hsr)
          have hv1A : BS wA wA.heap.size (.slice A1 l1.length q1) l1 := ((hv1.more (B' := wr.heap.size) (by omega)).below hbA).more (by omega)
          have hv2A : BS wA wA.heap.size (.slice A2 l2.length q2) l2 := ((hv2.more (B' := wr.heap.size) (by omega)).below hbA).more (by omega)
          have ZA := Lib.hid zA
          clear zA hv1 hv2 hc1 hc2
          generalize wr.heap.size = pb at *
          have hS : ∀ x : World, Below wA.drew.heap.size wA.drew x → x.cell? ⟨pb, 0, none⟩ = some (Value.slice A1 l1.length q1) ∧ x.cell? ⟨pb, 1, none⟩ = some (Value.slice A2 l2.length q2) := fun x hx => ⟨(hx.cell (p := ⟨pb, 0, none⟩) hzA).trans hp1, (hx.cell (p := ⟨pb, 1, none⟩) hzA).trans hp2⟩
          have HS1 := Lib.hid hS
          have hb0 : Below wA.drew.heap.size wA.drew wA.drew := Below.refl _ _
          have hv1D : BS wA.drew wA.drew.heap.size (.slice A1 l1.length q1) l1 := hv1A
          have hv2D : BS wA.drew wA.drew.heap.size (.slice A2 l2.length q2) l2 := hv2A
          clear hS hp1 hp2
          go_region_held3 (fun x : World => x.cell? ⟨pb, 0, none⟩ = some (Value.slice A1 l1.length q1) ∧ x.cell? ⟨pb, 1, none⟩ = some (Value.slice A2 l2.length q2)) (exact HS1.out _ (by assumption))
            (first
              | (go_at_call 9; (with_reducible refine (make_in (W := wA.drew) (by assumption) hv1D hv2D (by omega) (by omega)).mono ?_); rintro e wx ⟨vx, rfl, hx, bx, bx'⟩)
              | (go_at_call 10; (with_reducible refine (maker_in (W := wA.drew) (by assumption) hv1D hv2D (by omega) (by omega)).mono ?_); rintro e wy ⟨vy, rfl, hy, hby, hby'⟩))
          have hxy := (hx.below hby).more hby.size
          have cY : Below w.heap.size w wy := cA.drew.trans (hby'.mono cA.size)
          have bY : Below w5.heap.size w5 wy := bA.drew.trans (hby'.mono bA.size)
          have sY := cY.size
          obtain ⟨pc1, pc2⟩ := HS1.out wy hby'
          have hv1Y : BS wy wy.heap.size (.slice A1 l1.length q1) l1 := (hv1D.below hby').more hby'.size
          have hpb : pb < wy.heap.size := Nat.lt_of_lt_of_le hzA hby'.size
          have hs1 := run_str hxy
          have hs2 := run_str hy
          have mY := makeL_len l1 l2 (by omega) (by omega)
          obtain ⟨Ay, qy, rfl, gy1, gy2, -⟩ := hy.at_
          obtain ⟨Ax, qx, rfl, _, _, -⟩ := hxy.at_
          generalize makeL l1 l2 = Y at *
          have HY := Lib.hid hy
          have HV1 := Lib.hid hv1Y
          clear hx hxy bx bx' hby hby' hy hv1Y hv1D hv2D hv1A hv2A hb0 HS1
          go_upto_if 105 with (at_builtin; refine wpl_app _ rfl (.const (.slice none 0 0)) (.tmp 101) rfl wy.heap.size _ (.slice none 0 0) _ [] Y rfl rfl (OB.nil _ _) HY.out (by simp; omega) (Nat.le_refl _) ?_; intro vz wz hoz hgz hbz _; clear hgz; rw [List.nil_append] at hoz; obtain ⟨Az, qz, rfl, gz1, gz2, -⟩ := hoz.bs.at_)
          unfold maxLen at gz2
          go_cut [82] from 82 to 180 (fun s82 wx => s82 = .int .i64 (k : Int) ∧ ∃ zl, OB wx wy.heap.size (.slice Az Y.length qz) zl ∧ zl.length = Y.length ∧ Below wy.heap.size wy wx)
          case first =>
            by_cases hY0 : 0 < Y.length
            · obtain ⟨j, hj⟩ : ∃ j : Nat, a5 % (Y.length : Int) = (j : Int) := ⟨(a5 % (Y.length : Int)).toNat, by have := Int.emod_nonneg a5 (show (Y.length : Int) ≠ 0 by omega); omega⟩
              have hjl : j < Y.length := by have := Int.emod_lt_of_pos a5 (show (0 : Int) < (Y.length : Int) by omega); omega
              obtain ⟨g, hfm⟩ : ∃ g, Az = some ⟨g, 0, none⟩ := by
                unfold OB at hoz
                rcases hoz.2 with ⟨hv, h0⟩ | ⟨g', cap', cur, hv, _⟩
                · omega
                · simp only [Value.slice.injEq] at hv
                  exact ⟨g', hv.1⟩
              subst hfm
              have hc := hoz.cellAt j hjl
              have hf := hoz.frozenAt j
              have hgb := hoz.block.1
              obtain ⟨x, hx⟩ : ∃ x : UInt8, Y[j] = x := ⟨_, rfl⟩
              rw [hx] at hc
              unfold vB at hc
              have hx8 := x.toNat_lt
              obtain ⟨r, hr, hr0, hr1⟩ : ∃ r : Int, bits .xor .u8 (x.toNat : Int) (a5 / 16 + 1) = r ∧ 0 ≤ r ∧ r < 256 := by
                refine ⟨_, rfl, ?_⟩
                rw [u8_xor _ _ (by omega) (by omega) (by omega) (by omega)]
                have := Nat.xor_lt_two_pow (n := 8) (x := ((x.toNat : Int)).toNat) (y := (a5 / 16 + 1).toNat) (by omega) (by omega)
                omega
              have hst := hoz.stored j (UInt8.ofNat r.toNat)
              rw [vB_of r hr0 hr1] at hst
              have HST := Lib.hid hst
              have HOZ := Lib.hid hoz
              clear hst hoz hx
              have hYz : ¬ ((Y.length : Int) = 0) := by omega
              go_wp2_with fail
              go_meet
              exact ⟨rfl, _, HST.out, by rw [List.length_set], hbz.setCell hgb _⟩
            · have hY0' : decide (0 < Y.length) = false := decide_eq_false hY0
              go_wp2_with fail
              go_meet
              exact ⟨rfl, Y, hoz, rfl, hbz⟩
          case rest =>
            obtain ⟨rfl, zl, hoz2, hzl, hbz2⟩ := hcut
            have cC := cY.trans (hbz2.mono sY)
            have bC := bY.trans (hbz2.mono bY.size)
            have sC := cC.size
            have hzw := hbz2.size
            have pc1C : wc.cell? ⟨pb, 0, none⟩ = some (Value.slice A1 l1.length q1) := (hbz2.cell (p := ⟨pb, 0, none⟩) hpb).trans pc1
            have pc2C : wc.cell? ⟨pb, 1, none⟩ = some (Value.slice A2 l2.length q2) := (hbz2.cell (p := ⟨pb, 1, none⟩) hpb).trans pc2
            have hyC : BS wc.drew wc.drew.heap.size (.slice Ay Y.length qy) Y := (HY.out.below hbz2).more hzw
            have hdC : BS wc.drew wc.drew.heap.size (.slice a3 z3.length cap3) z3 := (W3.out.below cC).more sC
            have hzC : BS wc.drew wc.drew.heap.size (.slice Az Y.length qz) zl := by
              have h := hoz2.bs
              exact h
            have hv1C : BS wc wc.heap.size (.slice A1 l1.length q1) l1 := (HV1.out.below hbz2).more hzw
            obtain ⟨j, hj⟩ : ∃ j : Nat, a5.tmod ((Y.length : Int) + 1) = (j : Int) := ⟨(a5.tmod ((Y.length : Int) + 1)).toNat, by rw [Int.tmod_eq_emod_of_nonneg k0]; have := Int.emod_nonneg a5 (show (Y.length : Int) + 1 ≠ 0 by omega); omega⟩
            have hjl : j ≤ Y.length := by rw [Int.tmod_eq_emod_of_nonneg k0] at hj; have := Int.emod_lt_of_pos a5 (show (0 : Int) < (Y.length : Int) + 1 by omega); omega
            have hcut := hyC.cutH j j hjl rfl
            have hcl : (Y.take j).length ≤ Y.length := by simp; omega
            unfold maxLen at gy2
            have i1 : IntKind.i64.wrap ((Y.length : Int) + 1) = (Y.length : Int) + 1 := IntWalk.i64_in _ (by omega)
            have i2 : IntKind.i64.wrap a5 = a5 := IntWalk.i64_in _ (by omega)
            have i3 : ¬ ((Y.length : Int) + 1 = 0) := by omega
            have i4 : (0 : Int) ≤ (j : Int) := by omega
            have i5 : (j : Int) ≤ (qy : Int) := by omega
            have HYC := Lib.hid hyC
            have HDC := Lib.hid hdC
            have HZC := Lib.hid hzC
            have HCC := Lib.hid hcut
            have HV1C := Lib.hid hv1C
            have HZL := Lib.hid hzl
            have HBC := Lib.hid bC
            have HCCC := Lib.hid cC
            clear hyC hdC hzC hcut hv1C hoz2 hbz2 pc1 pc2 bC cC hzl hoz hbz HY HV1 hs1 hs2 bY cY bA cA hbA
            go_wp2_with fail
            go_region_law (first
              | (refine step_appB rfl (.const (.slice none 0 0)) (.tmp 130) rfl wc.drew.heap.size _ (.slice none 0 0) (.slice Ay Y.length qy) [] Y ?_ ?_ (OB.nil _ _) HYC.out (by simp; omega) (Nat.le_refl _) ?_; go_simp; go_simp; intro v7 w7 ho7 hg7 hb7; rw [List.nil_append] at ho7; obtain ⟨A7, q7, rfl, _, _, -⟩ := ho7.bs.at_)
              | (refine step_appB rfl (.tmp 131) (.tmp 132) rfl wc.drew.heap.size _ _ (.slice a3 z3.length cap3) Y z3 ?_ ?_ ho7 (HDC.out.below hb7) (by omega) hb7.size ?_; go_simp; go_simp; intro v8 w8 ho8 hg8 hb8; obtain ⟨A8, q8, rfl, _, _, -⟩ := ho8.bs.at_))
            go_simp
            go_wp2_with fail
            have b78 := hb7.trans hb8
            have h8' : BS w8 w8.heap.size (.slice A8 (Y.length + z3.length) q8) (Y ++ z3) := by
              have h := ho8.bs
              rw [List.length_append] at h
              exact h
            have z8 := b78.size
            have hit := Items.five (w := w8) (most := 300) 22 (Nat.le_refl _) ((HDC.out.below b78).more z8) ((HYC.out.below b78).more z8) ((HZC.out.below b78).more z8) ((HCC.out.below b78).more z8) h8' (by omega) (by omega) (by rw [HZL.out]; omega) (by omega) (by simp; omega)
            have b9 : Below wc.heap.size wc (w8.alloc (.cells #[Value.slice a3 z3.length cap3, Value.slice Ay Y.length qy, Value.slice Az Y.length qz, Value.slice Ay j qy, Value.slice A8 (Y.length + z3.length) q8] 22)) := ((Below.refl _ _).drew.trans b78).alloc z8 _
            have z9 : (w8.alloc (.cells #[Value.slice a3 z3.length cap3, Value.slice Ay Y.length qy, Value.slice Az Y.length qz, Value.slice Ay j qy, Value.slice A8 (Y.length + z3.length) q8] 22)).heap.size = w8.heap.size + 1 := by simp
            generalize w8.alloc (.cells #[Value.slice a3 z3.length cap3, Value.slice Ay Y.length qy, Value.slice Az Y.length qz, Value.slice Ay j qy, Value.slice A8 (Y.length + z3.length) q8] 22) = w9 at *
            have hz9 : w8.heap.size < w9.heap.size := by omega
            have HIT := Lib.hid hit
            have HZ9 := Lib.hid z9
            have s9 := b9.size
            have hpb9 : pb < wc.heap.size := by omega
            have pc19 : w9.cell? ⟨pb, 0, none⟩ = some (Value.slice A1 l1.length q1) := (b9.cell (p := ⟨pb, 0, none⟩) hpb9).trans pc1C
            have pc29 : w9.cell? ⟨pb, 1, none⟩ = some (Value.slice A2 l2.length q2) := (b9.cell (p := ⟨pb, 1, none⟩) hpb9).trans pc2C
            have HV19 := Lib.hid ((HV1C.out.below b9).more s9)
            have HB9 := Lib.hid (HBC.out.trans (b9.mono HBC.out.size))
            have hpb9' : pb < w9.heap.size := by omega
            clear hit z9 h8' ho7 ho8 hg7 hg8 hb7 hb8 b78 z8 b9 pc1C pc2C hpb hpb9 HDC HYC HZC HCC HZL i1 i2 i3 i4 i5 hj hjl hcl
            generalize w8.heap.size = blk9 at *
            go_loopw [136] (fun i wr => CountRel 5 w9 i wr) (fun i _ => 5 - (intOf i).toNat)
            case atStart => exact ⟨0, by omega, rfl, Below.refl _ _⟩
            case round =>
              obtain ⟨k3, hk3, rfl, hbr3⟩ := hrel
              have hz3 := hbr3.size
              by_cases hlt3 : k3 < 5
              · obtain ⟨v3, l3, hc3, hv3, hl3⟩ := HIT.out.below hbr3 (by omega) hz9 k3 hlt3
                have hlt3' : (k3 : Int) < 5 := by omega
                obtain ⟨A3, q3, rfl, _, _, -⟩ := hv3.at_
                have hp2r : wr.cell? ⟨pb, 1, none⟩ = some (Value.slice A2 l2.length q2) := (hbr3.cell (p := ⟨pb, 1, none⟩) hpb9').trans pc29
                have HV3 := Lib.hid (hv3.more (B' := wr.heap.size) (by omega))
                clear hv3
                go_wp2_with fail
                have h33 := Three3.laid (w := wr) (x := a4) (y := (l2.length : Int)) (z := a5) 3 ⟨by omega, by omega⟩ ⟨by omega, by omega⟩ ⟨by omega, by omega⟩
                have bT := (Below.refl wr.heap.size wr).alloc (Nat.le_refl _) (.cells #[Value.int .i64 a4, Value.int .i64 (l2.length : Int), Value.int .i64 a5] 3)
                have zT : (wr.alloc (.cells #[Value.int .i64 a4, Value.int .i64 (l2.length : Int), Value.int .i64 a5] 3)).heap.size = wr.heap.size + 1 := by simp
                generalize wr.alloc (.cells #[Value.int .i64 a4, Value.int .i64 (l2.length : Int), Value.int .i64 a5] 3) = wT at *
                have hzT : wr.heap.size < wT.heap.size := by omega
                have H33 := Lib.hid h33
                have HZT := Lib.hid zT
                have HB3T := Lib.hid (hbr3.trans (bT.mono hz3))
                have sT := HB3T.out.size
                have hp1T : wT.cell? ⟨pb, 0, none⟩ = some (Value.slice A1 l1.length q1) := (HB3T.out.cell (p := ⟨pb, 0, none⟩) hpb9').trans pc19
                have HV3T := Lib.hid ((HV3.out.below bT).more bT.size)
                have HV1T := Lib.hid ((HV19.out.below HB3T.out).more sT)
                have hpbT : pb < wT.heap.size := by omega
                clear h33 bT zT hbr3 hp2r hc3 HV3
                generalize wr.heap.size = blkT at *
                go_loopw [148] (fun i wr => CountRel 3 wT i wr) (fun i _ => 3 - (intOf i).toNat)
                case atStart => exact ⟨0, by omega, rfl, Below.refl _ _⟩
                case round =>
                  obtain ⟨k4, hk4, rfl, hbr4⟩ := hrel
                  have hz4 := hbr4.size
                  by_cases hlt4 : k4 < 3
                  · obtain ⟨m, hc4, m2, m3⟩ := H33.out.below hbr4 hzT k4 hlt4
                    have hlt4' : (k4 : Int) < 3 := by omega
                    have hp1r : wr.cell? ⟨pb, 0, none⟩ = some (Value.slice A1 l1.length q1) := (hbr4.cell (p := ⟨pb, 0, none⟩) hpbT).trans hp1T
                    have hv1r := (HV1T.out.below hbr4).more hz4
                    have hv3r := (HV3T.out.below hbr4).more hz4
                    go_wp2_with fail
                    refine (apply_any _ _ l1 l3 m wr hv1r hv3r (by omega) (by omega) (by omega) (by omega)).mono ?_
                    rintro e wE ⟨vE, rfl, hE, hbE⟩
                    have hp1E : wE.cell? ⟨pb, 0, none⟩ = some (Value.slice A1 l1.length q1) := (hbE.cell (p := ⟨pb, 0, none⟩) (show pb < wr.heap.size by omega)).trans hp1r
                    have hv1E := (hv1r.below hbE).more hbE.size
                    have hv3E := (hv3r.below hbE).more hbE.size
                    have bE := hbr4.trans (hbE.mono hz4)
                    clear hp1r hv1r hv3r hbr4 hc4
                    go_wp2_with fail
                    refine (applyr_any _ _ l1 l3 m wE hv1E hv3E (by omega) (by omega) (by omega) (by omega)).mono ?_
                    rintro e wF ⟨vF, rfl, hF, hbF⟩
                    have hs1 := run_str ((hE.below hbF).more hbF.size)
                    have hs2 := run_str hF
                    have bF := bE.trans (hbF.mono bE.size)
                    clear hp1E hv1E hv3E hbF hbE hE hF bE
                    generalize (applyL l1 l3 m).1 = R1 at *
                    generalize (applyL l1 l3 m).2 = R2 at *
                    go_wp2
                    go_roundw
                    case rel => exact ⟨k4 + 1, by omega, by go_num, bF⟩
                    case measure => simp [intOf]; omega
                  · obtain rfl : k4 = 3 := by omega
                    go_wp2
                    go_roundw
                    case rel => exact ⟨k3 + 1, by omega, by go_num, HB3T.out.trans (hbr4.mono sT)⟩
                    case measure => simp [intOf]; omega
              · obtain rfl : k3 = 5 := by omega
                go_wp2
                go_roundw
                case rel => exact ⟨k + 1, by omega, by go_num, HB9.out.trans (hbr3.mono HB9.out.size)⟩
                case measure => simp [intOf]; omega
        · obtain rfl : k = 5 := by omega
          go_wp2
          go_ret
          exact ⟨rfl, cr⟩
end Go.Proofs.Ytmggknoaiaeojaa
