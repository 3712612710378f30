/- What is proved here: plain facts on a new screen that attributes are set on: what each number makes of the bits and the two colours, and what a letter then has; no program is named; the law ScreenLooks, called with any numbers, returns true and leaves alone whatever memory was there; for every input the law ScreenLooks answers true (what is printed has the attributes that were set, and they may be taken back); the table of spans lies as the text of the program lays it. -/
import Derived.Test.YtlolgfgcgfjdjaaGreatDoorS26
import Derived.Test.YtlolgfgcgfjdjaaGreatDoorS25
import Derived.Test.YtlolgfgcgfjdjaaGreatDoorRows
import Derived.Test.YtlolgfgcgfjdjaaGreatDoorCards
import Derived.Test.YtlolgfgcgfjdjaaGreatDoorTie
import Derived.Test.YtlolgfgcgfjdjaaGreatDoorS2
import Derived.SevenTiedAt
import Derived.WalkKit
import Derived.ProofKit
import Derived.OpenShut
import Derived.ShutString
import Derived.ChangeOld
import Derived.Below
namespace Go.Proofs.YtlolgfgcgfjdjaaGreatDoor
set_option linter.unusedVariables false
set_option linter.unusedSimpArgs false
set_option maxHeartbeats 400000
set_option maxRecDepth 100000
def lkBits (b k : Nat) : Nat :=
 if k = 0 then 0 else if k = 1 then b / 2 * 2 + 1 else if k = 22 then b / 2 * 2
 else if k = 4 then (if b / 2 % 2 = 0 then b + 2 else b) else if k = 24 then b - b / 2 % 2 * 2
 else if k = 7 then (if b / 4 % 2 = 0 then b + 4 else b) else if k = 27 then b - b / 4 % 2 * 4 else b
def lkFg (f k : Nat) : Nat := if k = 0 then 0 else if 30 ≤ k ∧ k ≤ 37 then k - 29 else if k = 39 then 0 else f
def lkBg (g k : Nat) : Nat := if k = 0 then 0 else if 40 ≤ k ∧ k ≤ 47 then k - 39 else if k = 49 then 0 else g
def attrV (b f g : Nat) : Nat := b + f * 16 + g * 256
theorem lookN_v (b f g k : Nat) (hb : b < 8) (hf : f ≤ 8) (hg : g ≤ 8) : lookN (attrV b f g) (k : Int) = attrV (lkBits b k) (lkFg f k) (lkBg g k) := by
 have d2 : attrV b f g % 2 = b % 2 := by unfold attrV; omega
 have d4 : attrV b f g / 2 % 2 = b / 2 % 2 := by unfold attrV; omega
 have d8 : attrV b f g / 4 % 2 = b / 4 % 2 := by unfold attrV; omega
 have df : attrV b f g / 16 % 16 = f := by unfold attrV; omega
 have dg : attrV b f g / 256 % 16 = g := by unfold attrV; omega
 unfold lookN
 rw [d2, d4, d8, df, dg]
 by_cases k0 : k = 0
 ·subst k0
  rw [if_pos (by omega)]
  show 0 = attrV (lkBits b 0) (lkFg f 0) (lkBg g 0)
  unfold attrV lkBits lkFg lkBg
  rw [if_pos rfl, if_pos rfl, if_pos rfl]
 by_cases k1 : k = 1
 ·subst k1
  rw [if_neg (by omega), if_pos (by omega)]
  show _ = attrV (b / 2 * 2 + 1) f g
  unfold attrV
  split <;> omega
 by_cases k4 : k = 4
 ·subst k4
  rw [if_neg (by omega), if_neg (by omega), if_pos (by omega)]
  show _ = attrV (if b / 2 % 2 = 0 then b + 2 else b) f g
  unfold attrV
  split <;> omega
 by_cases k7 : k = 7
 ·subst k7
  rw [if_neg (by omega), if_neg (by omega), if_neg (by omega), if_pos (by omega)]
  show _ = attrV (if b / 4 % 2 = 0 then b + 4 else b) f g
  unfold attrV
  split <;> omega
 by_cases k22 : k = 22
 ·subst k22
  rw [if_neg (by omega), if_neg (by omega), if_neg (by omega), if_neg (by omega), if_pos (by omega)]
  show _ = attrV (b / 2 * 2) f g
  unfold attrV
  omega
 by_cases k24 : k = 24
 ·subst k24
  rw [if_neg (by omega), if_neg (by omega), if_neg (by omega), if_neg (by omega), if_neg (by omega), if_pos (by omega)]
  show _ = attrV (b - b / 2 % 2 * 2) f g
  unfold attrV
  omega
 by_cases k27 : k = 27
 ·subst k27
  rw [if_neg (by omega), if_neg (by omega), if_neg (by omega), if_neg (by omega), if_neg (by omega), if_neg (by omega), if_pos (by omega)]
  show _ = attrV (b - b / 4 % 2 * 4) f g
  unfold attrV
  omega
 have hbits : lkBits b k = b := by
  unfold lkBits
  rw [if_neg k0, if_neg k1, if_neg k22, if_neg k4, if_neg k24, if_neg k7, if_neg k27]
 rw [hbits, if_neg (by omega), if_neg (by omega), if_neg (by omega), if_neg (by omega), if_neg (by omega), if_neg (by omega), if_neg (by omega)]
 unfold lkFg lkBg
 rw [if_neg k0, if_neg k0]
 by_cases h3 : 30 ≤ k ∧ k ≤ 37
 ·rw [if_pos (by omega), if_pos h3, if_neg (by omega), if_neg (by omega)]
  unfold attrV
  omega
 rw [if_neg (show ¬ (30 ≤ (k : Int) ∧ (k : Int) ≤ 37) by omega), if_neg h3]
 by_cases h39 : k = 39
 ·rw [if_pos (by omega), if_pos h39, if_neg (by omega), if_neg (by omega)]
  unfold attrV
  omega
 rw [if_neg (show ¬ ((k : Int) = 39) by omega), if_neg h39]
 by_cases h4 : 40 ≤ k ∧ k ≤ 47
 ·rw [if_pos (by omega), if_pos h4]
  unfold attrV
  omega
 rw [if_neg (show ¬ (40 ≤ (k : Int) ∧ (k : Int) ≤ 47) by omega), if_neg h4]
 by_cases h49 : k = 49
 ·rw [if_pos (by omega), if_pos h49]
  unfold attrV
  omega
 rw [if_neg (show ¬ ((k : Int) = 49) by omega), if_neg h49]
theorem lk_bd (b f g k : Nat) (hb : b < 8) (hf : f ≤ 8) (hg : g ≤ 8) : lkBits b k < 8 ∧ lkFg f k ≤ 8 ∧ lkBg g k ≤ 8 := by
 refine ⟨?_, ?_, ?_⟩
 ·unfold lkBits
  split
  ·omega
  ·split
   ·omega
   ·split
    ·omega
    ·split
     ·split <;> omega
     ·split
      ·omega
      ·split
       ·split <;> omega
       ·split <;> omega
 ·unfold lkFg; split <;> (try split) <;> (try split) <;> omega
 ·unfold lkBg; split <;> (try split) <;> (try split) <;> omega
def lkS (a : Nat) : Sc := { newS 2 5 with attr := a }
theorem lkS_next (a c : Nat) (hc : c < 100) : feedS (lkS a) [27, 91, digB (c / 10), digB (c % 10), 109] = lkS (lookN a (c : Int)) := by
 have h := feed_two (lkS a) rfl (c / 10) (c % 10) (by omega) (by omega) 109 (by decide) (by decide)
 rw [h, Nat.div_add_mod]
 rfl
theorem lkS_print (a : Nat) : (feedS (lkS a) [120]).cells.length = 10 ∧ getC (feedS (lkS a) [120]).cells 0 = ⟨120, a, 0⟩ := by
 have e : feedS (lkS a) [120] = (printS (lkS a) 120).par (prM 0) := by
  rw [feedS_acts]
  have : vtAll (lkS a).p [120] = (prM 0, [acP 120]) := by
   show ((vtL (prM 0) 120).1, [] ++ (vtL (prM 0) 120).2) = _
   rw [vtL_plain 120 (by decide) (by decide)]
   rfl
  rw [this]
  rfl
 have hw : widthL 120 = 1 := width_plain 120 (by omega) (by omega)
 have e2 : (printS (lkS a) 120).cells = mendL ((blankL 2 5).set 0 ⟨120, a, 0⟩) 5 0 := by
  unfold printS
  rw [hw, if_neg (by omega), if_neg (by omega)]
  rfl
 have hl : (blankL 2 5).length = 10 := by decide
 have hg : GOk ((blankL 2 5).set 0 ⟨120, a, 0⟩).length 2 5 := ⟨by omega, by omega, by omega, by omega, by rw [List.length_set, hl]⟩
 have e3 : mendL ((blankL 2 5).set 0 ⟨120, a, 0⟩) ((5 : Nat) : Int) ((0 : Nat) : Int) = (blankL 2 5).set 0 ⟨120, a, 0⟩ := by
  refine mendL_plain hg 0 (by omega) fun i => ?_
  have : (blankL 2 5).set 0 ⟨120, a, 0⟩ = ⟨120, a, 0⟩ :: List.replicate 9 blankC := rfl
  rw [this]
  cases i with
  | zero => rfl
  | succ i =>
   show (getC (List.replicate 9 blankC) i).h = 0
   by_cases hi : i < 9
   ·rw [show getC (List.replicate 9 blankC) i = blankC by unfold getC List.getD; rw [List.getElem?_replicate, if_pos hi]; rfl]
    rfl
   ·rw [getC_out (by simp; omega)]
    rfl
 have e4 : (feedS (lkS a) [120]).cells = (blankL 2 5).set 0 ⟨120, a, 0⟩ := by
  rw [e]
  show (printS (lkS a) 120).cells = _
  rw [e2]
  exact e3
 rw [e4]
 exact ⟨by rw [List.length_set, hl], rfl⟩
end Go.Proofs.YtlolgfgcgfjdjaaGreatDoor

namespace Go.Proofs.YtlolgfgcgfjdjaaGreatDoor
open Go.RowKit
set_option linter.unusedVariables false
set_option linter.unusedSimpArgs false
set_option maxHeartbeats 16000000
set_option maxRecDepth 100000
def LawLkRel (n : Nat) (w : World) (g : Nat) (i vb vf vg : Value) (wr : World) : Prop := ∃ j b f k : Nat, j ≤ n ∧ i = .int .i64 (j : Int) ∧ vb = .int .i64 (b : Int) ∧ vf = .int .i64 (f : Int) ∧ vg = .int .i64 (k : Int) ∧ b < 8 ∧ f ≤ 8 ∧ k ≤ 8 ∧ ∃ vc vt vo vp vi vu, One w wr g (lkS (attrV b f k)) 2 5 vc vt vo vp vi vu
theorem lkT1 : (List.range 8).all (fun b => bits BinOp.or IntKind.i64 (bits BinOp.andNot IntKind.i64 (b : Int) 1) 1 == (lkBits b 1 : Int)) = true := by kernel_rfl
theorem lkT22 : (List.range 8).all (fun b => bits BinOp.or IntKind.i64 (bits BinOp.andNot IntKind.i64 (b : Int) 1) 0 == (lkBits b 22 : Int)) = true := by kernel_rfl
theorem lkT4 : (List.range 8).all (fun b => bits BinOp.or IntKind.i64 (b : Int) 2 == (lkBits b 4 : Int)) = true := by kernel_rfl
theorem lkT24 : (List.range 8).all (fun b => bits BinOp.andNot IntKind.i64 (b : Int) 2 == (lkBits b 24 : Int)) = true := by kernel_rfl
theorem lkT7 : (List.range 8).all (fun b => bits BinOp.or IntKind.i64 (b : Int) 4 == (lkBits b 7 : Int)) = true := by kernel_rfl
theorem lkT27 : (List.range 8).all (fun b => bits BinOp.andNot IntKind.i64 (b : Int) 4 == (lkBits b 27 : Int)) = true := by kernel_rfl
theorem lkU {p : Nat → Bool} (h : (List.range 8).all p = true) (b : Nat) (hb : b < 8) : p b = true := List.all_eq_true.1 h b (List.mem_range.2 hb)
theorem lkS_one (b f k c : Nat) (hb : b < 8) (hf : f ≤ 8) (hk : k ≤ 8) (hc : c < 100) : feedS (lkS (attrV b f k)) [27, 91, digB (c / 10), digB (c % 10), 109] = lkS (attrV (lkBits b c) (lkFg f c) (lkBg k c)) := by rw [lkS_next _ _ hc, lookN_v b f k c hb hf hk]
def cOf (d e : Int) : Nat := 10 * (d - 48).toNat + (e - 48).toNat
theorem lk_feed {w W : World} {g b f k : Nat} {vc vt vo vp vi vu : Value} (d e : Int) (HO : One w W g (lkS (attrV b f k)) 2 5 vc vt vo vp vi vu) (hsp : Spans w) (hgb : 0 < w.heap.size) (d0 : 48 ≤ d) (d1 : d < 58) (e0 : 48 ≤ e) (e1 : e < 58) (hb : b < 8) (hf : f ≤ 8) (hk : k ≤ 8) :
  Calls Tryz.prog 17 #[.agg (vS (lkS (attrV b f k)) vc vt vo vp vi vu), .slice (some ⟨W.heap.size, 0, none⟩) 5 5] (W.alloc (.cells #[.int .u8 27, .int .u8 91, .int .u8 d, .int .u8 e, .int .u8 109] 5)) (FedOne w g (lkS (attrV (lkBits b (cOf d e)) (lkFg f (cOf d e)) (lkBg k (cOf d e)))) 2 5 (vS (lkS (attrV b f k)) vc vt vo vp vi vu)) := by
 obtain ⟨p, rfl⟩ : ∃ p : Nat, d = 48 + (p : Int) := ⟨(d - 48).toNat, by omega⟩
 obtain ⟨q, rfl⟩ : ∃ q : Nat, e = 48 + (q : Int) := ⟨(e - 48).toNat, by omega⟩
 have hc : cOf (48 + (p : Int)) (48 + (q : Int)) = 10 * p + q := by unfold cOf; omega
 have hp : vB (digB p) = .int .u8 (48 + (p : Int)) := by unfold vB; rw [digB_nat (by omega)]; simp
 have hq : vB (digB q) = .int .u8 (48 + (q : Int)) := by unfold vB; rw [digB_nat (by omega)]; simp
 have hlit : BS (W.alloc (.cells #[.int .u8 27, .int .u8 91, .int .u8 (48 + (p : Int)), .int .u8 (48 + (q : Int)), .int .u8 109] 5)) (W.alloc (.cells #[.int .u8 27, .int .u8 91, .int .u8 (48 + (p : Int)), .int .u8 (48 + (q : Int)), .int .u8 109] 5)).heap.size (.slice (some ⟨W.heap.size, 0, none⟩) 5 5) [27, 91, digB p, digB q, 109] :=
  (BS.lit W [27, 91, digB p, digB q, 109] 5 _ 5 rfl (by rw [← hp, ← hq]; rfl) (by simp)).more (by rw [alloc_size]; exact Nat.le_refl _)
 have h := HO.feed hsp hgb ((Below.refl _ _).alloc (Nat.le_refl _) _) hlit (by simp)
 have e := lkS_one b f k (10 * p + q) hb hf hk (by omega)
 rw [show (10 * p + q) / 10 = p by omega, show (10 * p + q) % 10 = q by omega] at e
 rw [e, ← hc] at h
 exact h
theorem screenLooks_walk (a0 : Option Addr) (len0 cap0 : Nat) (z0 : List UInt8) (w : World) (w0 : BS w w.heap.size (.slice a0 len0 cap0) z0) (hsp : Spans w) (hgb : 0 < w.heap.size) :
  Calls Tryz.prog 10 #[.slice a0 len0 cap0] w fun e w' => e = .returned (.bool true) ∧ Below w.heap.size w w' := by
 obtain ⟨_, _, hv0, -⟩ := w0.at_
 simp only [Value.slice.injEq] at hv0
 obtain ⟨-, rfl, -⟩ := hv0
 have W0B := Lib.hid w0
 clear w0
 have HSP := Lib.hid hsp
 have HGB := Lib.hid hgb
 have hk := knownS_any w hsp hgb
 clear hsp hgb
 by_cases t0 : 30 < (z0.length : Int)
 ·go_enter Tryz.func10, Tryz.ntmps10
  go_wp2_with (go_at_call 12; refine hk.mono ?_; rintro e wk ⟨rfl, hbk⟩)
  go_ret
  exact ⟨rfl, hbk⟩
 go_enter Tryz.func10, Tryz.ntmps10
 go_wp2_with fail
 refine hk.mono ?_
 rintro e w1 ⟨rfl, hb1⟩
 have HB1 := Lib.hid hb1
 clear hk hb1
 go_wp2_with fail
 refine (show Calls Tryz.prog 27 #[.int .i64 2, .int .i64 5] w1 (LaidOne w (newS 2 5) 2 5) from freshOne 2 5 w w1 HB1.out (by omega) (by omega) (by omega) (by omega)).mono ?_
 rintro e w2 ⟨uc, ut, uo, up, ui, uu, rfl, kz, onez, oz⟩
 rename_i K hK
 refine hK _ _ ?_
 clear hK K
 iterate 1 (refine wpList_plain rfl fun K hK => ?_; go_simp; refine hK _ _ ?_; clear hK K)
 refine wpl_storeS rfl (.tmp 3) (.tmp 15) rfl rfl rfl kz rfl rfl onez ?_
 generalize World.setRow _ _ _ = W0 at oz ⊢
 generalize w2.heap.size = g at oz ⊢
 have HO0 := Lib.hid oz
 clear kz onez oz
 go_simp
 go_wp2
 go_loopw [7, 4, 5, 6] (fun i vb vf vg wr => LawLkRel z0.length w g i vb vf vg wr) (fun i _ _ _ _ => z0.length - (intOf i).toNat)
 case atStart => exact ⟨0, 0, 0, 0, Nat.zero_le _, rfl, rfl, rfl, rfl, by omega, by omega, by omega, _, _, _, _, _, _, HO0.out⟩
 case round =>
  generalize wr = W5 at *
  obtain ⟨j, b, f, k, hj, rfl, rfl, rfl, rfl, hb8, hf8, hk8, zc, zt, zo, zp, zi, zu, ho⟩ := hrel
  have HO5 := Lib.hid ho
  clear ho HO0
  by_cases hlt : j < z0.length
  ·have hlt2 : (j : Int) < (z0.length : Int) := by omega
   have hbl := (W0B.out.below HO5.out.bel).cellC j hlt
   obtain ⟨ad, hAd, hcb⟩ := hbl
   unfold vB at hcb
   subst hAd
   have hx256 : (((z0[j]'hlt).toNat : Nat) : Int) < 256 := by have := (z0[j]'hlt).toNat_lt; omega
   have hx0 : (0 : Int) ≤ (((z0[j]'hlt).toNat : Nat) : Int) := by omega
   generalize (((z0[j]'hlt).toNat : Nat) : Int) = x at hcb hx256 hx0
   obtain ⟨q, hq⟩ : ∃ q : Int, x % 26 = q := ⟨_, rfl⟩
   have hbt1 : bits BinOp.or IntKind.i64 (bits BinOp.andNot IntKind.i64 (b : Int) 1) 1 = (lkBits b 1 : Int) := eq_of_beq (lkU lkT1 b hb8)
   have hbt22 : bits BinOp.or IntKind.i64 (bits BinOp.andNot IntKind.i64 (b : Int) 1) 0 = (lkBits b 22 : Int) := eq_of_beq (lkU lkT22 b hb8)
   have hbt4 : bits BinOp.or IntKind.i64 (b : Int) 2 = (lkBits b 4 : Int) := eq_of_beq (lkU lkT4 b hb8)
   have hbt24 : bits BinOp.andNot IntKind.i64 (b : Int) 2 = (lkBits b 24 : Int) := eq_of_beq (lkU lkT24 b hb8)
   have hbt7 : bits BinOp.or IntKind.i64 (b : Int) 4 = (lkBits b 7 : Int) := eq_of_beq (lkU lkT7 b hb8)
   have hbt27 : bits BinOp.andNot IntKind.i64 (b : Int) 4 = (lkBits b 27 : Int) := eq_of_beq (lkU lkT27 b hb8)
   rcases (show q = 0 ∨ q = 1 ∨ q = 2 ∨ q = 3 ∨ q = 4 ∨ q = 5 ∨ q = 6 ∨ q = 7 ∨ q = 8 ∨ q = 9 ∨ q = 10 ∨ q = 11 ∨ q = 12 ∨ q = 13 ∨ q = 14 ∨ q = 15 ∨ q = 16 ∨ q = 17 ∨ q = 18 ∨ q = 19 ∨ q = 20 ∨ q = 21 ∨ q = 22 ∨ q = 23 ∨ q = 24 ∨ q = 25 by omega) with rfl | rfl | rfl | rfl | rfl | rfl | rfl | rfl | rfl | rfl | rfl | rfl | rfl | rfl | rfl | rfl | rfl | rfl | rfl | rfl | rfl | rfl | rfl | rfl | rfl | rfl
   all_goals
    go_upto_region 12 with fail
    generalize hW : World.alloc W5 _ = W7
    have HO7 := Lib.hid (show One w W7 g (lkS (attrV b f k)) 2 5 zc zt zo zp zi zu from hW ▸ HO5.out.below ((Below.refl _ _).alloc (Nat.le_refl _) _))
    clear hq hW
    go_upto_region 32 with fail
    refine wp_region_lit ?_
    refine wpl_loadS rfl (.tmp 3) rfl rfl HO7.out.held.blk rfl ?_
    go_wp2_with fail
    refine (lk_feed _ _ HO7.out HSP.out HGB.out (by omega) (by omega) (by omega) (by omega) hb8 hf8 hk8).mono ?_
    rintro e wy ⟨yc, yt, yo, yp, yi, yu, rfl, ky, oney, oy⟩
    rename_i K hK
    refine hK _ _ ?_
    clear hK K
    refine wpl_storeS rfl (.tmp 3) (.tmp 102) rfl rfl rfl ky rfl rfl oney ?_
    generalize World.setRow _ _ _ = W6 at oy ⊢
    have HO6 := Lib.hid oy
    clear ky oney oy HO7
    go_simp
    go_wp2
    go_roundw
    case rel => exact ⟨j + 1, lkBits b _, lkFg f _, lkBg k _, hlt, by go_num, by rfl, by rfl, by rfl, (lk_bd b f k _ hb8 hf8 hk8).1, (lk_bd b f k _ hb8 hf8 hk8).2.1, (lk_bd b f k _ hb8 hf8 hk8).2.2, _, _, _, _, _, _, HO6.out⟩
    case measure => simp [intOf]; omega
  ·have hjn : j = z0.length := by omega
   have hpr := lkS_print (attrV b f k)
   have HPR := Lib.hid hpr
   clear hpr
   have hlit : BS (W5.alloc (.cells #[.int .u8 120] 5 (1, 2))) (W5.alloc (.cells #[.int .u8 120] 5 (1, 2))).heap.size (.slice (some ⟨W5.heap.size, 0, none⟩) 1 1) [120] :=
    (BS.litM W5 [120] 1 #[.int .u8 120] 5 (1, 2) rfl (by simp [vBs, vB]) (by simp)).more (by rw [alloc_size]; exact Nat.le_refl _)
   have HFy := Lib.hid (HO5.out.feed HSP.out HGB.out ((Below.refl _ _).alloc (Nat.le_refl _) _) hlit (by simp))
   clear hlit
   have hcv := Lib.run_convert_bytes_const (P := Tryz.prog) W5 22 5 #[.int .u8 120] 1 1 Tryz.underlying22 Tryz.underlying5
   go_upto_region 33 with fail
   refine wp_region_lit ?_
   refine wpl_loadS rfl (.tmp 3) rfl rfl HO5.out.held.blk rfl ?_
   go_wp2_with fail
   refine HFy.out.mono ?_
   rintro e wy ⟨yc, yt, yo, yp, yi, yu, rfl, ky, oney, oy⟩
   rename_i K hK
   refine hK _ _ ?_
   clear hK K
   refine wpl_storeS rfl (.tmp 3) (.tmp 106) rfl rfl rfl ky rfl rfl oney ?_
   generalize World.setRow _ _ _ = W6 at oy ⊢
   have HO6 := Lib.hid oy
   clear ky oney oy HFy hcv
   go_simp
   have HP6 := HPR
   generalize feedS (lkS (attrV b f k)) [120] = s6 at HO6 HP6
   obtain ⟨C1, k1, C2, k2, C3, k3, C4, k4, C5, k5, C6, k6, rfl, rfl, rfl, rfl, rfl, rfl⟩ := HO6.out.held.sl.forms
   have e2 : W6.cell? ⟨g, 2, none⟩ = some (.slice C1 s6.cells.length k1) := HO6.out.held.cell 2 rfl
   rw [HP6.out.1] at e2
   have HC := Lib.hid (HO6.out.held.sl.1.cs (B := W6.heap.size) (fun x hx => hx.1))
   obtain ⟨ad, hA, -, t0⟩ := HC.out.get 0 ⟨120, attrV b f k, 0⟩ (by rw [getC_of (by rw [HP6.out.1]; omega), HP6.out.2])
   subst hA
   have HBE := Lib.hid HO6.out.bel
   have t1 : W6.cell? ad = some (.int .i32 120) := by have h := t0.1; rw [Nat.zero_mul, kn_add0] at h; exact h
   have t2 : W6.cell? ⟨ad.block, ad.off + 1, none⟩ = some (.int .u16 ((b : Int) + (f : Int) * 16 + (k : Int) * 256)) := by
    have h := t0.2.1
    rw [Nat.zero_mul, kn_add0] at h
    rw [h]
    simp only [attrV]
    rw [show (((b + f * 16 + k * 256 : Nat)) : Int) = (b : Int) + (f : Int) * 16 + (k : Int) * 256 by omega]
   have t3 : W6.cell? ⟨ad.block, ad.off + 2, none⟩ = some (.int .u8 0) := by
    have h := t0.2.2
    rw [Nat.zero_mul, kn_add0] at h
    exact h
   have hb8' : (b : Int) < 8 := by omega
   have hf8' : (f : Int) ≤ 8 := by omega
   have hk8' : (k : Int) ≤ 8 := by omega
   clear t0 HC HP6 HO6
   go_wp2
   go_ret
   exact ⟨rfl, HBE.out⟩
end Go.Proofs.YtlolgfgcgfjdjaaGreatDoor

namespace Go.Proofs.YtlolgfgcgfjdjaaGreatDoor
open Go.ChangeShapes Go.WideShapes Go.ChangeAt Go.RowKit
open Go.ChangeMaps (open_string shut_string)
set_option linter.unusedVariables false
set_option linter.unusedSimpArgs false
set_option maxHeartbeats 400000
set_option maxRecDepth 100000
theorem screenLooks_own : ownKnob Tryz.prog.godebug = none := by kernel_rfl
theorem screenLooks_laidOut : laidOutB Tryz.prog = true := by kernel_rfl
theorem screenLooks_lifted (os : Os) (started : os.Started) (H : Type) (enc : TypeId × Value → H) :
  ReturnsInHanded {} Tryz.checked os 10 .any (fun w args => (Rows.screenLooksSpec.pre enc Tryz.prog Tryz.f10 [] false w args ∧ laidMetH Tryz.prog laidW w) ∧ sizedMet enc Tryz.prog Tryz.f10 (OpenSpec.ofChange Rows.screenLooksSpec) false w args)
   (Rows.screenLooksSpec.post enc Tryz.prog Tryz.f10 false true false false) := by
 refine returnsInHanded_of_change_and (C := Tryz.checked) (X := fun w _ => laidMetH Tryz.prog laidW w) (fun _ _ _ hh h => h.of_heap hh) screenLooks_own started (by kernel_rfl) Tryz.func10
  (ChangeSpec.witness_shaped (enc := enc) (C := Tryz.checked) (os := os) (X := fun w _ => laidMetH Tryz.prog laidW w) false (World.doorLaid Tryz.prog 400 os) #[.slice none 0 0] 8 rfl (World.shaped_of_RefB (by kernel_rfl) (by kernel_rfl)) (by kernel_rfl) (by kernel_rfl) (by kernel_rfl) (door_met os _)) ?_
 intro W base args ds gs before hval0 hW _ _ hL _
 have hval : ∀ (j : Nat) t v, Tryz.f10.params[j]? = some t → args[j]? = some v → Value.okWide Tryz.prog W .any base t v := hval0
 have hW' := hW
 obtain ⟨p, q, hA0, hV, rfl, hfz, hnd⟩ := hW
 have hA : DataW.TrodAll enc Tryz.prog W 0 (fun _ => true) true Tryz.f10.params.toList args.toList ds p := hA0
 rw [Tryz.params10] at hA hval
 obtain ⟨v0, vs0, d0, ds0, p0, q0, hargs, rfl, rfl, h0, r0⟩ := trodAll_cons hA
 obtain ⟨rfl, rfl, rfl⟩ := trodAll_nil r0
 obtain rfl : args = #[v0] := by cases args; simp_all
 obtain ⟨rfl, rfl⟩ := trodVars_none hV
 obtain ⟨a0, len0, cap0, rfl⟩ := okWide_slice Tryz.underlying22 (hval 0 22 v0 rfl rfl)
 have k0 := h0
 have lt0 : ∀ x ∈ p0, x.block < W.heap.size := by obtain ⟨m, hm⟩ := k0; exact DataW.trod_lt m _ _ _ hm
 obtain ⟨z0, w0⟩ : ∃ l, BS W W.heap.size (.slice a0 len0 cap0) l := by
  obtain ⟨fuel, hf⟩ := h0
  rcases open_ints Tryz.underlying22 Tryz.underlying5 (by kernel_rfl) hf with ⟨hcs, _⟩ | ⟨x, l, c, zs, hcs, _, hl, hm, hz, _, hcell, hwz⟩
  ·simp [Value.cells] at hcs
   obtain ⟨rfl, rfl, rfl⟩ := hcs
   exact ⟨[], BS.nil _ _⟩
  ·simp [Value.cells] at hcs
   obtain ⟨rfl, rfl, rfl⟩ := hcs
   exact bs_row hl hm (by simpa using hz) hcell hwz
 clear hA0 hval0
 obtain ⟨hsp, hgb⟩ := spans_of hL
 refine (screenLooks_walk a0 len0 cap0 z0 W w0 hsp hgb).mono fun e W' ⟨he, bel⟩ => ?_
 subst he
 exact ⟨_, rfl, _, _, _, [], _, [], hW', trodAll_mk1 (shut_bool Tryz.underlying4 _), (trodAll_cons_mk (Below.trod screenLooks_laidOut (by kernel_rfl) (of_decide_eq_true (by kernel_rfl)) k0 bel lt0) trodAll_mk0), rfl, bel.frame _, fun h => by cases h⟩
theorem screenLooks_over : Rows.screenLooksRow.holds Tryz.pinned (OpenSpec.ofChange Rows.screenLooksSpec) :=
 OpenClaim.holds_of_wide 10 Tryz.f10 rfl rfl rfl rfl rfl rfl rfl ⟨rfl, rfl, rfl, rfl, rfl⟩ rfl rfl rfl rfl rfl (by kernel_rfl) Tryz.func10 (by kernel_rfl)
  (of_decide_eq_true (by kernel_rfl)) (by unfold Func.isWrapper; first | (rw [if_pos (by decide +kernel)]; kernel_rfl) | (rw [if_neg (by decide +kernel)]; exact ⟨rfl, rfl⟩))
  (fun os started H enc _ => screenLooks_lifted os started H enc)
theorem screenLooks_card : Rows.ScreenLooksCardSaid :=
 Claim7.holds_tied_plain_at .later [] [.data] true Rows.screenLooksCard.stood.harness false
  screenLooks_over (fun _ h => by cases h) (by kernel_rfl) (fun _ h => by cases h) screenLooks_row_tie rfl ⟨rfl, rfl⟩ (by kernel_rfl) rfl
  (fun f fn hf hfn => by
   obtain rfl : f = 10 := Option.some.inj ((show Tryz.prog.funcNamed "reprise/repriselaw9.ScreenLooks" = some 10 by kernel_rfl).symm.trans hf) |>.symm
   obtain rfl : fn = Tryz.f10 := (Option.some.inj (Tryz.func10.symm.trans hfn)).symm
   exact ⟨by kernel_rfl, fun j t ht => by
    rw [Tryz.params10] at ht
    have hm : t ∈ [22] := by simpa using Array.mem_of_getElem? ht
    have hall : ([22].all fun u => !Tryz.prog.wantsStandIn u) = true := by kernel_rfl
    exact (show Tryz.prog.wantsStandIn t = false by simpa using List.all_eq_true.1 hall t hm)⟩)
  (by kernel_rfl)
#print axioms screenLooks_card
end Go.Proofs.YtlolgfgcgfjdjaaGreatDoor
