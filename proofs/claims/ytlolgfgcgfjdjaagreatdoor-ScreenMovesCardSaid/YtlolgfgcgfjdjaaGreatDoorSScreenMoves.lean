/- What is proved here: what the small operations of the laws of the screen answer: fields' addresses, loads, lengths, comparisons of a value with itself; the law ScreenMoves, called with any numbers, returns true and leaves alone whatever memory was there; for every input the law ScreenMoves answers true (the cursor goes as far as it may, and no farther); the table of spans lies as the text of the program lays it. -/
import Derived.Test.YtlolgfgcgfjdjaaGreatDoorS25
import Derived.Test.YtlolgfgcgfjdjaaGreatDoorS26
import Derived.Test.YtlolgfgcgfjdjaaGreatDoorRows
import Derived.Test.YtlolgfgcgfjdjaaGreatDoorCards
import Derived.Test.YtlolgfgcgfjdjaaGreatDoorTie
import Derived.Test.YtlolgfgcgfjdjaaGreatDoorS2
import Derived.SevenTiedAt
import Derived.WalkKit
import Derived.ProofKit
import Derived.OpenShut
import Derived.ShutString
import Derived.ChangeOld
import Derived.Below
namespace Go.Proofs.YtlolgfgcgfjdjaaGreatDoor
open Go.RowKit
set_option linter.unusedVariables false
set_option linter.unusedSimpArgs false
set_option maxHeartbeats 400000
set_option maxRecDepth 100000
section
variable {ρ : Operand → Value} {x y : Operand} {g : Nat}
end
theorem step_loadW {ops : Array Oper} {o : Oper} {a : Act} {w : World} {K : Act → World → Prop} {Q : Exit → Act → World → Prop} {E : Prop} (hgd : o.guard = none) (x : Operand) (ho : o.op = .load 31 x) {g : Nat} {xs : Array Value} (hx : a.eval x = .pointer (some ⟨g, 0, none⟩))
  (hg : w.heap[g]? = some (.cells xs 31)) (hn : xs.size = 24) (h : K (a.put o.dst (.agg xs)) w) : if Region.wanted o (yielded ops a.tmps) = true then Oper.wp Tryz.prog o a w K Q else E := by
 have hw : Region.wanted o (yielded ops a.tmps) = true := by simp [Region.wanted, hgd]
 rw [if_pos hw]
 unfold Oper.wp execOp
 simp only [ho, hx, Sem.run_bind, run_loadS hg hn, Result.andThen_ok, Sem.run_pure]
 exact h
theorem step_storeW {ops : Array Oper} {o : Oper} {a : Act} {w : World} {K : Act → World → Prop} {Q : Exit → Act → World → Prop} {E : Prop} (hgd : o.guard = none) (x y : Operand) (ho : o.op = .store 31 x y) {g : Nat} {old xs : Array Value} (hx : a.eval x = .pointer (some ⟨g, 0, none⟩)) (hy : a.eval y = .agg xs)
  (hg : w.heap[g]? = some (.cells old 31)) (ho2 : old.size = 24) (hn : xs.size = 24) (h1 : xs.all (·.oneCell') = true) (h : K (a.put o.dst undef) (w.setRow g xs)) : if Region.wanted o (yielded ops a.tmps) = true then Oper.wp Tryz.prog o a w K Q else E := by
 have hw : Region.wanted o (yielded ops a.tmps) = true := by simp [Region.wanted, hgd]
 rw [if_pos hw]
 unfold Oper.wp execOp
 simp only [ho, hx, hy, Sem.run_bind, run_storeS hg ho2 hn h1, Result.andThen_ok, Sem.run_pure]
 exact h
end Go.Proofs.YtlolgfgcgfjdjaaGreatDoor

namespace Go.Proofs.YtlolgfgcgfjdjaaGreatDoor
open Go.RowKit
set_option linter.unusedVariables false
set_option linter.unusedSimpArgs false
set_option maxHeartbeats 16000000
set_option maxRecDepth 100000
def MvRel (n r c : Nat) (w : World) (g : Nat) (i vy vx : Value) (wr : World) : Prop := ∃ j y x : Nat, j ≤ n ∧ i = .int .i64 (j : Int) ∧ vy = .int .i64 (y : Int) ∧ vx = .int .i64 (x : Int) ∧ y < r ∧ x < c ∧ ∃ vc vt vo vp vi vu, One w wr g (mvS r c (y : Int) (x : Int)) r c vc vt vo vp vi vu
theorem screenMoves_walk (a0 : Int) (a1 : Int) (a2 : Option Addr) (len2 cap2 : Nat) (z2 : List UInt8) (w : World) (w0 : (Lit.int .u8 a0).wf = true) (w1 : (Lit.int .u8 a1).wf = true) (w2 : BS w w.heap.size (.slice a2 len2 cap2) z2) (hsp : Spans w) (hgb : 0 < w.heap.size) :
  Calls Tryz.prog 8 #[.int .u8 a0, .int .u8 a1, .slice a2 len2 cap2] w fun e w' => e = .returned (.bool true) ∧ Below w.heap.size w w' := by
 obtain ⟨_, _, hv2, -⟩ := w2.at_
 simp only [Value.slice.injEq] at hv2
 obtain ⟨-, rfl, -⟩ := hv2
 have W2B := Lib.hid w2
 have hb0 := bounds_u8 w0
 have hb1 := bounds_u8 w1
 clear w0 w1 w2
 have HSP := Lib.hid hsp
 have HGB := Lib.hid hgb
 have hk := knownS_any w hsp hgb
 clear hsp hgb
 by_cases t0 : 40 < (z2.length : Int)
 ·go_enter Tryz.func8, Tryz.ntmps8
  go_wp2_with (go_at_call 12; refine hk.mono ?_; rintro e wk ⟨rfl, hbk⟩)
  go_ret
  exact ⟨rfl, hbk⟩
 obtain ⟨R, hR⟩ : ∃ R : Nat, a0 % 6 + 1 = (R : Int) := ⟨(a0 % 6 + 1).toNat, by omega⟩
 obtain ⟨C, hC⟩ : ∃ C : Nat, a1 % 9 + 1 = (C : Int) := ⟨(a1 % 9 + 1).toNat, by omega⟩
 have R1 : 1 ≤ R := by omega
 have R6 : R ≤ 6 := by omega
 have C1 : 1 ≤ C := by omega
 have C9 : C ≤ 9 := by omega
 go_enter Tryz.func8, Tryz.ntmps8
 go_wp2_with fail
 refine hk.mono ?_
 rintro e w1 ⟨rfl, hb1⟩
 have HB1 := Lib.hid hb1
 clear hk hb1
 go_wp2_with fail
 refine (freshOne R C w w1 HB1.out (by omega) (by omega) (by omega) (by omega)).mono ?_
 rintro e w2 ⟨uc, ut, uo, up, ui, uu, rfl, kz, onez, oz⟩
 rename_i K hK
 refine hK _ _ ?_
 clear hK K
 iterate 1 (refine wpList_plain rfl fun K hK => ?_; go_simp; refine hK _ _ ?_; clear hK K)
 refine wpl_storeS rfl (.tmp 9) (.tmp 29) rfl rfl rfl kz rfl rfl onez ?_
 generalize World.setRow _ _ _ = W0 at oz ⊢
 generalize w2.heap.size = g at oz ⊢
 have HO0 := Lib.hid oz
 clear kz onez oz
 go_simp
 clear hR hC
 go_wp2
 go_loopw [12, 10, 11] (fun i vy vx wr => MvRel z2.length R C w g i vy vx wr) (fun i _ _ _ => z2.length - (intOf i).toNat)
 case atStart => exact ⟨0, 0, 0, Nat.zero_le _, rfl, rfl, rfl, by omega, by omega, _, _, _, _, _, _, HO0.out⟩
 case round =>
  generalize wr = W5 at *
  obtain ⟨j, y, x, hj, rfl, rfl, rfl, hyR, hxC, zc, zt, zo, zp, zi, zu, ho⟩ := hrel
  have HO5 := Lib.hid ho
  clear ho HO0
  by_cases hlt : j < z2.length
  ·have hlt2 : (j : Int) < (z2.length : Int) := by omega
   obtain ⟨ad, hAd, hcb⟩ := (W2B.out.below HO5.out.bel).cellC j hlt
   unfold vB at hcb
   subst hAd
   obtain ⟨X, hX⟩ : ∃ X : Nat, (z2[j]'hlt).toNat = X := ⟨_, rfl⟩
   have hX256 : X < 256 := by rw [← hX]; exact (z2[j]'hlt).toNat_lt
   rw [hX] at hcb
   have HX := Lib.hid hX
   clear hX
   obtain ⟨P, hP⟩ : ∃ P : Nat, (X : Int) / 4 = (P : Int) := ⟨X / 4, by omega⟩
   obtain ⟨N, hN⟩ : ∃ N : Nat, (P : Int) % 10 = (N : Int) := ⟨P % 10, by omega⟩
   have hP64 : P < 64 := by omega
   have hN10 : N < 10 := by omega
   obtain ⟨M, hM⟩ : ∃ M : Nat, (if (N : Int) < 1 then 1 else (N : Int)) = (M : Int) := ⟨max N 1, by split <;> omega⟩
   have hMn : max N 1 = M := by split at hM <;> omega
   have hM1 : 1 ≤ M := by omega
   have hM10 : M < 10 := by omega
   have HMN := Lib.hid hMn
   clear hMn
   obtain ⟨J, hJ1⟩ : ∃ J : Nat, (X : Int) % 4 = (J : Int) := ⟨X % 4, by omega⟩
   have hJ4 : J < 4 := by omega
   have hJ4' : (J : Int) < 4 := by omega
   have hJ2 : (X : Int).tmod 4 = (J : Int) := by rw [Int.tmod_eq_emod_of_nonneg (by omega)]; exact hJ1
   have hbj : (((UInt8.ofNat (65 + J)).toNat : Nat) : Int) = 65 + (J : Int) := by simp only [UInt8.toNat_ofNat']; omega
   have HBJ := Lib.hid hbj
   clear hbj
   have HO5D := Lib.hid HO5.out.drew
   have HO5L := Lib.hid (HO5D.out.below ((Below.refl _ _).alloc (Nat.le_refl _) (.cells #[.int .u8 27, .int .u8 91, .int .u8 (48 + (N : Int)), .int .u8 (65 + (J : Int))] 5)))
   have hlit : BS (W5.drew.alloc (.cells #[.int .u8 27, .int .u8 91, .int .u8 (48 + (N : Int)), .int .u8 (65 + (J : Int))] 5)) (W5.drew.alloc (.cells #[.int .u8 27, .int .u8 91, .int .u8 (48 + (N : Int)), .int .u8 (65 + (J : Int))] 5)).heap.size (.slice (some ⟨W5.heap.size, 0, none⟩) 4 4) [27, 91, digB N, UInt8.ofNat (65 + J)] :=
    (BS.lit W5.drew [27, 91, digB N, UInt8.ofNat (65 + J)] 4 #[.int .u8 27, .int .u8 91, .int .u8 (48 + (N : Int)), .int .u8 (65 + (J : Int))] 5 rfl (by simp only [vBs, List.map_cons, List.map_nil, vB, digB_nat hN10, HBJ.out]; simp) (by simp)).more (by rw [alloc_size]; exact Nat.le_refl _)
   have HFv := Lib.hid (HO5D.out.feed HSP.out HGB.out ((Below.refl _ _).alloc (Nat.le_refl _) (.cells #[.int .u8 27, .int .u8 91, .int .u8 (48 + (N : Int)), .int .u8 (65 + (J : Int))] 5)) hlit (by simp))
   clear hlit
   have hcbd : W5.drew.cell? (ad.add j) = some (.int .u8 (X : Int)) := hcb
   go_wp2_with fail
   have w1i : IntKind.i64.wrap (48 + (N : Int)) = 48 + (N : Int) := by rw [IntKind.wrap_i64]; omega
   have w2i : IntKind.u8.wrap (48 + (N : Int)) = 48 + (N : Int) := by simp [IntKind.wrap, IntKind.signed, IntKind.bits] <;> omega
   refine wp_region_any (by kernel_rfl) ?_
   try (change wpAny _ _ _ _ _ _ _ (World.drew _))
   refine wpAny_take (i := 1) (v := .int .i64 (N : Int)) rfl (by kernel_rfl) (by kernel_rfl) (by kernel_rfl) (fun _ _ _ h => h) (Or.inl ⟨by rfl, fun w => by go_simp⟩) ?_
   go_simp
   refine wpAny_take (i := 2) (v := .int .i64 (48 + (N : Int))) rfl (by kernel_rfl) (by kernel_rfl) (by kernel_rfl) (fun _ _ _ h => h) (Or.inl ⟨by rfl, fun w => by go_simp⟩) ?_
   go_simp
   refine wpAny_take (i := 3) (v := .int .u8 (48 + (N : Int))) rfl (by kernel_rfl) (by kernel_rfl) (by kernel_rfl) (fun _ _ _ h => h) (Or.inl ⟨by rfl, fun w => by go_simp⟩) ?_
   go_simp
   refine wpAny_take (i := 4) (v := .slice (some ad) z2.length cap2) rfl (by kernel_rfl) (by kernel_rfl) (by kernel_rfl) (fun _ _ _ h => h) (Or.inl ⟨by rfl, fun w => by go_simp⟩) ?_
   go_simp
   refine wpAny_take (i := 5) (v := .int .i64 (j : Int)) rfl (by kernel_rfl) (by kernel_rfl) (by kernel_rfl) (fun _ _ _ h => h) (Or.inl ⟨by rfl, fun w => by go_simp⟩) ?_
   go_simp
   refine wpAny_take (i := 6) (v := .pointer (some (ad.add j))) rfl (by kernel_rfl) (by kernel_rfl) (by kernel_rfl) (fun _ _ _ h => h) (Or.inl ⟨by rfl, fun w => by go_simp⟩) ?_
   go_simp
   refine wpAny_ready (rs := [0, 7]) (by kernel_rfl) (by simp) ?_
   refine AllReady.cons rfl (fun K hK => ?_) (AllReady.cons rfl (fun K hK => ?_) AllReady.nil)
   ·refine step_loadW rfl (.tmp 9) rfl rfl HO5D.out.held.blk rfl ?_
    refine hK _ _ ?_
    clear hK K
    refine wpAny_ready (rs := [7]) (by kernel_rfl) (by simp) ?_
    refine AllReady.cons rfl (fun K hK => ?_) AllReady.nil
    go_simp
    refine hK _ _ ?_
    clear hK K
    refine wpAny_take (i := 8) (v := .int .u8 (J : Int)) rfl (by kernel_rfl) (by kernel_rfl) (by kernel_rfl) (fun _ _ _ h => h) (Or.inl ⟨by rfl, fun w => by go_simp⟩) ?_
    go_simp
    refine wpAny_take (i := 9) (v := .int .u8 (65 + (J : Int))) rfl (by kernel_rfl) (by kernel_rfl) (by kernel_rfl) (fun _ _ _ h => h) (Or.inl ⟨by rfl, fun w => by go_simp; rcases (show J = 0 ∨ J = 1 ∨ J = 2 ∨ J = 3 by omega) with rfl | rfl | rfl | rfl <;> rfl⟩) ?_
    go_simp
    refine wpAny_ready (rs := [10]) (by kernel_rfl) (by simp) ?_
    refine AllReady.cons rfl (fun K hK => ?_) AllReady.nil
    go_simp
    refine hK _ _ ?_
    clear hK K
    refine wpAny_ready (rs := [11]) (by kernel_rfl) (by simp) ?_
    refine AllReady.cons rfl (fun K hK => ?_) AllReady.nil
    go_simp
    refine HFv.out.mono ?_
    rintro e wv ⟨vc, vt, vo, vp, vi, vu, rfl, kv, onev, ov⟩
    refine hK _ _ ?_
    clear hK K
    refine wpAny_ready (rs := [12]) (by kernel_rfl) (by simp) ?_
    refine AllReady.cons rfl (fun K hK => ?_) AllReady.nil
    refine step_storeW rfl (.tmp 9) (.tmp 54) rfl rfl rfl kv rfl rfl onev ?_
    refine hK _ _ ?_
    clear hK K
    refine wpAny_done (by kernel_rfl) ?_ _
    generalize World.setRow _ _ _ = W6 at ov ⊢
    rw [mvS_next R C (y : Int) (x : Int) (by omega) (by omega) (by omega) (by omega) N J hN10 hJ4] at ov
    clear kv onev HFv
    go_simp
    have hcb6 : W6.cell? (ad.add j) = some (.int .u8 (X : Int)) := by
     obtain ⟨ad', hA', h⟩ := (W2B.out.below ov.bel).cellC j hlt
     cases hA'
     unfold vB at h
     rw [HX.out] at h
     exact h
    rcases (show J = 0 ∨ J = 1 ∨ J = 2 ∨ J = 3 by omega) with rfl | rfl | rfl | rfl
    ·have hJ1' : (X : Int) % 4 = 0 := hJ1
     obtain ⟨Y2, hY2⟩ : ∃ Y2 : Nat, (if (y : Int) - (M : Int) < 0 then 0 else (y : Int) - (M : Int)) = (Y2 : Int) := ⟨y - M, by split <;> omega⟩
     have hYb : Y2 < R := by split at hY2 <;> omega
     have hMN := HMN.out
     have hmy : mvY (R : Int) (y : Int) N 0 = (Y2 : Int) := by simp only [mvY, hMN]; simp only [if_true]; split at hY2 <;> omega
     have hmx : mvX (C : Int) (x : Int) N 0 = (x : Int) := by simp only [mvX, hMN]; rw [if_neg (by decide), if_neg (by decide)]
     rw [hmy, hmx] at ov
     have HO6 := Lib.hid ov
     clear hmy hmx hMN ov
     have e3 : W6.cell? ⟨g, 3, none⟩ = some (.int .i64 (Y2 : Int)) := HO6.out.held.cell 3 rfl
     have e4 : W6.cell? ⟨g, 4, none⟩ = some (.int .i64 (x : Int)) := HO6.out.held.cell 4 rfl
     go_wp2
     go_roundw
     case rel => exact ⟨j + 1, Y2, x, hlt, by go_num, rfl, rfl, by omega, by omega, _, _, _, _, _, _, HO6.out⟩
     case measure => simp [intOf]; omega
    ·have hJ1' : (X : Int) % 4 = 1 := hJ1
     obtain ⟨Y2, hY2⟩ : ∃ Y2 : Nat, (if (R : Int) - 1 < (y : Int) + (M : Int) then (R : Int) - 1 else (y : Int) + (M : Int)) = (Y2 : Int) := ⟨min (y + M) (R - 1), by split <;> omega⟩
     have hYb : Y2 < R := by split at hY2 <;> omega
     have hMN := HMN.out
     have hmy : mvY (R : Int) (y : Int) N 1 = (Y2 : Int) := by simp only [mvY, hMN]; rw [if_neg (by decide)]; simp only [if_true]; split at hY2 <;> omega
     have hmx : mvX (C : Int) (x : Int) N 1 = (x : Int) := by simp only [mvX, hMN]; rw [if_neg (by decide), if_neg (by decide)]
     rw [hmy, hmx] at ov
     have HO6 := Lib.hid ov
     clear hmy hmx hMN ov
     have e3 : W6.cell? ⟨g, 3, none⟩ = some (.int .i64 (Y2 : Int)) := HO6.out.held.cell 3 rfl
     have e4 : W6.cell? ⟨g, 4, none⟩ = some (.int .i64 (x : Int)) := HO6.out.held.cell 4 rfl
     go_wp2
     go_roundw
     case rel => exact ⟨j + 1, Y2, x, hlt, by go_num, rfl, rfl, by omega, by omega, _, _, _, _, _, _, HO6.out⟩
     case measure => simp [intOf]; omega
    ·have hJ1' : (X : Int) % 4 = 2 := hJ1
     obtain ⟨Y2, hY2⟩ : ∃ Y2 : Nat, (if (C : Int) - 1 < (x : Int) + (M : Int) then (C : Int) - 1 else (x : Int) + (M : Int)) = (Y2 : Int) := ⟨min (x + M) (C - 1), by split <;> omega⟩
     have hYb : Y2 < C := by split at hY2 <;> omega
     have hMN := HMN.out
     have hmy : mvY (R : Int) (y : Int) N 2 = (y : Int) := by simp only [mvY, hMN]; rw [if_neg (by decide), if_neg (by decide)]
     have hmx : mvX (C : Int) (x : Int) N 2 = (Y2 : Int) := by simp only [mvX, hMN]; simp only [if_true]; split at hY2 <;> omega
     rw [hmy, hmx] at ov
     have HO6 := Lib.hid ov
     clear hmy hmx hMN ov
     have e3 : W6.cell? ⟨g, 3, none⟩ = some (.int .i64 (y : Int)) := HO6.out.held.cell 3 rfl
     have e4 : W6.cell? ⟨g, 4, none⟩ = some (.int .i64 (Y2 : Int)) := HO6.out.held.cell 4 rfl
     go_wp2
     go_roundw
     case rel => exact ⟨j + 1, y, Y2, hlt, by go_num, rfl, rfl, by omega, by omega, _, _, _, _, _, _, HO6.out⟩
     case measure => simp [intOf]; omega
    ·have hJ1' : (X : Int) % 4 = 3 := hJ1
     obtain ⟨Y2, hY2⟩ : ∃ Y2 : Nat, (if (x : Int) - (M : Int) < 0 then 0 else (x : Int) - (M : Int)) = (Y2 : Int) := ⟨x - M, by split <;> omega⟩
     have hYb : Y2 < C := by split at hY2 <;> omega
     have hMN := HMN.out
     have hmy : mvY (R : Int) (y : Int) N 3 = (y : Int) := by simp only [mvY, hMN]; rw [if_neg (by decide), if_neg (by decide)]
     have hmx : mvX (C : Int) (x : Int) N 3 = (Y2 : Int) := by simp only [mvX, hMN]; rw [if_neg (by decide)]; simp only [if_true]; split at hY2 <;> omega
     rw [hmy, hmx] at ov
     have HO6 := Lib.hid ov
     clear hmy hmx hMN ov
     have e3 : W6.cell? ⟨g, 3, none⟩ = some (.int .i64 (y : Int)) := HO6.out.held.cell 3 rfl
     have e4 : W6.cell? ⟨g, 4, none⟩ = some (.int .i64 (Y2 : Int)) := HO6.out.held.cell 4 rfl
     go_wp2
     go_roundw
     case rel => exact ⟨j + 1, y, Y2, hlt, by go_num, rfl, rfl, by omega, by omega, _, _, _, _, _, _, HO6.out⟩
     case measure => simp [intOf]; omega
   ·go_simp
    refine hK _ _ ?_
    clear hK K
    refine wpAny_take (i := 8) (v := .int .u8 (J : Int)) rfl (by kernel_rfl) (by kernel_rfl) (by kernel_rfl) (fun _ _ _ h => h) (Or.inl ⟨by rfl, fun w => by go_simp⟩) ?_
    go_simp
    refine wpAny_take (i := 9) (v := .int .u8 (65 + (J : Int))) rfl (by kernel_rfl) (by kernel_rfl) (by kernel_rfl) (fun _ _ _ h => h) (Or.inl ⟨by rfl, fun w => by go_simp; rcases (show J = 0 ∨ J = 1 ∨ J = 2 ∨ J = 3 by omega) with rfl | rfl | rfl | rfl <;> rfl⟩) ?_
    go_simp
    refine wpAny_ready (rs := [0, 10]) (by kernel_rfl) (by simp) ?_
    refine AllReady.cons rfl (fun K hK => ?_) (AllReady.cons rfl (fun K hK => ?_) AllReady.nil)
    ·refine step_loadW rfl (.tmp 9) rfl rfl HO5D.out.held.blk rfl ?_
     refine hK _ _ ?_
     clear hK K
     refine wpAny_ready (rs := [10]) (by kernel_rfl) (by simp) ?_
     refine AllReady.cons rfl (fun K hK => ?_) AllReady.nil
     go_simp
     refine hK _ _ ?_
     clear hK K
     refine wpAny_ready (rs := [11]) (by kernel_rfl) (by simp) ?_
     refine AllReady.cons rfl (fun K hK => ?_) AllReady.nil
     go_simp
     refine HFv.out.mono ?_
     rintro e wv ⟨vc, vt, vo, vp, vi, vu, rfl, kv, onev, ov⟩
     refine hK _ _ ?_
     clear hK K
     refine wpAny_ready (rs := [12]) (by kernel_rfl) (by simp) ?_
     refine AllReady.cons rfl (fun K hK => ?_) AllReady.nil
     refine step_storeW rfl (.tmp 9) (.tmp 54) rfl rfl rfl kv rfl rfl onev ?_
     refine hK _ _ ?_
     clear hK K
     refine wpAny_done (by kernel_rfl) ?_ _
     generalize World.setRow _ _ _ = W6 at ov ⊢
     rw [mvS_next R C (y : Int) (x : Int) (by omega) (by omega) (by omega) (by omega) N J hN10 hJ4] at ov
     clear kv onev HFv
     go_simp
     have hcb6 : W6.cell? (ad.add j) = some (.int .u8 (X : Int)) := by
      obtain ⟨ad', hA', h⟩ := (W2B.out.below ov.bel).cellC j hlt
      cases hA'
      unfold vB at h
      rw [HX.out] at h
      exact h
     rcases (show J = 0 ∨ J = 1 ∨ J = 2 ∨ J = 3 by omega) with rfl | rfl | rfl | rfl
     ·have hJ1' : (X : Int) % 4 = 0 := hJ1
      obtain ⟨Y2, hY2⟩ : ∃ Y2 : Nat, (if (y : Int) - (M : Int) < 0 then 0 else (y : Int) - (M : Int)) = (Y2 : Int) := ⟨y - M, by split <;> omega⟩
      have hYb : Y2 < R := by split at hY2 <;> omega
      have hMN := HMN.out
      have hmy : mvY (R : Int) (y : Int) N 0 = (Y2 : Int) := by simp only [mvY, hMN]; simp only [if_true]; split at hY2 <;> omega
      have hmx : mvX (C : Int) (x : Int) N 0 = (x : Int) := by simp only [mvX, hMN]; rw [if_neg (by decide), if_neg (by decide)]
      rw [hmy, hmx] at ov
      have HO6 := Lib.hid ov
      clear hmy hmx hMN ov
      have e3 : W6.cell? ⟨g, 3, none⟩ = some (.int .i64 (Y2 : Int)) := HO6.out.held.cell 3 rfl
      have e4 : W6.cell? ⟨g, 4, none⟩ = some (.int .i64 (x : Int)) := HO6.out.held.cell 4 rfl
      go_wp2
      go_roundw
      case rel => exact ⟨j + 1, Y2, x, hlt, by go_num, rfl, rfl, by omega, by omega, _, _, _, _, _, _, HO6.out⟩
      case measure => simp [intOf]; omega
     ·have hJ1' : (X : Int) % 4 = 1 := hJ1
      obtain ⟨Y2, hY2⟩ : ∃ Y2 : Nat, (if (R : Int) - 1 < (y : Int) + (M : Int) then (R : Int) - 1 else (y : Int) + (M : Int)) = (Y2 : Int) := ⟨min (y + M) (R - 1), by split <;> omega⟩
      have hYb : Y2 < R := by split at hY2 <;> omega
      have hMN := HMN.out
      have hmy : mvY (R : Int) (y : Int) N 1 = (Y2 : Int) := by simp only [mvY, hMN]; rw [if_neg (by decide)]; simp only [if_true]; split at hY2 <;> omega
      have hmx : mvX (C : Int) (x : Int) N 1 = (x : Int) := by simp only [mvX, hMN]; rw [if_neg (by decide), if_neg (by decide)]
      rw [hmy, hmx] at ov
      have HO6 := Lib.hid ov
      clear hmy hmx hMN ov
      have e3 : W6.cell? ⟨g, 3, none⟩ = some (.int .i64 (Y2 : Int)) := HO6.out.held.cell 3 rfl
      have e4 : W6.cell? ⟨g, 4, none⟩ = some (.int .i64 (x : Int)) := HO6.out.held.cell 4 rfl
      go_wp2
      go_roundw
      case rel => exact ⟨j + 1, Y2, x, hlt, by go_num, rfl, rfl, by omega, by omega, _, _, _, _, _, _, HO6.out⟩
      case measure => simp [intOf]; omega
     ·have hJ1' : (X : Int) % 4 = 2 := hJ1
      obtain ⟨Y2, hY2⟩ : ∃ Y2 : Nat, (if (C : Int) - 1 < (x : Int) + (M : Int) then (C : Int) - 1 else (x : Int) + (M : Int)) = (Y2 : Int) := ⟨min (x + M) (C - 1), by split <;> omega⟩
      have hYb : Y2 < C := by split at hY2 <;> omega
      have hMN := HMN.out
      have hmy : mvY (R : Int) (y : Int) N 2 = (y : Int) := by simp only [mvY, hMN]; rw [if_neg (by decide), if_neg (by decide)]
      have hmx : mvX (C : Int) (x : Int) N 2 = (Y2 : Int) := by simp only [mvX, hMN]; simp only [if_true]; split at hY2 <;> omega
      rw [hmy, hmx] at ov
      have HO6 := Lib.hid ov
      clear hmy hmx hMN ov
      have e3 : W6.cell? ⟨g, 3, none⟩ = some (.int .i64 (y : Int)) := HO6.out.held.cell 3 rfl
      have e4 : W6.cell? ⟨g, 4, none⟩ = some (.int .i64 (Y2 : Int)) := HO6.out.held.cell 4 rfl
      go_wp2
      go_roundw
      case rel => exact ⟨j + 1, y, Y2, hlt, by go_num, rfl, rfl, by omega, by omega, _, _, _, _, _, _, HO6.out⟩
      case measure => simp [intOf]; omega
     ·have hJ1' : (X : Int) % 4 = 3 := hJ1
      obtain ⟨Y2, hY2⟩ : ∃ Y2 : Nat, (if (x : Int) - (M : Int) < 0 then 0 else (x : Int) - (M : Int)) = (Y2 : Int) := ⟨x - M, by split <;> omega⟩
      have hYb : Y2 < C := by split at hY2 <;> omega
      have hMN := HMN.out
      have hmy : mvY (R : Int) (y : Int) N 3 = (y : Int) := by simp only [mvY, hMN]; rw [if_neg (by decide), if_neg (by decide)]
      have hmx : mvX (C : Int) (x : Int) N 3 = (Y2 : Int) := by simp only [mvX, hMN]; rw [if_neg (by decide)]; simp only [if_true]; split at hY2 <;> omega
      rw [hmy, hmx] at ov
      have HO6 := Lib.hid ov
      clear hmy hmx hMN ov
      have e3 : W6.cell? ⟨g, 3, none⟩ = some (.int .i64 (y : Int)) := HO6.out.held.cell 3 rfl
      have e4 : W6.cell? ⟨g, 4, none⟩ = some (.int .i64 (Y2 : Int)) := HO6.out.held.cell 4 rfl
      go_wp2
      go_roundw
      case rel => exact ⟨j + 1, y, Y2, hlt, by go_num, rfl, rfl, by omega, by omega, _, _, _, _, _, _, HO6.out⟩
      case measure => simp [intOf]; omega
    ·go_simp
     refine hK _ _ ?_
     clear hK K
     refine wpAny_ready (rs := [0]) (by kernel_rfl) (by simp) ?_
     refine AllReady.cons rfl (fun K hK => ?_) AllReady.nil
     refine step_loadW rfl (.tmp 9) rfl rfl HO5L.out.held.blk rfl ?_
     refine hK _ _ ?_
     clear hK K
     refine wpAny_ready (rs := [11]) (by kernel_rfl) (by simp) ?_
     refine AllReady.cons rfl (fun K hK => ?_) AllReady.nil
     go_simp
     refine HFv.out.mono ?_
     rintro e wv ⟨vc, vt, vo, vp, vi, vu, rfl, kv, onev, ov⟩
     refine hK _ _ ?_
     clear hK K
     refine wpAny_ready (rs := [12]) (by kernel_rfl) (by simp) ?_
     refine AllReady.cons rfl (fun K hK => ?_) AllReady.nil
     refine step_storeW rfl (.tmp 9) (.tmp 54) rfl rfl rfl kv rfl rfl onev ?_
     refine hK _ _ ?_
     clear hK K
     refine wpAny_done (by kernel_rfl) ?_ _
     generalize World.setRow _ _ _ = W6 at ov ⊢
     rw [mvS_next R C (y : Int) (x : Int) (by omega) (by omega) (by omega) (by omega) N J hN10 hJ4] at ov
     clear kv onev HFv
     go_simp
     have hcb6 : W6.cell? (ad.add j) = some (.int .u8 (X : Int)) := by
      obtain ⟨ad', hA', h⟩ := (W2B.out.below ov.bel).cellC j hlt
      cases hA'
      unfold vB at h
      rw [HX.out] at h
      exact h
     rcases (show J = 0 ∨ J = 1 ∨ J = 2 ∨ J = 3 by omega) with rfl | rfl | rfl | rfl
     ·have hJ1' : (X : Int) % 4 = 0 := hJ1
      obtain ⟨Y2, hY2⟩ : ∃ Y2 : Nat, (if (y : Int) - (M : Int) < 0 then 0 else (y : Int) - (M : Int)) = (Y2 : Int) := ⟨y - M, by split <;> omega⟩
      have hYb : Y2 < R := by split at hY2 <;> omega
      have hMN := HMN.out
      have hmy : mvY (R : Int) (y : Int) N 0 = (Y2 : Int) := by simp only [mvY, hMN]; simp only [if_true]; split at hY2 <;> omega
      have hmx : mvX (C : Int) (x : Int) N 0 = (x : Int) := by simp only [mvX, hMN]; rw [if_neg (by decide), if_neg (by decide)]
      rw [hmy, hmx] at ov
      have HO6 := Lib.hid ov
      clear hmy hmx hMN ov
      have e3 : W6.cell? ⟨g, 3, none⟩ = some (.int .i64 (Y2 : Int)) := HO6.out.held.cell 3 rfl
      have e4 : W6.cell? ⟨g, 4, none⟩ = some (.int .i64 (x : Int)) := HO6.out.held.cell 4 rfl
      go_wp2
      go_roundw
      case rel => exact ⟨j + 1, Y2, x, hlt, by go_num, rfl, rfl, by omega, by omega, _, _, _, _, _, _, HO6.out⟩
      case measure => simp [intOf]; omega
     ·have hJ1' : (X : Int) % 4 = 1 := hJ1
      obtain ⟨Y2, hY2⟩ : ∃ Y2 : Nat, (if (R : Int) - 1 < (y : Int) + (M : Int) then (R : Int) - 1 else (y : Int) + (M : Int)) = (Y2 : Int) := ⟨min (y + M) (R - 1), by split <;> omega⟩
      have hYb : Y2 < R := by split at hY2 <;> omega
      have hMN := HMN.out
      have hmy : mvY (R : Int) (y : Int) N 1 = (Y2 : Int) := by simp only [mvY, hMN]; rw [if_neg (by decide)]; simp only [if_true]; split at hY2 <;> omega
      have hmx : mvX (C : Int) (x : Int) N 1 = (x : Int) := by simp only [mvX, hMN]; rw [if_neg (by decide), if_neg (by decide)]
      rw [hmy, hmx] at ov
      have HO6 := Lib.hid ov
      clear hmy hmx hMN ov
      have e3 : W6.cell? ⟨g, 3, none⟩ = some (.int .i64 (Y2 : Int)) := HO6.out.held.cell 3 rfl
      have e4 : W6.cell? ⟨g, 4, none⟩ = some (.int .i64 (x : Int)) := HO6.out.held.cell 4 rfl
      go_wp2
      go_roundw
      case rel => exact ⟨j + 1, Y2, x, hlt, by go_num, rfl, rfl, by omega, by omega, _, _, _, _, _, _, HO6.out⟩
      case measure => simp [intOf]; omega
     ·have hJ1' : (X : Int) % 4 = 2 := hJ1
      obtain ⟨Y2, hY2⟩ : ∃ Y2 : Nat, (if (C : Int) - 1 < (x : Int) + (M : Int) then (C : Int) - 1 else (x : Int) + (M : Int)) = (Y2 : Int) := ⟨min (x + M) (C - 1), by split <;> omega⟩
      have hYb : Y2 < C := by split at hY2 <;> omega
      have hMN := HMN.out
      have hmy : mvY (R : Int) (y : Int) N 2 = (y : Int) := by simp only [mvY, hMN]; rw [if_neg (by decide), if_neg (by decide)]
      have hmx : mvX (C : Int) (x : Int) N 2 = (Y2 : Int) := by simp only [mvX, hMN]; simp only [if_true]; split at hY2 <;> omega
      rw [hmy, hmx] at ov
      have HO6 := Lib.hid ov
      clear hmy hmx hMN ov
      have e3 : W6.cell? ⟨g, 3, none⟩ = some (.int .i64 (y : Int)) := HO6.out.held.cell 3 rfl
      have e4 : W6.cell? ⟨g, 4, none⟩ = some (.int .i64 (Y2 : Int)) := HO6.out.held.cell 4 rfl
      go_wp2
      go_roundw
      case rel => exact ⟨j + 1, y, Y2, hlt, by go_num, rfl, rfl, by omega, by omega, _, _, _, _, _, _, HO6.out⟩
      case measure => simp [intOf]; omega
     ·have hJ1' : (X : Int) % 4 = 3 := hJ1
      obtain ⟨Y2, hY2⟩ : ∃ Y2 : Nat, (if (x : Int) - (M : Int) < 0 then 0 else (x : Int) - (M : Int)) = (Y2 : Int) := ⟨x - M, by split <;> omega⟩
      have hYb : Y2 < C := by split at hY2 <;> omega
      have hMN := HMN.out
      have hmy : mvY (R : Int) (y : Int) N 3 = (y : Int) := by simp only [mvY, hMN]; rw [if_neg (by decide), if_neg (by decide)]
      have hmx : mvX (C : Int) (x : Int) N 3 = (Y2 : Int) := by simp only [mvX, hMN]; rw [if_neg (by decide)]; simp only [if_true]; split at hY2 <;> omega
      rw [hmy, hmx] at ov
      have HO6 := Lib.hid ov
      clear hmy hmx hMN ov
      have e3 : W6.cell? ⟨g, 3, none⟩ = some (.int .i64 (y : Int)) := HO6.out.held.cell 3 rfl
      have e4 : W6.cell? ⟨g, 4, none⟩ = some (.int .i64 (Y2 : Int)) := HO6.out.held.cell 4 rfl
      go_wp2
      go_roundw
      case rel => exact ⟨j + 1, y, Y2, hlt, by go_num, rfl, rfl, by omega, by omega, _, _, _, _, _, _, HO6.out⟩
      case measure => simp [intOf]; omega
  ·have hjn : j = z2.length := by omega
   subst hjn
   obtain ⟨D1, k1, D2, k2, D3, k3, D4, k4, D5, k5, D6, k6, rfl, rfl, rfl, rfl, rfl, rfl⟩ := HO5.out.held.sl.forms
   have hle : R * C ≤ 6 * 9 := Nat.mul_le_mul R6 C9
   obtain ⟨E, hEn⟩ : ∃ E : Nat, R * C = E := ⟨_, rfl⟩
   have hE : (R : Int) * (C : Int) = (E : Int) := by rw [← hEn, Int.natCast_mul]
   have e2 : W5.cell? ⟨g, 2, none⟩ = some (.slice D1 (mvS R C (y : Int) (x : Int)).cells.length k1) := HO5.out.held.cell 2 rfl
   rw [show (mvS R C (y : Int) (x : Int)).cells.length = E from HO5.out.inn.g.n.trans hEn] at e2
   have hE54 : (E : Int) ≤ 54 := by omega
   have HBE := Lib.hid HO5.out.bel
   clear hle hEn HO5 hlt hj
   go_wp2
   go_ret
   exact ⟨rfl, HBE.out⟩
end Go.Proofs.YtlolgfgcgfjdjaaGreatDoor

namespace Go.Proofs.YtlolgfgcgfjdjaaGreatDoor
open Go.ChangeShapes Go.WideShapes Go.ChangeAt Go.RowKit
open Go.ChangeMaps (open_string shut_string)
set_option linter.unusedVariables false
set_option linter.unusedSimpArgs false
set_option maxHeartbeats 400000
set_option maxRecDepth 100000
theorem screenMoves_own : ownKnob Tryz.prog.godebug = none := by kernel_rfl
theorem screenMoves_laidOut : laidOutB Tryz.prog = true := by kernel_rfl
theorem screenMoves_lifted (os : Os) (started : os.Started) (H : Type) (enc : TypeId × Value → H) :
  ReturnsInHanded {} Tryz.checked os 8 .any (fun w args => (Rows.screenMovesSpec.pre enc Tryz.prog Tryz.f8 [] false w args ∧ laidMetH Tryz.prog laidW w) ∧ sizedMet enc Tryz.prog Tryz.f8 (OpenSpec.ofChange Rows.screenMovesSpec) false w args)
   (Rows.screenMovesSpec.post enc Tryz.prog Tryz.f8 false true false false) := by
 refine returnsInHanded_of_change_and (C := Tryz.checked) (X := fun w _ => laidMetH Tryz.prog laidW w) (fun _ _ _ hh h => h.of_heap hh) screenMoves_own started (by kernel_rfl) Tryz.func8
  (ChangeSpec.witness_shaped (enc := enc) (C := Tryz.checked) (os := os) (X := fun w _ => laidMetH Tryz.prog laidW w) false (World.doorLaid Tryz.prog 400 os) #[.int .u8 0, .int .u8 0, .slice none 0 0] 8 rfl (World.shaped_of_RefB (by kernel_rfl) (by kernel_rfl)) (by kernel_rfl) (by kernel_rfl) (by kernel_rfl) (door_met os _)) ?_
 intro W base args ds gs before hval0 hW _ _ hL _
 have hval : ∀ (j : Nat) t v, Tryz.f8.params[j]? = some t → args[j]? = some v → Value.okWide Tryz.prog W .any base t v := hval0
 have hW' := hW
 obtain ⟨p, q, hA0, hV, rfl, hfz, hnd⟩ := hW
 have hA : DataW.TrodAll enc Tryz.prog W 0 (fun _ => true) true Tryz.f8.params.toList args.toList ds p := hA0
 rw [Tryz.params8] at hA hval
 obtain ⟨v0, vs0, d0, ds0, p0, q0, hargs, rfl, rfl, h0, r0⟩ := trodAll_cons hA
 obtain ⟨v1, vs1, d1, ds1, p1, q1, rfl, rfl, rfl, h1, r1⟩ := trodAll_cons r0
 obtain ⟨v2, vs2, d2, ds2, p2, q2, rfl, rfl, rfl, h2, r2⟩ := trodAll_cons r1
 obtain ⟨rfl, rfl, rfl⟩ := trodAll_nil r2
 obtain rfl : args = #[v0, v1, v2] := by cases args; simp_all
 obtain ⟨rfl, rfl⟩ := trodVars_none hV
 obtain ⟨a0, rfl, rfl, rfl, w0⟩ := open_int Tryz.underlying5 (hval 0 5 v0 rfl rfl) h0
 obtain ⟨a1, rfl, rfl, rfl, w1⟩ := open_int Tryz.underlying5 (hval 1 5 v1 rfl rfl) h1
 obtain ⟨a2, len2, cap2, rfl⟩ := okWide_slice Tryz.underlying22 (hval 2 22 v2 rfl rfl)
 have k2 := h2
 have lt2 : ∀ x ∈ p2, x.block < W.heap.size := by obtain ⟨m, hm⟩ := k2; exact DataW.trod_lt m _ _ _ hm
 obtain ⟨z2, w2⟩ : ∃ l, BS W W.heap.size (.slice a2 len2 cap2) l := by
  obtain ⟨fuel, hf⟩ := h2
  rcases open_ints Tryz.underlying22 Tryz.underlying5 (by kernel_rfl) hf with ⟨hcs, _⟩ | ⟨x, l, c, zs, hcs, _, hl, hm, hz, _, hcell, hwz⟩
  ·simp [Value.cells] at hcs
   obtain ⟨rfl, rfl, rfl⟩ := hcs
   exact ⟨[], BS.nil _ _⟩
  ·simp [Value.cells] at hcs
   obtain ⟨rfl, rfl, rfl⟩ := hcs
   exact bs_row hl hm (by simpa using hz) hcell hwz
 clear hA0 hval0
 obtain ⟨hsp, hgb⟩ := spans_of hL
 refine (screenMoves_walk a0 a1 a2 len2 cap2 z2 W w0 w1 w2 hsp hgb).mono fun e W' ⟨he, bel⟩ => ?_
 subst he
 exact ⟨_, rfl, _, _, _, [], _, [], hW', trodAll_mk1 (shut_bool Tryz.underlying4 _), (trodAll_cons_mk (shut_int Tryz.underlying5 w0) (trodAll_cons_mk (shut_int Tryz.underlying5 w1) (trodAll_cons_mk (Below.trod screenMoves_laidOut (by kernel_rfl) (of_decide_eq_true (by kernel_rfl)) k2 bel lt2) trodAll_mk0))), rfl, bel.frame _, fun h => by cases h⟩
theorem screenMoves_over : Rows.screenMovesRow.holds Tryz.pinned (OpenSpec.ofChange Rows.screenMovesSpec) :=
 OpenClaim.holds_of_wide 8 Tryz.f8 rfl rfl rfl rfl rfl rfl rfl ⟨rfl, rfl, rfl, rfl, rfl⟩ rfl rfl rfl rfl rfl (by kernel_rfl) Tryz.func8 (by kernel_rfl)
  (of_decide_eq_true (by kernel_rfl)) (by unfold Func.isWrapper; first | (rw [if_pos (by decide +kernel)]; kernel_rfl) | (rw [if_neg (by decide +kernel)]; exact ⟨rfl, rfl⟩))
  (fun os started H enc _ => screenMoves_lifted os started H enc)
theorem screenMoves_card : Rows.ScreenMovesCardSaid :=
 Claim7.holds_tied_plain_at .later [] [.data] true Rows.screenMovesCard.stood.harness false
  screenMoves_over (fun _ h => by cases h) (by kernel_rfl) (fun _ h => by cases h) screenMoves_row_tie rfl ⟨rfl, rfl⟩ (by kernel_rfl) rfl
  (fun f fn hf hfn => by
   obtain rfl : f = 8 := Option.some.inj ((show Tryz.prog.funcNamed "reprise/repriselaw9.ScreenMoves" = some 8 by kernel_rfl).symm.trans hf) |>.symm
   obtain rfl : fn = Tryz.f8 := (Option.some.inj (Tryz.func8.symm.trans hfn)).symm
   exact ⟨by kernel_rfl, fun j t ht => by
    rw [Tryz.params8] at ht
    have hm : t ∈ [5, 5, 22] := by simpa using Array.mem_of_getElem? ht
    have hall : ([5, 5, 22].all fun u => !Tryz.prog.wantsStandIn u) = true := by kernel_rfl
    exact (show Tryz.prog.wantsStandIn t = false by simpa using List.all_eq_true.1 hall t hm)⟩)
  (by kernel_rfl)
#print axioms screenMoves_card
end Go.Proofs.YtlolgfgcgfjdjaaGreatDoor
