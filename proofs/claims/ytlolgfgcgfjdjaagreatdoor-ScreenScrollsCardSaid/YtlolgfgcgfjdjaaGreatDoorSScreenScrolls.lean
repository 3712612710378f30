/- What is proved here: plain facts on a screen of six numbered rows: what a region makes of it, what each LF at its end makes of it; no program is named; the law ScreenScrolls, called with any numbers, returns true and leaves alone whatever memory was there; for every input the law ScreenScrolls answers true (lines go up, and within a region the others stay); the table of spans lies as the text of the program lays it. -/
import Derived.Test.YtlolgfgcgfjdjaaGreatDoorS26
import Derived.Test.YtlolgfgcgfjdjaaGreatDoorS25
import Derived.Test.YtlolgfgcgfjdjaaGreatDoorRows
import Derived.Test.YtlolgfgcgfjdjaaGreatDoorCards
import Derived.Test.YtlolgfgcgfjdjaaGreatDoorTie
import Derived.Test.YtlolgfgcgfjdjaaGreatDoorS2
import Derived.SevenTiedAt
import Derived.WalkKit
import Derived.ProofKit
import Derived.OpenShut
import Derived.ShutString
import Derived.ChangeOld
import Derived.Below
namespace Go.Proofs.YtlolgfgcgfjdjaaGreatDoor
set_option linter.unusedVariables false
set_option linter.unusedSimpArgs false
set_option maxHeartbeats 400000
set_option maxRecDepth 100000
def sixB : List UInt8 := [49, 13, 10, 50, 13, 10, 51, 13, 10, 52, 13, 10, 53, 13, 10, 54]
def numR (y : Nat) : List Cl := [⟨(49 + y : Nat), 0, 0⟩, blankC, blankC, blankC]
def sixC : List Cl := numR 0 ++ numR 1 ++ numR 2 ++ numR 3 ++ numR 4 ++ numR 5
def sixS : Sc := { newS 6 4 with cells := sixC, y := 5, x := 1 }
theorem sixS_of : feedS (newS 6 4) sixB = sixS := by kernel_rfl
theorem sixC_get (y : Nat) (hy : y < 6) : getC sixC (y * 4 + 0) = ⟨(49 + y : Nat), 0, 0⟩ := by
 have h : y = 0 ∨ y = 1 ∨ y = 2 ∨ y = 3 ∨ y = 4 ∨ y = 5 := by omega
 rcases h with rfl | rfl | rfl | rfl | rfl | rfl <;> rfl
def twoA (n m : Int) (b : Nat) : Ac := ⟨3, 0, b, 0, [n, m], []⟩
theorem mv_semi (q : Pr) (n : Int) (hm : q.mode = 4) (hq : q.params = [n]) : vtL q 59 = ({ q with params := [n, 0] }, []) := by
 have h0 : ¬ (q.mode = 0 ∧ 0 < q.utf.length) := by omega
 have hn : (59 : UInt8).toNat = 59 := rfl
 unfold vtL
 rw [if_neg h0]
 unfold vtN
 rw [if_neg (by omega), if_neg (by omega), if_neg (by omega), if_neg (by omega), if_neg (by omega), if_neg (by omega), if_neg (by omega)]
 unfold vtM
 rw [if_neg (by omega), if_neg (by omega), if_neg (by omega), if_neg (by omega)]
 unfold csiL
 rw [hq, if_neg (by omega), if_neg (by decide), if_neg (by omega), if_neg (by omega), if_pos (by omega)]
 rfl
theorem vtAll_semi (n m : Nat) (h : n < 10) (hm : m < 10) (b : UInt8) (h1 : 64 ≤ b.toNat) (h2 : b.toNat < 127) : vtAll (prM 0) [27, 91, digB n, 59, digB m, b] = (prM 0, [twoA (n : Int) (m : Int) b.toNat]) := by
 unfold vtAll
 simp only [List.foldl_cons, List.foldl_nil, mv_esc, mv_csi]
 rw [mv_dig (prM 4) n h rfl]
 simp only []
 have e : digP (oneP (prM 4).params) (48 + n) = [(n : Int)] := by
  show [min (10 * 0 + (((48 + n : Nat) : Int) - 48)) 65535] = _
  congr 1
  omega
 rw [e, mv_semi _ (n : Int) rfl rfl]
 simp only []
 rw [mv_dig _ m hm rfl]
 simp only []
 rw [mv_fin _ b rfl h1 h2]
 have e2 : digP (oneP [(n : Int), 0]) (48 + m) = [(n : Int), (m : Int)] := by
  show [(n : Int), min (10 * 0 + (((48 + m : Nat) : Int) - 48)) 65535] = _
  congr 2
  omega
 simp only [List.append_nil, List.nil_append]
 rw [e2]
 rfl
def regS (a b : Nat) : Sc := if a < b then { sixS with top := (a : Int) - 1, bottom := (b : Int) - 1, y := 0, x := 0 } else sixS
theorem regS_of (a b : Nat) (a1 : 1 ≤ a) (a6 : a ≤ 6) (b1 : 1 ≤ b) (b6 : b ≤ 6) : feedS sixS [27, 91, digB a, 59, digB b, 114] = regS a b := by
 rw [feedS_acts]
 show ((vtAll (prM 0) _).2.foldl doS sixS).par (vtAll (prM 0) _).1 = _
 rw [vtAll_semi a b (by omega) (by omega) 114 (by decide) (by decide)]
 show (seqS sixS 114 [(a : Int), (b : Int)]).par (prM 0) = _
 have e0 : paramL [(a : Int), (b : Int)] 0 1 = a := by show (if (a : Int) = 0 then (1 : Int) else a) = _; rw [if_neg (by omega)]
 have e1 : paramL [(a : Int), (b : Int)] 1 6 = b := by show (if (b : Int) = 0 then (6 : Int) else b) = _; rw [if_neg (by omega)]
 have e2 : min (b : Int) 6 = b := by omega
 show (if paramL [(a : Int), (b : Int)] 0 1 - 1 < min (paramL [(a : Int), (b : Int)] 1 6) 6 - 1 then ({ toS sixS 0 0 with top := paramL [(a : Int), (b : Int)] 0 1 - 1, bottom := min (paramL [(a : Int), (b : Int)] 1 6) 6 - 1 } : Sc) else sixS).par (prM 0) = _
 rw [e0, e1, e2]
 unfold regS
 by_cases h : a < b
 ·rw [if_pos (by omega), if_pos h]
  rfl
 ·rw [if_neg (by omega), if_neg h]
  rfl
def upN (a b : Nat) : Nat → List Cl
 | 0 => sixC
 | j + 1 => upL (upN a b j) 4 ((a : Int) - 1) ((b : Int) - 1) 1
def endS (a b j : Nat) : Sc := { sixS with top := (a : Int) - 1, bottom := (b : Int) - 1, y := (b : Int) - 1, x := 0, cells := upN a b j }
theorem endS_of (a b : Nat) (a1 : 1 ≤ a) (hab : a < b) (b6 : b ≤ 6) : feedS (regS a b) [27, 91, digB b, 72] = endS a b 0 := by
 have hp : (regS a b).p = prM 0 := by unfold regS; rw [if_pos hab]; rfl
 rw [feed_one (regS a b) hp b (by omega) 72 (by decide) (by decide)]
 show (toS (regS a b) (paramL [(b : Int)] 0 1 - 1) (paramL [(b : Int)] 1 1 - 1)).par (prM 0) = _
 rw [param_one, show (max b 1 : Nat) = b by omega, show paramL [(b : Int)] 1 1 = 1 from rfl]
 unfold regS
 rw [if_pos hab]
 unfold toS endS
 have e1 : min (max ((b : Int) - 1) 0) ((6 : Int) - 1) = (b : Int) - 1 := by omega
 show ({ sixS with top := (a : Int) - 1, bottom := (b : Int) - 1, y := min (max ((b : Int) - 1) 0) ((6 : Int) - 1), x := 0, wrap := false } : Sc) = _
 rw [e1]
 rfl
theorem endS_next (a b j : Nat) : stepS (endS a b j) 10 = endS a b (j + 1) := by
 show (downS (endS a b j)).par (prM 0) = _
 unfold downS
 rw [if_pos (show (endS a b j).y = (endS a b j).bottom from rfl)]
 rfl
theorem upN_len (a b j : Nat) : (upN a b j).length = 24 := by
 induction j with
 | zero => rfl
 | succ j ih => show (upL _ _ _ _ _).length = 24; rw [upL_len]; exact ih
theorem upN_get (a b : Nat) (a1 : 1 ≤ a) (hab : a < b) (b6 : b ≤ 6) (j : Nat) : ∀ y, y < 6 → getC (upN a b j) (y * 4 + 0) = if a - 1 ≤ y ∧ y ≤ b - 1 then (if y + j ≤ b - 1 then ⟨(49 + (y + j) : Nat), 0, 0⟩ else blankC) else ⟨(49 + y : Nat), 0, 0⟩ := by
 induction j with
 | zero =>
  intro y hy
  show getC sixC (y * 4 + 0) = _
  rw [sixC_get y hy]
  split
  ·rw [if_pos (by omega)]; rfl
  ·rfl
 | succ j ih =>
  intro y hy
  have hg : GOk (upN a b j).length 6 4 := ⟨by omega, by omega, by omega, by omega, upN_len a b j⟩
  have h := upL_getC hg (a - 1) (b - 1) 1 (by omega) (by omega) y 0 hy (by omega)
  have ea : ((a - 1 : Nat) : Int) = (a : Int) - 1 := by omega
  have eb : ((b - 1 : Nat) : Int) = (b : Int) - 1 := by omega
  rw [ea, eb] at h
  show getC (upL (upN a b j) ((4 : Nat) : Int) ((a : Int) - 1) ((b : Int) - 1) 1) (y * 4 + 0) = _
  rw [h]
  have ec : capN 1 = 1 := rfl
  rw [ec]
  by_cases hy1 : a - 1 ≤ y ∧ y ≤ b - 1
  ·rw [if_pos hy1, if_pos hy1]
   by_cases hy2 : y + 1 ≤ b - 1
   ·rw [if_pos hy2, ih (y + 1) (by omega), if_pos (by omega)]
    by_cases hy3 : y + (j + 1) ≤ b - 1
    ·rw [if_pos (by omega), if_pos hy3, show y + 1 + j = y + (j + 1) by omega]
    ·rw [if_neg (by omega), if_neg hy3]
   ·rw [if_neg hy2, if_neg (by omega)]
  ·rw [if_neg hy1, if_neg hy1, ih y hy, if_neg hy1]
end Go.Proofs.YtlolgfgcgfjdjaaGreatDoor

namespace Go.Proofs.YtlolgfgcgfjdjaaGreatDoor
open Go.RowKit
set_option linter.unusedVariables false
set_option linter.unusedSimpArgs false
set_option maxHeartbeats 4000000
set_option maxRecDepth 100000
def ScrRel (A B M : Nat) (w : World) (g : Nat) (i : Value) (wr : World) : Prop := ∃ j : Nat, j ≤ M ∧ i = .int .i64 (j : Int) ∧ ∃ vc vt vo vp vi vu, One w wr g (endS A B j) 6 4 vc vt vo vp vi vu
theorem screenScrolls_walk (a0 : Int) (a1 : Int) (a2 : Int) (w0 : (Lit.int .u8 a0).wf = true) (w1 : (Lit.int .u8 a1).wf = true) (w2 : (Lit.int .u8 a2).wf = true) (w : World) (hsp : Spans w) (hgb : 0 < w.heap.size) :
  Calls Tryz.prog 7 #[.int .u8 a0, .int .u8 a1, .int .u8 a2] w fun e w' => e = .returned (.bool true) ∧ Below w.heap.size w w' := by
 have hb0 := bounds_u8 w0
 have hb1 := bounds_u8 w1
 have hb2 := bounds_u8 w2
 clear w0 w1 w2
 have HSP := Lib.hid hsp
 have HGB := Lib.hid hgb
 have hk := knownS_any w hsp hgb
 clear hsp hgb
 obtain ⟨A, hA⟩ : ∃ A : Nat, a1 % 6 + 1 = (A : Int) := ⟨(a1 % 6 + 1).toNat, by omega⟩
 obtain ⟨B, hB⟩ : ∃ B : Nat, a2 % 6 + 1 = (B : Int) := ⟨(a2 % 6 + 1).toNat, by omega⟩
 have A1 : 1 ≤ A := by omega
 have A6 : A ≤ 6 := by omega
 have B1 : 1 ≤ B := by omega
 have B6 : B ≤ 6 := by omega
 go_enter Tryz.func7, Tryz.ntmps7
 go_wp2_with fail
 refine hk.mono ?_
 rintro e w1 ⟨rfl, hb1⟩
 have HB1 := Lib.hid hb1
 clear hk hb1
 go_wp2_with fail
 refine (show Calls Tryz.prog 27 #[.int .i64 6, .int .i64 4] w1 (LaidOne w (newS 6 4) 6 4) from freshOne 6 4 w w1 HB1.out (by omega) (by omega) (by omega) (by omega)).mono ?_
 rintro e w2 ⟨uc, ut, uo, up, ui, uu, rfl, kz, onez, oz⟩
 rename_i K hK
 refine hK _ _ ?_
 clear hK K
 iterate 1 (refine wpList_plain rfl fun K hK => ?_; go_simp; refine hK _ _ ?_; clear hK K)
 refine wpl_storeS rfl (.tmp 7) (.tmp 16) rfl rfl rfl kz rfl rfl onez ?_
 generalize World.setRow _ _ _ = W0 at oz ⊢
 generalize w2.heap.size = g at oz ⊢
 have HO0 := Lib.hid oz
 clear kz onez oz
 go_simp
 have hlit : BS (W0.alloc (.cells #[.int .u8 49, .int .u8 13, .int .u8 10, .int .u8 50, .int .u8 13, .int .u8 10, .int .u8 51, .int .u8 13, .int .u8 10, .int .u8 52, .int .u8 13, .int .u8 10, .int .u8 53, .int .u8 13, .int .u8 10, .int .u8 54] 5 (16, 17))) (W0.alloc (.cells #[.int .u8 49, .int .u8 13, .int .u8 10, .int .u8 50, .int .u8 13, .int .u8 10, .int .u8 51, .int .u8 13, .int .u8 10, .int .u8 52, .int .u8 13, .int .u8 10, .int .u8 53, .int .u8 13, .int .u8 10, .int .u8 54] 5 (16, 17))).heap.size (.slice (some ⟨W0.heap.size, 0, none⟩) 16 16) sixB :=
  (BS.litM W0 sixB 16 #[.int .u8 49, .int .u8 13, .int .u8 10, .int .u8 50, .int .u8 13, .int .u8 10, .int .u8 51, .int .u8 13, .int .u8 10, .int .u8 52, .int .u8 13, .int .u8 10, .int .u8 53, .int .u8 13, .int .u8 10, .int .u8 54] 5 (16, 17) rfl (by simp [sixB, vBs, vB]) (by simp [sixB])).more (by rw [alloc_size]; exact Nat.le_refl _)
 have HFx := Lib.hid (HO0.out.feed HSP.out HGB.out ((Below.refl _ _).alloc (Nat.le_refl _) _) hlit (by simp [sixB]))
 clear hlit
 have hcv := Lib.run_convert_bytes_const (P := Tryz.prog) W0 22 5 #[.int .u8 49, .int .u8 13, .int .u8 10, .int .u8 50, .int .u8 13, .int .u8 10, .int .u8 51, .int .u8 13, .int .u8 10, .int .u8 52, .int .u8 13, .int .u8 10, .int .u8 53, .int .u8 13, .int .u8 10, .int .u8 54] 16 16 Tryz.underlying22 Tryz.underlying5
 go_upto_region 5 with fail
 refine wp_region_lit ?_
 refine wpl_loadS rfl (.tmp 7) rfl rfl HO0.out.held.blk rfl ?_
 go_wp2_with fail
 refine HFx.out.mono ?_
 rintro e wx ⟨xc, xt, xo, xp, xi, xu, rfl, kx, onex, ox⟩
 rename_i K hK
 refine hK _ _ ?_
 clear hK K
 refine wpl_storeS rfl (.tmp 7) (.tmp 28) rfl rfl rfl kx rfl rfl onex ?_
 generalize World.setRow _ _ _ = W1 at ox ⊢
 rw [sixS_of] at ox
 have HO1 := Lib.hid ox
 clear kx onex ox HFx hcv
 go_simp
 have hlit : BS (W1.alloc (.cells #[.int .u8 27, .int .u8 91, .int .u8 (48 + (A : Int)), .int .u8 59, .int .u8 (48 + (B : Int)), .int .u8 114] 5)) (W1.alloc (.cells #[.int .u8 27, .int .u8 91, .int .u8 (48 + (A : Int)), .int .u8 59, .int .u8 (48 + (B : Int)), .int .u8 114] 5)).heap.size (.slice (some ⟨W1.heap.size, 0, none⟩) 6 6) [27, 91, digB A, 59, digB B, 114] :=
  (BS.lit W1 [27, 91, digB A, 59, digB B, 114] 6 #[.int .u8 27, .int .u8 91, .int .u8 (48 + (A : Int)), .int .u8 59, .int .u8 (48 + (B : Int)), .int .u8 114] 5 rfl (by simp [vBs, vB, digB_nat (show A < 10 by omega), digB_nat (show B < 10 by omega)]) (by simp)).more (by rw [alloc_size]; exact Nat.le_refl _)
 have HFy := Lib.hid (HO1.out.feed HSP.out HGB.out ((Below.refl _ _).alloc (Nat.le_refl _) _) hlit (by simp))
 clear hlit
 go_upto_region 6 with fail
 refine wp_region_lit ?_
 refine wpl_loadS rfl (.tmp 7) rfl rfl HO1.out.held.blk rfl ?_
 go_wp2_with fail
 refine HFy.out.mono ?_
 rintro e wy ⟨yc, yt, yo, yp, yi, yu, rfl, ky, oney, oy⟩
 rename_i K hK
 refine hK _ _ ?_
 clear hK K
 refine wpl_storeS rfl (.tmp 7) (.tmp 37) rfl rfl rfl ky rfl rfl oney ?_
 generalize World.setRow _ _ _ = W2 at oy ⊢
 rw [regS_of A B A1 A6 B1 B6] at oy
 have HO2 := Lib.hid oy
 clear ky oney oy HFy
 go_simp
 clear hA hB
 by_cases hab : A < B
 rotate_left
 ·have hab2 : (B : Int) ≤ (A : Int) := by omega
  have ho := HO2.out
  rw [show regS A B = sixS from if_neg hab] at ho
  have e7 : W2.cell? ⟨g, 7, none⟩ = some (.int .i64 0) := ho.held.cell 7 rfl
  have e8 : W2.cell? ⟨g, 8, none⟩ = some (.int .i64 5) := ho.held.cell 8 rfl
  have e3 : W2.cell? ⟨g, 3, none⟩ = some (.int .i64 5) := ho.held.cell 3 rfl
  have e4 : W2.cell? ⟨g, 4, none⟩ = some (.int .i64 1) := ho.held.cell 4 rfl
  have HB2 := Lib.hid ho.bel
  clear ho
  go_wp2
  go_ret
  exact ⟨rfl, HB2.out⟩
 have hab2 : ¬ (B : Int) ≤ (A : Int) := by omega
 have hlit : BS (W2.alloc (.cells #[.int .u8 27, .int .u8 91, .int .u8 (48 + (B : Int)), .int .u8 72] 5)) (W2.alloc (.cells #[.int .u8 27, .int .u8 91, .int .u8 (48 + (B : Int)), .int .u8 72] 5)).heap.size (.slice (some ⟨W2.heap.size, 0, none⟩) 4 4) [27, 91, digB B, 72] :=
  (BS.lit W2 [27, 91, digB B, 72] 4 #[.int .u8 27, .int .u8 91, .int .u8 (48 + (B : Int)), .int .u8 72] 5 rfl (by simp [vBs, vB, digB_nat (show B < 10 by omega)]) (by simp)).more (by rw [alloc_size]; exact Nat.le_refl _)
 have HFz := Lib.hid (HO2.out.feed HSP.out HGB.out ((Below.refl _ _).alloc (Nat.le_refl _) _) hlit (by simp))
 clear hlit
 go_upto_region 9 with fail
 refine wp_region_lit ?_
 refine wpl_loadS rfl (.tmp 7) rfl rfl HO2.out.held.blk rfl ?_
 go_wp2_with fail
 refine HFz.out.mono ?_
 rintro e wz ⟨zc, zt, zo, zp, zi, zu, rfl, kz, onez, oz⟩
 rename_i K hK
 refine hK _ _ ?_
 clear hK K
 refine wpl_storeS rfl (.tmp 7) (.tmp 64) rfl rfl rfl kz rfl rfl onez ?_
 generalize World.setRow _ _ _ = W3 at oz ⊢
 rw [endS_of A B A1 hab B6] at oz
 have HO3 := Lib.hid oz
 clear kz onez oz HFz
 go_simp
 obtain ⟨M, hM⟩ : ∃ M : Nat, a0 % 8 = (M : Int) := ⟨(a0 % 8).toNat, by omega⟩
 have M8 : M < 8 := by omega
 go_upto_region 11 with fail
 try simp only [hM]
 clear hM
 go_wp2
 go_loopw [11] (fun i wr => ScrRel A B M w g i wr) (fun i _ => M - (intOf i).toNat)
 case atStart => exact ⟨0, Nat.zero_le _, rfl, _, _, _, _, _, _, HO3.out⟩
 case round =>
  generalize wr = W5 at *
  obtain ⟨j, hj, rfl, zc, zt, zo, zp, zi, zu, ho⟩ := hrel
  have HO5 := Lib.hid ho
  clear ho HO3
  by_cases hlt : j < M
  ·have hlt2 : (j : Int) < (M : Int) := by omega
   have hlit : BS (W5.alloc (.cells #[.int .u8 10] 5)) (W5.alloc (.cells #[.int .u8 10] 5)).heap.size (.slice (some ⟨W5.heap.size, 0, none⟩) 1 1) [10] :=
    (BS.lit W5 [10] 1 #[.int .u8 10] 5 rfl (by simp [vBs, vB]) (by simp)).more (by rw [alloc_size]; exact Nat.le_refl _)
   have HFy := Lib.hid (HO5.out.feed HSP.out HGB.out ((Below.refl _ _).alloc (Nat.le_refl _) _) hlit (by simp))
   clear hlit
   go_upto_region 14 with fail
   refine wp_region_lit ?_
   refine wpl_loadS rfl (.tmp 7) rfl rfl HO5.out.held.blk rfl ?_
   go_wp2_with fail
   refine HFy.out.mono ?_
   rintro e wy ⟨yc, yt, yo, yp, yi, yu, rfl, ky, oney, oy⟩
   rename_i K hK
   refine hK _ _ ?_
   clear hK K
   refine wpl_storeS rfl (.tmp 7) (.tmp 75) rfl rfl rfl ky rfl rfl oney ?_
   generalize World.setRow _ _ _ = W6 at oy ⊢
   rw [show feedS (endS A B j) [10] = endS A B (j + 1) from endS_next A B j] at oy
   have HO6 := Lib.hid oy
   clear ky oney oy HFy
   go_simp
   go_wp2
   go_roundw
   case rel => exact ⟨j + 1, hlt, by go_num, _, _, _, _, _, _, HO6.out⟩
   case measure => simp [intOf]; omega
  ·have hjM : j = M := by omega
   subst hjM
   obtain ⟨C1, k1, C2, k2, C3, k3, C4, k4, C5, k5, C6, k6, rfl, rfl, rfl, rfl, rfl, rfl⟩ := HO5.out.held.sl.forms
   have e2 : W5.cell? ⟨g, 2, none⟩ = some (.slice C1 (endS A B j).cells.length k1) := HO5.out.held.cell 2 rfl
   rw [show (endS A B j).cells.length = 24 from upN_len A B j] at e2
   have e3 : W5.cell? ⟨g, 3, none⟩ = some (.int .i64 ((B : Int) - 1)) := HO5.out.held.cell 3 rfl
   have HC := Lib.hid (HO5.out.held.sl.1.cs (B := W5.heap.size) (fun x hx => hx.1))
   have HBE := Lib.hid HO5.out.bel
   clear HO5 hlt hj
   go_wp2
   go_loopw [12] (fun i wr => ∃ y : Nat, y ≤ 6 ∧ i = .int .i64 (y : Int) ∧ wr = W5) (fun i _ => 6 - (intOf i).toNat)
   case atStart => exact ⟨0, Nat.zero_le _, rfl, rfl⟩
   case round =>
    obtain ⟨y, hy, rfl, rfl⟩ := hrel
    by_cases hl6 : y < 6
    ·have hl6' : (y : Int) < 6 := by omega
     have hget := upN_get A B A1 hab B6 j y hl6
     have hidx : y * 4 + 0 < (upN A B j).length := by rw [upN_len]; omega
     obtain ⟨P, hP⟩ : ∃ P : Nat, (4 : Int) * (y : Int) = (P : Int) := ⟨4 * y, by omega⟩
     have hPn : P = y * 4 + 0 := by omega
     have hP24 : (P : Int) < 24 := by omega
     obtain ⟨ad, hA, -, t0⟩ := HC.out.get P _ (by rw [hPn]; exact getC_of hidx)
     have t1 : wr.cell? (ad.add (P * 3)) = some (.int .i32 (getC (upN A B j) (y * 4 + 0)).r) := t0.1
     subst hA
     clear t0 hPn hidx
     by_cases c1 : A - 1 ≤ y ∧ y ≤ B - 1
     ·have d1 : (A : Int) - 1 ≤ (y : Int) := by omega
      have d2 : (y : Int) ≤ (B : Int) - 1 := by omega
      by_cases c3 : y + j ≤ B - 1
      ·have d3 : (y : Int) + (j : Int) ≤ (B : Int) - 1 := by omega
       rw [hget, if_pos c1, if_pos c3] at t1
       simp only at t1
       rw [show ((49 + (y + j) : Nat) : Int) = 49 + (y : Int) + (j : Int) by omega] at t1
       clear hget
       go_wp2
       go_roundw
       case rel => exact ⟨y + 1, hl6, by go_num, by simp⟩
       case measure => simp [intOf]; omega
      ·have d3 : (B : Int) - 1 < (y : Int) + (j : Int) := by omega
       rw [hget, if_pos c1, if_neg c3] at t1
       simp only [blankC] at t1
       clear hget
       go_wp2
       go_roundw
       case rel => exact ⟨y + 1, hl6, by go_num, by simp⟩
       case measure => simp [intOf]; omega
     ·rw [hget, if_neg c1] at t1
      simp only at t1
      rw [show ((49 + y : Nat) : Int) = 49 + (y : Int) by omega] at t1
      by_cases d1 : (A : Int) - 1 ≤ (y : Int)
      ·have d2 : (B : Int) - 1 < (y : Int) := by omega
       clear hget
       go_wp2
       go_roundw
       case rel => exact ⟨y + 1, hl6, by go_num, by simp⟩
       case measure => simp [intOf]; omega
      ·have d1' : (y : Int) < (A : Int) - 1 := by omega
       clear hget
       go_wp2
       go_roundw
       case rel => exact ⟨y + 1, hl6, by go_num, by simp⟩
       case measure => simp [intOf]; omega
    ·have hy6 : y = 6 := by omega
     subst hy6
     go_wp2
     go_ret
     exact ⟨rfl, HBE.out⟩
end Go.Proofs.YtlolgfgcgfjdjaaGreatDoor

namespace Go.Proofs.YtlolgfgcgfjdjaaGreatDoor
open Go.ChangeShapes Go.WideShapes Go.ChangeAt Go.RowKit
open Go.ChangeMaps (open_string shut_string)
set_option linter.unusedVariables false
set_option linter.unusedSimpArgs false
set_option maxHeartbeats 400000
set_option maxRecDepth 100000
theorem screenScrolls_own : ownKnob Tryz.prog.godebug = none := by kernel_rfl
theorem screenScrolls_lifted (os : Os) (started : os.Started) (H : Type) (enc : TypeId × Value → H) :
  ReturnsInHanded {} Tryz.checked os 7 .any (fun w args => (Rows.screenScrollsSpec.pre enc Tryz.prog Tryz.f7 [] false w args ∧ laidMetH Tryz.prog laidW w) ∧ sizedMet enc Tryz.prog Tryz.f7 (OpenSpec.ofChange Rows.screenScrollsSpec) false w args)
   (Rows.screenScrollsSpec.post enc Tryz.prog Tryz.f7 false true false false) := by
 refine returnsInHanded_of_change_and (C := Tryz.checked) (X := fun w _ => laidMetH Tryz.prog laidW w) (fun _ _ _ hh h => h.of_heap hh) screenScrolls_own started (by kernel_rfl) Tryz.func7
  (ChangeSpec.witness_shaped (enc := enc) (C := Tryz.checked) (os := os) (X := fun w _ => laidMetH Tryz.prog laidW w) false (World.doorLaid Tryz.prog 400 os) #[.int .u8 0, .int .u8 0, .int .u8 0] 8 rfl (World.shaped_of_RefB (by kernel_rfl) (by kernel_rfl)) (by kernel_rfl) (by kernel_rfl) (by kernel_rfl) (door_met os _)) ?_
 intro W base args ds gs before hval0 hW _ _ hL _
 have hval : ∀ (j : Nat) t v, Tryz.f7.params[j]? = some t → args[j]? = some v → Value.okWide Tryz.prog W .any base t v := hval0
 have hW' := hW
 obtain ⟨p, q, hA0, hV, rfl, hfz, hnd⟩ := hW
 have hA : DataW.TrodAll enc Tryz.prog W 0 (fun _ => true) true Tryz.f7.params.toList args.toList ds p := hA0
 rw [Tryz.params7] at hA hval
 obtain ⟨v0, vs0, d0, ds0, p0, q0, hargs, rfl, rfl, h0, r0⟩ := trodAll_cons hA
 obtain ⟨v1, vs1, d1, ds1, p1, q1, rfl, rfl, rfl, h1, r1⟩ := trodAll_cons r0
 obtain ⟨v2, vs2, d2, ds2, p2, q2, rfl, rfl, rfl, h2, r2⟩ := trodAll_cons r1
 obtain ⟨rfl, rfl, rfl⟩ := trodAll_nil r2
 obtain rfl : args = #[v0, v1, v2] := by cases args; simp_all
 obtain ⟨rfl, rfl⟩ := trodVars_none hV
 obtain ⟨a0, rfl, rfl, rfl, w0⟩ := open_int Tryz.underlying5 (hval 0 5 v0 rfl rfl) h0
 obtain ⟨a1, rfl, rfl, rfl, w1⟩ := open_int Tryz.underlying5 (hval 1 5 v1 rfl rfl) h1
 obtain ⟨a2, rfl, rfl, rfl, w2⟩ := open_int Tryz.underlying5 (hval 2 5 v2 rfl rfl) h2
 clear hA0 hval0
 simp only [List.append_nil] at hW'
 obtain ⟨hsp, hgb⟩ := spans_of hL
 refine (screenScrolls_walk a0 a1 a2 w0 w1 w2 W hsp hgb).mono fun e W' ⟨he, bel⟩ => ?_
 subst he
 exact ⟨_, rfl, _, _, _, [], _, [], hW', trodAll_mk1 (shut_bool Tryz.underlying4 _), (trodAll_cons_mk (shut_int Tryz.underlying5 w0) (trodAll_cons_mk (shut_int Tryz.underlying5 w1) (trodAll_cons_mk (shut_int Tryz.underlying5 w2) trodAll_mk0))), rfl, bel.frame _, fun h => by cases h⟩
theorem screenScrolls_over : Rows.screenScrollsRow.holds Tryz.pinned (OpenSpec.ofChange Rows.screenScrollsSpec) :=
 OpenClaim.holds_of_wide 7 Tryz.f7 rfl rfl rfl rfl rfl rfl rfl ⟨rfl, rfl, rfl, rfl, rfl⟩ rfl rfl rfl rfl rfl (by kernel_rfl) Tryz.func7 (by kernel_rfl)
  (of_decide_eq_true (by kernel_rfl)) (by unfold Func.isWrapper; first | (rw [if_pos (by decide +kernel)]; kernel_rfl) | (rw [if_neg (by decide +kernel)]; exact ⟨rfl, rfl⟩))
  (fun os started H enc _ => screenScrolls_lifted os started H enc)
theorem screenScrolls_card : Rows.ScreenScrollsCardSaid :=
 Claim7.holds_tied_plain_at .later [] [.data] true Rows.screenScrollsCard.stood.harness false
  screenScrolls_over (fun _ h => by cases h) (by kernel_rfl) (fun _ h => by cases h) screenScrolls_row_tie rfl ⟨rfl, rfl⟩ (by kernel_rfl) rfl
  (fun f fn hf hfn => by
   obtain rfl : f = 7 := Option.some.inj ((show Tryz.prog.funcNamed "reprise/repriselaw9.ScreenScrolls" = some 7 by kernel_rfl).symm.trans hf) |>.symm
   obtain rfl : fn = Tryz.f7 := (Option.some.inj (Tryz.func7.symm.trans hfn)).symm
   exact ⟨by kernel_rfl, fun j t ht => by
    rw [Tryz.params7] at ht
    have hm : t ∈ [5, 5, 5] := by simpa using Array.mem_of_getElem? ht
    have hall : ([5, 5, 5].all fun u => !Tryz.prog.wantsStandIn u) = true := by kernel_rfl
    exact (show Tryz.prog.wantsStandIn t = false by simpa using List.all_eq_true.1 hall t hm)⟩)
  (by kernel_rfl)
#print axioms screenScrolls_card
end Go.Proofs.YtlolgfgcgfjdjaaGreatDoor
