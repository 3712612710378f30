/- What is proved here: a contract of the laws' helper 'known' of layer 9: it answers true; plain facts on a new screen that small letters are printed on: how far the text goes, and that the last one waits; no program is named; plain facts on a screen that control sequences of one or two digits are fed: where the cursor goes, which attributes are set; no program is named. -/
import Derived.Test.YtlolgfgcgfjdjaaGreatDoorS25
import Derived.Test.YtlolgfgcgfjdjaaGreatDoorS10
namespace Go.Proofs.YtlolgfgcgfjdjaaGreatDoor
open Go.RowKit
set_option linter.unusedVariables false
set_option linter.unusedSimpArgs false
set_option maxHeartbeats 2000000
set_option maxRecDepth 100000
def knB : List UInt8 := [97, 13, 10, 98]
def knS : Sc := feedS (newS 3 4) knB
theorem kn_len0 : (newS 3 4).cells.length = 12 := by decide +kernel
theorem kn_len : knS.cells.length = 12 := by decide +kernel
theorem kn_0 : knS.cells[0]? = some ⟨97, 0, 0⟩ := by decide +kernel
theorem kn_4 : knS.cells[4]? = some ⟨98, 0, 0⟩ := by decide +kernel
theorem kn_add0 (ad : Addr) : ad.add 0 = ad := by simp [Addr.add]
theorem kn_y : knS.y = 1 := by decide +kernel
theorem kn_x : knS.x = 1 := by decide +kernel
theorem kn_in : ScIn knS 3 4 := feedS_in knB (newS_in 3 4 (by omega) (by omega) (by omega) (by omega))
theorem kn_w : ScW knS 3 4 := feedS_w knB (newS_in 3 4 (by omega) (by omega) (by omega) (by omega)) (newS_w _ _ _ _)
theorem knownS_any (w : World) (hsp : Spans w) (hgb : 0 < w.heap.size) : Calls Tryz.prog 12 #[] w fun e w' => e = .returned (.bool true) ∧ Below w.heap.size w w' := by
 have HN : Hid (∀ W, Calls Tryz.prog 20 #[.int .i64 3, .int .i64 4] W (NewPost (newS 3 4) W)) := fun W => pNew_yes 3 4 W (by omega) (by omega) (by omega) (by omega)
 have HM := Lib.hid (fun W => pNew_no 0 4 W (by omega))
 have HSP := Lib.hid hsp
 have HGB := Lib.hid hgb
 clear hsp hgb
 go_enter Tryz.func12, Tryz.ntmps12
 go_wp2_with fail
 refine (HN.out _).mono ?_
 rintro e w1 ⟨v1, rfl, ⟨uc, ut, uo, up, ui, uu, rfl, hs1⟩, b1⟩
 have HH1 := Lib.hid (held_new (V := []) (by simp) (hs1.mono (S' := Far [] w1) (fun x hx => ⟨hx.2, by simp⟩)) zS)
 have HB1 := Lib.hid (below_setRow (b1.alloc b1.size (.cells zS 31)) b1.size (vS (newS 3 4) uc ut uo up ui uu))
 have hl1 := b1.size
 have k2 := alloc_new w1 (.cells zS 31)
 rename_i K hK
 refine hK _ _ ?_
 clear hK K b1
 iterate 4 (refine wpList_plain rfl fun K hK => ?_; go_simp; refine hK _ _ ?_; clear hK K)
 refine wpl_storeS rfl (.tmp 1) (.tmp 8) rfl rfl rfl k2 rfl rfl hs1.one ?_
 clear k2 hs1
 generalize hg1 : w1.heap.size = g1 at *
 clear hg1
 generalize World.setRow _ _ _ = W1 at HH1 HB1 ⊢
 go_simp
 go_wp2_with fail
 refine (HM.out _).mono ?_
 rintro e w2 ⟨rfl, b2⟩
 have HH2 := Lib.hid (HH1.out.below b2)
 have HB2 := Lib.hid (HB1.out.trans (b2.mono HB1.out.size))
 have HH3 := Lib.hid (HH2.out.new zS zS)
 have HB3 := Lib.hid (below_setRow (HB2.out.alloc HB2.out.size (.cells zS 31)) HB2.out.size zS)
 have k2 := alloc_new w2 (.cells zS 31)
 rename_i K hK
 refine hK _ _ ?_
 clear hK K b2
 iterate 4 (refine wpList_plain rfl fun K hK => ?_; go_simp; refine hK _ _ ?_; clear hK K)
 refine wpl_storeS rfl (.tmp 3) (.tmp 12) rfl rfl rfl k2 rfl rfl (by simp [Value.oneCell']) ?_
 clear k2
 generalize World.setRow _ _ _ = W3 at HH3 HB3 ⊢
 go_simp
 obtain ⟨A1, k1, A2, k2, A3, k3, A4, k4, A5, k5, A6, k6, rfl, rfl, rfl, rfl, rfl, rfl⟩ := HH3.out.sl.forms
 have e2 := HH3.out.cell (v := .slice A1 (newS 3 4).cells.length k1) 2 rfl
 rw [kn_len0] at e2
 have hcv := Lib.run_convert_bytes_const (P := Tryz.prog) W3 22 5 #[.int .u8 97, .int .u8 13, .int .u8 10, .int .u8 98] 4 4 Tryz.underlying22 Tryz.underlying5
 have hlit : BS (W3.alloc (.cells #[.int .u8 97, .int .u8 13, .int .u8 10, .int .u8 98] 5 (4, 5))) (W3.alloc (.cells #[.int .u8 97, .int .u8 13, .int .u8 10, .int .u8 98] 5 (4, 5))).heap.size (.slice (some ⟨W3.heap.size, 0, none⟩) 4 4) knB :=
  (BS.litM W3 knB 4 _ 5 (4, 5) rfl (by simp [knB, vBs, vB]) (by simp [knB])).more (by rw [alloc_size]; exact Nat.le_refl _)
 have HF := Lib.hid (feedHeld HH3.out (newS_in 3 4 (by omega) (by omega) (by omega) (by omega)) (newS_w _ _ _ _) (HSP.out.below HGB.out HB3.out) (Nat.lt_of_lt_of_le HGB.out HB3.out.size) ((Below.refl _ _).alloc (Nat.le_refl _) (.cells #[.int .u8 97, .int .u8 13, .int .u8 10, .int .u8 98] 5 (4, 5))) hlit (by simp [knB]))
 clear hlit
 go_upto_region 5 with fail
 clear e2
 refine wp_region_lit ?_
 refine wpl_loadS rfl (.tmp 1) rfl rfl HH3.out.blk rfl ?_
 go_wp2_with fail
 refine HF.out.mono ?_
 rintro e w4 ⟨xc, xt, xo, xp, xi, xu, rfl, hs4, b4⟩
 have HB4 := Lib.hid ((HB3.out.trans (((Below.refl _ _).alloc (Nat.le_refl _) _).mono HB3.out.size)).trans (b4.mono (by rw [alloc_size]; exact Nat.le_succ_of_le HB3.out.size)))
 have HS4 := Lib.hid hs4
 have HH5 := Lib.hid (held_new (V := []) (w1 := w4) (by simp) (hs4.mono (fun x hx => ⟨hx.1, by simp⟩)) zS)
 have HB5 := Lib.hid (below_setRow (HB4.out.alloc HB4.out.size (.cells zS 31)) HB4.out.size (vS knS xc xt xo xp xi xu))
 have k5 := alloc_new w4 (.cells zS 31)
 clear HF hcv b4 hs4
 rename_i K hK
 refine hK _ _ ?_
 clear hK K
 iterate 1 (refine wpList_plain rfl fun K hK => ?_; go_simp; refine hK _ _ ?_; clear hK K)
 refine wpl_storeS rfl (.tmp 5) (.tmp 25) rfl rfl rfl k5 rfl rfl HS4.out.one ?_
 clear k5
 rw [show feedS (newS 3 4) knB = knS from rfl] at HH5 ⊢
 generalize hg5 : w4.heap.size = g5 at *
 clear hg5
 generalize World.setRow _ _ _ = W5 at HH5 HB5 ⊢
 go_simp
 obtain ⟨B1, m1, B2, m2, B3, m3, B4, m4, B5, m5, B6, m6, rfl, rfl, rfl, rfl, rfl, rfl⟩ := HH5.out.sl.forms
 have e2 := HH5.out.cell (v := .slice B1 knS.cells.length m1) 2 rfl
 have e3 := HH5.out.cell (v := .int .i64 knS.y) 3 rfl
 have e4 := HH5.out.cell (v := .int .i64 knS.x) 4 rfl
 have HC := Lib.hid (HH5.out.sl.1.cs (B := W5.heap.size) (fun x hx => hx.1))
 obtain ⟨ad, hA, -, t0⟩ := HC.out.get 0 _ kn_0
 obtain ⟨ad', hA', -, t4⟩ := HC.out.get 4 _ kn_4
 cases hA.symm.trans hA'
 subst hA
 rw [kn_len] at e2
 rw [kn_y] at e3
 rw [kn_x] at e4
 have t0' : W5.cell? ad = some (.int .i32 97) := by have h := t0.1; rw [Nat.zero_mul, kn_add0] at h; exact h
 have t4' : W5.cell? ⟨ad.block, ad.off + 12, none⟩ = some (.int .i32 98) := t4.1
 clear t0 t4
 go_upto_region 6 with fail
 refine wp_region_lit ?_
 iterate 35 (refine wpList_step fun K hK => ?_; rw [if_pos (by rfl)]; go_simp; refine hK _ _ ?_; clear hK K)
 refine wpl_loadW (by rfl) (.tmp 5) rfl rfl HH5.out.blk rfl ?_
 go_wp2_with fail
 refine (rightHeld (S := Far [g5] W5) (fun x hx => hx.1) HH5.out.sl kn_in kn_w).mono ?_
 rintro e w6 ⟨rfl, b6⟩
 have HH6 := Lib.hid (HH5.out.below b6)
 have HB6 := Lib.hid (HB5.out.trans (b6.mono HB5.out.size))
 clear b6 e2 e3 e4 t0' t4'
 rename_i K hK
 refine hK _ _ ?_
 clear hK K
 iterate 2 (refine wpList_step fun K hK => ?_; rw [if_pos (by rfl)]; go_simp; refine hK _ _ ?_; clear hK K)
 refine wpl_loadW (by rfl) (.tmp 5) rfl rfl HH6.out.blk rfl ?_
 go_wp2_with fail
 refine (pRow_yes knS 3 4 _ _ _ _ _ _ (Far [g5] w6) w6 (fun x hx => hx.1) HH6.out.sl kn_in 1 (by omega)).mono ?_
 rintro e w7 ⟨v7, rfl, h7, b7⟩
 have HB7 := Lib.hid (HB6.out.trans (b7.mono HB6.out.size))
 obtain ⟨A7, k7, rfl, -⟩ := h7.cs.form
 rw [show (rowL knS.cells 4 1).length = 4 by decide +kernel]
 clear b7 h7
 go_wp2
 go_ret
 exact ⟨rfl, HB7.out⟩
end Go.Proofs.YtlolgfgcgfjdjaaGreatDoor

namespace Go.Proofs.YtlolgfgcgfjdjaaGreatDoor
set_option linter.unusedVariables false
set_option linter.unusedSimpArgs false
set_option maxHeartbeats 400000
set_option maxRecDepth 100000
theorem vtL_plain (b : UInt8) (h1 : 32 ≤ b.toNat) (h2 : b.toNat < 127) : vtL (prM 0) b = (prM 0, [acP b.toNat]) := by
 have e : vtL (prM 0) b = vtN (prM 0) b := rfl
 rw [e]
 unfold vtN
 rw [if_neg (by omega), if_neg (by omega), if_pos (show (prM 0).mode = 0 from rfl), if_neg (by omega), if_neg (by omega), step_new b (by omega)]
 rfl
theorem width_plain (r : Nat) (h1 : 32 ≤ r) (h2 : r < 127) : widthL (r : Int) = 1 := by
 have h : (List.range 127).all (fun r => decide (r < 32) || decide (widthL (r : Int) = 1)) = true := by decide +kernel
 have := List.all_eq_true.1 h r (List.mem_range.2 h2)
 simpa [show ¬ r < 32 by omega] using this
theorem mendL_plain {l : List Cl} {r c : Nat} (hg : GOk l.length r c) (y : Nat) (hy : y < r) (h : ∀ i, (getC l i).h = 0) : mendL l c y = l :=
 mendL_same hg y hy fun x hx => badH_no.2 ⟨fun e => (by rw [h] at e; cases e), fun e => (by rw [h] at e; cases e)⟩
def abcN (i : Nat) : Nat := 97 + i % 26
def abcB (i : Nat) : UInt8 := UInt8.ofNat (abcN i)
theorem abcB_nat (i : Nat) : (abcB i).toNat = abcN i := by
 unfold abcB abcN
 have : (97 + i % 26) < 256 := by omega
 simp [UInt8.toNat_ofNat, Nat.mod_eq_of_lt this]
def wrC (c k : Nat) : List Cl := (List.range (50 * c)).map fun i => if i < k then ⟨(abcN i : Int), 0, 0⟩ else blankC
def fullB (c k : Nat) : Bool := decide (0 < k ∧ k % c = 0)
def wrS (c k : Nat) : Sc := { newS 50 c with cells := wrC c k, y := if fullB c k = true then ((k / c : Nat) : Int) - 1 else (k / c : Nat), x := if fullB c k = true then (c : Int) - 1 else (k % c : Nat), wrap := fullB c k }
theorem wrC_len (c k : Nat) : (wrC c k).length = 50 * c := by simp [wrC]
theorem wrC_get (c k i : Nat) : getC (wrC c k) i = if i < 50 * c ∧ i < k then ⟨(abcN i : Int), 0, 0⟩ else blankC := by
 by_cases h : i < 50 * c
 ·unfold wrC
  rw [map_getC _ _ _ h]
  by_cases h2 : i < k
  ·rw [if_pos h2, if_pos ⟨h, h2⟩]
  ·rw [if_neg h2, if_neg (by omega)]
 ·rw [getC_out (by rw [wrC_len]; omega), if_neg (by omega)]
theorem wrC_zero (c : Nat) (c1 : 1 ≤ c) (c2 : c ≤ 9) : wrC c 0 = blankL 50 c := by
 unfold wrC blankL sizeOk
 rw [if_pos (by simp; omega)]
 apply List.ext_getElem?
 intro i
 rw [List.getElem?_map, List.getElem?_replicate]
 by_cases h : i < 50 * c
 ·rw [List.getElem?_range h, if_pos (by simpa using h)]
  rfl
 ·rw [List.getElem?_eq_none (by simpa using h), if_neg (by simpa using h)]
  rfl
theorem wrS_zero (c : Nat) (c1 : 1 ≤ c) (c2 : c ≤ 9) : wrS c 0 = newS 50 c := by
 have e : fullB c 0 = false := by simp [fullB]
 unfold wrS
 rw [e, wrC_zero c c1 c2]
 simp [newS]
theorem wrC_set (c k : Nat) (hk : k < 50 * c) : (wrC c k).set k ⟨(abcN k : Int), 0, 0⟩ = wrC c (k + 1) := by
 apply getC_ext
 ·rw [List.length_set, wrC_len, wrC_len]
 ·intro i hi
  unfold getC List.getD
  rw [List.getElem?_set]
  by_cases e : k = i
  ·subst e
   rw [if_pos rfl, if_pos (by rw [wrC_len]; exact hk)]
   show _ = getC (wrC c (k + 1)) k
   rw [wrC_get, if_pos ⟨hk, by omega⟩]
   rfl
  ·rw [if_neg e]
   show getC (wrC c k) i = getC (wrC c (k + 1)) i
   rw [wrC_get, wrC_get]
   by_cases h : i < 50 * c ∧ i < k
   ·rw [if_pos h, if_pos (by omega)]
   ·rw [if_neg h, if_neg (by omega)]
def wrA (c k : Nat) : Sc := { newS 50 c with cells := wrC c k, y := (k / c : Nat), x := (k % c : Nat) }
theorem quoLe (c k : Nat) (c1 : 1 ≤ c) (hk : k < 40) : k / c < 40 := Nat.lt_of_le_of_lt (Nat.div_le_self _ _) hk
theorem wrA_of (c k : Nat) (c1 : 1 ≤ c) (c2 : c ≤ 9) (hk : k < 40) : wrapS (wrS c k) = wrA c k := by
 have hq := quoLe c k c1 hk
 unfold wrapS
 by_cases hf : fullB c k = true
 ·have hd := hf
  unfold fullB at hd
  rw [decide_eq_true_eq] at hd
  have hq1 : 1 ≤ k / c := by
   have h1 := Nat.div_add_mod k c
   by_cases h0 : k / c = 0
   ·rw [h0, Nat.mul_zero] at h1; omega
   ·exact Nat.pos_of_ne_zero h0
  rw [if_pos (show (wrS c k).wrap = true from hf)]
  have e : downS (wrS c k) = { wrS c k with wrap := false, y := (k / c : Nat) } := by
   unfold downS
   have ey : (wrS c k).y = ((k / c : Nat) : Int) - 1 := by show (if fullB c k = true then _ else _) = _; rw [if_pos hf]
   rw [if_neg (show ¬ (wrS c k).y = (wrS c k).bottom by rw [ey]; show ¬ _ = (50 : Int) - 1; omega), if_pos (show (wrS c k).y < (wrS c k).rows - 1 by rw [ey]; show _ < (50 : Int) - 1; omega), ey]
   congr 1
   omega
  unfold crS
  rw [e]
  unfold wrA wrS
  rw [hd.2]
  rfl
 ·rw [if_neg (show ¬ (wrS c k).wrap = true from hf)]
  unfold wrA wrS
  rw [if_neg hf, if_neg hf, Bool.not_eq_true _ |>.mp hf]
  rfl
theorem wr_next (c k : Nat) (c1 : 1 ≤ c) (c2 : c ≤ 9) (hk : k < 40) : stepS (wrS c k) (abcB k) = wrS c (k + 1) := by
 have hn : abcN k < 123 ∧ 97 ≤ abcN k := by unfold abcN; omega
 have hp : (wrS c k).p = prM 0 := rfl
 have hk50 : k < 50 * c := by omega
 unfold stepS
 rw [hp, vtL_plain _ (by rw [abcB_nat]; omega) (by rw [abcB_nat]; omega), abcB_nat]
 show (printS (wrS c k) (abcN k : Int)).par (prM 0) = _
 have hw := width_plain (abcN k) (by omega) (by omega)
 unfold printS
 rw [hw, if_neg (by omega), if_neg (by omega), wrA_of c k c1 c2 hk]
 have hat : atS (wrA c k) = k := by
  unfold atS
  show (((k / c : Nat) : Int) * (c : Int) + ((k % c : Nat) : Int)).toNat = k
  have h1 := Nat.div_add_mod k c
  have h2 : (((k / c : Nat) : Int) * (c : Int) + ((k % c : Nat) : Int)) = (k : Int) := by
   rw [← Int.natCast_mul, ← Int.natCast_add, Nat.mul_comm, h1]
  rw [h2]; rfl
 have hg : GOk (wrC c (k + 1)).length 50 c := ⟨c1, by omega, by omega, by omega, wrC_len _ _⟩
 have hc : mendL (cells1 (wrA c k) (abcN k : Int)) (c : Int) ((k / c : Nat) : Int) = wrC c (k + 1) := by
  unfold cells1
  rw [hat]
  show mendL ((wrC c k).set k ⟨(abcN k : Int), 0, 0⟩) (c : Int) ((k / c : Nat) : Int) = _
  rw [wrC_set c k hk50]
  have := quoLe c k c1 hk
  refine mendL_plain hg (k / c) (by omega) fun i => ?_
  rw [wrC_get]
  split <;> rfl
 have hx : (wrA c k).x = ((k % c : Nat) : Int) := rfl
 have hcols : (wrA c k).cols = (c : Int) := rfl
 have hy : (wrA c k).y = ((k / c : Nat) : Int) := rfl
 have hmod : k % c < c := Nat.mod_lt _ c1
 have hdm := Nat.div_add_mod k c
 unfold putS
 rw [if_neg (show ¬ (1 : Int) = 2 by omega), hcols, hy, hc, hx]
 by_cases hlast : (c : Int) ≤ ((k % c : Nat) : Int) + 1
 ·rw [if_pos hlast]
  have e1 : k + 1 = c * (k / c + 1) := by rw [Nat.mul_add, Nat.mul_one]; omega
  have e2 : (k + 1) % c = 0 := by rw [e1]; exact Nat.mul_mod_right _ _
  have e3 : (k + 1) / c = k / c + 1 := by rw [e1]; exact Nat.mul_div_cancel_left _ c1
  have hf : fullB c (k + 1) = true := by unfold fullB; simp [e2]
  unfold wrS
  rw [hf, if_pos rfl, if_pos rfl, e3]
  show { wrA c k with cells := wrC c (k + 1), x := (c : Int) - 1, wrap := true, p := prM 0 } = _
  unfold wrA newS
  simp
 ·rw [if_neg hlast]
  have e1 : k + 1 = c * (k / c) + (k % c + 1) := by omega
  have e2 : (k + 1) % c = k % c + 1 := by
   rw [e1, Nat.mul_add_mod]
   exact Nat.mod_eq_of_lt (by omega)
  have e3 : (k + 1) / c = k / c := by
   rw [e1, Nat.mul_add_div c1, Nat.div_eq_of_lt (show k % c + 1 < c by omega), Nat.add_zero]
  have hf : fullB c (k + 1) = false := by unfold fullB; rw [decide_eq_false_iff_not, e2]; omega
  unfold wrS
  rw [hf, e2, e3]
  show { wrA c k with cells := wrC c (k + 1), x := ((k % c : Nat) : Int) + 1, p := prM 0 } = _
  unfold wrA newS
  simp
end Go.Proofs.YtlolgfgcgfjdjaaGreatDoor

namespace Go.Proofs.YtlolgfgcgfjdjaaGreatDoor
set_option linter.unusedVariables false
set_option linter.unusedSimpArgs false
set_option maxHeartbeats 400000
set_option maxRecDepth 100000
def digB (n : Nat) : UInt8 := UInt8.ofNat (48 + n)
def oneA (n : Int) (b : Nat) : Ac := ⟨3, 0, b, 0, [n], []⟩
theorem digB_nat {n : Nat} (h : n < 10) : (digB n).toNat = 48 + n := by
 unfold digB
 simp [UInt8.toNat_ofNat]
 omega
theorem mv_dig (q : Pr) (n : Nat) (h : n < 10) (hm : q.mode = 4) : vtL q (digB n) = ({ q with params := digP (oneP q.params) (48 + n) }, []) := by
 have hn := digB_nat h
 have h0 : ¬ (q.mode = 0 ∧ 0 < q.utf.length) := by omega
 unfold vtL
 rw [if_neg h0]
 unfold vtN
 rw [if_neg (by omega), if_neg (by omega), if_neg (by omega), if_neg (by omega), if_neg (by omega), if_neg (by omega), if_neg (by omega)]
 unfold vtM
 rw [if_neg (by omega), if_neg (by omega), if_neg (by omega), if_neg (by omega)]
 unfold csiL
 have hi : interB (digB n) = false := by unfold interB; rw [hn]; simp; omega
 rw [if_neg (by omega), hi, if_neg (by simp), if_neg (by omega), if_neg (by omega), if_neg (by omega), hn]
theorem mv_fin (q : Pr) (b : UInt8) (hm : q.mode = 4) (h1 : 64 ≤ b.toNat) (h2 : b.toNat < 127) : vtL q b = (prM 0, [acS q b.toNat]) := by
 have h0 : ¬ (q.mode = 0 ∧ 0 < q.utf.length) := by omega
 unfold vtL
 rw [if_neg h0]
 unfold vtN
 rw [if_neg (by omega), if_neg (by omega), if_neg (by omega), if_neg (by omega), if_neg (by omega), if_neg (by omega), if_neg (by omega)]
 unfold vtM
 rw [if_neg (by omega), if_neg (by omega), if_neg (by omega), if_neg (by omega)]
 unfold csiL
 rw [if_pos h1]
theorem mv_esc : vtL (prM 0) 27 = (prM 1, []) := rfl
theorem mv_csi : vtL (prM 1) 91 = (prM 4, []) := rfl
theorem vtAll_one (n : Nat) (h : n < 10) (b : UInt8) (h1 : 64 ≤ b.toNat) (h2 : b.toNat < 127) : vtAll (prM 0) [27, 91, digB n, b] = (prM 0, [oneA n b.toNat]) := by
 unfold vtAll
 simp only [List.foldl_cons, List.foldl_nil, mv_esc, mv_csi]
 rw [mv_dig (prM 4) n h rfl]
 simp only []
 rw [mv_fin _ b rfl h1 h2]
 have e : digP (oneP (prM 4).params) (48 + n) = [(n : Int)] := by
  show [min (10 * 0 + (((48 + n : Nat) : Int) - 48)) 65535] = _
  congr 1
  omega
 simp only [List.append_nil, List.nil_append]
 rw [e]
 rfl
theorem vtAll_two (n m : Nat) (h : n < 10) (hm : m < 10) (b : UInt8) (h1 : 64 ≤ b.toNat) (h2 : b.toNat < 127) : vtAll (prM 0) [27, 91, digB n, digB m, b] = (prM 0, [oneA ((10 * n + m : Nat) : Int) b.toNat]) := by
 unfold vtAll
 simp only [List.foldl_cons, List.foldl_nil, mv_esc, mv_csi]
 rw [mv_dig (prM 4) n h rfl]
 simp only []
 rw [mv_dig _ m hm rfl]
 simp only []
 rw [mv_fin _ b rfl h1 h2]
 have e : digP (oneP (prM 4).params) (48 + n) = [(n : Int)] := by
  show [min (10 * 0 + (((48 + n : Nat) : Int) - 48)) 65535] = _
  congr 1
  omega
 have e2 : digP (oneP [(n : Int)]) (48 + m) = [((10 * n + m : Nat) : Int)] := by
  show [min (10 * (n : Int) + (((48 + m : Nat) : Int) - 48)) 65535] = _
  congr 1
  omega
 simp only [List.append_nil, List.nil_append]
 rw [e, e2]
 rfl
theorem feed_one (s : Sc) (hp : s.p = prM 0) (n : Nat) (h : n < 10) (b : UInt8) (h1 : 64 ≤ b.toNat) (h2 : b.toNat < 127) : feedS s [27, 91, digB n, b] = (seqS s b.toNat [(n : Int)]).par (prM 0) := by
 rw [feedS_acts, hp, vtAll_one n h b h1 h2]
 rfl
theorem feed_two (s : Sc) (hp : s.p = prM 0) (n m : Nat) (h : n < 10) (hm : m < 10) (b : UInt8) (h1 : 64 ≤ b.toNat) (h2 : b.toNat < 127) : feedS s [27, 91, digB n, digB m, b] = (seqS s b.toNat [((10 * n + m : Nat) : Int)]).par (prM 0) := by
 rw [feedS_acts, hp, vtAll_two n m h hm b h1 h2]
 rfl
def mvS (r c : Int) (y x : Int) : Sc := { newS r c with y := y, x := x }
def mvY (r y : Int) (n : Nat) (j : Nat) : Int := if j = 0 then max (y - (max n 1 : Nat)) 0 else if j = 1 then min (y + (max n 1 : Nat)) (r - 1) else y
def mvX (c x : Int) (n : Nat) (j : Nat) : Int := if j = 2 then min (x + (max n 1 : Nat)) (c - 1) else if j = 3 then max (x - (max n 1 : Nat)) 0 else x
theorem param_one (n : Nat) : paramL [(n : Int)] 0 1 = (max n 1 : Nat) := by
 show (if (n : Int) = 0 then (1 : Int) else n) = _
 split <;> omega
theorem mvS_next (r c : Nat) (y x : Int) (y0 : 0 ≤ y) (y1 : y < r) (x0 : 0 ≤ x) (x1 : x < c) (n j : Nat) (h : n < 10) (hj : j < 4) :
  feedS (mvS r c y x) [27, 91, digB n, UInt8.ofNat (65 + j)] = mvS r c (mvY r y n j) (mvX c x n j) := by
 have hb : (UInt8.ofNat (65 + j)).toNat = 65 + j := by simp [UInt8.toNat_ofNat]; omega
 rw [feed_one _ rfl n h _ (by omega) (by omega), hb]
 have hm : 1 ≤ (max n 1 : Nat) ∧ (max n 1 : Nat) < 10 := by omega
 have e0 : ∀ y' x' : Int, (toS (mvS r c y x) y' x').par (prM 0) = mvS r c (min (max y' 0) ((r : Int) - 1)) (min (max x' 0) ((c : Int) - 1)) := fun y' x' => rfl
 unfold seqS
 rw [param_one]
 unfold mvY mvX
 generalize (max n 1 : Nat) = k at hm
 have hc : j = 0 ∨ j = 1 ∨ j = 2 ∨ j = 3 := by omega
 rcases hc with rfl | rfl | rfl | rfl
 ·show (toS (mvS r c y x) (y - k) x).par (prM 0) = _
  rw [e0]
  congr 1 <;> simp <;> omega
 ·show (toS (mvS r c y x) (y + k) x).par (prM 0) = _
  rw [e0]
  congr 1 <;> simp <;> omega
 ·show (toS (mvS r c y x) y (x + k)).par (prM 0) = _
  rw [e0]
  congr 1 <;> simp <;> omega
 ·show (toS (mvS r c y x) y (x - k)).par (prM 0) = _
  rw [e0]
  congr 1 <;> simp <;> omega
end Go.Proofs.YtlolgfgcgfjdjaaGreatDoor
