/- What is proved here: the law ScreenWraps, called with any numbers, returns true and leaves alone whatever memory was there; for every input the law ScreenWraps answers true (a plain text goes on from row to row, and the last column waits for the next rune); the table of spans lies as the text of the program lays it. -/
import Derived.Test.YtlolgfgcgfjdjaaGreatDoorS25
import Derived.Test.YtlolgfgcgfjdjaaGreatDoorS26
import Derived.Test.YtlolgfgcgfjdjaaGreatDoorRows
import Derived.Test.YtlolgfgcgfjdjaaGreatDoorCards
import Derived.Test.YtlolgfgcgfjdjaaGreatDoorTie
import Derived.Test.YtlolgfgcgfjdjaaGreatDoorS2
import Derived.SevenTiedAt
import Derived.WalkKit
import Derived.ProofKit
import Derived.OpenShut
import Derived.ShutString
import Derived.ChangeOld
import Derived.Below
namespace Go.Proofs.YtlolgfgcgfjdjaaGreatDoor
open Go.RowKit
set_option linter.unusedVariables false
set_option linter.unusedSimpArgs false
set_option maxHeartbeats 4000000
set_option maxRecDepth 100000
def WrRel (c M : Nat) (w : World) (g : Nat) (i : Value) (wr : World) : Prop := ∃ j : Nat, j ≤ M ∧ i = .int .i64 (j : Int) ∧ ∃ vc vt vo vp vi vu, One w wr g (wrS c j) 50 c vc vt vo vp vi vu
theorem screenWraps_walk (a0 : Int) (a1 : Int) (w0 : (Lit.int .u8 a0).wf = true) (w1 : (Lit.int .u8 a1).wf = true) (w : World) (hsp : Spans w) (hgb : 0 < w.heap.size) :
  Calls Tryz.prog 6 #[.int .u8 a0, .int .u8 a1] w fun e w' => e = .returned (.bool true) ∧ Below w.heap.size w w' := by
 have hb0 := bounds_u8 w0
 have hb1 := bounds_u8 w1
 clear w0 w1
 have HSP := Lib.hid hsp
 have HGB := Lib.hid hgb
 have hk := knownS_any w hsp hgb
 clear hsp hgb
 obtain ⟨C, hC⟩ : ∃ C : Nat, a1 % 9 + 1 = (C : Int) := ⟨(a1 % 9 + 1).toNat, by omega⟩
 obtain ⟨M, hM⟩ : ∃ M : Nat, a0 % 40 = (M : Int) := ⟨(a0 % 40).toNat, by omega⟩
 have C1 : 1 ≤ C := by omega
 have C9 : C ≤ 9 := by omega
 have M40 : M < 40 := by omega
 go_enter Tryz.func6, Tryz.ntmps6
 go_wp2_with fail
 refine hk.mono ?_
 rintro e w1 ⟨rfl, hb1⟩
 have HB1 := Lib.hid hb1
 clear hk hb1
 go_wp2_with fail
 refine (show Calls Tryz.prog 27 #[.int .i64 50, .int .i64 (C : Int)] w1 (LaidOne w (newS 50 (C : Int)) 50 C) from freshOne 50 C w w1 HB1.out (by omega) (by omega) (by omega) (by omega)).mono ?_
 rintro e w2 ⟨uc, ut, uo, up, ui, uu, rfl, kz, onez, oz⟩
 rename_i K hK
 refine hK _ _ ?_
 clear hK K
 iterate 1 (refine wpList_plain rfl fun K hK => ?_; go_simp; refine hK _ _ ?_; clear hK K)
 refine wpl_storeS rfl (.tmp 7) (.tmp 22) rfl rfl rfl kz rfl rfl onez ?_
 generalize World.setRow _ _ _ = W0 at oz ⊢
 generalize w2.heap.size = g at oz ⊢
 have HO0 := Lib.hid oz
 clear kz onez oz
 go_simp
 clear hC hM
 go_wp2
 go_loopw [8] (fun i wr => WrRel C M w g i wr) (fun i _ => M - (intOf i).toNat)
 case atStart => exact ⟨0, Nat.zero_le _, rfl, _, _, _, _, _, _, by rw [wrS_zero C C1 C9]; exact HO0.out⟩
 case round =>
  generalize wr = W5 at *
  obtain ⟨j, hj, rfl, zc, zt, zo, zp, zi, zu, ho⟩ := hrel
  have HO5 := Lib.hid ho
  clear ho HO0
  by_cases hlt : j < M
  ·have hlt2 : (j : Int) < (M : Int) := by omega
   obtain ⟨R, hR⟩ : ∃ R : Nat, (j : Int) % 26 = (R : Int) := ⟨j % 26, by omega⟩
   have hR26 : R < 26 := by omega
   have hby : vB (abcB j) = .int .u8 (97 + (R : Int)) := by unfold vB; rw [abcB_nat, show ((abcN j : Nat) : Int) = 97 + (R : Int) by unfold abcN; omega]
   have HBY := Lib.hid hby
   clear hby
   have hlit : BS (W5.alloc (.cells #[.int .u8 (97 + (R : Int))] 5)) (W5.alloc (.cells #[.int .u8 (97 + (R : Int))] 5)).heap.size (.slice (some ⟨W5.heap.size, 0, none⟩) 1 1) [abcB j] :=
    (BS.lit W5 [abcB j] 1 #[.int .u8 (97 + (R : Int))] 5 rfl (by simp [vBs, HBY.out]) (by simp)).more (by rw [alloc_size]; exact Nat.le_refl _)
   have HFy := Lib.hid (HO5.out.feed HSP.out HGB.out ((Below.refl _ _).alloc (Nat.le_refl _) _) hlit (by simp))
   clear hlit
   go_upto_region 8 with fail
   refine wp_region_lit ?_
   refine wpl_loadS rfl (.tmp 7) rfl rfl HO5.out.held.blk rfl ?_
   go_wp2_with fail
   refine HFy.out.mono ?_
   rintro e wy ⟨yc, yt, yo, yp, yi, yu, rfl, ky, oney, oy⟩
   rename_i K hK
   refine hK _ _ ?_
   clear hK K
   refine wpl_storeS rfl (.tmp 7) (.tmp 34) rfl rfl rfl ky rfl rfl oney ?_
   generalize World.setRow _ _ _ = W6 at oy ⊢
   rw [show feedS (wrS C j) [abcB j] = wrS C (j + 1) from wr_next C j C1 C9 (by omega)] at oy
   have HO6 := Lib.hid oy
   clear ky oney oy HFy
   go_simp
   clear hR
   go_wp2
   go_roundw
   case rel => exact ⟨j + 1, hlt, by go_num, _, _, _, _, _, _, HO6.out⟩
   case measure => simp [intOf]; omega
  ·have hjM : j = M := by omega
   subst hjM
   obtain ⟨D1, k1, D2, k2, D3, k3, D4, k4, D5, k5, D6, k6, rfl, rfl, rfl, rfl, rfl, rfl⟩ := HO5.out.held.sl.forms
   obtain ⟨E, hE⟩ : ∃ E : Nat, (50 : Int) * (C : Int) = (E : Int) := ⟨50 * C, by omega⟩
   have hEn : 50 * C = E := by omega
   have hE450 : E ≤ 450 := by omega
   have HEN := Lib.hid hEn
   have e2 : W5.cell? ⟨g, 2, none⟩ = some (.slice D1 (wrS C j).cells.length k1) := HO5.out.held.cell 2 rfl
   rw [show (wrS C j).cells.length = E from (wrC_len C j).trans hEn] at e2
   have HC := Lib.hid (HO5.out.held.sl.1.cs (B := W5.heap.size) (fun x hx => hx.1))
   have HBE := Lib.hid HO5.out.bel
   clear hlt hj hEn
   go_wp2
   go_loopw [9] (fun i wr => ∃ y : Nat, y ≤ E ∧ i = .int .i64 (y : Int) ∧ wr = W5) (fun i _ => E - (intOf i).toNat)
   case atStart => exact ⟨0, Nat.zero_le _, rfl, rfl⟩
   case round =>
    obtain ⟨y, hy, rfl, rfl⟩ := hrel
    by_cases hl6 : y < E
    ·have hl6' : (y : Int) < (E : Int) := by omega
     have hget := wrC_get C j y
     have hidx : y < (wrC C j).length := by rw [wrC_len, HEN.out]; exact hl6
     obtain ⟨ad, hA, -, t0⟩ := HC.out.get y _ (getC_of hidx)
     have t1 : wr.cell? (ad.add (y * 3)) = some (.int .i32 (getC (wrC C j) y).r) := t0.1
     subst hA
     clear t0 hidx
     by_cases c1 : y < j
     ·have c1' : (y : Int) < (j : Int) := by omega
      obtain ⟨R, hR⟩ : ∃ R : Nat, (y : Int) % 26 = (R : Int) := ⟨y % 26, by omega⟩
      have hR26 : R < 26 := by omega
      rw [hget, if_pos ⟨by have := HEN.out; omega, c1⟩] at t1
      simp only at t1
      rw [show ((abcN y : Nat) : Int) = 97 + (R : Int) by unfold abcN; omega] at t1
      clear hget
      go_wp2
      go_roundw
      case rel => exact ⟨y + 1, hl6, by go_num, by simp⟩
      case measure => simp [intOf]; omega
     ·have c1' : (j : Int) ≤ (y : Int) := by omega
      rw [hget, if_neg (fun h => c1 h.2)] at t1
      simp only [blankC] at t1
      clear hget
      go_wp2
      go_roundw
      case rel => exact ⟨y + 1, hl6, by go_num, by simp⟩
      case measure => simp [intOf]; omega
    ·have hyE : y = E := by omega
     subst hyE
     have c0 : ¬ ((C : Int) = 0) := by omega
     have jpos : (0 : Int) ≤ (j : Int) := by omega
     obtain ⟨R, hR⟩ : ∃ R : Nat, (j : Int) % (C : Int) = (R : Int) := ⟨j % C, by rw [Int.natCast_emod]⟩
     obtain ⟨Q, hQ⟩ : ∃ Q : Nat, (j : Int) / (C : Int) = (Q : Int) := ⟨j / C, by rw [Int.natCast_ediv]⟩
     have hRn : j % C = R := by have h := Int.natCast_emod j C; rw [hR] at h; exact Int.ofNat.inj h
     have hQn : j / C = Q := by have h := Int.natCast_ediv j C; rw [hQ] at h; exact Int.ofNat.inj h
     have hRt : (j : Int).tmod (C : Int) = (R : Int) := by rw [Int.tmod_eq_emod_of_nonneg jpos]; exact hR
     have hQt : (j : Int).tdiv (C : Int) = (Q : Int) := by rw [Int.tdiv_eq_ediv_of_nonneg jpos]; exact hQ
     have hRl : R < C := by rw [← hRn]; exact Nat.mod_lt _ (by omega)
     have hQl : Q ≤ j := by rw [← hQn]; exact Nat.div_le_self _ _
     have hRl2 : (R : Int) < (C : Int) := by omega
     have hQl2 : (Q : Int) ≤ (j : Int) := by omega
     have e5 : wr.cell? ⟨g, 5, none⟩ = some (.bool (fullB C j)) := HO5.out.held.cell 5 rfl
     have e4 : wr.cell? ⟨g, 4, none⟩ = some (.int .i64 (if fullB C j = true then (C : Int) - 1 else ((j % C : Nat) : Int))) := HO5.out.held.cell 4 rfl
     have e3 : wr.cell? ⟨g, 3, none⟩ = some (.int .i64 (if fullB C j = true then ((j / C : Nat) : Int) - 1 else ((j / C : Nat) : Int))) := HO5.out.held.cell 3 rfl
     clear HO5 HC
     rw [hRn] at e4
     rw [hQn] at e3
     by_cases hj0 : j = 0
     ·have hf : fullB C j = false := by unfold fullB; rw [decide_eq_false_iff_not]; intro h; omega
      rw [hf] at e5
      rw [hf, if_neg (by decide)] at e3 e4
      have j0 : ¬ (0 : Int) < (j : Int) := by omega
      have j0' : (j : Int) ≤ 0 := by omega
      clear hf hRn hQn hj0
      go_wp2
      go_quiet (fail)
      have hfin := below_drewW HBE.out nq
      go_wp2
      go_ret
      exact ⟨rfl, hfin⟩
     ·have j0 : (0 : Int) < (j : Int) := by omega
      by_cases hR0 : R = 0
      ·have hf : fullB C j = true := by unfold fullB; rw [decide_eq_true_eq]; exact ⟨by omega, by rw [hRn]; exact hR0⟩
       subst hR0
       rw [hf] at e5
       rw [hf, if_pos rfl] at e3 e4
       clear hf hRn hQn hj0
       go_wp2
       go_quiet (fail)
       have hfin := below_drewW HBE.out nq
       go_wp2
       go_ret
       exact ⟨rfl, hfin⟩
      ·have hf : fullB C j = false := by unfold fullB; rw [decide_eq_false_iff_not]; intro h; omega
       have hRi : ((R : Int) == 0) = false := beq_eq_false_iff_ne.2 (by omega)
       rw [hf] at e5
       rw [hf, if_neg (by decide)] at e3 e4
       clear hf hRn hQn hj0 hR0
       go_wp2
       go_quiet (fail)
       have hfin := below_drewW HBE.out nq
       go_wp2
       go_ret
       exact ⟨rfl, hfin⟩
end Go.Proofs.YtlolgfgcgfjdjaaGreatDoor

namespace Go.Proofs.YtlolgfgcgfjdjaaGreatDoor
open Go.ChangeShapes Go.WideShapes Go.ChangeAt Go.RowKit
open Go.ChangeMaps (open_string shut_string)
set_option linter.unusedVariables false
set_option linter.unusedSimpArgs false
set_option maxHeartbeats 400000
set_option maxRecDepth 100000
theorem screenWraps_own : ownKnob Tryz.prog.godebug = none := by kernel_rfl
theorem screenWraps_lifted (os : Os) (started : os.Started) (H : Type) (enc : TypeId × Value → H) :
  ReturnsInHanded {} Tryz.checked os 6 .any (fun w args => (Rows.screenWrapsSpec.pre enc Tryz.prog Tryz.f6 [] false w args ∧ laidMetH Tryz.prog laidW w) ∧ sizedMet enc Tryz.prog Tryz.f6 (OpenSpec.ofChange Rows.screenWrapsSpec) false w args)
   (Rows.screenWrapsSpec.post enc Tryz.prog Tryz.f6 false true false false) := by
 refine returnsInHanded_of_change_and (C := Tryz.checked) (X := fun w _ => laidMetH Tryz.prog laidW w) (fun _ _ _ hh h => h.of_heap hh) screenWraps_own started (by kernel_rfl) Tryz.func6
  (ChangeSpec.witness_shaped (enc := enc) (C := Tryz.checked) (os := os) (X := fun w _ => laidMetH Tryz.prog laidW w) false (World.doorLaid Tryz.prog 400 os) #[.int .u8 0, .int .u8 0] 8 rfl (World.shaped_of_RefB (by kernel_rfl) (by kernel_rfl)) (by kernel_rfl) (by kernel_rfl) (by kernel_rfl) (door_met os _)) ?_
 intro W base args ds gs before hval0 hW _ _ hL _
 have hval : ∀ (j : Nat) t v, Tryz.f6.params[j]? = some t → args[j]? = some v → Value.okWide Tryz.prog W .any base t v := hval0
 have hW' := hW
 obtain ⟨p, q, hA0, hV, rfl, hfz, hnd⟩ := hW
 have hA : DataW.TrodAll enc Tryz.prog W 0 (fun _ => true) true Tryz.f6.params.toList args.toList ds p := hA0
 rw [Tryz.params6] at hA hval
 obtain ⟨v0, vs0, d0, ds0, p0, q0, hargs, rfl, rfl, h0, r0⟩ := trodAll_cons hA
 obtain ⟨v1, vs1, d1, ds1, p1, q1, rfl, rfl, rfl, h1, r1⟩ := trodAll_cons r0
 obtain ⟨rfl, rfl, rfl⟩ := trodAll_nil r1
 obtain rfl : args = #[v0, v1] := by cases args; simp_all
 obtain ⟨rfl, rfl⟩ := trodVars_none hV
 obtain ⟨a0, rfl, rfl, rfl, w0⟩ := open_int Tryz.underlying5 (hval 0 5 v0 rfl rfl) h0
 obtain ⟨a1, rfl, rfl, rfl, w1⟩ := open_int Tryz.underlying5 (hval 1 5 v1 rfl rfl) h1
 clear hA0 hval0
 simp only [List.append_nil] at hW'
 obtain ⟨hsp, hgb⟩ := spans_of hL
 refine (screenWraps_walk a0 a1 w0 w1 W hsp hgb).mono fun e W' ⟨he, bel⟩ => ?_
 subst he
 exact ⟨_, rfl, _, _, _, [], _, [], hW', trodAll_mk1 (shut_bool Tryz.underlying4 _), (trodAll_cons_mk (shut_int Tryz.underlying5 w0) (trodAll_cons_mk (shut_int Tryz.underlying5 w1) trodAll_mk0)), rfl, bel.frame _, fun h => by cases h⟩
theorem screenWraps_over : Rows.screenWrapsRow.holds Tryz.pinned (OpenSpec.ofChange Rows.screenWrapsSpec) :=
 OpenClaim.holds_of_wide 6 Tryz.f6 rfl rfl rfl rfl rfl rfl rfl ⟨rfl, rfl, rfl, rfl, rfl⟩ rfl rfl rfl rfl rfl (by kernel_rfl) Tryz.func6 (by kernel_rfl)
  (of_decide_eq_true (by kernel_rfl)) (by unfold Func.isWrapper; first | (rw [if_pos (by decide +kernel)]; kernel_rfl) | (rw [if_neg (by decide +kernel)]; exact ⟨rfl, rfl⟩))
  (fun os started H enc _ => screenWraps_lifted os started H enc)
theorem screenWraps_card : Rows.ScreenWrapsCardSaid :=
 Claim7.holds_tied_plain_at .later [] [.data] true Rows.screenWrapsCard.stood.harness false
  screenWraps_over (fun _ h => by cases h) (by kernel_rfl) (fun _ h => by cases h) screenWraps_row_tie rfl ⟨rfl, rfl⟩ (by kernel_rfl) rfl
  (fun f fn hf hfn => by
   obtain rfl : f = 6 := Option.some.inj ((show Tryz.prog.funcNamed "reprise/repriselaw9.ScreenWraps" = some 6 by kernel_rfl).symm.trans hf) |>.symm
   obtain rfl : fn = Tryz.f6 := (Option.some.inj (Tryz.func6.symm.trans hfn)).symm
   exact ⟨by kernel_rfl, fun j t ht => by
    rw [Tryz.params6] at ht
    have hm : t ∈ [5, 5] := by simpa using Array.mem_of_getElem? ht
    have hall : ([5, 5].all fun u => !Tryz.prog.wantsStandIn u) = true := by kernel_rfl
    exact (show Tryz.prog.wantsStandIn t = false by simpa using List.all_eq_true.1 hall t hm)⟩)
  (by kernel_rfl)
#print axioms screenWraps_card
end Go.Proofs.YtlolgfgcgfjdjaaGreatDoor
