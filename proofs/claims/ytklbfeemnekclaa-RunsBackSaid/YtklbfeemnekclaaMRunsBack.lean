/- What is proved here: the law RunsBack, called with any bytes and any numbers, returns true and leaves alone whatever memory was there; the law RunsBack, called with any arguments, returns true and leaves alone whatever memory was there. -/
import Derived.Test.YtklbfeemnekclaaM22
import Derived.Test.YtklbfeemnekclaaRows
import Derived.WalkKit
import Derived.ProofKit
import Derived.OpenShut
import Derived.ShutString
import Derived.ChangeOld
import Derived.Below
namespace Go.Proofs.Ytklbfeemnekclaa
open Go.RowKit
set_option linter.unusedVariables false
set_option linter.unusedSimpArgs false

def OneRel (n : Nat) (c : Cl) (w0 w1 : World) (g cap : Nat) (i : Value) (wr : World) : Prop := ∃ k : Nat, k ≤ n ∧ i = .int .i64 (k : Int) ∧ OC wr w1.heap.size (.slice (some ⟨g, 0, none⟩) n cap) (List.replicate k c ++ List.replicate (n - k) zeroC) ∧ Below w1.heap.size w1 wr
set_option maxHeartbeats 4000000 in
set_option maxRecDepth 100000 in
theorem runsBack_walk (a0 : Option Addr) (len0 cap0 : Nat) (z0 : List UInt8) (a1 : Int) (a2 : Int) (w : World) (w0 : BS w w.heap.size (.slice a0 len0 cap0) z0) (w1 : (Lit.int .u8 a1).wf = true) (w2 : (Lit.int .u8 a2).wf = true) :
    Calls Try.prog 4 #[.slice a0 len0 cap0, .int .u8 a1, .int .u8 a2] w fun e w' => e = .returned (.bool true) ∧ Below w.heap.size w w' := by
  obtain ⟨_, _, hv0, -⟩ := w0.at_
  simp only [Value.slice.injEq] at hv0
  obtain ⟨-, rfl, -⟩ := hv0
  have W0 := Lib.hid w0
  have hb1 := bounds_u8 w1
  have hb2 := bounds_u8 w2
  obtain ⟨k, rfl⟩ : ∃ k : Nat, a1 = (k : Int) := ⟨a1.toNat, by omega⟩
  obtain ⟨m, rfl⟩ : ∃ m : Nat, a2 = (m : Int) := ⟨a2.toNat, by omega⟩
  have k1 : k < 256 := by omega
  have m1 : m < 256 := by omega
  have k1i : (k : Int) < 256 := by omega
  have m1i : (m : Int) < 256 := by omega
  clear w0 w1 w2 hb1 hb2
  have hk := knownR_any w
  by_cases t0 : 30 < (z0.length : Int)
  · go_enter Try.func4, Try.ntmps4
    go_wp2_with (go_at_call 6; refine hk.mono ?_; rintro e wk ⟨rfl, hbk⟩)
    go_ret
    exact ⟨rfl, hbk⟩
  have t0' : decide (30 < (z0.length : Int)) = false := by simp; omega
  obtain ⟨q, hq⟩ : ∃ q : Nat, (k : Int) / 6 = (q : Int) := ⟨k / 6, by omega⟩
  have q1 : q < 256 := by omega
  go_enter Try.func4, Try.ntmps4
  go_wp2_with fail
  refine hk.mono ?_
  rintro e w1 ⟨rfl, hb1⟩
  have HB1 := Lib.hid hb1
  clear hk hb1
  go_wp2_with fail
  refine (seatScreen_any k q k1 q1 _ z0 w1 ((W0.out.below HB1.out).more HB1.out.size) (by omega)).mono ?_
  rintro e w2 ⟨v2, s, r, c, rfl, hv2, hi, hr, hc, b2⟩
  obtain ⟨uc, ut, uo, up, ui, uu, rfl, hs2⟩ := hv2
  have HLS := Lib.hid (laidS b2 hs2 hi hr hc zS rfl)
  have k2 := heap_one w2 (.cells zS 31)
  rename_i K hK
  refine hK _ _ ?_
  clear hK
  iterate 1 (refine wpList_plain rfl fun K hK => ?_; go_simp; refine hK _ _ ?_; clear hK K)
  refine wpl_storeS rfl (.tmp 7) (.tmp 26) rfl rfl rfl k2 rfl rfl hs2.one ?_
  clear k2 hs2 b2 hi hr hc
  generalize World.setRow _ _ _ = W at HLS ⊢
  generalize vS s uc ut uo up ui uu = vs at *
  generalize s.cells = l at *
  generalize hsb : w2.heap.size = sb at *
  go_simp
  obtain ⟨A, cp, rfl, g1, g2⟩ := HLS.out.cs.form
  have l1 := HLS.out.pos
  have l2 := HLS.out.most
  have hc0 := HLS.out.cell
  have hbl := bytL_len l
  have hp := putP_any _ l W HLS.out.cs (by omega) HLS.out.fit
  unfold PutCPost at hp
  rw [putCL_yes HLS.out.all] at hp
  go_wp2_with fail
  refine hp.mono ?_
  rintro e w3 ⟨u3, rfl, o3, b3⟩
  have HL3 := Lib.hid (HLS.out.below b3)
  have hu3 := o3.bs
  obtain ⟨A3, c3, rfl, g3, g4, -⟩ := hu3.at_
  unfold maxLen at g4
  have HU3 := Lib.hid hu3
  clear hp hc0 o3 b3 hu3 hsb
  have hc0 := HL3.out.cell
  have hrd := readP_any _ (bytL l) (l.length : Int) w3 HU3.out (by omega) (by omega) (by omega)
  have hback := readCL_back l [] HLS.out.all (by omega)
  rw [List.append_nil] at hback
  unfold ReadCPost at hrd
  rw [hback] at hrd
  clear hback
  go_wp2_with fail
  refine hrd.mono ?_
  rintro e w4 ⟨u4, rfl, o4, b4⟩
  have HL4 := Lib.hid (HL3.out.below b4)
  have HU4 := Lib.hid o4.cs
  obtain ⟨A4, c4, rfl, g5, g6⟩ := o4.cs.form
  clear hrd hc0 o4 b4
  have hc0 := HL4.out.cell
  go_wp2_with fail
  refine (sameC_eq _ _ l w4 HU4.out HL4.out.cs (by omega)).mono ?_
  rintro e w5 ⟨rfl, b5⟩
  have HL5 := Lib.hid (HL4.out.below b5)
  clear hc0 b5
  have hmk := run_makeC (m + 1) (by omega) w5
  rw [show ((m + 1 : Nat) : Int) = (m : Int) + 1 by omega] at hmk
  have HO6 := Lib.hid (OC.made w5 (m + 1) (by omega))
  have HB6 := Lib.hid (show Below w5.heap.size w5 (w5.alloc (.cells (madeCells #[.int .i32 0, .int .u16 0, .int .u8 0] ((m + 1) * 3)) 41)) from (Below.refl _ _).alloc (Nat.le_refl _) _)
  obtain ⟨c, hc⟩ : ∃ c, l[0]? = some c := ⟨_, List.getElem?_eq_getElem l1⟩
  have HC := Lib.hid hc
  have HCB := Lib.hid (HLS.out.all c (List.mem_of_getElem? hc))
  clear hc
  go_wp2
  clear hmk
  go_loopw [14] (fun i wr => OneRel (m + 1) c w w5 w5.heap.size (m + 1) i wr) (fun i _ => m + 1 - (intOf i).toNat)
  case atStart => exact ⟨0, Nat.zero_le _, rfl, by simpa using HO6.out, HB6.out⟩
  case round =>
    obtain ⟨j, hj, rfl, ho, hbel⟩ := hrel
    have HOO := Lib.hid ho
    have HBE := Lib.hid hbel
    have HLJ := Lib.hid (HL5.out.below hbel)
    have hj1 : (j : Int) ≤ 256 := by omega
    clear hbel
    by_cases hlt : j < m + 1
    · have hlti : (j : Int) < (m : Int) + 1 := by omega
      obtain ⟨x, y, z, s0, s1, s2, f0, f1, f2⟩ := ho.spot j hlt
      have hc0 := HLJ.out.cell
      obtain ⟨ad, hAd, hadb, t⟩ := HLJ.out.cs.get 0 c HC.out
      obtain ⟨t0, t1, t2⟩ := threeAt0 t
      subst hAd
      clear ho t
      go_wp2
      go_roundw
      case rel =>
        have h := HOO.out.put j hlt c
        have hs : (List.replicate j c ++ List.replicate (m + 1 - j) zeroC).set j c = List.replicate (j + 1) c ++ List.replicate (m + 1 - (j + 1)) zeroC := by
          obtain ⟨d, hd⟩ : ∃ d, m + 1 - j = d + 1 := ⟨m - j, by omega⟩
          rw [hd, List.replicate_succ, List.set_append_right _ _ (by simp), List.length_replicate, Nat.sub_self, List.set_cons_zero, List.replicate_succ', show m + 1 - (j + 1) = d by omega, List.append_assoc]
          rfl
        rw [hs] at h
        exact ⟨j + 1, hlt, by go_num, h, below_put HBE.out (Nat.le_refl _) _ _ _ _⟩
      case measure => simp [intOf]; omega
    · obtain rfl : j = m + 1 := by omega
      rw [Nat.sub_self, List.replicate_zero, List.append_nil] at ho
      have hp2 := putP_any _ (List.replicate (m + 1) c) wr ho.cs (by simp; omega) (fun x hx => by
        rw [List.eq_of_mem_replicate hx]
        obtain ⟨e1, e2, e3, e4⟩ := cellB_bd HCB.out
        exact ⟨by omega, by omega, by omega, by omega⟩)
      unfold PutCPost at hp2
      rw [putCL_yes (fun x hx => by rw [List.eq_of_mem_replicate hx]; exact HCB.out), bytL_one] at hp2
      have hfew := runB_few (m + 1) c (by omega) HCB.out
      clear ho
      go_wp2_with fail
      refine hp2.mono ?_
      rintro e w7 ⟨u7, rfl, o7, b7⟩
      obtain ⟨A7, c7, rfl, g7, g8, -⟩ := o7.bs.at_
      have hle9 : ((runB (m + 1) c).length : Int) ≤ 9 := by omega
      clear o7 hp2
      go_wp2
      go_ret
      exact ⟨rfl, (HB1.out.trans (HLJ.out.bel.mono HB1.out.size)).trans (b7.mono (HB1.out.trans (HLJ.out.bel.mono HB1.out.size)).size)⟩
end Go.Proofs.Ytklbfeemnekclaa

namespace Go.Proofs.Ytklbfeemnekclaa
open Go.ChangeShapes Go.WideShapes Go.ChangeAt Go.RowKit
open Go.ChangeMaps (open_string shut_string)
set_option linter.unusedVariables false

theorem runsBack_own : ownKnob Try.prog.godebug = none := by kernel_rfl
theorem runsBack_laidOut : laidOutB Try.prog = true := by kernel_rfl

set_option maxRecDepth 100000 in
theorem runsBack_lifted (os : Os) (started : os.Started) (H : Type) (enc : TypeId × Value → H) :
    ReturnsInHanded {} Try.checked os 4 .any (Rows.runsBackSpec.pre6 enc Try.prog Try.f4 Rows.runsBackRow.domain false) (Rows.runsBackSpec.post enc Try.prog Try.f4 false true false false) := by
  refine returnsInHanded_of_change (C := Try.checked) runsBack_own started (by kernel_rfl) Try.func4
    (ChangeSpec.witness6 (enc := enc) (C := Try.checked) false ⟨#[], #[.slice none 0 0, .int .u8 0, .int .u8 0], []⟩ 8 (by kernel_rfl) (by kernel_rfl) (by kernel_rfl) (by kernel_rfl)) ?_
  intro W base args ds gs before hval0 hW hcnd _
  have hval : ∀ (j : Nat) t v, Try.f4.params[j]? = some t → args[j]? = some v → Value.okWide Try.prog W .any base t v := hval0
  have hW' := hW
  obtain ⟨p, q, hA0, hV, rfl, hfz, hnd⟩ := hW
  have hA : DataW.TrodAll enc Try.prog W 0 (fun _ => true) true Try.f4.params.toList args.toList ds p := hA0
  rw [Try.params4] at hA hval
  obtain ⟨v0, vs0, d0, ds0, p0, q0, hargs, rfl, rfl, h0, r0⟩ := trodAll_cons hA
  obtain ⟨v1, vs1, d1, ds1, p1, q1, rfl, rfl, rfl, h1, r1⟩ := trodAll_cons r0
  obtain ⟨v2, vs2, d2, ds2, p2, q2, rfl, rfl, rfl, h2, r2⟩ := trodAll_cons r1
  obtain ⟨rfl, rfl, rfl⟩ := trodAll_nil r2
  obtain rfl : args = #[v0, v1, v2] := by cases args; simp_all
  obtain ⟨rfl, rfl⟩ := trodVars_none hV
  obtain ⟨a0, len0, cap0, rfl⟩ := okWide_slice Try.underlying23 (hval 0 23 v0 rfl rfl)
  have k0 := h0
  have lt0 : ∀ x ∈ p0, x.block < W.heap.size := by obtain ⟨m, hm⟩ := k0; exact DataW.trod_lt m _ _ _ hm
  obtain ⟨z0, w0⟩ : ∃ l, BS W W.heap.size (.slice a0 len0 cap0) l := by
    obtain ⟨fuel, hf⟩ := h0
    rcases open_ints Try.underlying23 Try.underlying5 (by kernel_rfl) hf with ⟨hcs, _⟩ | ⟨x, l, c, zs, hcs, _, hl, hm, hz, _, hcell, hwz⟩
    · simp [Value.cells] at hcs
      obtain ⟨rfl, rfl, rfl⟩ := hcs
      exact ⟨[], BS.nil _ _⟩
    · simp [Value.cells] at hcs
      obtain ⟨rfl, rfl, rfl⟩ := hcs
      exact bs_row hl hm (by simpa using hz) hcell hwz
  obtain ⟨a1, rfl, rfl, rfl, w1⟩ := open_int Try.underlying5 (hval 1 5 v1 rfl rfl) h1
  obtain ⟨a2, rfl, rfl, rfl, w2⟩ := open_int Try.underlying5 (hval 2 5 v2 rfl rfl) h2
  clear hA0 hval0
  refine (runsBack_walk a0 len0 cap0 z0 a1 a2 W w0 w1 w2).mono fun e W' ⟨he, bel⟩ => ?_
  subst he
  exact ⟨_, rfl, _, _, _, [], _, [], hW', trodAll_mk1 (shut_bool Try.underlying4 _), (trodAll_cons_mk (Below.trod runsBack_laidOut (by kernel_rfl) (of_decide_eq_true (by kernel_rfl)) k0 bel lt0) (trodAll_cons_mk (shut_int Try.underlying5 w1) (trodAll_cons_mk (shut_int Try.underlying5 w2) trodAll_mk0))), rfl, bel.frame _, fun h => by cases h⟩

theorem runsBack_over : Rows.runsBackRow.holds Try.pinned (OpenSpec.ofChange Rows.runsBackSpec) :=
  OpenClaim.holds_of_wide 4 Try.f4 rfl rfl rfl rfl rfl rfl rfl ⟨rfl, rfl, rfl, rfl, rfl⟩ rfl rfl rfl rfl rfl (by kernel_rfl) Try.func4 (by kernel_rfl)
    (of_decide_eq_true (by kernel_rfl)) (by unfold Func.isWrapper; first | (rw [if_pos (by decide +kernel)]; kernel_rfl) | (rw [if_neg (by decide +kernel)]; exact ⟨rfl, rfl⟩))
    (fun os started H enc _ => runsBack_lifted os started H enc)

theorem runsBack_holds : Rows.RunsBackSaid := runsBack_over
#print axioms runsBack_holds
end Go.Proofs.Ytklbfeemnekclaa
