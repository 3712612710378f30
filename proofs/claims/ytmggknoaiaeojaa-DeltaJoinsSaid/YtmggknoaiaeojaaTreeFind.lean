/- What is proved here: contracts of the program's functions that grow a suffix tree and look up the longest match in it. -/
import Derived.Test.YtmggknoaiaeojaaTreeAdd
namespace Go.Proofs.Ytmggknoaiaeojaa
open Go.RowKit
set_option linter.unusedVariables false

/-- A tree that is grown, of all of T. -/
def Grown (T : List UInt8) (sv : Value) (base tb : Nat) (w : World) : Prop := ∃ mb nv t n k u, TT T sv base w tb mb nv (nodesOf t) t.bl n ∧ GOk (chL T) T.length t k T.length u 0
theorem Grown.below {T : List UInt8} {sv : Value} {base tb : Nat} {w w' : World} (h : Grown T sv base tb w) (hb : Below w.heap.size w w') : Grown T sv base tb w' := by
  obtain ⟨mb, nv, t, n, k, u, h1, h2⟩ := h
  exact ⟨mb, nv, t, n, k, u, h1.below hb, h2⟩

theorem nodes_new : nodesOf Tr.new = [(0, 0, 0)] := rfl
theorem run_makeN (n : Nat) (hn : n ≤ 1048577) (w : World) :
    ∃ w', (Instr.makeSlice 54 (.int .i64 0) (.int .i64 (n : Int))).run Try.prog w = .ok (.slice (some ⟨w.heap.size, 0, none⟩) 0 n) w' ∧ ON w' w.heap.size (.slice (some ⟨w.heap.size, 0, none⟩) 0 n) [] ∧ w.grownBy w' none := by
  obtain ⟨i0, hi0, hz0, hz1, hz2⟩ := info_parts nodeInfo
  obtain ⟨w', h1, h2, h3⟩ := run_make_own (P := Try.prog) w w.heap.size 54 56 i0 _ 3 Try.underlying54 hi0 hz0 hz1 .i64 .i64 n (by rw [hz2]; omega) (by simp only [maxLen]; omega) (Nat.le_refl _)
  exact ⟨w', h1, h2, h3⟩
theorem run_makeMapH (n : Int) (w : World) : (Instr.makeMap 57 (some (.int .i64 n))).run Try.prog w = .ok (.map (some w.heap.size)) (w.alloc (.map #[] 0)) := by
  simp [Instr.makeMap, run_underlying Try.underlying57, asInt, asIntOf, newObj]
  rfl

/-- The tree of nothing, as it is made. -/
theorem atP_new {T : List UInt8} {sv v1 : Value} {w0 w1 : World} (hb : BS w0 w0.heap.size sv T) (hr : ON w1 w0.heap.size v1 [(0, 0, 0)]) (hbel : Below w0.heap.size w0 w1) :
    AtP T sv w0.heap.size w0 (w1.heap.size + 1) w1.heap.size (w1.heap.size + 1 + 1) 0 (((w1.alloc (.map #[] 0)).alloc (.cells #[sv, v1, .map (some w1.heap.size)] 59)).alloc (.cells #[.int .i64 0, .int .i64 0, .int .i64 0, .int .i64 0] 61)) := by
  have hsz := hbel.size
  have s1 : (w1.alloc (.map #[] 0)).heap.size = w1.heap.size + 1 := by simp
  have b1 : Below w1.heap.size w1 (w1.alloc (.map #[] 0)) := (Below.refl _ _).alloc (Nat.le_refl _) _
  have b2 : Below (w1.heap.size + 1) (w1.alloc (.map #[] 0)) ((w1.alloc (.map #[] 0)).alloc (.cells #[sv, v1, .map (some w1.heap.size)] 59)) := (Below.refl _ _).alloc (by rw [s1]; omega) _
  have ht : TT T sv w0.heap.size ((w1.alloc (.map #[] 0)).alloc (.cells #[sv, v1, .map (some w1.heap.size)] 59)) (w1.heap.size + 1) w1.heap.size v1 (nodesOf Tr.new) Tr.new.bl 0 := by
    refine ⟨?_, ?_, ?_, ?_, by omega, hsz⟩
    · exact hb.below (hbel.trans ((b1.mono hsz).trans (b2.mono (by omega))))
    · show ((w1.heap.push _).push _)[w1.heap.size + 1]? = _
      rw [Array.getElem?_push, if_pos (by simp)]
    · rw [nodes_new]
      exact (hr.below b1).below ((b2.mono (by rw [s1]; omega)))
    · exact (OM.made w1).kept (row := none) (World.grownBy_alloc _ _ none) (by simp)
  refine ⟨Tr.new, 0, 0, v1, 0, 0, 0, ⟨?_, ht.alloc _, ?_, ?_, by simp [Tr.new], by simp, by omega, by omega, by omega⟩⟩
  · exact GOk.start _ _
  · show (((w1.heap.push _).push _).push _)[w1.heap.size + 1 + 1]? = _
    rw [Array.getElem?_push, if_pos (by simp)]
    rfl
  · exact hbel.trans (((b1.mono hsz).trans (b2.mono (by omega))).trans ((Below.refl _ _).alloc (by simp; omega) _))

set_option maxHeartbeats 1000000 in
theorem grow_any (sv : Value) (T : List UInt8) (w : World) (h : BS w w.heap.size sv T) (hT : T.length ≤ 1048576) :
    Calls Try.prog 13 #[sv] w fun e w' => ∃ tb, e = .returned (.pointer (some ⟨tb, 0, none⟩)) ∧ Grown T sv w.heap.size tb w' ∧ Below w.heap.size w w' := by
  have HO := Lib.hid h
  obtain ⟨A, c, rfl, g1, g2, -⟩ := h.at_
  unfold maxLen at g2
  clear h
  obtain ⟨wm, hrun, hrow, hgm⟩ := run_makeN (T.length + 1) (by omega) w
  rw [show (((T.length + 1 : Nat) : Int)) = (T.length : Int) + 1 by omega] at hrun
  have hbm : Below w.heap.size w wm := (Below.refl _ _).grown hgm (Nat.le_refl _) (fun k hk => by cases hk)
  have HRW := Lib.hid hrow
  have HBM := Lib.hid hbm
  have hmm := run_makeMapH (T.length : Int)
  have hszm := hbm.size
  clear hrow hgm hbm
  go_enter Try.func13, Try.ntmps13
  go_wp2_with (first
    | (at_builtin; refine wpl_appN _ rfl (.tmp 10) (.tmp 12) rfl w.heap.size _ ⟨wm.heap.size, 0, none⟩ [] (0, 0, 0) rfl rfl (HRW.out.below ((Below.refl _ _).alloc (Nat.le_refl _) _)) (vN_cells wm (0, 0, 0) _) (by simp) (by simp; omega) ?_; intro v1 w1 ho1 hg1 hb1 hat1
       have HA := Lib.hid (atP_new HO.out ho1 (HBM.out.trans (((Below.refl _ _).alloc hszm _).trans hb1)))
       obtain ⟨G1, k1, cur1, rfl, r1, r2, r3, r4, r5⟩ := ho1.open_ (by simp)
       simp only [List.nil_append, List.length_cons, List.length_nil] at HA r3 ⊢
       clear ho1 hg1 hb1 hat1 r5))
  simp only [Nat.zero_add] at HA
  go_loopw [23] (fun iv wr => ∃ p : Nat, p ≤ T.length ∧ iv = .int .i64 (p : Int) ∧ AtP T (.slice A T.length c) w.heap.size w (w1.heap.size + 1) w1.heap.size (w1.heap.size + 1 + 1) p wr) (fun iv _ => T.length - (intOf iv).toNat)
  case atStart => exact ⟨0, Nat.zero_le _, rfl, HA.out⟩
  case round =>
    obtain ⟨p, hp, rfl, hA⟩ := hrel
    have HAP := Lib.hid hA
    clear hA
    by_cases hlt : p < T.length
    · go_wp2_with (first
        | (go_at_call 22; refine (add_any HAP.out hT hlt (by have := HBM.out.size; omega)).mono ?_; rintro e w2 ⟨rfl, hA2⟩))
      go_roundw
      case rel => exact ⟨p + 1, hlt, by go_num, hA2⟩
      case measure => simp [intOf]; omega
    · obtain rfl : p = T.length := by omega
      go_wp2
      go_ret
      obtain ⟨t, k, u, nv, n, ed, sz, hG⟩ := HAP.out
      exact ⟨_, rfl, ⟨_, nv, t, n, k, u, hG.tt, hG.gok⟩, hG.bel⟩

/-! ### the longest match -/
def AlikeRel (C : Nat) (w0 : World) (k : Value) (wr : World) : Prop := ∃ i : Nat, i ≤ C ∧ k = .int .i64 (i : Int) ∧ ∃ m, wr = w0.drewN m
set_option maxHeartbeats 1000000 in
theorem alike_any (v1 v2 : Value) (a b : List UInt8) (w : World) (B : Nat) (h1 : BS w B v1 a) (h2 : BS w B v2 b) (hl1 : a.length ≤ 1099511627776) (hl2 : b.length ≤ 1099511627776) :
    Calls Try.prog 24 #[v1, v2] w fun e w' => e = .returned (.int .i64 (commonL a b : Int)) ∧ ∃ m, w' = w.drewN m := by
  have HO := Lib.hid h1
  have HB := Lib.hid h2
  obtain ⟨A1, c1, rfl, g1, g2, -⟩ := h1.at_
  obtain ⟨A2, c2, rfl, g3, g4, -⟩ := h2.at_
  unfold maxLen at g2 g4
  clear h1 h2
  have hle := common_le a b
  have HH := Lib.hid (common_halt a b)
  have HAT := Lib.hid (fun k => common_at a b k)
  generalize hC : commonL a b = C at *
  have HC := Lib.hid hC
  clear hC
  by_cases hba : b.length < a.length
  · have hba' : (b.length : Int) < (a.length : Int) := by omega
    have hMa : b.length ≤ a.length := by omega
    have hMb : b.length ≤ b.length := by omega
    have hMe : C ≤ b.length := by omega
    go_enter Try.func24, Try.ntmps24
    go_wp2
    go_loopw [13] (fun k wr => AlikeRel C w k wr) (fun k _ => C - (intOf k).toNat)
    case atStart => exact ⟨0, Nat.zero_le _, rfl, 0, rfl⟩
    case round =>
      obtain ⟨k, hk, rfl, m, rfl⟩ := hrel
      by_cases hkC : k < C
      · obtain ⟨x1, x2, hab⟩ := HAT.out k hkC
        obtain ⟨ad1, rfl, hc1⟩ := HO.out.cellC k x1
        obtain ⟨ad2, rfl, hc2⟩ := HB.out.cellC k x2
        rw [hab] at hc1
        unfold vB at hc1 hc2
        have hkM : k < b.length := by omega
        clear hab
        go_wp2
        go_quiet (fail)
        go_wp2
        go_roundw
        case rel => exact ⟨k + 1, hkC, by go_num, m + nq, by first | rfl | rw [World.drewN_drewN]⟩
        case measure => simp [intOf]; omega
      · obtain rfl : k = C := by omega
        by_cases hkM : k < b.length
        · have x1 : k < a.length := by omega
          have x2 : k < b.length := by omega
          have hne : a[k] ≠ b[k] := by
            rcases HH.out with e | e | ⟨_, _, e⟩
            · omega
            · omega
            · exact e
          obtain ⟨ad1, rfl, hc1⟩ := HO.out.cellC k x1
          obtain ⟨ad2, rfl, hc2⟩ := HB.out.cellC k x2
          unfold vB at hc1 hc2
          have hne' : (((a[k]).toNat : Int) == ((b[k]).toNat : Int)) = false := beq_eq_false_iff_ne.2 (fun e => hne (UInt8.toNat_inj.1 (by omega)))
          generalize ((a[k]).toNat : Int) = x at *
          generalize ((b[k]).toNat : Int) = y at *
          have hne2 : (x != y) = true := by simp only [bne, hne', Bool.not_false]
          clear hne
          go_wp2
          go_quiet (fail)
          go_wp2
          go_ret
          exact ⟨rfl, m + nq, by first | rfl | rw [World.drewN_drewN]⟩
        · have hkE : k = b.length := by omega
          subst hkE
          go_wp2
          go_ret
          exact ⟨rfl, m, rfl⟩
  · have hba' : ¬ (b.length : Int) < (a.length : Int) := by omega
    have hMa : a.length ≤ a.length := by omega
    have hMb : a.length ≤ b.length := by omega
    have hMe : C ≤ a.length := by omega
    go_enter Try.func24, Try.ntmps24
    go_wp2
    go_loopw [13] (fun k wr => AlikeRel C w k wr) (fun k _ => C - (intOf k).toNat)
    case atStart => exact ⟨0, Nat.zero_le _, rfl, 0, rfl⟩
    case round =>
      obtain ⟨k, hk, rfl, m, rfl⟩ := hrel
      by_cases hkC : k < C
      · obtain ⟨x1, x2, hab⟩ := HAT.out k hkC
        obtain ⟨ad1, rfl, hc1⟩ := HO.out.cellC k x1
        obtain ⟨ad2, rfl, hc2⟩ := HB.out.cellC k x2
        rw [hab] at hc1
        unfold vB at hc1 hc2
        have hkM : k < a.length := by omega
        clear hab
        go_wp2
        go_quiet (fail)
        go_wp2
        go_roundw
        case rel => exact ⟨k + 1, hkC, by go_num, m + nq, by first | rfl | rw [World.drewN_drewN]⟩
        case measure => simp [intOf]; omega
      · obtain rfl : k = C := by omega
        by_cases hkM : k < a.length
        · have x1 : k < a.length := by omega
          have x2 : k < b.length := by omega
          have hne : a[k] ≠ b[k] := by
            rcases HH.out with e | e | ⟨_, _, e⟩
            · omega
            · omega
            · exact e
          obtain ⟨ad1, rfl, hc1⟩ := HO.out.cellC k x1
          obtain ⟨ad2, rfl, hc2⟩ := HB.out.cellC k x2
          unfold vB at hc1 hc2
          have hne' : (((a[k]).toNat : Int) == ((b[k]).toNat : Int)) = false := beq_eq_false_iff_ne.2 (fun e => hne (UInt8.toNat_inj.1 (by omega)))
          generalize ((a[k]).toNat : Int) = x at *
          generalize ((b[k]).toNat : Int) = y at *
          have hne2 : (x != y) = true := by simp only [bne, hne', Bool.not_false]
          clear hne
          go_wp2
          go_quiet (fail)
          go_wp2
          go_ret
          exact ⟨rfl, m + nq, by first | rfl | rw [World.drewN_drewN]⟩
        · have hkE : k = a.length := by omega
          subst hkE
          go_wp2
          go_ret
          exact ⟨rfl, m, rfl⟩
end Go.Proofs.Ytmggknoaiaeojaa
