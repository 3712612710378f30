/- What is proved here: parts of the proof of SnapTells. -/
import Derived.Test.YtbegccgpmhbnfaaGreatR14
namespace Go.Proofs.YtbegccgpmhbnfaaGreat
open Go.RowKit
set_option linter.unusedVariables false
set_option linter.unusedSimpArgs false
set_option maxRecDepth 10000
set_option maxHeartbeats 2000000
def qD (q : RdQ) : List DV := [bytesD q.1, .B q.2]
theorem fail_sp (l : List UInt8) (f : Bool) : Spn n_snap_reader_fail sg_snap_reader_fail [bytesD l, .B f] [bytesD [], .B true] := rd_snap_reader_fail rfl rfl (dret rfl)
theorem numR_yes {most : Nat} {q : RdQ} (h : (readL q.1).2.2 = 0) (h2 : (readL q.1).1 ≤ most) : numR most q = ((readL q.1).1, q.1.drop (readL q.1).2.1, q.2) := by unfold numR; rw [if_pos ⟨h, h2⟩]
theorem numR_no {most : Nat} {q : RdQ} (h : ¬ ((readL q.1).2.2 = 0 ∧ (readL q.1).1 ≤ most)) : numR most q = (0, [], true) := by unfold numR; rw [if_neg h]
theorem number_sp (most : Nat) (q : RdQ) (hm : most ≤ 1099511627776) (hq : q.1.length ≤ 1048576) : Spn n_snap_reader_number sg_snap_reader_number (.I (most : Int) :: qD q) (.I ((numR most q).1 : Int) :: qD (numR most q).2) := by
 have hb := readL_bd q.1
 have hlen := bytes_len q.1
 refine rd_snap_reader_number rfl rfl (dcall (pRead_sp q.1 (by omega)) rfl rfl rfl (deq (fun h => dlt (fun h1 => ?_) fun h1 => ?_) fun h => ?_))
 ·replace h1 : (most : Int) < ((readL q.1).1 : Int) := h1
  rw [numR_no (fun g => by omega)]
  exact dcall (fail_sp q.1 q.2) rfl rfl rfl (dret rfl)
 ·replace h : ((readL q.1).2.2 : Int) = 0 := h
  replace h1 : ¬ (most : Int) < ((readL q.1).1 : Int) := h1
  rw [numR_yes (by omega) (by omega)]
  refine dneed (Bool.and_eq_true_iff.2 ⟨decide_eq_true (show (0 : Int) ≤ ((readL q.1).2.1 : Int) by omega), decide_eq_true (show ((readL q.1).2.1 : Int) ≤ ((bytesD q.1).rows.length : Int) by rw [hlen]; omega)⟩) (dret ?_)
  have e1 : U.den (.wrap .i64) (.I ((readL q.1).1 : Int)) = .I ((readL q.1).1 : Int) := wrapI (by omega) rfl
  have e2 := drop_den (l := q.1) (env := (.I (most : Int) :: qD q) ++ r3D (readL q.1)) (A := .V 1) (X := .V 4) (k := (readL q.1).2.1) rfl rfl
  exact (congrArg (fun d => [U.den (.wrap .i64) (.I ((readL q.1).1 : Int)), d, DV.B q.2]) e2).trans (congrArg (fun d => [d, bytesD (q.1.drop (readL q.1).2.1), DV.B q.2]) e1)
 ·replace h : ¬ ((readL q.1).2.2 : Int) = 0 := h
  rw [numR_no (fun g => by omega)]
  exact dcall (fail_sp q.1 q.2) rfl rfl rfl (dret rfl)
theorem place_sp (q : RdQ) (hq : q.1.length ≤ 1048576) : Spn n_snap_reader_place sg_snap_reader_place (qD q) ([.I ((numR 1000 q).1 : Int), .I ((numR 1000 (numR 1000 q).2).1 : Int)] ++ qD (numR 1000 (numR 1000 q).2).2) := by
 have h1 := numR_rest 1000 q
 exact rd_snap_reader_place rfl rfl (dcall (number_sp 1000 q (by omega) hq) rfl rfl rfl (dcall (number_sp 1000 (numR 1000 q).2 (by omega) (by omega)) rfl rfl rfl (dret rfl)))
theorem eq1_den (n : Nat) : O.den .eq (.I (n : Int)) (.I 1) = .B (decide (n = 1)) := by
 show DV.B (decide ((n : Int) = 1)) = _
 congr 1
 rw [decide_eq_decide]; omega
theorem bools_app1 (l : List Bool) (b : Bool) : O.den .app (boolsD l) (.L [[.B b]]) = boolsD (l ++ [b]) := by
 simp [O.den, boolsD, DV.rows]
theorem tabs_sp (n : Nat) (q : RdQ) (hn : n ≤ 1048576) (hq : q.1.length ≤ 1048576) : Spn n_snap_reader_tabs sg_snap_reader_tabs (.I (n : Int) :: qD q) (boolsD (tabsR n q).1 :: qD (tabsR n q).2) := by
 refine rd_snap_reader_tabs rfl rfl (dloop (fun s : RdQ × List Bool => [bytesD s.1.1, .B s.1.2, boolsD s.2, .I (s.2.length : Int)]) (fun s => s.2.length ≤ n ∧ s.1.1.length ≤ 1048576 ∧ s.2 ++ (tabsR (n - s.2.length) s.1).1 = (tabsR n q).1 ∧ (tabsR (n - s.2.length) s.1).2 = (tabsR n q).2) (fun s => n - s.2.length) (q, []) rfl ⟨Nat.zero_le _, hq, rfl, rfl⟩ fun s hs _ => ?_)
 obtain ⟨⟨r, f⟩, L⟩ := s
 obtain ⟨h1, h2, h3, h4⟩ := hs
 simp only at h1 h2 h3 h4
 refine dlt (fun g => ?_) fun g => ?_
 ·replace g : (L.length : Int) < n := g
  obtain ⟨k, hk⟩ : ∃ k, n - L.length = k + 1 := ⟨n - L.length - 1, by omega⟩
  rw [hk] at h3 h4
  have hr := numR_rest 1 (r, f)
  have hL : ((boolsD L).rows.length : Int) = L.length := bools_len' L
  refine dcall (number_sp 1 (r, f) (by omega) h2) rfl rfl rfl (nle (le40 (n := L.length + 1) ?_ (by omega)) (dfit (show (-9223372036854775808 : Int) ≤ (L.length : Int) + 1 by omega) (show (L.length : Int) + 1 ≤ 9223372036854775807 by omega) (dagain rfl ⟨((numR 1 (r, f)).2, L ++ [decide ((numR 1 (r, f)).1 = 1)]), ?_, ⟨by simp; omega, by simp only at hr ⊢; omega, ?_, ?_⟩, by simp; omega⟩)))
  ·show ((boolsD L).rows.length : Int) + 1 = _
   rw [hL]; omega
  ·have e1 := (congrArg (fun d => O.den .app (boolsD L) (O.den .app (.L []) (U.den .one (O.den .cns (.R []) d)))) (eq1_den (numR 1 (r, f)).1)).trans (bools_app1 L _)
   refine (congrArg (fun d => [bytesD (numR 1 (r, f)).2.1, DV.B (numR 1 (r, f)).2.2, d, DV.I ((L.length : Int) + 1)]) e1).trans ?_
   simp
  ·simp only [List.length_append, List.length_cons, List.length_nil]
   rw [show n - (L.length + (0 + 1)) = k by omega, ← h3, List.append_assoc]
   rfl
  ·simp only [List.length_append, List.length_cons, List.length_nil]
   rw [show n - (L.length + (0 + 1)) = k by omega, ← h4]
   rfl
 ·replace g : ¬ (L.length : Int) < n := g
  rw [show n - L.length = 0 by omega] at h3 h4
  refine dret ?_
  rw [← h3, ← h4]
  show [boolsD L, bytesD r, DV.B f] = boolsD (L ++ []) :: qD (r, f)
  rw [List.append_nil]; rfl
theorem cellsQ_sp (n : Nat) (q : RdQ) (hn : n ≤ 1048576) (hq : q.1.length ≤ 1048576) (hk : (readCL q.1 (n : Int)).2.1 ≤ q.1.length) : Spn n_snap_reader_cells sg_snap_reader_cells (.I (n : Int) :: qD q) (cellsD (cellsR n q).1 :: qD (cellsR n q).2) := by
 have hlen := bytes_len q.1
 refine rd_snap_reader_cells rfl rfl (dcall (pReadC_sp q.1 n hn hq) rfl rfl rfl (deq (fun h => ?_) fun h => ?_))
 ·replace h : ((readCL q.1 (n : Int)).2.2 : Int) = 0 := h
  refine dneed (Bool.and_eq_true_iff.2 ⟨decide_eq_true (show (0 : Int) ≤ ((readCL q.1 (n : Int)).2.1 : Int) by omega), decide_eq_true (show ((readCL q.1 (n : Int)).2.1 : Int) ≤ ((bytesD q.1).rows.length : Int) by rw [hlen]; omega)⟩) (dret ?_)
  unfold cellsR
  rw [if_pos (by omega)]
  have e2 := drop_den (l := q.1) (env := (.I (n : Int) :: qD q) ++ rCD (readCL q.1 (n : Int))) (A := .V 1) (X := .V 4) (k := (readCL q.1 (n : Int)).2.1) rfl rfl
  exact congrArg (fun d => [cellsD (readCL q.1 (n : Int)).1, d, DV.B q.2]) e2
 ·replace h : ¬ ((readCL q.1 (n : Int)).2.2 : Int) = 0 := h
  unfold cellsR
  rw [if_neg (by omega)]
  exact dcall (fail_sp q.1 q.2) rfl rfl rfl (dret rfl)
theorem readB_at (l : List UInt8) (most : Int) : (readB l most).2.1 ≤ l.length ∧ (readB l most).1.length ≤ l.length := by
 have hb := (readL_bd l).2.1
 unfold readB
 split
 ·simp
 ·split
  ·simp
  ·split
   ·simp
   ·simp; omega
theorem bytesQ_sp (q : RdQ) (hq : q.1.length ≤ 1048576) : Spn n_snap_reader_bytes sg_snap_reader_bytes (qD q) (bytesD (bytesR q).1 :: qD (bytesR q).2) := by
 have hlen := bytes_len q.1
 have hb := readB_at q.1 (q.1.length : Int)
 refine rd_snap_reader_bytes rfl rfl (dcall (pReadB_sp q.1 q.1.length hq hq) rfl ?_ rfl (deq (fun h => ?_) fun h => ?_))
 ·exact congrArg (fun n => [bytesD q.1, DV.I n]) hlen
 ·replace h : ((readB q.1 (q.1.length : Int)).2.2 : Int) = 0 := h
  refine dneed (Bool.and_eq_true_iff.2 ⟨decide_eq_true (show (0 : Int) ≤ ((readB q.1 (q.1.length : Int)).2.1 : Int) by omega), decide_eq_true (show ((readB q.1 (q.1.length : Int)).2.1 : Int) ≤ ((bytesD q.1).rows.length : Int) by rw [hlen]; omega)⟩) (dret ?_)
  unfold bytesR
  rw [if_pos (by omega)]
  have e2 := drop_den (l := q.1) (env := qD q ++ rBD (readB q.1 (q.1.length : Int))) (A := .V 0) (X := .V 3) (k := (readB q.1 (q.1.length : Int)).2.1) rfl rfl
  exact congrArg (fun d => [bytesD (readB q.1 (q.1.length : Int)).1, d, DV.B q.2]) e2
 ·replace h : ¬ ((readB q.1 (q.1.length : Int)).2.2 : Int) = 0 := h
  unfold bytesR
  rw [if_neg (by omega)]
  exact dcall (fail_sp q.1 q.2) rfl rfl rfl (dret rfl)
theorem bytesR_rest (q : RdQ) : (bytesR q).2.1.length ≤ q.1.length ∧ (bytesR q).1.length ≤ q.1.length := by
 have hb := readB_at q.1 (q.1.length : Int)
 unfold bytesR
 split
 ·simp; omega
 ·simp
theorem ints_app1 (l : List Int) (n : Int) : O.den .app (intsD l) (.L [[.I n]]) = intsD (l ++ [n]) := by
 simp [O.den, intsD, DV.rows]
theorem paramsR_rest (n : Nat) : ∀ q : RdQ, (paramsR n q).2.1.length ≤ q.1.length ∧ (paramsR n q).1.length = n := by
 induction n with
 | zero => intro q; exact ⟨Nat.le_refl _, rfl⟩
 | succ n ih =>
  intro q
  have h1 := numR_rest 65535 q
  have h2 := ih (numR 65535 q).2
  exact ⟨Nat.le_trans h2.1 h1, by show ((paramsR n (numR 65535 q).2).1.length) + 1 = _; rw [h2.2]⟩
theorem tabsR_rest (n : Nat) : ∀ q : RdQ, (tabsR n q).2.1.length ≤ q.1.length ∧ (tabsR n q).1.length = n := by
 induction n with
 | zero => intro q; exact ⟨Nat.le_refl _, rfl⟩
 | succ n ih =>
  intro q
  have h1 := numR_rest 1 q
  have h2 := ih (numR 1 q).2
  exact ⟨Nat.le_trans h2.1 h1, by show ((tabsR n (numR 1 q).2).1.length) + 1 = _; rw [h2.2]⟩
theorem parserQ_sp (q : RdQ) (hq : q.1.length ≤ 1048576) : Spn n_snap_reader_parser sg_snap_reader_parser (qD q) (prR (parserR q).1.mode (parserR q).1.priv (parserR q).1.params (parserR q).1.inter (parserR q).1.utf ++ qD (parserR q).2) := by
 have a1 := numR_rest 7 q
 have a2 := numR_rest 255 (numR 7 q).2
 have a3 := numR_rest 16 (numR 255 (numR 7 q).2).2
 have b2 := numR_le 255 (numR 7 q).2
 have b3 := numR_le 16 (numR 255 (numR 7 q).2).2
 have e : parserR q = (⟨(numR 7 q).1, (numR 255 (numR 7 q).2).1, (paramsR (numR 16 (numR 255 (numR 7 q).2).2).1 (numR 16 (numR 255 (numR 7 q).2).2).2).1, (bytesR (paramsR (numR 16 (numR 255 (numR 7 q).2).2).1 (numR 16 (numR 255 (numR 7 q).2).2).2).2).1, (bytesR (bytesR (paramsR (numR 16 (numR 255 (numR 7 q).2).2).1 (numR 16 (numR 255 (numR 7 q).2).2).2).2).2).1⟩, (bytesR (bytesR (paramsR (numR 16 (numR 255 (numR 7 q).2).2).1 (numR 16 (numR 255 (numR 7 q).2).2).2).2).2).2) := rfl
 rw [e]
 refine rd_snap_reader_parser rfl rfl (dcall (number_sp 7 q (by omega) hq) rfl rfl rfl (dcall (number_sp 255 (numR 7 q).2 (by omega) (by omega)) rfl rfl rfl (dcall (number_sp 16 (numR 255 (numR 7 q).2).2 (by omega) (by omega)) rfl rfl rfl ?_)))
 generalize numR 7 q = A1 at *
 generalize numR 255 A1.2 = A2 at *
 generalize numR 16 A2.2 = A3 at *
 obtain ⟨n1, q1⟩ := A1
 obtain ⟨n2, q2⟩ := A2
 obtain ⟨n, q3⟩ := A3
 simp only at a1 a2 a3 b2 b3 ⊢
 have hp := paramsR_rest n q3
 generalize hPP : paramsR n q3 = PP at *
 refine dloop (fun s : RdQ × List Int => [intsD s.2, bytesD s.1.1, .B s.1.2, .I (s.2.length : Int)]) (fun s => s.2.length ≤ n ∧ s.1.1.length ≤ 1048576 ∧ s.2 ++ (paramsR (n - s.2.length) s.1).1 = PP.1 ∧ (paramsR (n - s.2.length) s.1).2 = PP.2) (fun s => n - s.2.length) (q3, []) rfl ⟨Nat.zero_le _, by simp only; omega, by rw [← hPP]; rfl, by rw [← hPP]; rfl⟩ fun s hs _ => ?_
 obtain ⟨⟨r, f⟩, L⟩ := s
 obtain ⟨h1, h2, h3, h4⟩ := hs
 simp only at h1 h2 h3 h4
 refine dlt (fun g => ?_) fun g => ?_
 ·replace g : (L.length : Int) < n := g
  obtain ⟨k, hk⟩ : ∃ k, n - L.length = k + 1 := ⟨n - L.length - 1, by omega⟩
  rw [hk] at h3 h4
  have hr := numR_rest 65535 (r, f)
  have hL := ints_len L
  refine dcall (number_sp 65535 (r, f) (by omega) h2) rfl rfl rfl (nle (le40 (n := L.length + 1) ?_ (by omega)) (dfit (show (-9223372036854775808 : Int) ≤ (L.length : Int) + 1 by omega) (show (L.length : Int) + 1 ≤ 9223372036854775807 by omega) (dagain rfl ⟨((numR 65535 (r, f)).2, L ++ [((numR 65535 (r, f)).1 : Int)]), ?_, ⟨by simp; omega, by simp only at hr ⊢; omega, ?_, ?_⟩, by simp; omega⟩)))
  ·show ((intsD L).rows.length : Int) + 1 = _
   rw [hL]; omega
  ·have e1 := ints_app1 L ((numR 65535 (r, f)).1 : Int)
   refine (congrArg (fun d => [d, bytesD (numR 65535 (r, f)).2.1, DV.B (numR 65535 (r, f)).2.2, DV.I ((L.length : Int) + 1)]) e1).trans ?_
   simp
  ·simp only [List.length_append, List.length_cons, List.length_nil]
   rw [show n - (L.length + (0 + 1)) = k by omega, ← h3, List.append_assoc]
   rfl
  ·simp only [List.length_append, List.length_cons, List.length_nil]
   rw [show n - (L.length + (0 + 1)) = k by omega, ← h4]
   rfl
 ·replace g : ¬ (L.length : Int) < n := g
  rw [show n - L.length = 0 by omega] at h3 h4
  have h3 : L ++ [] = PP.1 := h3
  have h4 : (r, f) = PP.2 := h4
  rw [List.append_nil] at h3
  obtain ⟨PP1, PP2⟩ := PP
  simp only at h3 h4 hp
  subst h3
  subst h4
  have c1 := bytesR_rest (r, f)
  simp only at c1
  refine dcall (bytesQ_sp (r, f) h2) rfl rfl rfl (dcall (bytesQ_sp (bytesR (r, f)).2 (by omega)) rfl rfl rfl (dret ?_))
  have e2 : U.den (.wrap .u8) (.I (n2 : Int)) = .I (n2 : Int) := by
   have : U.den (.wrap .u8) (.I (n2 : Int)) = .I (IntKind.u8.wrap (n2 : Int)) := rfl
   rw [this, IntKind.wrap_u8]
   exact congrArg DV.I (by omega)
  exact congrArg (fun d => [DV.I (n1 : Int), d, intsD L, bytesD (bytesR (r, f)).1, bytesD (bytesR (bytesR (r, f)).2).1, bytesD (bytesR (bytesR (r, f)).2).2.1, DV.B (bytesR (bytesR (r, f)).2).2.2]) e2
theorem bitT1 : (List.range 16).all (fun n => (!decide ((O.den (.band .i64) (.I n) (.I 1)).int = 0)) == decide (n % 2 = 1)) = true := by kernel_rfl
theorem bitT2 : (List.range 16).all (fun n => (!decide ((O.den (.band .i64) (.I n) (.I 2)).int = 0)) == decide (n / 2 % 2 = 1)) = true := by kernel_rfl
theorem bitT4 : (List.range 16).all (fun n => (!decide ((O.den (.band .i64) (.I n) (.I 4)).int = 0)) == decide (n / 4 % 2 = 1)) = true := by kernel_rfl
theorem bitT8 : (List.range 16).all (fun n => (!decide ((O.den (.band .i64) (.I n) (.I 8)).int = 0)) == decide (n / 8 % 2 = 1)) = true := by kernel_rfl
theorem wrap16n {n : Nat} (h : n ≤ 65535) : U.den (.wrap .u16) (.I (n : Int)) = .I (n : Int) := by
 have : U.den (.wrap .u16) (.I (n : Int)) = .I (IntKind.u16.wrap (n : Int)) := rfl
 rw [this, IntKind.wrap_u16]
 exact congrArg DV.I (by omega)
theorem readCL_at (b : List UInt8) (n : Nat) : (readCL b (n : Int)).2.1 ≤ b.length := by
 have key : ∀ (f : Nat) (l : List UInt8) (out : List Cl) (at_ : Nat), at_ + l.length ≤ b.length → (readF n f l out at_).2.1 ≤ b.length := by
  intro f
  induction f with
  | zero => intro l out at_ h; show at_ ≤ _; omega
  | succ f ih =>
   intro l out at_ h
   unfold readF
   split
   ·split
    ·simp
    ·rename_i he
     split
     ·simp
     ·split
      ·simp
      ·have := run3_len (b := l) (x := (run3 l).1) (k := (run3 l).2.1) (by
         have h2 : (run3 l).2.2 = 0 := by simpa using he
         exact Prod.ext rfl (Prod.ext rfl h2))
       exact ih _ _ _ (by simp; omega)
   ·show at_ ≤ _; omega
 unfold readCL
 rw [Int.toNat_natCast]
 exact key n b [] 0 (by omega)
theorem cellsR_rest (n : Nat) (q : RdQ) : (cellsR n q).2.1.length ≤ q.1.length ∧ (cellsR n q).1.length ≤ n := by
 have h := readCL_len q.1 (n : Int)
 rw [Int.toNat_natCast] at h
 unfold cellsR
 split
 ·simp; exact h
 ·simp
theorem screenQ_sp (q : RdQ) (hq : q.1.length ≤ 1048576) : Spn n_snap_reader_screen sg_snap_reader_screen (qD q) (scD (screenR q).1 ++ qD (screenR q).2) := by
 obtain ⟨A1, h1⟩ : ∃ x, numR 1000 q = x := ⟨_, rfl⟩
 obtain ⟨A2, h2⟩ : ∃ x, numR 1000 A1.2 = x := ⟨_, rfl⟩
 obtain ⟨A3, h3⟩ : ∃ x, numR 1000 A2.2 = x := ⟨_, rfl⟩
 obtain ⟨A4, h4⟩ : ∃ x, numR 1000 A3.2 = x := ⟨_, rfl⟩
 obtain ⟨A5, h5⟩ : ∃ x, numR 15 A4.2 = x := ⟨_, rfl⟩
 obtain ⟨A6, h6⟩ : ∃ x, numR 65535 A5.2 = x := ⟨_, rfl⟩
 obtain ⟨A7, h7⟩ : ∃ x, numR 1000 A6.2 = x := ⟨_, rfl⟩
 obtain ⟨A8, h8⟩ : ∃ x, numR 1000 A7.2 = x := ⟨_, rfl⟩
 obtain ⟨A9, h9⟩ : ∃ x, numR 1000 A8.2 = x := ⟨_, rfl⟩
 obtain ⟨A10, h10⟩ : ∃ x, numR 1000 A9.2 = x := ⟨_, rfl⟩
 obtain ⟨A11, h11⟩ : ∃ x, numR 65535 A10.2 = x := ⟨_, rfl⟩
 obtain ⟨TB, h12⟩ : ∃ x, tabsR A2.1 A11.2 = x := ⟨_, rfl⟩
 obtain ⟨CS, h13⟩ : ∃ x, cellsR (A1.1 * A2.1) TB.2 = x := ⟨_, rfl⟩
 have hd : headR q = (⟨A1.1, A2.1, A3.1, A4.1, A5.1, A6.1, A7.1, A8.1, A9.1, A10.1, A11.1⟩, A11.2) := by
  unfold headR; simp only [h1, h2, h3, h4, h5, h6, h7, h8, h9, h10, h11]
 have r1 := numR_rest 1000 q
 have r2 := numR_rest 1000 A1.2
 have r3 := numR_rest 1000 A2.2
 have r4 := numR_rest 1000 A3.2
 have r5 := numR_rest 15 A4.2
 have r6 := numR_rest 65535 A5.2
 have r7 := numR_rest 1000 A6.2
 have r8 := numR_rest 1000 A7.2
 have r9 := numR_rest 1000 A8.2
 have r10 := numR_rest 1000 A9.2
 have r11 := numR_rest 65535 A10.2
 have r12 := (tabsR_rest A2.1 A11.2).1
 have r13 := (cellsR_rest (A1.1 * A2.1) TB.2).1
 have l1 := numR_le 1000 q
 have l2 := numR_le 1000 A1.2
 have l5 := numR_le 15 A4.2
 have l6 := numR_le 65535 A5.2
 have l11 := numR_le 65535 A10.2
 have p1 := place_sp q hq
 rw [h1, h2] at p1
 rw [h1] at r1 l1
 rw [h2] at r2 l2
 rw [h3] at r3
 rw [h4] at r4
 rw [h5] at r5 l5
 rw [h6] at r6 l6
 rw [h7] at r7
 rw [h8] at r8
 rw [h9] at r9
 rw [h10] at r10
 rw [h11] at r11 l11
 rw [h12] at r12
 rw [h13] at r13
 have hle : A1.1 * A2.1 ≤ 1000 * 1000 := Nat.mul_le_mul l1 l2
 have p2 := place_sp A2.2 (by omega)
 rw [h3, h4] at p2
 have p3 := number_sp 15 A4.2 (by omega) (by omega)
 rw [h5] at p3
 have p4 := number_sp 65535 A5.2 (by omega) (by omega)
 rw [h6] at p4
 have p5 := place_sp A6.2 (by omega)
 rw [h7, h8] at p5
 have p6 := place_sp A8.2 (by omega)
 rw [h9, h10] at p6
 have p7 := number_sp 65535 A10.2 (by omega) (by omega)
 rw [h11] at p7
 have p8 := tabs_sp A2.1 A11.2 (by omega) (by omega)
 rw [h12] at p8
 have p9 := cellsQ_sp (A1.1 * A2.1) TB.2 (by omega) (by omega) (readCL_at _ _)
 rw [h13] at p9
 have hmul : (A1.1 : Int) * (A2.1 : Int) = ((A1.1 * A2.1 : Nat) : Int) := by push_cast; rfl
 have k16 : A5.1 ∈ List.range 16 := List.mem_range.2 (by omega)
 have t1 := eq_of_beq (List.all_eq_true.1 bitT1 _ k16)
 have t2 := eq_of_beq (List.all_eq_true.1 bitT2 _ k16)
 have t4 := eq_of_beq (List.all_eq_true.1 bitT4 _ k16)
 have t8 := eq_of_beq (List.all_eq_true.1 bitT8 _ k16)
 have w6 := wrap16n l6
 have w11 := wrap16n l11
 have fin : ∀ (o : Nat × Nat × List Cl) (P : Pr × RdQ), otherR (decide (A5.1 / 8 % 2 = 1)) (A1.1 * A2.1) CS.2 = (o, (otherR (decide (A5.1 / 8 % 2 = 1)) (A1.1 * A2.1) CS.2).2) → parserR (otherR (decide (A5.1 / 8 % 2 = 1)) (A1.1 * A2.1) CS.2).2 = P →
   [DV.I (A1.1 : Int), .I (A2.1 : Int), cellsD CS.1, .I (A3.1 : Int), .I (A4.1 : Int), .B (!decide ((O.den (.band .i64) (.I (A5.1 : Int)) (.I 1)).int = 0)), U.den (.wrap .u16) (.I (A6.1 : Int)), .I (A7.1 : Int), .I (A8.1 : Int), boolsD TB.1, .I (A9.1 : Int), .I (A10.1 : Int), U.den (.wrap .u16) (.I (A11.1 : Int)), .B (!decide ((O.den (.band .i64) (.I (A5.1 : Int)) (.I 2)).int = 0)), .B (!decide ((O.den (.band .i64) (.I (A5.1 : Int)) (.I 4)).int = 0)), .B (!decide ((O.den (.band .i64) (.I (A5.1 : Int)) (.I 8)).int = 0)), cellsD o.2.2, .I (o.1 : Int), .I (o.2.1 : Int)] ++ (prR P.1.mode P.1.priv P.1.params P.1.inter P.1.utf ++ qD P.2) = scD (screenR q).1 ++ qD (screenR q).2 := fun o P ho hP => by
  rw [t1, t2, t4, t8, w6, w11]
  unfold screenR
  simp only [hd, h12, h13]
  rw [ho]
  simp only [hP]
  rfl
 refine rd_snap_reader_screen rfl rfl (dcall p1 rfl rfl rfl (dcall p2 rfl rfl rfl (dcall p3 rfl rfl rfl (dcall p4 rfl rfl rfl (dcall p5 rfl rfl rfl (dcall p6 rfl rfl rfl (dcall p7 rfl rfl rfl ?_)))))))
 simp only [qD, List.cons_append, List.nil_append]
 refine dcall p8 rfl rfl rfl (dfit (show (-9223372036854775808 : Int) ≤ (A1.1 : Int) * (A2.1 : Int) by rw [hmul]; omega) (show (A1.1 : Int) * (A2.1 : Int) ≤ 9223372036854775807 by rw [hmul]; omega) (dcall p9 rfl (congrArg (fun n => [DV.I n, bytesD TB.2.1, DV.B TB.2.2]) hmul) rfl ?_))
 simp only [qD, List.cons_append, List.nil_append]
 refine deq (fun g => ?_) fun g => ?_
 ·have g : (O.den (.band .i64) (.I (A5.1 : Int)) (.I 8)).int = 0 := g
  have ha : decide (A5.1 / 8 % 2 = 1) = false := by rw [← t8, g]; rfl
  have ho : otherR (decide (A5.1 / 8 % 2 = 1)) (A1.1 * A2.1) CS.2 = ((0, 0, []), CS.2) := by rw [ha]; rfl
  refine dcall (parserQ_sp CS.2 (by omega)) rfl rfl rfl (dret ?_)
  exact fin (0, 0, []) (parserR CS.2) (by rw [ho]) (by rw [ho])
 ·have g : ¬ (O.den (.band .i64) (.I (A5.1 : Int)) (.I 8)).int = 0 := g
  have ha : decide (A5.1 / 8 % 2 = 1) = true := by rw [← t8, decide_eq_false g]; rfl
  obtain ⟨B1, g1⟩ : ∃ x, numR 1000 CS.2 = x := ⟨_, rfl⟩
  obtain ⟨B2, g2⟩ : ∃ x, numR 1000 B1.2 = x := ⟨_, rfl⟩
  obtain ⟨OC, g3⟩ : ∃ x, cellsR (A1.1 * A2.1) B2.2 = x := ⟨_, rfl⟩
  have s1 := numR_rest 1000 CS.2
  have s2 := numR_rest 1000 B1.2
  have s3 := (cellsR_rest (A1.1 * A2.1) B2.2).1
  rw [g1] at s1
  rw [g2] at s2
  rw [g3] at s3
  have ho : otherR (decide (A5.1 / 8 % 2 = 1)) (A1.1 * A2.1) CS.2 = ((B1.1, B2.1, OC.1), OC.2) := by
   rw [ha]
   unfold otherR
   rw [if_pos rfl]
   simp only [g1, g2, g3]
  have q1 := place_sp CS.2 (by omega)
  rw [g1, g2] at q1
  have q2 := cellsQ_sp (A1.1 * A2.1) B2.2 (by omega) (by omega) (readCL_at _ _)
  rw [g3] at q2
  refine dcall q1 rfl rfl rfl (dcall q2 rfl (congrArg (fun n => [DV.I n, bytesD B2.2.1, DV.B B2.2.2]) hmul) rfl (dcall (parserQ_sp OC.2 (by omega)) rfl rfl rfl (dret ?_)))
  exact fin (B1.1, B2.1, OC.1) (parserR OC.2) (by rw [ho]) (by rw [ho])
def noS : Sc := ⟨0, 0, [], 0, 0, false, 0, 0, 0, [], 0, 0, 0, false, false, false, [], 0, 0, ⟨0, 0, [], [], []⟩⟩
def ReadR (b : List UInt8) (r : Sc × Nat) : Prop := (r.2 = 0 ∧ IsSnap b r.1) ∨ (r = (noS, 21) ∧ ¬ ∃ s, IsSnap b s)
theorem readR_ex (b : List UInt8) : ∃ r, ReadR b r := by
 by_cases h : ∃ s, IsSnap b s
 ·obtain ⟨s, hs⟩ := h
  exact ⟨(s, 0), .inl ⟨rfl, hs⟩⟩
 ·exact ⟨_, .inr ⟨rfl, h⟩⟩
theorem isSnap_one {b : List UInt8} {s t : Sc} (h : IsSnap b s) (g : IsSnap b t) : s = t := snap_inj h.1 g.1 (h.2.trans g.2.symm)
theorem parserR_len (q : RdQ) : (parserR q).1.params.length ≤ 16 ∧ (parserR q).1.inter.length ≤ q.1.length ∧ (parserR q).1.utf.length ≤ q.1.length := by
 have d := paramsR_rest (numR 16 (numR 255 (numR 7 q).2).2).1 (numR 16 (numR 255 (numR 7 q).2).2).2
 have d1 := numR_le 16 (numR 255 (numR 7 q).2).2
 have d2 := numR_rest 16 (numR 255 (numR 7 q).2).2
 have d3 := numR_rest 255 (numR 7 q).2
 have d4 := numR_rest 7 q
 have e1 := bytesR_rest (paramsR (numR 16 (numR 255 (numR 7 q).2).2).1 (numR 16 (numR 255 (numR 7 q).2).2).2).2
 have e2 := bytesR_rest (bytesR (paramsR (numR 16 (numR 255 (numR 7 q).2).2).1 (numR 16 (numR 255 (numR 7 q).2).2).2).2).2
 unfold parserR
 simp only
 generalize numR 16 (numR 255 (numR 7 q).2).2 = A at *
 generalize paramsR A.1 A.2 = B at *
 generalize bytesR B.2 = C at *
 generalize bytesR C.2 = D at *
 omega
theorem screenR_len {b : List UInt8} (hb : b.length ≤ 1048576) : LenS (screenR (b, false)).1 := by
 unfold screenR headR
 simp only
 obtain ⟨A1, h1⟩ : ∃ x, numR 1000 (b, false) = x := ⟨_, rfl⟩
 obtain ⟨A2, h2⟩ : ∃ x, numR 1000 A1.2 = x := ⟨_, rfl⟩
 have l1 := numR_le 1000 (b, false)
 have l2 := numR_le 1000 A1.2
 have r1 := numR_rest 1000 (b, false)
 have r2 := numR_rest 1000 A1.2
 rw [h1] at l1 r1
 rw [h2] at l2 r2
 simp only [h1, h2]
 have hle : A1.1 * A2.1 ≤ 1000 * 1000 := Nat.mul_le_mul l1 l2
 obtain ⟨Q, hQ, hQl⟩ : ∃ x : RdQ, (numR 65535 (numR 1000 (numR 1000 (numR 1000 (numR 1000 (numR 65535 (numR 15 (numR 1000 (numR 1000 A2.2).2).2).2).2).2).2).2).2).2 = x ∧ x.1.length ≤ b.length := by
  refine ⟨_, rfl, ?_⟩
  refine Nat.le_trans (numR_rest _ _) (Nat.le_trans (numR_rest _ _) (Nat.le_trans (numR_rest _ _) (Nat.le_trans (numR_rest _ _) (Nat.le_trans (numR_rest _ _) (Nat.le_trans (numR_rest _ _) (Nat.le_trans (numR_rest _ _) (Nat.le_trans (numR_rest _ _) (Nat.le_trans (numR_rest _ _) (Nat.le_trans r2 r1)))))))))
 simp only [hQ]
 have t := tabsR_rest A2.1 Q
 generalize tabsR A2.1 Q = TB at *
 have c := cellsR_rest (A1.1 * A2.1) TB.2
 generalize cellsR (A1.1 * A2.1) TB.2 = CS at *
 generalize decide ((numR 15 (numR 1000 (numR 1000 A2.2).2).2).1 / 8 % 2 = 1) = alt
 have o : (otherR alt (A1.1 * A2.1) CS.2).1.2.2.length ≤ A1.1 * A2.1 ∧ (otherR alt (A1.1 * A2.1) CS.2).2.1.length ≤ b.length := by
  unfold otherR
  split
  ·have x := cellsR_rest (A1.1 * A2.1) (numR 1000 (numR 1000 CS.2).2).2
   have y := numR_rest 1000 (numR 1000 CS.2).2
   have z := numR_rest 1000 CS.2
   exact ⟨x.2, by simp only; omega⟩
  ·simp; omega
 generalize otherR alt (A1.1 * A2.1) CS.2 = OO at *
 have pp := parserR_len OO.2
 generalize parserR OO.2 = PP at *
 refine ⟨?_, ?_, ?_, ?_, ?_, ?_⟩
 ·show CS.1.length ≤ _; omega
 ·show OO.1.2.2.length ≤ _; omega
 ·show TB.1.length ≤ _; omega
 ·show PP.1.params.length ≤ _; omega
 ·show PP.1.inter.length ≤ _; omega
 ·show PP.1.utf.length ≤ _; omega
theorem pReadS_sp (b : List UInt8) (hb : b.length ≤ 1048576) {r : Sc × Nat} (hr : ReadR b r) : Spn n_snap_Read sg_snap_Read [bytesD b] (scD r.1 ++ [.I (r.2 : Int)]) := by
 have hiff := isSnap_iff b
 have hL := screenR_len hb
 have hread : ∀ s, IsSnap b s → (screenR (b, false)).1 = s := fun s h => isSnap_read h
 have hs := screenQ_sp (b, false) hb
 generalize screenR (b, false) = X at *
 obtain ⟨s, l, f⟩ := X
 simp only at hiff hL hread
 have bad : ¬ (f = false ∧ l = [] ∧ RightS (s.p.mode : Int) s) → ∀ {env : List DV} {cx}, (Tree.ret [.I 0, .I 0, .N, .I 0, .I 0, .B false, .I 0, .I 0, .I 0, .N, .I 0, .I 0, .I 0, .B false, .B false, .B false, .N, .I 0, .I 0, .I 0, .I 0, .N, .N, .N, .I 21]).den SpF1 (fun es => es = scD r.1 ++ [DV.I (r.2 : Int)]) env cx := fun h {env cx} => dret (by
   rcases hr with ⟨-, h2⟩ | ⟨rfl, -⟩
   · exact absurd (hiff.2 ⟨_, h2⟩) h
   · rfl)
 obtain ⟨u, hu⟩ := ex_bool (RightS (s.p.mode : Int) s)
 have ll := bytes_len l
 refine rd_snap_Read rfl (dcall hs rfl rfl rfl (dbr (fun h => bad ?_) fun h => dlt (fun h1 => bad ?_) fun h1 => dcall (sRight_sp (m := (s.p.mode : Int)) hL hu) rfl rfl rfl (dbr (fun h2 => dret ?_) fun h2 => bad ?_)))
 ·replace h : f = true := h
  rw [h]; simp
 ·have h1 : (0 : Int) < ((bytesD l).rows.length : Int) := h1
  rw [ll] at h1
  exact fun g => by rw [g.2.1] at h1; simp at h1
 ·replace h : f = false := h
  have h1 : ¬ (0 : Int) < ((bytesD l).rows.length : Int) := h1
  rw [ll] at h1
  have hl : l = [] := List.eq_nil_of_length_eq_zero (by omega)
  have hex := hiff.1 ⟨h, hl, hu.1 h2⟩
  rcases hr with ⟨h3, h4⟩ | ⟨-, h4⟩
  ·have := hread _ h4
   subst this
   rw [h3]; rfl
  ·exact absurd hex h4
 ·replace h2 : u = false := h2
  exact fun g => by rw [hu.2 g.2.2] at h2; cases h2
def numD (q : RdQ) : Nat × RdQ := numR 1099511627776 q
theorem partN_sp (q : RdQ) (hq : q.1.length ≤ 1048576) : Spn n_r7_part_n sg_r7_part_n (qD q) (.I ((numD q).1 : Int) :: qD (numD q).2) := by
 have hb := readL_bd q.1
 have hlen := bytes_len q.1
 refine rd_r7_part_n rfl rfl (dcall (dRead_sp q.1 (by omega)) rfl rfl rfl (deq (fun h => dlt (fun h1 => dret ?_) fun h1 => ?_) fun h => dret ?_))
 ·replace h1 : (1099511627776 : Int) < ((readL q.1).1 : Int) := h1
  unfold numD
  rw [numR_no (fun g => by omega)]; rfl
 ·replace h : ((readL q.1).2.2 : Int) = 0 := h
  replace h1 : ¬ (1099511627776 : Int) < ((readL q.1).1 : Int) := h1
  unfold numD
  rw [numR_yes (by omega) (by omega)]
  refine dneed (Bool.and_eq_true_iff.2 ⟨decide_eq_true (show (0 : Int) ≤ ((readL q.1).2.1 : Int) by omega), decide_eq_true (show ((readL q.1).2.1 : Int) ≤ ((bytesD q.1).rows.length : Int) by rw [hlen]; omega)⟩) (dret ?_)
  have e1 : U.den (.wrap .i64) (.I ((readL q.1).1 : Int)) = .I ((readL q.1).1 : Int) := wrapI (by omega) rfl
  have e2 := drop_den (l := q.1) (env := qD q ++ r3D (readL q.1)) (A := .V 0) (X := .V 3) (k := (readL q.1).2.1) rfl rfl
  exact (congrArg (fun d => [U.den (.wrap .i64) (.I ((readL q.1).1 : Int)), d, DV.B q.2]) e2).trans (congrArg (fun d => [d, bytesD (q.1.drop (readL q.1).2.1), DV.B q.2]) e1)
 ·replace h : ¬ ((readL q.1).2.2 : Int) = 0 := h
  unfold numD
  rw [numR_no (fun g => by omega)]; rfl
theorem partC_sp (n : Nat) (q : RdQ) (hn : n ≤ 1048576) (hq : q.1.length ≤ 1048576) : Spn n_r7_part_cells sg_r7_part_cells (.I (n : Int) :: qD q) (cellsD (cellsR n q).1 :: qD (cellsR n q).2) := by
 have hlen := bytes_len q.1
 have hk := readCL_at q.1 n
 refine rd_r7_part_cells rfl rfl (dcall (dReadC_sp q.1 n hn hq) rfl rfl rfl (deq (fun h => ?_) fun h => dret ?_))
 ·replace h : ((readCL q.1 (n : Int)).2.2 : Int) = 0 := h
  refine dneed (Bool.and_eq_true_iff.2 ⟨decide_eq_true (show (0 : Int) ≤ ((readCL q.1 (n : Int)).2.1 : Int) by omega), decide_eq_true (show ((readCL q.1 (n : Int)).2.1 : Int) ≤ ((bytesD q.1).rows.length : Int) by rw [hlen]; omega)⟩) (dret ?_)
  unfold cellsR
  rw [if_pos (by omega)]
  have e2 := drop_den (l := q.1) (env := (.I (n : Int) :: qD q) ++ rCD (readCL q.1 (n : Int))) (A := .V 1) (X := .V 4) (k := (readCL q.1 (n : Int)).2.1) rfl rfl
  exact congrArg (fun d => [cellsD (readCL q.1 (n : Int)).1, d, DV.B q.2]) e2
 ·replace h : ¬ ((readCL q.1 (n : Int)).2.2 : Int) = 0 := h
  unfold cellsR
  rw [if_neg (by omega)]; rfl
def bytesN (q : RdQ) : List UInt8 × RdQ := if (readB q.1 100).2.2 = 0 then ((readB q.1 100).1, q.1.drop (readB q.1 100).2.1, q.2) else ([], [], true)
theorem partB_sp (q : RdQ) (hq : q.1.length ≤ 1048576) : Spn n_r7_part_bytes sg_r7_part_bytes (qD q) (bytesD (bytesN q).1 :: qD (bytesN q).2) := by
 have hlen := bytes_len q.1
 have hb := readB_at q.1 100
 refine rd_r7_part_bytes rfl rfl (dcall (dReadB_sp q.1 100 (by omega) hq) rfl rfl rfl (deq (fun h => ?_) fun h => dret ?_))
 ·replace h : ((readB q.1 100).2.2 : Int) = 0 := h
  refine dneed (Bool.and_eq_true_iff.2 ⟨decide_eq_true (show (0 : Int) ≤ ((readB q.1 100).2.1 : Int) by omega), decide_eq_true (show ((readB q.1 100).2.1 : Int) ≤ ((bytesD q.1).rows.length : Int) by rw [hlen]; omega)⟩) (dret ?_)
  unfold bytesN
  rw [if_pos (by omega)]
  have e2 := drop_den (l := q.1) (env := qD q ++ rBD (readB q.1 100)) (A := .V 0) (X := .V 3) (k := (readB q.1 100).2.1) rfl rfl
  exact congrArg (fun d => [bytesD (readB q.1 100).1, d, DV.B q.2]) e2
 ·replace h : ¬ ((readB q.1 100).2.2 : Int) = 0 := h
  unfold bytesN
  rw [if_neg (by omega)]; rfl
theorem bytesN_rest (q : RdQ) : (bytesN q).2.1.length ≤ q.1.length ∧ (bytesN q).1.length ≤ q.1.length := by
 have hb := readB_at q.1 100
 unfold bytesN
 split
 ·simp; omega
 ·simp
theorem bytesN_put (l t : List UInt8) (hl : l.length ≤ 100) (f : Bool) : bytesN (putB l ++ t, f) = (l, t, f) := by
 unfold bytesN
 have h := readB_putB l t 100 (by omega) (by omega)
 simp only [h]
 rw [if_pos trivial, List.drop_left]
def parsI (q : RdQ) : Nat → List Int × RdQ
 | 0 => ([], q)
 | k + 1 => ((parsI q k).1 ++ [((numD (parsI q k).2).1 : Int)], (numD (parsI q k).2).2)
theorem parsI_len (q : RdQ) (k : Nat) : (parsI q k).1.length = k ∧ (parsI q k).2.1.length ≤ q.1.length := by
 induction k with
 | zero => exact ⟨rfl, Nat.le_refl _⟩
 | succ k ih =>
  have := numR_rest 1099511627776 (parsI q k).2
  refine ⟨?_, ?_⟩
  ·show ((parsI q k).1 ++ [((numD (parsI q k).2).1 : Int)]).length = _
   simp [ih.1]
  ·show (numD (parsI q k).2).2.1.length ≤ _
   exact Nat.le_trans this ih.2
theorem parsI_put (l : List Int) (hl : ∀ x ∈ l, 0 ≤ x ∧ x ≤ 65535) (t : List UInt8) (f : Bool) : ∀ k, k ≤ l.length → parsI (snumL (l.map Int.toNat) ++ t, f) k = (l.take k, snumL ((l.drop k).map Int.toNat) ++ t, f) := by
 intro k
 induction k with
 | zero => intro _; rfl
 | succ k ih =>
  intro hk
  have ih := ih (by omega)
  have k1 : k < l.length := by omega
  obtain ⟨h0, h1⟩ := hl l[k] (List.getElem_mem k1)
  show ((parsI _ k).1 ++ [((numD (parsI _ k).2).1 : Int)], (numD (parsI _ k).2).2) = _
  rw [ih]
  have e : snumL ((l.drop k).map Int.toNat) ++ t = lebP l[k].toNat ++ (snumL ((l.drop (k + 1)).map Int.toNat) ++ t) := by
   rw [drop_at k1, List.map_cons]
   show lebP l[k].toNat ++ snumL _ ++ t = _
   rw [List.append_assoc]
  simp only
  rw [e]
  have := numR_put l[k].toNat 1099511627776 (by omega) (by omega) (snumL ((l.drop (k + 1)).map Int.toNat) ++ t) f
  unfold numD
  rw [this, List.take_succ_eq_append_getElem k1, Int.toNat_of_nonneg h0]
theorem tabsB_map (l : List Bool) : tabsB l = l.map fun b => UInt8.ofNat (bN b 1) := by
 induction l with
 | nil => rfl
 | cons b l ih =>
  have : tabsB (b :: l) = lebP (bN b 1) ++ tabsB l := rfl
  rw [this, ih]
  cases b <;> rfl
def tabOf (b : UInt8) : Bool := decide ((b.toNat : Int) = 1)
theorem tabOf_tabs (l : List Bool) : (tabsB l).map tabOf = l := by
 rw [tabsB_map, List.map_map]
 conv => rhs; rw [← List.map_id l]
 refine List.map_congr_left fun b _ => ?_
 cases b <;> rfl
theorem tabsB_length (l : List Bool) : (tabsB l).length = l.length := by rw [tabsB_map]; simp
theorem modeM_id (s : Sc) : modeM (s.p.mode : Int) s = s := by
 unfold modeM
 simp
theorem fwHead {b : List UInt8} {s : Sc} (h : IsSnap b s) {A1 A2 A3 A4 A5 A6 A7 A8 A9 A10 A11 : Nat × RdQ} (h1 : numD (b, false) = A1) (h2 : numD A1.2 = A2) (h3 : numD A2.2 = A3) (h4 : numD A3.2 = A4) (h5 : numD A4.2 = A5) (h6 : numD A5.2 = A6) (h7 : numD A6.2 = A7) (h8 : numD A7.2 = A8) (h9 : numD A8.2 = A9) (h10 : numD A9.2 = A10) (h11 : numD A10.2 = A11) : A1.1 = s.rows.toNat ∧ A2.1 = s.cols.toNat ∧ A3.1 = s.y.toNat ∧ A4.1 = s.x.toNat ∧ A5.1 = bitsN s ∧ A6.1 = s.attr ∧ A7.1 = s.top.toNat ∧ A8.1 = s.bottom.toNat ∧ A9.1 = s.sy.toNat ∧ A10.1 = s.sx.toNat ∧ A11.1 = s.sattr ∧ A11.2 = (tabsB s.tabs ++ (bytL s.cells ++ (otherB s ++ parserB s.p)), false) := by
 obtain ⟨hs, rfl⟩ := h
 have r2 := hs.r2
 have c2 := hs.c2
 have y1 := hs.y1
 have x1 := hs.x1
 have b1 := hs.b1
 have tb := hs.tb
 have sy1 := hs.sy1
 have sx1 := hs.sx1
 have a1 := attrS_lt hs.attr
 have a2 := attrS_lt hs.sattr
 have bl := bits_lt s
 have e1 : snapL s = lebP (s.rows.toNat) ++ (lebP (s.cols.toNat) ++ (lebP (s.y.toNat) ++ (lebP (s.x.toNat) ++ (lebP (bitsN s) ++ (lebP (s.attr) ++ (lebP (s.top.toNat) ++ (lebP (s.bottom.toNat) ++ (lebP (s.sy.toNat) ++ (lebP (s.sx.toNat) ++ (lebP (s.sattr) ++ (tabsB s.tabs ++ (bytL s.cells ++ (otherB s ++ parserB s.p))))))))))))) := by simp [snapL, headN, snumL]
 rw [e1] at h1
 unfold numD at *
 rw [numR_put _ _ (by omega) (by omega)] at h1
 subst h1
 rw [numR_put _ _ (by omega) (by omega)] at h2
 subst h2
 rw [numR_put _ _ (by omega) (by omega)] at h3
 subst h3
 rw [numR_put _ _ (by omega) (by omega)] at h4
 subst h4
 rw [numR_put _ _ (by omega) (by omega)] at h5
 subst h5
 rw [numR_put _ _ (by omega) (by omega)] at h6
 subst h6
 rw [numR_put _ _ (by omega) (by omega)] at h7
 subst h7
 rw [numR_put _ _ (by omega) (by omega)] at h8
 subst h8
 rw [numR_put _ _ (by omega) (by omega)] at h9
 subst h9
 rw [numR_put _ _ (by omega) (by omega)] at h10
 subst h10
 rw [numR_put _ _ (by omega) (by omega)] at h11
 subst h11
 exact ⟨rfl, rfl, rfl, rfl, rfl, rfl, rfl, rfl, rfl, rfl, rfl, rfl⟩
theorem fwCells {s : Sc} (hs : RightS (s.p.mode : Int) s) (f : Bool) {r c : Nat} (hr : r = s.rows.toNat) (hc : c = s.cols.toNat) {t : List UInt8} : cellsR (r * c) (bytL s.cells ++ t, f) = (s.cells, t, f) := by
 have r2 := hs.r2
 have c2 := hs.c2
 have hle : s.rows.toNat * s.cols.toNat ≤ 1000 * 1000 := Nat.mul_le_mul (by omega) (by omega)
 obtain ⟨n1, n2, -⟩ := hs.cells
 rw [hr, hc, ← n1]
 exact cellsR_put s.cells n2 (by omega) t f
theorem fwOther {s : Sc} (hs : RightS (s.p.mode : Int) s) (ha : s.alt = true) (f : Bool) {r c : Nat} (hr : r = s.rows.toNat) (hc : c = s.cols.toNat) {t : List UInt8} {B1 B2 : Nat × RdQ} {OC : List Cl × RdQ} (h1 : numD (otherB s ++ t, f) = B1) (h2 : numD B1.2 = B2) (h3 : cellsR (r * c) B2.2 = OC) : B1.1 = s.oy.toNat ∧ B2.1 = s.ox.toNat ∧ OC = (s.other, t, f) := by
 have r2 := hs.r2
 have c2 := hs.c2
 have oy1 := hs.oy1
 have ox1 := hs.ox1
 have hle : s.rows.toNat * s.cols.toNat ≤ 1000 * 1000 := Nat.mul_le_mul (by omega) (by omega)
 obtain ⟨n1, n2, -⟩ := hs.other ha
 have e1 : otherB s ++ t = lebP s.oy.toNat ++ (lebP s.ox.toNat ++ (bytL s.other ++ t)) := by
  unfold otherB
  rw [if_pos ha]
  simp [snumL]
 rw [e1] at h1
 unfold numD at *
 rw [numR_put _ _ (by omega) (by omega)] at h1
 subst h1
 rw [numR_put _ _ (by omega) (by omega)] at h2
 subst h2
 rw [hr, hc, ← n1, cellsR_put s.other n2 (by omega) t f] at h3
 exact ⟨rfl, rfl, h3.symm⟩
theorem fwParser {p : Pr} (hp : RightP (p.mode : Int) p.priv p.params p.inter p.utf) (f : Bool) {N1 N2 N3 : Nat × RdQ} {I U : List UInt8 × RdQ} (h1 : numD (parserB p, f) = N1) (h2 : numD N1.2 = N2) (h3 : numD N2.2 = N3) :
  N1.1 = p.mode ∧ N2.1 = p.priv ∧ N3.1 = p.params.length ∧ p.params.length ≤ 16 ∧ p.priv ≤ 255 ∧ (bytesN (parsI N3.2 N3.1).2 = I → bytesN I.2 = U → (parsI N3.2 N3.1).1 = p.params ∧ I.1 = p.inter ∧ U = (p.utf, [], f)) := by
 obtain ⟨⟨-, m7, k16, i2, hu⟩, hps, -, hpv, -, -⟩ := hp
 have hul : p.utf.length ≤ 3 := by
  rcases Nat.eq_zero_or_pos p.utf.length with h | h
  ·omega
  ·exact (beginsL_len _ (hu h).2).2
 have e1 : parserB p = lebP p.mode ++ (lebP p.priv ++ (lebP p.params.length ++ (snumL (p.params.map Int.toNat) ++ (putB p.inter ++ (putB p.utf ++ []))))) := by simp [parserB, snumL]
 rw [e1] at h1
 unfold numD at h1 h2 h3
 rw [numR_put _ _ (by omega) (by omega)] at h1
 subst h1
 rw [numR_put _ _ (by omega) (by omega)] at h2
 subst h2
 rw [numR_put _ _ (by omega) (by omega)] at h3
 subst h3
 refine ⟨rfl, rfl, rfl, by omega, by omega, fun g1 g2 => ?_⟩
 simp only at g1 ⊢
 rw [parsI_put _ hps _ _ _ (Nat.le_refl _), List.drop_length] at g1
 rw [parsI_put _ hps _ _ _ (Nat.le_refl _), List.take_length]
 have g1 : bytesN (putB p.inter ++ (putB p.utf ++ []), f) = I := g1
 rw [bytesN_put _ _ (by omega)] at g1
 subst g1
 rw [bytesN_put _ _ (by omega)] at g2
 exact ⟨rfl, rfl, g2.symm⟩
theorem bad_ret {b : List UInt8} {r : Sc × Nat} (hr : ReadR b r) (h : ¬ ∃ s, IsSnap b s) {env : List DV} {cx} : (Tree.ret [.I 0, .I 0, .N, .I 0, .I 0, .B false, .I 0, .I 0, .I 0, .N, .I 0, .I 0, .I 0, .B false, .B false, .B false, .N, .I 0, .I 0, .I 0, .I 0, .N, .N, .N, .I 21]).den SpF1 (fun es => es = scD r.1 ++ [DV.I (r.2 : Int)]) env cx := dret (by
  rcases hr with ⟨-, h2⟩ | ⟨rfl, -⟩
  · exact absurd ⟨_, h2⟩ h
  · rfl)
theorem dEnd {b : List UInt8} {r : Sc × Nat} (hr : ReadR b r) (S : Sc) (fl : Bool) (hL : LenS S) (hfw : ∀ s, IsSnap b s → S = s ∧ fl = false) {R : List UInt8 × Nat} (hR : PutR (S.p.mode : Int) S R) :
  (fl = true → ¬ ∃ s, IsSnap b s) ∧ (R.2 ≠ 0 → ¬ ∃ s, IsSnap b s) ∧ (R.1 ≠ b → ¬ ∃ s, IsSnap b s) ∧ (R.2 = 0 → R.1 = b → scD S ++ [DV.I 0] = scD r.1 ++ [DV.I (r.2 : Int)]) := by
 have put : (∃ s, IsSnap b s) → fl = false ∧ R = (b, 0) := fun ⟨s, hs⟩ => by
  obtain ⟨h1, h2⟩ := hfw s hs
  subst h1
  rcases hR with ⟨-, rfl⟩ | ⟨h3, -⟩
  ·rw [modeM_id, hs.2]; exact ⟨h2, rfl⟩
  ·exact absurd hs.1 h3
 refine ⟨fun h g => ?_, fun h g => h (by rw [(put g).2]), fun h g => h (by rw [(put g).2]), fun h1 h2 => ?_⟩
 ·rw [(put g).1] at h; cases h
 ·rcases hR with ⟨h3, rfl⟩ | ⟨-, rfl⟩
  ·have hs : IsSnap b S := ⟨h3, by rw [modeM_id] at h2; exact h2⟩
   rcases hr with ⟨g1, g2⟩ | ⟨-, g⟩
   ·rw [isSnap_one hs g2, g1]; rfl
   ·exact absurd ⟨S, hs⟩ g
  ·cases h1
theorem dReadS_sp (b : List UInt8) (hb : b.length ≤ 1048576) {r : Sc × Nat} (hr : ReadR b r) : Spn n_r7_Read sg_r7_Read [bytesD b] (scD r.1 ++ [.I (r.2 : Int)]) := by
 obtain ⟨A1, h1⟩ : ∃ x, numD (b, false) = x := ⟨_, rfl⟩
 obtain ⟨A2, h2⟩ : ∃ x, numD A1.2 = x := ⟨_, rfl⟩
 obtain ⟨A3, h3⟩ : ∃ x, numD A2.2 = x := ⟨_, rfl⟩
 obtain ⟨A4, h4⟩ : ∃ x, numD A3.2 = x := ⟨_, rfl⟩
 obtain ⟨A5, h5⟩ : ∃ x, numD A4.2 = x := ⟨_, rfl⟩
 obtain ⟨A6, h6⟩ : ∃ x, numD A5.2 = x := ⟨_, rfl⟩
 obtain ⟨A7, h7⟩ : ∃ x, numD A6.2 = x := ⟨_, rfl⟩
 obtain ⟨A8, h8⟩ : ∃ x, numD A7.2 = x := ⟨_, rfl⟩
 obtain ⟨A9, h9⟩ : ∃ x, numD A8.2 = x := ⟨_, rfl⟩
 obtain ⟨A10, h10⟩ : ∃ x, numD A9.2 = x := ⟨_, rfl⟩
 obtain ⟨A11, h11⟩ : ∃ x, numD A10.2 = x := ⟨_, rfl⟩
 have r1 : (numD (b, false)).2.1.length ≤ _ := numR_rest 1099511627776 (b, false)
 rw [h1] at r1
 have r2 : (numD A1.2).2.1.length ≤ _ := numR_rest 1099511627776 A1.2
 rw [h2] at r2
 have r3 : (numD A2.2).2.1.length ≤ _ := numR_rest 1099511627776 A2.2
 rw [h3] at r3
 have r4 : (numD A3.2).2.1.length ≤ _ := numR_rest 1099511627776 A3.2
 rw [h4] at r4
 have r5 : (numD A4.2).2.1.length ≤ _ := numR_rest 1099511627776 A4.2
 rw [h5] at r5
 have r6 : (numD A5.2).2.1.length ≤ _ := numR_rest 1099511627776 A5.2
 rw [h6] at r6
 have r7 : (numD A6.2).2.1.length ≤ _ := numR_rest 1099511627776 A6.2
 rw [h7] at r7
 have r8 : (numD A7.2).2.1.length ≤ _ := numR_rest 1099511627776 A7.2
 rw [h8] at r8
 have r9 : (numD A8.2).2.1.length ≤ _ := numR_rest 1099511627776 A8.2
 rw [h9] at r9
 have r10 : (numD A9.2).2.1.length ≤ _ := numR_rest 1099511627776 A9.2
 rw [h10] at r10
 have r11 : (numD A10.2).2.1.length ≤ _ := numR_rest 1099511627776 A10.2
 rw [h11] at r11
 have p1 := partN_sp (b, false) (by simp only at *; omega)
 rw [h1] at p1
 have p2 := partN_sp A1.2 (by simp only at *; omega)
 rw [h2] at p2
 have p3 := partN_sp A2.2 (by simp only at *; omega)
 rw [h3] at p3
 have p4 := partN_sp A3.2 (by simp only at *; omega)
 rw [h4] at p4
 have p5 := partN_sp A4.2 (by simp only at *; omega)
 rw [h5] at p5
 have p6 := partN_sp A5.2 (by simp only at *; omega)
 rw [h6] at p6
 have p7 := partN_sp A6.2 (by simp only at *; omega)
 rw [h7] at p7
 have p8 := partN_sp A7.2 (by simp only at *; omega)
 rw [h8] at p8
 have p9 := partN_sp A8.2 (by simp only at *; omega)
 rw [h9] at p9
 have p10 := partN_sp A9.2 (by simp only at *; omega)
 rw [h10] at p10
 have p11 := partN_sp A10.2 (by simp only at *; omega)
 rw [h11] at p11
 have fw := fun s (hs : IsSnap b s) => fwHead hs h1 h2 h3 h4 h5 h6 h7 h8 h9 h10 h11
 have hA11 : A11.2.1.length ≤ b.length := by simp only at r1; omega
 clear h1 h2 h3 h4 h5 h6 h7 h8 h9 h10 h11
 obtain ⟨n1, q1⟩ := A1
 obtain ⟨n2, q2⟩ := A2
 obtain ⟨n3, q3⟩ := A3
 obtain ⟨n4, q4⟩ := A4
 obtain ⟨n5, q5⟩ := A5
 obtain ⟨n6, q6⟩ := A6
 obtain ⟨n7, q7⟩ := A7
 obtain ⟨n8, q8⟩ := A8
 obtain ⟨n9, q9⟩ := A9
 obtain ⟨n10, q10⟩ := A10
 obtain ⟨n11, q11⟩ := A11
 obtain ⟨l, f⟩ := q11
 simp only at fw hA11 r1 p1 r2 p2 r3 p3 r4 p4 r5 p5 r6 p6 r7 p7 r8 p8 r9 p9 r10 p10 r11 p11
 clear r1 r2 r3 r4 r5 r6 r7 r8 r9 r10 r11
 have ll := bytes_len l
 refine rd_r7_Read rfl (dcall p1 rfl rfl rfl (dcall p2 rfl rfl rfl (dcall p3 rfl rfl rfl (dcall p4 rfl rfl rfl (dcall p5 rfl rfl rfl (dcall p6 rfl rfl rfl (dcall p7 rfl rfl rfl (dcall p8 rfl rfl rfl (dcall p9 rfl rfl rfl (dcall p10 rfl rfl rfl (dcall p11 rfl rfl rfl ?_)))))))))))
 simp only [qD, List.cons_append, List.nil_append]
 refine dbr (fun g0 => bad_ret hr ?_) fun g0 => dlt (fun g1 => bad_ret hr ?_) fun g1 => dlt (fun g2 => bad_ret hr ?_) fun g2 => dlt (fun g3 => bad_ret hr ?_) fun g3 => dlt (fun g4 => bad_ret hr ?_) fun g4 => dlt (fun g5 => bad_ret hr ?_) fun g5 => ?_
 ·replace g0 : f = true := g0
  rintro ⟨s, hs⟩
  have := (fw s hs).2.2.2.2.2.2.2.2.2.2.2
  simp only [Prod.mk.injEq] at this
  rw [this.2] at g0; cases g0
 ·replace g1 : (n1 : Int) < 1 := g1
  rintro ⟨s, hs⟩
  have := (fw s hs).1
  have := hs.1.r1
  omega
 ·replace g2 : (1000 : Int) < n1 := g2
  rintro ⟨s, hs⟩
  have := (fw s hs).1
  have := hs.1.r2
  omega
 ·replace g3 : (n2 : Int) < 1 := g3
  rintro ⟨s, hs⟩
  have := (fw s hs).2.1
  have := hs.1.c1
  omega
 ·replace g4 : (1000 : Int) < n2 := g4
  rintro ⟨s, hs⟩
  have := (fw s hs).2.1
  have := hs.1.c2
  omega
 ·have g5 : ((bytesD l).rows.length : Int) < n2 := g5
  rw [ll] at g5
  rintro ⟨s, hs⟩
  have h1 := (fw s hs).2.1
  have h2 := (fw s hs).2.2.2.2.2.2.2.2.2.2.2
  have h3 := hs.1.tabs
  have h4 := tabsB_length s.tabs
  simp only [Prod.mk.injEq] at h2
  have h5 := congrArg List.length h2.1
  rw [List.length_append] at h5
  omega
 replace g1 : ¬ (n1 : Int) < 1 := g1
 replace g2 : ¬ (1000 : Int) < n1 := g2
 replace g3 : ¬ (n2 : Int) < 1 := g3
 replace g4 : ¬ (1000 : Int) < n2 := g4
 have g5 : ¬ ((bytesD l).rows.length : Int) < n2 := g5
 rw [ll] at g5
 refine dloop (fun k : Nat => [boolsD ((l.take k).map tabOf), .I (k : Int)]) (fun k => k ≤ n2) (fun k => n2 - k) 0 rfl (Nat.zero_le _) fun k hk _ => ?_
 refine dlt (fun g => ?_) fun g => ?_
 ·replace g : (k : Int) < n2 := g
  have k1 : k < l.length := by omega
  have e1 := bytes_at k1
  have hl2 : ((boolsD ((l.take k).map tabOf)).rows.length : Int) = k := by rw [bools_len', List.length_map, List.length_take]; omega
  refine dwithin (show (0 : Int) ≤ k by omega) (show (k : Int) < ((bytesD l).rows.length : Int) by rw [ll]; omega) (nle (le40 (n := k + 1) ?_ (by omega)) (dfit (show (-9223372036854775808 : Int) ≤ (k : Int) + 1 by omega) (show (k : Int) + 1 ≤ 9223372036854775807 by omega) (dagain rfl ⟨k + 1, ?_, by omega, by omega⟩)))
  ·show ((boolsD ((l.take k).map tabOf)).rows.length : Int) + 1 = _
   rw [hl2]; omega
  ·have e3 : O.den .eq (((bytesD l).rows.getD k []).getD 0 (.I 0)) (.I 1) = .B (tabOf l[k]) := by rw [e1]; rfl
   have e4 := (congrArg (fun d => O.den .app (boolsD ((l.take k).map tabOf)) (O.den .app (.L []) (U.den .one (O.den .cns (.R []) d)))) e3).trans (bools_app1 ((l.take k).map tabOf) (tabOf l[k]))
   have e5 : (l.take (k + 1)).map tabOf = (l.take k).map tabOf ++ [tabOf l[k]] := by rw [List.take_succ_eq_append_getElem k1, List.map_append]; rfl
   rw [e5]
   exact congrArg (fun d => [d, DV.I ((k : Int) + 1)]) e4
 replace g : ¬ (k : Int) < n2 := g
 obtain rfl : k = n2 := by omega
 have hle : n1 * k ≤ 1000 * 1000 := Nat.mul_le_mul (by omega) (by omega)
 have hmul : (n1 : Int) * (k : Int) = ((n1 * k : Nat) : Int) := by push_cast; rfl
 have hT : ((l.take k).map tabOf).length = k := by rw [List.length_map, List.length_take]; omega
 have fwT : ∀ s, IsSnap b s → (l.take k).map tabOf = s.tabs ∧ (l.drop k, f) = (bytL s.cells ++ (otherB s ++ parserB s.p), false) := fun s hs => by
  have h1 := (fw s hs).2.1
  have h2 := (fw s hs).2.2.2.2.2.2.2.2.2.2.2
  have h3 := hs.1.tabs
  have h4 := tabsB_length s.tabs
  simp only [Prod.mk.injEq] at h2
  have h5 : k = (tabsB s.tabs).length := by omega
  rw [h2.1, h2.2, h5, List.take_left, List.drop_left, tabOf_tabs]
  exact ⟨rfl, rfl⟩
 generalize (l.take k).map tabOf = T at *
 obtain ⟨CS, h13⟩ : ∃ x, cellsR (n1 * k) (l.drop k, f) = x := ⟨_, rfl⟩
 have c1 := cellsR_rest (n1 * k) (l.drop k, f)
 have p13 := partC_sp (n1 * k) (l.drop k, f) (by omega) (by simp; omega)
 rw [h13] at c1 p13
 have fwC : ∀ s, IsSnap b s → CS = (s.cells, otherB s ++ parserB s.p, false) := fun s hs => by
  rw [← h13, (fwT s hs).2]
  exact fwCells hs.1 false (fw s hs).1 (fw s hs).2.1
 simp only [List.cons_append, List.nil_append]
 have e6 := drop_den (l := l) (env := [bytesD b, DV.I (n1 : Int), bytesD q1.1, DV.B q1.2, DV.I (k : Int), bytesD q2.1, DV.B q2.2, DV.I (n3 : Int), bytesD q3.1, DV.B q3.2, DV.I (n4 : Int), bytesD q4.1, DV.B q4.2, DV.I (n5 : Int), bytesD q5.1, DV.B q5.2, DV.I (n6 : Int), bytesD q6.1, DV.B q6.2, DV.I (n7 : Int), bytesD q7.1, DV.B q7.2, DV.I (n8 : Int), bytesD q8.1, DV.B q8.2, DV.I (n9 : Int), bytesD q9.1, DV.B q9.2, DV.I (n10 : Int), bytesD q10.1, DV.B q10.2, DV.I (n11 : Int), bytesD l, DV.B f, boolsD T, DV.I (k : Int)]) (A := .V 32) (X := .V 4) (k := k) rfl rfl
 refine nle (show (k : Int) ≤ ((bytesD l).rows.length : Int) by rw [ll]; omega) (dfit (show (-9223372036854775808 : Int) ≤ (n1 : Int) * (k : Int) by rw [hmul]; omega) (show (n1 : Int) * (k : Int) ≤ 9223372036854775807 by rw [hmul]; omega) (dcall p13 rfl ((congrArg (fun d => [DV.I ((n1 : Int) * (k : Int)), d, DV.B f]) e6).trans (congrArg (fun n => [DV.I n, bytesD (l.drop k), DV.B f]) hmul)) rfl ?_))
 obtain ⟨cs, q13⟩ := CS
 have c1l : q13.1.length ≤ l.length := by have := c1.1; simp at this; omega
 have c1r : cs.length ≤ 1000000 := by have := c1.2; simp only at this; omega
 clear c1 p13 e6 p1 p2 p3 p4 p5 p6 p7 p8 p9 p10 p11
 simp only [qD, List.cons_append, List.nil_append]
 have fwB : ∀ s, IsSnap b s → (!decide ((O.den (.band .i64) (.I (n5 : Int)) (.I 1)).int = 0)) = s.wrap ∧ (!decide ((O.den (.band .i64) (.I (n5 : Int)) (.I 2)).int = 0)) = s.auto ∧ (!decide ((O.den (.band .i64) (.I (n5 : Int)) (.I 4)).int = 0)) = s.shown ∧ (!decide ((O.den (.band .i64) (.I (n5 : Int)) (.I 8)).int = 0)) = s.alt := fun s hs => by
  have h1 := (fw s hs).2.2.2.2.1
  have h2 := bits_lt s
  have k16 : n5 ∈ List.range 16 := List.mem_range.2 (by omega)
  obtain ⟨w1, w2, w3, w4⟩ := bits_back s
  rw [← h1] at w1 w2 w3 w4
  exact ⟨(eq_of_beq (List.all_eq_true.1 bitT1 _ k16)).trans w1, (eq_of_beq (List.all_eq_true.1 bitT2 _ k16)).trans w2, (eq_of_beq (List.all_eq_true.1 bitT4 _ k16)).trans w3, (eq_of_beq (List.all_eq_true.1 bitT8 _ k16)).trans w4⟩
 have w6 : U.den (.wrap .u16) (.I (n6 : Int)) = .I ((n6 % 65536 : Nat) : Int) := by
  have : U.den (.wrap .u16) (.I (n6 : Int)) = .I (IntKind.u16.wrap (n6 : Int)) := rfl
  rw [this, IntKind.wrap_u16]
  exact congrArg DV.I (by omega)
 have w11 : U.den (.wrap .u16) (.I (n11 : Int)) = .I ((n11 % 65536 : Nat) : Int) := by
  have : U.den (.wrap .u16) (.I (n11 : Int)) = .I (IntKind.u16.wrap (n11 : Int)) := rfl
  rw [this, IntKind.wrap_u16]
  exact congrArg DV.I (by omega)
 have lb := bytes_len b
 have fin : ∀ (oc : List Cl) (oy ox m pv0 : Nat) (ps : List Int) (is us : List UInt8) (fl : Bool), oc.length ≤ 1000000 → ps.length ≤ 1000 → is.length ≤ 1048576 → us.length ≤ 1048576 → (∀ s, IsSnap b s → oc = s.other ∧ oy = s.oy.toNat ∧ ox = s.ox.toNat ∧ m = s.p.mode ∧ pv0 % 256 = s.p.priv ∧ ps = s.p.params ∧ is = s.p.inter ∧ us = s.p.utf ∧ fl = false) →
   ∃ (S : Sc) (R : List UInt8 × Nat), PutR (S.p.mode : Int) S R ∧ LenS S ∧ [DV.I (n1 : Int), .I (k : Int), cellsD cs, .I (n3 : Int), .I (n4 : Int), .B (!decide ((O.den (.band .i64) (.I (n5 : Int)) (.I 1)).int = 0)), U.den (.wrap .u16) (.I (n6 : Int)), .I (n7 : Int), .I (n8 : Int), boolsD T, .I (n9 : Int), .I (n10 : Int), U.den (.wrap .u16) (.I (n11 : Int)), .B (!decide ((O.den (.band .i64) (.I (n5 : Int)) (.I 2)).int = 0)), .B (!decide ((O.den (.band .i64) (.I (n5 : Int)) (.I 4)).int = 0)), .B (!decide ((O.den (.band .i64) (.I (n5 : Int)) (.I 8)).int = 0)), cellsD oc, .I (oy : Int), .I (ox : Int), .I (m : Int), U.den (.wrap .u8) (.I (pv0 : Int)), intsD ps, bytesD is, bytesD us] = scR (S.p.mode : Int) S ∧
    ((fl = true → ¬ ∃ s, IsSnap b s) ∧ (R.2 ≠ 0 → ¬ ∃ s, IsSnap b s) ∧ (R.1 ≠ b → ¬ ∃ s, IsSnap b s) ∧ (R.2 = 0 → R.1 = b → scD S ++ [DV.I 0] = scD r.1 ++ [DV.I (r.2 : Int)])) := fun oc oy ox m pv0 ps is us fl o1 o2 o3 o4 hf => by
  have w8 : U.den (.wrap .u8) (.I (pv0 : Int)) = .I ((pv0 % 256 : Nat) : Int) := by
   have : U.den (.wrap .u8) (.I (pv0 : Int)) = .I (IntKind.u8.wrap (pv0 : Int)) := rfl
   rw [this, IntKind.wrap_u8]
   exact congrArg DV.I (by omega)
  obtain ⟨R, hR⟩ := putR_ex (m : Int) ⟨(n1 : Int), (k : Int), cs, (n3 : Int), (n4 : Int), !decide ((O.den (.band .i64) (.I (n5 : Int)) (.I 1)).int = 0), n6 % 65536, (n7 : Int), (n8 : Int), T, (n9 : Int), (n10 : Int), n11 % 65536, !decide ((O.den (.band .i64) (.I (n5 : Int)) (.I 2)).int = 0), !decide ((O.den (.band .i64) (.I (n5 : Int)) (.I 4)).int = 0), !decide ((O.den (.band .i64) (.I (n5 : Int)) (.I 8)).int = 0), oc, (oy : Int), (ox : Int), ⟨m, pv0 % 256, ps, is, us⟩⟩
  have hL : LenS ⟨(n1 : Int), (k : Int), cs, (n3 : Int), (n4 : Int), !decide ((O.den (.band .i64) (.I (n5 : Int)) (.I 1)).int = 0), n6 % 65536, (n7 : Int), (n8 : Int), T, (n9 : Int), (n10 : Int), n11 % 65536, !decide ((O.den (.band .i64) (.I (n5 : Int)) (.I 2)).int = 0), !decide ((O.den (.band .i64) (.I (n5 : Int)) (.I 4)).int = 0), !decide ((O.den (.band .i64) (.I (n5 : Int)) (.I 8)).int = 0), oc, (oy : Int), (ox : Int), ⟨m, pv0 % 256, ps, is, us⟩⟩ := ⟨by simp only; omega, by simp only; omega, by simp only; omega, by simp only; omega, o3, o4⟩
  refine ⟨_, R, hR, hL, by rw [w6, w11, w8]; rfl, dEnd hr _ fl hL (fun s hs => ?_) hR⟩
  obtain ⟨f1, f2, f3, f4, f5, f6, f7, f8, f9, f10, f11, -⟩ := fw s hs
  obtain ⟨b1, b2, b3, b4⟩ := fwB s hs
  obtain ⟨t1, -⟩ := fwT s hs
  have t2 := fwC s hs
  obtain ⟨o1, o2, o3, o4, o5, o6, o7, o8, o9⟩ := hf s hs
  have hq := hs.1
  have a1 := attrS_lt hq.attr
  have a2 := attrS_lt hq.sattr
  have z1 := hq.r1
  have z2 := hq.c1
  have z3 := hq.y0
  have z4 := hq.x0
  have z5 := hq.t0
  have z6 := hq.tb
  have z7 := hq.sy0
  have z8 := hq.sx0
  have z9 := hq.oy0
  have z10 := hq.ox0
  simp only [Prod.mk.injEq] at t2
  refine ⟨?_, o9⟩
  obtain ⟨s1, s2, s3, s4, s5, s6, s7, s8, s9, s10, s11, s12, s13, s14, s15, s16, s17, s18, s19, ⟨u1, u2, u3, u4, u5⟩⟩ := s
  simp only at f1 f2 f3 f4 f6 f7 f8 f9 f10 f11 b1 b2 b3 b4 t1 t2 o1 o2 o3 o4 o5 o6 o7 o8 a1 a2 z1 z2 z3 z4 z5 z6 z7 z8 z9 z10
  simp only [Sc.mk.injEq, Pr.mk.injEq]
  refine ⟨by omega, by omega, t2.1, by omega, by omega, b1, by omega, by omega, by omega, t1, by omega, by omega, by omega, b2, b3, b4, o1, by omega, by omega, o4, o5, o6, o7, o8⟩
 refine deq (fun g8 => ?_) fun g8 => ?_
 ·have g8 : (O.den (.band .i64) (.I (n5 : Int)) (.I 8)).int = 0 := g8
  have hal : ∀ s, IsSnap b s → s.alt = false := fun s hs => by rw [← (fwB s hs).2.2.2, g8]; rfl
  have fwO : ∀ s, IsSnap b s → ([] : List Cl) = s.other ∧ 0 = s.oy.toNat ∧ 0 = s.ox.toNat ∧ q13 = (parserB s.p, false) := fun s hs => by
   obtain ⟨h1, h2, h3⟩ := hs.1.noAlt (hal s hs)
   have h4 := fwC s hs
   simp only [Prod.mk.injEq] at h4
   refine ⟨(List.eq_nil_of_length_eq_zero h1).symm, by rw [h2]; rfl, by rw [h3]; rfl, ?_⟩
   rw [h4.2]
   unfold otherB
   rw [if_neg (by rw [hal s hs]; decide)]
   rfl
  obtain ⟨q14, hq14⟩ : ∃ x, x = q13 := ⟨_, rfl⟩
  rw [← hq14] at fwO c1l
  rw [← hq14]
  have q14l := c1l
  clear hq14
  obtain ⟨N1, m1⟩ : ∃ x, numD q14 = x := ⟨_, rfl⟩
  obtain ⟨N2, m2⟩ : ∃ x, numD N1.2 = x := ⟨_, rfl⟩
  obtain ⟨N3, m3⟩ : ∃ x, numD N2.2 = x := ⟨_, rfl⟩
  have v1 : (numD q14).2.1.length ≤ _ := numR_rest 1099511627776 q14
  have v2 : (numD N1.2).2.1.length ≤ _ := numR_rest 1099511627776 N1.2
  have v3 : (numD N2.2).2.1.length ≤ _ := numR_rest 1099511627776 N2.2
  rw [m1] at v1
  rw [m2] at v2
  rw [m3] at v3
  have y1 := partN_sp q14 (by omega)
  rw [m1] at y1
  have y2 := partN_sp N1.2 (by omega)
  rw [m2] at y2
  have y3 := partN_sp N2.2 (by omega)
  rw [m3] at y3
  have fwP : ∀ s, IsSnap b s → ∀ {I U : List UInt8 × RdQ}, N1.1 = s.p.mode ∧ N2.1 = s.p.priv ∧ N3.1 = s.p.params.length ∧ s.p.params.length ≤ 16 ∧ s.p.priv ≤ 255 ∧ (bytesN (parsI N3.2 N3.1).2 = I → bytesN I.2 = U → (parsI N3.2 N3.1).1 = s.p.params ∧ I.1 = s.p.inter ∧ U = (s.p.utf, [], false)) := fun s hs {I U} => by
   have hq : q14 = (parserB s.p, false) := (fwO s hs).2.2.2
   exact fwParser hs.1.p false (by rw [← hq]; exact m1) m2 m3
  obtain ⟨mo, z1⟩ := N1
  obtain ⟨pv0, z2⟩ := N2
  obtain ⟨np, z3⟩ := N3
  simp only at v1 v2 v3 y1 y2 y3 fwP
  have z3l : z3.1.length ≤ 1048576 := by omega
  refine dcall y1 rfl rfl rfl (dcall y2 rfl rfl rfl (dcall y3 rfl rfl rfl ?_))
  simp only [qD, List.cons_append, List.nil_append]
  clear m1 m2 m3 v1 v2 v3 y1 y2 y3
  refine dlt (fun g9 => bad_ret hr ?_) fun g9 => ?_
  ·replace g9 : (16 : Int) < np := g9
   rintro ⟨s, hs⟩
   have := fwP s hs (I := ([], [], false)) (U := ([], [], false))
   omega
  replace g9 : ¬ (16 : Int) < np := g9
  refine dloop (fun i : Nat => [intsD (parsI z3 i).1, bytesD (parsI z3 i).2.1, .B (parsI z3 i).2.2, .I (i : Int)]) (fun i => i ≤ np) (fun i => np - i) 0 rfl (Nat.zero_le _) fun i hi _ => ?_
  have hpl := parsI_len z3 i
  refine dlt (fun g10 => ?_) fun g10 => ?_
  ·replace g10 : (i : Int) < np := g10
   have ln := ints_len (parsI z3 i).1
   refine dcall (partN_sp (parsI z3 i).2 (by omega)) rfl rfl rfl (nle (le40 (n := i + 1) ?_ (by omega)) (dfit (show (-9223372036854775808 : Int) ≤ (i : Int) + 1 by omega) (show (i : Int) + 1 ≤ 9223372036854775807 by omega) (dagain rfl ⟨i + 1, ?_, by omega, by omega⟩)))
   ·show ((intsD (parsI z3 i).1).rows.length : Int) + 1 = _
    rw [ln]; omega
   ·have e1 := ints_app1 (parsI z3 i).1 ((numD (parsI z3 i).2).1 : Int)
    exact congrArg (fun d => [d, bytesD (numD (parsI z3 i).2).2.1, DV.B (numD (parsI z3 i).2).2.2, DV.I ((i : Int) + 1)]) e1
  replace g10 : ¬ (i : Int) < np := g10
  obtain rfl : i = np := by omega
  obtain ⟨I, j1⟩ : ∃ x, bytesN (parsI z3 i).2 = x := ⟨_, rfl⟩
  obtain ⟨U, j2⟩ : ∃ x, bytesN I.2 = x := ⟨_, rfl⟩
  have i1 := bytesN_rest (parsI z3 i).2
  have i2 := bytesN_rest I.2
  have b1 := partB_sp (parsI z3 i).2 (by omega)
  rw [j1] at b1 i1
  have b2 := partB_sp I.2 (by omega)
  rw [j2] at b2 i2
  have fwI := fun s (hs : IsSnap b s) => (fwP s hs (I := I) (U := U)).2.2.2.2.2 j1 j2
  clear j1 j2
  generalize parsI z3 i = PA at *
  obtain ⟨ps, z4⟩ := PA
  obtain ⟨is, z5⟩ := I
  obtain ⟨us, z6⟩ := U
  simp only at hpl i1 i2 b1 b2 fwI
  obtain ⟨S, R, hR, hLS, hdat, d1, d2, d3, d4⟩ := fin [] 0 0 mo pv0 ps is us z6.2 (by first | exact ocl | simp) (by omega) (by omega) (by omega) (fun s hs => by
    obtain ⟨o1, o2, o3⟩ : ([] : List Cl) = s.other ∧ 0 = s.oy.toNat ∧ 0 = s.ox.toNat := ⟨(fwO s hs).1, (fwO s hs).2.1, (fwO s hs).2.2.1⟩
    have x1 := fwP s hs (I := (is, z5)) (U := (us, z6))
    obtain ⟨x2, x3, x4⟩ := fwI s hs
    simp only [Prod.mk.injEq] at x4
    have x5 := congrArg Prod.snd x4.2
    exact ⟨o1, o2, o3, x1.1, by omega, x2, x3, x4.1, x5⟩)
  simp only [List.cons_append, List.nil_append]
  refine dcall b1 rfl rfl rfl (dcall b2 rfl rfl rfl ?_)
  simp only [qD, List.cons_append, List.nil_append]
  refine dcall (Put_sp (m := (S.p.mode : Int)) (s := S) hLS hR) rfl hdat rfl ?_
  simp only [List.cons_append, List.nil_append]
  refine dbr (fun g11 => bad_ret hr (d1 g11)) fun g11 => deq (fun g12 => dbr (fun g13 => dret ?_) fun g13 => bad_ret hr (d3 ?_)) fun g12 => bad_ret hr (d2 ?_)
  ·have g13 : (toBytes (bytesD R.1).rows == toBytes (bytesD b).rows) = true := g13
   rw [toBytes_of, toBytes_of, beq_iff_eq] at g13
   replace g12 : (R.2 : Int) = 0 := g12
   have := d4 (by omega) g13
   rw [← this]
   exact congrArg (fun x : List DV => x ++ [DV.I 0]) hdat
  ·have g13 : (toBytes (bytesD R.1).rows == toBytes (bytesD b).rows) = false := g13
   rw [toBytes_of, toBytes_of] at g13
   simpa using g13
  ·replace g12 : ¬ (R.2 : Int) = 0 := g12
   omega
 ·have g8 : ¬ (O.den (.band .i64) (.I (n5 : Int)) (.I 8)).int = 0 := g8
  have hal : ∀ s, IsSnap b s → s.alt = true := fun s hs => by rw [← (fwB s hs).2.2.2, decide_eq_false g8]; rfl
  obtain ⟨B1, k1⟩ : ∃ x, numD q13 = x := ⟨_, rfl⟩
  obtain ⟨B2, k2⟩ : ∃ x, numD B1.2 = x := ⟨_, rfl⟩
  obtain ⟨OC, k3⟩ : ∃ x, cellsR (n1 * k) B2.2 = x := ⟨_, rfl⟩
  have s1 : (numD q13).2.1.length ≤ _ := numR_rest 1099511627776 q13
  have s2 : (numD B1.2).2.1.length ≤ _ := numR_rest 1099511627776 B1.2
  have s3 := cellsR_rest (n1 * k) B2.2
  rw [k1] at s1
  rw [k2] at s2
  rw [k3] at s3
  have t1 := partN_sp q13 (by omega)
  rw [k1] at t1
  have t2 := partN_sp B1.2 (by omega)
  rw [k2] at t2
  have t3 := partC_sp (n1 * k) B2.2 (by omega) (by omega)
  rw [k3] at t3
  have fwO : ∀ s, IsSnap b s → B1.1 = s.oy.toNat ∧ B2.1 = s.ox.toNat ∧ OC = (s.other, parserB s.p, false) := fun s hs => by
   have h1 := fwC s hs
   simp only [Prod.mk.injEq] at h1
   have h2 : numD (otherB s ++ parserB s.p, false) = B1 := by rw [← k1]; exact congrArg numD h1.2.symm
   exact fwOther hs.1 (hal s hs) false (fw s hs).1 (fw s hs).2.1 h2 k2 k3
  obtain ⟨oy, x1⟩ := B1
  obtain ⟨ox, x2⟩ := B2
  obtain ⟨oc, q14⟩ := OC
  simp only at s1 s2 s3 t1 t2 t3 fwO
  have ocl : oc.length ≤ 1000000 := by have := s3.2; omega
  have q14l : q14.1.length ≤ l.length := by have := s3.1; omega
  refine dcall t1 rfl rfl rfl (dcall t2 rfl rfl rfl (dcall t3 rfl (congrArg (fun n => [DV.I n, bytesD x2.1, DV.B x2.2]) hmul) rfl ?_))
  simp only [qD, List.cons_append, List.nil_append]
  clear k1 k2 k3 s1 s2 s3 t1 t2 t3
  obtain ⟨N1, m1⟩ : ∃ x, numD q14 = x := ⟨_, rfl⟩
  obtain ⟨N2, m2⟩ : ∃ x, numD N1.2 = x := ⟨_, rfl⟩
  obtain ⟨N3, m3⟩ : ∃ x, numD N2.2 = x := ⟨_, rfl⟩
  have v1 : (numD q14).2.1.length ≤ _ := numR_rest 1099511627776 q14
  have v2 : (numD N1.2).2.1.length ≤ _ := numR_rest 1099511627776 N1.2
  have v3 : (numD N2.2).2.1.length ≤ _ := numR_rest 1099511627776 N2.2
  rw [m1] at v1
  rw [m2] at v2
  rw [m3] at v3
  have y1 := partN_sp q14 (by omega)
  rw [m1] at y1
  have y2 := partN_sp N1.2 (by omega)
  rw [m2] at y2
  have y3 := partN_sp N2.2 (by omega)
  rw [m3] at y3
  have fwP : ∀ s, IsSnap b s → ∀ {I U : List UInt8 × RdQ}, N1.1 = s.p.mode ∧ N2.1 = s.p.priv ∧ N3.1 = s.p.params.length ∧ s.p.params.length ≤ 16 ∧ s.p.priv ≤ 255 ∧ (bytesN (parsI N3.2 N3.1).2 = I → bytesN I.2 = U → (parsI N3.2 N3.1).1 = s.p.params ∧ I.1 = s.p.inter ∧ U = (s.p.utf, [], false)) := fun s hs {I U} => by
   have hq : q14 = (parserB s.p, false) := (by have := (fwO s hs).2.2; simp only [Prod.mk.injEq] at this; exact this.2)
   exact fwParser hs.1.p false (by rw [← hq]; exact m1) m2 m3
  obtain ⟨mo, z1⟩ := N1
  obtain ⟨pv0, z2⟩ := N2
  obtain ⟨np, z3⟩ := N3
  simp only at v1 v2 v3 y1 y2 y3 fwP
  have z3l : z3.1.length ≤ 1048576 := by omega
  refine dcall y1 rfl rfl rfl (dcall y2 rfl rfl rfl (dcall y3 rfl rfl rfl ?_))
  simp only [qD, List.cons_append, List.nil_append]
  clear m1 m2 m3 v1 v2 v3 y1 y2 y3
  refine dlt (fun g9 => bad_ret hr ?_) fun g9 => ?_
  ·replace g9 : (16 : Int) < np := g9
   rintro ⟨s, hs⟩
   have := fwP s hs (I := ([], [], false)) (U := ([], [], false))
   omega
  replace g9 : ¬ (16 : Int) < np := g9
  refine dloop (fun i : Nat => [intsD (parsI z3 i).1, bytesD (parsI z3 i).2.1, .B (parsI z3 i).2.2, .I (i : Int)]) (fun i => i ≤ np) (fun i => np - i) 0 rfl (Nat.zero_le _) fun i hi _ => ?_
  have hpl := parsI_len z3 i
  refine dlt (fun g10 => ?_) fun g10 => ?_
  ·replace g10 : (i : Int) < np := g10
   have ln := ints_len (parsI z3 i).1
   refine dcall (partN_sp (parsI z3 i).2 (by omega)) rfl rfl rfl (nle (le40 (n := i + 1) ?_ (by omega)) (dfit (show (-9223372036854775808 : Int) ≤ (i : Int) + 1 by omega) (show (i : Int) + 1 ≤ 9223372036854775807 by omega) (dagain rfl ⟨i + 1, ?_, by omega, by omega⟩)))
   ·show ((intsD (parsI z3 i).1).rows.length : Int) + 1 = _
    rw [ln]; omega
   ·have e1 := ints_app1 (parsI z3 i).1 ((numD (parsI z3 i).2).1 : Int)
    exact congrArg (fun d => [d, bytesD (numD (parsI z3 i).2).2.1, DV.B (numD (parsI z3 i).2).2.2, DV.I ((i : Int) + 1)]) e1
  replace g10 : ¬ (i : Int) < np := g10
  obtain rfl : i = np := by omega
  obtain ⟨I, j1⟩ : ∃ x, bytesN (parsI z3 i).2 = x := ⟨_, rfl⟩
  obtain ⟨U, j2⟩ : ∃ x, bytesN I.2 = x := ⟨_, rfl⟩
  have i1 := bytesN_rest (parsI z3 i).2
  have i2 := bytesN_rest I.2
  have b1 := partB_sp (parsI z3 i).2 (by omega)
  rw [j1] at b1 i1
  have b2 := partB_sp I.2 (by omega)
  rw [j2] at b2 i2
  have fwI := fun s (hs : IsSnap b s) => (fwP s hs (I := I) (U := U)).2.2.2.2.2 j1 j2
  clear j1 j2
  generalize parsI z3 i = PA at *
  obtain ⟨ps, z4⟩ := PA
  obtain ⟨is, z5⟩ := I
  obtain ⟨us, z6⟩ := U
  simp only at hpl i1 i2 b1 b2 fwI
  obtain ⟨S, R, hR, hLS, hdat, d1, d2, d3, d4⟩ := fin oc oy ox mo pv0 ps is us z6.2 (by first | exact ocl | simp) (by omega) (by omega) (by omega) (fun s hs => by
    obtain ⟨o1, o2, o3⟩ : oc = s.other ∧ oy = s.oy.toNat ∧ ox = s.ox.toNat := ⟨by have := (fwO s hs).2.2; simp only [Prod.mk.injEq] at this; exact this.1, (fwO s hs).1, (fwO s hs).2.1⟩
    have x1 := fwP s hs (I := (is, z5)) (U := (us, z6))
    obtain ⟨x2, x3, x4⟩ := fwI s hs
    simp only [Prod.mk.injEq] at x4
    have x5 := congrArg Prod.snd x4.2
    exact ⟨o1, o2, o3, x1.1, by omega, x2, x3, x4.1, x5⟩)
  simp only [List.cons_append, List.nil_append]
  refine dcall b1 rfl rfl rfl (dcall b2 rfl rfl rfl ?_)
  simp only [qD, List.cons_append, List.nil_append]
  refine dcall (Put_sp (m := (S.p.mode : Int)) (s := S) hLS hR) rfl hdat rfl ?_
  simp only [List.cons_append, List.nil_append]
  refine dbr (fun g11 => bad_ret hr (d1 g11)) fun g11 => deq (fun g12 => dbr (fun g13 => dret ?_) fun g13 => bad_ret hr (d3 ?_)) fun g12 => bad_ret hr (d2 ?_)
  ·have g13 : (toBytes (bytesD R.1).rows == toBytes (bytesD b).rows) = true := g13
   rw [toBytes_of, toBytes_of, beq_iff_eq] at g13
   replace g12 : (R.2 : Int) = 0 := g12
   have := d4 (by omega) g13
   rw [← this]
   exact congrArg (fun x : List DV => x ++ [DV.I 0]) hdat
  ·have g13 : (toBytes (bytesD R.1).rows == toBytes (bytesD b).rows) = false := g13
   rw [toBytes_of, toBytes_of] at g13
   simpa using g13
  ·replace g12 : ¬ (R.2 : Int) = 0 := g12
   omega
structure ScW (s : Sc) (r c : Nat) : Prop where
 cells : Whole s.cells r c
 other : s.alt = true → Whole s.other r c
theorem newS_w (rows cols : Int) (r c : Nat) : ScW (newS rows cols) r c := ⟨blankL_whole _ _ _ _, fun e => by cases e⟩
theorem ScIn.up_w {s : Sc} {r c : Nat} (hi : ScIn s r c) (h : ScW s r c) (top bottom n : Int) : Whole (upL s.cells s.cols top bottom n) r c := by
 rw [hi.cols]; exact upL_whole hi.g h.cells _ _ _
theorem ScIn.down_w {s : Sc} {r c : Nat} (hi : ScIn s r c) (h : ScW s r c) (top bottom n : Int) : Whole (downL s.cells s.cols top bottom n) r c := by
 rw [hi.cols]; exact downL_whole hi.g h.cells _ _ _
theorem downS_w {s : Sc} {r c : Nat} (hi : ScIn s r c) (h : ScW s r c) : ScW (downS s) r c := by
 unfold downS
 split
 ·exact ⟨hi.up_w h _ _ _, h.other⟩
 split
 ·exact ⟨h.cells, h.other⟩
 ·exact ⟨h.cells, h.other⟩
theorem crS_w {s : Sc} {r c : Nat} (hi : ScIn s r c) (h : ScW s r c) : ScW (crS s) r c := ⟨(downS_w hi h).cells, (downS_w hi h).other⟩
theorem wrapS_w {s : Sc} {r c : Nat} (hi : ScIn s r c) (h : ScW s r c) : ScW (wrapS s) r c := by
 unfold wrapS
 split
 ·exact crS_w hi h
 ·exact h
theorem set_other {l : List Cl} {v : Cl} {c y y' x i : Nat} (hx : x < c) (hne : y' ≠ y) (h1 : y * c ≤ i) (h2 : i < y * c + c) : getC (l.set i v) (y' * c + x) = getC l (y' * c + x) := by
 unfold getC List.getD
 rw [List.getElem?_set_ne (row_other hx hne h1 h2)]
theorem atS_eq {s : Sc} {r c y x : Nat} (hi : ScIn s r c) (hy : s.y = y) (hx : s.x = x) : atS s = y * c + x := by
 unfold atS
 rw [hy, hx, hi.cols, show (y : Int) * (c : Int) + (x : Int) = ((y * c + x : Nat) : Int) by rw [Int.natCast_add, Int.natCast_mul]]
 exact Int.toNat_natCast _
theorem putS_w {s : Sc} {r c : Nat} (hi : ScIn s r c) (h : ScW s r c) (rn w : Int) (hw : w = 1 ∨ (w = 2 ∧ s.x + 1 < s.cols)) : ScW (putS s rn w) r c := by
 have hm : Whole (mendL (if w = 2 then cells2 s rn else cells1 s rn) s.cols s.y) r c := by
  have hcols := hi.cols
  have y0 := hi.y0
  have x0 := hi.x0
  have x1 := hi.x1
  have hl : (if w = 2 then cells2 s rn else cells1 s rn).length = s.cells.length := by split <;> simp [cells1, cells2]
  obtain ⟨y, hy⟩ : ∃ y : Nat, s.y = y := ⟨s.y.toNat, by omega⟩
  obtain ⟨x, hx⟩ : ∃ x : Nat, s.x = x := ⟨s.x.toNat, by omega⟩
  have ha := atS_eq hi hy hx
  rw [hi.cols]
  refine mendL_whole (by rw [hl]; exact hi.g) _ (fun y' hy' hne => (h.cells y' hy').same (fun x' hx' => ?_))
  by_cases h2 : w = 2
  ·rw [if_pos h2]
   unfold cells2
   rw [ha, set_other hx' (y := y) (by omega) (by omega) (by omega), set_other hx' (y := y) (by omega) (by omega) (by omega)]
  ·rw [if_neg h2]
   unfold cells1
   rw [ha, set_other hx' (y := y) (by omega) (by omega) (by omega)]
 unfold putS
 split
 ·exact ⟨hm, h.other⟩
 ·exact ⟨hm, h.other⟩
theorem printS_w {s : Sc} {r c : Nat} (hi : ScIn s r c) (h : ScW s r c) (rn : Int) : ScW (printS s rn) r c := by
 have hwi := wrapS_in hi
 have hw := wrapS_w hi h
 have x1 := hwi.x1
 have e2 := hwi.cols
 have hw3 : widthL rn = 0 ∨ widthL rn = 1 ∨ widthL rn = 2 := by
  unfold widthL
  split
  ·exact .inl rfl
  ·split
   ·exact .inr (.inr rfl)
   ·exact .inr (.inl rfl)
 unfold printS
 by_cases h0 : widthL rn = 0
 ·rw [if_pos h0]; exact h
 rw [if_neg h0]
 by_cases h2 : widthL rn = 2 ∧ (wrapS s).x = (wrapS s).cols - 1
 ·rw [if_pos h2]
  by_cases h3 : (wrapS s).auto = false ∨ (wrapS s).cols = 1
  ·rw [if_pos h3]; exact hw
  ·rw [if_neg h3]
   have hc := crS_in hwi
   have hcc := hc.cols
   have hx : (crS (wrapS s)).x = 0 := rfl
   have hc1 := hc.g.c1
   have hne : ¬ (wrapS s).cols = 1 := fun e => h3 (.inr e)
   exact putS_w hc (crS_w hwi hw) rn 2 (.inr ⟨rfl, by rw [hx, hcc]; omega⟩)
 ·rw [if_neg h2]
  refine putS_w hwi hw rn _ ?_
  rcases hw3 with h4 | h4 | h4
  ·exact absurd h4 h0
  ·exact .inl h4
  ·refine .inr ⟨h4, ?_⟩
   have : ¬ (wrapS s).x = (wrapS s).cols - 1 := fun e => h2 ⟨h4, e⟩
   omega
theorem controlS_w {s : Sc} {r c : Nat} (hi : ScIn s r c) (h : ScW s r c) (b : Nat) : ScW (controlS s b) r c := by
 unfold controlS
 split
 ·exact ⟨h.cells, h.other⟩
 split
 ·exact ⟨h.cells, h.other⟩
 split
 ·exact downS_w hi h
 split
 ·exact ⟨h.cells, h.other⟩
 ·exact h
theorem escapeS_w {s : Sc} {r c : Nat} (hi : ScIn s r c) (h : ScW s r c) (b : Nat) : ScW (escapeS s b) r c := by
 unfold escapeS
 split
 ·exact ⟨h.cells, h.other⟩
 split
 ·exact ⟨h.cells, h.other⟩
 split
 ·exact downS_w hi h
 split
 ·exact crS_w hi h
 split
 ·split
  ·exact ⟨hi.down_w h _ _ _, h.other⟩
  ·split
   ·exact ⟨h.cells, h.other⟩
   ·exact ⟨h.cells, h.other⟩
 split
 ·exact ⟨h.cells, h.other⟩
 split
 ·exact newS_w _ _ _ _
 ·exact h
theorem modeS_w {s : Sc} {r c : Nat} (h : ScW s r c) (k : Int) (on : Bool) : ScW (modeS s k on) r c := by
 unfold modeS
 split
 ·exact ⟨h.cells, h.other⟩
 split
 ·exact ⟨h.cells, h.other⟩
 split
 ·exact ⟨blankL_whole _ _ _ _, fun _ => h.cells⟩
 split
 ·rename_i hc
  exact ⟨h.other hc.2.2, fun e => by cases e⟩
 ·exact h
theorem fill_row {l : List Cl} {c lo hi y : Nat} (h : RowW l c y) (hd : (lo ≤ y * c ∧ y * c + c ≤ hi) ∨ y * c + c ≤ lo ∨ hi ≤ y * c) : RowW (fillL l (fun _ => blankC) lo hi) c y := by
 by_cases hb : lo ≤ y * c ∧ y * c + c ≤ hi
 ·exact RowW.blank (fun x hx => by rw [fill_blankC, if_pos (by omega)])
 ·exact h.same (fun x hx => by rw [fill_blankC, if_neg (by omega)])
theorem eraseS_w {s : Sc} {r c : Nat} (hi : ScIn s r c) (h : ScW s r c) (row : Bool) (k : Int) : ScW (eraseS s row k) r c := by
 unfold eraseS
 split
 ·exact ⟨h.cells, h.other⟩
 refine ⟨?_, h.other⟩
 show Whole (mendL (fillL s.cells (fun _ => blankC) _ _) s.cols s.y) r c
 have hcols := hi.cols
 have y0 := hi.y0
 have x0 := hi.x0
 have x1 := hi.x1
 have hn := hi.g.n
 obtain ⟨y, hy⟩ : ∃ y : Nat, s.y = y := ⟨s.y.toNat, by omega⟩
 obtain ⟨x, hx⟩ : ∃ x : Nat, s.x = x := ⟨s.x.toNat, by omega⟩
 obtain ⟨p, hp⟩ : ∃ p : Nat, p = y * c := ⟨_, rfl⟩
 have hyc : (y : Int) * (c : Int) = (p : Int) := by rw [hp, Int.natCast_mul]
 rw [hcols, hy, hx, Int.add_mul, hyc, Int.one_mul]
 have hxc : x < c := by omega
 refine mendL_whole (by rw [fillL_len]; exact hi.g) _ (fun y' hy' hne => fill_row (h.cells y' hy') ?_)
 obtain ⟨q, hq⟩ : ∃ q : Nat, q = y' * c := ⟨_, rfl⟩
 have hqn : q + c ≤ s.cells.length := by
  have := Nat.mul_le_mul_right c hy'
  rw [Nat.succ_eq_add_one, Nat.add_mul] at this
  omega
 have hqp : q + c ≤ p ∨ p + c ≤ q := by
  rcases Nat.lt_or_ge y' y with h1 | h1
  ·have := Nat.mul_le_mul_right c h1
   rw [Nat.succ_eq_add_one, Nat.add_mul] at this
   omega
  ·have h3 : y + 1 ≤ y' := by omega
   have := Nat.mul_le_mul_right c h3
   rw [Nat.add_mul] at this
   omega
 rw [← hq]
 clear hyc hq hp hn hne
 by_cases k0 : k = 0
 ·have k1 : ¬ k = 1 := by omega
  rw [if_pos k0, if_neg k1]
  cases row with
  | true => rw [if_pos rfl]; omega
  | false => rw [if_neg (by decide)]; omega
 ·rw [if_neg k0]
  by_cases k1 : k = 1
  ·rw [if_pos k1]
   cases row with
   | true => rw [if_pos rfl]; omega
   | false => rw [if_neg (by decide)]; omega
  ·rw [if_neg k1]
   cases row with
   | true => rw [if_pos rfl, if_pos rfl]; omega
   | false => rw [if_neg (by decide), if_neg (by decide)]; omega
theorem seqS_w {s : Sc} {r c : Nat} (hi : ScIn s r c) (h : ScW s r c) (b : Nat) (l : List Int) : ScW (seqS s b l) r c := by
 have hs : ∀ t : Sc, t.cells = s.cells → t.other = s.other → t.alt = s.alt → ScW t r c := fun t e1 e2 e3 => ⟨by rw [e1]; exact h.cells, by rw [e2, e3]; exact h.other⟩
 unfold seqS
 dsimp only
 by_cases c101 : b = 65
 ·rw [if_pos c101]
  exact hs _ rfl rfl rfl
 rw [if_neg c101]
 by_cases c102 : b = 66
 ·rw [if_pos c102]
  exact hs _ rfl rfl rfl
 rw [if_neg c102]
 by_cases c103 : b = 67
 ·rw [if_pos c103]
  exact hs _ rfl rfl rfl
 rw [if_neg c103]
 by_cases c104 : b = 68
 ·rw [if_pos c104]
  exact hs _ rfl rfl rfl
 rw [if_neg c104]
 by_cases c105 : b = 71 ∨ b = 96
 ·rw [if_pos c105]
  exact hs _ rfl rfl rfl
 rw [if_neg c105]
 by_cases c106 : b = 100
 ·rw [if_pos c106]
  exact hs _ rfl rfl rfl
 rw [if_neg c106]
 by_cases c107 : b = 72 ∨ b = 102
 ·rw [if_pos c107]
  exact hs _ rfl rfl rfl
 rw [if_neg c107]
 by_cases c108 : b = 74
 ·rw [if_pos c108]
  exact eraseS_w hi h _ _
 rw [if_neg c108]
 by_cases c109 : b = 75
 ·rw [if_pos c109]
  exact eraseS_w hi h _ _
 rw [if_neg c109]
 by_cases c110 : b = 76
 ·rw [if_pos c110]
  by_cases hy : s.top ≤ s.y ∧ s.y ≤ s.bottom
  ·rw [if_pos hy]; exact ⟨hi.down_w h _ _ _, h.other⟩
  ·rw [if_neg hy]; exact hs _ rfl rfl rfl
 rw [if_neg c110]
 by_cases c111 : b = 77
 ·rw [if_pos c111]
  by_cases hy : s.top ≤ s.y ∧ s.y ≤ s.bottom
  ·rw [if_pos hy]; exact ⟨hi.up_w h _ _ _, h.other⟩
  ·rw [if_neg hy]; exact hs _ rfl rfl rfl
 rw [if_neg c111]
 by_cases c112 : b = 64
 ·rw [if_pos c112]
  exact ⟨by show Whole (insertL s.cells s.cols s.y s.x _) r c; rw [hi.cols]; exact insertL_whole hi.g h.cells _ _ _, h.other⟩
 rw [if_neg c112]
 by_cases c113 : b = 80
 ·rw [if_pos c113]
  exact ⟨by show Whole (deleteL s.cells s.cols s.y s.x _) r c; rw [hi.cols]; exact deleteL_whole hi.g h.cells _ _ _, h.other⟩
 rw [if_neg c113]
 by_cases c114 : b = 88
 ·rw [if_pos c114]
  exact ⟨by show Whole (eraseL s.cells s.cols s.y s.x _) r c; rw [hi.cols]; exact eraseL_whole hi.g h.cells _ _ _, h.other⟩
 rw [if_neg c114]
 by_cases c115 : b = 83
 ·rw [if_pos c115]
  exact ⟨hi.up_w h _ _ _, h.other⟩
 rw [if_neg c115]
 by_cases c116 : b = 84
 ·rw [if_pos c116]
  exact ⟨hi.down_w h _ _ _, h.other⟩
 rw [if_neg c116]
 by_cases c117 : b = 114
 ·rw [if_pos c117]
  by_cases hc : paramL l 0 1 - 1 < min (paramL l 1 s.rows) s.rows - 1
  ·rw [if_pos hc]; exact hs _ rfl rfl rfl
  ·rw [if_neg hc]; exact h
 rw [if_neg c117]
 by_cases c118 : b = 103
 ·rw [if_pos c118]
  by_cases g0 : paramL l 0 0 = 0
  ·rw [if_pos g0]; exact hs _ rfl rfl rfl
  rw [if_neg g0]
  by_cases g3 : paramL l 0 0 = 3
  ·rw [if_pos g3]; exact hs _ rfl rfl rfl
  rw [if_neg g3]; exact h
 rw [if_neg c118]
 by_cases c119 : b = 109
 ·rw [if_pos c119]
  exact hs _ rfl rfl rfl
 rw [if_neg c119]
 exact h
theorem foldl_mode_w (l : List Int) (on : Bool) {r c : Nat} : ∀ {s : Sc}, ScW s r c → ScW (l.foldl (fun s k => modeS s k on) s) r c := by
 induction l with
 | nil => intro s h; exact h
 | cons x l ih => intro s h; exact ih (modeS_w h x on)
theorem doS_w {s : Sc} {r c : Nat} (hi : ScIn s r c) (h : ScW s r c) (a : Ac) : ScW (doS s a) r c := by
 unfold doS
 split
 ·exact printS_w hi h _
 split
 ·exact controlS_w hi h _
 split
 ·split
  ·exact escapeS_w hi h _
  ·exact h
 split
 ·split
  ·exact h
  split
  ·exact foldl_mode_w _ _ h
  split
  ·exact seqS_w hi h _ _
  ·exact h
 ·exact h
theorem foldl_do_w (l : List Ac) {r c : Nat} : ∀ {s : Sc}, ScIn s r c → ScW s r c → (∀ a ∈ l, ActOk a) → ScW (l.foldl doS s) r c := by
 induction l with
 | nil => intro s _ h _; exact h
 | cons x l ih => intro s hi h ha; exact ih (doS_in hi x (ha x (by simp))) (doS_w hi h x) (fun a hm => ha a (by simp [hm]))
theorem stepS_w {s : Sc} {r c : Nat} (hi : ScIn s r c) (h : ScW s r c) (b : UInt8) : ScW (stepS s b) r c := by
 have hf := foldl_do_w (vtL s.p b).2 hi h (vtL_acts s.p b hi.p)
 exact ⟨hf.cells, hf.other⟩
theorem feedS_w (l : List UInt8) {r c : Nat} : ∀ {s : Sc}, ScIn s r c → ScW s r c → ScW (feedS s l) r c := by
 unfold feedS
 induction l with
 | nil => intro s _ h; exact h
 | cons x l ih => intro s hi h; exact ih (stepS_in hi x) (stepS_w hi h x)
theorem rightP_ok {p : Pr} (h : PrOk p) : RightP (p.mode : Int) p.priv p.params p.inter p.utf := by
 have hm := h.mode
 refine ⟨⟨by omega, by omega, h.params, h.inter, fun hu => ?_⟩, h.each, h.eachI, h.priv, ?_, ?_⟩
 ·rcases h.utf with e | ⟨e1, e2⟩
  ·rw [e] at hu; simp at hu
  ·exact ⟨by omega, e2⟩
 ·rcases h.csi with e | e | ⟨e1, e2⟩
  ·exact .inl (.inl (by omega))
  ·exact .inl (.inr (by omega))
  ·exact .inr ⟨e1, by rw [e2]; rfl⟩
 ·rw [← h.with_]
  omega
theorem rightS_in {s : Sc} {r c : Nat} (hi : ScIn s r c) (hw : ScW s r c) : RightS (s.p.mode : Int) s := by
 refine rightS_of hi.rows hi.cols hi.g.r1 hi.g.r2 hi.g.c1 hi.g.c2 ⟨hi.g.n, hi.cells, hw.cells⟩ ⟨⟨hi.y0, hi.y1⟩, ⟨hi.x0, hi.x1⟩, ⟨hi.sy0, hi.sy1⟩, ⟨hi.sx0, hi.sx1⟩, ⟨hi.oy0, hi.oy1⟩, ⟨hi.ox0, hi.ox1⟩⟩ hi.wrap hi.attr hi.sattr (by rw [hi.tabs]) (rightP_ok hi.p) ⟨hi.t0, hi.b1⟩ ?_ ?_ ?_
 ·rcases hi.tb with h | h
  ·exact .inl h
  ·have := hi.t0; have := hi.t1; have := hi.b1
   exact .inr (by omega)
 ·intro e
  obtain ⟨g, h⟩ := hi.other e
  exact ⟨g.n, h, hw.other e⟩
 ·intro e
  obtain ⟨h1, h2, h3⟩ := hi.noAlt e
  exact ⟨by rw [h1]; rfl, h2, h3⟩
theorem fit_of {x : Cl} (h : cellB x = true) : CellFit x := by
 unfold cellB at h
 unfold CellFit
 simp only [Bool.and_eq_true, Bool.or_eq_true, decide_eq_true_eq, beq_iff_eq, mayR] at h
 omega
theorem fitS_in {s : Sc} {r c : Nat} (hi : ScIn s r c) : FitS (s.p.mode : Int) s := by
 have hn : s.cells.length = r * c := hi.g.n
 have hm := hi.p.mode
 have hpr := hi.p.priv
 have hul : s.p.utf.length ≤ 3 := by
  rcases hi.p.utf with h | ⟨_, h⟩
  ·rw [h]; simp
  ·exact (beginsL_len _ h).2
 have ho : s.other.length ≤ 1048576 ∧ ∀ x ∈ s.other, CellFit x := by
  cases ha : s.alt with
  | true =>
   obtain ⟨g, h⟩ := hi.other ha
   exact ⟨by rw [g.n]; have := rc_le g.r2 g.c2; omega, fun x hx => fit_of (h x hx)⟩
  | false =>
   rw [(hi.noAlt ha).1]
   exact ⟨by simp, by simp⟩
 refine ⟨by omega, by omega, fun x hx => fit_of (hi.cells x hx), ho.2, ?_, ho.1, ?_, by omega, by omega⟩
 ·rw [hn]; have := rc_le hi.g.r2 hi.g.c2; omega
 ·rw [hi.tabs]; have := hi.g.c2; omega
theorem parserB_len {m : Int} {p : Pr} (h : RightP m p.priv p.params p.inter p.utf) : (parserB p).length ≤ 300 := by
 obtain ⟨⟨-, m7, k16, i2, huf⟩, hps, -, hpv, -, -⟩ := h
 have hul : p.utf.length ≤ 3 := by
  rcases Nat.eq_zero_or_pos p.utf.length with h | h
  ·omega
  ·exact (beginsL_len _ (huf h).2).2
 have l1 := snumL_len [p.mode, p.priv, p.params.length]
 have l2 := snumL_len (p.params.map Int.toNat)
 have l3 := (lebP_length p.inter.length).2
 have l4 := (lebP_length p.utf.length).2
 simp only [List.length_map, List.length_cons, List.length_nil] at l1 l2
 simp only [parserB, putB, List.length_append]
 omega
theorem snapL_len {m : Int} {s : Sc} (h : RightS m s) : (snapL s).length ≤ 600 + 10 * s.tabs.length + 30 * s.cells.length + 30 * s.other.length := by
 have n0 := snumL_len (headN s)
 have n1 := snumL_len (s.tabs.map fun b => bN b 1)
 have n2 := bytL_len s.cells
 have n3 := bytL_len s.other
 have n4 := parserB_len h.p
 have n5 := snumL_len [s.oy.toNat, s.ox.toNat]
 simp only [headN, List.length_map, List.length_cons, List.length_nil] at n0 n1 n5
 have n6 : (otherB s).length ≤ 20 + 30 * s.other.length := by
  unfold otherB
  split
  ·rw [List.length_append]; omega
  ·simp
 simp only [snapL, List.length_append, headN, tabsB]
 omega
theorem snapL_small {s : Sc} {r c : Nat} (hi : ScIn s r c) (hw : ScW s r c) (hr : r ≤ 6) (hc : c ≤ 9) : (snapL s).length ≤ 5000 := by
 have h := rightS_in hi hw
 have h1 := snapL_len h
 have h2 := hi.tabs
 have h3 := hi.g.n
 have h4 : r * c ≤ 6 * 9 := Nat.mul_le_mul hr hc
 have h5 : s.other.length ≤ 54 := by
  cases ha : s.alt with
  | false => rw [(hi.noAlt ha).1]; simp
  | true => have := (hi.other ha).1.n; omega
 omega
theorem snapL_pos (s : Sc) : 0 < (snapL s).length := by
 have := (lebP_length s.rows.toNat).1
 simp only [snapL, headN, snumL, List.length_append]
 omega
theorem new23 : ScIn (newS 2 3) 2 3 ∧ ScW (newS 2 3) 2 3 := ⟨newS_in 2 3 (by omega) (by omega) (by omega) (by omega), newS_w _ _ _ _⟩
theorem lenS_in {s : Sc} {r c : Nat} (hi : ScIn s r c) : LenS s := by
 have h := fitS_in hi
 have hul : s.p.utf.length ≤ 3 := by
  rcases hi.p.utf with h | ⟨_, h⟩
  ·rw [h]; simp
  ·exact (beginsL_len _ h).2
 have hp := hi.p.params
 have hn := hi.p.inter
 exact ⟨h.nc, h.no, h.nt, by omega, by omega, by omega⟩
theorem noS_not {m : Int} : ¬ RightS m noS := fun h => by have := h.r1; simp [noS] at this
theorem noS_len : LenS noS := ⟨by simp [noS], by simp [noS], by simp [noS], by simp [noS], by simp [noS], by simp [noS]⟩
theorem putR_right {s : Sc} (h : RightS (s.p.mode : Int) s) : PutR (s.p.mode : Int) s (snapL s, 0) := .inl ⟨h, by rw [modeM_id]⟩
theorem app_nil_den {l : List UInt8} {x : DV} (hx : x = bytesD l) : O.den .app (.L []) x = bytesD l := by
 rw [hx]; simp [O.den, bytesD, DV.rows]
theorem known_sp : Spn n_law10_known sg_law10_known [] [.B true] := by
 obtain ⟨hi, hw⟩ := new23
 have hR := rightS_in hi hw
 have hL := lenS_in hi
 have hsm := snapL_small hi hw (by omega) (by omega)
 have hread : ReadR (snapL (newS 2 3)) (newS 2 3, 0) := .inl ⟨rfl, hR, rfl⟩
 have hread2 : ReadR (snapL (newS 2 3) ++ [0]) (noS, 21) := .inr ⟨rfl, fun ⟨t, ht⟩ => by
   have := snap_pre hR ht.1 ht.2.symm
   cases this⟩
 have hput := putR_right hR
 have hput2 : PutR 0 noS ([], 27) := .inr ⟨noS_not, rfl⟩
 have hsame : true = true ↔ AlikeS ((newS 2 3).p.mode : Int) (newS 2 3) ((newS 2 3).p.mode : Int) (newS 2 3) := by simp [AlikeS]
 have hdiff : false = true ↔ AlikeS ((newS 2 3).p.mode : Int) (newS 2 3) 0 noS := by
  constructor
  ·intro h; cases h
  ·intro h
   have := congrArg Sc.rows h.2
   simp [zS, newS, noS] at this
 have c1 := pPut_sp hL hput
 have c2 := pReadS_sp (snapL (newS 2 3)) (by omega) hread
 have c3 := pReadS_sp (snapL (newS 2 3) ++ [0]) (by simp; omega) hread2
 have c4 := pPut_sp noS_len hput2
 have c5 := pSame_sp hL hsame
 have c6 := pSame_sp hL hdiff
 have e1 : O.den .app (O.den .app (.L []) (bytesD (snapL (newS 2 3)))) (.L [[.I 0]]) = bytesD (snapL (newS 2 3) ++ [0]) := by simp [O.den, bytesD, DV.rows]
 generalize hs : newS 2 3 = s at *
 have n1 := New_sp 2 3 (by omega) (by omega) (by omega) (by omega)
 have hs' : newS ((2 : Nat) : Int) ((3 : Nat) : Int) = s := hs
 rw [hs'] at n1
 generalize snapL s = B at *
 refine rd_law10_known rfl (dcall n1 rfl rfl rfl (dcall c1 rfl rfl rfl (dcall c2 rfl rfl rfl (nle (app_need (l := []) (m := B) rfl rfl (by simp; omega)) (nle (app_need (l := B) (m := [0]) (app_nil_den rfl) rfl (by simp; omega)) ?_)))))
 simp only [scD, scR, List.cons_append, List.nil_append]
 refine dcall c3 rfl (congrArg (fun d => [d]) e1) rfl (dcall c4 rfl rfl rfl ?_)
 simp only [scD, scR, List.cons_append, List.nil_append]
 refine deq (fun _ => deq (fun _ => dcall c5 rfl rfl rfl (dtrue rfl (dcall c6 rfl rfl rfl (dfalse rfl (deq (fun _ => dret rfl) fun h => absurd rfl h))))) fun h => absurd rfl h) fun h => absurd rfl h
end Go.Proofs.YtbegccgpmhbnfaaGreat
