/- What is proved here: parts of the proof of SnapTells. -/
import Derived.Test.YtbegccgpmhbnfaaGreatR15
namespace Go.Proofs.YtbegccgpmhbnfaaGreat
open Go.RowKit
open Go.ChangeShapes Go.WideShapes Go.ChangeAt Go.RowKit
set_option linter.unusedVariables false
set_option linter.unusedSimpArgs false
set_option maxRecDepth 10000
set_option maxHeartbeats 1000000
theorem smallR_sp (m : Int) (s : Sc) : Spn n_seat_SmallScreen sg_seat_SmallScreen (scR m s) [.B (smallB s)] := by
 have hcast : ∀ (a b : Nat), decide ((a : Int) ≤ (b : Int)) = decide (a ≤ b) := fun a b => by
  by_cases h : a ≤ b
  ·rw [decide_eq_true h, decide_eq_true (by omega)]
  ·rw [decide_eq_false h, decide_eq_false (by omega)]
 have hb : ((boolsD s.tabs).rows.length : Int) = s.tabs.length := by simp [boolsD, DV.rows]
 have c1 := (congrArg (fun n : Int => decide (n ≤ 900)) (cells_len s.cells)).trans (hcast s.cells.length 900)
 have c2 := (congrArg (fun n : Int => decide (n ≤ 900)) (cells_len s.other)).trans (hcast s.other.length 900)
 have c3 := (congrArg (fun n : Int => decide (n ≤ 30)) hb).trans (hcast s.tabs.length 30)
 have c4 := (congrArg (fun n : Int => decide (n ≤ 20)) (ints_len s.p.params)).trans (hcast s.p.params.length 20)
 have c5 := (congrArg (fun n : Int => decide (n ≤ 5)) (bytes_len s.p.inter)).trans (hcast s.p.inter.length 5)
 have c6 := (congrArg (fun n : Int => decide (n ≤ 5)) (bytes_len s.p.utf)).trans (hcast s.p.utf.length 5)
 have hf : ∀ {env : List DV} {cx : List (List DV → Prop)}, smallB s = false → (Tree.ret [.B false]).den SpF1 (fun es => es = [DV.B (smallB s)]) env cx := fun h => dret (by rw [h]; rfl)
 unfold smallB at hf ⊢
 rw [← c1, ← c2, ← c3, ← c4, ← c5, ← c6] at hf ⊢
 refine rd_seat_SmallScreen rfl (dle (fun h1 => dle (fun h2 => dle (fun h3 => dle (fun h4 => dle (fun h5 => dle (fun h6 => dle (fun h7 => dret ?_) fun h7 => hf ?_) fun h6 => hf ?_) fun h5 => hf ?_) fun h4 => hf ?_) fun h3 => hf ?_) fun h2 => hf ?_) fun h1 => hf ?_)
 all_goals (try replace h1 : s.rows ≤ 30 := h1)
 all_goals (try replace h1 : ¬ s.rows ≤ 30 := h1)
 all_goals (try replace h2 : s.cols ≤ 30 := h2)
 all_goals (try replace h2 : ¬ s.cols ≤ 30 := h2)
 ·replace h3 : ((cellsD s.cells).rows.length : Int) ≤ 900 := h3
  replace h4 : ((cellsD s.other).rows.length : Int) ≤ 900 := h4
  replace h5 : ((boolsD s.tabs).rows.length : Int) ≤ 30 := h5
  replace h6 : ((intsD s.p.params).rows.length : Int) ≤ 20 := h6
  replace h7 : ((bytesD s.p.inter).rows.length : Int) ≤ 5 := h7
  rw [decide_eq_true h1, decide_eq_true h2, decide_eq_true h3, decide_eq_true h4, decide_eq_true h5, decide_eq_true h6, decide_eq_true h7]
  rfl
 ·replace h7 : ¬ ((bytesD s.p.inter).rows.length : Int) ≤ 5 := h7
  rw [decide_eq_false h7]; simp
 ·replace h6 : ¬ ((intsD s.p.params).rows.length : Int) ≤ 20 := h6
  rw [decide_eq_false h6]; simp
 ·replace h5 : ¬ ((boolsD s.tabs).rows.length : Int) ≤ 30 := h5
  rw [decide_eq_false h5]; simp
 ·replace h4 : ¬ ((cellsD s.other).rows.length : Int) ≤ 900 := h4
  rw [decide_eq_false h4]; simp
 ·replace h3 : ¬ ((cellsD s.cells).rows.length : Int) ≤ 900 := h3
  rw [decide_eq_false h3]; simp
 ·rw [decide_eq_false h2]; simp
 ·rw [decide_eq_false h1]; simp
theorem small_len {s : Sc} (h : smallB s = true) : LenS s := by
 unfold smallB at h
 simp only [Bool.and_eq_true, decide_eq_true_eq] at h
 exact ⟨by omega, by omega, by omega, by omega, by omega, by omega⟩
theorem atRow {L X : E} {env : List DV} {rows : List (List DV)} {row : List DV} {n k : Nat} (hL : L.den env = .L rows) (hX : (X.den env).int.toNat = k) (hr : rows.getD k [] = row) (hn : row.length = n) : ((List.range n).map fun j => E.O (.at j) L X).map (·.den env) = row := by
 apply List.ext_getElem
 ·simp [hn]
 ·intro j h1 h2
  simp only [List.getElem_map, List.getElem_range]
  show ((L.den env).rows.getD (X.den env).int.toNat []).getD j (.I 0) = row[j]
  rw [hL, hX]
  show (rows.getD k []).getD j (.I 0) = _
  rw [hr, List.getD_eq_getElem?_getD, List.getElem?_eq_getElem h2]; rfl
theorem one_at {L X : E} {env : List DV} {rows : List (List DV)} {d : DV} {k : Nat} (hL : L.den env = .L rows) (hX : (X.den env).int.toNat = k) (hr : rows.getD k [] = [d]) : [(E.O (.at 0) L X).den env] = [d] := by
 show [((L.den env).rows.getD (X.den env).int.toNat []).getD 0 (.I 0)] = _
 rw [hL, hX]
 show [(rows.getD k []).getD 0 (.I 0)] = _
 rw [hr]; rfl
theorem alike_self {s : Sc} : AlikeS (s.p.mode : Int) s (s.p.mode : Int) s := ⟨rfl, rfl⟩
theorem xor_byte (a x : Int) : ∃ c : UInt8, O.den (.bxor .u8) (.I a) (.I x) = .I (c.toNat : Int) := by
 have h := wrap_in .u8 ((BitVec.ofInt 8 a ^^^ BitVec.ofInt 8 x).toNat : Int)
 have h1 : (0 : Int) ≤ IntKind.u8.wrap ((BitVec.ofInt 8 a ^^^ BitVec.ofInt 8 x).toNat : Int) := h.1
 have h2 : IntKind.u8.wrap ((BitVec.ofInt 8 a ^^^ BitVec.ofInt 8 x).toNat : Int) ≤ 255 := h.2
 refine ⟨UInt8.ofNat (IntKind.u8.wrap ((BitVec.ofInt 8 a ^^^ BitVec.ofInt 8 x).toNat : Int)).toNat, ?_⟩
 rw [UInt8.toNat_ofNat']
 show DV.I (IntKind.u8.wrap ((BitVec.ofInt 8 a ^^^ BitVec.ofInt 8 x).toNat : Int)) = _
 exact congrArg DV.I (by omega)
theorem rem_len {a n : Nat} (hn : 0 < n) : Int.tmod (a : Int) (n : Int) = ((a % n : Nat) : Int) := by
 rw [Int.tmod_eq_emod_of_nonneg (by omega)]; omega
theorem feed_all (r c : Nat) (l : List UInt8) : ScIn (feedS (newS (r % 6 + 1 : Nat) (c % 9 + 1 : Nat)) (seatB l)) (r % 6 + 1) (c % 9 + 1) ∧ ScW (feedS (newS (r % 6 + 1 : Nat) (c % 9 + 1 : Nat)) (seatB l)) (r % 6 + 1) (c % 9 + 1) := by
 have h1 := newS_in (r % 6 + 1) (c % 9 + 1) (by omega) (by omega) (by omega) (by omega)
 exact ⟨feedS_in _ h1, feedS_w _ h1 (newS_w _ _ _ _)⟩
theorem lwL_eq : lwL = .O .app (.O .app .N (.U .one (rowE (vs 0 24)))) (.U .one (rowE (vs 34 24))) := by kernel_rfl
theorem vs_at : ∀ {B A C : List DV} {a n : Nat}, A.length = a → B.length = n → (vs a n).map (·.den (A ++ (B ++ C))) = B
 | [], A, C, a, _, hA, rfl => rfl
 | b :: B, A, C, a, _, hA, rfl => by
  have h := vs_at (B := B) (A := A ++ [b]) (C := C) (a := a + 1) (by simp [hA]) rfl
  rw [List.append_assoc] at h
  have h0 : (E.V a).den (A ++ (b :: B ++ C)) = b := by
   show (A ++ (b :: B ++ C)).getD a (.I 0) = b
   rw [List.getD_eq_getElem?_getD, List.getElem?_append_right (by omega), hA, Nat.sub_self]; rfl
  show (E.V a).den (A ++ (b :: B ++ C)) :: (vs (a + 1) B.length).map (·.den (A ++ (b :: B ++ C))) = _
  rw [h0]
  exact congrArg (b :: ·) h
theorem v_at {A B : List DV} {a j : Nat} (hA : A.length = a) : (E.V (a + j)).den (A ++ B) = B.getD j (.I 0) := by
 show (A ++ B).getD (a + j) (.I 0) = _
 rw [List.getD_eq_getElem?_getD, List.getElem?_append_right (by omega), hA, show a + j - a = j by omega, List.getD_eq_getElem?_getD]
theorem lwL_den (E0 : List DV) : lwL.den E0 = .L [(vs 0 24).map (·.den E0), (vs 34 24).map (·.den E0)] := by
 rw [lwL_eq]
 show DV.L (([] ++ [((rowE (vs 0 24)).den E0).row]) ++ [((rowE (vs 34 24)).den E0).row]) = _
 rw [rowE_den, rowE_den]; rfl
theorem scR_len24 (m : Int) (s : Sc) : (scR m s).length = 24 := rfl
theorem scD_len24 (s : Sc) : (scD s).length = 24 := rfl
theorem lwLoop {L : E} {E0 : List DV} (h85 : E0.length = 85) (hbd : L.bd 85 = true) {y0 y1 y2 : List UInt8} (hL : L.den E0 = .L [[bytesD y0], [bytesD y1], [bytesD y2]]) (l0 : y0.length ≤ 1048576) (l1 : y1.length ≤ 1048576) (l2 : y2.length ≤ 1048576) {cx : List (List DV → Prop)} (hcx : cx.length = 1) :
  (lwSec L).den SpF1 (fun es => es = [DV.B true]) E0 cx := by
 obtain ⟨P, rfl⟩ : ∃ P, cx = [P] := by
  match cx, hcx with
  | [P], _ => exact ⟨P, rfl⟩
 have hLt : ∀ t, L.den (E0 ++ t) = .L [[bytesD y0], [bytesD y1], [bytesD y2]] := fun t => by
  rw [E.den_ext E0 t L (by rw [h85]; exact hbd)]; exact hL
 have hV : ∀ (j : Nat) (t : List DV), (E.V (85 + j)).den (E0 ++ t) = t.getD j (.I 0) := fun j t => by
  show (E0 ++ t).getD (85 + j) (.I 0) = _
  rw [List.getD_eq_getElem?_getD, List.getElem?_append_right (by omega), h85, show 85 + j - 85 = j by omega, List.getD_eq_getElem?_getD]
 refine dloop (fun k : Nat => [.I (k : Int)]) (fun k => k ≤ 3) (fun k => 3 - k) 0 rfl (Nat.zero_le _) fun k hk _ => ?_
 have v0 : ((E.V 85).den (E0 ++ [DV.I (k : Int)])).int = k := congrArg DV.int (hV 0 [DV.I (k : Int)])
 refine dlt (fun g => ?_) fun g => dret rfl
 have g : (k : Int) < 3 := by
  have g : ((E.V 85).den (E0 ++ [DV.I (k : Int)])).int < ((L.den (E0 ++ [DV.I (k : Int)])).rows.length : Int) := g
  rw [v0, hLt] at g
  exact g
 have step : ∃ y : List UInt8, y.length ≤ 1048576 ∧ [[bytesD y0], [bytesD y1], [bytesD y2]].getD k [] = [bytesD y] := by
  match k, g with
  | 0, _ => exact ⟨y0, l0, rfl⟩
  | 1, _ => exact ⟨y1, l1, rfl⟩
  | 2, _ => exact ⟨y2, l2, rfl⟩
  | n + 3, g => exact absurd g (by omega)
 obtain ⟨y, hy, hrow⟩ := step
 obtain ⟨r, hr⟩ := readR_ex y
 have hLS : LenS r.1 := by
  rcases hr with ⟨-, h⟩ | ⟨h, -⟩
  ·have := screenR_len hy
   rw [isSnap_read h] at this
   exact this
  ·rw [h]; exact noS_len
 have c1 := pReadS_sp y hy hr
 have c2 := dReadS_sp y hy hr
 have c3 := SameR_sp (m := (r.1.p.mode : Int)) (m' := (r.1.p.mode : Int)) (s := r.1) (t := r.1) (v := true) hLS (by simp [alike_self])
 refine dneed (decide_eq_true (show (0 : Int) ≤ ((E.V 85).den (E0 ++ [DV.I (k : Int)])).int by rw [v0]; omega)) (dcall c1 rfl (one_at (k := k) (hLt _) (by rw [v0]; exact Int.toNat_natCast k) hrow) rfl (dcall c2 rfl (one_at (k := k) (by rw [List.append_assoc]; exact hLt _) (by rw [List.append_assoc]; exact congrArg (fun d : DV => d.int.toNat) (hV 0 _)) hrow) rfl ?_))
 rw [List.append_assoc, List.append_assoc]
 have v25 : (E.V 110).den (E0 ++ ([DV.I (k : Int)] ++ (scD r.1 ++ [DV.I (r.2 : Int)] ++ (scD r.1 ++ [DV.I (r.2 : Int)])))) = .I (r.2 : Int) := hV 25 _
 have v50 : (E.V 135).den (E0 ++ ([DV.I (k : Int)] ++ (scD r.1 ++ [DV.I (r.2 : Int)] ++ (scD r.1 ++ [DV.I (r.2 : Int)])))) = .I (r.2 : Int) := hV 50 _
 refine deq (fun _ => ?_) fun h => absurd (by rw [v25, v50]) h
 have hsl : ((vs 86 24 ++ vs 111 24).map fun x => x.den (E0 ++ ([DV.I (k : Int)] ++ (scD r.1 ++ [DV.I (r.2 : Int)] ++ (scD r.1 ++ [DV.I (r.2 : Int)]))))) = scD r.1 ++ scD r.1 := by
  have e1 := vs_at (A := E0 ++ [DV.I (k : Int)]) (B := scD r.1) (C := [DV.I (r.2 : Int)] ++ (scD r.1 ++ [DV.I (r.2 : Int)])) (a := 86) (by rw [List.length_append, h85]; rfl) (scD_len24 r.1)
  have e2 := vs_at (A := E0 ++ ([DV.I (k : Int)] ++ (scD r.1 ++ [DV.I (r.2 : Int)]))) (B := scD r.1) (C := [DV.I (r.2 : Int)]) (a := 111) (by simp [h85, scD_len24]) (scD_len24 r.1)
  simp only [List.append_assoc] at e1 e2 ⊢
  rw [List.map_append, e1, e2]
 refine dcall c3 rfl hsl rfl ?_
 rw [List.append_assoc]
 refine dtrue (congrArg DV.bool (hV 51 _)) ?_
 have v0' : ((E.V 85).den (E0 ++ (([DV.I (k : Int)] ++ (scD r.1 ++ [DV.I (r.2 : Int)] ++ (scD r.1 ++ [DV.I (r.2 : Int)]))) ++ [DV.B true]))).int = k := congrArg DV.int (hV 0 _)
 refine dfit (show (-9223372036854775808 : Int) ≤ ((E.V 85).den (E0 ++ (([DV.I (k : Int)] ++ (scD r.1 ++ [DV.I (r.2 : Int)] ++ (scD r.1 ++ [DV.I (r.2 : Int)]))) ++ [DV.B true]))).int + 1 by rw [v0']; omega) (show ((E.V 85).den (E0 ++ (([DV.I (k : Int)] ++ (scD r.1 ++ [DV.I (r.2 : Int)] ++ (scD r.1 ++ [DV.I (r.2 : Int)]))) ++ [DV.B true]))).int + 1 ≤ 9223372036854775807 by rw [v0']; omega) (dagain rfl ⟨k + 1, ?_, by omega, by omega⟩)
 exact congrArg (fun n : Int => [DV.I (n + 1)]) v0'
theorem lwEnd_den {E0 : List DV} {s : Sc} {b q : List UInt8} {at_ x how : Nat} (hE0 : E0.length = 83) (hvs : (vs 34 24).map (·.den E0) = scD s) (hv28 : ∀ T, (E.V 28).den (E0 ++ T) = bytesD b) (hv29 : ∀ T, (E.V 29).den (E0 ++ T) = .I (at_ : Int)) (hv30 : ∀ T, (E.V 30).den (E0 ++ T) = .I (x : Int)) (hv31 : ∀ T, (E.V 31).den (E0 ++ T) = .I (how : Int))
  (hqput : Spn n_r7_Put sg_r7_Put (scR (s.p.mode : Int) s) [bytesD q, .I ((0 : Nat) : Int)]) (sp : 0 < q.length) (sb : q.length ≤ 65536) (h3 : b.length ≤ 1000) (hx : x < 256) {cx : List (List DV → Prop)} (hcx : cx.length = 1) :
  lwEnd.den SpF1 (fun es => es = [DV.B true]) E0 cx := by
 refine dcall hqput rfl hvs rfl ?_
 have hv83 : (E.V 83).den (E0 ++ [bytesD q, DV.I ((0 : Nat) : Int)]) = bytesD q := v_at (j := 0) hE0
 have n28 := hv28 [bytesD q, DV.I ((0 : Nat) : Int)]
 have n29 := hv29 [bytesD q, DV.I ((0 : Nat) : Int)]
 have n30 := hv30 [bytesD q, DV.I ((0 : Nat) : Int)]
 have n31 := hv31 [bytesD q, DV.I ((0 : Nat) : Int)]
 have h85 : (E0 ++ [bytesD q, DV.I ((0 : Nat) : Int)]).length = 85 := by rw [List.length_append, hE0]; rfl
 generalize E0 ++ [bytesD q, DV.I ((0 : Nat) : Int)] = E1 at *
 clear hvs hqput hv28 hv29 hv30 hv31 hE0
 have lq := bytes_len q
 have hq0 : (E.O .app .N (.V 83)).den E1 = bytesD q := app_nil_den hv83
 have hql : ((E.U .len (.O .app .N (.V 83))).den E1) = .I (q.length : Int) := by
  show DV.I (((E.O .app .N (.V 83)).den E1).rows.length : Int) = _
  rw [hq0, lq]
 have hlr : (((E.O .app .N (.V 83)).den E1).rows.length : Int) = q.length := by rw [hq0, lq]
 have hrem : ((E.O .rem (.V 29) (.U .len (.O .app .N (.V 83)))).den E1) = .I ((at_ % q.length : Nat) : Int) := by
  show DV.I (Int.tmod ((E.V 29).den E1).int ((E.U .len (.O .app .N (.V 83))).den E1).int) = _
  rw [n29, hql]
  exact congrArg DV.I (rem_len sp)
 have hlt : at_ % q.length < q.length := Nat.mod_lt _ sp
 have hne : ((E.U .not (.O .eq (.U .len (.O .app .N (.V 83))) (.I 0))).den E1).bool = true := by
  show (!decide (((E.U .len (.O .app .N (.V 83))).den E1).int = 0)) = true
  rw [hql]
  have hz : ¬ ((q.length : Int) = 0) := by omega
  show (!decide ((q.length : Int) = 0)) = true
  rw [decide_eq_false hz]; rfl
 have hri : ((E.O .rem (.V 29) (.U .len (.O .app .N (.V 83)))).den E1).int = ((at_ % q.length : Nat) : Int) := by rw [hrem]; rfl
 have hli : ((E.U .len (.O .app .N (.V 83))).den E1).int = q.length := by rw [hql]; rfl
 have list3 : ∀ {C : E} {y : List UInt8}, C.den E1 = bytesD y → (E.O .app (.O .app (.O .app .N (.U .one (.O .cns .R (.V 28)))) (.U .one (.O .cns .R (.V 83)))) (.U .one (.O .cns .R C))).den E1 = .L [[bytesD b], [bytesD q], [bytesD y]] := fun {C y} hC => by
  show DV.L ((([] ++ [[(E.V 28).den E1]]) ++ [[(E.V 83).den E1]]) ++ [[C.den E1]]) = _
  rw [n28, hv83, hC]; rfl
 have hlr2 : (0 : Int) + (((E.V 83).den E1).rows.length : Int) ≤ 1099511627776 := by
  rw [hv83, lq]; clear hlr hrem hne hri hli hql; omega
 refine nle hlr2 ?_
 have hrm : ∀ (z : Int), ((E.O .rem (.V 31) (.I 3)).den E1).int = z ↔ Int.tmod (how : Int) 3 = z := fun z => by
  have : ((E.O .rem (.V 31) (.I 3)).den E1).int = Int.tmod ((E.V 31).den E1).int 3 := rfl
  rw [this, n31]; exact Iff.rfl
 refine deq (fun _ => ?_) fun _ => deq (fun _ => ?_) fun _ => ?_
 ·obtain ⟨z, hz⟩ := xor_byte (q[at_ % q.length].toNat : Int) (x : Int)
  refine dneed hne (dwithin (by rw [hri]; omega) (by rw [hri, hli]; omega) ?_)
  refine lwLoop (L := lwL0) h85 (by kernel_rfl) (y0 := b) (y1 := q) (y2 := q.set (at_ % q.length) z) (list3 ?_) (by omega) (by omega) (by simp; omega) hcx
  have hat : (E.O (.at 0) (.O .app .N (.V 83)) (.O .rem (.V 29) (.U .len (.O .app .N (.V 83))))).den E1 = .I (q[at_ % q.length].toNat : Int) := by
   show (((E.O .app .N (.V 83)).den E1).rows.getD ((E.O .rem (.V 29) (.U .len (.O .app .N (.V 83)))).den E1).int.toNat []).getD 0 (.I 0) = _
   rw [hq0, hri, Int.toNat_natCast, bytes_at hlt]
  show DV.L (((E.O .app .N (.V 83)).den E1).rows.set ((E.O .rem (.V 29) (.U .len (.O .app .N (.V 83)))).den E1).int.toNat [O.den (.bxor .u8) ((E.O (.at 0) (.O .app .N (.V 83)) (.O .rem (.V 29) (.U .len (.O .app .N (.V 83))))).den E1) ((E.V 30).den E1)]) = _
  rw [hat, n30, hz, hq0, hri, Int.toNat_natCast]
  simp [bytesD, DV.rows, List.map_set]
 ·have hcut := cut_den (l := q) (env := E1) (A := .O .app .N (.V 83)) (X := .I 0) (Y := .O .rem (.V 29) (.U .len (.O .app .N (.V 83)))) (k := 0) (n := at_ % q.length) hq0 rfl (by rw [hri]; omega)
  rw [List.drop_zero] at hcut
  refine dneed hne (dneed (Bool.and_eq_true_iff.2 ⟨decide_eq_true (show (0 : Int) ≤ ((E.O .rem (.V 29) (.U .len (.O .app .N (.V 83)))).den E1).int by rw [hri]; omega), decide_eq_true (show ((E.O .rem (.V 29) (.U .len (.O .app .N (.V 83)))).den E1).int ≤ ((E.U .len (.O .app .N (.V 83))).den E1).int by rw [hri, hli]; omega)⟩) (nle (show (0 : Int) + (((E.O .rem (.V 29) (.U .len (.O .app .N (.V 83)))).den E1).int - 0) ≤ ((E.U .len (.O .app .N (.V 83))).den E1).int by rw [hri, hli]; omega) ?_))
  exact lwLoop (L := lwL1) h85 (by kernel_rfl) (y0 := b) (y1 := q) (y2 := q.take (at_ % q.length)) (list3 hcut) (by omega) (by omega) (by simp; omega) hcx
 ·have hcut := cut_den (l := q) (env := E1) (A := .O .app .N (.V 83)) (X := .I 0) (Y := .O .rem (.V 29) (.U .len (.O .app .N (.V 83)))) (k := 0) (n := at_ % q.length) hq0 rfl (by rw [hri]; omega)
  rw [List.drop_zero] at hcut
  have hdrop := drop_den (l := q) (env := E1) (A := .O .app .N (.V 83)) (X := .O .rem (.V 29) (.U .len (.O .app .N (.V 83)))) (k := at_ % q.length) hq0 hri
  obtain ⟨z, hz⟩ : ∃ z : UInt8, (x : Int) = (z.toNat : Int) := ⟨UInt8.ofNat x, by rw [UInt8.toNat_ofNat']; omega⟩
  rw [hz] at n30
  have hone : (E.O .app .N (.U .one (.O .cns .R (.V 30)))).den E1 = bytesD [z] := by
   show DV.L ([] ++ [[(E.V 30).den E1]]) = _
   rw [n30]; rfl
  have h1' := app_nil_den hcut
  have h2' : (E.O .app (.O .app .N (.O .tk (.O .dr (.O .app .N (.V 83)) (.I 0)) (.O .sub (.O .rem (.V 29) (.U .len (.O .app .N (.V 83)))) (.I 0)))) (.O .app .N (.U .one (.O .cns .R (.V 30))))).den E1 = bytesD (q.take (at_ % q.length) ++ [z]) := by
   have : (E.O .app (.O .app .N (.O .tk (.O .dr (.O .app .N (.V 83)) (.I 0)) (.O .sub (.O .rem (.V 29) (.U .len (.O .app .N (.V 83)))) (.I 0)))) (.O .app .N (.U .one (.O .cns .R (.V 30))))).den E1 = O.den .app (O.den .app (.L []) ((E.O .tk (.O .dr (.O .app .N (.V 83)) (.I 0)) (.O .sub (.O .rem (.V 29) (.U .len (.O .app .N (.V 83)))) (.I 0))).den E1)) ((E.O .app .N (.U .one (.O .cns .R (.V 30)))).den E1) := rfl
   rw [this, h1', hone, bytes_app2]
  have hC : (E.O .app (.O .app (.O .app .N (.O .tk (.O .dr (.O .app .N (.V 83)) (.I 0)) (.O .sub (.O .rem (.V 29) (.U .len (.O .app .N (.V 83)))) (.I 0)))) (.O .app .N (.U .one (.O .cns .R (.V 30))))) (.O .tk (.O .dr (.O .app .N (.V 83)) (.O .rem (.V 29) (.U .len (.O .app .N (.V 83))))) (.O .sub (.U .len (.O .app .N (.V 83))) (.O .rem (.V 29) (.U .len (.O .app .N (.V 83))))))).den E1 = bytesD (q.take (at_ % q.length) ++ [z] ++ q.drop (at_ % q.length)) := by
   rw [← bytes_app2, ← h2', ← hdrop]; rfl
  refine dneed hne (dneed (Bool.and_eq_true_iff.2 ⟨decide_eq_true (show (0 : Int) ≤ ((E.O .rem (.V 29) (.U .len (.O .app .N (.V 83)))).den E1).int by rw [hri]; omega), decide_eq_true (show ((E.O .rem (.V 29) (.U .len (.O .app .N (.V 83)))).den E1).int ≤ ((E.U .len (.O .app .N (.V 83))).den E1).int by rw [hri, hli]; omega)⟩) (nle (show (0 : Int) + (((E.O .rem (.V 29) (.U .len (.O .app .N (.V 83)))).den E1).int - 0) ≤ ((E.U .len (.O .app .N (.V 83))).den E1).int by rw [hri, hli]; omega) (nle (app_need (l := []) (m := q.take (at_ % q.length)) rfl hcut (by simp; omega)) (nle (app_need (l := q.take (at_ % q.length)) (m := [z]) h1' hone (by simp; omega)) (nle (show ((E.O .rem (.V 29) (.U .len (.O .app .N (.V 83)))).den E1).int + (((E.U .len (.O .app .N (.V 83))).den E1).int - ((E.O .rem (.V 29) (.U .len (.O .app .N (.V 83)))).den E1).int) ≤ ((E.U .len (.O .app .N (.V 83))).den E1).int by rw [hri, hli]; omega) (nle (app_need (l := q.take (at_ % q.length) ++ [z]) (m := q.drop (at_ % q.length)) h2' hdrop (by simp; omega)) ?_))))))
  exact lwLoop (L := lwL2) h85 (by kernel_rfl) (y0 := b) (y1 := q) (y2 := q.take (at_ % q.length) ++ [z] ++ q.drop (at_ % q.length)) (list3 hC) (by omega) (by omega) (by simp; omega) hcx
theorem lwFst_den {L : E} {E0 : List DV} {m : Int} {raw s t : Sc} {b : List UInt8} {at_ x how : Nat} (hE0 : E0.length = 82) (hbd : L.bd 82 = true) (hL0 : L.den E0 = .L [scR m raw, scD s]) (hvt : ∀ T, (vs 58 24).map (·.den (E0 ++ T)) = scD t) (hvs : ∀ T, (vs 34 24).map (·.den (E0 ++ T)) = scD s) (hv28 : ∀ T, (E.V 28).den (E0 ++ T) = bytesD b) (hv29 : ∀ T, (E.V 29).den (E0 ++ T) = .I (at_ : Int)) (hv30 : ∀ T, (E.V 30).den (E0 ++ T) = .I (x : Int)) (hv31 : ∀ T, (E.V 31).den (E0 ++ T) = .I (how : Int))
  (hRL : LenS raw) (sL : LenS s) (hsp : PutR (s.p.mode : Int) s (snapL s, 0)) (sp : 0 < (snapL s).length) (sb : (snapL s).length ≤ 65536) (h3 : b.length ≤ 1000) (hx : x < 256) : (lwFst L).den SpF1 (fun es => es = [DV.B true]) E0 [] := by
 obtain ⟨R, hR⟩ := putR_ex m raw
 obtain ⟨u0, hu0⟩ := ex_bool (AlikeS m raw (t.p.mode : Int) t)
 obtain ⟨u1, hu1⟩ := ex_bool (AlikeS (s.p.mode : Int) s (t.p.mode : Int) t)
 have hqput := Put_sp sL hsp
 have hLt : ∀ T, L.den (E0 ++ T) = .L [scR m raw, scD s] := fun T => by
  rw [E.den_ext E0 T L (by rw [hE0]; exact hbd)]; exact hL0
 have hV : ∀ (j : Nat) (T : List DV), (E.V (82 + j)).den (E0 ++ T) = T.getD j (.I 0) := fun j T => by
  show (E0 ++ T).getD (82 + j) (.I 0) = _
  rw [List.getD_eq_getElem?_getD, List.getElem?_append_right (by omega), hE0, show 82 + j - 82 = j by omega, List.getD_eq_getElem?_getD]
 refine dloop (fun k : Nat => [.I (k : Int)]) (fun k => k ≤ 2) (fun k => 2 - k) 0 rfl (Nat.zero_le _) fun k hk _ => ?_
 have v0 : ∀ T : List DV, ((E.V 82).den (E0 ++ ([DV.I (k : Int)] ++ T))).int = k := fun T => congrArg DV.int (hV 0 ([DV.I (k : Int)] ++ T))
 refine dlt (fun g => ?_) fun g => ?_
 ·have g : (k : Int) < 2 := by
   have g : ((E.V 82).den (E0 ++ [DV.I (k : Int)])).int < ((L.den (E0 ++ [DV.I (k : Int)])).rows.length : Int) := g
   rw [hLt, show ((E.V 82).den (E0 ++ [DV.I (k : Int)])).int = k from v0 []] at g
   exact g
  have step : ∃ (M : Int) (y : Sc) (Q : List UInt8 × Nat) (u : Bool), LenS y ∧ PutR M y Q ∧ (u = true ↔ AlikeS M y (t.p.mode : Int) t) ∧ [scR m raw, scD s].getD k [] = scR M y := by
   match k, g with
   | 0, _ => exact ⟨m, raw, R, u0, hRL, hR, hu0, rfl⟩
   | 1, _ => exact ⟨(s.p.mode : Int), s, (snapL s, 0), u1, sL, hsp, hu1, rfl⟩
   | n + 2, g => exact absurd g (by omega)
  obtain ⟨M, y, Q, u, hy, hQ, hu, hrow⟩ := step
  have c1 := pPut_sp hy hQ
  have c2 := Put_sp hy hQ
  have c3 := pSame_sp hy hu
  have c4 := SameR_sp hy hu
  have hrr : ∀ T : List DV, ((List.range 24).map fun j => E.O (.at j) L (.V 82)).map (·.den (E0 ++ ([DV.I (k : Int)] ++ T))) = scR M y := fun T => atRow (k := k) (hLt _) (by rw [v0]; exact Int.toNat_natCast k) hrow rfl
  have hrt : ∀ T : List DV, (((List.range 24).map fun j => E.O (.at j) L (.V 82)) ++ vs 58 24).map (·.den (E0 ++ ([DV.I (k : Int)] ++ T))) = scR M y ++ scR (t.p.mode : Int) t := fun T => by
   rw [List.map_append, hrr]
   exact congrArg (scR M y ++ ·) (hvt _)
  refine dneed (decide_eq_true (show (0 : Int) ≤ ((E.V 82).den (E0 ++ ([DV.I (k : Int)] ++ []))).int by rw [v0]; omega)) (dcall c1 rfl (hrr []) rfl ?_)
  rw [List.append_assoc]
  refine dcall c2 rfl (hrr _) rfl ?_
  rw [List.append_assoc, List.append_assoc]
  have z1 : (E.V 84).den (E0 ++ ([DV.I (k : Int)] ++ ([bytesD Q.1, DV.I (Q.2 : Int)] ++ [bytesD Q.1, DV.I (Q.2 : Int)]))) = .I (Q.2 : Int) := hV 2 _
  have z2 : (E.V 86).den (E0 ++ ([DV.I (k : Int)] ++ ([bytesD Q.1, DV.I (Q.2 : Int)] ++ [bytesD Q.1, DV.I (Q.2 : Int)]))) = .I (Q.2 : Int) := hV 4 _
  have z3 : (E.V 83).den (E0 ++ ([DV.I (k : Int)] ++ ([bytesD Q.1, DV.I (Q.2 : Int)] ++ [bytesD Q.1, DV.I (Q.2 : Int)]))) = bytesD Q.1 := hV 1 _
  have z4 : (E.V 85).den (E0 ++ ([DV.I (k : Int)] ++ ([bytesD Q.1, DV.I (Q.2 : Int)] ++ [bytesD Q.1, DV.I (Q.2 : Int)]))) = bytesD Q.1 := hV 3 _
  refine deq (fun _ => dtrue ?_ ?_) fun h => absurd (by rw [z1, z2]) h
  ·show (toBytes ((E.V 83).den _).rows == toBytes ((E.V 85).den _).rows) = true
   rw [z3, z4]; simp
  ·refine dcall c3 rfl (hrt _) rfl ?_
   rw [List.append_assoc, List.append_assoc]
   refine dcall c4 rfl (hrt _) rfl ?_
   rw [List.append_assoc, List.append_assoc, List.append_assoc]
   refine dtrue ?_ ?_
   ·show ((E.V 87).den _).bool == ((E.V 88).den _).bool
    rw [show (E.V 87).den (E0 ++ ([DV.I (k : Int)] ++ (([bytesD Q.1, DV.I (Q.2 : Int)] ++ [bytesD Q.1, DV.I (Q.2 : Int)]) ++ ([DV.B u] ++ [DV.B u])))) = .B u from hV 5 _, show (E.V 88).den (E0 ++ ([DV.I (k : Int)] ++ (([bytesD Q.1, DV.I (Q.2 : Int)] ++ [bytesD Q.1, DV.I (Q.2 : Int)]) ++ ([DV.B u] ++ [DV.B u])))) = .B u from hV 6 _]
    simp
   ·refine dfit (show (-9223372036854775808 : Int) ≤ ((E.V 82).den (E0 ++ ([DV.I (k : Int)] ++ (([bytesD Q.1, DV.I (Q.2 : Int)] ++ [bytesD Q.1, DV.I (Q.2 : Int)]) ++ ([DV.B u] ++ [DV.B u]))))).int + 1 by rw [v0]; omega) (show ((E.V 82).den (E0 ++ ([DV.I (k : Int)] ++ (([bytesD Q.1, DV.I (Q.2 : Int)] ++ [bytesD Q.1, DV.I (Q.2 : Int)]) ++ ([DV.B u] ++ [DV.B u]))))).int + 1 ≤ 9223372036854775807 by rw [v0]; omega) (dagain rfl ⟨k + 1, ?_, by omega, by omega⟩)
    exact congrArg (fun n : Int => [DV.I (n + 1)]) (v0 _)
 ·exact lwEnd_den (by rw [List.length_append, hE0]; rfl) (hvs _) (fun T => by rw [List.append_assoc]; exact hv28 _) (fun T => by rw [List.append_assoc]; exact hv29 _) (fun T => by rw [List.append_assoc]; exact hv30 _) (fun T => by rw [List.append_assoc]; exact hv31 _) hqput sp sb h3 hx rfl
theorem snapTells_sp (m : Int) (raw : Sc) (r c : Nat) (l mm b : List UInt8) (at_ x how : Nat) (hr : r < 256) (hc : c < 256) (hx : x < 256) : Spn n_law10_SnapTells sg_law10_SnapTells (scR m raw ++ [.I (r : Int), .I (c : Int), bytesD l, bytesD mm, bytesD b, .I (at_ : Int), .I (x : Int), .I (how : Int)]) [.B true] := by
 have ll := bytes_len l
 have lm := bytes_len mm
 have lb := bytes_len b
 refine rd_law10_SnapTells rfl ?_
 refine (dcall known_sp rfl rfl rfl (dtrue rfl (dcall (smallR_sp m raw) rfl rfl rfl (dbr (fun h0 => ?_) fun h0 => dret rfl))))
 replace h0 : smallB raw = true := h0
 have hRL := small_len h0
 refine dlt (fun _ => dret rfl) fun h1 => dlt (fun _ => dret rfl) fun h2 => dlt (fun _ => dret rfl) fun h3 => ?_
 have h1 : ¬ (40 : Int) < ((bytesD l).rows.length : Int) := h1
 have h2 : ¬ (40 : Int) < ((bytesD mm).rows.length : Int) := h2
 have h3 : ¬ (100 : Int) < ((bytesD b).rows.length : Int) := h3
 rw [ll] at h1
 rw [lm] at h2
 rw [lb] at h3
 obtain ⟨si, sw⟩ := feed_all r c l
 have sR := rightS_in si sw
 have sL := lenS_in si
 have sb := snapL_small si sw (by omega) (by omega)
 have sp := snapL_pos (feedS (newS (r % 6 + 1 : Nat) (c % 9 + 1 : Nat)) (seatB l))
 have k1 : Spn n_seat_Screen sg_seat_Screen [.I (r : Int), .I (c : Int), bytesD l] (scD (feedS (newS ((r % 6 + 1 : Nat) : Int) ((c % 9 + 1 : Nat) : Int)) (seatB l))) := seatScreen_sp r c (l := l) hr hc (by omega)
 have k2 : Spn n_seat_Screen sg_seat_Screen [.I (r : Int), .I (c : Int), bytesD mm] (scD (feedS (newS ((r % 6 + 1 : Nat) : Int) ((c % 9 + 1 : Nat) : Int)) (seatB mm))) := seatScreen_sp r c (l := mm) hr hc (by omega)
 have hcast : ∀ (a b : Nat), newS ((a : Int) + 1) ((b : Int) + 1) = newS ((a + 1 : Nat) : Int) ((b + 1 : Nat) : Int) := fun a b => rfl
 generalize hs : feedS (newS (r % 6 + 1 : Nat) (c % 9 + 1 : Nat)) (seatB l) = s at *
 generalize ht : feedS (newS (r % 6 + 1 : Nat) (c % 9 + 1 : Nat)) (seatB mm) = t at *
 refine dcall k1 rfl rfl rfl (dcall k2 rfl rfl rfl ?_)
 repeat rw [List.append_assoc]
 have l34 : (scR m raw ++ ([DV.I (r : Int), DV.I (c : Int), bytesD l, bytesD mm, bytesD b, DV.I (at_ : Int), DV.I (x : Int), DV.I (how : Int)] ++ ([DV.B true] ++ [DV.B (smallB raw)]))).length = 34 := by simp [scR_len24]
 have l58 : (scR m raw ++ ([DV.I (r : Int), DV.I (c : Int), bytesD l, bytesD mm, bytesD b, DV.I (at_ : Int), DV.I (x : Int), DV.I (how : Int)] ++ ([DV.B true] ++ ([DV.B (smallB raw)] ++ scD s)))).length = 58 := by simp [scR_len24, scD_len24]
 have hvt : ∀ T : List DV, (vs 58 24).map (·.den ((scR m raw ++ ([DV.I (r : Int), DV.I (c : Int), bytesD l, bytesD mm, bytesD b, DV.I (at_ : Int), DV.I (x : Int), DV.I (how : Int)] ++ ([DV.B true] ++ ([DV.B (smallB raw)] ++ (scD s ++ scD t))))) ++ T)) = scD t := fun T => by
  have := vs_at (C := T) l58 (scD_len24 t)
  simp only [List.append_assoc] at this ⊢
  exact this
 have hvs : ∀ T : List DV, (vs 34 24).map (·.den ((scR m raw ++ ([DV.I (r : Int), DV.I (c : Int), bytesD l, bytesD mm, bytesD b, DV.I (at_ : Int), DV.I (x : Int), DV.I (how : Int)] ++ ([DV.B true] ++ ([DV.B (smallB raw)] ++ (scD s ++ scD t))))) ++ T)) = scD s := fun T => by
  have := vs_at (C := scD t ++ T) l34 (scD_len24 s)
  simp only [List.append_assoc] at this ⊢
  exact this
 have hv0 : ∀ T : List DV, (vs 0 24).map (·.den ((scR m raw ++ ([DV.I (r : Int), DV.I (c : Int), bytesD l, bytesD mm, bytesD b, DV.I (at_ : Int), DV.I (x : Int), DV.I (how : Int)] ++ ([DV.B true] ++ ([DV.B (smallB raw)] ++ (scD s ++ scD t))))) ++ T)) = scR m raw := fun T => by
  have := vs_at (A := []) (B := scR m raw) (C := [DV.I (r : Int), DV.I (c : Int), bytesD l, bytesD mm, bytesD b, DV.I (at_ : Int), DV.I (x : Int), DV.I (how : Int)] ++ ([DV.B true] ++ ([DV.B (smallB raw)] ++ (scD s ++ (scD t ++ T))))) rfl (scR_len24 m raw)
  simp only [List.append_assoc, List.nil_append] at this ⊢
  exact this
 have hv8 : ∀ (j : Nat) (T : List DV), (E.V (24 + j)).den ((scR m raw ++ ([DV.I (r : Int), DV.I (c : Int), bytesD l, bytesD mm, bytesD b, DV.I (at_ : Int), DV.I (x : Int), DV.I (how : Int)] ++ ([DV.B true] ++ ([DV.B (smallB raw)] ++ (scD s ++ scD t))))) ++ T) = ([DV.I (r : Int), DV.I (c : Int), bytesD l, bytesD mm, bytesD b, DV.I (at_ : Int), DV.I (x : Int), DV.I (how : Int)] ++ ([DV.B true] ++ ([DV.B (smallB raw)] ++ (scD s ++ (scD t ++ T))))).getD j (.I 0) := fun j T => by
  rw [List.append_assoc, v_at (scR_len24 m raw)]
  simp only [List.append_assoc]
 have hL0 : lwL.den (scR m raw ++ ([DV.I (r : Int), DV.I (c : Int), bytesD l, bytesD mm, bytesD b, DV.I (at_ : Int), DV.I (x : Int), DV.I (how : Int)] ++ ([DV.B true] ++ ([DV.B (smallB raw)] ++ (scD s ++ scD t))))) = .L [scR m raw, scD s] := by
  rw [lwL_den]
  have h1 := hv0 []
  have h2 := hvs []
  rw [List.append_nil] at h1 h2
  rw [h1, h2]
 have hsp : PutR (s.p.mode : Int) s (snapL s, 0) := putR_right sR
 have hE0 : (scR m raw ++ ([DV.I (r : Int), DV.I (c : Int), bytesD l, bytesD mm, bytesD b, DV.I (at_ : Int), DV.I (x : Int), DV.I (how : Int)] ++ ([DV.B true] ++ ([DV.B (smallB raw)] ++ (scD s ++ scD t))))).length = 82 := by simp [scR_len24, scD_len24]
 have hv28 : ∀ T : List DV, (E.V 28).den ((scR m raw ++ ([DV.I (r : Int), DV.I (c : Int), bytesD l, bytesD mm, bytesD b, DV.I (at_ : Int), DV.I (x : Int), DV.I (how : Int)] ++ ([DV.B true] ++ ([DV.B (smallB raw)] ++ (scD s ++ scD t))))) ++ T) = bytesD b := fun T => hv8 4 T
 have hv29 : ∀ T : List DV, (E.V 29).den ((scR m raw ++ ([DV.I (r : Int), DV.I (c : Int), bytesD l, bytesD mm, bytesD b, DV.I (at_ : Int), DV.I (x : Int), DV.I (how : Int)] ++ ([DV.B true] ++ ([DV.B (smallB raw)] ++ (scD s ++ scD t))))) ++ T) = .I (at_ : Int) := fun T => hv8 5 T
 have hv30 : ∀ T : List DV, (E.V 30).den ((scR m raw ++ ([DV.I (r : Int), DV.I (c : Int), bytesD l, bytesD mm, bytesD b, DV.I (at_ : Int), DV.I (x : Int), DV.I (how : Int)] ++ ([DV.B true] ++ ([DV.B (smallB raw)] ++ (scD s ++ scD t))))) ++ T) = .I (x : Int) := fun T => hv8 6 T
 have hv31 : ∀ T : List DV, (E.V 31).den ((scR m raw ++ ([DV.I (r : Int), DV.I (c : Int), bytesD l, bytesD mm, bytesD b, DV.I (at_ : Int), DV.I (x : Int), DV.I (how : Int)] ++ ([DV.B true] ++ ([DV.B (smallB raw)] ++ (scD s ++ scD t))))) ++ T) = .I (how : Int) := fun T => hv8 7 T
 clear hv8 hv0 l34 l58
 exact lwFst_den hE0 (by kernel_rfl) hL0 hvt hvs hv28 hv29 hv30 hv31 hRL sL hsp sp (by omega) (by omega) hx
theorem snapTells_own : ownKnob Tryz.prog.godebug = none := by kernel_rfl
theorem snapTells_laidOut : laidOutB Tryz.prog = true := by kernel_rfl
set_option maxRecDepth 100000 in
theorem snapTells_lifted (os : Os) (started : os.Started) (H : Type) (enc : TypeId × Value → H) :
  ReturnsInHanded {} Tryz.checked os 3 .any (Rows.snapTellsSpec.pre6 enc Tryz.prog Tryz.f3 Rows.snapTellsRow.domain false) (Rows.snapTellsSpec.post enc Tryz.prog Tryz.f3 false true false false) := by
 refine returnsInHanded_of_change (C := Tryz.checked) snapTells_own started (by kernel_rfl) Tryz.func3
  (ChangeSpec.witness6 (enc := enc) (C := Tryz.checked) false ⟨#[], #[.agg #[.int .i64 0, .int .i64 0, .slice none 0 0, .int .i64 0, .int .i64 0, .bool false, .int .u16 0, .int .i64 0, .int .i64 0, .slice none 0 0, .int .i64 0, .int .i64 0, .int .u16 0, .bool false, .bool false, .bool false, .slice none 0 0, .int .i64 0, .int .i64 0, .int .i64 0, .int .u8 0, .slice none 0 0, .slice none 0 0, .slice none 0 0], .int .u8 0, .int .u8 0, .slice none 0 0, .slice none 0 0, .slice none 0 0, .int .u16 0, .int .u8 0, .int .u8 0], []⟩ 8 (by kernel_rfl) (by kernel_rfl) (by kernel_rfl) (by kernel_rfl)) ?_
 intro W base args ds gs before hval0 hW hcnd _
 have hval : ∀ (j : Nat) t v, Tryz.f3.params[j]? = some t → args[j]? = some v → Value.okWide Tryz.prog W .any base t v := hval0
 have hW' := hW
 obtain ⟨p, q, hA0, hV, rfl, hfz, hnd⟩ := hW
 have hA : DataW.TrodAll enc Tryz.prog W 0 (fun _ => true) true Tryz.f3.params.toList args.toList ds p := hA0
 have hlen : ds.length = 9 := (trodAll_len hA).trans (by decide +kernel)
 obtain ⟨d1, d2, d3, d4, d5, d6, d7, d8, d9, rfl⟩ : ∃ d1 d2 d3 d4 d5 d6 d7 d8 d9, ds = [d1, d2, d3, d4, d5, d6, d7, d8, d9] := by
  match ds, hlen with
  | [d1, d2, d3, d4, d5, d6, d7, d8, d9], _ => exact ⟨_, _, _, _, _, _, _, _, _, rfl⟩
 obtain ⟨rfl, rfl⟩ := trodVars_none hV
 obtain ⟨das, hR0⟩ := open_args (T := T1) (ps := sg_law10_SnapTells.params) t1ok (by decide +kernel) (fun j t v h1 h2 => hval j t v (by simpa using h1) (by simpa using h2)) hA
 obtain ⟨e0, _, v0, _, rfl, -, g0, k0⟩ := peel_agg hR0
 obtain ⟨m, raw, rfl⟩ := rd_screen g0
 obtain ⟨e1, _, v1, _, rfl, -, g1, k1⟩ := peel_one k0
 obtain ⟨e2, _, v2, _, rfl, -, g2, k2⟩ := peel_one k1
 obtain ⟨e3, _, v3, _, rfl, -, g3, k3⟩ := peel_one k2
 obtain ⟨e4, _, v4, _, rfl, -, g4, k4⟩ := peel_one k3
 obtain ⟨e5, _, v5, _, rfl, -, g5, k5⟩ := peel_one k4
 obtain ⟨e6, _, v6, _, rfl, -, g6, k6⟩ := peel_one k5
 obtain ⟨e7, _, v7, _, rfl, -, g7, k7⟩ := peel_one k6
 obtain ⟨e8, _, v8, _, rfl, -, g8, k8⟩ := peel_one k7
 obtain rfl := peel_nil k8
 obtain ⟨r, rfl, hr⟩ := rd8 g1
 obtain ⟨c, rfl, hc⟩ := rd8 g2
 obtain ⟨l, rfl⟩ := rd_bytes g3
 obtain ⟨mm, rfl⟩ := rd_bytes g4
 obtain ⟨b, rfl⟩ := rd_bytes g5
 obtain ⟨at_, rfl, -⟩ := rdN g6 rfl
 obtain ⟨x, rfl, hx⟩ := rd8 g7
 obtain ⟨how, rfl, -⟩ := rd8 g8
 have h := (snapTells_sp m raw r c l mm b at_ x how hr hc hx).law hR0
 have h : Calls Tryz.prog 3 args W fun e W' => e = .returned (.bool true) ∧ Below W.heap.size W W' := h
 refine h.mono fun e W' ⟨he, bel⟩ => ?_
 subst he
 exact ⟨_, rfl, _, _, _, [], _, [], hW', trodAll_mk1 (shut_bool Tryz.underlying4 _), below_args snapTells_laidOut bel (by decide +kernel) hA, rfl, bel.frame _, fun h => by cases h⟩
theorem snapTells_over : Rows.snapTellsRow.holds Tryz.pinned (OpenSpec.ofChange Rows.snapTellsSpec) :=
 OpenClaim.holds_of_wide 3 Tryz.f3 rfl rfl rfl rfl rfl rfl rfl ⟨rfl, rfl, rfl, rfl, rfl⟩ rfl rfl rfl rfl rfl (by kernel_rfl) Tryz.func3 (by kernel_rfl)
  (of_decide_eq_true (by kernel_rfl)) (by unfold Func.isWrapper; first | (rw [if_pos (by decide +kernel)]; kernel_rfl) | (rw [if_neg (by decide +kernel)]; exact ⟨rfl, rfl⟩))
  (fun os started H enc _ => snapTells_lifted os started H enc)
theorem snapTells_holds : Rows.SnapTellsSaid := snapTells_over
#print axioms snapTells_holds
end Go.Proofs.YtbegccgpmhbnfaaGreat
