/- What is proved here: the same contract, where a number's digit is kept, or one number more; words for a call that may write into certain blocks that were there, and into new ones: what it leaves as it was; no function of the program is named; contracts of the document's function that takes a byte with nothing pending, part by part: in new memory, or in its argument's. -/
import Derived.Test.YtbimhhcmfhooaaaM2
import Derived.Laws.OwnMore
namespace Go.Proofs.Ytbimhhcmfhooaaa
open Go.RowKit
set_option linter.unusedVariables false

section
variable {w : World} {base g cap : Nat} {l : List Int}
theorem OI.cellAt (h : OI w base (.slice (some ⟨g, 0, none⟩) l.length cap) l) (j : Nat) (hj : j < l.length) : w.cell? ⟨g, j, none⟩ = some (vI l[j]) := by
  unfold OI at h
  rw [World.ownsRow.cellAt h j (by omega)]
  simp [vIs, hj]
theorem OI.frozenAt (h : OI w base (.slice (some ⟨g, 0, none⟩) l.length cap) l) (j : Nat) : w.frozen? ⟨g, j, none⟩ = false := World.ownsRow.frozenAt h j
theorem OI.stored (h : OI w base (.slice (some ⟨g, 0, none⟩) l.length cap) l) (j : Nat) (x : Int) : OI (w.setCell ⟨g, j, none⟩ (vI x)) base (.slice (some ⟨g, 0, none⟩) l.length cap) (l.set j x) := by
  have := (World.ownsRow.stored h j (vI x)).1
  unfold OI
  rw [List.length_set]
  have e : vIs (l.set j x) = (vIs l).set j (vI x) := by simp [vIs, List.map_set]
  rw [e]
  exact this
theorem OI.formed {v : Value} (h : OI w base v l) (hl : 0 < l.length) : ∃ g cap, v = .slice (some ⟨g, 0, none⟩) l.length cap ∧ l.length ≤ cap ∧ cap ≤ 9223372036854775807 ∧ base ≤ g := by
  unfold OI at h
  rcases h.2 with ⟨hv, h0⟩ | ⟨g', cap', cur, hv, hb, hg, hnc, hcm, hcs, htake⟩
  · omega
  · unfold maxLen at hcm
    exact ⟨g', cap', hv, hnc, by omega, hb⟩
end
theorem set_keep1 {α : Type} {f : α → Value} {w w4 : World} {S : Nat → Prop} {v x0 y0 y1 y2 y3 y4 : Value} {l : List α} {i : Nat} (h : SL f w4 S v l) (hne : ∀ x, S x → x ≠ w.heap.size ∧ x ≠ w.heap.size + 1) :
    SL f ((((((w4.setCell ⟨w.heap.size, i, none⟩ x0).setCell ⟨w.heap.size + 1, 0, none⟩ y0).setCell ⟨w.heap.size + 1, 1, none⟩ y1).setCell ⟨w.heap.size + 1, 2, none⟩ y2).setCell ⟨w.heap.size + 1, 3, none⟩ y3).setCell ⟨w.heap.size + 1, 4, none⟩ y4) S v l :=
  (((((h.set (fun x hx => (hne x hx).1)).set (fun x hx => (hne x hx).2)).set (fun x hx => (hne x hx).2)).set (fun x hx => (hne x hx).2)).set (fun x hx => (hne x hx).2)).set (fun x hx => (hne x hx).2)
theorem set_below1 {w w4 : World} {x0 y0 y1 y2 y3 y4 : Value} {i : Nat} (h : Below w.heap.size w w4) :
    Below w.heap.size w ((((((w4.setCell ⟨w.heap.size, i, none⟩ x0).setCell ⟨w.heap.size + 1, 0, none⟩ y0).setCell ⟨w.heap.size + 1, 1, none⟩ y1).setCell ⟨w.heap.size + 1, 2, none⟩ y2).setCell ⟨w.heap.size + 1, 3, none⟩ y3).setCell ⟨w.heap.size + 1, 4, none⟩ y4) :=
  (((((h.setCell (Nat.le_refl _) _).setCell (Nat.le_succ _) _).setCell (Nat.le_succ _) _).setCell (Nat.le_succ _) _).setCell (Nat.le_succ _) _).setCell (Nat.le_succ _) _
/-- What is answered where the numbers are new ones. -/
theorem params_post {w w5 : World} {S : Nat → Prop} {p : Pr} {Ai Au : Option Addr} {ci cu : Nat} {v x0 : Value} {ps : List Int} (hS : ∀ x, S x → x < w.heap.size) (hi : SL vB w S (.slice Ai p.inter.length ci) p.inter) (hu : SL vB w S (.slice Au p.utf.length cu) p.utf) (hb5 : Below w.heap.size w w5) (ho : OI w5 (w.heap.size + 1 + 1 + 1) v ps) :
    VtPost S ({ p with params := ps }, []) w (.returned (.tuple #[.agg #[.int .i64 (p.mode : Int), .int .u8 (p.priv : Int), v, .slice Ai p.inter.length ci, .slice Au p.utf.length cu], .slice none 0 0]))
      ((((((w5.setCell ⟨w.heap.size, 2, none⟩ x0).setCell ⟨w.heap.size + 1, 0, none⟩ (.int .i64 (p.mode : Int))).setCell ⟨w.heap.size + 1, 1, none⟩ (.int .u8 (p.priv : Int))).setCell ⟨w.heap.size + 1, 2, none⟩ v).setCell ⟨w.heap.size + 1, 3, none⟩ (.slice Ai p.inter.length ci)).setCell ⟨w.heap.size + 1, 4, none⟩ (.slice Au p.utf.length cu)) := by
  have hbF := set_below1 (i := 2) (x0 := x0) (y0 := .int .i64 (p.mode : Int)) (y1 := .int .u8 (p.priv : Int)) (y2 := v) (y3 := .slice Ai p.inter.length ci) (y4 := .slice Au p.utf.length cu) hb5
  have hoF := set_keep1 (w := w) (i := 2) (x0 := x0) (y0 := .int .i64 (p.mode : Int)) (y1 := .int .u8 (p.priv : Int)) (y2 := v) (y3 := .slice Ai p.inter.length ci) (y4 := .slice Au p.utf.length cu) ho.sl (fun x hx => by have := hx.1; omega)
  exact ⟨_, _, rfl, ⟨_, _, _, rfl, hoF.mono (fun x hx => .inr ⟨by have := hx.1; omega, by simpa using hx.2⟩), sl_old hbF hS hi, sl_old hbF hS hu⟩, AS.nil _ _ _, hbF⟩
theorem two_kept3 {w w4 : World} {x y z : Obj} (hb : Below (w.heap.size + 1 + 1 + 1) (((w.alloc x).alloc y).alloc z) w4) : w4.heap[w.heap.size]? = some x ∧ w4.heap[w.heap.size + 1]? = some y := two_kept (by rw [(three_new w x y z).2]; exact hb)
theorem three_kept3 {w w4 : World} {x y z : Obj} (hb : Below (w.heap.size + 1 + 1 + 1) (((w.alloc x).alloc y).alloc z) w4) : w4.heap[w.heap.size]? = some x ∧ w4.heap[w.heap.size + 1]? = some y ∧ w4.heap[w.heap.size + 1 + 1]? = some z := by
  refine ⟨(two_kept3 hb).1, (two_kept3 hb).2, (hb.block _ (by omega)).trans ?_⟩
  show (((w.heap.push x).push y).push z)[w.heap.size + 1 + 1]? = some z
  rw [Array.getElem?_push, if_pos (by simp)]
theorem oneP_some (l : List Int) (h : 0 < l.length) : oneP l = l := by unfold oneP; rw [if_neg (by omega)]
theorem oneP_none (l : List Int) (h : l.length = 0) : oneP l = [0] := by unfold oneP; rw [if_pos h]

set_option maxHeartbeats 1000000 in
set_option maxRecDepth 100000 in
theorem csir_dig (vp vi vu : Value) (p : Pr) (b : UInt8) (S : Nat → Prop) (w : World) (hp : SL vI w S vp p.params) (hi : SL vB w S vi p.inter) (hu : SL vB w S vu p.utf) (hS : ∀ x, S x → x < w.heap.size) (h64 : ¬ 60 ≤ b.toNat) (hB : interB b = false) (hm : p.mode ≠ 5) (h58 : b.toNat ≠ 58) (h59 : b.toNat ≠ 59) (h48 : 48 ≤ b.toNat) (hq : 0 < p.params.length) (hq2 : p.params.length ≤ 16) (hpr : ∀ x ∈ p.params, 0 ≤ x ∧ x ≤ 65535) :
    Calls Try.prog 43 #[.agg #[.int .i64 (p.mode : Int), .int .u8 (p.priv : Int), vp, vi, vu], .int .u8 (b.toNat : Int)] w (VtPost S ({ p with params := digP (oneP p.params) b.toNat }, []) w) := by
  rw [oneP_some _ hq]
  have HP := Lib.hid hp
  have HI := Lib.hid hi
  have HU := Lib.hid hu
  have HSS := Lib.hid hS
  obtain ⟨Ap, cp, rfl, p1, p2⟩ := hp.form
  obtain ⟨Ai, ci, rfl, i1, i2⟩ := hi.form
  obtain ⟨Au, cu, rfl, u1, u2⟩ := hu.form
  clear hp hi hu hS
  have HIB := Lib.hid hB
  clear hB
  have d64 : decide ((64 : Int) ≤ (b.toNat : Int)) = false := by simp; omega
  have d60 : decide ((60 : Int) ≤ (b.toNat : Int)) = false := by simp; omega
  have d5 : ((p.mode : Int) == 5) = false := beq_eq_false_iff_ne.2 (by omega)
  have d58 : ((b.toNat : Int) == 58) = false := beq_eq_false_iff_ne.2 (by omega)
  have d59 : ((b.toNat : Int) == 59) = false := beq_eq_false_iff_ne.2 (by omega)
  have dq : ((p.params.length : Int) == 0) = false := beq_eq_false_iff_ne.2 (by omega)
  have hb0 : (48 : Int) ≤ (b.toNat : Int) := by omega
  have hb1 : (b.toNat : Int) ≤ 57 := by omega
  have hlast : p.params.length - 1 < p.params.length := by omega
  obtain ⟨x0, x1⟩ := hpr (p.params[p.params.length - 1]) (List.getElem_mem hlast)
  obtain ⟨x, hx⟩ : ∃ x, p.params[p.params.length - 1] = x := ⟨_, rfl⟩
  rw [hx] at x0 x1
  have HX := Lib.hid hx
  obtain ⟨M, hM⟩ : ∃ M, (if 65535 < 10 * x + ((b.toNat : Int) - 48) then 65535 else 10 * x + ((b.toNat : Int) - 48)) = M := ⟨_, rfl⟩
  have HM : Hid (p.params.set (p.params.length - 1) M = digP p.params b.toNat) := by
    unfold digP
    have e : p.params.getD (p.params.length - 1) 0 = x := by rw [← hx]; simp [List.getD, List.getElem?_eq_getElem hlast]
    rw [e, ← hM]
    show p.params.set (p.params.length - 1) _ = p.params.set (p.params.length - 1) _
    congr 1
    split <;> omega
  clear hx hpr hm h58 h59
  go_enter Try.func43, Try.ntmps43
  go_wp2_with (first
    | (go_at_call 22; refine (interr_any b _).mono ?_; rintro e w' ⟨rfl, rfl⟩; rw [HIB.out])
    | (at_builtin; refine wpl_appI _ rfl (.const (.slice none 0 0)) (.tmp 64) rfl (w.heap.size + 1 + 1 + 1) w.heap.size (.slice none 0 0) (.slice Ap p.params.length cp) [] p.params rfl rfl (OI.nil _ _) ((HP.out.is HSS.out).below (three_new w _ _ _).1) (by simp; omega) (Nat.le_of_eq (three_new w _ _ _).2.symm) ?_; intro v4 w4 ho hg4 hb4 _; clear hg4; rw [List.nil_append] at ho; obtain ⟨k0, k1⟩ := two_kept3 hb4; obtain ⟨c0, c1, c2, c3, c4, cf⟩ := five_cells k0; obtain ⟨e0, e1, e2, e3, e4, ef⟩ := five_cells k1; obtain ⟨g, q, rfl, q1, q2, hgg⟩ := ho.formed hq; have cl := ho.cellAt (p.params.length - 1) hlast; rw [HX.out] at cl; unfold vI at cl; have fl := ho.frozenAt (p.params.length - 1); have HB4 := Lib.hid hb4; have HO4 := Lib.hid ho; have HGG := Lib.hid hgg; have n1 : ¬ g = w.heap.size := (by omega); have n2 : ¬ g = w.heap.size + 1 := (by omega); have n3 : ¬ w.heap.size = g := (by omega); have n4 : ¬ w.heap.size + 1 = g := (by omega); clear hb4 k0 k1 ho hgg))
  have h3 := three_new w (.cells #[Value.int .i64 (p.mode : Int), Value.int .u8 (p.priv : Int), Value.slice Ap p.params.length cp, Value.slice Ai p.inter.length ci, Value.slice Au p.utf.length cu] 25) (.cells #[Value.int .i64 0, Value.int .u8 0, Value.slice none 0 0, Value.slice none 0 0, Value.slice none 0 0] 25) (.cells #[Value.int .i64 6, Value.int .u8 0, Value.slice none 0 0, Value.slice none 0 0, Value.slice none 0 0] 25)
  have hb5 := h3.1.trans ((HB4.out.setCell (p := ⟨g, p.params.length - 1, none⟩) HGG.out (.int .i64 M)).mono (by omega))
  have ho := HO4.out.stored (p.params.length - 1) M
  rw [HM.out] at ho
  exact bodyPost_ret (v := .tuple #[.agg #[.int .i64 (p.mode : Int), .int .u8 (p.priv : Int), Value.slice (some ⟨g, 0, none⟩) p.params.length q, Value.slice Ai p.inter.length ci, Value.slice Au p.utf.length cu], .slice none 0 0]) (by simp [results, Try.results43, go_sem, e0, e1, e2, e3, e4]) rfl (params_post HSS.out HI.out HU.out hb5 ho)
set_option maxHeartbeats 1000000 in
set_option maxRecDepth 100000 in
theorem csir_more (vp vi vu : Value) (p : Pr) (b : UInt8) (S : Nat → Prop) (w : World) (hp : SL vI w S vp p.params) (hi : SL vB w S vi p.inter) (hu : SL vB w S vu p.utf) (hS : ∀ x, S x → x < w.heap.size) (h64 : ¬ 60 ≤ b.toNat) (hB : interB b = false) (hm : p.mode ≠ 5) (h58 : b.toNat ≠ 58) (h59 : b.toNat = 59) (hq : 0 < p.params.length) (hq2 : p.params.length < 16) :
    Calls Try.prog 43 #[.agg #[.int .i64 (p.mode : Int), .int .u8 (p.priv : Int), vp, vi, vu], .int .u8 (b.toNat : Int)] w (VtPost S ({ p with params := oneP p.params ++ [0] }, []) w) := by
  have HP := Lib.hid hp
  have HI := Lib.hid hi
  have HU := Lib.hid hu
  have HSS := Lib.hid hS
  obtain ⟨Ap, cp, rfl, p1, p2⟩ := hp.form
  obtain ⟨Ai, ci, rfl, i1, i2⟩ := hi.form
  obtain ⟨Au, cu, rfl, u1, u2⟩ := hu.form
  clear hp hi hu hS
  have HIB := Lib.hid hB
  clear hB
  have d64 : decide ((64 : Int) ≤ (b.toNat : Int)) = false := by simp; omega
  have d60 : decide ((60 : Int) ≤ (b.toNat : Int)) = false := by simp; omega
  have d5 : ((p.mode : Int) == 5) = false := beq_eq_false_iff_ne.2 (by omega)
  have d58 : ((b.toNat : Int) == 58) = false := beq_eq_false_iff_ne.2 (by omega)
  rw [oneP_some _ hq]
  have d59 : ((b.toNat : Int) == 59) = true := beq_iff_eq.2 (by omega)
  have dq : ((p.params.length : Int) == 0) = false := beq_eq_false_iff_ne.2 (by omega)
  have d16 : decide ((16 : Int) ≤ (p.params.length : Int)) = false := by simp; omega
  clear hm h58 h59
  go_enter Try.func43, Try.ntmps43
  go_wp2_with (first
    | (go_at_call 22; refine (interr_any b _).mono ?_; rintro e w' ⟨rfl, rfl⟩; rw [HIB.out])
    | (at_builtin; refine wpl_appI _ rfl (.const (.slice none 0 0)) (.tmp 64) rfl (w.heap.size + 1 + 1 + 1) w.heap.size (.slice none 0 0) (.slice Ap p.params.length cp) [] p.params rfl rfl (OI.nil _ _) ((HP.out.is HSS.out).below (three_new w _ _ _).1) (by simp; omega) (Nat.le_of_eq (three_new w _ _ _).2.symm) ?_; intro v4 w4 ho4 hg4 hb4 _; clear hg4; rw [List.nil_append] at ho4; have z4 := hb4.size; rw [(three_new w _ _ _).2] at z4; obtain ⟨A4, q4, rfl, _, _, -⟩ := ho4.bs.at_)
    | (at_builtin; refine wpl_appI _ rfl (.tmp 78) (.tmp 79) rfl (w.heap.size + 1 + 1 + 1) _ _ _ p.params [0] rfl rfl (ho4.alloc _) (IS.one _ 0 _) (by simp; omega) (by simp; omega) ?_; intro v6 w6 ho6 hg6 hb6' _; clear hg6; have hb6 := (hb4.alloc z4 _).trans hb6'; obtain ⟨A6, q6, rfl, _, _, -⟩ := ho6.bs.at_; obtain ⟨k0, k1⟩ := two_kept3 hb6; obtain ⟨c0, c1, c2, c3, c4, cf⟩ := five_cells k0; obtain ⟨e0, e1, e2, e3, e4, ef⟩ := five_cells k1; have HB6 := Lib.hid hb6; have HO6 := Lib.hid ho6; clear hb6 k0 k1 ho6))
  have h3 := three_new w (.cells #[Value.int .i64 (p.mode : Int), Value.int .u8 (p.priv : Int), Value.slice Ap p.params.length cp, Value.slice Ai p.inter.length ci, Value.slice Au p.utf.length cu] 25) (.cells #[Value.int .i64 0, Value.int .u8 0, Value.slice none 0 0, Value.slice none 0 0, Value.slice none 0 0] 25) (.cells #[Value.int .i64 6, Value.int .u8 0, Value.slice none 0 0, Value.slice none 0 0, Value.slice none 0 0] 25)
  have hb7 := h3.1.trans (HB6.out.mono (by omega))
  have ho := HO6.out
  rw [List.length_append] at ho
  exact bodyPost_ret (v := .tuple #[.agg #[.int .i64 (p.mode : Int), .int .u8 (p.priv : Int), Value.slice A6 (p.params.length + 1) q6, Value.slice Ai p.inter.length ci, Value.slice Au p.utf.length cu], .slice none 0 0]) (by simp [results, Try.results43, go_sem, e0, e1, e2, e3, e4]) rfl (params_post HSS.out HI.out HU.out hb7 ho)
set_option maxHeartbeats 1000000 in
set_option maxRecDepth 100000 in
theorem csir_full (vp vi vu : Value) (p : Pr) (b : UInt8) (S : Nat → Prop) (w : World) (hp : SL vI w S vp p.params) (hi : SL vB w S vi p.inter) (hu : SL vB w S vu p.utf) (hS : ∀ x, S x → x < w.heap.size) (h64 : ¬ 60 ≤ b.toNat) (hB : interB b = false) (hm : p.mode ≠ 5) (h58 : b.toNat ≠ 58) (h59 : b.toNat = 59) (hq : 0 < p.params.length) (hq2 : 16 ≤ p.params.length) (hq3 : p.params.length ≤ 1048576) :
    Calls Try.prog 43 #[.agg #[.int .i64 (p.mode : Int), .int .u8 (p.priv : Int), vp, vi, vu], .int .u8 (b.toNat : Int)] w (VtPost S (prM 6, []) w) := by
  have HP := Lib.hid hp
  have HI := Lib.hid hi
  have HU := Lib.hid hu
  have HSS := Lib.hid hS
  obtain ⟨Ap, cp, rfl, p1, p2⟩ := hp.form
  obtain ⟨Ai, ci, rfl, i1, i2⟩ := hi.form
  obtain ⟨Au, cu, rfl, u1, u2⟩ := hu.form
  clear hp hi hu hS
  have HIB := Lib.hid hB
  clear hB
  have d64 : decide ((64 : Int) ≤ (b.toNat : Int)) = false := by simp; omega
  have d60 : decide ((60 : Int) ≤ (b.toNat : Int)) = false := by simp; omega
  have d5 : ((p.mode : Int) == 5) = false := beq_eq_false_iff_ne.2 (by omega)
  have d58 : ((b.toNat : Int) == 58) = false := beq_eq_false_iff_ne.2 (by omega)
  have d59 : ((b.toNat : Int) == 59) = true := beq_iff_eq.2 (by omega)
  have dq : ((p.params.length : Int) == 0) = false := beq_eq_false_iff_ne.2 (by omega)
  have d16 : (16 : Int) ≤ (p.params.length : Int) := by omega
  clear hm h58 h59
  go_enter Try.func43, Try.ntmps43
  go_wp2_with (first
    | (go_at_call 22; refine (interr_any b _).mono ?_; rintro e w' ⟨rfl, rfl⟩; rw [HIB.out])
    | (at_builtin; refine wpl_appI _ rfl (.const (.slice none 0 0)) (.tmp 64) rfl (w.heap.size + 1 + 1 + 1) w.heap.size (.slice none 0 0) (.slice Ap p.params.length cp) [] p.params rfl rfl (OI.nil _ _) ((HP.out.is HSS.out).below (three_new w _ _ _).1) (by simp; omega) (Nat.le_of_eq (three_new w _ _ _).2.symm) ?_; intro v4 w4 ho4 hg4 hb4 _; clear hg4; rw [List.nil_append] at ho4; have z4 := hb4.size; rw [(three_new w _ _ _).2] at z4; obtain ⟨A4, q4, rfl, _, _, -⟩ := ho4.bs.at_; obtain ⟨k0, k1, k2⟩ := three_kept3 hb4; obtain ⟨e0, e1, e2, e3, e4, ef⟩ := five_cells k1; obtain ⟨f0, f1, f2, f3, f4, ff⟩ := five_cells k2; have HB4 := Lib.hid hb4; clear hb4 k0 k1 k2 ho4))
  have h3 := three_new w (.cells #[Value.int .i64 (p.mode : Int), Value.int .u8 (p.priv : Int), Value.slice Ap p.params.length cp, Value.slice Ai p.inter.length ci, Value.slice Au p.utf.length cu] 25) (.cells #[Value.int .i64 0, Value.int .u8 0, Value.slice none 0 0, Value.slice none 0 0, Value.slice none 0 0] 25) (.cells #[Value.int .i64 6, Value.int .u8 0, Value.slice none 0 0, Value.slice none 0 0, Value.slice none 0 0] 25)
  have hb5 := h3.1.trans (HB4.out.mono (by omega))
  exact bodyPost_ret (v := .tuple #[.agg #[.int .i64 6, .int .u8 0, .slice none 0 0, .slice none 0 0, .slice none 0 0], .slice none 0 0]) (by simp [results, Try.results43, go_sem, e0, e1, e2, e3, e4]) rfl (ignPost (((((hb5.setCell (Nat.le_succ _) _).setCell (Nat.le_succ _) _).setCell (Nat.le_succ _) _).setCell (Nat.le_succ _) _).setCell (Nat.le_succ _) _))
set_option maxHeartbeats 1000000 in
set_option maxRecDepth 100000 in
theorem csir_more0 (vp vi vu : Value) (p : Pr) (b : UInt8) (S : Nat → Prop) (w : World) (hp : SL vI w S vp p.params) (hi : SL vB w S vi p.inter) (hu : SL vB w S vu p.utf) (hS : ∀ x, S x → x < w.heap.size) (h64 : ¬ 60 ≤ b.toNat) (hB : interB b = false) (hm : p.mode ≠ 5) (h58 : b.toNat ≠ 58) (h59 : b.toNat = 59) (hq : p.params.length = 0) :
    Calls Try.prog 43 #[.agg #[.int .i64 (p.mode : Int), .int .u8 (p.priv : Int), vp, vi, vu], .int .u8 (b.toNat : Int)] w (VtPost S ({ p with params := oneP p.params ++ [0] }, []) w) := by
  have HP := Lib.hid hp
  have HI := Lib.hid hi
  have HU := Lib.hid hu
  have HSS := Lib.hid hS
  obtain ⟨Ap, cp, rfl, p1, p2⟩ := hp.form
  obtain ⟨Ai, ci, rfl, i1, i2⟩ := hi.form
  obtain ⟨Au, cu, rfl, u1, u2⟩ := hu.form
  clear hp hi hu hS
  have HIB := Lib.hid hB
  clear hB
  have d64 : decide ((64 : Int) ≤ (b.toNat : Int)) = false := by simp; omega
  have d60 : decide ((60 : Int) ≤ (b.toNat : Int)) = false := by simp; omega
  have d5 : ((p.mode : Int) == 5) = false := beq_eq_false_iff_ne.2 (by omega)
  have d58 : ((b.toNat : Int) == 58) = false := beq_eq_false_iff_ne.2 (by omega)
  rw [oneP_none _ hq]
  have HE : Hid (p.params ++ [0] = [0]) := by
    rw [List.eq_nil_of_length_eq_zero hq]
    rfl
  have d59 : ((b.toNat : Int) == 59) = true := beq_iff_eq.2 (by omega)
  have dq : ((p.params.length : Int) == 0) = true := beq_iff_eq.2 (by omega)
  clear hm h58 h59
  have hq0 : p.params.length ≤ 0 := by omega
  clear hq
  go_enter Try.func43, Try.ntmps43
  go_wp2_with (first
    | (go_at_call 22; refine (interr_any b _).mono ?_; rintro e w' ⟨rfl, rfl⟩; rw [HIB.out])
    | (at_builtin; refine wpl_appI _ rfl (.const (.slice none 0 0)) (.tmp 64) rfl (w.heap.size + 1 + 1 + 1) w.heap.size (.slice none 0 0) (.slice Ap p.params.length cp) [] p.params rfl rfl (OI.nil _ _) ((HP.out.is HSS.out).below (three_new w _ _ _).1) (by simp; omega) (Nat.le_of_eq (three_new w _ _ _).2.symm) ?_; intro v4 w4 ho4 hg4 hb4 _; clear hg4; rw [List.nil_append] at ho4; have z4 := hb4.size; rw [(three_new w _ _ _).2] at z4; obtain ⟨A4, q4, rfl, _, _, -⟩ := ho4.bs.at_)
    | (at_builtin; refine wpl_appI _ rfl (.tmp 69) (.tmp 70) rfl (w.heap.size + 1 + 1 + 1) _ _ _ p.params [0] rfl rfl (ho4.alloc _) (IS.one _ 0 _) (by simp; omega) (by simp; omega) ?_; intro v5 w5 ho5 hg5 hb5' _; clear hg5; rw [HE.out] at ho5; have hb5 := (hb4.alloc z4 _).trans hb5'; have z5 := hb5.size; rw [(three_new w _ _ _).2] at z5; obtain ⟨A5, q5, rfl, _, _, -⟩ := ho5.bs.at_)
    | (at_builtin; refine wpl_appI _ rfl (.tmp 78) (.tmp 79) rfl (w.heap.size + 1 + 1 + 1) _ _ _ [0] [0] rfl rfl (ho5.alloc _) (IS.one _ 0 _) (by simp) (by simp; omega) ?_; intro v6 w6 ho6 hg6 hb6' _; clear hg6; have hb6 := (hb5.alloc z5 _).trans hb6'; obtain ⟨A6, q6, rfl, _, _, -⟩ := ho6.bs.at_; obtain ⟨k0, k1⟩ := two_kept3 hb6; obtain ⟨c0, c1, c2, c3, c4, cf⟩ := five_cells k0; obtain ⟨e0, e1, e2, e3, e4, ef⟩ := five_cells k1; have HB6 := Lib.hid hb6; have HO6 := Lib.hid ho6; clear hb6 k0 k1 ho6))
  have h3 := three_new w (.cells #[Value.int .i64 (p.mode : Int), Value.int .u8 (p.priv : Int), Value.slice Ap p.params.length cp, Value.slice Ai p.inter.length ci, Value.slice Au p.utf.length cu] 25) (.cells #[Value.int .i64 0, Value.int .u8 0, Value.slice none 0 0, Value.slice none 0 0, Value.slice none 0 0] 25) (.cells #[Value.int .i64 6, Value.int .u8 0, Value.slice none 0 0, Value.slice none 0 0, Value.slice none 0 0] 25)
  have hb7 := h3.1.trans (HB6.out.mono (by omega))
  have ho := HO6.out
  have ho : OI w6 (w.heap.size + 1 + 1 + 1) (.slice A6 2 q6) ([0] ++ [0]) := ho
  exact bodyPost_ret (v := .tuple #[.agg #[.int .i64 (p.mode : Int), .int .u8 (p.priv : Int), Value.slice A6 2 q6, Value.slice Ai p.inter.length ci, Value.slice Au p.utf.length cu], .slice none 0 0]) (by simp [results, Try.results43, go_sem, e0, e1, e2, e3, e4]) rfl (params_post HSS.out HI.out HU.out hb7 ho)
set_option maxHeartbeats 1000000 in
set_option maxRecDepth 100000 in
theorem csir_dig0 (vp vi vu : Value) (p : Pr) (b : UInt8) (S : Nat → Prop) (w : World) (hp : SL vI w S vp p.params) (hi : SL vB w S vi p.inter) (hu : SL vB w S vu p.utf) (hS : ∀ x, S x → x < w.heap.size) (h64 : ¬ 60 ≤ b.toNat) (hB : interB b = false) (hm : p.mode ≠ 5) (h58 : b.toNat ≠ 58) (h59 : b.toNat ≠ 59) (h48 : 48 ≤ b.toNat) (hq : p.params.length = 0) :
    Calls Try.prog 43 #[.agg #[.int .i64 (p.mode : Int), .int .u8 (p.priv : Int), vp, vi, vu], .int .u8 (b.toNat : Int)] w (VtPost S ({ p with params := digP (oneP p.params) b.toNat }, []) w) := by
  rw [oneP_none _ hq]
  have HE : Hid (p.params ++ [0] = [0]) := by
    rw [List.eq_nil_of_length_eq_zero hq]
    rfl
  have HP := Lib.hid hp
  have HI := Lib.hid hi
  have HU := Lib.hid hu
  have HSS := Lib.hid hS
  obtain ⟨Ap, cp, rfl, p1, p2⟩ := hp.form
  obtain ⟨Ai, ci, rfl, i1, i2⟩ := hi.form
  obtain ⟨Au, cu, rfl, u1, u2⟩ := hu.form
  clear hp hi hu hS
  have HIB := Lib.hid hB
  clear hB
  have d64 : decide ((64 : Int) ≤ (b.toNat : Int)) = false := by simp; omega
  have d60 : decide ((60 : Int) ≤ (b.toNat : Int)) = false := by simp; omega
  have d5 : ((p.mode : Int) == 5) = false := beq_eq_false_iff_ne.2 (by omega)
  have d58 : ((b.toNat : Int) == 58) = false := beq_eq_false_iff_ne.2 (by omega)
  have d59 : ((b.toNat : Int) == 59) = false := beq_eq_false_iff_ne.2 (by omega)
  have dq : ((p.params.length : Int) == 0) = true := beq_iff_eq.2 (by omega)
  have hq0 : p.params.length ≤ 0 := by omega
  have hb0 : (48 : Int) ≤ (b.toNat : Int) := by omega
  have hb1 : (b.toNat : Int) ≤ 57 := by omega
  have HM : Hid ([((b.toNat : Int) - 48)] = digP [0] b.toNat) := by
    unfold digP
    show [((b.toNat : Int) - 48)] = [min (10 * 0 + ((b.toNat : Int) - 48)) 65535]
    congr 1
    omega
  clear hq hm h58 h59
  go_enter Try.func43, Try.ntmps43
  go_wp2_with (first
    | (go_at_call 22; refine (interr_any b _).mono ?_; rintro e w' ⟨rfl, rfl⟩; rw [HIB.out])
    | (at_builtin; refine wpl_appI _ rfl (.const (.slice none 0 0)) (.tmp 64) rfl (w.heap.size + 1 + 1 + 1) w.heap.size (.slice none 0 0) (.slice Ap p.params.length cp) [] p.params rfl rfl (OI.nil _ _) ((HP.out.is HSS.out).below (three_new w _ _ _).1) (by simp; omega) (Nat.le_of_eq (three_new w _ _ _).2.symm) ?_; intro v4 w4 ho4 hg4 hb4 _; clear hg4; rw [List.nil_append] at ho4; have z4 := hb4.size; rw [(three_new w _ _ _).2] at z4; obtain ⟨A4, q4, rfl, _, _, -⟩ := ho4.bs.at_)
    | (at_builtin; refine wpl_appI _ rfl (.tmp 69) (.tmp 70) rfl (w.heap.size + 1 + 1 + 1) _ _ _ p.params [0] rfl rfl (ho4.alloc _) (IS.one _ 0 _) (by simp; omega) (by simp; omega) ?_; intro v5 w5 ho5 hg5 hb5' _; clear hg5; rw [HE.out] at ho5; have hb5 := (hb4.alloc z4 _).trans hb5'; have z5 := hb5.size; rw [(three_new w _ _ _).2] at z5; obtain ⟨k0, k1⟩ := two_kept3 hb5; obtain ⟨c0, c1, c2, c3, c4, cf⟩ := five_cells k0; obtain ⟨e0, e1, e2, e3, e4, ef⟩ := five_cells k1; obtain ⟨g, q, rfl, q1, q2, hgg⟩ := ho5.formed (by simp); have ho5 : OI w5 (w.heap.size + 1 + 1 + 1) (.slice (some ⟨g, 0, none⟩) 1 q) [0] := ho5; have cl : w5.cell? ⟨g, 0, none⟩ = some (.int .i64 0) := OI.cellAt (l := [0]) ho5 0 (by simp); have fl := OI.frozenAt (l := [0]) ho5 0; have HB5 := Lib.hid hb5; have HO5 := Lib.hid ho5; have HGG := Lib.hid hgg; have n1 : ¬ g = w.heap.size := (by omega); have n2 : ¬ g = w.heap.size + 1 := (by omega); have n3 : ¬ w.heap.size = g := (by omega); have n4 : ¬ w.heap.size + 1 = g := (by omega); clear hb5 k0 k1 ho5 hgg))
  have h3 := three_new w (.cells #[Value.int .i64 (p.mode : Int), Value.int .u8 (p.priv : Int), Value.slice Ap p.params.length cp, Value.slice Ai p.inter.length ci, Value.slice Au p.utf.length cu] 25) (.cells #[Value.int .i64 0, Value.int .u8 0, Value.slice none 0 0, Value.slice none 0 0, Value.slice none 0 0] 25) (.cells #[Value.int .i64 6, Value.int .u8 0, Value.slice none 0 0, Value.slice none 0 0, Value.slice none 0 0] 25)
  have hb5 := h3.1.trans ((HB5.out.setCell (p := ⟨g, 0, none⟩) HGG.out (.int .i64 ((b.toNat : Int) - 48))).mono (by omega))
  have ho : OI (w5.setCell ⟨g, 0, none⟩ (.int .i64 ((b.toNat : Int) - 48))) (w.heap.size + 1 + 1 + 1) (.slice (some ⟨g, 0, none⟩) 1 q) [((b.toNat : Int) - 48)] := OI.stored (l := [0]) HO5.out 0 ((b.toNat : Int) - 48)
  rw [HM.out] at ho
  exact bodyPost_ret (v := .tuple #[.agg #[.int .i64 (p.mode : Int), .int .u8 (p.priv : Int), Value.slice (some ⟨g, 0, none⟩) 1 q, Value.slice Ai p.inter.length ci, Value.slice Au p.utf.length cu], .slice none 0 0]) (by simp [results, Try.results43, go_sem, e0, e1, e2, e3, e4]) rfl (params_post HSS.out HI.out HU.out hb5 ho)

/-- Within a control sequence. -/
theorem csir_any (vp vi vu : Value) (p : Pr) (b : UInt8) (S : Nat → Prop) (w : World) (hp : SL vI w S vp p.params) (hi : SL vB w S vi p.inter) (hu : SL vB w S vu p.utf) (hS : ∀ x, S x → x < w.heap.size) (hok : PrOk p) (hb : 32 ≤ b.toNat) :
    Calls Try.prog 43 #[.agg #[.int .i64 (p.mode : Int), .int .u8 (p.priv : Int), vp, vi, vu], .int .u8 (b.toNat : Int)] w (VtPost S (csiL p b) w) := by
  have hpl := hok.params
  unfold csiL
  by_cases h64 : 64 ≤ b.toNat
  · rw [if_pos h64]
    exact csir_fin vp vi vu p b S w hp hi hu hS h64
  rw [if_neg h64]
  cases hB : interB b
  · rw [if_neg (by simp)]
    by_cases hm : p.mode = 5
    · rw [if_pos (.inl hm)]
      exact csir_i5 vp vi vu p b S w hp hi hu hS h64 hB hm
    by_cases h58 : b.toNat = 58
    · rw [if_pos (.inr h58)]
      exact csir_col vp vi vu p b S w hp hi hu hS h64 hB hm h58
    rw [if_neg (by omega)]
    by_cases h60 : 60 ≤ b.toNat
    · rw [if_pos h60]
      by_cases hq : 0 < p.params.length
      · rw [if_pos (.inl hq)]
        exact csir_pr1 vp vi vu p b S w hp hi hu hS h64 hB hm h58 h60 hq
      by_cases hv : p.priv = 0
      · rw [if_neg (by omega)]
        exact csir_pr3 vp vi vu p b S w hp hi hu hS h64 hB hm h58 h60 (by omega) hv
      · rw [if_pos (.inr hv)]
        exact csir_pr2 vp vi vu p b S w hp hi hu hS h64 hB hm h58 h60 (by omega) hv
    rw [if_neg h60]
    have h48 : 48 ≤ b.toNat := by
      rcases Nat.lt_or_ge b.toNat 48 with h1 | h1
      · rw [inter_yes b hb (by omega)] at hB
        cases hB
      · exact h1
    by_cases h59 : b.toNat = 59
    · rw [if_pos h59]
      by_cases hq : 0 < p.params.length
      · by_cases h16 : 16 ≤ (oneP p.params).length
        · rw [if_pos h16]
          rw [oneP_some _ hq] at h16
          exact csir_full vp vi vu p b S w hp hi hu hS h60 hB hm h58 h59 hq h16 (by omega)
        · rw [if_neg h16]
          rw [oneP_some _ hq] at h16
          exact csir_more vp vi vu p b S w hp hi hu hS h60 hB hm h58 h59 hq (by omega)
      · rw [if_neg (by rw [oneP_none _ (by omega)]; simp)]
        exact csir_more0 vp vi vu p b S w hp hi hu hS h60 hB hm h58 h59 (by omega)
    · rw [if_neg h59]
      by_cases hq : 0 < p.params.length
      · exact csir_dig vp vi vu p b S w hp hi hu hS h60 hB hm h58 h59 h48 hq hpl hok.each
      · exact csir_dig0 vp vi vu p b S w hp hi hu hS h60 hB hm h58 h59 h48 (by omega)
  · rw [if_pos rfl]
    by_cases hl : 2 ≤ p.inter.length
    · rw [if_pos hl]
      exact csir_i2 vp vi vu p b S w hp hi hu hS h64 hB hl
    · rw [if_neg hl]
      exact csir_int vp vi vu p b S w hp hi hu hS h64 hB (by omega)
end Go.Proofs.Ytbimhhcmfhooaaa

namespace Go.Proofs.Ytbimhhcmfhooaaa
open Go.RowKit
set_option linter.unusedVariables false

/-- Of what was there only blocks of B may have turned. -/
structure Fr (B : Nat → Prop) (w w' : World) : Prop where
  os : w'.os = w.os
  tape : w'.tape = w.tape
  output : w'.output = w.output
  size : w.heap.size ≤ w'.heap.size
  block : ∀ k, k < w.heap.size → ¬ B k → w'.heap[k]? = w.heap[k]?
section
variable {B B1 : Nat → Prop} {w w1 w2 : World}
theorem Fr.refl (B : Nat → Prop) (w : World) : Fr B w w := ⟨rfl, rfl, rfl, Nat.le_refl _, fun _ _ _ => rfl⟩
theorem Fr.of (h : Below w.heap.size w w1) (B : Nat → Prop) : Fr B w w1 := ⟨h.os, h.tape, h.output, h.size, fun k hk _ => h.block k hk⟩
theorem Fr.below {n : Nat} (h : Fr B w w1) (hB : ∀ x, B x → n ≤ x) (hn : n ≤ w.heap.size) : Below n w w1 := ⟨h.os, h.tape, h.output, h.size, fun k hk => h.block k (by omega) (fun hb => by have := hB k hb; omega)⟩
theorem Fr.trans (h : Fr B w w1) (h2 : Fr B1 w1 w2) (hB : ∀ x, B1 x → B x ∨ w.heap.size ≤ x) : Fr B w w2 :=
  ⟨h2.os.trans h.os, h2.tape.trans h.tape, h2.output.trans h.output, Nat.le_trans h.size h2.size, fun k hk hn =>
    (h2.block k (Nat.lt_of_lt_of_le hk h.size) (fun hb => (hB k hb).elim hn (fun h => by omega))).trans (h.block k hk hn)⟩
theorem Fr.mono (h : Fr B w w1) (hB : ∀ x, B x → B1 x) : Fr B1 w w1 := ⟨h.os, h.tape, h.output, h.size, fun k hk hn => h.block k hk (fun hb => hn (hB k hb))⟩
theorem Fr.alloc (h : Fr B w w1) (o : Obj) : Fr B w (w1.alloc o) :=
  ⟨h.os, h.tape, h.output, by have := h.size; simp; omega, fun k hk hn => (Below.heap_alloc _ _ _ (Nat.lt_of_lt_of_le hk h.size)).trans (h.block k hk hn)⟩
theorem Fr.drew (h : Fr B w w1) : Fr B w w1.drew := ⟨h.os, h.tape, h.output, h.size, h.block⟩
theorem Fr.setCell (h : Fr B w w1) {p : Addr} (hp : B p.block ∨ w.heap.size ≤ p.block) (u : Value) : Fr B w (w1.setCell p u) :=
  ⟨h.os, h.tape, h.output, by have := h.size; simp; omega, fun k hk hn => (Below.heap_setCell _ _ _ _ (fun e => hp.elim (fun hb => hn (by rw [e]; exact hb)) (fun hh => by omega))).trans (h.block k hk hn)⟩
theorem Fr.grown {row : Option Nat} (h : Fr B w w1) (hg : w1.grownBy w2 row) (hr : ∀ k, row = some k → B k ∨ w.heap.size ≤ k) : Fr B w w2 :=
  ⟨hg.os.trans h.os, hg.tape.trans h.tape, hg.output.trans h.output, Nat.le_trans h.size hg.size, fun k hk hn =>
    (hg.block k (Nat.lt_of_lt_of_le hk h.size) (fun e => (hr k e.symm).elim hn (fun hh => by omega))).trans (h.block k hk hn)⟩
end
/-- A row of the call's own whose block is left alone. -/
theorem own_keep {w w' : World} {base size n : Nat} {e : TypeId} {v : Value} {xs : List Value} (h : w.ownsRow base e size v n xs) (hk : ∀ g, v.ownBlock = some g → w'.heap[g]? = w.heap[g]?) : w'.ownsRow base e size v n xs := by
  refine ⟨h.1, ?_⟩
  rcases h.2 with hn | ⟨g, cap, cur, rfl, hb, hgg, rest⟩
  · exact .inl hn
  · exact .inr ⟨g, cap, cur, rfl, hb, (hk g rfl).trans hgg, rest⟩
theorem OA.keepB {w w' : World} {base : Nat} {S : Nat → Prop} {v : Value} {l : List Ac} (h : OA w base S v l) (hk : ∀ g, v.ownBlock = some g → w'.heap[g]? = w.heap[g]?) (hS : ∀ g, S g → w'.heap[g]? = w.heap[g]?) : OA w' base S v l := by
  obtain ⟨xs, a, b, c⟩ := h
  exact ⟨xs, own_keep a hk, b.keep (fun q hq => World.cell?_of_block (hS _ hq)), c⟩
/-- Rows of unlike kinds are never one. -/
theorem own_apart {w : World} {b1 b2 z1 z2 n1 n2 : Nat} {e1 e2 : TypeId} {v1 v2 : Value} {xs1 xs2 : List Value} (h1 : w.ownsRow b1 e1 z1 v1 n1 xs1) (h2 : w.ownsRow b2 e2 z2 v2 n2 xs2) (hne : e1 ≠ e2) (g : Nat) (hg1 : v1.ownBlock = some g) (hg2 : v2.ownBlock = some g) : False := by
  rcases h1.2 with ⟨rfl, _⟩ | ⟨g1, c1, u1, rfl, _, k1, _⟩
  · cases hg1
  rcases h2.2 with ⟨rfl, _⟩ | ⟨g2, c2, u2, rfl, _, k2, _⟩
  · cases hg2
  simp [Value.ownBlock] at hg1 hg2
  subst hg1
  subst hg2
  rw [k1] at k2
  injection k2 with k2
  injection k2 with _ k2 _
  exact hne k2

/-- A parser's lists and acts that are the call's own: their blocks are of B, from 'base' on, and apart from one another. -/
def StL (w : World) (base : Nat) (B : Nat → Prop) (vp vi vu av : Value) (ps : List Int) (is us : List UInt8) (l : List Ac) : Prop :=
  ∃ S : Nat → Prop, (OI w base vp ps ∧ OB w base vi is ∧ SL vB w S vu us ∧ OA w base S av l) ∧ (∀ x, S x → B x) ∧ (∀ x, B x → base ≤ x ∧ x < w.heap.size) ∧ (∀ g, vp.ownBlock = some g → B g ∧ ¬ S g) ∧ (∀ g, vi.ownBlock = some g → B g ∧ ¬ S g) ∧ (∀ g, av.ownBlock = some g → B g)
section
variable {w w' : World} {base : Nat} {B : Nat → Prop} {vp vi vu av : Value} {ps : List Int} {is us : List UInt8} {l : List Ac}
theorem StL.lt (h : StL w base B vp vi vu av ps is us l) : ∀ x, B x → base ≤ x ∧ x < w.heap.size := by
  obtain ⟨S, _, _, h3, _⟩ := h
  exact h3
theorem StL.keep (h : StL w base B vp vi vu av ps is us l) (hk : ∀ x, B x → w'.heap[x]? = w.heap[x]?) : StL w' base B vp vi vu av ps is us l := by
  obtain ⟨S, ⟨a1, a2, a3, a4⟩, h2, h3, h4, h5, h6⟩ := h
  refine ⟨S, ⟨own_keep a1 (fun g hg => hk g (h4 g hg).1), own_keep a2 (fun g hg => hk g (h5 g hg).1), a3.keep (fun q hq => World.cell?_of_block (hk _ (h2 _ hq))), a4.keepB (fun g hg => hk g (h6 g hg)) (fun g hg => hk g (h2 g hg))⟩, h2, fun x hx => ⟨(h3 x hx).1, ?_⟩, h4, h5, h6⟩
  have h7 := hk x hx
  have h8 := (h3 x hx).2
  rcases Nat.lt_or_ge x w'.heap.size with h9 | h9
  · exact h9
  · rw [Array.getElem?_eq_none h9] at h7
    rw [Array.getElem?_eq_getElem h8] at h7
    cases h7
theorem StL.below (h : StL w base B vp vi vu av ps is us l) (hb : Below w.heap.size w w') : StL w' base B vp vi vu av ps is us l := h.keep (fun x hx => hb.block x (h.lt x hx).2)
theorem StL.set (h : StL w base B vp vi vu av ps is us l) {p : Addr} (hp : ¬ B p.block) (u : Value) : StL (w.setCell p u) base B vp vi vu av ps is us l := h.keep (fun x hx => Below.heap_setCell _ _ _ _ (fun e => hp (by rw [← e]; exact hx)))
theorem StL.form (h : StL w base B vp vi vu av ps is us l) : ∃ Ap cp Ai ci Au cu Aa ca, vp = .slice Ap ps.length cp ∧ vi = .slice Ai is.length ci ∧ vu = .slice Au us.length cu ∧ av = .slice Aa l.length ca ∧ (ps.length ≤ cp ∧ cp ≤ 9223372036854775807) ∧ (is.length ≤ ci ∧ ci ≤ 9223372036854775807) ∧ (us.length ≤ cu ∧ cu ≤ 9223372036854775807) ∧ (l.length ≤ ca ∧ ca ≤ 9223372036854775807) := by
  obtain ⟨S, ⟨a1, a2, a3, a4⟩, -⟩ := h
  obtain ⟨Ap, cp, rfl, p1, p2⟩ := a1.sl.form
  obtain ⟨Ai, ci, rfl, i1, i2⟩ := a2.sl.form
  obtain ⟨Au, cu, rfl, u1, u2⟩ := a3.form
  obtain ⟨Aa, ca, rfl, x1, x2⟩ := a4.as.form
  exact ⟨Ap, cp, Ai, ci, Au, cu, Aa, ca, rfl, rfl, rfl, rfl, ⟨p1, p2⟩, ⟨i1, i2⟩, ⟨u1, u2⟩, ⟨x1, x2⟩⟩
theorem StL.noP (h : StL w base B vp vi vu av ps is us l) : StL w base B (.slice none 0 0) vi vu av [] is us l := by
  obtain ⟨S, ⟨a1, a2, a3, a4⟩, h2, h3, h4, h5, h6⟩ := h
  exact ⟨S, ⟨OI.nil _ _, a2, a3, a4⟩, h2, h3, fun g hg => by (cases hg), h5, h6⟩
theorem StL.noI (h : StL w base B vp vi vu av ps is us l) : StL w base B vp (.slice none 0 0) vu av ps [] us l := by
  obtain ⟨S, ⟨a1, a2, a3, a4⟩, h2, h3, h4, h5, h6⟩ := h
  exact ⟨S, ⟨a1, OB.nil _ _, a3, a4⟩, h2, h3, h4, fun g hg => by (cases hg), h6⟩
theorem StL.noU (h : StL w base B vp vi vu av ps is us l) : StL w base B vp vi (.slice none 0 0) av ps is [] l := by
  obtain ⟨S, ⟨a1, a2, a3, a4⟩, h2, h3, h4, h5, h6⟩ := h
  exact ⟨S, ⟨a1, a2, SL.nil _ _ _, a4⟩, h2, h3, h4, h5, h6⟩
theorem StL.zero (h : StL w base B vp vi vu av ps is us l) : StL w base B (.slice none 0 0) (.slice none 0 0) (.slice none 0 0) av [] [] [] l := h.noP.noI.noU
theorem StL.acts (h : StL w base B vp vi vu av ps is us l) : ∃ S, OA w base S av l ∧ (∀ x, S x → B x) ∧ (∀ g, av.ownBlock = some g → B g) ∧ (∀ g, vp.ownBlock = some g → ¬ S g) ∧ (∀ g, vi.ownBlock = some g → ¬ S g) ∧ SL vB w S vu us := by
  obtain ⟨S, ⟨a1, a2, a3, a4⟩, h2, h3, h4, h5, h6⟩ := h
  exact ⟨S, a4, h2, h6, fun g e => (h4 g e).2, fun g e => (h5 g e).2, a3⟩
/-- The numbers are other ones, in a row of their own; all else is left alone. -/
theorem StL.setP {v' : Value} {ps' : List Int} (h : StL w base B vp vi vu av ps is us l) (hz : w.heap.size ≤ w'.heap.size) (ho : OI w' base v' ps') (hg : ∀ x, B x → vp.ownBlock ≠ some x → w'.heap[x]? = w.heap[x]?) (hv : v'.ownBlock = vp.ownBlock ∨ ∃ g, v'.ownBlock = some g ∧ w.heap.size ≤ g) :
    ∃ B', StL w' base B' v' vi vu av ps' is us l ∧ ∀ x, B' x → B x ∨ v'.ownBlock = some x := by
  obtain ⟨S, ⟨a1, a2, a3, a4⟩, h2, h3, h4, h5, h6⟩ := h
  have hkS : ∀ x, S x → w'.heap[x]? = w.heap[x]? := fun x hx => hg x (h2 x hx) (fun e => (h4 x e).2 hx)
  have hk5 : ∀ g, vi.ownBlock = some g → w'.heap[g]? = w.heap[g]? := fun g e => hg g (h5 g e).1 (fun e2 => own_apart a1 a2 (by decide) g e2 e)
  have hk6 : ∀ g, av.ownBlock = some g → w'.heap[g]? = w.heap[g]? := fun g e => hg g (h6 g e) (fun e2 => by obtain ⟨xs, b1, _⟩ := a4; exact own_apart a1 b1 (by decide) g e2 e)
  refine ⟨fun x => B x ∨ v'.ownBlock = some x, ⟨S, ⟨ho, own_keep a2 hk5, a3.keep (fun q hq => World.cell?_of_block (hkS _ hq)), a4.keepB hk6 hkS⟩, fun x hx => .inl (h2 x hx), fun x hx => ?_, fun g e => ⟨.inr e, fun hs => ?_⟩, fun g e => ⟨.inl (h5 g e).1, (h5 g e).2⟩, fun g e => .inl (h6 g e)⟩, fun x hx => hx⟩
  · rcases hx with hx | hx
    · exact ⟨(h3 x hx).1, Nat.lt_of_lt_of_le (h3 x hx).2 hz⟩
    · exact World.ownsRow.lt ho x hx
  · rcases hv with e2 | ⟨g2, e2, e3⟩
    · rw [e2] at e; exact (h4 g e).2 hs
    · rw [e] at e2
      injection e2 with e2
      have := (h3 g (h2 g hs)).2
      omega
/-- The bytes between likewise. -/
theorem StL.setI {v' : Value} {is' : List UInt8} (h : StL w base B vp vi vu av ps is us l) (hz : w.heap.size ≤ w'.heap.size) (ho : OB w' base v' is') (hg : ∀ x, B x → vi.ownBlock ≠ some x → w'.heap[x]? = w.heap[x]?) (hv : v'.ownBlock = vi.ownBlock ∨ ∃ g, v'.ownBlock = some g ∧ w.heap.size ≤ g) :
    ∃ B', StL w' base B' vp v' vu av ps is' us l ∧ ∀ x, B' x → B x ∨ v'.ownBlock = some x := by
  obtain ⟨S, ⟨a1, a2, a3, a4⟩, h2, h3, h4, h5, h6⟩ := h
  have hkS : ∀ x, S x → w'.heap[x]? = w.heap[x]? := fun x hx => hg x (h2 x hx) (fun e => (h5 x e).2 hx)
  have hk4 : ∀ g, vp.ownBlock = some g → w'.heap[g]? = w.heap[g]? := fun g e => hg g (h4 g e).1 (fun e2 => own_apart a1 a2 (by decide) g e e2)
  have hk6 : ∀ g, av.ownBlock = some g → w'.heap[g]? = w.heap[g]? := fun g e => hg g (h6 g e) (fun e2 => by obtain ⟨xs, b1, _⟩ := a4; exact own_apart a2 b1 (by decide) g e2 e)
  refine ⟨fun x => B x ∨ v'.ownBlock = some x, ⟨S, ⟨own_keep a1 hk4, ho, a3.keep (fun q hq => World.cell?_of_block (hkS _ hq)), a4.keepB hk6 hkS⟩, fun x hx => .inl (h2 x hx), fun x hx => ?_, fun g e => ⟨.inl (h4 g e).1, (h4 g e).2⟩, fun g e => ⟨.inr e, fun hs => ?_⟩, fun g e => .inl (h6 g e)⟩, fun x hx => hx⟩
  · rcases hx with hx | hx
    · exact ⟨(h3 x hx).1, Nat.lt_of_lt_of_le (h3 x hx).2 hz⟩
    · exact World.ownsRow.lt ho x hx
  · rcases hv with e2 | ⟨g2, e2, e3⟩
    · rw [e2] at e; exact (h5 g e).2 hs
    · rw [e] at e2
      injection e2 with e2
      have := (h3 g (h2 g hs)).2
      omega
/-- Bytes that are pending, in new blocks. -/
theorem StL.setU {v' : Value} {us' : List UInt8} (h : StL w base B vp vi vu av ps is us l) (hb : Below w.heap.size w w') (hs : SL vB w' (NewB w' w.heap.size) v' us') (hbase : base ≤ w.heap.size) :
    ∃ B', StL w' base B' vp vi v' av ps is us' l ∧ ∀ x, B' x → B x ∨ w.heap.size ≤ x := by
  obtain ⟨S, ⟨a1, a2, a3, a4⟩, h2, h3, h4, h5, h6⟩ := h
  have hk : ∀ x, B x → w'.heap[x]? = w.heap[x]? := fun x hx => hb.block x (h3 x hx).2
  have hn : ∀ g, B g → ¬ NewB w' w.heap.size g := fun g hg hx => by have := (h3 g hg).2; have := hx.1; omega
  refine ⟨fun x => B x ∨ NewB w' w.heap.size x, ⟨fun x => S x ∨ NewB w' w.heap.size x, ⟨own_keep a1 (fun g hg => hk g (h4 g hg).1), own_keep a2 (fun g hg => hk g (h5 g hg).1), hs.mono (fun x hx => .inr hx), (a4.keepB (fun g hg => hk g (h6 g hg)) (fun g hg => hk g (h2 g hg))).weak (fun x hx => .inl hx) (fun g e hx => hx.elim (fun hs => ?_) (hn g (h6 g e)))⟩, fun x hx => hx.imp (h2 x) id, fun x hx => ?_, fun g e => ⟨.inl (h4 g e).1, fun hx => hx.elim (h4 g e).2 (hn g (h4 g e).1)⟩, fun g e => ⟨.inl (h5 g e).1, fun hx => hx.elim (h5 g e).2 (hn g (h5 g e).1)⟩, fun g e => .inl (h6 g e)⟩, fun x hx => hx.imp id (fun h => h.1)⟩
  · obtain ⟨xs, _, _, c⟩ := a4; exact c g e hs
  · rcases hx with hx | hx
    · exact ⟨(h3 x hx).1, Nat.lt_of_lt_of_le (h3 x hx).2 hb.size⟩
    · exact ⟨Nat.le_trans hbase hx.1, hx.2⟩
/-- An act more, its slices those of T; the parser's lists are left alone. -/
theorem StL.more {S T : Nat → Prop} {av' : Value} {m : List Ac} (h : StL w base B vp vi vu av ps is us l) (ha : ∀ x, S x → B x) (hs : ∀ x, S x ∨ T x → B x) (ho : OA w' base (fun x => S x ∨ T x) av' (l ++ m)) (hg : w.grownBy w' av.ownBlock) (hv : ∀ g, av'.ownBlock = some g → B g ∨ w.heap.size ≤ g) (hbase : base ≤ w.heap.size) :
    ∃ B', StL w' base B' (.slice none 0 0) (.slice none 0 0) (.slice none 0 0) av' [] [] [] (l ++ m) ∧ ∀ x, B' x → B x ∨ w.heap.size ≤ x := by
  have h3 := h.lt
  refine ⟨fun x => B x ∨ av'.ownBlock = some x, ⟨_, ⟨OI.nil _ _, OB.nil _ _, SL.nil _ _ _, ho⟩, fun x hx => .inl (hs x hx), fun x hx => ?_, fun g e => by (cases e), fun g e => by (cases e), fun g e => .inr e⟩, fun x hx => hx.elim .inl (hv x)⟩
  rcases hx with hx | hx
  · exact ⟨(h3 x hx).1, Nat.lt_of_lt_of_le (h3 x hx).2 hg.size⟩
  · exact ho.lt x hx
/-- An act without slices more; the parser stays. -/
theorem StL.act {S : Nat → Prop} {av' : Value} {m : List Ac} (h : StL w base B vp vi vu av ps is us l) (hS : ∀ x, S x → B x) (hsame : OA w base S av l) (ho : OA w' base (fun x => S x ∨ False) av' (l ++ m)) (hg : w.grownBy w' av.ownBlock) (hv : av'.ownBlock = av.ownBlock ∨ av'.ownBlock = some w.heap.size) (hbase : base ≤ w.heap.size)
    (hSp : ∀ g, vp.ownBlock = some g → ¬ S g) (hSi : ∀ g, vi.ownBlock = some g → ¬ S g) (hu : SL vB w S vu us) :
    ∃ B', StL w' base B' vp vi vu av' ps is us (l ++ m) ∧ ∀ x, B' x → B x ∨ w.heap.size ≤ x := by
  obtain ⟨S0, ⟨a1, a2, a3, a4⟩, h2, h3, h4, h5, h6⟩ := h
  have hk : ∀ x, B x → av.ownBlock ≠ some x → w'.heap[x]? = w.heap[x]? := fun x hx hn => hg.block x (h3 x hx).2 (fun e => hn e.symm)
  have hva : ∀ g, av'.ownBlock = some g → B g ∨ w.heap.size ≤ g := fun g e => by
    rcases hv with e2 | e2
    · rw [e2] at e; exact .inl (h6 g e)
    · rw [e2] at e; injection e with e; exact .inr (by omega)
  refine ⟨fun x => B x ∨ av'.ownBlock = some x, ⟨S, ⟨own_keep a1 (fun g e => hk g (h4 g e).1 (fun e2 => by obtain ⟨xs, b1, _⟩ := a4; exact own_apart a1 b1 (by decide) g e e2)), own_keep a2 (fun g e => hk g (h5 g e).1 (fun e2 => by obtain ⟨xs, b1, _⟩ := a4; exact own_apart a2 b1 (by decide) g e e2)), hu.keep (fun q hq => World.cell?_of_block (hk _ (hS _ hq) (fun e => by obtain ⟨xs, _, _, c⟩ := hsame; exact c _ e hq))), ho.weak (fun x hx => hx.elim id False.elim) (fun g e hx => ?_)⟩, fun x hx => .inl (hS x hx), fun x hx => ?_, fun g e => ⟨.inl (h4 g e).1, hSp g e⟩, fun g e => ⟨.inl (h5 g e).1, hSi g e⟩, fun g e => .inr e⟩, fun x hx => hx.elim .inl (hva x)⟩
  · obtain ⟨xs, _, _, c⟩ := ho
    exact c g e (.inl hx)
  · rcases hx with hx | hx
    · exact ⟨(h3 x hx).1, Nat.lt_of_lt_of_le (h3 x hx).2 hg.size⟩
    · exact ho.lt x hx
end
end Go.Proofs.Ytbimhhcmfhooaaa

namespace Go.Proofs.Ytbimhhcmfhooaaa
open Go.RowKit
set_option linter.unusedVariables false

/-- Two blocks behind w. -/
theorem two_new (w : World) (x y : Obj) : Below w.heap.size w ((w.alloc x).alloc y) ∧ ((w.alloc x).alloc y).heap.size = w.heap.size + 1 + 1 :=
  ⟨((Below.refl w.heap.size w).alloc (Nat.le_refl _) x).alloc (by simp) y, by simp⟩
/-- One act that has just been laid, behind w, in no drawn statement. -/
theorem act_new0 {w W : World} {S : Nat → Prop} (hb : Below w.heap.size w W) (hS : ∀ x, S x → x < w.heap.size) (a : Ac) (vp vi : Value) (t : TypeId) (g : Nat) (hg : g = W.heap.size) (hp : SL vI w S vp a.params) (hi : SL vB w S vi a.inter) (cs : Array Value) (hcs : cs = #[.int .i64 (a.kind : Int), .int .i32 a.r, .int .u8 (a.b : Int), .int .u8 (a.priv : Int), vp, vi]) :
    AS (W.alloc (.cells cs t)) (NewB (W.alloc (.cells cs t)) w.heap.size) (fun x => S x ∨ NewB (W.alloc (.cells cs t)) w.heap.size x) (.slice (some ⟨g, 0, none⟩) 1 1) [a] := act_new hb hS a vp vi t g hg hp hi cs hcs
/-- One byte that has just been laid, behind w. -/
theorem byte_new {w W : World} {S : Nat → Prop} (hb : Below w.heap.size w W) (b : UInt8) (t : TypeId) (g : Nat) (hg : g = W.heap.size) : SL vB (W.alloc (.cells #[.int .u8 (b.toNat : Int)] t)) (fun x => S x ∨ NewB (W.alloc (.cells #[.int .u8 (b.toNat : Int)] t)) w.heap.size x) (.slice (some ⟨g, 0, none⟩) 1 1) [b] := by
  subst hg
  obtain ⟨A, c, hv, h1, h2, h3⟩ := BS.one W b t
  refine ⟨A, c, hv, h1, h2, fun hl => ?_⟩
  obtain ⟨ad, hA, hbk, hc⟩ := h3 hl
  subst hA
  simp only [Value.slice.injEq, Option.some.injEq] at hv
  refine ⟨ad, rfl, .inr ⟨?_, by simpa using hbk⟩, hc⟩
  rw [← hv.1]
  exact hb.size

set_option maxHeartbeats 1000000 in
set_option maxRecDepth 100000 in
theorem stepr_24 (vp vi vu : Value) (p : Pr) (b : UInt8) (S : Nat → Prop) (w : World) (hp : SL vI w S vp p.params) (hi : SL vB w S vi p.inter) (hu : SL vB w S vu p.utf) (hS : ∀ x, S x → x < w.heap.size) (h : b.toNat = 24) :
    Calls Try.prog 29 #[.agg #[.int .i64 (p.mode : Int), .int .u8 (p.priv : Int), vp, vi, vu], .int .u8 (b.toNat : Int)] w (VtPost S (prM 0, []) w) := by
  have HP := Lib.hid hp
  have HI := Lib.hid hi
  have HU := Lib.hid hu
  have HSS := Lib.hid hS
  obtain ⟨Ap, cp, rfl, p1, p2⟩ := hp.form
  obtain ⟨Ai, ci, rfl, i1, i2⟩ := hi.form
  obtain ⟨Au, cu, rfl, u1, u2⟩ := hu.form
  clear hp hi hu hS
  have hb255 := b.toNat_lt
  have d24 : ((b.toNat : Int) == 24) = true := beq_iff_eq.2 (by omega)
  clear h
  go_enter Try.func29, Try.ntmps29
  go_wp2
  exact bodyPost_ret (v := .tuple #[.agg #[.int .i64 0, .int .u8 0, .slice none 0 0, .slice none 0 0, .slice none 0 0], .slice none 0 0]) (by simp [results, Try.results29, go_sem]) rfl ⟨_, _, rfl, prM_pv _ _ 0, AS.nil _ _ _, (two_new w _ _).1⟩
set_option maxHeartbeats 1000000 in
set_option maxRecDepth 100000 in
theorem stepr_26 (vp vi vu : Value) (p : Pr) (b : UInt8) (S : Nat → Prop) (w : World) (hp : SL vI w S vp p.params) (hi : SL vB w S vi p.inter) (hu : SL vB w S vu p.utf) (hS : ∀ x, S x → x < w.heap.size) (h : b.toNat = 26) :
    Calls Try.prog 29 #[.agg #[.int .i64 (p.mode : Int), .int .u8 (p.priv : Int), vp, vi, vu], .int .u8 (b.toNat : Int)] w (VtPost S (prM 0, []) w) := by
  have HP := Lib.hid hp
  have HI := Lib.hid hi
  have HU := Lib.hid hu
  have HSS := Lib.hid hS
  obtain ⟨Ap, cp, rfl, p1, p2⟩ := hp.form
  obtain ⟨Ai, ci, rfl, i1, i2⟩ := hi.form
  obtain ⟨Au, cu, rfl, u1, u2⟩ := hu.form
  clear hp hi hu hS
  have hb255 := b.toNat_lt
  have d24 : ((b.toNat : Int) == 24) = false := beq_eq_false_iff_ne.2 (by omega)
  have d26 : ((b.toNat : Int) == 26) = true := beq_iff_eq.2 (by omega)
  clear h
  go_enter Try.func29, Try.ntmps29
  go_wp2
  exact bodyPost_ret (v := .tuple #[.agg #[.int .i64 0, .int .u8 0, .slice none 0 0, .slice none 0 0, .slice none 0 0], .slice none 0 0]) (by simp [results, Try.results29, go_sem]) rfl ⟨_, _, rfl, prM_pv _ _ 0, AS.nil _ _ _, (two_new w _ _).1⟩
set_option maxHeartbeats 1000000 in
set_option maxRecDepth 100000 in
theorem stepr_27 (vp vi vu : Value) (p : Pr) (b : UInt8) (S : Nat → Prop) (w : World) (hp : SL vI w S vp p.params) (hi : SL vB w S vi p.inter) (hu : SL vB w S vu p.utf) (hS : ∀ x, S x → x < w.heap.size) (h : b.toNat = 27) :
    Calls Try.prog 29 #[.agg #[.int .i64 (p.mode : Int), .int .u8 (p.priv : Int), vp, vi, vu], .int .u8 (b.toNat : Int)] w (VtPost S (prM 1, []) w) := by
  have HP := Lib.hid hp
  have HI := Lib.hid hi
  have HU := Lib.hid hu
  have HSS := Lib.hid hS
  obtain ⟨Ap, cp, rfl, p1, p2⟩ := hp.form
  obtain ⟨Ai, ci, rfl, i1, i2⟩ := hi.form
  obtain ⟨Au, cu, rfl, u1, u2⟩ := hu.form
  clear hp hi hu hS
  have hb255 := b.toNat_lt
  have d24 : ((b.toNat : Int) == 24) = false := beq_eq_false_iff_ne.2 (by omega)
  have d26 : ((b.toNat : Int) == 26) = false := beq_eq_false_iff_ne.2 (by omega)
  have d27 : ((b.toNat : Int) == 27) = true := beq_iff_eq.2 (by omega)
  clear h
  go_enter Try.func29, Try.ntmps29
  go_wp2
  exact bodyPost_ret (v := .tuple #[.agg #[.int .i64 1, .int .u8 0, .slice none 0 0, .slice none 0 0, .slice none 0 0], .slice none 0 0]) (by simp [results, Try.results29, go_sem]) rfl ⟨_, _, rfl, prM_pv _ _ 1, AS.nil _ _ _, (two_new w _ _).1⟩
set_option maxHeartbeats 1000000 in
set_option maxRecDepth 100000 in
theorem stepr_g1 (vp vi vu : Value) (p : Pr) (b : UInt8) (S : Nat → Prop) (w : World) (hp : SL vI w S vp p.params) (hi : SL vB w S vi p.inter) (hu : SL vB w S vu p.utf) (hS : ∀ x, S x → x < w.heap.size) (h24 : b.toNat ≠ 24) (h26 : b.toNat ≠ 26) (h27 : b.toNat ≠ 27) (hm : p.mode = 0) (h : b.toNat < 32) :
    Calls Try.prog 29 #[.agg #[.int .i64 (p.mode : Int), .int .u8 (p.priv : Int), vp, vi, vu], .int .u8 (b.toNat : Int)] w (VtPost S (prM 0, [acC b.toNat]) w) := by
  have HP := Lib.hid hp
  have HI := Lib.hid hi
  have HU := Lib.hid hu
  have HSS := Lib.hid hS
  obtain ⟨Ap, cp, rfl, p1, p2⟩ := hp.form
  obtain ⟨Ai, ci, rfl, i1, i2⟩ := hi.form
  obtain ⟨Au, cu, rfl, u1, u2⟩ := hu.form
  clear hp hi hu hS
  have hb255 := b.toNat_lt
  have d24 : ((b.toNat : Int) == 24) = false := beq_eq_false_iff_ne.2 (by omega)
  have d26 : ((b.toNat : Int) == 26) = false := beq_eq_false_iff_ne.2 (by omega)
  have d27 : ((b.toNat : Int) == 27) = false := beq_eq_false_iff_ne.2 (by omega)
  have m0 : ((p.mode : Int) == 0) = true := beq_iff_eq.2 (by omega)
  have l32 : (b.toNat : Int) < 32 := by omega
  clear h24 h26 h27 hm
  go_enter Try.func29, Try.ntmps29
  go_wp2
  exact bodyPost_ret (v := .tuple #[.agg #[.int .i64 0, .int .u8 0, .slice none 0 0, .slice none 0 0, .slice none 0 0], .slice (some ⟨w.heap.size + 1 + 1, 0, none⟩) 1 1]) (by simp [results, Try.results29, go_sem]) rfl ⟨_, _, rfl, prM_pv _ _ 0, act_new0 (two_new w _ _).1 HSS.out (acC b.toNat) _ _ _ _ (by simp) (SL.nil _ _ _) (SL.nil _ _ _) _ rfl, (two_new w _ _).1.alloc (by simp; omega) _⟩
set_option maxHeartbeats 1000000 in
set_option maxRecDepth 100000 in
theorem stepr_g2 (vp vi vu : Value) (p : Pr) (b : UInt8) (S : Nat → Prop) (w : World) (hp : SL vI w S vp p.params) (hi : SL vB w S vi p.inter) (hu : SL vB w S vu p.utf) (hS : ∀ x, S x → x < w.heap.size) (h24 : b.toNat ≠ 24) (h26 : b.toNat ≠ 26) (h27 : b.toNat ≠ 27) (hm : p.mode = 0) (h : b.toNat = 127) :
    Calls Try.prog 29 #[.agg #[.int .i64 (p.mode : Int), .int .u8 (p.priv : Int), vp, vi, vu], .int .u8 (b.toNat : Int)] w (VtPost S (prM 0, []) w) := by
  have HP := Lib.hid hp
  have HI := Lib.hid hi
  have HU := Lib.hid hu
  have HSS := Lib.hid hS
  obtain ⟨Ap, cp, rfl, p1, p2⟩ := hp.form
  obtain ⟨Ai, ci, rfl, i1, i2⟩ := hi.form
  obtain ⟨Au, cu, rfl, u1, u2⟩ := hu.form
  clear hp hi hu hS
  have hb255 := b.toNat_lt
  have d24 : ((b.toNat : Int) == 24) = false := beq_eq_false_iff_ne.2 (by omega)
  have d26 : ((b.toNat : Int) == 26) = false := beq_eq_false_iff_ne.2 (by omega)
  have d27 : ((b.toNat : Int) == 27) = false := beq_eq_false_iff_ne.2 (by omega)
  have m0 : ((p.mode : Int) == 0) = true := beq_iff_eq.2 (by omega)
  have l32 : decide ((b.toNat : Int) < 32) = false := by simp; omega
  have d127 : ((b.toNat : Int) == 127) = true := beq_iff_eq.2 (by omega)
  clear h24 h26 h27 hm h
  go_enter Try.func29, Try.ntmps29
  go_wp2
  exact bodyPost_ret (v := .tuple #[.agg #[.int .i64 0, .int .u8 0, .slice none 0 0, .slice none 0 0, .slice none 0 0], .slice none 0 0]) (by simp [results, Try.results29, go_sem]) rfl ⟨_, _, rfl, prM_pv _ _ 0, AS.nil _ _ _, (two_new w _ _).1⟩
set_option maxHeartbeats 1000000 in
set_option maxRecDepth 100000 in
theorem stepr_s1 (vp vi vu : Value) (p : Pr) (b : UInt8) (S : Nat → Prop) (w : World) (hp : SL vI w S vp p.params) (hi : SL vB w S vi p.inter) (hu : SL vB w S vu p.utf) (hS : ∀ x, S x → x < w.heap.size) (h24 : b.toNat ≠ 24) (h26 : b.toNat ≠ 26) (h27 : b.toNat ≠ 27) (hm : p.mode = 7) (h : b.toNat = 7) :
    Calls Try.prog 29 #[.agg #[.int .i64 (p.mode : Int), .int .u8 (p.priv : Int), vp, vi, vu], .int .u8 (b.toNat : Int)] w (VtPost S (prM 0, []) w) := by
  have HP := Lib.hid hp
  have HI := Lib.hid hi
  have HU := Lib.hid hu
  have HSS := Lib.hid hS
  obtain ⟨Ap, cp, rfl, p1, p2⟩ := hp.form
  obtain ⟨Ai, ci, rfl, i1, i2⟩ := hi.form
  obtain ⟨Au, cu, rfl, u1, u2⟩ := hu.form
  clear hp hi hu hS
  have hb255 := b.toNat_lt
  have d24 : ((b.toNat : Int) == 24) = false := beq_eq_false_iff_ne.2 (by omega)
  have d26 : ((b.toNat : Int) == 26) = false := beq_eq_false_iff_ne.2 (by omega)
  have d27 : ((b.toNat : Int) == 27) = false := beq_eq_false_iff_ne.2 (by omega)
  have m0 : ((p.mode : Int) == 0) = false := beq_eq_false_iff_ne.2 (by omega)
  have m7 : ((p.mode : Int) == 7) = true := beq_iff_eq.2 (by omega)
  have d7 : ((b.toNat : Int) == 7) = true := beq_iff_eq.2 (by omega)
  clear h24 h26 h27 hm h
  go_enter Try.func29, Try.ntmps29
  go_wp2
  exact bodyPost_ret (v := .tuple #[.agg #[.int .i64 0, .int .u8 0, .slice none 0 0, .slice none 0 0, .slice none 0 0], .slice none 0 0]) (by simp [results, Try.results29, go_sem]) rfl ⟨_, _, rfl, prM_pv _ _ 0, AS.nil _ _ _, (two_new w _ _).1⟩
set_option maxHeartbeats 1000000 in
set_option maxRecDepth 100000 in
theorem stepr_s2 (vp vi vu : Value) (p : Pr) (b : UInt8) (S : Nat → Prop) (w : World) (hp : SL vI w S vp p.params) (hi : SL vB w S vi p.inter) (hu : SL vB w S vu p.utf) (hS : ∀ x, S x → x < w.heap.size) (h24 : b.toNat ≠ 24) (h26 : b.toNat ≠ 26) (h27 : b.toNat ≠ 27) (hm : p.mode = 7) (h : b.toNat ≠ 7) :
    Calls Try.prog 29 #[.agg #[.int .i64 (p.mode : Int), .int .u8 (p.priv : Int), vp, vi, vu], .int .u8 (b.toNat : Int)] w (VtPost S (p, []) w) := by
  have HP := Lib.hid hp
  have HI := Lib.hid hi
  have HU := Lib.hid hu
  have HSS := Lib.hid hS
  obtain ⟨Ap, cp, rfl, p1, p2⟩ := hp.form
  obtain ⟨Ai, ci, rfl, i1, i2⟩ := hi.form
  obtain ⟨Au, cu, rfl, u1, u2⟩ := hu.form
  clear hp hi hu hS
  have hb255 := b.toNat_lt
  have d24 : ((b.toNat : Int) == 24) = false := beq_eq_false_iff_ne.2 (by omega)
  have d26 : ((b.toNat : Int) == 26) = false := beq_eq_false_iff_ne.2 (by omega)
  have d27 : ((b.toNat : Int) == 27) = false := beq_eq_false_iff_ne.2 (by omega)
  have m0 : ((p.mode : Int) == 0) = false := beq_eq_false_iff_ne.2 (by omega)
  have m7 : ((p.mode : Int) == 7) = true := beq_iff_eq.2 (by omega)
  have d7 : ((b.toNat : Int) == 7) = false := beq_eq_false_iff_ne.2 (by omega)
  clear h24 h26 h27 hm h
  go_enter Try.func29, Try.ntmps29
  go_wp2
  exact bodyPost_ret (v := .tuple #[.agg #[.int .i64 (p.mode : Int), .int .u8 (p.priv : Int), Value.slice Ap p.params.length cp, Value.slice Ai p.inter.length ci, Value.slice Au p.utf.length cu], .slice none 0 0]) (by simp [results, Try.results29, go_sem]) rfl ⟨_, _, rfl, ⟨_, _, _, rfl, sl_old (two_new w _ _).1 HSS.out HP.out, sl_old (two_new w _ _).1 HSS.out HI.out, sl_old (two_new w _ _).1 HSS.out HU.out⟩, AS.nil _ _ _, (two_new w _ _).1⟩
set_option maxHeartbeats 1000000 in
set_option maxRecDepth 100000 in
theorem stepr_c1 (vp vi vu : Value) (p : Pr) (b : UInt8) (S : Nat → Prop) (w : World) (hp : SL vI w S vp p.params) (hi : SL vB w S vi p.inter) (hu : SL vB w S vu p.utf) (hS : ∀ x, S x → x < w.heap.size) (h24 : b.toNat ≠ 24) (h26 : b.toNat ≠ 26) (h27 : b.toNat ≠ 27) (hm0 : p.mode ≠ 0) (hm7 : p.mode ≠ 7) (h : b.toNat < 32) :
    Calls Try.prog 29 #[.agg #[.int .i64 (p.mode : Int), .int .u8 (p.priv : Int), vp, vi, vu], .int .u8 (b.toNat : Int)] w (VtPost S (p, [acC b.toNat]) w) := by
  have HP := Lib.hid hp
  have HI := Lib.hid hi
  have HU := Lib.hid hu
  have HSS := Lib.hid hS
  obtain ⟨Ap, cp, rfl, p1, p2⟩ := hp.form
  obtain ⟨Ai, ci, rfl, i1, i2⟩ := hi.form
  obtain ⟨Au, cu, rfl, u1, u2⟩ := hu.form
  clear hp hi hu hS
  have hb255 := b.toNat_lt
  have d24 : ((b.toNat : Int) == 24) = false := beq_eq_false_iff_ne.2 (by omega)
  have d26 : ((b.toNat : Int) == 26) = false := beq_eq_false_iff_ne.2 (by omega)
  have d27 : ((b.toNat : Int) == 27) = false := beq_eq_false_iff_ne.2 (by omega)
  have m0 : ((p.mode : Int) == 0) = false := beq_eq_false_iff_ne.2 (by omega)
  have m7 : ((p.mode : Int) == 7) = false := beq_eq_false_iff_ne.2 (by omega)
  have l32 : (b.toNat : Int) < 32 := by omega
  clear h24 h26 h27 hm0 hm7
  go_enter Try.func29, Try.ntmps29
  go_wp2
  exact bodyPost_ret (v := .tuple #[.agg #[.int .i64 (p.mode : Int), .int .u8 (p.priv : Int), Value.slice Ap p.params.length cp, Value.slice Ai p.inter.length ci, Value.slice Au p.utf.length cu], .slice (some ⟨w.heap.size + 1 + 1, 0, none⟩) 1 1]) (by simp [results, Try.results29, go_sem]) rfl ⟨_, _, rfl, ⟨_, _, _, rfl, sl_old ((two_new w _ _).1.alloc (by simp; omega) _) HSS.out HP.out, sl_old ((two_new w _ _).1.alloc (by simp; omega) _) HSS.out HI.out, sl_old ((two_new w _ _).1.alloc (by simp; omega) _) HSS.out HU.out⟩, act_new0 (two_new w _ _).1 HSS.out (acC b.toNat) _ _ _ _ (by simp) (SL.nil _ _ _) (SL.nil _ _ _) _ rfl, (two_new w _ _).1.alloc (by simp; omega) _⟩
set_option maxHeartbeats 1000000 in
set_option maxRecDepth 100000 in
theorem stepr_c2 (vp vi vu : Value) (p : Pr) (b : UInt8) (S : Nat → Prop) (w : World) (hp : SL vI w S vp p.params) (hi : SL vB w S vi p.inter) (hu : SL vB w S vu p.utf) (hS : ∀ x, S x → x < w.heap.size) (h24 : b.toNat ≠ 24) (h26 : b.toNat ≠ 26) (h27 : b.toNat ≠ 27) (hm0 : p.mode ≠ 0) (hm7 : p.mode ≠ 7) (h : b.toNat = 127) :
    Calls Try.prog 29 #[.agg #[.int .i64 (p.mode : Int), .int .u8 (p.priv : Int), vp, vi, vu], .int .u8 (b.toNat : Int)] w (VtPost S (p, []) w) := by
  have HP := Lib.hid hp
  have HI := Lib.hid hi
  have HU := Lib.hid hu
  have HSS := Lib.hid hS
  obtain ⟨Ap, cp, rfl, p1, p2⟩ := hp.form
  obtain ⟨Ai, ci, rfl, i1, i2⟩ := hi.form
  obtain ⟨Au, cu, rfl, u1, u2⟩ := hu.form
  clear hp hi hu hS
  have hb255 := b.toNat_lt
  have d24 : ((b.toNat : Int) == 24) = false := beq_eq_false_iff_ne.2 (by omega)
  have d26 : ((b.toNat : Int) == 26) = false := beq_eq_false_iff_ne.2 (by omega)
  have d27 : ((b.toNat : Int) == 27) = false := beq_eq_false_iff_ne.2 (by omega)
  have m0 : ((p.mode : Int) == 0) = false := beq_eq_false_iff_ne.2 (by omega)
  have m7 : ((p.mode : Int) == 7) = false := beq_eq_false_iff_ne.2 (by omega)
  have l32 : decide ((b.toNat : Int) < 32) = false := by simp; omega
  have d127 : ((b.toNat : Int) == 127) = true := beq_iff_eq.2 (by omega)
  clear h24 h26 h27 hm0 hm7 h
  go_enter Try.func29, Try.ntmps29
  go_wp2
  exact bodyPost_ret (v := .tuple #[.agg #[.int .i64 (p.mode : Int), .int .u8 (p.priv : Int), Value.slice Ap p.params.length cp, Value.slice Ai p.inter.length ci, Value.slice Au p.utf.length cu], .slice none 0 0]) (by simp [results, Try.results29, go_sem]) rfl ⟨_, _, rfl, ⟨_, _, _, rfl, sl_old (two_new w _ _).1 HSS.out HP.out, sl_old (two_new w _ _).1 HSS.out HI.out, sl_old (two_new w _ _).1 HSS.out HU.out⟩, AS.nil _ _ _, (two_new w _ _).1⟩
set_option maxHeartbeats 1000000 in
set_option maxRecDepth 100000 in
theorem stepr_c3 (vp vi vu : Value) (p : Pr) (b : UInt8) (S : Nat → Prop) (w : World) (hp : SL vI w S vp p.params) (hi : SL vB w S vi p.inter) (hu : SL vB w S vu p.utf) (hS : ∀ x, S x → x < w.heap.size) (h24 : b.toNat ≠ 24) (h26 : b.toNat ≠ 26) (h27 : b.toNat ≠ 27) (hm0 : p.mode ≠ 0) (hm7 : p.mode ≠ 7) (h : 128 ≤ b.toNat) :
    Calls Try.prog 29 #[.agg #[.int .i64 (p.mode : Int), .int .u8 (p.priv : Int), vp, vi, vu], .int .u8 (b.toNat : Int)] w (VtPost S (prM 0, []) w) := by
  have HP := Lib.hid hp
  have HI := Lib.hid hi
  have HU := Lib.hid hu
  have HSS := Lib.hid hS
  obtain ⟨Ap, cp, rfl, p1, p2⟩ := hp.form
  obtain ⟨Ai, ci, rfl, i1, i2⟩ := hi.form
  obtain ⟨Au, cu, rfl, u1, u2⟩ := hu.form
  clear hp hi hu hS
  have hb255 := b.toNat_lt
  have d24 : ((b.toNat : Int) == 24) = false := beq_eq_false_iff_ne.2 (by omega)
  have d26 : ((b.toNat : Int) == 26) = false := beq_eq_false_iff_ne.2 (by omega)
  have d27 : ((b.toNat : Int) == 27) = false := beq_eq_false_iff_ne.2 (by omega)
  have m0 : ((p.mode : Int) == 0) = false := beq_eq_false_iff_ne.2 (by omega)
  have m7 : ((p.mode : Int) == 7) = false := beq_eq_false_iff_ne.2 (by omega)
  have l32 : decide ((b.toNat : Int) < 32) = false := by simp; omega
  have d127 : ((b.toNat : Int) == 127) = false := beq_eq_false_iff_ne.2 (by omega)
  have g128 : (128 : Int) ≤ (b.toNat : Int) := by omega
  clear h24 h26 h27 hm0 hm7
  go_enter Try.func29, Try.ntmps29
  go_wp2
  exact bodyPost_ret (v := .tuple #[.agg #[.int .i64 0, .int .u8 0, .slice none 0 0, .slice none 0 0, .slice none 0 0], .slice none 0 0]) (by simp [results, Try.results29, go_sem]) rfl ⟨_, _, rfl, prM_pv _ _ 0, AS.nil _ _ _, (two_new w _ _).1⟩
set_option maxHeartbeats 1000000 in
set_option maxRecDepth 100000 in
theorem stepr_e1 (vp vi vu : Value) (p : Pr) (b : UInt8) (S : Nat → Prop) (w : World) (hp : SL vI w S vp p.params) (hi : SL vB w S vi p.inter) (hu : SL vB w S vu p.utf) (hS : ∀ x, S x → x < w.heap.size) (h24 : b.toNat ≠ 24) (h26 : b.toNat ≠ 26) (h27 : b.toNat ≠ 27) (hm0 : p.mode ≠ 0) (hm7 : p.mode ≠ 7) (hb0 : 32 ≤ b.toNat) (hb1 : b.toNat < 127) (hm : p.mode = 1) (hB : interB b = true) :
    Calls Try.prog 29 #[.agg #[.int .i64 (p.mode : Int), .int .u8 (p.priv : Int), vp, vi, vu], .int .u8 (b.toNat : Int)] w (VtPost S ({ prM 2 with inter := [b] }, []) w) := by
  have HP := Lib.hid hp
  have HI := Lib.hid hi
  have HU := Lib.hid hu
  have HSS := Lib.hid hS
  obtain ⟨Ap, cp, rfl, p1, p2⟩ := hp.form
  obtain ⟨Ai, ci, rfl, i1, i2⟩ := hi.form
  obtain ⟨Au, cu, rfl, u1, u2⟩ := hu.form
  clear hp hi hu hS
  have hb255 := b.toNat_lt
  have d24 : ((b.toNat : Int) == 24) = false := beq_eq_false_iff_ne.2 (by omega)
  have d26 : ((b.toNat : Int) == 26) = false := beq_eq_false_iff_ne.2 (by omega)
  have d27 : ((b.toNat : Int) == 27) = false := beq_eq_false_iff_ne.2 (by omega)
  have m0 : ((p.mode : Int) == 0) = false := beq_eq_false_iff_ne.2 (by omega)
  have m7 : ((p.mode : Int) == 7) = false := beq_eq_false_iff_ne.2 (by omega)
  have l32 : decide ((b.toNat : Int) < 32) = false := by simp; omega
  have d127 : ((b.toNat : Int) == 127) = false := beq_eq_false_iff_ne.2 (by omega)
  have g128 : decide ((128 : Int) ≤ (b.toNat : Int)) = false := by simp; omega
  have m1 : ((p.mode : Int) == 1) = true := beq_iff_eq.2 (by omega)
  have HIB := Lib.hid hB
  clear hB
  clear h24 h26 h27 hm0 hm7 hm
  go_enter Try.func29, Try.ntmps29
  go_wp2_with (go_at_call 22; refine (interr_any b _).mono ?_; rintro e w' ⟨rfl, rfl⟩; rw [HIB.out])
  exact bodyPost_ret (v := .tuple #[.agg #[.int .i64 2, .int .u8 0, .slice none 0 0, .slice (some ⟨w.heap.size + 1 + 1, 0, none⟩) 1 1, .slice none 0 0], .slice none 0 0]) (by simp [results, Try.results29, go_sem]) rfl ⟨_, _, rfl, ⟨_, _, _, rfl, SL.nil _ _ _, byte_new (two_new w _ _).1 b _ _ (by simp), SL.nil _ _ _⟩, AS.nil _ _ _, (two_new w _ _).1.alloc (by simp; omega) _⟩
set_option maxHeartbeats 1000000 in
set_option maxRecDepth 100000 in
theorem stepr_e2 (vp vi vu : Value) (p : Pr) (b : UInt8) (S : Nat → Prop) (w : World) (hp : SL vI w S vp p.params) (hi : SL vB w S vi p.inter) (hu : SL vB w S vu p.utf) (hS : ∀ x, S x → x < w.heap.size) (h24 : b.toNat ≠ 24) (h26 : b.toNat ≠ 26) (h27 : b.toNat ≠ 27) (hm0 : p.mode ≠ 0) (hm7 : p.mode ≠ 7) (hb0 : 32 ≤ b.toNat) (hb1 : b.toNat < 127) (hm : p.mode = 1) (hB : interB b = false) (h : b.toNat = 91) :
    Calls Try.prog 29 #[.agg #[.int .i64 (p.mode : Int), .int .u8 (p.priv : Int), vp, vi, vu], .int .u8 (b.toNat : Int)] w (VtPost S (prM 4, []) w) := by
  have HP := Lib.hid hp
  have HI := Lib.hid hi
  have HU := Lib.hid hu
  have HSS := Lib.hid hS
  obtain ⟨Ap, cp, rfl, p1, p2⟩ := hp.form
  obtain ⟨Ai, ci, rfl, i1, i2⟩ := hi.form
  obtain ⟨Au, cu, rfl, u1, u2⟩ := hu.form
  clear hp hi hu hS
  have hb255 := b.toNat_lt
  have d24 : ((b.toNat : Int) == 24) = false := beq_eq_false_iff_ne.2 (by omega)
  have d26 : ((b.toNat : Int) == 26) = false := beq_eq_false_iff_ne.2 (by omega)
  have d27 : ((b.toNat : Int) == 27) = false := beq_eq_false_iff_ne.2 (by omega)
  have m0 : ((p.mode : Int) == 0) = false := beq_eq_false_iff_ne.2 (by omega)
  have m7 : ((p.mode : Int) == 7) = false := beq_eq_false_iff_ne.2 (by omega)
  have l32 : decide ((b.toNat : Int) < 32) = false := by simp; omega
  have d127 : ((b.toNat : Int) == 127) = false := beq_eq_false_iff_ne.2 (by omega)
  have g128 : decide ((128 : Int) ≤ (b.toNat : Int)) = false := by simp; omega
  have m1 : ((p.mode : Int) == 1) = true := beq_iff_eq.2 (by omega)
  have HIB := Lib.hid hB
  clear hB
  have d91 : ((b.toNat : Int) == 91) = true := beq_iff_eq.2 (by omega)
  clear h24 h26 h27 hm0 hm7 hm h
  go_enter Try.func29, Try.ntmps29
  go_wp2_with (go_at_call 22; refine (interr_any b _).mono ?_; rintro e w' ⟨rfl, rfl⟩; rw [HIB.out])
  exact bodyPost_ret (v := .tuple #[.agg #[.int .i64 4, .int .u8 0, .slice none 0 0, .slice none 0 0, .slice none 0 0], .slice none 0 0]) (by simp [results, Try.results29, go_sem]) rfl ⟨_, _, rfl, prM_pv _ _ 4, AS.nil _ _ _, (two_new w _ _).1⟩
set_option maxHeartbeats 1000000 in
set_option maxRecDepth 100000 in
theorem stepr_e3_93 (vp vi vu : Value) (p : Pr) (b : UInt8) (S : Nat → Prop) (w : World) (hp : SL vI w S vp p.params) (hi : SL vB w S vi p.inter) (hu : SL vB w S vu p.utf) (hS : ∀ x, S x → x < w.heap.size) (h24 : b.toNat ≠ 24) (h26 : b.toNat ≠ 26) (h27 : b.toNat ≠ 27) (hm0 : p.mode ≠ 0) (hm7 : p.mode ≠ 7) (hb0 : 32 ≤ b.toNat) (hb1 : b.toNat < 127) (hm : p.mode = 1) (hB : interB b = false) (h : b.toNat = 93) :
    Calls Try.prog 29 #[.agg #[.int .i64 (p.mode : Int), .int .u8 (p.priv : Int), vp, vi, vu], .int .u8 (b.toNat : Int)] w (VtPost S (prM 7, []) w) := by
  have HP := Lib.hid hp
  have HI := Lib.hid hi
  have HU := Lib.hid hu
  have HSS := Lib.hid hS
  obtain ⟨Ap, cp, rfl, p1, p2⟩ := hp.form
  obtain ⟨Ai, ci, rfl, i1, i2⟩ := hi.form
  obtain ⟨Au, cu, rfl, u1, u2⟩ := hu.form
  clear hp hi hu hS
  have hb255 := b.toNat_lt
  have d24 : ((b.toNat : Int) == 24) = false := beq_eq_false_iff_ne.2 (by omega)
  have d26 : ((b.toNat : Int) == 26) = false := beq_eq_false_iff_ne.2 (by omega)
  have d27 : ((b.toNat : Int) == 27) = false := beq_eq_false_iff_ne.2 (by omega)
  have m0 : ((p.mode : Int) == 0) = false := beq_eq_false_iff_ne.2 (by omega)
  have m7 : ((p.mode : Int) == 7) = false := beq_eq_false_iff_ne.2 (by omega)
  have l32 : decide ((b.toNat : Int) < 32) = false := by simp; omega
  have d127 : ((b.toNat : Int) == 127) = false := beq_eq_false_iff_ne.2 (by omega)
  have g128 : decide ((128 : Int) ≤ (b.toNat : Int)) = false := by simp; omega
  have m1 : ((p.mode : Int) == 1) = true := beq_iff_eq.2 (by omega)
  have HIB := Lib.hid hB
  clear hB
  have d91 : ((b.toNat : Int) == 91) = false := beq_eq_false_iff_ne.2 (by omega)
  have d93 : ((b.toNat : Int) == 93) = true := beq_iff_eq.2 (by omega)
  clear h24 h26 h27 hm0 hm7 hm h
  go_enter Try.func29, Try.ntmps29
  go_wp2_with (go_at_call 22; refine (interr_any b _).mono ?_; rintro e w' ⟨rfl, rfl⟩; rw [HIB.out])
  exact bodyPost_ret (v := .tuple #[.agg #[.int .i64 7, .int .u8 0, .slice none 0 0, .slice none 0 0, .slice none 0 0], .slice none 0 0]) (by simp [results, Try.results29, go_sem]) rfl ⟨_, _, rfl, prM_pv _ _ 7, AS.nil _ _ _, (two_new w _ _).1⟩
set_option maxHeartbeats 1000000 in
set_option maxRecDepth 100000 in
theorem stepr_e3_80 (vp vi vu : Value) (p : Pr) (b : UInt8) (S : Nat → Prop) (w : World) (hp : SL vI w S vp p.params) (hi : SL vB w S vi p.inter) (hu : SL vB w S vu p.utf) (hS : ∀ x, S x → x < w.heap.size) (h24 : b.toNat ≠ 24) (h26 : b.toNat ≠ 26) (h27 : b.toNat ≠ 27) (hm0 : p.mode ≠ 0) (hm7 : p.mode ≠ 7) (hb0 : 32 ≤ b.toNat) (hb1 : b.toNat < 127) (hm : p.mode = 1) (hB : interB b = false) (h : b.toNat = 80) :
    Calls Try.prog 29 #[.agg #[.int .i64 (p.mode : Int), .int .u8 (p.priv : Int), vp, vi, vu], .int .u8 (b.toNat : Int)] w (VtPost S (prM 7, []) w) := by
  have HP := Lib.hid hp
  have HI := Lib.hid hi
  have HU := Lib.hid hu
  have HSS := Lib.hid hS
  obtain ⟨Ap, cp, rfl, p1, p2⟩ := hp.form
  obtain ⟨Ai, ci, rfl, i1, i2⟩ := hi.form
  obtain ⟨Au, cu, rfl, u1, u2⟩ := hu.form
  clear hp hi hu hS
  have hb255 := b.toNat_lt
  have d24 : ((b.toNat : Int) == 24) = false := beq_eq_false_iff_ne.2 (by omega)
  have d26 : ((b.toNat : Int) == 26) = false := beq_eq_false_iff_ne.2 (by omega)
  have d27 : ((b.toNat : Int) == 27) = false := beq_eq_false_iff_ne.2 (by omega)
  have m0 : ((p.mode : Int) == 0) = false := beq_eq_false_iff_ne.2 (by omega)
  have m7 : ((p.mode : Int) == 7) = false := beq_eq_false_iff_ne.2 (by omega)
  have l32 : decide ((b.toNat : Int) < 32) = false := by simp; omega
  have d127 : ((b.toNat : Int) == 127) = false := beq_eq_false_iff_ne.2 (by omega)
  have g128 : decide ((128 : Int) ≤ (b.toNat : Int)) = false := by simp; omega
  have m1 : ((p.mode : Int) == 1) = true := beq_iff_eq.2 (by omega)
  have HIB := Lib.hid hB
  clear hB
  have d91 : ((b.toNat : Int) == 91) = false := beq_eq_false_iff_ne.2 (by omega)
  have d93 : ((b.toNat : Int) == 93) = false := beq_eq_false_iff_ne.2 (by omega)
  have d80 : ((b.toNat : Int) == 80) = true := beq_iff_eq.2 (by omega)
  clear h24 h26 h27 hm0 hm7 hm h
  go_enter Try.func29, Try.ntmps29
  go_wp2_with (go_at_call 22; refine (interr_any b _).mono ?_; rintro e w' ⟨rfl, rfl⟩; rw [HIB.out])
  exact bodyPost_ret (v := .tuple #[.agg #[.int .i64 7, .int .u8 0, .slice none 0 0, .slice none 0 0, .slice none 0 0], .slice none 0 0]) (by simp [results, Try.results29, go_sem]) rfl ⟨_, _, rfl, prM_pv _ _ 7, AS.nil _ _ _, (two_new w _ _).1⟩
set_option maxHeartbeats 1000000 in
set_option maxRecDepth 100000 in
theorem stepr_e3_88 (vp vi vu : Value) (p : Pr) (b : UInt8) (S : Nat → Prop) (w : World) (hp : SL vI w S vp p.params) (hi : SL vB w S vi p.inter) (hu : SL vB w S vu p.utf) (hS : ∀ x, S x → x < w.heap.size) (h24 : b.toNat ≠ 24) (h26 : b.toNat ≠ 26) (h27 : b.toNat ≠ 27) (hm0 : p.mode ≠ 0) (hm7 : p.mode ≠ 7) (hb0 : 32 ≤ b.toNat) (hb1 : b.toNat < 127) (hm : p.mode = 1) (hB : interB b = false) (h : b.toNat = 88) :
    Calls Try.prog 29 #[.agg #[.int .i64 (p.mode : Int), .int .u8 (p.priv : Int), vp, vi, vu], .int .u8 (b.toNat : Int)] w (VtPost S (prM 7, []) w) := by
  have HP := Lib.hid hp
  have HI := Lib.hid hi
  have HU := Lib.hid hu
  have HSS := Lib.hid hS
  obtain ⟨Ap, cp, rfl, p1, p2⟩ := hp.form
  obtain ⟨Ai, ci, rfl, i1, i2⟩ := hi.form
  obtain ⟨Au, cu, rfl, u1, u2⟩ := hu.form
  clear hp hi hu hS
  have hb255 := b.toNat_lt
  have d24 : ((b.toNat : Int) == 24) = false := beq_eq_false_iff_ne.2 (by omega)
  have d26 : ((b.toNat : Int) == 26) = false := beq_eq_false_iff_ne.2 (by omega)
  have d27 : ((b.toNat : Int) == 27) = false := beq_eq_false_iff_ne.2 (by omega)
  have m0 : ((p.mode : Int) == 0) = false := beq_eq_false_iff_ne.2 (by omega)
  have m7 : ((p.mode : Int) == 7) = false := beq_eq_false_iff_ne.2 (by omega)
  have l32 : decide ((b.toNat : Int) < 32) = false := by simp; omega
  have d127 : ((b.toNat : Int) == 127) = false := beq_eq_false_iff_ne.2 (by omega)
  have g128 : decide ((128 : Int) ≤ (b.toNat : Int)) = false := by simp; omega
  have m1 : ((p.mode : Int) == 1) = true := beq_iff_eq.2 (by omega)
  have HIB := Lib.hid hB
  clear hB
  have d91 : ((b.toNat : Int) == 91) = false := beq_eq_false_iff_ne.2 (by omega)
  have d93 : ((b.toNat : Int) == 93) = false := beq_eq_false_iff_ne.2 (by omega)
  have d80 : ((b.toNat : Int) == 80) = false := beq_eq_false_iff_ne.2 (by omega)
  have d88 : ((b.toNat : Int) == 88) = true := beq_iff_eq.2 (by omega)
  clear h24 h26 h27 hm0 hm7 hm h
  go_enter Try.func29, Try.ntmps29
  go_wp2_with (go_at_call 22; refine (interr_any b _).mono ?_; rintro e w' ⟨rfl, rfl⟩; rw [HIB.out])
  exact bodyPost_ret (v := .tuple #[.agg #[.int .i64 7, .int .u8 0, .slice none 0 0, .slice none 0 0, .slice none 0 0], .slice none 0 0]) (by simp [results, Try.results29, go_sem]) rfl ⟨_, _, rfl, prM_pv _ _ 7, AS.nil _ _ _, (two_new w _ _).1⟩
set_option maxHeartbeats 1000000 in
set_option maxRecDepth 100000 in
theorem stepr_e3_94 (vp vi vu : Value) (p : Pr) (b : UInt8) (S : Nat → Prop) (w : World) (hp : SL vI w S vp p.params) (hi : SL vB w S vi p.inter) (hu : SL vB w S vu p.utf) (hS : ∀ x, S x → x < w.heap.size) (h24 : b.toNat ≠ 24) (h26 : b.toNat ≠ 26) (h27 : b.toNat ≠ 27) (hm0 : p.mode ≠ 0) (hm7 : p.mode ≠ 7) (hb0 : 32 ≤ b.toNat) (hb1 : b.toNat < 127) (hm : p.mode = 1) (hB : interB b = false) (h : b.toNat = 94) :
    Calls Try.prog 29 #[.agg #[.int .i64 (p.mode : Int), .int .u8 (p.priv : Int), vp, vi, vu], .int .u8 (b.toNat : Int)] w (VtPost S (prM 7, []) w) := by
  have HP := Lib.hid hp
  have HI := Lib.hid hi
  have HU := Lib.hid hu
  have HSS := Lib.hid hS
  obtain ⟨Ap, cp, rfl, p1, p2⟩ := hp.form
  obtain ⟨Ai, ci, rfl, i1, i2⟩ := hi.form
  obtain ⟨Au, cu, rfl, u1, u2⟩ := hu.form
  clear hp hi hu hS
  have hb255 := b.toNat_lt
  have d24 : ((b.toNat : Int) == 24) = false := beq_eq_false_iff_ne.2 (by omega)
  have d26 : ((b.toNat : Int) == 26) = false := beq_eq_false_iff_ne.2 (by omega)
  have d27 : ((b.toNat : Int) == 27) = false := beq_eq_false_iff_ne.2 (by omega)
  have m0 : ((p.mode : Int) == 0) = false := beq_eq_false_iff_ne.2 (by omega)
  have m7 : ((p.mode : Int) == 7) = false := beq_eq_false_iff_ne.2 (by omega)
  have l32 : decide ((b.toNat : Int) < 32) = false := by simp; omega
  have d127 : ((b.toNat : Int) == 127) = false := beq_eq_false_iff_ne.2 (by omega)
  have g128 : decide ((128 : Int) ≤ (b.toNat : Int)) = false := by simp; omega
  have m1 : ((p.mode : Int) == 1) = true := beq_iff_eq.2 (by omega)
  have HIB := Lib.hid hB
  clear hB
  have d91 : ((b.toNat : Int) == 91) = false := beq_eq_false_iff_ne.2 (by omega)
  have d93 : ((b.toNat : Int) == 93) = false := beq_eq_false_iff_ne.2 (by omega)
  have d80 : ((b.toNat : Int) == 80) = false := beq_eq_false_iff_ne.2 (by omega)
  have d88 : ((b.toNat : Int) == 88) = false := beq_eq_false_iff_ne.2 (by omega)
  have d94 : ((b.toNat : Int) == 94) = true := beq_iff_eq.2 (by omega)
  clear h24 h26 h27 hm0 hm7 hm h
  go_enter Try.func29, Try.ntmps29
  go_wp2_with (go_at_call 22; refine (interr_any b _).mono ?_; rintro e w' ⟨rfl, rfl⟩; rw [HIB.out])
  exact bodyPost_ret (v := .tuple #[.agg #[.int .i64 7, .int .u8 0, .slice none 0 0, .slice none 0 0, .slice none 0 0], .slice none 0 0]) (by simp [results, Try.results29, go_sem]) rfl ⟨_, _, rfl, prM_pv _ _ 7, AS.nil _ _ _, (two_new w _ _).1⟩
set_option maxHeartbeats 1000000 in
set_option maxRecDepth 100000 in
theorem stepr_e3_95 (vp vi vu : Value) (p : Pr) (b : UInt8) (S : Nat → Prop) (w : World) (hp : SL vI w S vp p.params) (hi : SL vB w S vi p.inter) (hu : SL vB w S vu p.utf) (hS : ∀ x, S x → x < w.heap.size) (h24 : b.toNat ≠ 24) (h26 : b.toNat ≠ 26) (h27 : b.toNat ≠ 27) (hm0 : p.mode ≠ 0) (hm7 : p.mode ≠ 7) (hb0 : 32 ≤ b.toNat) (hb1 : b.toNat < 127) (hm : p.mode = 1) (hB : interB b = false) (h : b.toNat = 95) :
    Calls Try.prog 29 #[.agg #[.int .i64 (p.mode : Int), .int .u8 (p.priv : Int), vp, vi, vu], .int .u8 (b.toNat : Int)] w (VtPost S (prM 7, []) w) := by
  have HP := Lib.hid hp
  have HI := Lib.hid hi
  have HU := Lib.hid hu
  have HSS := Lib.hid hS
  obtain ⟨Ap, cp, rfl, p1, p2⟩ := hp.form
  obtain ⟨Ai, ci, rfl, i1, i2⟩ := hi.form
  obtain ⟨Au, cu, rfl, u1, u2⟩ := hu.form
  clear hp hi hu hS
  have hb255 := b.toNat_lt
  have d24 : ((b.toNat : Int) == 24) = false := beq_eq_false_iff_ne.2 (by omega)
  have d26 : ((b.toNat : Int) == 26) = false := beq_eq_false_iff_ne.2 (by omega)
  have d27 : ((b.toNat : Int) == 27) = false := beq_eq_false_iff_ne.2 (by omega)
  have m0 : ((p.mode : Int) == 0) = false := beq_eq_false_iff_ne.2 (by omega)
  have m7 : ((p.mode : Int) == 7) = false := beq_eq_false_iff_ne.2 (by omega)
  have l32 : decide ((b.toNat : Int) < 32) = false := by simp; omega
  have d127 : ((b.toNat : Int) == 127) = false := beq_eq_false_iff_ne.2 (by omega)
  have g128 : decide ((128 : Int) ≤ (b.toNat : Int)) = false := by simp; omega
  have m1 : ((p.mode : Int) == 1) = true := beq_iff_eq.2 (by omega)
  have HIB := Lib.hid hB
  clear hB
  have d91 : ((b.toNat : Int) == 91) = false := beq_eq_false_iff_ne.2 (by omega)
  have d93 : ((b.toNat : Int) == 93) = false := beq_eq_false_iff_ne.2 (by omega)
  have d80 : ((b.toNat : Int) == 80) = false := beq_eq_false_iff_ne.2 (by omega)
  have d88 : ((b.toNat : Int) == 88) = false := beq_eq_false_iff_ne.2 (by omega)
  have d94 : ((b.toNat : Int) == 94) = false := beq_eq_false_iff_ne.2 (by omega)
  have d95 : ((b.toNat : Int) == 95) = true := beq_iff_eq.2 (by omega)
  clear h24 h26 h27 hm0 hm7 hm h
  go_enter Try.func29, Try.ntmps29
  go_wp2_with (go_at_call 22; refine (interr_any b _).mono ?_; rintro e w' ⟨rfl, rfl⟩; rw [HIB.out])
  exact bodyPost_ret (v := .tuple #[.agg #[.int .i64 7, .int .u8 0, .slice none 0 0, .slice none 0 0, .slice none 0 0], .slice none 0 0]) (by simp [results, Try.results29, go_sem]) rfl ⟨_, _, rfl, prM_pv _ _ 7, AS.nil _ _ _, (two_new w _ _).1⟩
set_option maxHeartbeats 1000000 in
set_option maxRecDepth 100000 in
theorem stepr_e4 (vp vi vu : Value) (p : Pr) (b : UInt8) (S : Nat → Prop) (w : World) (hp : SL vI w S vp p.params) (hi : SL vB w S vi p.inter) (hu : SL vB w S vu p.utf) (hS : ∀ x, S x → x < w.heap.size) (h24 : b.toNat ≠ 24) (h26 : b.toNat ≠ 26) (h27 : b.toNat ≠ 27) (hm0 : p.mode ≠ 0) (hm7 : p.mode ≠ 7) (hb0 : 32 ≤ b.toNat) (hb1 : b.toNat < 127) (hm : p.mode = 1) (hB : interB b = false) (h91 : b.toNat ≠ 91) (h93 : b.toNat ≠ 93) (h80 : b.toNat ≠ 80) (h88 : b.toNat ≠ 88) (h94 : b.toNat ≠ 94) (h95 : b.toNat ≠ 95) :
    Calls Try.prog 29 #[.agg #[.int .i64 (p.mode : Int), .int .u8 (p.priv : Int), vp, vi, vu], .int .u8 (b.toNat : Int)] w (VtPost S (prM 0, [acE b.toNat []]) w) := by
  have HP := Lib.hid hp
  have HI := Lib.hid hi
  have HU := Lib.hid hu
  have HSS := Lib.hid hS
  obtain ⟨Ap, cp, rfl, p1, p2⟩ := hp.form
  obtain ⟨Ai, ci, rfl, i1, i2⟩ := hi.form
  obtain ⟨Au, cu, rfl, u1, u2⟩ := hu.form
  clear hp hi hu hS
  have hb255 := b.toNat_lt
  have d24 : ((b.toNat : Int) == 24) = false := beq_eq_false_iff_ne.2 (by omega)
  have d26 : ((b.toNat : Int) == 26) = false := beq_eq_false_iff_ne.2 (by omega)
  have d27 : ((b.toNat : Int) == 27) = false := beq_eq_false_iff_ne.2 (by omega)
  have m0 : ((p.mode : Int) == 0) = false := beq_eq_false_iff_ne.2 (by omega)
  have m7 : ((p.mode : Int) == 7) = false := beq_eq_false_iff_ne.2 (by omega)
  have l32 : decide ((b.toNat : Int) < 32) = false := by simp; omega
  have d127 : ((b.toNat : Int) == 127) = false := beq_eq_false_iff_ne.2 (by omega)
  have g128 : decide ((128 : Int) ≤ (b.toNat : Int)) = false := by simp; omega
  have m1 : ((p.mode : Int) == 1) = true := beq_iff_eq.2 (by omega)
  have HIB := Lib.hid hB
  clear hB
  have d91 : ((b.toNat : Int) == 91) = false := beq_eq_false_iff_ne.2 (by omega)
  have d93 : ((b.toNat : Int) == 93) = false := beq_eq_false_iff_ne.2 (by omega)
  have d80 : ((b.toNat : Int) == 80) = false := beq_eq_false_iff_ne.2 (by omega)
  have d88 : ((b.toNat : Int) == 88) = false := beq_eq_false_iff_ne.2 (by omega)
  have d94 : ((b.toNat : Int) == 94) = false := beq_eq_false_iff_ne.2 (by omega)
  have d95 : ((b.toNat : Int) == 95) = false := beq_eq_false_iff_ne.2 (by omega)
  clear h24 h26 h27 hm0 hm7 hm h91 h93 h80 h88 h94 h95
  go_enter Try.func29, Try.ntmps29
  go_wp2_with (go_at_call 22; refine (interr_any b _).mono ?_; rintro e w' ⟨rfl, rfl⟩; rw [HIB.out])
  exact bodyPost_ret (v := .tuple #[.agg #[.int .i64 0, .int .u8 0, .slice none 0 0, .slice none 0 0, .slice none 0 0], .slice (some ⟨w.heap.size + 1 + 1, 0, none⟩) 1 1]) (by simp [results, Try.results29, go_sem]) rfl ⟨_, _, rfl, prM_pv _ _ 0, act_new0 (two_new w _ _).1 HSS.out (acE b.toNat []) _ _ _ _ (by simp) (SL.nil _ _ _) (SL.nil _ _ _) _ rfl, (two_new w _ _).1.alloc (by simp; omega) _⟩
set_option maxHeartbeats 1000000 in
set_option maxRecDepth 100000 in
theorem stepr_x1 (vp vi vu : Value) (p : Pr) (b : UInt8) (S : Nat → Prop) (w : World) (hp : SL vI w S vp p.params) (hi : SL vB w S vi p.inter) (hu : SL vB w S vu p.utf) (hS : ∀ x, S x → x < w.heap.size) (h24 : b.toNat ≠ 24) (h26 : b.toNat ≠ 26) (h27 : b.toNat ≠ 27) (hm0 : p.mode ≠ 0) (hm7 : p.mode ≠ 7) (hb0 : 32 ≤ b.toNat) (hb1 : b.toNat < 127) (hm : p.mode = 3) (h : 48 ≤ b.toNat) :
    Calls Try.prog 29 #[.agg #[.int .i64 (p.mode : Int), .int .u8 (p.priv : Int), vp, vi, vu], .int .u8 (b.toNat : Int)] w (VtPost S (prM 0, []) w) := by
  have HP := Lib.hid hp
  have HI := Lib.hid hi
  have HU := Lib.hid hu
  have HSS := Lib.hid hS
  obtain ⟨Ap, cp, rfl, p1, p2⟩ := hp.form
  obtain ⟨Ai, ci, rfl, i1, i2⟩ := hi.form
  obtain ⟨Au, cu, rfl, u1, u2⟩ := hu.form
  clear hp hi hu hS
  have hb255 := b.toNat_lt
  have d24 : ((b.toNat : Int) == 24) = false := beq_eq_false_iff_ne.2 (by omega)
  have d26 : ((b.toNat : Int) == 26) = false := beq_eq_false_iff_ne.2 (by omega)
  have d27 : ((b.toNat : Int) == 27) = false := beq_eq_false_iff_ne.2 (by omega)
  have m0 : ((p.mode : Int) == 0) = false := beq_eq_false_iff_ne.2 (by omega)
  have m7 : ((p.mode : Int) == 7) = false := beq_eq_false_iff_ne.2 (by omega)
  have l32 : decide ((b.toNat : Int) < 32) = false := by simp; omega
  have d127 : ((b.toNat : Int) == 127) = false := beq_eq_false_iff_ne.2 (by omega)
  have g128 : decide ((128 : Int) ≤ (b.toNat : Int)) = false := by simp; omega
  have m1 : ((p.mode : Int) == 1) = false := beq_eq_false_iff_ne.2 (by omega)
  have m2 : ((p.mode : Int) == 2) = false := beq_eq_false_iff_ne.2 (by omega)
  have m3 : ((p.mode : Int) == 3) = true := beq_iff_eq.2 (by omega)
  have g48 : (48 : Int) ≤ (b.toNat : Int) := by omega
  clear h24 h26 h27 hm0 hm7 hm
  go_enter Try.func29, Try.ntmps29
  go_wp2
  exact bodyPost_ret (v := .tuple #[.agg #[.int .i64 0, .int .u8 0, .slice none 0 0, .slice none 0 0, .slice none 0 0], .slice none 0 0]) (by simp [results, Try.results29, go_sem]) rfl ⟨_, _, rfl, prM_pv _ _ 0, AS.nil _ _ _, (two_new w _ _).1⟩
set_option maxHeartbeats 1000000 in
set_option maxRecDepth 100000 in
theorem stepr_x2 (vp vi vu : Value) (p : Pr) (b : UInt8) (S : Nat → Prop) (w : World) (hp : SL vI w S vp p.params) (hi : SL vB w S vi p.inter) (hu : SL vB w S vu p.utf) (hS : ∀ x, S x → x < w.heap.size) (h24 : b.toNat ≠ 24) (h26 : b.toNat ≠ 26) (h27 : b.toNat ≠ 27) (hm0 : p.mode ≠ 0) (hm7 : p.mode ≠ 7) (hb0 : 32 ≤ b.toNat) (hb1 : b.toNat < 127) (hm : p.mode = 3) (h : ¬ 48 ≤ b.toNat) :
    Calls Try.prog 29 #[.agg #[.int .i64 (p.mode : Int), .int .u8 (p.priv : Int), vp, vi, vu], .int .u8 (b.toNat : Int)] w (VtPost S (p, []) w) := by
  have HP := Lib.hid hp
  have HI := Lib.hid hi
  have HU := Lib.hid hu
  have HSS := Lib.hid hS
  obtain ⟨Ap, cp, rfl, p1, p2⟩ := hp.form
  obtain ⟨Ai, ci, rfl, i1, i2⟩ := hi.form
  obtain ⟨Au, cu, rfl, u1, u2⟩ := hu.form
  clear hp hi hu hS
  have hb255 := b.toNat_lt
  have d24 : ((b.toNat : Int) == 24) = false := beq_eq_false_iff_ne.2 (by omega)
  have d26 : ((b.toNat : Int) == 26) = false := beq_eq_false_iff_ne.2 (by omega)
  have d27 : ((b.toNat : Int) == 27) = false := beq_eq_false_iff_ne.2 (by omega)
  have m0 : ((p.mode : Int) == 0) = false := beq_eq_false_iff_ne.2 (by omega)
  have m7 : ((p.mode : Int) == 7) = false := beq_eq_false_iff_ne.2 (by omega)
  have l32 : decide ((b.toNat : Int) < 32) = false := by simp; omega
  have d127 : ((b.toNat : Int) == 127) = false := beq_eq_false_iff_ne.2 (by omega)
  have g128 : decide ((128 : Int) ≤ (b.toNat : Int)) = false := by simp; omega
  have m1 : ((p.mode : Int) == 1) = false := beq_eq_false_iff_ne.2 (by omega)
  have m2 : ((p.mode : Int) == 2) = false := beq_eq_false_iff_ne.2 (by omega)
  have m3 : ((p.mode : Int) == 3) = true := beq_iff_eq.2 (by omega)
  have g48 : decide ((48 : Int) ≤ (b.toNat : Int)) = false := by simp; omega
  clear h24 h26 h27 hm0 hm7 hm
  go_enter Try.func29, Try.ntmps29
  go_wp2
  exact bodyPost_ret (v := .tuple #[.agg #[.int .i64 (p.mode : Int), .int .u8 (p.priv : Int), Value.slice Ap p.params.length cp, Value.slice Ai p.inter.length ci, Value.slice Au p.utf.length cu], .slice none 0 0]) (by simp [results, Try.results29, go_sem]) rfl ⟨_, _, rfl, ⟨_, _, _, rfl, sl_old (two_new w _ _).1 HSS.out HP.out, sl_old (two_new w _ _).1 HSS.out HI.out, sl_old (two_new w _ _).1 HSS.out HU.out⟩, AS.nil _ _ _, (two_new w _ _).1⟩
set_option maxHeartbeats 1000000 in
set_option maxRecDepth 100000 in
theorem stepr_y1 (vp vi vu : Value) (p : Pr) (b : UInt8) (S : Nat → Prop) (w : World) (hp : SL vI w S vp p.params) (hi : SL vB w S vi p.inter) (hu : SL vB w S vu p.utf) (hS : ∀ x, S x → x < w.heap.size) (h24 : b.toNat ≠ 24) (h26 : b.toNat ≠ 26) (h27 : b.toNat ≠ 27) (hm0 : p.mode ≠ 0) (hm7 : p.mode ≠ 7) (hb0 : 32 ≤ b.toNat) (hb1 : b.toNat < 127) (hm : p.mode = 6) (h : 64 ≤ b.toNat) :
    Calls Try.prog 29 #[.agg #[.int .i64 (p.mode : Int), .int .u8 (p.priv : Int), vp, vi, vu], .int .u8 (b.toNat : Int)] w (VtPost S (prM 0, []) w) := by
  have HP := Lib.hid hp
  have HI := Lib.hid hi
  have HU := Lib.hid hu
  have HSS := Lib.hid hS
  obtain ⟨Ap, cp, rfl, p1, p2⟩ := hp.form
  obtain ⟨Ai, ci, rfl, i1, i2⟩ := hi.form
  obtain ⟨Au, cu, rfl, u1, u2⟩ := hu.form
  clear hp hi hu hS
  have hb255 := b.toNat_lt
  have d24 : ((b.toNat : Int) == 24) = false := beq_eq_false_iff_ne.2 (by omega)
  have d26 : ((b.toNat : Int) == 26) = false := beq_eq_false_iff_ne.2 (by omega)
  have d27 : ((b.toNat : Int) == 27) = false := beq_eq_false_iff_ne.2 (by omega)
  have m0 : ((p.mode : Int) == 0) = false := beq_eq_false_iff_ne.2 (by omega)
  have m7 : ((p.mode : Int) == 7) = false := beq_eq_false_iff_ne.2 (by omega)
  have l32 : decide ((b.toNat : Int) < 32) = false := by simp; omega
  have d127 : ((b.toNat : Int) == 127) = false := beq_eq_false_iff_ne.2 (by omega)
  have g128 : decide ((128 : Int) ≤ (b.toNat : Int)) = false := by simp; omega
  have m1 : ((p.mode : Int) == 1) = false := beq_eq_false_iff_ne.2 (by omega)
  have m2 : ((p.mode : Int) == 2) = false := beq_eq_false_iff_ne.2 (by omega)
  have m3 : ((p.mode : Int) == 3) = false := beq_eq_false_iff_ne.2 (by omega)
  have m6 : ((p.mode : Int) == 6) = true := beq_iff_eq.2 (by omega)
  have g64 : (64 : Int) ≤ (b.toNat : Int) := by omega
  clear h24 h26 h27 hm0 hm7 hm
  go_enter Try.func29, Try.ntmps29
  go_wp2
  exact bodyPost_ret (v := .tuple #[.agg #[.int .i64 0, .int .u8 0, .slice none 0 0, .slice none 0 0, .slice none 0 0], .slice none 0 0]) (by simp [results, Try.results29, go_sem]) rfl ⟨_, _, rfl, prM_pv _ _ 0, AS.nil _ _ _, (two_new w _ _).1⟩
set_option maxHeartbeats 1000000 in
set_option maxRecDepth 100000 in
theorem stepr_y2 (vp vi vu : Value) (p : Pr) (b : UInt8) (S : Nat → Prop) (w : World) (hp : SL vI w S vp p.params) (hi : SL vB w S vi p.inter) (hu : SL vB w S vu p.utf) (hS : ∀ x, S x → x < w.heap.size) (h24 : b.toNat ≠ 24) (h26 : b.toNat ≠ 26) (h27 : b.toNat ≠ 27) (hm0 : p.mode ≠ 0) (hm7 : p.mode ≠ 7) (hb0 : 32 ≤ b.toNat) (hb1 : b.toNat < 127) (hm : p.mode = 6) (h : ¬ 64 ≤ b.toNat) :
    Calls Try.prog 29 #[.agg #[.int .i64 (p.mode : Int), .int .u8 (p.priv : Int), vp, vi, vu], .int .u8 (b.toNat : Int)] w (VtPost S (p, []) w) := by
  have HP := Lib.hid hp
  have HI := Lib.hid hi
  have HU := Lib.hid hu
  have HSS := Lib.hid hS
  obtain ⟨Ap, cp, rfl, p1, p2⟩ := hp.form
  obtain ⟨Ai, ci, rfl, i1, i2⟩ := hi.form
  obtain ⟨Au, cu, rfl, u1, u2⟩ := hu.form
  clear hp hi hu hS
  have hb255 := b.toNat_lt
  have d24 : ((b.toNat : Int) == 24) = false := beq_eq_false_iff_ne.2 (by omega)
  have d26 : ((b.toNat : Int) == 26) = false := beq_eq_false_iff_ne.2 (by omega)
  have d27 : ((b.toNat : Int) == 27) = false := beq_eq_false_iff_ne.2 (by omega)
  have m0 : ((p.mode : Int) == 0) = false := beq_eq_false_iff_ne.2 (by omega)
  have m7 : ((p.mode : Int) == 7) = false := beq_eq_false_iff_ne.2 (by omega)
  have l32 : decide ((b.toNat : Int) < 32) = false := by simp; omega
  have d127 : ((b.toNat : Int) == 127) = false := beq_eq_false_iff_ne.2 (by omega)
  have g128 : decide ((128 : Int) ≤ (b.toNat : Int)) = false := by simp; omega
  have m1 : ((p.mode : Int) == 1) = false := beq_eq_false_iff_ne.2 (by omega)
  have m2 : ((p.mode : Int) == 2) = false := beq_eq_false_iff_ne.2 (by omega)
  have m3 : ((p.mode : Int) == 3) = false := beq_eq_false_iff_ne.2 (by omega)
  have m6 : ((p.mode : Int) == 6) = true := beq_iff_eq.2 (by omega)
  have g64 : decide ((64 : Int) ≤ (b.toNat : Int)) = false := by simp; omega
  clear h24 h26 h27 hm0 hm7 hm
  go_enter Try.func29, Try.ntmps29
  go_wp2
  exact bodyPost_ret (v := .tuple #[.agg #[.int .i64 (p.mode : Int), .int .u8 (p.priv : Int), Value.slice Ap p.params.length cp, Value.slice Ai p.inter.length ci, Value.slice Au p.utf.length cu], .slice none 0 0]) (by simp [results, Try.results29, go_sem]) rfl ⟨_, _, rfl, ⟨_, _, _, rfl, sl_old (two_new w _ _).1 HSS.out HP.out, sl_old (two_new w _ _).1 HSS.out HI.out, sl_old (two_new w _ _).1 HSS.out HU.out⟩, AS.nil _ _ _, (two_new w _ _).1⟩
set_option maxHeartbeats 1000000 in
set_option maxRecDepth 100000 in
theorem stepr_i2 (vp vi vu : Value) (p : Pr) (b : UInt8) (S : Nat → Prop) (w : World) (hp : SL vI w S vp p.params) (hi : SL vB w S vi p.inter) (hu : SL vB w S vu p.utf) (hS : ∀ x, S x → x < w.heap.size) (h24 : b.toNat ≠ 24) (h26 : b.toNat ≠ 26) (h27 : b.toNat ≠ 27) (hm0 : p.mode ≠ 0) (hm7 : p.mode ≠ 7) (hb0 : 32 ≤ b.toNat) (hb1 : b.toNat < 127) (hm : p.mode = 2) (hB : interB b = true) (hl : 2 ≤ p.inter.length) :
    Calls Try.prog 29 #[.agg #[.int .i64 (p.mode : Int), .int .u8 (p.priv : Int), vp, vi, vu], .int .u8 (b.toNat : Int)] w (VtPost S (prM 3, []) w) := by
  have HP := Lib.hid hp
  have HI := Lib.hid hi
  have HU := Lib.hid hu
  have HSS := Lib.hid hS
  obtain ⟨Ap, cp, rfl, p1, p2⟩ := hp.form
  obtain ⟨Ai, ci, rfl, i1, i2⟩ := hi.form
  obtain ⟨Au, cu, rfl, u1, u2⟩ := hu.form
  clear hp hi hu hS
  have hb255 := b.toNat_lt
  have d24 : ((b.toNat : Int) == 24) = false := beq_eq_false_iff_ne.2 (by omega)
  have d26 : ((b.toNat : Int) == 26) = false := beq_eq_false_iff_ne.2 (by omega)
  have d27 : ((b.toNat : Int) == 27) = false := beq_eq_false_iff_ne.2 (by omega)
  have m0 : ((p.mode : Int) == 0) = false := beq_eq_false_iff_ne.2 (by omega)
  have m7 : ((p.mode : Int) == 7) = false := beq_eq_false_iff_ne.2 (by omega)
  have l32 : decide ((b.toNat : Int) < 32) = false := by simp; omega
  have d127 : ((b.toNat : Int) == 127) = false := beq_eq_false_iff_ne.2 (by omega)
  have g128 : decide ((128 : Int) ≤ (b.toNat : Int)) = false := by simp; omega
  have m1 : ((p.mode : Int) == 1) = false := beq_eq_false_iff_ne.2 (by omega)
  have m2 : ((p.mode : Int) == 2) = true := beq_iff_eq.2 (by omega)
  have HIB := Lib.hid hB
  clear hB
  have hl2 : (2 : Int) ≤ (p.inter.length : Int) := by omega
  clear h24 h26 h27 hm0 hm7 hm
  go_enter Try.func29, Try.ntmps29
  go_wp2_with (go_at_call 22; refine (interr_any b _).mono ?_; rintro e w' ⟨rfl, rfl⟩; rw [HIB.out])
  exact bodyPost_ret (v := .tuple #[.agg #[.int .i64 3, .int .u8 0, .slice none 0 0, .slice none 0 0, .slice none 0 0], .slice none 0 0]) (by simp [results, Try.results29, go_sem]) rfl ⟨_, _, rfl, prM_pv _ _ 3, AS.nil _ _ _, (two_new w _ _).1⟩
end Go.Proofs.Ytbimhhcmfhooaaa
