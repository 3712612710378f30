/- What is proved here: parts of the proofs of the laws of layer 10. -/
import Derived.Test.YthncoigjfhmldaaGreatS4
import Derived.Laws.OwnMore
namespace Go.Proofs.YthncoigjfhmldaaGreat
open Go.RowKit
set_option linter.unusedVariables false
set_option linter.unusedSimpArgs false
set_option maxHeartbeats 1000000
set_option maxRecDepth 100000
theorem five_cells {w : World} {g : Nat} {t : TypeId} {x0 x1 x2 x3 x4 : Value} (h : w.heap[g]? = some (.cells #[x0, x1, x2, x3, x4] t)) :
  w.cell? ⟨g, 0, none⟩ = some x0 ∧ w.cell? ⟨g, 1, none⟩ = some x1 ∧ w.cell? ⟨g, 2, none⟩ = some x2 ∧ w.cell? ⟨g, 3, none⟩ = some x3 ∧ w.cell? ⟨g, 4, none⟩ = some x4 ∧ ∀ o, w.frozen? ⟨g, o, none⟩ = false := by
 refine ⟨?_, ?_, ?_, ?_, ?_, fun o => ?_⟩
 ·rw [cell_of_row w g 0 _ t _ h]; rfl
 ·rw [cell_of_row w g 1 _ t _ h]; rfl
 ·rw [cell_of_row w g 2 _ t _ h]; rfl
 ·rw [cell_of_row w g 3 _ t _ h]; rfl
 ·rw [cell_of_row w g 4 _ t _ h]; rfl
 ·simp [World.frozen?, h]
theorem two_kept {w w4 : World} {x y z : Obj} (hb : Below (((w.alloc x).alloc y).alloc z).heap.size (((w.alloc x).alloc y).alloc z) w4) : w4.heap[w.heap.size]? = some x ∧ w4.heap[w.heap.size + 1]? = some y := by
 refine ⟨(hb.block _ (by simp; omega)).trans ?_, (hb.block _ (by simp)).trans ?_⟩
 ·show (((w.heap.push x).push y).push z)[w.heap.size]? = some x
  simp [Array.getElem?_push]
  omega
 ·show (((w.heap.push x).push y).push z)[w.heap.size + 1]? = some y
  rw [Array.getElem?_push, if_neg (by simp), Array.getElem?_push, if_pos (by simp)]
theorem SL.set {α : Type} {f : α → Value} {w : World} {S : Nat → Prop} {v u : Value} {l : List α} {a : Addr} (h : SL f w S v l) (hne : ∀ x, S x → x ≠ a.block) : SL f (w.setCell a u) S v l :=
 h.keep fun q hq => World.cell?_of_block (Below.heap_setCell _ _ _ _ (hne _ hq))
theorem set_keep {α : Type} {f : α → Value} {w w4 : World} {S : Nat → Prop} {v x0 x1 y0 y1 y2 y3 y4 : Value} {l : List α} {i j : Nat} (h : SL f w4 S v l) (hne : ∀ x, S x → x ≠ w.heap.size ∧ x ≠ w.heap.size + 1) :
  SL f (((((((w4.setCell ⟨w.heap.size, i, none⟩ x0).setCell ⟨w.heap.size, j, none⟩ x1).setCell ⟨w.heap.size + 1, 0, none⟩ y0).setCell ⟨w.heap.size + 1, 1, none⟩ y1).setCell ⟨w.heap.size + 1, 2, none⟩ y2).setCell ⟨w.heap.size + 1, 3, none⟩ y3).setCell ⟨w.heap.size + 1, 4, none⟩ y4) S v l :=
 ((((((h.set (fun x hx => (hne x hx).1)).set (fun x hx => (hne x hx).1)).set (fun x hx => (hne x hx).2)).set (fun x hx => (hne x hx).2)).set (fun x hx => (hne x hx).2)).set (fun x hx => (hne x hx).2)).set (fun x hx => (hne x hx).2)
theorem set_below {w w4 : World} {x0 x1 y0 y1 y2 y3 y4 : Value} {i j : Nat} (h : Below w.heap.size w w4) :
  Below w.heap.size w (((((((w4.setCell ⟨w.heap.size, i, none⟩ x0).setCell ⟨w.heap.size, j, none⟩ x1).setCell ⟨w.heap.size + 1, 0, none⟩ y0).setCell ⟨w.heap.size + 1, 1, none⟩ y1).setCell ⟨w.heap.size + 1, 2, none⟩ y2).setCell ⟨w.heap.size + 1, 3, none⟩ y3).setCell ⟨w.heap.size + 1, 4, none⟩ y4) :=
 ((((((h.setCell (Nat.le_refl _) _).setCell (Nat.le_refl _) _).setCell (Nat.le_succ _) _).setCell (Nat.le_succ _) _).setCell (Nat.le_succ _) _).setCell (Nat.le_succ _) _).setCell (Nat.le_succ _) _
theorem csir_int (vp vi vu : Value) (p : Pr) (b : UInt8) (S : Nat → Prop) (w : World) (hp : SL vI w S vp p.params) (hi : SL vB w S vi p.inter) (hu : SL vB w S vu p.utf) (hS : ∀ x, S x → x < w.heap.size) (h64 : ¬ 64 ≤ b.toNat) (hB : interB b = true) (hl : p.inter.length < 2) :
  Calls Tryz.prog 96 #[.agg #[.int .i64 (p.mode : Int), .int .u8 (p.priv : Int), vp, vi, vu], .int .u8 (b.toNat : Int)] w (VtPost S ({ p with mode := 5, inter := p.inter ++ [b] }, []) w) := by
 have HP := Lib.hid hp
 have HI := Lib.hid hi
 have HU := Lib.hid hu
 have HSS := Lib.hid hS
 obtain ⟨Ap, cp, rfl, p1, p2⟩ := hp.form
 obtain ⟨Ai, ci, rfl, i1, i2⟩ := hi.form
 obtain ⟨Au, cu, rfl, u1, u2⟩ := hu.form
 clear hp hi hu hS
 have HIB := Lib.hid hB
 clear hB
 have d64 : decide ((64 : Int) ≤ (b.toNat : Int)) = false := by simp; omega
 have d2 : decide ((2 : Int) ≤ (p.inter.length : Int)) = false := by simp; omega
 go_enter Tryz.func96, Tryz.ntmps96
 go_wp2_with (first
  | (go_at_call 88; refine (interr_any b _).mono ?_; rintro e w' ⟨rfl, rfl⟩; rw [HIB.out])
  | (go_at_call 95; refine (withr_any _ p.inter b _ (((HI.out.bs HSS.out).below (three_new w _ _ _).1).more (three_new w _ _ _).1.size) (by omega)).mono ?_; rintro e w4 ⟨u, rfl, ho, hb4⟩; obtain ⟨k0, k1⟩ := two_kept hb4; obtain ⟨c0, c1, c2, c3, c4, cf⟩ := five_cells k0; obtain ⟨e0, e1, e2, e3, e4, ef⟩ := five_cells k1; have HB4 := Lib.hid hb4; have HO4 := Lib.hid ho; clear hb4 k0 k1; obtain ⟨Av, cv, rfl, _, _, -⟩ := ho.bs.at_; clear ho))
 have h3 := three_new w (.cells (vPq p Ap Ai Au cp ci cu) 28) (.cells #[Value.int .i64 0, Value.int .u8 0, Value.slice none 0 0, Value.slice none 0 0, Value.slice none 0 0] 28) (.cells #[Value.int .i64 6, Value.int .u8 0, Value.slice none 0 0, Value.slice none 0 0, Value.slice none 0 0] 28)
 have hb4 := h3.1.trans (HB4.out.mono h3.1.size)
 have ho := HO4.out.sl
 rw [h3.2, List.length_append] at ho
 have hbF := set_below (i := 0) (j := 3) (x0 := .int .i64 5) (x1 := .slice Av (p.inter.length + 1) cv) (y0 := .int .i64 5) (y1 := .int .u8 (p.priv : Int)) (y2 := .slice Ap p.params.length cp) (y3 := .slice Av (p.inter.length + 1) cv) (y4 := .slice Au p.utf.length cu) hb4
 have hoF := set_keep (w := w) (i := 0) (j := 3) (x0 := .int .i64 5) (x1 := .slice Av (p.inter.length + 1) cv) (y0 := .int .i64 5) (y1 := .int .u8 (p.priv : Int)) (y2 := .slice Ap p.params.length cp) (y3 := .slice Av (p.inter.length + 1) cv) (y4 := .slice Au p.utf.length cu) ho (fun x hx => by have := hx.1; omega)
 refine bodyPost_ret (v := .tuple #[.agg #[.int .i64 5, .int .u8 (p.priv : Int), Value.slice Ap p.params.length cp, Value.slice Av (p.inter.length + 1) cv, Value.slice Au p.utf.length cu], .slice none 0 0]) (by simp [results, Tryz.results96, go_sem, e0, e1, e2, e3, e4]) rfl ⟨_, _, rfl, ⟨_, _, _, rfl, sl_old hbF HSS.out HP.out, hoF.mono (fun x hx => .inr ⟨by have := hx.1; omega, by simpa using hx.2⟩), sl_old hbF HSS.out HU.out⟩, AS.nil _ _ _, hbF⟩
section
variable {w : World} {base g cap : Nat} {l : List Int}
theorem OI.cellAt (h : OI w base (.slice (some ⟨g, 0, none⟩) l.length cap) l) (j : Nat) (hj : j < l.length) : w.cell? ⟨g, j, none⟩ = some (vI l[j]) := by
 unfold OI at h
 rw [World.ownsRow.cellAt h j (by omega)]
 simp [vIs, hj]
theorem OI.frozenAt (h : OI w base (.slice (some ⟨g, 0, none⟩) l.length cap) l) (j : Nat) : w.frozen? ⟨g, j, none⟩ = false := World.ownsRow.frozenAt h j
theorem OI.stored (h : OI w base (.slice (some ⟨g, 0, none⟩) l.length cap) l) (j : Nat) (x : Int) : OI (w.setCell ⟨g, j, none⟩ (vI x)) base (.slice (some ⟨g, 0, none⟩) l.length cap) (l.set j x) := by
 have := (World.ownsRow.stored h j (vI x)).1
 unfold OI
 rw [List.length_set]
 have e : vIs (l.set j x) = (vIs l).set j (vI x) := by simp [vIs, List.map_set]
 rw [e]
 exact this
theorem OI.formed {v : Value} (h : OI w base v l) (hl : 0 < l.length) : ∃ g cap, v = .slice (some ⟨g, 0, none⟩) l.length cap ∧ l.length ≤ cap ∧ cap ≤ 9223372036854775807 ∧ base ≤ g := by
 unfold OI at h
 rcases h.2 with ⟨hv, h0⟩ | ⟨g', cap', cur, hv, hb, hg, hnc, hcm, hcs, htake⟩
 ·omega
 ·unfold maxLen at hcm
  exact ⟨g', cap', hv, hnc, by omega, hb⟩
end
theorem set_keep1 {α : Type} {f : α → Value} {w w4 : World} {S : Nat → Prop} {v x0 y0 y1 y2 y3 y4 : Value} {l : List α} {i : Nat} (h : SL f w4 S v l) (hne : ∀ x, S x → x ≠ w.heap.size ∧ x ≠ w.heap.size + 1) :
  SL f ((((((w4.setCell ⟨w.heap.size, i, none⟩ x0).setCell ⟨w.heap.size + 1, 0, none⟩ y0).setCell ⟨w.heap.size + 1, 1, none⟩ y1).setCell ⟨w.heap.size + 1, 2, none⟩ y2).setCell ⟨w.heap.size + 1, 3, none⟩ y3).setCell ⟨w.heap.size + 1, 4, none⟩ y4) S v l :=
 (((((h.set (fun x hx => (hne x hx).1)).set (fun x hx => (hne x hx).2)).set (fun x hx => (hne x hx).2)).set (fun x hx => (hne x hx).2)).set (fun x hx => (hne x hx).2)).set (fun x hx => (hne x hx).2)
theorem set_below1 {w w4 : World} {x0 y0 y1 y2 y3 y4 : Value} {i : Nat} (h : Below w.heap.size w w4) :
  Below w.heap.size w ((((((w4.setCell ⟨w.heap.size, i, none⟩ x0).setCell ⟨w.heap.size + 1, 0, none⟩ y0).setCell ⟨w.heap.size + 1, 1, none⟩ y1).setCell ⟨w.heap.size + 1, 2, none⟩ y2).setCell ⟨w.heap.size + 1, 3, none⟩ y3).setCell ⟨w.heap.size + 1, 4, none⟩ y4) :=
 (((((h.setCell (Nat.le_refl _) _).setCell (Nat.le_succ _) _).setCell (Nat.le_succ _) _).setCell (Nat.le_succ _) _).setCell (Nat.le_succ _) _).setCell (Nat.le_succ _) _
theorem params_post {w w5 : World} {S : Nat → Prop} {p : Pr} {Ai Au : Option Addr} {ci cu : Nat} {v x0 : Value} {ps : List Int} (hS : ∀ x, S x → x < w.heap.size) (hi : SL vB w S (.slice Ai p.inter.length ci) p.inter) (hu : SL vB w S (.slice Au p.utf.length cu) p.utf) (hb5 : Below w.heap.size w w5) (ho : OI w5 (w.heap.size + 1 + 1 + 1) v ps) :
  VtPost S ({ p with params := ps }, []) w (.returned (.tuple #[.agg #[.int .i64 (p.mode : Int), .int .u8 (p.priv : Int), v, .slice Ai p.inter.length ci, .slice Au p.utf.length cu], .slice none 0 0]))
   ((((((w5.setCell ⟨w.heap.size, 2, none⟩ x0).setCell ⟨w.heap.size + 1, 0, none⟩ (.int .i64 (p.mode : Int))).setCell ⟨w.heap.size + 1, 1, none⟩ (.int .u8 (p.priv : Int))).setCell ⟨w.heap.size + 1, 2, none⟩ v).setCell ⟨w.heap.size + 1, 3, none⟩ (.slice Ai p.inter.length ci)).setCell ⟨w.heap.size + 1, 4, none⟩ (.slice Au p.utf.length cu)) := by
 have hbF := set_below1 (i := 2) (x0 := x0) (y0 := .int .i64 (p.mode : Int)) (y1 := .int .u8 (p.priv : Int)) (y2 := v) (y3 := .slice Ai p.inter.length ci) (y4 := .slice Au p.utf.length cu) hb5
 have hoF := set_keep1 (w := w) (i := 2) (x0 := x0) (y0 := .int .i64 (p.mode : Int)) (y1 := .int .u8 (p.priv : Int)) (y2 := v) (y3 := .slice Ai p.inter.length ci) (y4 := .slice Au p.utf.length cu) ho.sl (fun x hx => by have := hx.1; omega)
 exact ⟨_, _, rfl, ⟨_, _, _, rfl, hoF.mono (fun x hx => .inr ⟨by have := hx.1; omega, by simpa using hx.2⟩), sl_old hbF hS hi, sl_old hbF hS hu⟩, AS.nil _ _ _, hbF⟩
theorem two_kept3 {w w4 : World} {x y z : Obj} (hb : Below (w.heap.size + 1 + 1 + 1) (((w.alloc x).alloc y).alloc z) w4) : w4.heap[w.heap.size]? = some x ∧ w4.heap[w.heap.size + 1]? = some y := two_kept (by rw [(three_new w x y z).2]; exact hb)
theorem three_kept3 {w w4 : World} {x y z : Obj} (hb : Below (w.heap.size + 1 + 1 + 1) (((w.alloc x).alloc y).alloc z) w4) : w4.heap[w.heap.size]? = some x ∧ w4.heap[w.heap.size + 1]? = some y ∧ w4.heap[w.heap.size + 1 + 1]? = some z := by
 refine ⟨(two_kept3 hb).1, (two_kept3 hb).2, (hb.block _ (by omega)).trans ?_⟩
 show (((w.heap.push x).push y).push z)[w.heap.size + 1 + 1]? = some z
 rw [Array.getElem?_push, if_pos (by simp)]
theorem oneP_some (l : List Int) (h : 0 < l.length) : oneP l = l := by unfold oneP; rw [if_neg (by omega)]
theorem oneP_none (l : List Int) (h : l.length = 0) : oneP l = [0] := by unfold oneP; rw [if_pos h]
theorem csir_dig (vp vi vu : Value) (p : Pr) (b : UInt8) (S : Nat → Prop) (w : World) (hp : SL vI w S vp p.params) (hi : SL vB w S vi p.inter) (hu : SL vB w S vu p.utf) (hS : ∀ x, S x → x < w.heap.size) (h64 : ¬ 60 ≤ b.toNat) (hB : interB b = false) (hm : p.mode ≠ 5) (h58 : b.toNat ≠ 58) (h59 : b.toNat ≠ 59) (h48 : 48 ≤ b.toNat) (hq : 0 < p.params.length) (hq2 : p.params.length ≤ 16) (hpr : ∀ x ∈ p.params, 0 ≤ x ∧ x ≤ 65535) :
  Calls Tryz.prog 96 #[.agg #[.int .i64 (p.mode : Int), .int .u8 (p.priv : Int), vp, vi, vu], .int .u8 (b.toNat : Int)] w (VtPost S ({ p with params := digP (oneP p.params) b.toNat }, []) w) := by
 rw [oneP_some _ hq]
 have HP := Lib.hid hp
 have HI := Lib.hid hi
 have HU := Lib.hid hu
 have HSS := Lib.hid hS
 obtain ⟨Ap, cp, rfl, p1, p2⟩ := hp.form
 obtain ⟨Ai, ci, rfl, i1, i2⟩ := hi.form
 obtain ⟨Au, cu, rfl, u1, u2⟩ := hu.form
 clear hp hi hu hS
 have HIB := Lib.hid hB
 clear hB
 have d64 : decide ((64 : Int) ≤ (b.toNat : Int)) = false := by simp; omega
 have d60 : decide ((60 : Int) ≤ (b.toNat : Int)) = false := by simp; omega
 have d5 : ((p.mode : Int) == 5) = false := beq_eq_false_iff_ne.2 (by omega)
 have d58 : ((b.toNat : Int) == 58) = false := beq_eq_false_iff_ne.2 (by omega)
 have d59 : ((b.toNat : Int) == 59) = false := beq_eq_false_iff_ne.2 (by omega)
 have dq : ((p.params.length : Int) == 0) = false := beq_eq_false_iff_ne.2 (by omega)
 have hb0 : (48 : Int) ≤ (b.toNat : Int) := by omega
 have hb1 : (b.toNat : Int) ≤ 57 := by omega
 have hlast : p.params.length - 1 < p.params.length := by omega
 obtain ⟨x0, x1⟩ := hpr (p.params[p.params.length - 1]) (List.getElem_mem hlast)
 obtain ⟨x, hx⟩ : ∃ x, p.params[p.params.length - 1] = x := ⟨_, rfl⟩
 rw [hx] at x0 x1
 have HX := Lib.hid hx
 obtain ⟨M, hM⟩ : ∃ M, (if 65535 < 10 * x + ((b.toNat : Int) - 48) then 65535 else 10 * x + ((b.toNat : Int) - 48)) = M := ⟨_, rfl⟩
 have HM : Hid (p.params.set (p.params.length - 1) M = digP p.params b.toNat) := by
  unfold digP
  have e : p.params.getD (p.params.length - 1) 0 = x := by rw [← hx]; simp [List.getD, List.getElem?_eq_getElem hlast]
  rw [e, ← hM]
  show p.params.set (p.params.length - 1) _ = p.params.set (p.params.length - 1) _
  congr 1
  split <;> omega
 clear hx hpr hm h58 h59
 go_enter Tryz.func96, Tryz.ntmps96
 go_wp2_with (first
  | (go_at_call 88; refine (interr_any b _).mono ?_; rintro e w' ⟨rfl, rfl⟩; rw [HIB.out])
  | (at_builtin; refine wpl_appI _ rfl (.const (.slice none 0 0)) (.tmp 64) rfl (w.heap.size + 1 + 1 + 1) w.heap.size (.slice none 0 0) (.slice Ap p.params.length cp) [] p.params rfl rfl (OI.nil _ _) ((HP.out.is HSS.out).below (three_new w _ _ _).1) (by simp; omega) (Nat.le_of_eq (three_new w _ _ _).2.symm) ?_; intro v4 w4 ho hg4 hb4 _; clear hg4; rw [List.nil_append] at ho; obtain ⟨k0, k1⟩ := two_kept3 hb4; obtain ⟨c0, c1, c2, c3, c4, cf⟩ := five_cells k0; obtain ⟨e0, e1, e2, e3, e4, ef⟩ := five_cells k1; obtain ⟨g, q, rfl, q1, q2, hgg⟩ := ho.formed hq; have cl := ho.cellAt (p.params.length - 1) hlast; rw [HX.out] at cl; unfold vI at cl; have fl := ho.frozenAt (p.params.length - 1); have HB4 := Lib.hid hb4; have HO4 := Lib.hid ho; have HGG := Lib.hid hgg; have n1 : ¬ g = w.heap.size := (by omega); have n2 : ¬ g = w.heap.size + 1 := (by omega); have n3 : ¬ w.heap.size = g := (by omega); have n4 : ¬ w.heap.size + 1 = g := (by omega); clear hb4 k0 k1 ho hgg))
 have h3 := three_new w (.cells (vPq p Ap Ai Au cp ci cu) 28) (.cells #[Value.int .i64 0, Value.int .u8 0, Value.slice none 0 0, Value.slice none 0 0, Value.slice none 0 0] 28) (.cells #[Value.int .i64 6, Value.int .u8 0, Value.slice none 0 0, Value.slice none 0 0, Value.slice none 0 0] 28)
 have hb5 := h3.1.trans ((HB4.out.setCell (p := ⟨g, p.params.length - 1, none⟩) HGG.out (.int .i64 M)).mono (by omega))
 have ho := HO4.out.stored (p.params.length - 1) M
 rw [HM.out] at ho
 exact bodyPost_ret (v := .tuple #[.agg #[.int .i64 (p.mode : Int), .int .u8 (p.priv : Int), Value.slice (some ⟨g, 0, none⟩) p.params.length q, Value.slice Ai p.inter.length ci, Value.slice Au p.utf.length cu], .slice none 0 0]) (by simp [results, Tryz.results96, go_sem, e0, e1, e2, e3, e4]) rfl (params_post HSS.out HI.out HU.out hb5 ho)
theorem csir_more (vp vi vu : Value) (p : Pr) (b : UInt8) (S : Nat → Prop) (w : World) (hp : SL vI w S vp p.params) (hi : SL vB w S vi p.inter) (hu : SL vB w S vu p.utf) (hS : ∀ x, S x → x < w.heap.size) (h64 : ¬ 60 ≤ b.toNat) (hB : interB b = false) (hm : p.mode ≠ 5) (h58 : b.toNat ≠ 58) (h59 : b.toNat = 59) (hq : 0 < p.params.length) (hq2 : p.params.length < 16) :
  Calls Tryz.prog 96 #[.agg #[.int .i64 (p.mode : Int), .int .u8 (p.priv : Int), vp, vi, vu], .int .u8 (b.toNat : Int)] w (VtPost S ({ p with params := oneP p.params ++ [0] }, []) w) := by
 have HP := Lib.hid hp
 have HI := Lib.hid hi
 have HU := Lib.hid hu
 have HSS := Lib.hid hS
 obtain ⟨Ap, cp, rfl, p1, p2⟩ := hp.form
 obtain ⟨Ai, ci, rfl, i1, i2⟩ := hi.form
 obtain ⟨Au, cu, rfl, u1, u2⟩ := hu.form
 clear hp hi hu hS
 have HIB := Lib.hid hB
 clear hB
 have d64 : decide ((64 : Int) ≤ (b.toNat : Int)) = false := by simp; omega
 have d60 : decide ((60 : Int) ≤ (b.toNat : Int)) = false := by simp; omega
 have d5 : ((p.mode : Int) == 5) = false := beq_eq_false_iff_ne.2 (by omega)
 have d58 : ((b.toNat : Int) == 58) = false := beq_eq_false_iff_ne.2 (by omega)
 rw [oneP_some _ hq]
 have d59 : ((b.toNat : Int) == 59) = true := beq_iff_eq.2 (by omega)
 have dq : ((p.params.length : Int) == 0) = false := beq_eq_false_iff_ne.2 (by omega)
 have d16 : decide ((16 : Int) ≤ (p.params.length : Int)) = false := by simp; omega
 clear hm h58 h59
 go_enter Tryz.func96, Tryz.ntmps96
 go_wp2_with (first
  | (go_at_call 88; refine (interr_any b _).mono ?_; rintro e w' ⟨rfl, rfl⟩; rw [HIB.out])
  | (at_builtin; refine wpl_appI _ rfl (.const (.slice none 0 0)) (.tmp 64) rfl (w.heap.size + 1 + 1 + 1) w.heap.size (.slice none 0 0) (.slice Ap p.params.length cp) [] p.params rfl rfl (OI.nil _ _) ((HP.out.is HSS.out).below (three_new w _ _ _).1) (by simp; omega) (Nat.le_of_eq (three_new w _ _ _).2.symm) ?_; intro v4 w4 ho4 hg4 hb4 _; clear hg4; rw [List.nil_append] at ho4; have z4 := hb4.size; rw [(three_new w _ _ _).2] at z4; obtain ⟨A4, q4, rfl, _, _, -⟩ := ho4.bs.at_)
  | (at_builtin; refine wpl_appI _ rfl (.tmp 78) (.tmp 79) rfl (w.heap.size + 1 + 1 + 1) _ _ _ p.params [0] rfl rfl (ho4.alloc _) (IS.one _ 0 _) (by simp; omega) (by simp; omega) ?_; intro v6 w6 ho6 hg6 hb6' _; clear hg6; have hb6 := (hb4.alloc z4 _).trans hb6'; obtain ⟨A6, q6, rfl, _, _, -⟩ := ho6.bs.at_; obtain ⟨k0, k1⟩ := two_kept3 hb6; obtain ⟨c0, c1, c2, c3, c4, cf⟩ := five_cells k0; obtain ⟨e0, e1, e2, e3, e4, ef⟩ := five_cells k1; have HB6 := Lib.hid hb6; have HO6 := Lib.hid ho6; clear hb6 k0 k1 ho6))
 have h3 := three_new w (.cells (vPq p Ap Ai Au cp ci cu) 28) (.cells #[Value.int .i64 0, Value.int .u8 0, Value.slice none 0 0, Value.slice none 0 0, Value.slice none 0 0] 28) (.cells #[Value.int .i64 6, Value.int .u8 0, Value.slice none 0 0, Value.slice none 0 0, Value.slice none 0 0] 28)
 have hb7 := h3.1.trans (HB6.out.mono (by omega))
 have ho := HO6.out
 rw [List.length_append] at ho
 exact bodyPost_ret (v := .tuple #[.agg #[.int .i64 (p.mode : Int), .int .u8 (p.priv : Int), Value.slice A6 (p.params.length + 1) q6, Value.slice Ai p.inter.length ci, Value.slice Au p.utf.length cu], .slice none 0 0]) (by simp [results, Tryz.results96, go_sem, e0, e1, e2, e3, e4]) rfl (params_post HSS.out HI.out HU.out hb7 ho)
theorem csir_full (vp vi vu : Value) (p : Pr) (b : UInt8) (S : Nat → Prop) (w : World) (hp : SL vI w S vp p.params) (hi : SL vB w S vi p.inter) (hu : SL vB w S vu p.utf) (hS : ∀ x, S x → x < w.heap.size) (h64 : ¬ 60 ≤ b.toNat) (hB : interB b = false) (hm : p.mode ≠ 5) (h58 : b.toNat ≠ 58) (h59 : b.toNat = 59) (hq : 0 < p.params.length) (hq2 : 16 ≤ p.params.length) (hq3 : p.params.length ≤ 1048576) :
  Calls Tryz.prog 96 #[.agg #[.int .i64 (p.mode : Int), .int .u8 (p.priv : Int), vp, vi, vu], .int .u8 (b.toNat : Int)] w (VtPost S (prM 6, []) w) := by
 have HP := Lib.hid hp
 have HI := Lib.hid hi
 have HU := Lib.hid hu
 have HSS := Lib.hid hS
 obtain ⟨Ap, cp, rfl, p1, p2⟩ := hp.form
 obtain ⟨Ai, ci, rfl, i1, i2⟩ := hi.form
 obtain ⟨Au, cu, rfl, u1, u2⟩ := hu.form
 clear hp hi hu hS
 have HIB := Lib.hid hB
 clear hB
 have d64 : decide ((64 : Int) ≤ (b.toNat : Int)) = false := by simp; omega
 have d60 : decide ((60 : Int) ≤ (b.toNat : Int)) = false := by simp; omega
 have d5 : ((p.mode : Int) == 5) = false := beq_eq_false_iff_ne.2 (by omega)
 have d58 : ((b.toNat : Int) == 58) = false := beq_eq_false_iff_ne.2 (by omega)
 have d59 : ((b.toNat : Int) == 59) = true := beq_iff_eq.2 (by omega)
 have dq : ((p.params.length : Int) == 0) = false := beq_eq_false_iff_ne.2 (by omega)
 have d16 : (16 : Int) ≤ (p.params.length : Int) := by omega
 clear hm h58 h59
 go_enter Tryz.func96, Tryz.ntmps96
 go_wp2_with (first
  | (go_at_call 88; refine (interr_any b _).mono ?_; rintro e w' ⟨rfl, rfl⟩; rw [HIB.out])
  | (at_builtin; refine wpl_appI _ rfl (.const (.slice none 0 0)) (.tmp 64) rfl (w.heap.size + 1 + 1 + 1) w.heap.size (.slice none 0 0) (.slice Ap p.params.length cp) [] p.params rfl rfl (OI.nil _ _) ((HP.out.is HSS.out).below (three_new w _ _ _).1) (by simp; omega) (Nat.le_of_eq (three_new w _ _ _).2.symm) ?_; intro v4 w4 ho4 hg4 hb4 _; clear hg4; rw [List.nil_append] at ho4; have z4 := hb4.size; rw [(three_new w _ _ _).2] at z4; obtain ⟨A4, q4, rfl, _, _, -⟩ := ho4.bs.at_; obtain ⟨k0, k1, k2⟩ := three_kept3 hb4; obtain ⟨e0, e1, e2, e3, e4, ef⟩ := five_cells k1; obtain ⟨f0, f1, f2, f3, f4, ff⟩ := five_cells k2; have HB4 := Lib.hid hb4; clear hb4 k0 k1 k2 ho4))
 have h3 := three_new w (.cells (vPq p Ap Ai Au cp ci cu) 28) (.cells #[Value.int .i64 0, Value.int .u8 0, Value.slice none 0 0, Value.slice none 0 0, Value.slice none 0 0] 28) (.cells #[Value.int .i64 6, Value.int .u8 0, Value.slice none 0 0, Value.slice none 0 0, Value.slice none 0 0] 28)
 have hb5 := h3.1.trans (HB4.out.mono (by omega))
 exact bodyPost_ret (v := .tuple #[.agg #[.int .i64 6, .int .u8 0, .slice none 0 0, .slice none 0 0, .slice none 0 0], .slice none 0 0]) (by simp [results, Tryz.results96, go_sem, e0, e1, e2, e3, e4]) rfl (ignPost (((((hb5.setCell (Nat.le_succ _) _).setCell (Nat.le_succ _) _).setCell (Nat.le_succ _) _).setCell (Nat.le_succ _) _).setCell (Nat.le_succ _) _))
theorem csir_more0 (vp vi vu : Value) (p : Pr) (b : UInt8) (S : Nat → Prop) (w : World) (hp : SL vI w S vp p.params) (hi : SL vB w S vi p.inter) (hu : SL vB w S vu p.utf) (hS : ∀ x, S x → x < w.heap.size) (h64 : ¬ 60 ≤ b.toNat) (hB : interB b = false) (hm : p.mode ≠ 5) (h58 : b.toNat ≠ 58) (h59 : b.toNat = 59) (hq : p.params.length = 0) :
  Calls Tryz.prog 96 #[.agg #[.int .i64 (p.mode : Int), .int .u8 (p.priv : Int), vp, vi, vu], .int .u8 (b.toNat : Int)] w (VtPost S ({ p with params := oneP p.params ++ [0] }, []) w) := by
 have HP := Lib.hid hp
 have HI := Lib.hid hi
 have HU := Lib.hid hu
 have HSS := Lib.hid hS
 obtain ⟨Ap, cp, rfl, p1, p2⟩ := hp.form
 obtain ⟨Ai, ci, rfl, i1, i2⟩ := hi.form
 obtain ⟨Au, cu, rfl, u1, u2⟩ := hu.form
 clear hp hi hu hS
 have HIB := Lib.hid hB
 clear hB
 have d64 : decide ((64 : Int) ≤ (b.toNat : Int)) = false := by simp; omega
 have d60 : decide ((60 : Int) ≤ (b.toNat : Int)) = false := by simp; omega
 have d5 : ((p.mode : Int) == 5) = false := beq_eq_false_iff_ne.2 (by omega)
 have d58 : ((b.toNat : Int) == 58) = false := beq_eq_false_iff_ne.2 (by omega)
 rw [oneP_none _ hq]
 have HE : Hid (p.params ++ [0] = [0]) := by
  rw [List.eq_nil_of_length_eq_zero hq]
  rfl
 have d59 : ((b.toNat : Int) == 59) = true := beq_iff_eq.2 (by omega)
 have dq : ((p.params.length : Int) == 0) = true := beq_iff_eq.2 (by omega)
 clear hm h58 h59
 have hq0 : p.params.length ≤ 0 := by omega
 clear hq
 go_enter Tryz.func96, Tryz.ntmps96
 go_wp2_with (first
  | (go_at_call 88; refine (interr_any b _).mono ?_; rintro e w' ⟨rfl, rfl⟩; rw [HIB.out])
  | (at_builtin; refine wpl_appI _ rfl (.const (.slice none 0 0)) (.tmp 64) rfl (w.heap.size + 1 + 1 + 1) w.heap.size (.slice none 0 0) (.slice Ap p.params.length cp) [] p.params rfl rfl (OI.nil _ _) ((HP.out.is HSS.out).below (three_new w _ _ _).1) (by simp; omega) (Nat.le_of_eq (three_new w _ _ _).2.symm) ?_; intro v4 w4 ho4 hg4 hb4 _; clear hg4; rw [List.nil_append] at ho4; have z4 := hb4.size; rw [(three_new w _ _ _).2] at z4; obtain ⟨A4, q4, rfl, _, _, -⟩ := ho4.bs.at_)
  | (at_builtin; refine wpl_appI _ rfl (.tmp 69) (.tmp 70) rfl (w.heap.size + 1 + 1 + 1) _ _ _ p.params [0] rfl rfl (ho4.alloc _) (IS.one _ 0 _) (by simp; omega) (by simp; omega) ?_; intro v5 w5 ho5 hg5 hb5' _; clear hg5; rw [HE.out] at ho5; have hb5 := (hb4.alloc z4 _).trans hb5'; have z5 := hb5.size; rw [(three_new w _ _ _).2] at z5; obtain ⟨A5, q5, rfl, _, _, -⟩ := ho5.bs.at_)
  | (at_builtin; refine wpl_appI _ rfl (.tmp 78) (.tmp 79) rfl (w.heap.size + 1 + 1 + 1) _ _ _ [0] [0] rfl rfl (ho5.alloc _) (IS.one _ 0 _) (by simp) (by simp; omega) ?_; intro v6 w6 ho6 hg6 hb6' _; clear hg6; have hb6 := (hb5.alloc z5 _).trans hb6'; obtain ⟨A6, q6, rfl, _, _, -⟩ := ho6.bs.at_; obtain ⟨k0, k1⟩ := two_kept3 hb6; obtain ⟨c0, c1, c2, c3, c4, cf⟩ := five_cells k0; obtain ⟨e0, e1, e2, e3, e4, ef⟩ := five_cells k1; have HB6 := Lib.hid hb6; have HO6 := Lib.hid ho6; clear hb6 k0 k1 ho6))
 have h3 := three_new w (.cells (vPq p Ap Ai Au cp ci cu) 28) (.cells #[Value.int .i64 0, Value.int .u8 0, Value.slice none 0 0, Value.slice none 0 0, Value.slice none 0 0] 28) (.cells #[Value.int .i64 6, Value.int .u8 0, Value.slice none 0 0, Value.slice none 0 0, Value.slice none 0 0] 28)
 have hb7 := h3.1.trans (HB6.out.mono (by omega))
 have ho := HO6.out
 have ho : OI w6 (w.heap.size + 1 + 1 + 1) (.slice A6 2 q6) ([0] ++ [0]) := ho
 exact bodyPost_ret (v := .tuple #[.agg #[.int .i64 (p.mode : Int), .int .u8 (p.priv : Int), Value.slice A6 2 q6, Value.slice Ai p.inter.length ci, Value.slice Au p.utf.length cu], .slice none 0 0]) (by simp [results, Tryz.results96, go_sem, e0, e1, e2, e3, e4]) rfl (params_post HSS.out HI.out HU.out hb7 ho)
theorem csir_dig0 (vp vi vu : Value) (p : Pr) (b : UInt8) (S : Nat → Prop) (w : World) (hp : SL vI w S vp p.params) (hi : SL vB w S vi p.inter) (hu : SL vB w S vu p.utf) (hS : ∀ x, S x → x < w.heap.size) (h64 : ¬ 60 ≤ b.toNat) (hB : interB b = false) (hm : p.mode ≠ 5) (h58 : b.toNat ≠ 58) (h59 : b.toNat ≠ 59) (h48 : 48 ≤ b.toNat) (hq : p.params.length = 0) :
  Calls Tryz.prog 96 #[.agg #[.int .i64 (p.mode : Int), .int .u8 (p.priv : Int), vp, vi, vu], .int .u8 (b.toNat : Int)] w (VtPost S ({ p with params := digP (oneP p.params) b.toNat }, []) w) := by
 rw [oneP_none _ hq]
 have HE : Hid (p.params ++ [0] = [0]) := by
  rw [List.eq_nil_of_length_eq_zero hq]
  rfl
 have HP := Lib.hid hp
 have HI := Lib.hid hi
 have HU := Lib.hid hu
 have HSS := Lib.hid hS
 obtain ⟨Ap, cp, rfl, p1, p2⟩ := hp.form
 obtain ⟨Ai, ci, rfl, i1, i2⟩ := hi.form
 obtain ⟨Au, cu, rfl, u1, u2⟩ := hu.form
 clear hp hi hu hS
 have HIB := Lib.hid hB
 clear hB
 have d64 : decide ((64 : Int) ≤ (b.toNat : Int)) = false := by simp; omega
 have d60 : decide ((60 : Int) ≤ (b.toNat : Int)) = false := by simp; omega
 have d5 : ((p.mode : Int) == 5) = false := beq_eq_false_iff_ne.2 (by omega)
 have d58 : ((b.toNat : Int) == 58) = false := beq_eq_false_iff_ne.2 (by omega)
 have d59 : ((b.toNat : Int) == 59) = false := beq_eq_false_iff_ne.2 (by omega)
 have dq : ((p.params.length : Int) == 0) = true := beq_iff_eq.2 (by omega)
 have hq0 : p.params.length ≤ 0 := by omega
 have hb0 : (48 : Int) ≤ (b.toNat : Int) := by omega
 have hb1 : (b.toNat : Int) ≤ 57 := by omega
 have HM : Hid ([((b.toNat : Int) - 48)] = digP [0] b.toNat) := by
  unfold digP
  show [((b.toNat : Int) - 48)] = [min (10 * 0 + ((b.toNat : Int) - 48)) 65535]
  congr 1
  omega
 clear hq hm h58 h59
 go_enter Tryz.func96, Tryz.ntmps96
 go_wp2_with (first
  | (go_at_call 88; refine (interr_any b _).mono ?_; rintro e w' ⟨rfl, rfl⟩; rw [HIB.out])
  | (at_builtin; refine wpl_appI _ rfl (.const (.slice none 0 0)) (.tmp 64) rfl (w.heap.size + 1 + 1 + 1) w.heap.size (.slice none 0 0) (.slice Ap p.params.length cp) [] p.params rfl rfl (OI.nil _ _) ((HP.out.is HSS.out).below (three_new w _ _ _).1) (by simp; omega) (Nat.le_of_eq (three_new w _ _ _).2.symm) ?_; intro v4 w4 ho4 hg4 hb4 _; clear hg4; rw [List.nil_append] at ho4; have z4 := hb4.size; rw [(three_new w _ _ _).2] at z4; obtain ⟨A4, q4, rfl, _, _, -⟩ := ho4.bs.at_)
  | (at_builtin; refine wpl_appI _ rfl (.tmp 69) (.tmp 70) rfl (w.heap.size + 1 + 1 + 1) _ _ _ p.params [0] rfl rfl (ho4.alloc _) (IS.one _ 0 _) (by simp; omega) (by simp; omega) ?_; intro v5 w5 ho5 hg5 hb5' _; clear hg5; rw [HE.out] at ho5; have hb5 := (hb4.alloc z4 _).trans hb5'; have z5 := hb5.size; rw [(three_new w _ _ _).2] at z5; obtain ⟨k0, k1⟩ := two_kept3 hb5; obtain ⟨c0, c1, c2, c3, c4, cf⟩ := five_cells k0; obtain ⟨e0, e1, e2, e3, e4, ef⟩ := five_cells k1; obtain ⟨g, q, rfl, q1, q2, hgg⟩ := ho5.formed (by simp); have ho5 : OI w5 (w.heap.size + 1 + 1 + 1) (.slice (some ⟨g, 0, none⟩) 1 q) [0] := ho5; have cl : w5.cell? ⟨g, 0, none⟩ = some (.int .i64 0) := OI.cellAt (l := [0]) ho5 0 (by simp); have fl := OI.frozenAt (l := [0]) ho5 0; have HB5 := Lib.hid hb5; have HO5 := Lib.hid ho5; have HGG := Lib.hid hgg; have n1 : ¬ g = w.heap.size := (by omega); have n2 : ¬ g = w.heap.size + 1 := (by omega); have n3 : ¬ w.heap.size = g := (by omega); have n4 : ¬ w.heap.size + 1 = g := (by omega); clear hb5 k0 k1 ho5 hgg))
 have h3 := three_new w (.cells (vPq p Ap Ai Au cp ci cu) 28) (.cells #[Value.int .i64 0, Value.int .u8 0, Value.slice none 0 0, Value.slice none 0 0, Value.slice none 0 0] 28) (.cells #[Value.int .i64 6, Value.int .u8 0, Value.slice none 0 0, Value.slice none 0 0, Value.slice none 0 0] 28)
 have hb5 := h3.1.trans ((HB5.out.setCell (p := ⟨g, 0, none⟩) HGG.out (.int .i64 ((b.toNat : Int) - 48))).mono (by omega))
 have ho : OI (w5.setCell ⟨g, 0, none⟩ (.int .i64 ((b.toNat : Int) - 48))) (w.heap.size + 1 + 1 + 1) (.slice (some ⟨g, 0, none⟩) 1 q) [((b.toNat : Int) - 48)] := OI.stored (l := [0]) HO5.out 0 ((b.toNat : Int) - 48)
 rw [HM.out] at ho
 exact bodyPost_ret (v := .tuple #[.agg #[.int .i64 (p.mode : Int), .int .u8 (p.priv : Int), Value.slice (some ⟨g, 0, none⟩) 1 q, Value.slice Ai p.inter.length ci, Value.slice Au p.utf.length cu], .slice none 0 0]) (by simp [results, Tryz.results96, go_sem, e0, e1, e2, e3, e4]) rfl (params_post HSS.out HI.out HU.out hb5 ho)
theorem csir_any (vp vi vu : Value) (p : Pr) (b : UInt8) (S : Nat → Prop) (w : World) (hp : SL vI w S vp p.params) (hi : SL vB w S vi p.inter) (hu : SL vB w S vu p.utf) (hS : ∀ x, S x → x < w.heap.size) (hok : PrOk p) (hb : 32 ≤ b.toNat) :
  Calls Tryz.prog 96 #[.agg #[.int .i64 (p.mode : Int), .int .u8 (p.priv : Int), vp, vi, vu], .int .u8 (b.toNat : Int)] w (VtPost S (csiL p b) w) := by
 have hpl := hok.params
 unfold csiL
 by_cases h64 : 64 ≤ b.toNat
 ·rw [if_pos h64]
  exact csir_fin vp vi vu p b S w hp hi hu hS h64
 rw [if_neg h64]
 cases hB : interB b
 ·rw [if_neg (by simp)]
  by_cases hm : p.mode = 5
  ·rw [if_pos (.inl hm)]
   exact csir_i5 vp vi vu p b S w hp hi hu hS h64 hB hm
  by_cases h58 : b.toNat = 58
  ·rw [if_pos (.inr h58)]
   exact csir_col vp vi vu p b S w hp hi hu hS h64 hB hm h58
  rw [if_neg (by omega)]
  by_cases h60 : 60 ≤ b.toNat
  ·rw [if_pos h60]
   by_cases hq : 0 < p.params.length
   ·rw [if_pos (.inl hq)]
    exact csir_pr1 vp vi vu p b S w hp hi hu hS h64 hB hm h58 h60 hq
   by_cases hv : p.priv = 0
   ·rw [if_neg (by omega)]
    exact csir_pr3 vp vi vu p b S w hp hi hu hS h64 hB hm h58 h60 (by omega) hv
   ·rw [if_pos (.inr hv)]
    exact csir_pr2 vp vi vu p b S w hp hi hu hS h64 hB hm h58 h60 (by omega) hv
  rw [if_neg h60]
  have h48 : 48 ≤ b.toNat := by
   rcases Nat.lt_or_ge b.toNat 48 with h1 | h1
   ·rw [inter_yes b hb (by omega)] at hB
    cases hB
   ·exact h1
  by_cases h59 : b.toNat = 59
  ·rw [if_pos h59]
   by_cases hq : 0 < p.params.length
   ·by_cases h16 : 16 ≤ (oneP p.params).length
    ·rw [if_pos h16]
     rw [oneP_some _ hq] at h16
     exact csir_full vp vi vu p b S w hp hi hu hS h60 hB hm h58 h59 hq h16 (by omega)
    ·rw [if_neg h16]
     rw [oneP_some _ hq] at h16
     exact csir_more vp vi vu p b S w hp hi hu hS h60 hB hm h58 h59 hq (by omega)
   ·rw [if_neg (by rw [oneP_none _ (by omega)]; simp)]
    exact csir_more0 vp vi vu p b S w hp hi hu hS h60 hB hm h58 h59 (by omega)
  ·rw [if_neg h59]
   by_cases hq : 0 < p.params.length
   ·exact csir_dig vp vi vu p b S w hp hi hu hS h60 hB hm h58 h59 h48 hq hpl hok.each
   ·exact csir_dig0 vp vi vu p b S w hp hi hu hS h60 hB hm h58 h59 h48 (by omega)
 ·rw [if_pos rfl]
  by_cases hl : 2 ≤ p.inter.length
  ·rw [if_pos hl]
   exact csir_i2 vp vi vu p b S w hp hi hu hS h64 hB hl
  ·rw [if_neg hl]
   exact csir_int vp vi vu p b S w hp hi hu hS h64 hB (by omega)
end Go.Proofs.YthncoigjfhmldaaGreat
