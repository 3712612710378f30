/- What is proved here: the contract of the document's look of a text; an act out of a slice of acts: its six cells; plain facts on the document's screen: what holds of each screen, but for the halves, stays behind each act and each byte; no program is named. -/
import Derived.Test.YtlolgfgcgfjdjaaGreatDoorS2
import Derived.Test.YtlolgfgcgfjdjaaGreatDoorS3
import Derived.Test.YtlolgfgcgfjdjaaGreatDoorS8
namespace Go.Proofs.YtlolgfgcgfjdjaaGreatDoor
open Go.RowKit
set_option linter.unusedVariables false
set_option linter.unusedSimpArgs false
set_option maxHeartbeats 400000
set_option maxRecDepth 100000
theorem lookT1 : (List.range 4096).all (fun a => bits BinOp.or IntKind.u16 (a : Int) 1 == (lookN a 1 : Int)) = true := by kernel_rfl
theorem lookT4 : (List.range 4096).all (fun a => bits BinOp.or IntKind.u16 (a : Int) 2 == (lookN a 4 : Int)) = true := by kernel_rfl
theorem lookT7 : (List.range 4096).all (fun a => bits BinOp.or IntKind.u16 (a : Int) 4 == (lookN a 7 : Int)) = true := by kernel_rfl
theorem lookT22 : (List.range 4096).all (fun a => bits BinOp.andNot IntKind.u16 (a : Int) 1 == (lookN a 22 : Int)) = true := by kernel_rfl
theorem lookT24 : (List.range 4096).all (fun a => bits BinOp.andNot IntKind.u16 (a : Int) 2 == (lookN a 24 : Int)) = true := by kernel_rfl
theorem lookT27 : (List.range 4096).all (fun a => bits BinOp.andNot IntKind.u16 (a : Int) 4 == (lookN a 27 : Int)) = true := by kernel_rfl
theorem lookT30 : (List.range 4096).all (fun a => bits BinOp.or IntKind.u16 (bits BinOp.andNot IntKind.u16 (a : Int) 240) 16 == (lookN a 30 : Int)) = true := by kernel_rfl
theorem lookT31 : (List.range 4096).all (fun a => bits BinOp.or IntKind.u16 (bits BinOp.andNot IntKind.u16 (a : Int) 240) 32 == (lookN a 31 : Int)) = true := by kernel_rfl
theorem lookT32 : (List.range 4096).all (fun a => bits BinOp.or IntKind.u16 (bits BinOp.andNot IntKind.u16 (a : Int) 240) 48 == (lookN a 32 : Int)) = true := by kernel_rfl
theorem lookT33 : (List.range 4096).all (fun a => bits BinOp.or IntKind.u16 (bits BinOp.andNot IntKind.u16 (a : Int) 240) 64 == (lookN a 33 : Int)) = true := by kernel_rfl
theorem lookT34 : (List.range 4096).all (fun a => bits BinOp.or IntKind.u16 (bits BinOp.andNot IntKind.u16 (a : Int) 240) 80 == (lookN a 34 : Int)) = true := by kernel_rfl
theorem lookT35 : (List.range 4096).all (fun a => bits BinOp.or IntKind.u16 (bits BinOp.andNot IntKind.u16 (a : Int) 240) 96 == (lookN a 35 : Int)) = true := by kernel_rfl
theorem lookT36 : (List.range 4096).all (fun a => bits BinOp.or IntKind.u16 (bits BinOp.andNot IntKind.u16 (a : Int) 240) 112 == (lookN a 36 : Int)) = true := by kernel_rfl
theorem lookT37 : (List.range 4096).all (fun a => bits BinOp.or IntKind.u16 (bits BinOp.andNot IntKind.u16 (a : Int) 240) 128 == (lookN a 37 : Int)) = true := by kernel_rfl
theorem lookT40 : (List.range 4096).all (fun a => bits BinOp.or IntKind.u16 (bits BinOp.andNot IntKind.u16 (a : Int) 3840) 256 == (lookN a 40 : Int)) = true := by kernel_rfl
theorem lookT41 : (List.range 4096).all (fun a => bits BinOp.or IntKind.u16 (bits BinOp.andNot IntKind.u16 (a : Int) 3840) 512 == (lookN a 41 : Int)) = true := by kernel_rfl
theorem lookT42 : (List.range 4096).all (fun a => bits BinOp.or IntKind.u16 (bits BinOp.andNot IntKind.u16 (a : Int) 3840) 768 == (lookN a 42 : Int)) = true := by kernel_rfl
theorem lookT43 : (List.range 4096).all (fun a => bits BinOp.or IntKind.u16 (bits BinOp.andNot IntKind.u16 (a : Int) 3840) 1024 == (lookN a 43 : Int)) = true := by kernel_rfl
theorem lookT44 : (List.range 4096).all (fun a => bits BinOp.or IntKind.u16 (bits BinOp.andNot IntKind.u16 (a : Int) 3840) 1280 == (lookN a 44 : Int)) = true := by kernel_rfl
theorem lookT45 : (List.range 4096).all (fun a => bits BinOp.or IntKind.u16 (bits BinOp.andNot IntKind.u16 (a : Int) 3840) 1536 == (lookN a 45 : Int)) = true := by kernel_rfl
theorem lookT46 : (List.range 4096).all (fun a => bits BinOp.or IntKind.u16 (bits BinOp.andNot IntKind.u16 (a : Int) 3840) 1792 == (lookN a 46 : Int)) = true := by kernel_rfl
theorem lookT47 : (List.range 4096).all (fun a => bits BinOp.or IntKind.u16 (bits BinOp.andNot IntKind.u16 (a : Int) 3840) 2048 == (lookN a 47 : Int)) = true := by kernel_rfl
theorem lookU {f : Nat → Bool} (h : (List.range 4096).all f = true) (a : Nat) (ha : a < 4096) : f a = true := (List.all_eq_true.1 h) a (List.mem_range.2 ha)
theorem lookN_ok (a : Nat) (k : Int) (h : attrB a = true) : attrB (lookN a k) = true := by
 simp only [attrB, Bool.and_eq_true, decide_eq_true_eq] at h ⊢
 unfold lookN
 repeat' split
 all_goals omega
theorem attrB_lt {a : Nat} (h : attrB a = true) : a < 4096 := by
 simp only [attrB, Bool.and_eq_true, decide_eq_true_eq] at h
 omega
end Go.Proofs.YtlolgfgcgfjdjaaGreatDoor

namespace Go.Proofs.YtlolgfgcgfjdjaaGreatDoor
open Go.RowKit
set_option linter.unusedVariables false
set_option linter.unusedSimpArgs false
set_option maxHeartbeats 400000
set_option maxRecDepth 100000
theorem SL.get {α : Type} {f : α → Value} {w : World} {S : Nat → Prop} {A : Option Addr} {n c : Nat} {l : List α} (h : SL f w S (.slice A n c) l) (k : Nat) (x : α) (hx : l[k]? = some x) : ∃ ad, A = some ad ∧ w.cell? (ad.add k) = some (f x) := by
 obtain ⟨A', c', hv, _, _, h3⟩ := h
 simp only [Value.slice.injEq] at hv
 have hk : k < l.length := (List.getElem?_eq_some_iff.1 hx).1
 obtain ⟨ad, hA, _, hc⟩ := h3 (by omega)
 exact ⟨ad, hv.1.trans hA, hc k x hx⟩
theorem AcsV.get {w : World} {S : Nat → Prop} {xs : List Value} {l : List Ac} (h : AcsV w S xs l) (k : Nat) (a : Ac) (ha : l[k]? = some a) : ∃ vp vi, SL vI w S vp a.params ∧ SL vB w S vi a.inter ∧ ∀ i u, [Value.int .i64 (a.kind : Int), .int .i32 a.r, .int .u8 (a.b : Int), .int .u8 (a.priv : Int), vp, vi][i]? = some u → xs[k * 6 + i]? = some u := by
 induction k generalizing xs l with
 | zero =>
  match l, h, ha with
  | x :: l, h, ha =>
   simp only [List.getElem?_cons_zero, Option.some.injEq] at ha
   subst ha
   obtain ⟨vp, vi, ys, hx, h1, h2, h3⟩ := h
   refine ⟨vp, vi, h1, h2, fun i u hu => ?_⟩
   rw [hx, Nat.zero_mul, Nat.zero_add]
   have hi := (List.getElem?_eq_some_iff.1 hu).1
   rw [List.getElem?_append_left hi]
   exact hu
 | succ k ih =>
  match l, h, ha with
  | x :: l, h, ha =>
   obtain ⟨vp, vi, ys, hx, h1, h2, h3⟩ := h
   obtain ⟨vp', vi', g1, g2, g3⟩ := ih h3 (by simpa using ha)
   refine ⟨vp', vi', g1, g2, fun i u hu => ?_⟩
   rw [hx, List.getElem?_append_right (by simp; omega), ← g3 i u hu]
   congr 1
   simp
   omega
theorem add_at (ad : Addr) (n i : Nat) (hi : 0 < i) : ad.add (n + i) = ⟨(ad.add n).block, (ad.add n).off + i, none⟩ := by
 unfold Addr.add
 rw [if_neg (by omega)]
 split
 ·next h => subst h; simp
 ·simp [Nat.add_assoc]
def SixAt (w : World) (xa : Addr) (a : Ac) (vp vi : Value) : Prop :=
 w.cell? xa = some (.int .i64 (a.kind : Int)) ∧ w.cell? ⟨xa.block, xa.off + 1, none⟩ = some (.int .i32 a.r) ∧ w.cell? ⟨xa.block, xa.off + 2, none⟩ = some (.int .u8 (a.b : Int)) ∧ w.cell? ⟨xa.block, xa.off + 3, none⟩ = some (.int .u8 (a.priv : Int)) ∧ w.cell? ⟨xa.block, xa.off + 4, none⟩ = some vp ∧ w.cell? ⟨xa.block, xa.off + 5, none⟩ = some vi
theorem AS.get {w : World} {T S : Nat → Prop} {A : Option Addr} {n c : Nat} {l : List Ac} (h : AS w T S (.slice A n c) l) (k : Nat) (a : Ac) (ha : l[k]? = some a) :
  ∃ ad vp vi, A = some ad ∧ T (ad.add (k * 6)).block ∧ SL vI w S vp a.params ∧ SL vB w S vi a.inter ∧ SixAt w (ad.add (k * 6)) a vp vi := by
 obtain ⟨A', c', xs, hv, _, _, h3, h4⟩ := h
 simp only [Value.slice.injEq] at hv
 have hk : k < l.length := (List.getElem?_eq_some_iff.1 ha).1
 obtain ⟨ad, hA, hT, hc⟩ := h4 (by omega)
 obtain ⟨vp, vi, g1, g2, g3⟩ := h3.get k a ha
 refine ⟨ad, vp, vi, hv.1.trans hA, by rw [block_add]; exact hT, g1, g2, hc _ _ (g3 0 _ rfl), ?_, ?_, ?_, ?_, ?_⟩
 ·rw [← add_at _ _ _ (by omega)]; exact hc _ _ (g3 1 _ rfl)
 ·rw [← add_at _ _ _ (by omega)]; exact hc _ _ (g3 2 _ rfl)
 ·rw [← add_at _ _ _ (by omega)]; exact hc _ _ (g3 3 _ rfl)
 ·rw [← add_at _ _ _ (by omega)]; exact hc _ _ (g3 4 _ rfl)
 ·rw [← add_at _ _ _ (by omega)]; exact hc _ _ (g3 5 _ rfl)
end Go.Proofs.YtlolgfgcgfjdjaaGreatDoor

namespace Go.Proofs.YtlolgfgcgfjdjaaGreatDoor
set_option linter.unusedVariables false
set_option linter.unusedSimpArgs false
set_option maxHeartbeats 400000
set_option maxRecDepth 100000
theorem GOk.mk' {r c : Nat} (r1 : 1 ≤ r) (r2 : r ≤ 1000) (c1 : 1 ≤ c) (c2 : c ≤ 1000) : GOk (r * c) r c := ⟨c1, c2, r1, r2, rfl⟩
theorem blankL_len (r c : Nat) (r1 : 1 ≤ r) (r2 : r ≤ 1000) (c1 : 1 ≤ c) (c2 : c ≤ 1000) : (blankL (r : Int) (c : Int)).length = r * c := by
 unfold blankL
 rw [if_pos (by unfold sizeOk; rw [decide_eq_true_eq]; omega)]
 simp
theorem newS_in (r c : Nat) (r1 : 1 ≤ r) (r2 : r ≤ 1000) (c1 : 1 ≤ c) (c2 : c ≤ 1000) : ScIn (newS r c) r c where
 rows := rfl
 cols := rfl
 g := by show GOk (blankL (r : Int) (c : Int)).length r c; rw [blankL_len r c r1 r2 c1 c2]; exact GOk.mk' r1 r2 c1 c2
 cells := blankL_ok _ _
 y0 := Int.le_refl _
 y1 := by show (0 : Int) < r; omega
 x0 := Int.le_refl _
 x1 := by show (0 : Int) < c; omega
 wrap := fun e => by cases e
 attr := (by show attrB 0 = true; decide)
 t0 := Int.le_refl _
 t1 := by show (0 : Int) ≤ (r : Int) - 1; omega
 b1 := by show (r : Int) - 1 < r; omega
 tb := by show (0 : Int) < (r : Int) - 1 ∨ r = 1; omega
 tabs := by show (newTabs (c : Int).toNat).length = c; simp [newTabs]
 sy0 := Int.le_refl _
 sy1 := by show (0 : Int) < r; omega
 sx0 := Int.le_refl _
 sx1 := by show (0 : Int) < c; omega
 sattr := (by show attrB 0 = true; decide)
 other := fun e => by cases e
 noAlt := fun _ => ⟨rfl, rfl, rfl⟩
 oy0 := Int.le_refl _
 oy1 := by show (0 : Int) < r; omega
 ox0 := Int.le_refl _
 ox1 := by show (0 : Int) < c; omega
 p := prM_ok 0 (by omega) (by omega) (by omega)
theorem toS_in {s : Sc} {r c : Nat} (h : ScIn s r c) (y x : Int) : ScIn (toS s y x) r c := by
 have e1 := h.rows
 have e2 := h.cols
 have e3 := h.g.r1
 have e4 := h.g.c1
 exact h.at_ _ _ (by omega) (by omega) (by omega) (by omega)
theorem tabX_bd {s : Sc} {r c : Nat} (h : ScIn s r c) : 0 ≤ tabX s ∧ tabX s < c := by
 have e2 := h.cols
 have e4 := h.g.c1
 unfold tabX
 omega
theorem controlS_in {s : Sc} {r c : Nat} (h : ScIn s r c) (b : Nat) : ScIn (controlS s b) r c := by
 have x0 := h.x0
 have x1 := h.x1
 have y0 := h.y0
 have y1 := h.y1
 have c1 := h.g.c1
 have ht := tabX_bd h
 unfold controlS
 split
 ·exact { h with wrap := (fun e => by cases e), x0 := (by show 0 ≤ max (s.x - 1) 0; omega), x1 := (by show max (s.x - 1) 0 < (c : Int); omega) }
 split
 ·exact { h with wrap := (fun e => by cases e), x0 := ht.1, x1 := ht.2 }
 split
 ·exact downS_in h
 split
 ·exact { h with wrap := (fun e => by cases e), x0 := Int.le_refl _, x1 := (by show (0 : Int) < c; omega) }
 ·exact h
theorem escapeS_in {s : Sc} {r c : Nat} (h : ScIn s r c) (b : Nat) : ScIn (escapeS s b) r c := by
 have y0 := h.y0
 have y1 := h.y1
 unfold escapeS
 split
 ·exact { h with sy0 := h.y0, sy1 := h.y1, sx0 := h.x0, sx1 := h.x1, sattr := h.attr }
 split
 ·exact { h with wrap := (fun e => by cases e), y0 := h.sy0, y1 := h.sy1, x0 := h.sx0, x1 := h.sx1, attr := h.sattr }
 split
 ·exact downS_in h
 split
 ·exact crS_in h
 split
 ·split
  ·exact h.noWrap.cells_ _ (downL_len _ _ _ _ _) (downL_ok h.cells _ _ _ _)
  ·split
   ·exact { h with wrap := (fun e => by cases e), y0 := (by show 0 ≤ s.y - 1; omega), y1 := (by show s.y - 1 < (r : Int); omega) }
   ·exact h.noWrap
 split
 ·exact { h with tabs := (by show (s.tabs.set s.x.toNat true).length = c; rw [List.length_set]; exact h.tabs) }
 split
 ·rw [h.rows, h.cols]
  exact newS_in r c h.g.r1 h.g.r2 h.g.c1 h.g.c2
 ·exact h
theorem modeS_in {s : Sc} {r c : Nat} (h : ScIn s r c) (k : Int) (on : Bool) : ScIn (modeS s k on) r c := by
 have e3 := h.g.r1
 have e4 := h.g.c1
 unfold modeS
 split
 ·exact { h with }
 split
 ·exact { h with }
 split
 ·have hb : (blankL s.rows s.cols).length = r * c := by rw [h.rows, h.cols]; exact blankL_len r c h.g.r1 h.g.r2 h.g.c1 h.g.c2
  exact { h with g := (by show GOk (blankL s.rows s.cols).length r c; rw [hb]; exact GOk.mk' h.g.r1 h.g.r2 h.g.c1 h.g.c2), cells := blankL_ok _ _, wrap := (fun e => by cases e), other := (fun _ => ⟨h.g, h.cells⟩), noAlt := (fun e => by cases e), oy0 := h.y0, oy1 := h.y1, ox0 := h.x0, ox1 := h.x1 }
 split
 ·rename_i hc
  have ho := h.other hc.2.2
  exact { h with g := ho.1, cells := ho.2, y0 := h.oy0, y1 := h.oy1, x0 := h.ox0, x1 := h.ox1, wrap := (fun e => by cases e), other := (fun e => by cases e), noAlt := (fun _ => ⟨rfl, rfl, rfl⟩), oy0 := Int.le_refl _, oy1 := (by show (0 : Int) < r; omega), ox0 := Int.le_refl _, ox1 := (by show (0 : Int) < c; omega) }
 ·exact h
theorem eraseS_in {s : Sc} {r c : Nat} (h : ScIn s r c) (row : Bool) (k : Int) : ScIn (eraseS s row k) r c := by
 unfold eraseS
 split
 ·exact h.noWrap
 ·exact h.noWrap.cells_ _ (by rw [mendL_len, fillL_len]) (mendL_ok (fill_ok h.cells (fun _ => blankC_ok)) _ _)
theorem foldl_look_ok (l : List Int) (a : Nat) (h : attrB a = true) : attrB (l.foldl lookN a) = true := by
 induction l generalizing a with
 | nil => exact h
 | cons x l ih => exact ih _ (lookN_ok a x h)
theorem paramL_one (l : List Int) (h : ∀ x ∈ l, 0 ≤ x ∧ x ≤ 65535) : 1 ≤ paramL l 0 1 := by
 unfold paramL
 split
 ·exact Int.le_refl _
 ·rename_i hne
  have hm : 0 ≤ l.getD 0 0 := by
   unfold List.getD
   cases hx : l[0]? with
   | none => exact Int.le_refl _
   | some x => exact (h x (List.mem_of_getElem? hx)).1
  omega
theorem seqS_in {s : Sc} {r c : Nat} (h : ScIn s r c) (b : Nat) (l : List Int) (hl : ∀ x ∈ l, 0 ≤ x ∧ x ≤ 65535) : ScIn (seqS s b l) r c := by
 have n1 := paramL_one l hl
 have rr := h.rows
 have c1 := h.g.c1
 have x0 := h.x0
 unfold seqS
 dsimp only
 by_cases c101 : b = 65
 ·rw [if_pos c101]
  exact toS_in h _ _
 rw [if_neg c101]
 by_cases c102 : b = 66
 ·rw [if_pos c102]
  exact toS_in h _ _
 rw [if_neg c102]
 by_cases c103 : b = 67
 ·rw [if_pos c103]
  exact toS_in h _ _
 rw [if_neg c103]
 by_cases c104 : b = 68
 ·rw [if_pos c104]
  exact toS_in h _ _
 rw [if_neg c104]
 by_cases c105 : b = 71 ∨ b = 96
 ·rw [if_pos c105]
  exact toS_in h _ _
 rw [if_neg c105]
 by_cases c106 : b = 100
 ·rw [if_pos c106]
  exact toS_in h _ _
 rw [if_neg c106]
 by_cases c107 : b = 72 ∨ b = 102
 ·rw [if_pos c107]
  exact toS_in h _ _
 rw [if_neg c107]
 by_cases c108 : b = 74
 ·rw [if_pos c108]
  exact eraseS_in h _ _
 rw [if_neg c108]
 by_cases c109 : b = 75
 ·rw [if_pos c109]
  exact eraseS_in h _ _
 rw [if_neg c109]
 by_cases c110 : b = 76
 ·rw [if_pos c110]
  by_cases hy : s.top ≤ s.y ∧ s.y ≤ s.bottom
  ·rw [if_pos hy]
   exact { h.cells_ _ (downL_len s.cells s.cols s.y s.bottom (paramL l 0 1)) (downL_ok h.cells _ _ _ _) with wrap := (fun e => by cases e), x0 := Int.le_refl _, x1 := (by show (0 : Int) < c; omega) }
  ·rw [if_neg hy]; exact h.noWrap
 rw [if_neg c110]
 by_cases c111 : b = 77
 ·rw [if_pos c111]
  by_cases hy : s.top ≤ s.y ∧ s.y ≤ s.bottom
  ·rw [if_pos hy]
   exact { h.cells_ _ (upL_len s.cells s.cols s.y s.bottom (paramL l 0 1)) (upL_ok h.cells _ _ _ _) with wrap := (fun e => by cases e), x0 := Int.le_refl _, x1 := (by show (0 : Int) < c; omega) }
  ·rw [if_neg hy]; exact h.noWrap
 rw [if_neg c111]
 by_cases c112 : b = 64
 ·rw [if_pos c112]
  exact h.noWrap.cells_ _ (insertL_len _ _ _ _ _) (insertL_ok h.cells _ _ _ _)
 rw [if_neg c112]
 by_cases c113 : b = 80
 ·rw [if_pos c113]
  exact h.noWrap.cells_ _ (deleteL_len _ _ _ _ _) (deleteL_ok h.cells _ _ _ _)
 rw [if_neg c113]
 by_cases c114 : b = 88
 ·rw [if_pos c114]
  exact h.noWrap.cells_ _ (eraseL_len _ _ _ _ _) (eraseL_ok h.cells _ _ _ _)
 rw [if_neg c114]
 by_cases c115 : b = 83
 ·rw [if_pos c115]
  exact h.noWrap.cells_ _ (upL_len _ _ _ _ _) (upL_ok h.cells _ _ _ _)
 rw [if_neg c115]
 by_cases c116 : b = 84
 ·rw [if_pos c116]
  exact h.noWrap.cells_ _ (downL_len _ _ _ _ _) (downL_ok h.cells _ _ _ _)
 rw [if_neg c116]
 by_cases c117 : b = 114
 ·rw [if_pos c117]
  by_cases hc : paramL l 0 1 - 1 < min (paramL l 1 s.rows) s.rows - 1
  ·rw [if_pos hc]
   have ht := toS_in h 0 0
   exact { ht with t0 := (by show 0 ≤ paramL l 0 1 - 1; omega), t1 := (by show paramL l 0 1 - 1 ≤ min (paramL l 1 s.rows) s.rows - 1; omega), b1 := (by show min (paramL l 1 s.rows) s.rows - 1 < (r : Int); omega), tb := (.inl hc) }
  ·rw [if_neg hc]; exact h
 rw [if_neg c117]
 by_cases c118 : b = 103
 ·rw [if_pos c118]
  by_cases g0 : paramL l 0 0 = 0
  ·rw [if_pos g0]
   exact { h with tabs := (by show (s.tabs.set s.x.toNat false).length = c; rw [List.length_set]; exact h.tabs) }
  rw [if_neg g0]
  by_cases g3 : paramL l 0 0 = 3
  ·rw [if_pos g3]
   exact { h with tabs := (by show (List.replicate s.cols.toNat false).length = c; rw [List.length_replicate, h.cols]; simp) }
  rw [if_neg g3]
  exact h
 rw [if_neg c118]
 by_cases c119 : b = 109
 ·rw [if_pos c119]
  refine { h with attr := ?_ }
  show attrB (if l.length = 0 then 0 else l.foldl lookN s.attr) = true
  by_cases hl0 : l.length = 0
  ·rw [if_pos hl0]; decide
  ·rw [if_neg hl0]; exact foldl_look_ok l s.attr h.attr
 rw [if_neg c119]
 exact h
theorem set_ok {l : List Cl} (h : ∀ x ∈ l, cellB x = true) (i : Nat) (c : Cl) (hc : cellB c = true) : ∀ x ∈ l.set i c, cellB x = true := fun x hx => by
 rcases List.mem_or_eq_of_mem_set hx with h1 | h1
 ·exact h x h1
 ·rw [h1]; exact hc
theorem putS_in {s : Sc} {r c : Nat} (h : ScIn s r c) (rn : Int) (w : Int) (hw : w = 1 ∨ (w = 2 ∧ s.x + 1 < s.cols)) (hr : mayR rn = true) (hr0 : rn ≠ 0) : ScIn (putS s rn w) r c := by
 have x0 := h.x0
 have x1 := h.x1
 have e2 := h.cols
 have c1 := h.g.c1
 have ha := h.attr
 have hc1 : ∀ x ∈ cells1 s rn, cellB x = true := set_ok h.cells _ _ (by unfold cellB; simp [hr, ha, hr0])
 have hc2 : ∀ x ∈ cells2 s rn, cellB x = true := set_ok (set_ok h.cells _ _ (by unfold cellB; simp [hr, ha, hr0])) _ _ (by unfold cellB; simp [ha]; decide)
 have hl1 : (cells1 s rn).length = s.cells.length := by simp [cells1]
 have hl2 : (cells2 s rn).length = s.cells.length := by simp [cells2]
 have hcs : ScIn { s with cells := mendL (if w = 2 then cells2 s rn else cells1 s rn) s.cols s.y } r c := by
  by_cases h2 : w = 2
  ·rw [if_pos h2]; exact h.cells_ _ (by rw [mendL_len, hl2]) (mendL_ok hc2 _ _)
  ·rw [if_neg h2]; exact h.cells_ _ (by rw [mendL_len, hl1]) (mendL_ok hc1 _ _)
 unfold putS
 by_cases he : s.cols ≤ s.x + w
 ·rw [if_pos he]
  exact { hcs with wrap := (fun _ => by show s.cols - 1 = (c : Int) - 1; omega), x0 := (by show 0 ≤ s.cols - 1; omega), x1 := (by show s.cols - 1 < (c : Int); omega) }
 ·rw [if_neg he]
  have hnw : s.wrap = true → False := fun e => by have := h.wrap e; omega
  exact { hcs with wrap := (fun e => (hnw e).elim), x0 := (by show 0 ≤ s.x + w; omega), x1 := (by show s.x + w < (c : Int); omega) }
end Go.Proofs.YtlolgfgcgfjdjaaGreatDoor
