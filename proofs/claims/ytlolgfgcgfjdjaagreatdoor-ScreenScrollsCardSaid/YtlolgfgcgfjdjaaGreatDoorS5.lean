/- What is proved here: a contract of the document's function that takes a byte, where the byte breaks off what is pending: in new memory, or in its argument's; words for slices of cells in memory over this translation (a slice that reads as a list of cells; a row of cells of the call's own), how they are kept, what append makes of them, what a store makes of them; contracts of the document's small functions on grids of cells: a blank cell, a copy, which rows a grid has, which places it has; the contract of the document's Blank: a grid of blanks, of each size that may be; the contract of the document's Up; the contracts of the document's Mend (any arguments), Insert, Delete, Erase; words for screens in memory over this translation: a screen's value, how it is kept, how a whole one is loaded and stored. -/
import Derived.Test.YtlolgfgcgfjdjaaGreatDoorS4
import Derived.Deep.RegionLaw
import Derived.OneCell
import Derived.Test.YtlolgfgcgfjdjaaGreatDoorS1
import Derived.Test.YtlolgfgcgfjdjaaGreatDoorS2
import Derived.Deep.QuietTactic
import Derived.BigQuiet
import Derived.Deep.DeepCutAuto
import Derived.Deep.CutRange
import Derived.Deep.WholeRow
import Derived.Laws.ResultCell
namespace Go.Proofs.YtlolgfgcgfjdjaaGreatDoor
open Go.RowKit
set_option linter.unusedVariables false
set_option linter.unusedSimpArgs false
set_option maxHeartbeats 400000
set_option maxRecDepth 100000
theorem OA.set {w : World} {base : Nat} {v u : Value} {l : List Ac} {a : Addr} (h : OA w base (fun _ => False) v l) (hne : a.block < base) : OA (w.setCell a u) base (fun _ => False) v l := by
 obtain ⟨xs, h1, h2, h3⟩ := h
 exact ⟨xs, ownsRow_setCell_other h1 (fun e => by have := (World.ownsRow.lt h1 _ e).1; omega) u, h2.keep (fun _ hf => hf.elim), h3⟩
end Go.Proofs.YtlolgfgcgfjdjaaGreatDoor

namespace Go.Proofs.YtlolgfgcgfjdjaaGreatDoor
open Go.RowKit
set_option linter.unusedVariables false
set_option linter.unusedSimpArgs false
set_option maxHeartbeats 400000
set_option maxRecDepth 100000
def vC (c : Cl) : List Value := [.int .i32 c.r, .int .u16 (c.a : Int), .int .u8 (c.h : Int)]
def vCs (l : List Cl) : List Value := l.flatMap vC
def aC (c : Cl) : Value := .agg #[.int .i32 c.r, .int .u16 (c.a : Int), .int .u8 (c.h : Int)]
theorem vCs_len (l : List Cl) : (vCs l).length = l.length * 3 := by
 induction l with
 | nil => rfl
 | cons c l ih => simp only [vCs, List.flatMap_cons, List.length_append] at ih ⊢; rw [ih]; simp [vC]; omega
theorem vCs_app (l m : List Cl) : vCs (l ++ m) = vCs l ++ vCs m := by simp [vCs, List.flatMap_append]
theorem vCs_get (l : List Cl) (k : Nat) (c : Cl) (h : l[k]? = some c) : (vCs l)[k * 3]? = some (.int .i32 c.r) ∧ (vCs l)[k * 3 + 1]? = some (.int .u16 (c.a : Int)) ∧ (vCs l)[k * 3 + 2]? = some (.int .u8 (c.h : Int)) := by
 induction l generalizing k with
 | nil => simp at h
 | cons d l ih =>
  have e : vCs (d :: l) = vC d ++ vCs l := rfl
  rw [e]
  match k, h with
  | 0, h =>
   simp at h
   subst h
   simp [vC]
  | k + 1, h =>
   have h' : l[k]? = some c := by simpa using h
   obtain ⟨a1, a2, a3⟩ := ih k h'
   have hl : (vC d).length = 3 := rfl
   rw [List.getElem?_append_right (by omega), List.getElem?_append_right (by omega), List.getElem?_append_right (by omega), hl]
   rw [show (k + 1) * 3 - 3 = k * 3 by omega, show (k + 1) * 3 + 1 - 3 = k * 3 + 1 by omega, show (k + 1) * 3 + 2 - 3 = k * 3 + 2 by omega]
   exact ⟨a1, a2, a3⟩
theorem vCs_set (l : List Cl) (k : Nat) (c : Cl) (h : k < l.length) : vCs (l.set k c) = (((vCs l).set (k * 3) (.int .i32 c.r)).set (k * 3 + 1) (.int .u16 (c.a : Int))).set (k * 3 + 2) (.int .u8 (c.h : Int)) := by
 induction l generalizing k with
 | nil => simp at h
 | cons d l ih =>
  match k, h with
  | 0, h => simp [vCs, vC]
  | k + 1, h =>
   have e : vCs ((d :: l).set (k + 1) c) = vC d ++ vCs (l.set k c) := by simp [vCs]
   have e2 : vCs (d :: l) = vC d ++ vCs l := rfl
   rw [e, ih k (by simpa using h), e2]
   have hl : (vC d).length = 3 := rfl
   rw [List.set_append_right _ _ (by omega), List.set_append_right _ _ (by omega), List.set_append_right _ _ (by omega), hl]
   rw [show (k + 1) * 3 - 3 = k * 3 by omega, show (k + 1) * 3 + 1 - 3 = k * 3 + 1 by omega, show (k + 1) * 3 + 2 - 3 = k * 3 + 2 by omega]
theorem vCs_one (l : List Cl) : ∀ u ∈ vCs l, u.oneCell' = true := by
 intro u hu
 unfold vCs at hu
 rw [List.mem_flatMap] at hu
 obtain ⟨c, _, hc⟩ := hu
 simp only [vC, List.mem_cons, List.not_mem_nil, or_false] at hc
 rcases hc with rfl | rfl | rfl <;> rfl
def ThreeAt (w : World) (xa : Addr) (c : Cl) : Prop :=
 w.cell? xa = some (.int .i32 c.r) ∧ w.cell? ⟨xa.block, xa.off + 1, none⟩ = some (.int .u16 (c.a : Int)) ∧ w.cell? ⟨xa.block, xa.off + 2, none⟩ = some (.int .u8 (c.h : Int))
theorem add_at3 (ad : Addr) (n i : Nat) (hi : 0 < i) : ad.add (n + i) = ⟨(ad.add n).block, (ad.add n).off + i, none⟩ := by
 unfold Addr.add
 rw [if_neg (by omega)]
 split
 ·next h => subst h; simp
 ·simp [Nat.add_assoc]
theorem ThreeAt.keep {w w' : World} {xa : Addr} {c : Cl} (h : ThreeAt w xa c) (hk : ∀ p : Addr, p.block = xa.block → w'.cell? p = w.cell? p) : ThreeAt w' xa c :=
 ⟨(hk xa rfl).trans h.1, (hk ⟨xa.block, xa.off + 1, none⟩ rfl).trans h.2.1, (hk ⟨xa.block, xa.off + 2, none⟩ rfl).trans h.2.2⟩
def OC (w : World) (base : Nat) (v : Value) (l : List Cl) : Prop := w.ownsRow base 50 3 v l.length (vCs l)
def CS (w : World) (B : Nat) (v : Value) (l : List Cl) : Prop :=
 ∃ A c, v = .slice A l.length c ∧ l.length ≤ c ∧ c ≤ maxLen ∧
  (0 < l.length → ∃ ad, A = some ad ∧ ad.block < B ∧ ∀ j b, l[j]? = some b → ThreeAt w (ad.add (j * 3)) b)
section
variable {w w' : World} {B B' base : Nat} {v : Value} {l : List Cl}
theorem CS.keep (h : CS w B v l) (hk : ∀ p : Addr, p.block < B → w'.cell? p = w.cell? p) : CS w' B v l := by
 obtain ⟨A, c, hv, h1, h2, h3⟩ := h
 refine ⟨A, c, hv, h1, h2, fun hl => ?_⟩
 obtain ⟨ad, hA, hb, hc⟩ := h3 hl
 exact ⟨ad, hA, hb, fun j b hj => (hc j b hj).keep fun p hp => hk p (by rw [hp, block_add]; exact hb)⟩
theorem CS.below (h : CS w B v l) (hb : Below B w w') : CS w' B v l := h.keep fun _ hp => hb.cell hp
theorem CS.more (h : CS w B v l) (hB : B ≤ B') : CS w B' v l := by
 obtain ⟨A, c, hv, h1, h2, h3⟩ := h
 refine ⟨A, c, hv, h1, h2, fun hl => ?_⟩
 obtain ⟨ad, hA, hb, hc⟩ := h3 hl
 exact ⟨ad, hA, by omega, hc⟩
theorem CS.alloc (h : CS w B v l) (hB : B ≤ w.heap.size) (o : Obj) : CS (w.alloc o) B v l := h.keep fun p hp => World.cell?_alloc_lt w o p (by omega)
theorem CS.nil (w : World) (B : Nat) : CS w B (.slice none 0 0) [] := ⟨none, 0, rfl, by simp, by simp [maxLen], fun h => absurd h (by simp)⟩
theorem CS.form (h : CS w B v l) : ∃ A c, v = .slice A l.length c ∧ l.length ≤ c ∧ c ≤ 9223372036854775807 := by
 obtain ⟨A, c, hv, h1, h2, _⟩ := h
 unfold maxLen at h2
 exact ⟨A, c, hv, h1, by omega⟩
theorem CS.get {A : Option Addr} {n c : Nat} (h : CS w B (.slice A n c) l) (k : Nat) (x : Cl) (hx : l[k]? = some x) : ∃ ad, A = some ad ∧ ad.block < B ∧ ThreeAt w (ad.add (k * 3)) x := by
 obtain ⟨A', c', hv, _, _, h3⟩ := h
 simp only [Value.slice.injEq] at hv
 have hk : k < l.length := (List.getElem?_eq_some_iff.1 hx).1
 obtain ⟨ad, hA, hb, hc⟩ := h3 (by omega)
 exact ⟨ad, hv.1.trans hA, hb, hc k x hx⟩
theorem OC.nil (w : World) (base : Nat) : OC w base (.slice none 0 0) [] := World.ownsRow_nil w base _ _
theorem OC.alloc (h : OC w base v l) (o : Obj) : OC (w.alloc o) base v l := World.ownsRow.alloc h o
theorem OC.below (h : OC w base v l) (hb : Below w.heap.size w w') : OC w' base v l := by
 have hg : w.grownBy w' none := ⟨hb.os, hb.tape, hb.output, hb.size, fun i hi _ => hb.block i hi⟩
 unfold OC at h ⊢
 refine h.kept hg ?_
 cases hv : v.ownBlock with
 | none => exact Or.inl rfl
 | some k => exact Or.inr (by simp)
theorem OC.cs (h : OC w base v l) : CS w w.heap.size v l := by
 unfold OC at h
 rcases h.2 with ⟨rfl, hn⟩ | ⟨g, cap, cur, rfl, hbg, hg, hnc, hcm, hcs, htake⟩
 ·have : l = [] := List.eq_nil_of_length_eq_zero hn
  subst this
  exact CS.nil w _
 ·have hlt : g < w.heap.size := by
   rcases Nat.lt_or_ge g w.heap.size with hh | hh
   ·exact hh
   ·rw [Array.getElem?_eq_none hh] at hg; cases hg
  refine ⟨_, cap, rfl, hnc, hcm, fun _ => ⟨_, rfl, hlt, fun j b hj => ?_⟩⟩
  obtain ⟨e0, e1, e2⟩ := vCs_get l j b hj
  refine ⟨h.cells (g := g) rfl _ _ e0, ?_, ?_⟩
  ·rw [← add_at3 _ _ _ (by omega)]; exact h.cells (g := g) rfl _ _ e1
  ·rw [← add_at3 _ _ _ (by omega)]; exact h.cells (g := g) rfl _ _ e2
theorem OC.lower {b2 : Nat} (h : OC w base v l) (hb : b2 ≤ base) : OC w b2 v l := by
 obtain ⟨a1, a2⟩ := h
 refine ⟨a1, ?_⟩
 rcases a2 with a2 | ⟨g, cap, cur, hv, hg, hr⟩
 ·exact .inl a2
 ·exact .inr ⟨g, cap, cur, hv, Nat.le_trans hb hg, hr⟩
theorem OC.open_ (h : OC w base v l) (hl : 0 < l.length) : ∃ g cap, v = .slice (some ⟨g, 0, none⟩) l.length cap ∧ base ≤ g ∧ g < w.heap.size ∧ l.length ≤ cap ∧ cap ≤ 9223372036854775807 := by
 have hh := h
 unfold OC at h
 rcases h.2 with ⟨rfl, hn⟩ | ⟨g, cap, cur, rfl, hbg, hg, hnc, hcm, hcs, htake⟩
 ·omega
 ·unfold maxLen at hcm
  exact ⟨g, cap, rfl, hbg, (World.ownsRow.lt hh g rfl).2, hnc, by omega⟩
end
section
variable {w : World} {base g n cap : Nat} {l : List Cl}
theorem OC.threeAt (h : OC w base (.slice (some ⟨g, 0, none⟩) l.length cap) l) (k : Nat) (c : Cl) (hc : l[k]? = some c) : w.cell? ⟨g, k * 3, none⟩ = some (.int .i32 c.r) ∧ w.cell? ⟨g, k * 3 + 1, none⟩ = some (.int .u16 (c.a : Int)) ∧ w.cell? ⟨g, k * 3 + 2, none⟩ = some (.int .u8 (c.h : Int)) := by
 obtain ⟨e0, e1, e2⟩ := vCs_get l k c hc
 have hk : k < l.length := (List.getElem?_eq_some_iff.1 hc).1
 unfold OC at h
 exact ⟨(World.ownsRow.cellAt h _ (by omega)).trans e0, (World.ownsRow.cellAt h _ (by omega)).trans e1, (World.ownsRow.cellAt h _ (by omega)).trans e2⟩
theorem OC.frozenAt (h : OC w base (.slice (some ⟨g, 0, none⟩) l.length cap) l) (j : Nat) : w.frozen? ⟨g, j, none⟩ = false := World.ownsRow.frozenAt h j
theorem OC.stored (h : OC w base (.slice (some ⟨g, 0, none⟩) l.length cap) l) (k : Nat) (hk : k < l.length) (c : Cl) :
  OC (((w.setCell ⟨g, k * 3, none⟩ (.int .i32 c.r)).setCell ⟨g, k * 3 + 1, none⟩ (.int .u16 (c.a : Int))).setCell ⟨g, k * 3 + 2, none⟩ (.int .u8 (c.h : Int))) base (.slice (some ⟨g, 0, none⟩) l.length cap) (l.set k c) := by
 have := (World.ownsRow.stored (World.ownsRow.stored (World.ownsRow.stored h (k * 3) (.int .i32 c.r)).1 (k * 3 + 1) (.int .u16 (c.a : Int))).1 (k * 3 + 2) (.int .u8 (c.h : Int))).1
 unfold OC
 rw [List.length_set, vCs_set l k c hk]
 exact this
end
section
variable {w : World} {base g n cap : Nat} {l : List Cl}
theorem OC.len (h : OC w base (.slice (some ⟨g, 0, none⟩) n cap) l) : n = l.length := by
 unfold OC at h
 rcases h.2 with ⟨hv, _⟩ | ⟨g', cap', cur, hv, _⟩
 ·cases hv
 ·simp only [Value.slice.injEq] at hv
  exact hv.2.1
theorem OC.spot (h : OC w base (.slice (some ⟨g, 0, none⟩) n cap) l) (k : Nat) (hk : k < n) : ∃ x y z, w.cell? ⟨g, k * 3, none⟩ = some x ∧ w.cell? ⟨g, k * 3 + 1, none⟩ = some y ∧ w.cell? ⟨g, k * 3 + 2, none⟩ = some z ∧ w.frozen? ⟨g, k * 3, none⟩ = false ∧ w.frozen? ⟨g, k * 3 + 1, none⟩ = false ∧ w.frozen? ⟨g, k * 3 + 2, none⟩ = false := by
 obtain rfl := h.len
 obtain ⟨c, hc⟩ : ∃ c, l[k]? = some c := ⟨_, List.getElem?_eq_getElem hk⟩
 obtain ⟨a, b, d⟩ := h.threeAt k c hc
 exact ⟨_, _, _, a, b, d, h.frozenAt _, h.frozenAt _, h.frozenAt _⟩
theorem OC.put (h : OC w base (.slice (some ⟨g, 0, none⟩) n cap) l) (k : Nat) (hk : k < n) (c : Cl) :
  OC (((w.setCell ⟨g, k * 3, none⟩ (.int .i32 c.r)).setCell ⟨g, k * 3 + 1, none⟩ (.int .u16 (c.a : Int))).setCell ⟨g, k * 3 + 2, none⟩ (.int .u8 (c.h : Int))) base (.slice (some ⟨g, 0, none⟩) n cap) (l.set k c) := by
 obtain rfl := h.len
 exact h.stored k hk c
theorem OC.block (h : OC w base (.slice (some ⟨g, 0, none⟩) n cap) l) : base ≤ g ∧ g < w.heap.size := World.ownsRow.lt h g rfl
end
theorem below_put {B : Nat} {w w' : World} (h : Below B w w') {g : Nat} (hg : B ≤ g) (k : Nat) (x y z : Value) : Below B w (((w'.setCell ⟨g, k, none⟩ x).setCell ⟨g, k + 1, none⟩ y).setCell ⟨g, k + 2, none⟩ z) :=
 ((h.setCell hg x).setCell hg y).setCell hg z
theorem cellInfo : (Tryz.prog.info? 50).map (fun i => (i.zero, i.size, i.bytes)) = some (some (.agg #[.int .i32 0, .int .u16 0, .int .u8 0]), 3, 8) := by kernel_rfl
theorem run_appC (w : World) (ty : TypeId) {base B : Nat} {v u : Value} {l m : List Cl} (hown : OC w base v l) (hr : CS w B u m) (hlen : l.length + m.length ≤ 1099511627776) (hbase : base ≤ w.heap.size) :
  ∃ v' w', (Builtin.append_ #[24, 24] ty #[v, u]).run Tryz.prog w = .ok v' w' ∧ OC w' base v' (l ++ m) ∧ w.grownBy w' v.ownBlock ∧ Below base w w' ∧ (v'.ownBlock = v.ownBlock ∨ v'.ownBlock = some w.heap.size) := by
 obtain ⟨i0, hi0, hz0, hz1, hz2⟩ := info_parts cellInfo
 have hlt := World.ownsRow.lt hown
 have hfin : ∀ v' w', w'.ownsRow base 50 3 v' (l.length + m.length) (vCs l ++ vCs m) → OC w' base v' (l ++ m) := by
  intro v' w' h
  unfold OC
  rw [List.length_append, vCs_app]
  exact h
 obtain ⟨A, c, rfl, h1, h2, h3⟩ := hr
 rcases Nat.eq_zero_or_pos m.length with h0 | h0
 ·have hm : m = [] := List.eq_nil_of_length_eq_zero h0
  subst hm
  refine ⟨v, w, ?_, by simpa using hown, World.grownBy.refl w _, Below.refl _ _, .inl rfl⟩
  rcases hown.2 with ⟨rfl, hn⟩ | ⟨g, cap, cur, rfl, _, _, hnc, _⟩
  ·cases A <;> simp [Builtin.append_, run_underlying Tryz.underlying24, sizeOf, typeInfo, hi0, Builtin.lenOf, Builtin.firstCells, loadCells, loadCellsFrom]
  ·cases A <;> simp [Builtin.append_, run_underlying Tryz.underlying24, sizeOf, typeInfo, hi0, Builtin.lenOf, Builtin.firstCells, hnc, storeCells, loadCells, loadCellsFrom]
 ·obtain ⟨ad, rfl, hb, hc⟩ := h3 h0
  have hcell : ∀ (j : Nat) (u : Value), (vCs m)[j]? = some u → w.cell? (ad.add j) = some u := by
   intro j u hj
   have hj3 : j < m.length * 3 := by
    have := (List.getElem?_eq_some_iff.1 hj).1
    rw [vCs_len] at this
    exact this
   obtain ⟨x, hx⟩ : ∃ x, m[j / 3]? = some x := ⟨_, List.getElem?_eq_getElem (by omega)⟩
   obtain ⟨e0, e1, e2⟩ := vCs_get m (j / 3) x hx
   obtain ⟨f0, f1, f2⟩ := hc _ x hx
   have hmod : j % 3 = 0 ∨ j % 3 = 1 ∨ j % 3 = 2 := by omega
   rcases hmod with h | h | h
   ·have e : j / 3 * 3 = j := by omega
    rw [e] at e0 f0
    rw [e0] at hj
    rw [f0, hj]
   ·have e : j / 3 * 3 + 1 = j := by omega
    rw [← add_at3 _ _ _ (by omega), e] at f1
    rw [e] at e1
    rw [e1] at hj
    rw [f1, hj]
   ·have e : j / 3 * 3 + 2 = j := by omega
    rw [← add_at3 _ _ _ (by omega), e] at f2
    rw [e] at e2
    rw [e2] at hj
    rw [f2, hj]
  obtain ⟨v', w', hrun, h4, h5, _, h6⟩ := run_append_own_at (P := Tryz.prog) w base 24 ty 50 i0 _ 3 8 Tryz.underlying24 hi0 hz0 hz1 hz2 rfl (by omega) v l.length (vCs l) hown ad m.length c (vCs m) (by rw [vCs_len]) hcell
   (vCs_one m) (by simp only [maxLen]; omega) (by omega) hbase
  exact ⟨v', w', hrun, hfin v' w' h4, h5, (Below.refl _ _).grown h5 hbase (fun k hk => (hlt k hk).1), h6⟩
theorem wpl_appC (w : World) {ops : Array Oper} {rest : List Oper} {o : Oper} {a : Act} {Q : Exit → Act → World → Prop} (hgd : o.guard = none) (s x : Operand)
  (ho : o.op = .call { callee := .builtin .append, args := #[s, x], argTypes := #[24, 24] })
  (base B : Nat) (v u : Value) (l m : List Cl) (hs : a.eval s = v) (hx : a.eval x = u) (hown : OC w base v l) (hr : CS w B u m) (hlen : l.length + m.length ≤ 1099511627776) (hbase : base ≤ w.heap.size)
  (h : ∀ v' w', OC w' base v' (l ++ m) → w.grownBy w' v.ownBlock → Below base w w' → (v'.ownBlock = v.ownBlock ∨ v'.ownBlock = some w.heap.size) → wpList Tryz.prog ops Q rest (a.put o.dst v') w') :
  wpList Tryz.prog ops Q (o :: rest) a w := by
 refine wpList_plain hgd fun K hK => ?_
 obtain ⟨v', w', hrun, h2, h3, h4, h5⟩ := run_appC w o.type hown hr hlen hbase
 unfold Oper.wp execOp
 simp only [ho, resolve, invoke, builtin, Sem.run_bind, Sem.run_pure, Result.andThen_ok, List.map_toArray, List.map_cons, List.map_nil, hs, hx, hrun]
 exact hK _ _ (h v' w' h2 h3 h4 h5)
end Go.Proofs.YtlolgfgcgfjdjaaGreatDoor

namespace Go.Proofs.YtlolgfgcgfjdjaaGreatDoor
open Go.RowKit
set_option linter.unusedVariables false
set_option linter.unusedSimpArgs false
set_option maxHeartbeats 400000
set_option maxRecDepth 100000
def CellsPost (l : List Cl) (w : World) (e : Ending) (w' : World) : Prop := ∃ v, e = .returned v ∧ OC w' w.heap.size v l ∧ Below w.heap.size w w'
end Go.Proofs.YtlolgfgcgfjdjaaGreatDoor

namespace Go.Proofs.YtlolgfgcgfjdjaaGreatDoor
open Go.RowKit
set_option linter.unusedVariables false
set_option linter.unusedSimpArgs false
set_option maxHeartbeats 400000
set_option maxRecDepth 100000
def zeroC : Cl := ⟨0, 0, 0⟩
theorem madeC (n : Nat) : (madeCells #[.int .i32 0, .int .u16 0, .int .u8 0] (n * 3)).toList = vCs (List.replicate n zeroC) := by
 apply List.ext_getElem?
 intro j
 by_cases h : j < n * 3
 ·have hx : (List.replicate n zeroC)[j / 3]? = some zeroC := by rw [List.getElem?_replicate, if_pos (by omega)]
  obtain ⟨e0, e1, e2⟩ := vCs_get _ _ _ hx
  have hl : (madeCells #[Value.int .i32 0, .int .u16 0, .int .u8 0] (n * 3)).toList[j]? = some (#[Value.int .i32 0, .int .u16 0, .int .u8 0][j % 3]!) := by
   simp [madeCells, h]
  rw [hl]
  have hmod : j % 3 = 0 ∨ j % 3 = 1 ∨ j % 3 = 2 := by omega
  rcases hmod with hm | hm | hm
  ·rw [show j / 3 * 3 = j by omega] at e0
   rw [e0, hm]; rfl
  ·rw [show j / 3 * 3 + 1 = j by omega] at e1
   rw [e1, hm]; rfl
  ·rw [show j / 3 * 3 + 2 = j by omega] at e2
   rw [e2, hm]; rfl
 ·rw [List.getElem?_eq_none (by simp [madeCells]; omega), List.getElem?_eq_none (by rw [vCs_len, List.length_replicate]; omega)]
theorem OC.made (w : World) (n : Nat) (hm : n ≤ 1099511627776) : OC (w.alloc (.cells (madeCells #[.int .i32 0, .int .u16 0, .int .u8 0] (n * 3)) 50)) w.heap.size (.slice (some ⟨w.heap.size, 0, none⟩) n n) (List.replicate n zeroC) := by
 have := World.ownsRow_lit (base := w.heap.size) (e := 50) (size := 3) w (madeCells #[.int .i32 0, .int .u16 0, .int .u8 0] (n * 3)) n (Nat.le_refl _) (by simp [maxLen]; omega) (by rw [size_madeCells])
 unfold OC
 rw [List.length_replicate]
 rw [madeC] at this
 exact this
end Go.Proofs.YtlolgfgcgfjdjaaGreatDoor

namespace Go.Proofs.YtlolgfgcgfjdjaaGreatDoor
open Go.RowKit
set_option linter.unusedVariables false
set_option linter.unusedSimpArgs false
set_option maxHeartbeats 400000
set_option maxRecDepth 100000
theorem capN_le (n : Int) : capN n ≤ 1000 := by unfold capN; omega
def upB (n : Nat) (cols top bottom : Int) : Bool := decide (gOk n cols = true ∧ 0 ≤ top ∧ bottom < (n : Int) / cols ∧ top ≤ bottom)
end Go.Proofs.YtlolgfgcgfjdjaaGreatDoor

namespace Go.Proofs.YtlolgfgcgfjdjaaGreatDoor
open Go.RowKit
set_option linter.unusedVariables false
set_option linter.unusedSimpArgs false
set_option maxHeartbeats 400000
set_option maxRecDepth 100000
theorem CellsPost.up {l : List Cl} {w w1 w2 : World} {e : Ending} (h : CellsPost l w1 e w2) (hb : Below w.heap.size w w1) : CellsPost l w e w2 := by
 obtain ⟨v, he, ho, hb2⟩ := h
 have hz := hb.size
 exact ⟨v, he, ho.lower hz, hb.trans (hb2.mono hz)⟩
end Go.Proofs.YtlolgfgcgfjdjaaGreatDoor

namespace Go.Proofs.YtlolgfgcgfjdjaaGreatDoor
open Go.RowKit
set_option linter.unusedVariables false
set_option linter.unusedSimpArgs false
set_option maxHeartbeats 400000
set_option maxRecDepth 100000
def CL (w : World) (S : Nat → Prop) (v : Value) (l : List Cl) : Prop :=
 ∃ A c, v = .slice A l.length c ∧ l.length ≤ c ∧ c ≤ maxLen ∧ (0 < l.length → ∃ ad, A = some ad ∧ S ad.block ∧ ∀ j b, l[j]? = some b → ThreeAt w (ad.add (j * 3)) b)
section
variable {w w' : World} {S S' : Nat → Prop} {v : Value} {l : List Cl}
theorem CL.keep (h : CL w S v l) (hk : ∀ q : Addr, S q.block → w'.cell? q = w.cell? q) : CL w' S v l := by
 obtain ⟨A, c, hv, h1, h2, h3⟩ := h
 refine ⟨A, c, hv, h1, h2, fun hl => ?_⟩
 obtain ⟨ad, hA, hb, hc⟩ := h3 hl
 exact ⟨ad, hA, hb, fun j b hj => (hc j b hj).keep fun p hp => hk p (by rw [hp, block_add]; exact hb)⟩
theorem CL.mono (h : CL w S v l) (hS : ∀ x, S x → S' x) : CL w S' v l := by
 obtain ⟨A, c, hv, h1, h2, h3⟩ := h
 refine ⟨A, c, hv, h1, h2, fun hl => ?_⟩
 obtain ⟨ad, hA, hb, hc⟩ := h3 hl
 exact ⟨ad, hA, hS _ hb, hc⟩
theorem CL.nil (w : World) (S : Nat → Prop) : CL w S (.slice none 0 0) [] := ⟨none, 0, rfl, by simp, by simp [maxLen], fun h => absurd h (by simp)⟩
theorem CL.form (h : CL w S v l) : ∃ A c, v = .slice A l.length c ∧ l.length ≤ c ∧ c ≤ 9223372036854775807 := by
 obtain ⟨A, c, hv, h1, h2, _⟩ := h
 unfold maxLen at h2
 exact ⟨A, c, hv, h1, by omega⟩
theorem CL.cs {B : Nat} (h : CL w S v l) (hS : ∀ x, S x → x < B) : CS w B v l := h.mono hS
theorem CL.cs' {B : Nat} (h : CL w S v l) (hS : ∀ x, S x → x < w.heap.size) (hb : Below w.heap.size w w') (hB : w'.heap.size ≤ B) : CS w' B v l :=
 (h.keep (fun q hq => hb.cell (hS _ hq))).cs (fun x hx => Nat.lt_of_lt_of_le (hS x hx) (Nat.le_trans hb.size hB))
end
theorem OT.sl {w : World} {base : Nat} {v : Value} {l : List Bool} (h : OT w base v l) : SL vT w (NewB w base) v l := by
 obtain ⟨A, c, hv, h1, h2, h3⟩ := h.bs
 refine ⟨A, c, hv, h1, h2, fun hl => ?_⟩
 obtain ⟨ad, hA, hb, hc⟩ := h3 hl
 subst hA
 exact ⟨ad, rfl, ⟨(World.ownsRow.lt h ad.block (by rw [hv]; rfl)).1, hb⟩, hc⟩
theorem OC.cl {w : World} {base : Nat} {v : Value} {l : List Cl} (h : OC w base v l) : CL w (NewB w base) v l := by
 obtain ⟨A, c, hv, h1, h2, h3⟩ := h.cs
 refine ⟨A, c, hv, h1, h2, fun hl => ?_⟩
 obtain ⟨ad, hA, hb, hc⟩ := h3 hl
 subst hA
 exact ⟨ad, rfl, ⟨(World.ownsRow.lt h ad.block (by rw [hv]; rfl)).1, hb⟩, hc⟩
@[reducible] def zQ : Array Value := #[.int .i64 0, .int .i64 0, .slice none 0 0, .int .i64 0, .int .i64 0, .bool false, .int .u16 0, .int .i64 0, .int .i64 0, .slice none 0 0, .int .i64 0, .int .i64 0, .int .u16 0, .bool false, .bool false, .bool false, .slice none 0 0, .int .i64 0, .int .i64 0, .int .i64 0, .int .u8 0, .slice none 0 0, .slice none 0 0, .slice none 0 0]
@[reducible] def vS (s : Sc) (vc vt vo vp vi vu : Value) : Array Value :=
 #[.int .i64 s.rows, .int .i64 s.cols, vc, .int .i64 s.y, .int .i64 s.x, .bool s.wrap, .int .u16 (s.attr : Int), .int .i64 s.top, .int .i64 s.bottom, vt, .int .i64 s.sy, .int .i64 s.sx, .int .u16 (s.sattr : Int), .bool s.auto, .bool s.shown, .bool s.alt, vo, .int .i64 s.oy, .int .i64 s.ox, .int .i64 (s.p.mode : Int), .int .u8 (s.p.priv : Int), vp, vi, vu]
def SSl (w : World) (S : Nat → Prop) (s : Sc) (vc vt vo vp vi vu : Value) : Prop :=
 CL w S vc s.cells ∧ SL vT w S vt s.tabs ∧ CL w S vo s.other ∧ SL vI w S vp s.p.params ∧ SL vB w S vi s.p.inter ∧ SL vB w S vu s.p.utf
def SCV (w : World) (S : Nat → Prop) (v : Value) (s : Sc) : Prop := ∃ vc vt vo vp vi vu, v = .agg (vS s vc vt vo vp vi vu) ∧ SSl w S s vc vt vo vp vi vu
section
variable {w w' : World} {S S' : Nat → Prop} {s : Sc} {vc vt vo vp vi vu : Value}
theorem SSl.keep (h : SSl w S s vc vt vo vp vi vu) (hk : ∀ q : Addr, S q.block → w'.cell? q = w.cell? q) : SSl w' S s vc vt vo vp vi vu := by
 obtain ⟨h1, h2, h3, h4, h5, h6⟩ := h
 exact ⟨h1.keep hk, h2.keep hk, h3.keep hk, h4.keep hk, h5.keep hk, h6.keep hk⟩
theorem SSl.mono (h : SSl w S s vc vt vo vp vi vu) (hS : ∀ x, S x → S' x) : SSl w S' s vc vt vo vp vi vu := by
 obtain ⟨h1, h2, h3, h4, h5, h6⟩ := h
 exact ⟨h1.mono hS, h2.mono hS, h3.mono hS, h4.mono hS, h5.mono hS, h6.mono hS⟩
theorem SSl.below {B : Nat} (h : SSl w S s vc vt vo vp vi vu) (hS : ∀ x, S x → x < B) (hb : Below B w w') : SSl w' S s vc vt vo vp vi vu := h.keep fun q hq => hb.cell (hS _ hq)
theorem SSl.like {s' : Sc} (h : SSl w S s vc vt vo vp vi vu) (h1 : s'.cells = s.cells) (h2 : s'.tabs = s.tabs) (h3 : s'.other = s.other) (h4 : s'.p = s.p) : SSl w S s' vc vt vo vp vi vu := by
 unfold SSl
 rw [h1, h2, h3, h4]
 exact h
end
theorem SCV.below {w w' : World} {S : Nat → Prop} {B : Nat} {v : Value} {s : Sc} (h : SCV w S v s) (hS : ∀ x, S x → x < B) (hb : Below B w w') : SCV w' S v s := by
 obtain ⟨vc, vt, vo, vp, vi, vu, hv, hs⟩ := h
 exact ⟨vc, vt, vo, vp, vi, vu, hv, hs.below hS hb⟩
theorem SCV.mono {w : World} {S S' : Nat → Prop} {v : Value} {s : Sc} (h : SCV w S v s) (hS : ∀ x, S x → S' x) : SCV w S' v s := by
 obtain ⟨vc, vt, vo, vp, vi, vu, hv, hs⟩ := h
 exact ⟨vc, vt, vo, vp, vi, vu, hv, hs.mono hS⟩
def Since (S : Nat → Prop) (w w' : World) (x : Nat) : Prop := S x ∨ NewB w' w.heap.size x
def ScPost (S : Nat → Prop) (s : Sc) (w : World) (e : Ending) (w' : World) : Prop := ∃ v, e = .returned v ∧ SCV w' (Since S w w') v s ∧ Below w.heap.size w w'
theorem scrSize : (Tryz.prog.info? 31).map (·.size) = some 24 := by kernel_rfl
theorem run_loadS {w : World} {g : Nat} {xs : Array Value} (h : w.heap[g]? = some (.cells xs 31)) (hn : xs.size = 24) : (Instr.loadAt 31 (.pointer (some ⟨g, 0, none⟩))).run Tryz.prog w = .ok (.agg xs) w := by
 simp only [Instr.loadAt, Instr.sureAddr, Sem.run_bind, Sem.run_pure, Result.andThen]
 exact run_loadVar_row _ g _ 31 xs (0, 0) _ h Tryz.underlying31 rfl (by rw [scrSize, hn])
theorem run_storeS {w : World} {g : Nat} {old xs : Array Value} (h : w.heap[g]? = some (.cells old 31)) (ho : old.size = 24) (hn : xs.size = 24) (h1 : xs.all (·.oneCell') = true) : (Instr.storeAt 31 (.pointer (some ⟨g, 0, none⟩)) (.agg xs)).run Tryz.prog w = .ok () (w.setRow g xs) := by
 simp only [Instr.storeAt, Instr.sureAddr, Sem.run_bind, Sem.run_pure, Result.andThen]
 exact run_storeVar_row _ g _ 31 old xs h (by rw [scrSize, hn]) (by rw [ho, hn]) h1
theorem heap_setRow_same {w : World} {g : Nat} {old xs : Array Value} {t : TypeId} (h : w.heap[g]? = some (.cells old t)) : (w.setRow g xs).heap[g]? = some (.cells xs t) := by
 simp [World.setRow, Array.getElem?_modify, h]
theorem heap_setRow_other {w : World} {g k : Nat} {xs : Array Value} (h : g ≠ k) : (w.setRow g xs).heap[k]? = w.heap[k]? := by
 simp [World.setRow, Array.getElem?_modify, h]
theorem size_setRow (w : World) (g : Nat) (xs : Array Value) : (w.setRow g xs).heap.size = w.heap.size := by simp [World.setRow]
theorem below_setRow {B : Nat} {w w' : World} (h : Below B w w') {g : Nat} (hg : B ≤ g) (xs : Array Value) : Below B w (w'.setRow g xs) :=
 ⟨h.os, h.tape, h.output, by rw [size_setRow]; exact h.size, fun i hi => (heap_setRow_other (by omega)).trans (h.block i hi)⟩
theorem resultS {fn : Func} {p : Tmp} (h : fn.results = #[.cell p 31]) {tmps : Array Value} {w : World} {g : Nat} {xs : Array Value} (ht : tmps.getD p undef = .pointer (some ⟨g, 0, none⟩)) (hg : w.heap[g]? = some (.cells xs 31)) (hn : xs.size = 24) :
  (results fn tmps).run Tryz.prog w = .ok (.agg xs) w := by
 simp only [results, h]
 have := run_loadVar_row (P := Tryz.prog) w g _ 31 xs (0, 0) _ hg Tryz.underlying31 rfl (by rw [scrSize, hn])
 have ht2 : tmps[p]?.getD undef = .pointer (some ⟨g, 0, none⟩) := by simpa using ht
 simp [ht2, asAddr, this]
theorem wpl_loadS {w : World} {ops : Array Oper} {rest : List Oper} {o : Oper} {a : Act} {Q : Exit → Act → World → Prop} (hgd : o.guard = none) (x : Operand) (ho : o.op = .load 31 x) {g : Nat} {xs : Array Value} (hx : a.eval x = .pointer (some ⟨g, 0, none⟩))
  (hg : w.heap[g]? = some (.cells xs 31)) (hn : xs.size = 24) (h : wpList Tryz.prog ops Q rest (a.put o.dst (.agg xs)) w) : wpList Tryz.prog ops Q (o :: rest) a w := by
 refine wpList_plain hgd fun K hK => ?_
 unfold Oper.wp execOp
 simp only [ho, hx, Sem.run_bind, run_loadS hg hn, Result.andThen_ok, Sem.run_pure]
 exact hK _ _ h
theorem wpl_storeS {w : World} {ops : Array Oper} {rest : List Oper} {o : Oper} {a : Act} {Q : Exit → Act → World → Prop} (hgd : o.guard = none) (x y : Operand) (ho : o.op = .store 31 x y) {g : Nat} {old xs : Array Value} (hx : a.eval x = .pointer (some ⟨g, 0, none⟩)) (hy : a.eval y = .agg xs)
  (hg : w.heap[g]? = some (.cells old 31)) (ho2 : old.size = 24) (hn : xs.size = 24) (h1 : xs.all (·.oneCell') = true) (h : wpList Tryz.prog ops Q rest (a.put o.dst undef) (w.setRow g xs)) : wpList Tryz.prog ops Q (o :: rest) a w := by
 refine wpList_plain hgd fun K hK => ?_
 unfold Oper.wp execOp
 simp only [ho, hx, hy, Sem.run_bind, run_storeS hg ho2 hn h1, Result.andThen_ok, Sem.run_pure]
 exact hK _ _ h
theorem vS_one (s : Sc) {vc vt vo vp vi vu : Value} {A1 A2 A3 A4 A5 A6 : Option Addr} {n1 n2 n3 n4 n5 n6 c1 c2 c3 c4 c5 c6 : Nat} (e1 : vc = .slice A1 n1 c1) (e2 : vt = .slice A2 n2 c2) (e3 : vo = .slice A3 n3 c3) (e4 : vp = .slice A4 n4 c4) (e5 : vi = .slice A5 n5 c5) (e6 : vu = .slice A6 n6 c6) : (vS s vc vt vo vp vi vu).all (·.oneCell') = true := by
 subst e1 e2 e3 e4 e5 e6
 simp [vS, Value.oneCell']
theorem SSl.one {w : World} {S : Nat → Prop} {s s' : Sc} {vc vt vo vp vi vu : Value} (h : SSl w S s vc vt vo vp vi vu) : (vS s' vc vt vo vp vi vu).all (·.oneCell') = true := by
 obtain ⟨h1, h2, h3, h4, h5, h6⟩ := h
 obtain ⟨A1, c1, e1, _⟩ := h1.form
 obtain ⟨A2, c2, e2, _⟩ := h2.form
 obtain ⟨A3, c3, e3, _⟩ := h3.form
 obtain ⟨A4, c4, e4, _⟩ := h4.form
 obtain ⟨A5, c5, e5, _⟩ := h5.form
 obtain ⟨A6, c6, e6, _⟩ := h6.form
 exact vS_one s' e1 e2 e3 e4 e5 e6
theorem all24 {x0 x1 x2 x3 x4 x5 x6 x7 x8 x9 x10 x11 x12 x13 x14 x15 x16 x17 x18 x19 x20 x21 x22 x23 : Value} (h0 : x0.oneCell' = true) (h1 : x1.oneCell' = true) (h2 : x2.oneCell' = true) (h3 : x3.oneCell' = true) (h4 : x4.oneCell' = true) (h5 : x5.oneCell' = true) (h6 : x6.oneCell' = true) (h7 : x7.oneCell' = true) (h8 : x8.oneCell' = true) (h9 : x9.oneCell' = true) (h10 : x10.oneCell' = true) (h11 : x11.oneCell' = true) (h12 : x12.oneCell' = true) (h13 : x13.oneCell' = true) (h14 : x14.oneCell' = true) (h15 : x15.oneCell' = true) (h16 : x16.oneCell' = true) (h17 : x17.oneCell' = true) (h18 : x18.oneCell' = true) (h19 : x19.oneCell' = true) (h20 : x20.oneCell' = true) (h21 : x21.oneCell' = true) (h22 : x22.oneCell' = true) (h23 : x23.oneCell' = true) : (#[x0, x1, x2, x3, x4, x5, x6, x7, x8, x9, x10, x11, x12, x13, x14, x15, x16, x17, x18, x19, x20, x21, x22, x23] : Array Value).all (·.oneCell') = true := by
 simp [h0, h1, h2, h3, h4, h5, h6, h7, h8, h9, h10, h11, h12, h13, h14, h15, h16, h17, h18, h19, h20, h21, h22, h23]
end Go.Proofs.YtlolgfgcgfjdjaaGreatDoor
