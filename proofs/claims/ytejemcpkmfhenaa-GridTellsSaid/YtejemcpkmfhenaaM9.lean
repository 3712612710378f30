/- What is proved here: which kinds of acts the document's parser tells; no program is named; the contract of the document's feeding of bytes to a screen; a contract of the statements' help that makes bytes for a terminal of few numbers: some bytes, in a row of the call's own; append of a string's bytes; plain facts on the document's screen: no half of a rune is alone on a screen, behind each act and each byte; no program is named; a contract of the statements' help that makes a screen of few numbers: some screen that may be; words for a screen that a statement of layer 8 has made of few numbers: where it lies, its cells, that no half is alone. -/
import Derived.Test.YtejemcpkmfhenaaM8
import Derived.Deep.RegionWith
import Derived.Deep.CutRange
import Derived.Test.YtejemcpkmfhenaaM1
import Derived.Lib.AppendStr
import Derived.Deep.Onto
import Derived.Deep.QuietTactic
import Derived.BigQuiet
import Derived.Deep.RegionLaw
import Derived.Test.YtejemcpkmfhenaaM3
namespace Go.Proofs.Ytejemcpkmfhenaa
set_option linter.unusedVariables false

def KindOk (a : Ac) : Prop := a.kind ≤ 3
theorem printsL_kd (p : List UInt8) (b : UInt8) : ∀ a ∈ printsL (stepL p b).2, KindOk a := by
  intro a ha
  unfold printsL at ha
  rw [List.mem_map] at ha
  obtain ⟨r, hr, rfl⟩ := ha
  show 0 ≤ 3
  omega
theorem one_kd {a : Ac} (h : KindOk a) : ∀ x ∈ [a], KindOk x := fun x hx => by rw [List.mem_singleton.1 hx]; exact h
theorem nil_kd : ∀ x ∈ ([] : List Ac), KindOk x := fun x hx => by cases hx
theorem csiL_kd (p : Pr) (b : UInt8) (h : PrOk p) : ∀ a ∈ (csiL p b).2, KindOk a := by
  unfold csiL
  split
  · exact one_kd (by show 3 ≤ 3; omega)
  split
  · split <;> exact nil_kd
  split
  · exact nil_kd
  split
  · split <;> exact nil_kd
  split
  · split <;> exact nil_kd
  · exact nil_kd
theorem vtM_kd (p : Pr) (b : UInt8) (h : PrOk p) : ∀ a ∈ (vtM p b).2, KindOk a := by
  unfold vtM
  split
  · split
    · exact nil_kd
    split
    · exact nil_kd
    split
    · exact nil_kd
    · exact one_kd (by show 2 ≤ 3; omega)
  split
  · split
    · exact one_kd (by show 2 ≤ 3; omega)
    split
    · exact nil_kd
    · exact nil_kd
  split
  · split <;> exact nil_kd
  split
  · split <;> exact nil_kd
  · exact csiL_kd p b h
theorem vtN_kd (p : Pr) (b : UInt8) (h : PrOk p) : ∀ a ∈ (vtN p b).2, KindOk a := by
  unfold vtN
  split
  · exact nil_kd
  split
  · exact nil_kd
  split
  · split
    · exact one_kd (by show 1 ≤ 3; omega)
    split
    · exact nil_kd
    · exact printsL_kd _ _
  split
  · split <;> exact nil_kd
  split
  · exact one_kd (by show 1 ≤ 3; omega)
  split
  · exact nil_kd
  split
  · exact nil_kd
  · exact vtM_kd p b h
theorem vtL_kd (p : Pr) (b : UInt8) (h : PrOk p) : ∀ a ∈ (vtL p b).2, KindOk a := by
  unfold vtL
  split
  · split
    · exact printsL_kd _ _
    · intro a ha
      rcases List.mem_cons.1 ha with h1 | h1
      · rw [h1]; show 0 ≤ 3; omega
      · exact vtN_kd _ b (drop_ok p h) a h1
  · exact vtN_kd p b h
end Go.Proofs.Ytejemcpkmfhenaa

namespace Go.Proofs.Ytejemcpkmfhenaa
open Go.RowKit
set_option linter.unusedVariables false
set_option linter.unusedSimpArgs false

/-- A screen's block, and what lies beside it. -/
structure ScAt (s : Sc) (r c : Nat) (S : Nat → Prop) (w : World) (Z : Obj) (wr : World) (uc ut uo up ui uu : Value) : Prop where
  inn : ScIn s r c
  bel : Below w.heap.size w wr
  size : w.heap.size + 1 + 1 ≤ wr.heap.size
  kZ : wr.heap[w.heap.size + 1]? = some Z
  kS : wr.heap[w.heap.size]? = some (.cells (vS s uc ut uo up ui uu) 32)
  sl : SSl wr (fun x => S x ∨ (w.heap.size + 1 < x ∧ x < wr.heap.size)) s uc ut uo up ui uu
def FeedRel (s : Sc) (b : List UInt8) (r c : Nat) (S : Nat → Prop) (w : World) (Z : Obj) (i : Value) (wr : World) : Prop :=
  ∃ j : Nat, j ≤ b.length ∧ i = .int .i64 (j : Int) ∧ ∃ uc ut uo up ui uu, ScAt (feedS s (b.take j)) r c S w Z wr uc ut uo up ui uu
def ActsRel (s : Sc) (l : List Ac) (r c : Nat) (S : Nat → Prop) (w : World) (Z : Obj) (w7 : World) (i : Value) (wr : World) : Prop :=
  ∃ j : Nat, j ≤ l.length ∧ i = .int .i64 (j : Int) ∧ w7.heap.size ≤ wr.heap.size ∧ (∀ x, x ≠ w.heap.size → x < w7.heap.size → wr.heap[x]? = w7.heap[x]?) ∧ ∃ uc ut uo up ui uu, ScAt ((l.take j).foldl doS s) r c S w Z wr uc ut uo up ui uu
theorem feed_on (s : Sc) (b : List UInt8) (j : Nat) (h : j < b.length) : feedS s (b.take (j + 1)) = stepS (feedS s (b.take j)) b[j] := by
  unfold feedS
  rw [List.take_succ_eq_append_getElem h, List.foldl_append]
  rfl
theorem acts_on (s : Sc) (l : List Ac) (j : Nat) (a : Ac) (h : l[j]? = some a) : (l.take (j + 1)).foldl doS s = doS ((l.take j).foldl doS s) a := by
  rw [List.take_add_one, h, List.foldl_append]
  rfl
/-- The parser's five values are stored. -/
theorem row_parser {w : World} {g : Nat} {s : Sc} {p : Pr} {uc ut uo up ui uu xp xi xu : Value} (h : w.heap[g]? = some (.cells (vS s uc ut uo up ui uu) 32)) :
    (((((w.setCell ⟨g, 19, none⟩ (.int .i64 (p.mode : Int))).setCell ⟨g, 20, none⟩ (.int .u8 (p.priv : Int))).setCell ⟨g, 21, none⟩ xp).setCell ⟨g, 22, none⟩ xi).setCell ⟨g, 23, none⟩ xu).heap[g]? = some (.cells (vS { s with p := p } uc ut uo xp xi xu) 32) := by
  rw [heap_setCell_same _ g 23 _ _ _ (heap_setCell_same _ g 22 _ _ _ (heap_setCell_same _ g 21 _ _ _ (heap_setCell_same _ g 20 _ _ _ (heap_setCell_same _ g 19 _ _ _ h))))]
  rfl
theorem parser_blk {w5 w6 : World} {o : Obj} (b6 : Below (w5.alloc o).drew.heap.size (w5.alloc o).drew w6) : w6.heap[w5.heap.size]? = some o := by
  have e : (w5.alloc o).drew.heap[w5.heap.size]? = some o := by
    show (w5.heap.push o)[w5.heap.size]? = some o
    simp
  refine (b6.block _ ?_).trans e
  show w5.heap.size < (w5.heap.push o).size
  simp
theorem parser_cells {w : World} {g : Nat} {x0 x1 x2 x3 x4 : Value} {t : TypeId} (h : w.heap[g]? = some (.cells #[x0, x1, x2, x3, x4] t)) : w.cell? ⟨g, 0, none⟩ = some x0 ∧ w.cell? ⟨g, 1, none⟩ = some x1 ∧ w.cell? ⟨g, 2, none⟩ = some x2 ∧ w.cell? ⟨g, 3, none⟩ = some x3 ∧ w.cell? ⟨g, 4, none⟩ = some x4 :=
  ⟨(cellR h 0 rfl).1, (cellR h 1 rfl).1, (cellR h 2 rfl).1, (cellR h 3 rfl).1, (cellR h 4 rfl).1⟩
theorem parser_frz {w : World} {g : Nat} {x0 x1 x2 x3 x4 : Value} {t : TypeId} (h : w.heap[g]? = some (.cells #[x0, x1, x2, x3, x4] t)) : w.frozen? ⟨g, 0, none⟩ = false ∧ w.frozen? ⟨g, 1, none⟩ = false ∧ w.frozen? ⟨g, 2, none⟩ = false ∧ w.frozen? ⟨g, 3, none⟩ = false ∧ w.frozen? ⟨g, 4, none⟩ = false :=
  ⟨(cellR h 0 rfl).2, (cellR h 1 rfl).2, (cellR h 2 rfl).2, (cellR h 3 rfl).2, (cellR h 4 rfl).2⟩
/-- Behind a step of the parser: its new state in the block pb, its acts. -/
def StepAt (q : Pr) (acts : List Ac) (S : Nat → Prop) (w w5 : World) (s6 s7 : Value) (wx : World) : Prop :=
  ∃ pb xp xi xu, s6 = .pointer (some ⟨pb, 0, none⟩) ∧ w.heap.size + 1 < pb ∧ pb < wx.heap.size ∧ Below w5.heap.size w5 wx ∧ wx.heap[pb]? = some (.cells #[.int .i64 (q.mode : Int), .int .u8 (q.priv : Int), xp, xi, xu] 30) ∧
    SL vI wx (fun x => S x ∨ (w.heap.size + 1 < x ∧ x < wx.heap.size)) xp q.params ∧ SL vB wx (fun x => S x ∨ (w.heap.size + 1 < x ∧ x < wx.heap.size)) xi q.inter ∧ SL vB wx (fun x => S x ∨ (w.heap.size + 1 < x ∧ x < wx.heap.size)) xu q.utf ∧
    AS wx (fun x => w.heap.size + 1 < x ∧ x < wx.heap.size) (fun x => S x ∨ (w.heap.size + 1 < x ∧ x < wx.heap.size)) s7 acts
section
variable {q : Pr} {acts : List Ac} {S : Nat → Prop} {w w5 W w6 : World} {xp xi xu av : Value}
theorem stepA (hS : ∀ x, S x → x < w.heap.size) (hsz : w.heap.size + 1 + 1 ≤ w5.heap.size) (hW : Below w5.heap.size w5 W) (b6 : Below W.heap.size W w6)
    (r1 : SL vI w6 (fun x => (S x ∨ (w.heap.size + 1 < x ∧ x < w5.heap.size)) ∨ NewB w6 W.heap.size x) xp q.params) (r2 : SL vB w6 (fun x => (S x ∨ (w.heap.size + 1 < x ∧ x < w5.heap.size)) ∨ NewB w6 W.heap.size x) xi q.inter) (r3 : SL vB w6 (fun x => (S x ∨ (w.heap.size + 1 < x ∧ x < w5.heap.size)) ∨ NewB w6 W.heap.size x) xu q.utf)
    (ha : AS w6 (NewB w6 W.heap.size) (fun x => (S x ∨ (w.heap.size + 1 < x ∧ x < w5.heap.size)) ∨ NewB w6 W.heap.size x) av acts) :
    StepAt q acts S w w5 (.pointer (some ⟨w6.heap.size, 0, none⟩)) av (w6.alloc (.cells #[.int .i64 (q.mode : Int), .int .u8 (q.priv : Int), xp, xi, xu] 30)) := by
  have z1 : w5.heap.size ≤ W.heap.size := hW.size
  have z2 : W.heap.size ≤ w6.heap.size := b6.size
  have z3 : (w6.alloc (.cells #[.int .i64 (q.mode : Int), .int .u8 (q.priv : Int), xp, xi, xu] 30)).heap.size = w6.heap.size + 1 := by simp
  have hm : ∀ x, ((S x ∨ (w.heap.size + 1 < x ∧ x < w5.heap.size)) ∨ NewB w6 W.heap.size x) → (S x ∨ (w.heap.size + 1 < x ∧ x < (w6.alloc (.cells #[.int .i64 (q.mode : Int), .int .u8 (q.priv : Int), xp, xi, xu] 30)).heap.size)) := by
    intro x hx
    rw [z3]
    rcases hx with (h | h) | h
    · exact .inl h
    · exact .inr ⟨h.1, by omega⟩
    · have h1 : W.heap.size ≤ x := h.1
      have h2 : x < w6.heap.size := h.2
      exact .inr ⟨by omega, by omega⟩
  have hlt : ∀ x, ((S x ∨ (w.heap.size + 1 < x ∧ x < w5.heap.size)) ∨ NewB w6 W.heap.size x) → x < w6.heap.size := by
    intro x hx
    rcases hx with (h | h) | h
    · have := hS x h; omega
    · omega
    · exact h.2
  have hk : ∀ p : Addr, ((S p.block ∨ (w.heap.size + 1 < p.block ∧ p.block < w5.heap.size)) ∨ NewB w6 W.heap.size p.block) → (w6.alloc (.cells #[.int .i64 (q.mode : Int), .int .u8 (q.priv : Int), xp, xi, xu] 30)).cell? p = w6.cell? p := fun p hp => World.cell?_alloc_lt w6 _ p (hlt _ hp)
  refine ⟨_, xp, xi, xu, rfl, by omega, by rw [z3]; omega, (hW.trans (b6.mono z1)).alloc (by omega) _, ?_, (r1.keep hk).mono hm, (r2.keep hk).mono hm, (r3.keep hk).mono hm, (ha.keep (fun p hp => World.cell?_alloc_lt w6 _ p hp.2) hk).mono (fun x hx => ?_) hm⟩
  · show (w6.heap.push _)[w6.heap.size]? = _
    simp
  · have h1 : W.heap.size ≤ x := hx.1
    have h2 : x < w6.heap.size := hx.2
    rw [z3]
    exact ⟨by omega, by omega⟩
theorem row_five {w : World} {g : Nat} {x0 x1 x2 x3 x4 y0 y1 y2 y3 y4 : Value} {t : TypeId} (h : w.heap[g]? = some (.cells #[x0, x1, x2, x3, x4] t)) :
    (((((w.setCell ⟨g, 0, none⟩ y0).setCell ⟨g, 1, none⟩ y1).setCell ⟨g, 2, none⟩ y2).setCell ⟨g, 3, none⟩ y3).setCell ⟨g, 4, none⟩ y4).heap[g]? = some (.cells #[y0, y1, y2, y3, y4] t) := by
  rw [heap_setCell_same _ g 4 _ _ _ (heap_setCell_same _ g 3 _ _ _ (heap_setCell_same _ g 2 _ _ _ (heap_setCell_same _ g 1 _ _ _ (heap_setCell_same _ g 0 _ _ _ h))))]
  rfl
theorem stepB {Z : Obj} {x0 x1 x2 x3 x4 : Value} (hS : ∀ x, S x → x < w.heap.size) (hsz : w.heap.size + 1 + 1 ≤ w5.heap.size) (hz : Z = .cells #[x0, x1, x2, x3, x4] 30) (b6 : Below (w5.alloc Z).drew.heap.size (w5.alloc Z).drew w6)
    (r1 : SL vI w6 (fun x => (S x ∨ (w.heap.size + 1 < x ∧ x < w5.heap.size)) ∨ NewB w6 (w5.alloc Z).drew.heap.size x) xp q.params) (r2 : SL vB w6 (fun x => (S x ∨ (w.heap.size + 1 < x ∧ x < w5.heap.size)) ∨ NewB w6 (w5.alloc Z).drew.heap.size x) xi q.inter) (r3 : SL vB w6 (fun x => (S x ∨ (w.heap.size + 1 < x ∧ x < w5.heap.size)) ∨ NewB w6 (w5.alloc Z).drew.heap.size x) xu q.utf)
    (ha : AS w6 (NewB w6 (w5.alloc Z).drew.heap.size) (fun x => (S x ∨ (w.heap.size + 1 < x ∧ x < w5.heap.size)) ∨ NewB w6 (w5.alloc Z).drew.heap.size x) av acts) :
    StepAt q acts S w w5 (.pointer (some ⟨w5.heap.size, 0, none⟩)) av (((((w6.setCell ⟨w5.heap.size, 0, none⟩ (.int .i64 (q.mode : Int))).setCell ⟨w5.heap.size, 1, none⟩ (.int .u8 (q.priv : Int))).setCell ⟨w5.heap.size, 2, none⟩ xp).setCell ⟨w5.heap.size, 3, none⟩ xi).setCell ⟨w5.heap.size, 4, none⟩ xu) := by
  have hblk := parser_blk b6
  subst hz
  have z0 : (w5.alloc (.cells #[x0, x1, x2, x3, x4] 30)).drew.heap.size = w5.heap.size + 1 := by
    show (w5.heap.push _).size = _
    simp
  rw [z0] at b6 r1 r2 r3 ha
  have z2 : w5.heap.size + 1 ≤ w6.heap.size := by have := b6.size; rw [z0] at this; exact this
  obtain ⟨W7, hW7⟩ : ∃ W7, W7 = ((((w6.setCell ⟨w5.heap.size, 0, none⟩ (.int .i64 (q.mode : Int))).setCell ⟨w5.heap.size, 1, none⟩ (.int .u8 (q.priv : Int))).setCell ⟨w5.heap.size, 2, none⟩ xp).setCell ⟨w5.heap.size, 3, none⟩ xi).setCell ⟨w5.heap.size, 4, none⟩ xu := ⟨_, rfl⟩
  have hrow := row_five (y0 := .int .i64 (q.mode : Int)) (y1 := .int .u8 (q.priv : Int)) (y2 := xp) (y3 := xi) (y4 := xu) hblk
  rw [← hW7] at hrow ⊢
  have z3 : W7.heap.size = w6.heap.size := by rw [hW7]; simp [World.setCell]
  have ho : ∀ b, b ≠ w5.heap.size → W7.heap[b]? = w6.heap[b]? := fun b hb => by
    rw [hW7, Below.heap_setCell _ _ _ _ hb, Below.heap_setCell _ _ _ _ hb, Below.heap_setCell _ _ _ _ hb, Below.heap_setCell _ _ _ _ hb, Below.heap_setCell _ _ _ _ hb]
  have hbel : Below w5.heap.size w5 W7 := by
    have h0 : Below w5.heap.size w5 w6 := (((Below.refl _ _).alloc (Nat.le_refl _) _).drew).trans (b6.mono (Nat.le_succ _))
    rw [hW7]
    exact ((((h0.setCell (p := ⟨w5.heap.size, 0, none⟩) (Nat.le_refl _) _).setCell (p := ⟨w5.heap.size, 1, none⟩) (Nat.le_refl _) _).setCell (p := ⟨w5.heap.size, 2, none⟩) (Nat.le_refl _) _).setCell (p := ⟨w5.heap.size, 3, none⟩) (Nat.le_refl _) _).setCell (p := ⟨w5.heap.size, 4, none⟩) (Nat.le_refl _) _
  have hne : ∀ x, ((S x ∨ (w.heap.size + 1 < x ∧ x < w5.heap.size)) ∨ NewB w6 (w5.heap.size + 1) x) → x ≠ w5.heap.size := by
    intro x hx
    rcases hx with (h | h) | h
    · have := hS x h; omega
    · omega
    · have h1 : w5.heap.size + 1 ≤ x := h.1; omega
  have hm : ∀ x, ((S x ∨ (w.heap.size + 1 < x ∧ x < w5.heap.size)) ∨ NewB w6 (w5.heap.size + 1) x) → (S x ∨ (w.heap.size + 1 < x ∧ x < W7.heap.size)) := by
    intro x hx
    rw [z3]
    rcases hx with (h | h) | h
    · exact .inl h
    · exact .inr ⟨h.1, by omega⟩
    · have h1 : w5.heap.size + 1 ≤ x := h.1
      have h2 : x < w6.heap.size := h.2
      exact .inr ⟨by omega, by omega⟩
  have hk : ∀ p : Addr, ((S p.block ∨ (w.heap.size + 1 < p.block ∧ p.block < w5.heap.size)) ∨ NewB w6 (w5.heap.size + 1) p.block) → W7.cell? p = w6.cell? p := fun p hp => World.cell?_of_block (ho _ (hne _ hp))
  refine ⟨_, xp, xi, xu, rfl, by omega, by rw [z3]; omega, hbel, hrow, (r1.keep hk).mono hm, (r2.keep hk).mono hm, (r3.keep hk).mono hm, (ha.keep (fun p hp => World.cell?_of_block (ho _ (by have h1 : w5.heap.size + 1 ≤ p.block := hp.1; omega))) hk).mono (fun x hx => ?_) hm⟩
  have h1 : w5.heap.size + 1 ≤ x := hx.1
  have h2 : x < w6.heap.size := hx.2
  rw [z3]
  exact ⟨by omega, by omega⟩
end
theorem ScAt.on {s : Sc} {r c : Nat} {S : Nat → Prop} {w w5 wc : World} {Z : Obj} {uc ut uo up ui uu : Value} (h : ScAt s r c S w Z w5 uc ut uo up ui uu) (hS : ∀ x, S x → x < w.heap.size) (hb : Below w5.heap.size w5 wc) : ScAt s r c S w Z wc uc ut uo up ui uu := by
  have z := hb.size
  have z5 := h.size
  refine ⟨h.inn, h.bel.trans (hb.mono (by omega)), by omega, (hb.block _ (by omega)).trans h.kZ, (hb.block _ (by omega)).trans h.kS, (h.sl.keep (fun q hq => hb.cell ?_)).mono (fun x hx => ?_)⟩
  · rcases hq with hq | hq
    · have := hS _ hq; omega
    · exact hq.2
  · rcases hx with hx | hx
    · exact .inl hx
    · exact .inr ⟨hx.1, by omega⟩
set_option maxHeartbeats 1600000 in
set_option maxRecDepth 100000 in
theorem feedr_any (v bv : Value) (s : Sc) (b : List UInt8) (r c : Nat) (S : Nat → Prop) (w : World) (hS : ∀ x, S x → x < w.heap.size) (h : SCV w S v s) (hi : ScIn s r c) (hb : BS w w.heap.size bv b) (hbl : b.length ≤ 1099511627776) : Calls Try.prog 27 #[v, bv] w (ScPost S (feedS s b) w) := by
  have HSS := Lib.hid hS
  clear hS
  obtain ⟨vc, vt, vo, vp, vi, vu, rfl, hs⟩ := h
  have HS := Lib.hid hs
  obtain ⟨g1, g2, g3, g4, g5, g6⟩ := hs
  obtain ⟨A1, kk1, rfl, p1, q1⟩ := g1.form
  obtain ⟨A2, k2, rfl, p2, q2⟩ := g2.form
  obtain ⟨A3, k3, rfl, p3, q3⟩ := g3.form
  obtain ⟨A4, k4, rfl, p4, q4⟩ := g4.form
  obtain ⟨A5, k5, rfl, p5, q5⟩ := g5.form
  obtain ⟨A6, k6, rfl, p6, q6⟩ := g6.form
  clear g1 g2 g3 g4 g5 g6
  have HI := Lib.hid hi
  have HB := Lib.hid hb
  obtain ⟨Ab, kb, rfl, pb1, pb2, -⟩ := hb.at_
  unfold maxLen at pb2
  have H2 := Lib.hid (fun x y => two_new w x y)
  clear hi hb
  go_enter Try.func27, Try.ntmps27
  go_wp2
  go_loopw [5] (fun i wr => FeedRel s b r c S w (.cells #[.int .i64 0, .int .i64 0, .slice none 0 0, .int .i64 0, .int .i64 0, .bool false, .int .u16 0, .int .i64 0, .int .i64 0, .slice none 0 0, .int .i64 0, .int .i64 0, .int .u16 0, .bool false, .bool false, .bool false, .slice none 0 0, .int .i64 0, .int .i64 0, .int .i64 0, .int .u8 0, .slice none 0 0, .slice none 0 0, .slice none 0 0] 32) i wr) (fun i _ => b.length - (intOf i).toNat)
  case atStart => exact ⟨0, Nat.zero_le _, rfl, _, _, _, _, _, _, HI.out, (H2.out _ _).1, by rw [(H2.out _ _).2]; exact Nat.le_refl _, heap_a2 w _ _, heap_a1 w _ _, (HS.out.below HSS.out (H2.out _ _).1).mono (fun x hx => .inl hx)⟩
  case round =>
    generalize wr = w5 at *
    obtain ⟨j, hj, rfl, uc, ut, uo, up, ui, uu, hat⟩ := hrel
    by_cases hlt : j < b.length
    · have HON := Lib.hid (feed_on s b j hlt)
      generalize hsj : feedS s (b.take j) = sj at *
      have HAT := Lib.hid hat
      obtain ⟨c19, f19⟩ := cellR (w := w5.drew) (v := .int .i64 (sj.p.mode : Int)) hat.kS 19 rfl
      obtain ⟨c20, f20⟩ := cellR (w := w5.drew) (v := .int .u8 (sj.p.priv : Int)) hat.kS 20 rfl
      obtain ⟨c21, f21⟩ := cellR (w := w5.drew) (v := up) hat.kS 21 rfl
      obtain ⟨c22, f22⟩ := cellR (w := w5.drew) (v := ui) hat.kS 22 rfl
      obtain ⟨c23, f23⟩ := cellR (w := w5.drew) (v := uu) hat.kS 23 rfl
      obtain ⟨ad, rfl, hc⟩ := (HB.out.below hat.bel).cellC j hlt
      have hc' : w5.drew.cell? (ad.add j) = _ := hc
      have hsz5 := hat.size
      have hgl : w.heap.size < w5.heap.size := by omega
      have hadb : (ad.add j).block < w5.heap.size := by
        rw [block_add]
        have := (HB.out.below hat.bel).blockC (by omega)
        omega
      unfold vB at hc hc'
      obtain ⟨-, -, -, sp, si, su⟩ := hat.sl
      have hSx : ∀ x, (S x ∨ (w.heap.size + 1 < x ∧ x < w5.heap.size)) → x < w5.drew.heap.size := fun x hx => hx.elim (fun h => by show x < w5.heap.size; have := HSS.out x h; have := hat.size; omega) (fun h => h.2)
      have hstep : ∀ W : World, Below w5.heap.size w5 W → Calls Try.prog 44 #[.agg #[.int .i64 (sj.p.mode : Int), .int .u8 (sj.p.priv : Int), up, ui, uu], .int .u8 ((b[j]).toNat : Int)] W (VtPost (fun x => S x ∨ (w.heap.size + 1 < x ∧ x < w5.heap.size)) (vtL sj.p b[j]) W) := by
        intro W hW
        have hk : ∀ q : Addr, (S q.block ∨ (w.heap.size + 1 < q.block ∧ q.block < w5.heap.size)) → W.cell? q = w5.cell? q := fun q hq => hW.cell (hSx _ hq)
        exact vtr_any up ui uu sj.p b[j] (fun x => S x ∨ (w.heap.size + 1 < x ∧ x < w5.heap.size)) W (sp.keep hk) (si.keep hk) (su.keep hk) (fun x hx => Nat.lt_of_lt_of_le (hSx x hx) hW.size) hat.inn.p
      have HST := Lib.hid hstep
      have hB0 : Below w5.heap.size w5 w5.drew := (Below.refl _ _).drew
      have hB1 : ∀ o, Below w5.heap.size w5 (w5.alloc o).drew := fun o => ((Below.refl _ _).alloc (Nat.le_refl _) o).drew
      obtain ⟨d19, -⟩ := cellR (w := w5) (v := .int .i64 (sj.p.mode : Int)) hat.kS 19 rfl
      obtain ⟨d20, -⟩ := cellR (w := w5) (v := .int .u8 (sj.p.priv : Int)) hat.kS 20 rfl
      obtain ⟨d21, -⟩ := cellR (w := w5) (v := up) hat.kS 21 rfl
      obtain ⟨d22, -⟩ := cellR (w := w5) (v := ui) hat.kS 22 rfl
      obtain ⟨d23, -⟩ := cellR (w := w5) (v := uu) hat.kS 23 rfl
      clear hat sp si su hstep f19 f20 f21 f22 f23
      go_upto_region 4 with fail
      go_cut [6, 7] from 9 to 38 (fun s6 s7 wx => StepAt (vtL sj.p b[j]).1 (vtL sj.p b[j]).2 S w w5 s6 s7 wx)
      case first =>
        go_region_with (go_at_call 44; refine (HST.out _ (by first | exact hB0 | exact hB1 _)).mono ?_; rintro e w6 ⟨qv, av, rfl, hq, ha, b6⟩; obtain ⟨xp, xi, xu, rfl, r1, r2, r3⟩ := hq; obtain ⟨Ap, cp, rfl, s1, s2⟩ := r1.form; obtain ⟨Ai, ci, rfl, s3, s4⟩ := r2.form; obtain ⟨Au, cu, rfl, s5, s6⟩ := r3.form; obtain ⟨Aa, ca, rfl, s7, s8⟩ := ha.form; (first | (have kp := parser_blk b6; obtain ⟨kc0, kc1, kc2, kc3, kc4⟩ := parser_cells kp; obtain ⟨kf0, kf1, kf2, kf3, kf4⟩ := parser_frz kp) | skip))
        all_goals (go_simp; go_wp2_with fail; go_meet)
        all_goals first
          | (have hkc := kc0; clear hkc; exact stepB HSS.out hsz5 rfl b6 r1 r2 r3 ha)
          | exact stepA HSS.out hsz5 hB0 b6 r1 r2 r3 ha
      case rest =>
        obtain ⟨pb, xp, xi, xu, rfl, hpb1, hpb2, hbc, kp, t1, t2, t3, has⟩ := hcut
        obtain ⟨Aa, ca, rfl, s7, s8⟩ := has.form
        obtain ⟨Bp, cp, rfl, m1, m2⟩ := t1.form
        obtain ⟨Bi, ci, rfl, m3, m4⟩ := t2.form
        obtain ⟨Bu, cu, rfl, m5, m6⟩ := t3.form
        have HATC := Lib.hid (HAT.out.on HSS.out hbc)
        obtain ⟨acts, hacts⟩ : ∃ l, (vtL sj.p b[j]).2 = l := ⟨_, rfl⟩
        obtain ⟨qp, hqp⟩ : ∃ l, (vtL sj.p b[j]).1 = l := ⟨_, rfl⟩
        have HOK := Lib.hid (vtL_acts sj.p b[j] HAT.out.inn.p)
        have HKD := Lib.hid (vtL_kd sj.p b[j] HAT.out.inn.p)
        have HPO := Lib.hid (vtL_ok sj.p b[j] HAT.out.inn.p)
        have HSTE := Lib.hid (show stepS sj b[j] = { acts.foldl doS sj with p := qp } by unfold stepS; rw [hacts, hqp])
        rw [hacts] at has s7 HOK HKD
        rw [hqp] at kp t1 t2 t3 HPO m1 m3 m5
        rw [hacts]
        have HAS := Lib.hid has
        have KP := Lib.hid kp
        have HT1 := Lib.hid t1
        have HT2 := Lib.hid t2
        have HT3 := Lib.hid t3
        clear has kp t1 t2 t3 hbc hacts hqp c19 c20 c21 c22 c23 d19 d20 d21 d22 d23 hc hc' hadb hB0 hB1 HST
        go_wp2
        go_loopw [8] (fun kv wr => ActsRel sj acts r c S w (.cells #[.int .i64 0, .int .i64 0, .slice none 0 0, .int .i64 0, .int .i64 0, .bool false, .int .u16 0, .int .i64 0, .int .i64 0, .slice none 0 0, .int .i64 0, .int .i64 0, .int .u16 0, .bool false, .bool false, .bool false, .slice none 0 0, .int .i64 0, .int .i64 0, .int .i64 0, .int .u8 0, .slice none 0 0, .slice none 0 0, .slice none 0 0] 32) wc kv wr) (fun kv _ => acts.length - (intOf kv).toNat)
        case atStart => exact ⟨0, Nat.zero_le _, rfl, Nat.le_refl _, fun _ _ _ => rfl, uc, ut, uo, up, ui, uu, HATC.out⟩
        case round =>
          obtain ⟨k, hk, rfl, hz7, hfr, yc, yt, yo, yp, yi, yu, hat⟩ := hrel
          have HFR := Lib.hid hfr
          have HAT2 := Lib.hid hat
          have hsz9 := hat.size
          clear hfr hat
          by_cases hlk : k < acts.length
          · obtain ⟨a, ha⟩ : ∃ a, acts[k]? = some a := ⟨_, List.getElem?_eq_getElem hlk⟩
            have hmem : a ∈ acts := List.mem_of_getElem? ha
            have HAO := Lib.hid (HOK.out a hmem)
            have hko : a.kind ≤ 3 := HKD.out a hmem
            have HKO := Lib.hid hko
            clear hko
            have HON2 := Lib.hid (acts_on sj acts k a ha)
            have hasr := HAS.out.keep (w' := wr.drew) (fun q hq => World.cell?_of_block (w := wc) (w' := wr.drew) (HFR.out _ (by omega) hq.2)) (fun q hq => by
              rcases hq with hq | hq
              · have := HSS.out _ hq
                exact World.cell?_of_block (w := wc) (w' := wr.drew) (HFR.out _ (by omega) (by omega))
              · exact World.cell?_of_block (w := wc) (w' := wr.drew) (HFR.out _ (by omega) hq.2))
            obtain ⟨ad2, vp2, vi2, hAd, hTb, l1, l2, s0, s1, s2, s3, s4, s5⟩ := hasr.get k a ha
            subst hAd
            obtain ⟨sk, hsk⟩ : ∃ x, (acts.take k).foldl doS sj = x := ⟨_, rfl⟩
            rw [hsk] at HAT2 HON2
            clear hsk
            have HVd := Lib.hid (show SCV wr.drew (fun x => S x ∨ (w.heap.size + 1 < x ∧ x < wr.heap.size)) (.agg (vS sk yc yt yo yp yi yu)) sk from ⟨_, _, _, _, _, _, rfl, HAT2.out.sl⟩)
            have HSd : Hid (∀ x, (S x ∨ (w.heap.size + 1 < x ∧ x < wr.heap.size)) → x < wr.drew.heap.size) := fun x hx => hx.elim (fun h => by show x < wr.heap.size; have := HSS.out x h; omega) (fun h => h.2)
            have HTd : Hid (∀ x, (S x ∨ (w.heap.size + 1 < x ∧ x < wc.heap.size)) → x < wr.drew.heap.size) := fun x hx => hx.elim (fun h => by show x < wr.heap.size; have := HSS.out x h; omega) (fun h => by show x < wr.heap.size; omega)
            have HL1 := Lib.hid l1
            have HL2 := Lib.hid l2
            have KS := Lib.hid (show wr.drew.heap[w.heap.size]? = some (.cells (vS sk yc yt yo yp yi yu) 32) from HAT2.out.kS)
            have hTb2 : (ad2.add (k * 6)).block < wr.heap.size := by omega
            clear ha hmem hasr l1 l2 hTb
            go_wp2_with fail
            refine wp_region_still_tail 5 (by kernel_rfl) (by kernel_rfl) ?_
            simp only [List.take_succ_cons, List.take_zero, List.drop_succ_cons, List.drop_zero]
            refine wpStill_loadS rfl (.tmp 2) rfl rfl KS.out rfl ?_
            repeat still_step
            try refine wpStill_nil ?_
            go_wp2_with fail
            ((with_reducible refine (dor_any _ vp2 vi2 sk a r c (fun x => S x ∨ (w.heap.size + 1 < x ∧ x < wr.heap.size)) (fun x => S x ∨ (w.heap.size + 1 < x ∧ x < wc.heap.size)) _ HSd.out HTd.out HVd.out HAT2.out.inn HL1.out HL2.out HAO.out HKO.out).mono ?_); rintro e w8 ⟨v8, rfl, hv8, b8⟩)
            have z8 : wr.heap.size ≤ w8.heap.size := b8.size
            have k8 : w8.heap[w.heap.size]? = _ := (b8.block _ (by show w.heap.size < wr.heap.size; omega)).trans KS.out
            have k81 : w8.heap[w.heap.size + 1]? = _ := (b8.block _ (by show w.heap.size + 1 < wr.heap.size; omega)).trans HAT2.out.kZ
            obtain ⟨zc, zt, zo, zp, zi, zu, rfl, hs8⟩ := hv8
            rename_i K hK
            refine hK _ _ ?_
            clear hK
            refine wpl_storeS rfl (.tmp 2) (.tmp 36) rfl rfl rfl k8 rfl rfl hs8.one ?_
            obtain ⟨W9, hW9⟩ : ∃ W9, W9 = w8.setRow w.heap.size (vS (doS sk a) zc zt zo zp zi zu) := ⟨_, rfl⟩
            rw [← hW9]
            have k9 : W9.heap[w.heap.size]? = some (.cells (vS (doS sk a) zc zt zo zp zi zu) 32) := by rw [hW9]; exact heap_setRow_same k8
            have o9 : ∀ b, b ≠ w.heap.size → W9.heap[b]? = w8.heap[b]? := fun b hb => by rw [hW9]; exact heap_setRow_other (fun e => hb e.symm)
            have z9 : W9.heap.size = w8.heap.size := by rw [hW9, size_setRow]
            have b9 : Below w.heap.size w W9 := by rw [hW9]; exact below_setRow (HAT2.out.bel.drew.trans (b8.mono (by show w.heap.size ≤ wr.heap.size; omega))) (Nat.le_refl _) _
            have hs9 : SSl W9 (fun x => S x ∨ (w.heap.size + 1 < x ∧ x < W9.heap.size)) (doS sk a) zc zt zo zp zi zu := (hs8.keep (fun q hq => World.cell?_of_block (o9 _ (by
              rcases hq with (h | h) | h
              · have := HSS.out _ h; omega
              · omega
              · have h1 : wr.heap.size ≤ q.block := h.1; omega)))).mono (fun x hx => by
              rcases hx with (h | h) | h
              · exact .inl h
              · exact .inr ⟨h.1, by rw [z9]; omega⟩
              · have h1 : wr.heap.size ≤ x := h.1
                exact .inr ⟨by omega, by rw [z9]; exact h.2⟩)
            have f9 : ∀ x, x ≠ w.heap.size → x < wc.heap.size → W9.heap[x]? = wc.heap[x]? := fun x hx hl => (o9 x hx).trans ((b8.block x (by show x < wr.heap.size; omega)).trans (HFR.out x hx hl))
            have R9 : Hid (ActsRel sj acts r c S w (.cells #[.int .i64 0, .int .i64 0, .slice none 0 0, .int .i64 0, .int .i64 0, .bool false, .int .u16 0, .int .i64 0, .int .i64 0, .slice none 0 0, .int .i64 0, .int .i64 0, .int .u16 0, .bool false, .bool false, .bool false, .slice none 0 0, .int .i64 0, .int .i64 0, .int .i64 0, .int .u8 0, .slice none 0 0, .slice none 0 0, .slice none 0 0] 32) wc (.int .i64 ((k + 1 : Nat) : Int)) W9) :=
              ⟨k + 1, hlk, rfl, by rw [z9]; omega, f9, zc, zt, zo, zp, zi, zu, by rw [HON2.out]; exact ⟨doS_in HAT2.out.inn a HAO.out, b9, by rw [z9]; omega, (o9 _ (by omega)).trans k81, k9, hs9⟩⟩
            clear k9 o9 z9 b9 hs9 hs8 k8 k81 hW9 b8 f9 s0 s1 s2 s3 s4 s5 z8
            go_simp
            go_wp2
            go_roundw
            case rel =>
              have h := R9.out
              rw [show ((k + 1 : Nat) : Int) = (k : Int) + 1 by omega] at h
              exact h
            case measure => simp [intOf]; omega
          · obtain rfl : k = acts.length := by omega
            have kpr : wr.heap[pb]? = _ := (HFR.out pb (by omega) hpb2).trans KP.out
            obtain ⟨kc0, kc1, kc2, kc3, kc4⟩ := parser_cells kpr
            obtain ⟨e19, g19⟩ := cellR (w := wr) HAT2.out.kS 19 rfl
            obtain ⟨e20, g20⟩ := cellR (w := wr) HAT2.out.kS 20 rfl
            obtain ⟨e21, g21⟩ := cellR (w := wr) HAT2.out.kS 21 rfl
            obtain ⟨e22, g22⟩ := cellR (w := wr) HAT2.out.kS 22 rfl
            obtain ⟨e23, g23⟩ := cellR (w := wr) HAT2.out.kS 23 rfl
            rw [List.take_of_length_le (Nat.le_refl _)] at HAT2
            clear kpr
            go_wp2
            go_roundw
            case rel =>
              obtain ⟨W9, hW9⟩ : ∃ W9, W9 = ((((wr.setCell ⟨w.heap.size, 19, none⟩ (.int .i64 (qp.mode : Int))).setCell ⟨w.heap.size, 20, none⟩ (.int .u8 (qp.priv : Int))).setCell ⟨w.heap.size, 21, none⟩ (.slice Bp qp.params.length cp)).setCell ⟨w.heap.size, 22, none⟩ (.slice Bi qp.inter.length ci)).setCell ⟨w.heap.size, 23, none⟩ (.slice Bu qp.utf.length cu) := ⟨_, rfl⟩
              have hrow := row_parser (p := qp) (xp := .slice Bp qp.params.length cp) (xi := .slice Bi qp.inter.length ci) (xu := .slice Bu qp.utf.length cu) HAT2.out.kS
              rw [← hW9] at hrow ⊢
              have z9 : W9.heap.size = wr.heap.size := by rw [hW9]; simp [World.setCell]
              have ho : ∀ b, b ≠ w.heap.size → W9.heap[b]? = wr.heap[b]? := fun b hb => by
                rw [hW9, Below.heap_setCell _ _ _ _ hb, Below.heap_setCell _ _ _ _ hb, Below.heap_setCell _ _ _ _ hb, Below.heap_setCell _ _ _ _ hb, Below.heap_setCell _ _ _ _ hb]
              have hbel : Below w.heap.size w W9 := by
                rw [hW9]
                exact ((((HAT2.out.bel.setCell (p := ⟨w.heap.size, 19, none⟩) (Nat.le_refl _) _).setCell (p := ⟨w.heap.size, 20, none⟩) (Nat.le_refl _) _).setCell (p := ⟨w.heap.size, 21, none⟩) (Nat.le_refl _) _).setCell (p := ⟨w.heap.size, 22, none⟩) (Nat.le_refl _) _).setCell (p := ⟨w.heap.size, 23, none⟩) (Nat.le_refl _) _
              have hkeep : ∀ q : Addr, (S q.block ∨ (w.heap.size + 1 < q.block ∧ q.block < wr.heap.size)) → W9.cell? q = wr.cell? q := fun q hq => World.cell?_of_block (ho _ (by
                rcases hq with h | h
                · have := HSS.out _ h; omega
                · omega))
              have hkeep2 : ∀ q : Addr, (S q.block ∨ (w.heap.size + 1 < q.block ∧ q.block < wc.heap.size)) → W9.cell? q = wc.cell? q := fun q hq => World.cell?_of_block ((ho _ (by
                rcases hq with h | h
                · have := HSS.out _ h; omega
                · omega)).trans (HFR.out _ (by
                rcases hq with h | h
                · have := HSS.out _ h; omega
                · omega) (by
                rcases hq with h | h
                · have := HSS.out _ h; omega
                · omega)))
              have hm2 : ∀ x, (S x ∨ (w.heap.size + 1 < x ∧ x < wc.heap.size)) → (S x ∨ (w.heap.size + 1 < x ∧ x < W9.heap.size)) := fun x hx => by
                rcases hx with h | h
                · exact .inl h
                · exact .inr ⟨h.1, by rw [z9]; omega⟩
              have hm1 : ∀ x, (S x ∨ (w.heap.size + 1 < x ∧ x < wr.heap.size)) → (S x ∨ (w.heap.size + 1 < x ∧ x < W9.heap.size)) := fun x hx => by rw [z9]; exact hx
              obtain ⟨y1, y2, y3, -, -, -⟩ := (HAT2.out.sl.keep hkeep).mono hm1
              refine ⟨j + 1, hlt, by go_num, yc, yt, yo, .slice Bp qp.params.length cp, .slice Bi qp.inter.length ci, .slice Bu qp.utf.length cu, ?_⟩
              rw [HON.out, HSTE.out]
              exact ⟨{ HAT2.out.inn with p := HPO.out }, hbel, by rw [z9]; exact hsz9, (ho _ (by omega)).trans HAT2.out.kZ, hrow, y1, y2, y3, (HT1.out.keep hkeep2).mono hm2, (HT2.out.keep hkeep2).mono hm2, (HT3.out.keep hkeep2).mono hm2⟩
            case measure => simp [intOf]; omega
    · obtain rfl : j = b.length := by omega
      rw [List.take_of_length_le (Nat.le_refl _)] at hat
      have HAT := Lib.hid hat
      have hsz5 := hat.size
      clear hat
      go_upto_region 10 with fail
      refine wp_region_lit ?_
      refine wpl_loadS rfl (.tmp 2) rfl rfl HAT.out.kS rfl ?_
      refine wpl_storeS rfl (.tmp 4) (.tmp 39) rfl rfl rfl HAT.out.kZ rfl rfl HAT.out.sl.one ?_
      go_wp2
      refine scEndV (w.heap.size + 1) 4 Try.results27 ?_ ?_ HAT.out.kZ (by omega) HAT.out.bel HSS.out HAT.out.sl (fun x hx => hx)
      all_goals rfl
end Go.Proofs.Ytejemcpkmfhenaa

namespace Go.Proofs.Ytejemcpkmfhenaa
open Go.RowKit
set_option linter.unusedVariables false

/-- append of a string's bytes onto a row of bytes of the call's own, for the walk. -/
theorem wpl_appZ (w : World) {ops : Array Oper} {rest : List Oper} {o : Oper} {a : Act} {Q : Exit → Act → World → Prop} (hgd : o.guard = none) (s x : Operand)
    (ho : o.op = .call { callee := .builtin .append, args := #[s, x], argTypes := #[23, 9] })
    (base : Nat) (v : Value) (l : List UInt8) (m : ByteArray) (hs : a.eval s = v) (hx : a.eval x = .string m) (hown : OB w base v l) (hlen : l.length + m.size ≤ 1099511627776) (hbase : base ≤ w.heap.size)
    (h : ∀ v' w', OB w' base v' (l ++ m.data.toList) → w.grownBy w' v.ownBlock → Below base w w' → wpList Try.prog ops Q rest (a.put o.dst v') w') :
    wpList Try.prog ops Q (o :: rest) a w := by
  obtain ⟨i0, hi0, hz0, hz1, hz2⟩ := info_parts byteInfo
  have hlt := World.ownsRow.lt hown
  refine Lib.wpList_append_own_string w hgd s x 23 9 ho base 5 i0 Try.underlying23 Try.underlying9 hi0 hz0 hz1 hz2 v l.length (vBs l) hs hown m hx (by simp only [maxLen]; omega) (by omega) hbase ?_
  intro v' w' h1 h2 _
  refine h v' w' ?_ h2 ((Below.refl _ _).grown h2 hbase (fun k hk => (hlt k hk).1))
  unfold OB
  have e1 : (l ++ m.data.toList).length = l.length + m.size := by simp
  have e2 : vBs (l ++ m.data.toList) = vBs l ++ Lib.strCells m := by simp [vBs, vB, Lib.strCells]
  rw [e1, e2]
  exact h1

def SomeB (l : List UInt8) (w : World) (e : Ending) (w' : World) : Prop := ∃ v m, e = .returned v ∧ OB w' w.heap.size v m ∧ m.length ≤ 20 * l.length ∧ Below w.heap.size w w'
def SomeBRel (l : List UInt8) (B : Nat) (w1 : World) (o i : Value) (wr : World) : Prop :=
  ∃ (k : Nat) (m : List UInt8), k ≤ l.length ∧ i = .int .i64 (k : Int) ∧ m.length ≤ 20 * k ∧ OB wr (B + 1) o m ∧ Below (B + 1) w1 wr
def shortS : Option Value → Bool
  | some (.string s) => decide (s.size ≤ 20)
  | _ => false
theorem shortS_ex {x : Option Value} (h : shortS x = true) : ∃ s : ByteArray, s.size ≤ 20 ∧ x = some (.string s) := by
  unfold shortS at h
  split at h
  · exact ⟨_, by simpa using h, rfl⟩
  · cases h
theorem short_lt {n : Nat} {f : Nat → Bool} (h : (List.range n).all f = true) : ∀ j, j < n → f j = true := fun j hj => List.all_eq_true.1 h j (List.mem_range.2 hj)
theorem short_all {cs : List (Option Value)} (h : cs.all shortS = true) : ∀ x ∈ cs, ∃ s : ByteArray, s.size ≤ 20 ∧ x = some (.string s) := fun x hx => shortS_ex (List.all_eq_true.1 h x hx)
set_option maxHeartbeats 2000000 in
set_option maxRecDepth 100000 in
theorem seatBytes_any (v : Value) (l : List UInt8) (w : World) (hv : BS w w.heap.size v l) (hl : l.length ≤ 1048576) : Calls Try.prog 28 #[v] w (SomeB l w) := by
  obtain ⟨A, cp, rfl, g1, g2, _⟩ := hv.at_
  unfold maxLen at g2
  go_enter Try.func28, Try.ntmps28
  go_wp2
  generalize hO : Obj.cells _ 9 _ = O
  have hC : ∀ j, j < 69 → ∃ s : ByteArray, s.size ≤ 20 ∧ (w.alloc O).cell? ⟨w.heap.size, j, none⟩ = some (.string s) := by
    subst hO
    intro j hj
    rw [World.cell?_alloc_new]
    refine shortS_ex ?_
    revert j
    refine short_lt (n := 69) (f := fun j => shortS _) ?_
    kernel_rfl
  clear hO
  have hB1 : Below w.heap.size w (w.alloc O) := (Below.refl _ _).alloc (Nat.le_refl _) _
  have hs1 : (w.alloc O).heap.size = w.heap.size + 1 := by simp
  have hv1 := hv.below hB1
  generalize w.alloc O = W1 at *
  go_loopw [4, 5] (fun o i wr => SomeBRel l w.heap.size W1 o i wr) (fun _ i _ => l.length - (intOf i).toNat)
  case atStart => exact ⟨0, [], Nat.zero_le _, rfl, by simp, OB.nil _ _, Below.refl _ _⟩
  case round =>
    obtain ⟨k, m, hk, rfl, hm, ho, hbel⟩ := hrel
    by_cases hlt : k < l.length
    · have hz := hbel.size
      obtain ⟨ad, rfl, hc⟩ := (hv1.below (hbel.mono (Nat.le_succ _))).cellC k hlt
      have hbl := (l[k]).toNat_lt
      unfold vB at hc
      generalize l[k].toNat = b at *
      obtain ⟨j, hj⟩ : ∃ j, b % 69 = j := ⟨_, rfl⟩
      have hj17 : j < 69 := by omega
      obtain ⟨s, hsz, hcs⟩ := hC j hj17
      have hcs2 : wr.cell? ⟨w.heap.size, j, none⟩ = some (.string s) := (hbel.cell (p := ⟨w.heap.size, j, none⟩) (Nat.lt_succ_self _)).trans hcs
      have e1 : (b : Int) % 69 = (j : Int) := by omega
      have HO := Lib.hid ho
      have hj1 : (j : Int) < 69 := by omega
      clear hv ho hC hv1 hcs hj
      go_wp2_with (first
        | (at_builtin; refine wpl_appZ _ rfl (.tmp 13) (.tmp 24) rfl (w.heap.size + 1) _ _ s rfl rfl HO.out (by omega) (by omega) ?_; intro v3 w3 ho3 hg3 hbel3))
      go_roundw
      case rel => exact ⟨k + 1, m ++ s.data.toList, hlt, by go_num, by simp; omega, ho3, hbel.trans hbel3⟩
      case measure => simp [intOf]; omega
    · obtain rfl : k = l.length := by omega
      clear hv hC hv1
      go_wp2
      go_ret
      exact ⟨_, m, rfl, World.ownsRow.mono ho (Nat.le_succ _), hm, hB1.trans (hbel.mono (Nat.le_succ _))⟩
end Go.Proofs.Ytejemcpkmfhenaa

namespace Go.Proofs.Ytejemcpkmfhenaa
set_option linter.unusedVariables false

/-- No half is alone, on either of a screen's grids. -/
structure ScW (s : Sc) (r c : Nat) : Prop where
  cells : Whole s.cells r c
  other : s.alt = true → Whole s.other r c
theorem newS_w (rows cols : Int) (r c : Nat) : ScW (newS rows cols) r c := ⟨blankL_whole _ _ _ _, fun e => by cases e⟩
theorem ScIn.up_w {s : Sc} {r c : Nat} (hi : ScIn s r c) (h : ScW s r c) (top bottom n : Int) : Whole (upL s.cells s.cols top bottom n) r c := by
  rw [hi.cols]; exact upL_whole hi.g h.cells _ _ _
theorem ScIn.down_w {s : Sc} {r c : Nat} (hi : ScIn s r c) (h : ScW s r c) (top bottom n : Int) : Whole (downL s.cells s.cols top bottom n) r c := by
  rw [hi.cols]; exact downL_whole hi.g h.cells _ _ _
theorem downS_w {s : Sc} {r c : Nat} (hi : ScIn s r c) (h : ScW s r c) : ScW (downS s) r c := by
  unfold downS
  split
  · exact ⟨hi.up_w h _ _ _, h.other⟩
  split
  · exact ⟨h.cells, h.other⟩
  · exact ⟨h.cells, h.other⟩
theorem crS_w {s : Sc} {r c : Nat} (hi : ScIn s r c) (h : ScW s r c) : ScW (crS s) r c := ⟨(downS_w hi h).cells, (downS_w hi h).other⟩
theorem wrapS_w {s : Sc} {r c : Nat} (hi : ScIn s r c) (h : ScW s r c) : ScW (wrapS s) r c := by
  unfold wrapS
  split
  · exact crS_w hi h
  · exact h
theorem set_other {l : List Cl} {v : Cl} {c y y' x i : Nat} (hx : x < c) (hne : y' ≠ y) (h1 : y * c ≤ i) (h2 : i < y * c + c) : getC (l.set i v) (y' * c + x) = getC l (y' * c + x) := by
  unfold getC List.getD
  rw [List.getElem?_set_ne (row_other hx hne h1 h2)]
theorem atS_eq {s : Sc} {r c y x : Nat} (hi : ScIn s r c) (hy : s.y = y) (hx : s.x = x) : atS s = y * c + x := by
  unfold atS
  rw [hy, hx, hi.cols, show (y : Int) * (c : Int) + (x : Int) = ((y * c + x : Nat) : Int) by rw [Int.natCast_add, Int.natCast_mul]]
  exact Int.toNat_natCast _
theorem putS_w {s : Sc} {r c : Nat} (hi : ScIn s r c) (h : ScW s r c) (rn w : Int) (hw : w = 1 ∨ (w = 2 ∧ s.x + 1 < s.cols)) : ScW (putS s rn w) r c := by
  have hm : Whole (mendL (if w = 2 then cells2 s rn else cells1 s rn) s.cols s.y) r c := by
    have hcols := hi.cols
    have y0 := hi.y0
    have x0 := hi.x0
    have x1 := hi.x1
    have hl : (if w = 2 then cells2 s rn else cells1 s rn).length = s.cells.length := by split <;> simp [cells1, cells2]
    obtain ⟨y, hy⟩ : ∃ y : Nat, s.y = y := ⟨s.y.toNat, by omega⟩
    obtain ⟨x, hx⟩ : ∃ x : Nat, s.x = x := ⟨s.x.toNat, by omega⟩
    have ha := atS_eq hi hy hx
    rw [hi.cols]
    refine mendL_whole (by rw [hl]; exact hi.g) _ (fun y' hy' hne => (h.cells y' hy').same (fun x' hx' => ?_))
    by_cases h2 : w = 2
    · rw [if_pos h2]
      unfold cells2
      rw [ha, set_other hx' (y := y) (by omega) (by omega) (by omega), set_other hx' (y := y) (by omega) (by omega) (by omega)]
    · rw [if_neg h2]
      unfold cells1
      rw [ha, set_other hx' (y := y) (by omega) (by omega) (by omega)]
  unfold putS
  split
  · exact ⟨hm, h.other⟩
  · exact ⟨hm, h.other⟩
theorem printS_w {s : Sc} {r c : Nat} (hi : ScIn s r c) (h : ScW s r c) (rn : Int) : ScW (printS s rn) r c := by
  have hwi := wrapS_in hi
  have hw := wrapS_w hi h
  have x1 := hwi.x1
  have e2 := hwi.cols
  have hw3 : widthL rn = 0 ∨ widthL rn = 1 ∨ widthL rn = 2 := by
    unfold widthL
    split
    · exact .inl rfl
    · split
      · exact .inr (.inr rfl)
      · exact .inr (.inl rfl)
  unfold printS
  by_cases h0 : widthL rn = 0
  · rw [if_pos h0]; exact h
  rw [if_neg h0]
  by_cases h2 : widthL rn = 2 ∧ (wrapS s).x = (wrapS s).cols - 1
  · rw [if_pos h2]
    by_cases h3 : (wrapS s).auto = false ∨ (wrapS s).cols = 1
    · rw [if_pos h3]; exact hw
    · rw [if_neg h3]
      have hc := crS_in hwi
      have hcc := hc.cols
      have hx : (crS (wrapS s)).x = 0 := rfl
      have hc1 := hc.g.c1
      have hne : ¬ (wrapS s).cols = 1 := fun e => h3 (.inr e)
      exact putS_w hc (crS_w hwi hw) rn 2 (.inr ⟨rfl, by rw [hx, hcc]; omega⟩)
  · rw [if_neg h2]
    refine putS_w hwi hw rn _ ?_
    rcases hw3 with h4 | h4 | h4
    · exact absurd h4 h0
    · exact .inl h4
    · refine .inr ⟨h4, ?_⟩
      have : ¬ (wrapS s).x = (wrapS s).cols - 1 := fun e => h2 ⟨h4, e⟩
      omega
theorem controlS_w {s : Sc} {r c : Nat} (hi : ScIn s r c) (h : ScW s r c) (b : Nat) : ScW (controlS s b) r c := by
  unfold controlS
  split
  · exact ⟨h.cells, h.other⟩
  split
  · exact ⟨h.cells, h.other⟩
  split
  · exact downS_w hi h
  split
  · exact ⟨h.cells, h.other⟩
  · exact h
theorem escapeS_w {s : Sc} {r c : Nat} (hi : ScIn s r c) (h : ScW s r c) (b : Nat) : ScW (escapeS s b) r c := by
  unfold escapeS
  split
  · exact ⟨h.cells, h.other⟩
  split
  · exact ⟨h.cells, h.other⟩
  split
  · exact downS_w hi h
  split
  · exact crS_w hi h
  split
  · split
    · exact ⟨hi.down_w h _ _ _, h.other⟩
    · split
      · exact ⟨h.cells, h.other⟩
      · exact ⟨h.cells, h.other⟩
  split
  · exact ⟨h.cells, h.other⟩
  split
  · exact newS_w _ _ _ _
  · exact h
theorem modeS_w {s : Sc} {r c : Nat} (h : ScW s r c) (k : Int) (on : Bool) : ScW (modeS s k on) r c := by
  unfold modeS
  split
  · exact ⟨h.cells, h.other⟩
  split
  · exact ⟨h.cells, h.other⟩
  split
  · exact ⟨blankL_whole _ _ _ _, fun _ => h.cells⟩
  split
  · rename_i hc
    exact ⟨h.other hc.2.2, fun e => by cases e⟩
  · exact h
theorem fill_row {l : List Cl} {c lo hi y : Nat} (h : RowW l c y) (hd : (lo ≤ y * c ∧ y * c + c ≤ hi) ∨ y * c + c ≤ lo ∨ hi ≤ y * c) : RowW (fillL l (fun _ => blankC) lo hi) c y := by
  by_cases hb : lo ≤ y * c ∧ y * c + c ≤ hi
  · exact RowW.blank (fun x hx => by rw [fill_blankC, if_pos (by omega)])
  · exact h.same (fun x hx => by rw [fill_blankC, if_neg (by omega)])
theorem eraseS_w {s : Sc} {r c : Nat} (hi : ScIn s r c) (h : ScW s r c) (row : Bool) (k : Int) : ScW (eraseS s row k) r c := by
  unfold eraseS
  split
  · exact ⟨h.cells, h.other⟩
  refine ⟨?_, h.other⟩
  show Whole (mendL (fillL s.cells (fun _ => blankC) _ _) s.cols s.y) r c
  have hcols := hi.cols
  have y0 := hi.y0
  have x0 := hi.x0
  have x1 := hi.x1
  have hn := hi.g.n
  obtain ⟨y, hy⟩ : ∃ y : Nat, s.y = y := ⟨s.y.toNat, by omega⟩
  obtain ⟨x, hx⟩ : ∃ x : Nat, s.x = x := ⟨s.x.toNat, by omega⟩
  obtain ⟨p, hp⟩ : ∃ p : Nat, p = y * c := ⟨_, rfl⟩
  have hyc : (y : Int) * (c : Int) = (p : Int) := by rw [hp, Int.natCast_mul]
  rw [hcols, hy, hx, Int.add_mul, hyc, Int.one_mul]
  have hxc : x < c := by omega
  refine mendL_whole (by rw [fillL_len]; exact hi.g) _ (fun y' hy' hne => fill_row (h.cells y' hy') ?_)
  obtain ⟨q, hq⟩ : ∃ q : Nat, q = y' * c := ⟨_, rfl⟩
  have hqn : q + c ≤ s.cells.length := by
    have := Nat.mul_le_mul_right c hy'
    rw [Nat.succ_eq_add_one, Nat.add_mul] at this
    omega
  have hqp : q + c ≤ p ∨ p + c ≤ q := by
    rcases Nat.lt_or_ge y' y with h1 | h1
    · have := Nat.mul_le_mul_right c h1
      rw [Nat.succ_eq_add_one, Nat.add_mul] at this
      omega
    · have h3 : y + 1 ≤ y' := by omega
      have := Nat.mul_le_mul_right c h3
      rw [Nat.add_mul] at this
      omega
  rw [← hq]
  clear hyc hq hp hn hne
  by_cases k0 : k = 0
  · have k1 : ¬ k = 1 := by omega
    rw [if_pos k0, if_neg k1]
    cases row with
    | true => rw [if_pos rfl]; omega
    | false => rw [if_neg (by decide)]; omega
  · rw [if_neg k0]
    by_cases k1 : k = 1
    · rw [if_pos k1]
      cases row with
      | true => rw [if_pos rfl]; omega
      | false => rw [if_neg (by decide)]; omega
    · rw [if_neg k1]
      cases row with
      | true => rw [if_pos rfl, if_pos rfl]; omega
      | false => rw [if_neg (by decide), if_neg (by decide)]; omega
theorem seqS_w {s : Sc} {r c : Nat} (hi : ScIn s r c) (h : ScW s r c) (b : Nat) (l : List Int) : ScW (seqS s b l) r c := by
  have hs : ∀ t : Sc, t.cells = s.cells → t.other = s.other → t.alt = s.alt → ScW t r c := fun t e1 e2 e3 => ⟨by rw [e1]; exact h.cells, by rw [e2, e3]; exact h.other⟩
  unfold seqS
  dsimp only
  by_cases c101 : b = 65
  · rw [if_pos c101]
    exact hs _ rfl rfl rfl
  rw [if_neg c101]
  by_cases c102 : b = 66
  · rw [if_pos c102]
    exact hs _ rfl rfl rfl
  rw [if_neg c102]
  by_cases c103 : b = 67
  · rw [if_pos c103]
    exact hs _ rfl rfl rfl
  rw [if_neg c103]
  by_cases c104 : b = 68
  · rw [if_pos c104]
    exact hs _ rfl rfl rfl
  rw [if_neg c104]
  by_cases c105 : b = 71 ∨ b = 96
  · rw [if_pos c105]
    exact hs _ rfl rfl rfl
  rw [if_neg c105]
  by_cases c106 : b = 100
  · rw [if_pos c106]
    exact hs _ rfl rfl rfl
  rw [if_neg c106]
  by_cases c107 : b = 72 ∨ b = 102
  · rw [if_pos c107]
    exact hs _ rfl rfl rfl
  rw [if_neg c107]
  by_cases c108 : b = 74
  · rw [if_pos c108]
    exact eraseS_w hi h _ _
  rw [if_neg c108]
  by_cases c109 : b = 75
  · rw [if_pos c109]
    exact eraseS_w hi h _ _
  rw [if_neg c109]
  by_cases c110 : b = 76
  · rw [if_pos c110]
    by_cases hy : s.top ≤ s.y ∧ s.y ≤ s.bottom
    · rw [if_pos hy]; exact ⟨hi.down_w h _ _ _, h.other⟩
    · rw [if_neg hy]; exact hs _ rfl rfl rfl
  rw [if_neg c110]
  by_cases c111 : b = 77
  · rw [if_pos c111]
    by_cases hy : s.top ≤ s.y ∧ s.y ≤ s.bottom
    · rw [if_pos hy]; exact ⟨hi.up_w h _ _ _, h.other⟩
    · rw [if_neg hy]; exact hs _ rfl rfl rfl
  rw [if_neg c111]
  by_cases c112 : b = 64
  · rw [if_pos c112]
    exact ⟨by show Whole (insertL s.cells s.cols s.y s.x _) r c; rw [hi.cols]; exact insertL_whole hi.g h.cells _ _ _, h.other⟩
  rw [if_neg c112]
  by_cases c113 : b = 80
  · rw [if_pos c113]
    exact ⟨by show Whole (deleteL s.cells s.cols s.y s.x _) r c; rw [hi.cols]; exact deleteL_whole hi.g h.cells _ _ _, h.other⟩
  rw [if_neg c113]
  by_cases c114 : b = 88
  · rw [if_pos c114]
    exact ⟨by show Whole (eraseL s.cells s.cols s.y s.x _) r c; rw [hi.cols]; exact eraseL_whole hi.g h.cells _ _ _, h.other⟩
  rw [if_neg c114]
  by_cases c115 : b = 83
  · rw [if_pos c115]
    exact ⟨hi.up_w h _ _ _, h.other⟩
  rw [if_neg c115]
  by_cases c116 : b = 84
  · rw [if_pos c116]
    exact ⟨hi.down_w h _ _ _, h.other⟩
  rw [if_neg c116]
  by_cases c117 : b = 114
  · rw [if_pos c117]
    by_cases hc : paramL l 0 1 - 1 < min (paramL l 1 s.rows) s.rows - 1
    · rw [if_pos hc]; exact hs _ rfl rfl rfl
    · rw [if_neg hc]; exact h
  rw [if_neg c117]
  by_cases c118 : b = 103
  · rw [if_pos c118]
    by_cases g0 : paramL l 0 0 = 0
    · rw [if_pos g0]; exact hs _ rfl rfl rfl
    rw [if_neg g0]
    by_cases g3 : paramL l 0 0 = 3
    · rw [if_pos g3]; exact hs _ rfl rfl rfl
    rw [if_neg g3]; exact h
  rw [if_neg c118]
  by_cases c119 : b = 109
  · rw [if_pos c119]
    exact hs _ rfl rfl rfl
  rw [if_neg c119]
  exact h
theorem foldl_mode_w (l : List Int) (on : Bool) {r c : Nat} : ∀ {s : Sc}, ScW s r c → ScW (l.foldl (fun s k => modeS s k on) s) r c := by
  induction l with
  | nil => intro s h; exact h
  | cons x l ih => intro s h; exact ih (modeS_w h x on)
theorem doS_w {s : Sc} {r c : Nat} (hi : ScIn s r c) (h : ScW s r c) (a : Ac) : ScW (doS s a) r c := by
  unfold doS
  split
  · exact printS_w hi h _
  split
  · exact controlS_w hi h _
  split
  · split
    · exact escapeS_w hi h _
    · exact h
  split
  · split
    · exact h
    split
    · exact foldl_mode_w _ _ h
    split
    · exact seqS_w hi h _ _
    · exact h
  · exact h
theorem foldl_do_w (l : List Ac) {r c : Nat} : ∀ {s : Sc}, ScIn s r c → ScW s r c → (∀ a ∈ l, ActOk a) → ScW (l.foldl doS s) r c := by
  induction l with
  | nil => intro s _ h _; exact h
  | cons x l ih => intro s hi h ha; exact ih (doS_in hi x (ha x (by simp))) (doS_w hi h x) (fun a hm => ha a (by simp [hm]))
theorem stepS_w {s : Sc} {r c : Nat} (hi : ScIn s r c) (h : ScW s r c) (b : UInt8) : ScW (stepS s b) r c := by
  have hf := foldl_do_w (vtL s.p b).2 hi h (vtL_acts s.p b hi.p)
  exact ⟨hf.cells, hf.other⟩
/-- Behind any bytes no half is alone on a screen. -/
theorem feedS_w (l : List UInt8) {r c : Nat} : ∀ {s : Sc}, ScIn s r c → ScW s r c → ScW (feedS s l) r c := by
  unfold feedS
  induction l with
  | nil => intro s _ h; exact h
  | cons x l ih => intro s hi h; exact ih (stepS_in hi x) (stepS_w hi h x)
end Go.Proofs.Ytejemcpkmfhenaa

namespace Go.Proofs.Ytejemcpkmfhenaa
open Go.RowKit
set_option linter.unusedVariables false
set_option linter.unusedSimpArgs false

theorem step_loadS {ops : Array Oper} {o : Oper} {a : Act} {w : World} {K : Act → World → Prop} {Q : Exit → Act → World → Prop} {E : Prop} (hgd : o.guard = none) (x : Operand) (ho : o.op = .load 32 x) {g : Nat} {xs : Array Value} (hx : a.eval x = .pointer (some ⟨g, 0, none⟩))
    (hg : w.heap[g]? = some (.cells xs 32)) (hn : xs.size = 24) (h : K (a.put o.dst (.agg xs)) w) : if Region.wanted o (yielded ops a.tmps) = true then Oper.wp Try.prog o a w K Q else E := by
  have hw : Region.wanted o (yielded ops a.tmps) = true := by simp [Region.wanted, hgd]
  rw [if_pos hw]
  unfold Oper.wp execOp
  simp only [ho, hx, Sem.run_bind, run_loadS hg hn, Result.andThen_ok, Sem.run_pure]
  exact h
theorem step_storeS {ops : Array Oper} {o : Oper} {a : Act} {w : World} {K : Act → World → Prop} {Q : Exit → Act → World → Prop} {E : Prop} (hgd : o.guard = none) (x y : Operand) (ho : o.op = .store 32 x y) {g : Nat} {old xs : Array Value} (hx : a.eval x = .pointer (some ⟨g, 0, none⟩)) (hy : a.eval y = .agg xs)
    (hg : w.heap[g]? = some (.cells old 32)) (ho2 : old.size = 24) (hn : xs.size = 24) (h1 : xs.all (·.oneCell') = true) (h : K (a.put o.dst undef) (w.setRow g xs)) : if Region.wanted o (yielded ops a.tmps) = true then Oper.wp Try.prog o a w K Q else E := by
  have hw : Region.wanted o (yielded ops a.tmps) = true := by simp [Region.wanted, hgd]
  rw [if_pos hw]
  unfold Oper.wp execOp
  simp only [ho, hx, hy, Sem.run_bind, run_storeS hg ho2 hn h1, Result.andThen_ok, Sem.run_pure]
  exact h
def SeatScr (w : World) (e : Ending) (w' : World) : Prop := ∃ v s r c, e = .returned v ∧ SCV w' (NewB w' w.heap.size) v s ∧ ScIn s r c ∧ r ≤ 6 ∧ c ≤ 9 ∧ Below w.heap.size w w'
/-- The same, and that no half of a rune is alone on it. -/
def SeatScrW (w : World) (e : Ending) (w' : World) : Prop := ∃ v s r c, e = .returned v ∧ SCV w' (NewB w' w.heap.size) v s ∧ (ScIn s r c ∧ ScW s r c) ∧ r ≤ 6 ∧ c ≤ 9 ∧ Below w.heap.size w w'
/-- The end: the screen that Feed has answered is the result. -/
theorem seatEnd {w W w2 w6 w7 : World} {s : Sc} {r c : Nat} (p : Tmp) {zc zt zo zp zi zu : Value} {fn : Func} {a : Act} {z : Array Value} (hfn : fn.results = #[.cell p 32]) (ht : a.tmps.getD p undef = .pointer (some ⟨w.heap.size, 0, none⟩)) (hd : a.defers = [])
    (k7 : w7.heap[w.heap.size]? = some (.cells z 32)) (b6 : Below W.heap.size W w6) (b3 : Below w.heap.size w W) (z3 : W.heap.size = w2.heap.size + 1) (z2 : w.heap.size + 1 ≤ w2.heap.size) (b7 : Below w6.heap.size w6 w7) (hs : SSl w7 (Since (NewB w2 (w.heap.size + 1)) w6 w7) s zc zt zo zp zi zu) (hi : ScIn s r c ∧ ScW s r c) (hr : r ≤ 6) (hc : c ≤ 9) :
    bodyPost Try.prog fn (SeatScrW w) .ret a (w7.setRow w.heap.size (vS s zc zt zo zp zi zu)) := by
  have s6 := b6.size
  have s7 := b7.size
  refine bodyPost_ret (v := .agg (vS s zc zt zo zp zi zu)) (resultS hfn ht (heap_setRow_same k7) rfl) hd ?_
  have hb : Below w.heap.size w w7 := (b3.trans (b6.mono (by omega))).trans (b7.mono (by omega))
  refine ⟨_, s, r, c, rfl, ⟨_, _, _, _, _, _, rfl, (hs.keep (fun q hq => World.cell?_of_block (heap_setRow_other ?_))).mono (fun x hx => ?_)⟩, hi, hr, hc, below_setRow hb (Nat.le_refl _) _⟩
  · rcases hq with h | h
    · have := h.1; omega
    · have h1 : w6.heap.size ≤ q.block := h.1; omega
  · rcases hx with h | h
    · have h1 := h.1
      have h2 := h.2
      exact ⟨by omega, by rw [size_setRow]; omega⟩
    · have h1 : w6.heap.size ≤ x := h.1
      have h2 : x < w7.heap.size := h.2
      exact ⟨by omega, by rw [size_setRow]; exact h2⟩
set_option maxHeartbeats 2000000 in
set_option maxRecDepth 100000 in
theorem seatScreenW_any (r c : Nat) (hr : r < 256) (hc : c < 256) (v : Value) (l : List UInt8) (w : World) (hv : BS w w.heap.size v l) (hl : l.length ≤ 1048576) : Calls Try.prog 8 #[.int .u8 (r : Int), .int .u8 (c : Int), v] w (SeatScrW w) := by
  have HV := Lib.hid hv
  obtain ⟨A, cp, rfl, g1, g2, _⟩ := hv.at_
  unfold maxLen at g2
  clear hv
  obtain ⟨R, hR⟩ : ∃ R : Nat, (r : Int) % 6 = (R : Int) := ⟨r % 6, by omega⟩
  obtain ⟨C, hC⟩ : ∃ C : Nat, (c : Int) % 9 = (C : Int) := ⟨c % 9, by omega⟩
  have hR6 : R < 6 := by omega
  have hC9 : C < 9 := by omega
  go_enter Try.func8, Try.ntmps8
  have hnew := fun W => Newr_yes (R + 1) (C + 1) W (by omega) (by omega) (by omega) (by omega)
  rw [show ((R + 1 : Nat) : Int) = (R : Int) + 1 by omega, show ((C + 1 : Nat) : Int) = (C : Int) + 1 by omega] at hnew
  have HNEW := Lib.hid hnew
  have HNI := Lib.hid (newS_in (R + 1) (C + 1) (by omega) (by omega) (by omega) (by omega))
  clear hnew
  go_wp2_with fail
  refine (HNEW.out _).mono ?_
  rintro e w2 ⟨v2, rfl, hv2, b2⟩
  obtain ⟨uc, ut, uo, up, ui, uu, rfl, hs2⟩ := hv2
  have z1 : (w.alloc (.cells #[.int .i64 0, .int .i64 0, .slice none 0 0, .int .i64 0, .int .i64 0, .bool false, .int .u16 0, .int .i64 0, .int .i64 0, .slice none 0 0, .int .i64 0, .int .i64 0, .int .u16 0, .bool false, .bool false, .bool false, .slice none 0 0, .int .i64 0, .int .i64 0, .int .i64 0, .int .u8 0, .slice none 0 0, .slice none 0 0, .slice none 0 0] 32)).heap.size = w.heap.size + 1 := by simp
  have k1 : w2.heap[w.heap.size]? = some (.cells #[.int .i64 0, .int .i64 0, .slice none 0 0, .int .i64 0, .int .i64 0, .bool false, .int .u16 0, .int .i64 0, .int .i64 0, .slice none 0 0, .int .i64 0, .int .i64 0, .int .u16 0, .bool false, .bool false, .bool false, .slice none 0 0, .int .i64 0, .int .i64 0, .int .i64 0, .int .u8 0, .slice none 0 0, .slice none 0 0, .slice none 0 0] 32) := by
    refine (b2.block _ (by rw [z1]; omega)).trans ?_
    show (w.heap.push _)[w.heap.size]? = _
    simp
  have z2 : w.heap.size + 1 ≤ w2.heap.size := by have := b2.size; rw [z1] at this; exact this
  have bel2 : Below w.heap.size w w2 := ((Below.refl _ _).alloc (Nat.le_refl _) _).trans (b2.mono (by rw [z1]; omega))
  rw [z1] at hs2
  clear b2 z1
  rename_i K hK
  refine hK _ _ ?_
  clear hK
  iterate 4 (refine wpList_plain rfl fun K hK => ?_; go_simp; refine hK _ _ ?_; clear hK K)
  have k2 : (w2.alloc (.cells #[.int .i64 0, .int .i64 0, .slice none 0 0, .int .i64 0, .int .i64 0, .bool false, .int .u16 0, .int .i64 0, .int .i64 0, .slice none 0 0, .int .i64 0, .int .i64 0, .int .u16 0, .bool false, .bool false, .bool false, .slice none 0 0, .int .i64 0, .int .i64 0, .int .i64 0, .int .u8 0, .slice none 0 0, .slice none 0 0, .slice none 0 0] 32)).heap[w2.heap.size]? = some (.cells #[.int .i64 0, .int .i64 0, .slice none 0 0, .int .i64 0, .int .i64 0, .bool false, .int .u16 0, .int .i64 0, .int .i64 0, .slice none 0 0, .int .i64 0, .int .i64 0, .int .u16 0, .bool false, .bool false, .bool false, .slice none 0 0, .int .i64 0, .int .i64 0, .int .i64 0, .int .u8 0, .slice none 0 0, .slice none 0 0, .slice none 0 0] 32) := by
    show (w2.heap.push _)[w2.heap.size]? = _
    simp
  refine wpl_storeS rfl (.tmp 7) (.tmp 19) rfl rfl rfl k2 rfl rfl hs2.one ?_
  obtain ⟨W, hW⟩ : ∃ W, W = (w2.alloc (.cells #[.int .i64 0, .int .i64 0, .slice none 0 0, .int .i64 0, .int .i64 0, .bool false, .int .u16 0, .int .i64 0, .int .i64 0, .slice none 0 0, .int .i64 0, .int .i64 0, .int .u16 0, .bool false, .bool false, .bool false, .slice none 0 0, .int .i64 0, .int .i64 0, .int .i64 0, .int .u8 0, .slice none 0 0, .slice none 0 0, .slice none 0 0] 32)).setRow w2.heap.size (vS (newS (R + 1) (C + 1)) uc ut uo up ui uu) := ⟨_, rfl⟩
  rw [← hW]
  have kS : W.heap[w2.heap.size]? = some (.cells (vS (newS (R + 1) (C + 1)) uc ut uo up ui uu) 32) := by rw [hW]; exact heap_setRow_same k2
  have o3 : ∀ b, b < w2.heap.size → W.heap[b]? = w2.heap[b]? := fun b hb => by rw [hW, heap_setRow_other (by omega)]; exact Below.heap_alloc w2 _ b hb
  have z3 : W.heap.size = w2.heap.size + 1 := by rw [hW, size_setRow]; simp
  have kZ : W.heap[w.heap.size]? = some (.cells #[.int .i64 0, .int .i64 0, .slice none 0 0, .int .i64 0, .int .i64 0, .bool false, .int .u16 0, .int .i64 0, .int .i64 0, .slice none 0 0, .int .i64 0, .int .i64 0, .int .u16 0, .bool false, .bool false, .bool false, .slice none 0 0, .int .i64 0, .int .i64 0, .int .i64 0, .int .u8 0, .slice none 0 0, .slice none 0 0, .slice none 0 0] 32) := (o3 _ (by omega)).trans k1
  have bel3 : Below w.heap.size w W := by rw [hW]; exact below_setRow (bel2.alloc (by omega) _) (by omega) _
  have hs3 : SSl W (NewB w2 (w.heap.size + 1)) (newS (R + 1) (C + 1)) uc ut uo up ui uu := hs2.keep (fun q hq => World.cell?_of_block (o3 _ hq.2))
  have hlt3 : ∀ x, NewB w2 (w.heap.size + 1) x → x < W.heap.size := fun x hx => by rw [z3]; have := hx.2; omega
  have KS := Lib.hid (show W.drew.heap[w2.heap.size]? = _ from kS)
  have KZ := Lib.hid (show W.drew.heap[w.heap.size]? = _ from kZ)
  have Z3 := Lib.hid (show W.drew.heap.size = w2.heap.size + 1 from z3)
  have B3 := Lib.hid bel3.drew
  have HS3 := Lib.hid (show SSl W.drew (NewB w2 (w.heap.size + 1)) (newS (R + 1) (C + 1)) uc ut uo up ui uu from hs3)
  clear kS o3 z3 kZ bel3 hs3 hW k2 k1 hs2 hlt3
  go_simp
  go_wp2_with fail
  have hby := seatBytes_any (.slice A l.length cp) l W.drew ((HV.out.below B3.out).more B3.out.size) hl
  have HBY := Lib.hid hby
  clear hby
  have hfe : ∀ (W' : World) (bv : Value) (m : List UInt8), Below W.drew.heap.size W.drew W' → BS W' W'.heap.size bv m → m.length ≤ 1099511627776 → Calls Try.prog 27 #[.agg (vS (newS (R + 1) (C + 1)) uc ut uo up ui uu), bv] W' (ScPost (NewB w2 (w.heap.size + 1)) (feedS (newS (R + 1) (C + 1)) m) W') := by
    intro W' bv m hb hbs hm
    have hlt : ∀ x, NewB w2 (w.heap.size + 1) x → x < W.drew.heap.size := fun x hx => by rw [Z3.out]; have := hx.2; omega
    exact feedr_any _ bv (newS (R + 1) (C + 1)) m (R + 1) (C + 1) (NewB w2 (w.heap.size + 1)) W' (fun x hx => Nat.lt_of_lt_of_le (hlt x hx) hb.size) ⟨_, _, _, _, _, _, rfl, HS3.out.below hlt hb⟩ HNI.out hbs hm
  have HFE := Lib.hid hfe
  clear hfe
  refine wp_region_any (by kernel_rfl) ?_
  try (change wpAny _ _ _ _ _ _ _ (World.drew _))
  refine wpAny_ready (rs := [0, 1]) (by kernel_rfl) (by simp) ?_
  refine AllReady.cons rfl (fun K hK => ?_) (AllReady.cons rfl (fun K hK => ?_) AllReady.nil)
  · refine step_loadS rfl (.tmp 7) rfl rfl KS.out rfl ?_
    refine hK _ _ ?_
    clear hK K
    refine wpAny_ready (rs := [1]) (by kernel_rfl) (by simp) ?_
    refine AllReady.cons rfl (fun K hK => ?_) AllReady.nil
    go_simp
    refine hK _ _ ?_
    clear hK K
    refine wpAny_ready (rs := [2]) (by kernel_rfl) (by simp) ?_
    refine AllReady.cons rfl (fun K hK => ?_) AllReady.nil
    go_simp
    refine HBY.out.mono ?_
    rintro e w6 ⟨bv, m, rfl, hbv, hml, b6⟩
    obtain ⟨Ab, cb, rfl, g5, g6, -⟩ := hbv.bs.at_
    have hF := HFE.out w6 (.slice Ab m.length cb) m b6 hbv.bs (by omega)
    have HF := Lib.hid hF
    have K6 := Lib.hid ((b6.block _ (by rw [Z3.out]; omega)).trans KS.out)
    have HB6 := Lib.hid b6
    have hz6 : w2.heap.size + 1 ≤ w6.heap.size := by have := b6.size; rw [Z3.out] at this; exact this
    clear hF
    refine hK _ _ ?_
    clear hK K
    refine wpAny_ready (rs := [3]) (by kernel_rfl) (by simp) ?_
    refine AllReady.cons rfl (fun K hK => ?_) AllReady.nil
    go_simp
    refine HF.out.mono ?_
    rintro e w7 ⟨v7, rfl, hv7, b7⟩
    obtain ⟨zc, zt, zo, zp, zi, zu, rfl, hs7⟩ := hv7
    have k7 : w7.heap[w.heap.size]? = _ := (b7.block _ (by omega)).trans ((HB6.out.block _ (by rw [Z3.out]; omega)).trans KZ.out)
    have z7 : w6.heap.size ≤ w7.heap.size := b7.size
    refine hK _ _ ?_
    clear hK K
    refine wpAny_ready (rs := [4]) (by kernel_rfl) (by simp) ?_
    refine AllReady.cons rfl (fun K hK => ?_) AllReady.nil
    refine step_storeS rfl (.tmp 6) (.tmp 24) rfl rfl rfl k7 rfl rfl hs7.one ?_
    refine hK _ _ ?_
    clear hK K
    refine wpAny_done (by kernel_rfl) ?_ _
    go_simp
    go_wp2_with fail
    refine seatEnd (w6 := w6) (w7 := w7) 6 Try.results8 ?_ ?_ k7 HB6.out B3.out Z3.out z2 b7 hs7 ⟨feedS_in m HNI.out, feedS_w m HNI.out (newS_w _ _ _ _)⟩ (by omega) (by omega)
    all_goals rfl
  · go_simp
    refine hK _ _ ?_
    clear hK K
    refine wpAny_ready (rs := [0, 2]) (by kernel_rfl) (by simp) ?_
    refine AllReady.cons rfl (fun K hK => ?_) (AllReady.cons rfl (fun K hK => ?_) AllReady.nil)
    · refine step_loadS rfl (.tmp 7) rfl rfl KS.out rfl ?_
      refine hK _ _ ?_
      clear hK K
      refine wpAny_ready (rs := [2]) (by kernel_rfl) (by simp) ?_
      refine AllReady.cons rfl (fun K hK => ?_) AllReady.nil
      go_simp
      refine HBY.out.mono ?_
      rintro e w6 ⟨bv, m, rfl, hbv, hml, b6⟩
      obtain ⟨Ab, cb, rfl, g5, g6, -⟩ := hbv.bs.at_
      have hF := HFE.out w6 (.slice Ab m.length cb) m b6 hbv.bs (by omega)
      have HF := Lib.hid hF
      have K6 := Lib.hid ((b6.block _ (by rw [Z3.out]; omega)).trans KS.out)
      have HB6 := Lib.hid b6
      have hz6 : w2.heap.size + 1 ≤ w6.heap.size := by have := b6.size; rw [Z3.out] at this; exact this
      clear hF
      refine hK _ _ ?_
      clear hK K
      refine wpAny_ready (rs := [3]) (by kernel_rfl) (by simp) ?_
      refine AllReady.cons rfl (fun K hK => ?_) AllReady.nil
      go_simp
      refine HF.out.mono ?_
      rintro e w7 ⟨v7, rfl, hv7, b7⟩
      obtain ⟨zc, zt, zo, zp, zi, zu, rfl, hs7⟩ := hv7
      have k7 : w7.heap[w.heap.size]? = _ := (b7.block _ (by omega)).trans ((HB6.out.block _ (by rw [Z3.out]; omega)).trans KZ.out)
      have z7 : w6.heap.size ≤ w7.heap.size := b7.size
      refine hK _ _ ?_
      clear hK K
      refine wpAny_ready (rs := [4]) (by kernel_rfl) (by simp) ?_
      refine AllReady.cons rfl (fun K hK => ?_) AllReady.nil
      refine step_storeS rfl (.tmp 6) (.tmp 24) rfl rfl rfl k7 rfl rfl hs7.one ?_
      refine hK _ _ ?_
      clear hK K
      refine wpAny_done (by kernel_rfl) ?_ _
      go_simp
      go_wp2_with fail
      refine seatEnd (w6 := w6) (w7 := w7) 6 Try.results8 ?_ ?_ k7 HB6.out B3.out Z3.out z2 b7 hs7 ⟨feedS_in m HNI.out, feedS_w m HNI.out (newS_w _ _ _ _)⟩ (by omega) (by omega)
      all_goals rfl
    · go_simp
      refine HBY.out.mono ?_
      rintro e w6 ⟨bv, m, rfl, hbv, hml, b6⟩
      obtain ⟨Ab, cb, rfl, g5, g6, -⟩ := hbv.bs.at_
      have hF := HFE.out w6 (.slice Ab m.length cb) m b6 hbv.bs (by omega)
      have HF := Lib.hid hF
      have K6 := Lib.hid ((b6.block _ (by rw [Z3.out]; omega)).trans KS.out)
      have HB6 := Lib.hid b6
      have hz6 : w2.heap.size + 1 ≤ w6.heap.size := by have := b6.size; rw [Z3.out] at this; exact this
      clear hF
      refine hK _ _ ?_
      clear hK K
      refine wpAny_ready (rs := [0]) (by kernel_rfl) (by simp) ?_
      refine AllReady.cons rfl (fun K hK => ?_) AllReady.nil
      refine step_loadS rfl (.tmp 7) rfl rfl K6.out rfl ?_
      refine hK _ _ ?_
      clear hK K
      refine wpAny_ready (rs := [3]) (by kernel_rfl) (by simp) ?_
      refine AllReady.cons rfl (fun K hK => ?_) AllReady.nil
      go_simp
      refine HF.out.mono ?_
      rintro e w7 ⟨v7, rfl, hv7, b7⟩
      obtain ⟨zc, zt, zo, zp, zi, zu, rfl, hs7⟩ := hv7
      have k7 : w7.heap[w.heap.size]? = _ := (b7.block _ (by omega)).trans ((HB6.out.block _ (by rw [Z3.out]; omega)).trans KZ.out)
      have z7 : w6.heap.size ≤ w7.heap.size := b7.size
      refine hK _ _ ?_
      clear hK K
      refine wpAny_ready (rs := [4]) (by kernel_rfl) (by simp) ?_
      refine AllReady.cons rfl (fun K hK => ?_) AllReady.nil
      refine step_storeS rfl (.tmp 6) (.tmp 24) rfl rfl rfl k7 rfl rfl hs7.one ?_
      refine hK _ _ ?_
      clear hK K
      refine wpAny_done (by kernel_rfl) ?_ _
      go_simp
      go_wp2_with fail
      refine seatEnd (w6 := w6) (w7 := w7) 6 Try.results8 ?_ ?_ k7 HB6.out B3.out Z3.out z2 b7 hs7 ⟨feedS_in m HNI.out, feedS_w m HNI.out (newS_w _ _ _ _)⟩ (by omega) (by omega)
      all_goals rfl
theorem seatScreen_any (r c : Nat) (hr : r < 256) (hc : c < 256) (v : Value) (l : List UInt8) (w : World) (hv : BS w w.heap.size v l) (hl : l.length ≤ 1048576) : Calls Try.prog 8 #[.int .u8 (r : Int), .int .u8 (c : Int), v] w (SeatScr w) := by
  refine (seatScreenW_any r c hr hc v l w hv hl).mono ?_
  rintro e w' ⟨v, s, r, c, h1, h2, ⟨h3, -⟩, h4, h5, h6⟩
  exact ⟨v, s, r, c, h1, h2, h3, h4, h5, h6⟩
end Go.Proofs.Ytejemcpkmfhenaa

namespace Go.Proofs.Ytejemcpkmfhenaa
open Go.RowKit
set_option linter.unusedVariables false
set_option linter.unusedSimpArgs false

/-- The zero of a screen. -/
@[reducible] def zG : Array Value := #[.int .i64 0, .int .i64 0, .slice none 0 0, .int .i64 0, .int .i64 0, .bool false, .int .u16 0, .int .i64 0, .int .i64 0, .slice none 0 0, .int .i64 0, .int .i64 0, .int .u16 0, .bool false, .bool false, .bool false, .slice none 0 0, .int .i64 0, .int .i64 0, .int .i64 0, .int .u8 0, .slice none 0 0, .slice none 0 0, .slice none 0 0]
theorem cellG {w : World} {g : Nat} {xs : Array Value} {t : TypeId} (h : w.heap[g]? = some (.cells xs t)) (i : Nat) {v : Value} (hv : xs[i]? = some v) : w.cell? ⟨g, i, none⟩ = some v := by
  rw [cell_of_row w g i _ t _ h]; exact hv
theorem ltG {w : World} {b : Nat} {o : Obj} (h : w.heap[b]? = some o) : b < w.heap.size := by
  rcases Nat.lt_or_ge b w.heap.size with c | c
  · exact c
  · rw [Array.getElem?_eq_none c] at h; cases h
theorem heap_oneG (w : World) (o : Obj) : (w.alloc o).heap[w.heap.size]? = some o := by
  show (w.heap.push o)[w.heap.size]? = _
  simp
/-- A screen that has been laid in a block of its own: its rows, columns, cells. -/
structure LaidG (w W : World) (sb : Nat) (vs : Array Value) (vc : Value) (l : List Cl) (r c : Nat) : Prop where
  blk : W.heap[sb]? = some (.cells vs 32)
  at0 : vs[0]? = some (.int .i64 (r : Int))
  at1 : vs[1]? = some (.int .i64 (c : Int))
  at2 : vs[2]? = some vc
  cs : CS W W.heap.size vc l
  g : GOk l.length r c
  whole : Whole l r c
  r6 : r ≤ 6
  c9 : c ≤ 9
  bel : Below w.heap.size w W
  lo : w.heap.size ≤ sb
theorem LaidG.below {w W W' : World} {sb : Nat} {vs : Array Value} {vc : Value} {l : List Cl} {r c : Nat} (h : LaidG w W sb vs vc l r c) (hb : Below W.heap.size W W') : LaidG w W' sb vs vc l r c :=
  ⟨(hb.block sb (ltG h.blk)).trans h.blk, h.at0, h.at1, h.at2, (h.cs.below hb).more hb.size, h.g, h.whole, h.r6, h.c9, h.bel.trans (hb.mono h.bel.size), h.lo⟩
theorem LaidG.cell {w W : World} {sb : Nat} {vs : Array Value} {vc : Value} {l : List Cl} {r c : Nat} (h : LaidG w W sb vs vc l r c) : W.cell? ⟨sb, 0, none⟩ = some (.int .i64 (r : Int)) ∧ W.cell? ⟨sb, 1, none⟩ = some (.int .i64 (c : Int)) ∧ W.cell? ⟨sb, 2, none⟩ = some vc :=
  ⟨cellG h.blk 0 h.at0, cellG h.blk 1 h.at1, cellG h.blk 2 h.at2⟩
theorem LaidG.len {w W : World} {sb : Nat} {vs : Array Value} {vc : Value} {l : List Cl} {r c : Nat} (h : LaidG w W sb vs vc l r c) : 1 ≤ l.length ∧ l.length ≤ 54 := by
  have hn := h.g.n
  have h1 : r * c ≤ 6 * 9 := Nat.mul_le_mul h.r6 h.c9
  have h2 : 0 < r * c := Nat.mul_pos h.g.r1 h.g.c1
  omega
theorem laidG {w w2 : World} {s : Sc} {r c : Nat} {vc vt vo vp vi vu : Value} (hb : Below w.heap.size w w2) (hs : SSl w2 (NewB w2 w.heap.size) s vc vt vo vp vi vu) (hi : ScIn s r c) (hw : ScW s r c) (hr : r ≤ 6) (hc : c ≤ 9) (Z : Array Value) (hZ : Z.size = 24) :
    LaidG w ((w2.alloc (.cells Z 32)).setRow w2.heap.size (vS s vc vt vo vp vi vu)) w2.heap.size (vS s vc vt vo vp vi vu) vc s.cells r c := by
  have k2 : (w2.alloc (.cells Z 32)).heap[w2.heap.size]? = some (.cells Z 32) := heap_oneG w2 _
  have hz : ((w2.alloc (.cells Z 32)).setRow w2.heap.size (vS s vc vt vo vp vi vu)).heap.size = w2.heap.size + 1 := by rw [size_setRow]; simp
  have o3 : ∀ b, b < w2.heap.size → ((w2.alloc (.cells Z 32)).setRow w2.heap.size (vS s vc vt vo vp vi vu)).heap[b]? = w2.heap[b]? := fun b hb => by rw [heap_setRow_other (by omega)]; exact Below.heap_alloc w2 _ b hb
  refine ⟨heap_setRow_same k2, ?_, ?_, rfl, ?_, hi.g, hw.cells, hr, hc, below_setRow (hb.alloc hb.size _) hb.size _, hb.size⟩
  · show some (Value.int .i64 s.rows) = _
    rw [hi.rows]
  · show some (Value.int .i64 s.cols) = _
    rw [hi.cols]
  · rw [hz]
    exact (hs.1.keep (fun q hq => World.cell?_of_block (o3 _ hq.2))).cs (fun x hx => by have := hx.2; omega)
end Go.Proofs.Ytejemcpkmfhenaa
