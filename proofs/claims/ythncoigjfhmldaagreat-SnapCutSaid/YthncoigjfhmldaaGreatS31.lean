/- What is proved here: parts of the proofs of the laws of layer 10. -/
import Derived.Test.YthncoigjfhmldaaGreatS28
import Derived.Test.YthncoigjfhmldaaGreatS30
import Derived.Test.YthncoigjfhmldaaGreatS4
import Derived.Deep.RegionWith
import Derived.Deep.CutRange
import Derived.Test.YthncoigjfhmldaaGreatS1
import Derived.Lib.AppendStr
import Derived.Deep.Onto
import Derived.Deep.QuietTactic
import Derived.BigQuiet
namespace Go.Proofs.YthncoigjfhmldaaGreat
open Go.RowKit
set_option linter.unusedVariables false
set_option linter.unusedSimpArgs false
set_option maxHeartbeats 2000000
set_option maxRecDepth 100000
structure ScAt (s : Sc) (r c : Nat) (S : Nat → Prop) (w : World) (Z : Obj) (wr : World) (uc ut uo up ui uu : Value) : Prop where
 inn : ScIn s r c
 bel : Below w.heap.size w wr
 size : w.heap.size + 1 + 1 ≤ wr.heap.size
 kZ : wr.heap[w.heap.size + 1]? = some Z
 kS : wr.heap[w.heap.size]? = some (.cells (vS s uc ut uo up ui uu) 30)
 sl : SSl wr (fun x => S x ∨ (w.heap.size + 1 < x ∧ x < wr.heap.size)) s uc ut uo up ui uu
def FeedRel (s : Sc) (b : List UInt8) (r c : Nat) (S : Nat → Prop) (w : World) (Z : Obj) (i : Value) (wr : World) : Prop :=
 ∃ j : Nat, j ≤ b.length ∧ i = .int .i64 (j : Int) ∧ ∃ uc ut uo up ui uu, ScAt (feedS s (b.take j)) r c S w Z wr uc ut uo up ui uu
def ActsRel (s : Sc) (l : List Ac) (r c : Nat) (S : Nat → Prop) (w : World) (Z : Obj) (w7 : World) (i : Value) (wr : World) : Prop :=
 ∃ j : Nat, j ≤ l.length ∧ i = .int .i64 (j : Int) ∧ w7.heap.size ≤ wr.heap.size ∧ (∀ x, x ≠ w.heap.size → x < w7.heap.size → wr.heap[x]? = w7.heap[x]?) ∧ ∃ uc ut uo up ui uu, ScAt ((l.take j).foldl doS s) r c S w Z wr uc ut uo up ui uu
theorem feed_on (s : Sc) (b : List UInt8) (j : Nat) (h : j < b.length) : feedS s (b.take (j + 1)) = stepS (feedS s (b.take j)) b[j] := by
 unfold feedS
 rw [List.take_succ_eq_append_getElem h, List.foldl_append]
 rfl
theorem acts_on (s : Sc) (l : List Ac) (j : Nat) (a : Ac) (h : l[j]? = some a) : (l.take (j + 1)).foldl doS s = doS ((l.take j).foldl doS s) a := by
 rw [List.take_add_one, h, List.foldl_append]
 rfl
theorem row_parser {w : World} {g : Nat} {s : Sc} {p : Pr} {uc ut uo up ui uu xp xi xu : Value} (h : w.heap[g]? = some (.cells (vS s uc ut uo up ui uu) 30)) :
  (((((w.setCell ⟨g, 19, none⟩ (.int .i64 (p.mode : Int))).setCell ⟨g, 20, none⟩ (.int .u8 (p.priv : Int))).setCell ⟨g, 21, none⟩ xp).setCell ⟨g, 22, none⟩ xi).setCell ⟨g, 23, none⟩ xu).heap[g]? = some (.cells (vS { s with p := p } uc ut uo xp xi xu) 30) := by
 rw [heap_setCell_same _ g 23 _ _ _ (heap_setCell_same _ g 22 _ _ _ (heap_setCell_same _ g 21 _ _ _ (heap_setCell_same _ g 20 _ _ _ (heap_setCell_same _ g 19 _ _ _ h))))]
 rfl
theorem parser_blk {w5 w6 : World} {o : Obj} (b6 : Below (w5.alloc o).drew.heap.size (w5.alloc o).drew w6) : w6.heap[w5.heap.size]? = some o := by
 have e : (w5.alloc o).drew.heap[w5.heap.size]? = some o := by
  show (w5.heap.push o)[w5.heap.size]? = some o
  simp
 refine (b6.block _ ?_).trans e
 show w5.heap.size < (w5.heap.push o).size
 simp
theorem parser_cells {w : World} {g : Nat} {x0 x1 x2 x3 x4 : Value} {t : TypeId} (h : w.heap[g]? = some (.cells #[x0, x1, x2, x3, x4] t)) : w.cell? ⟨g, 0, none⟩ = some x0 ∧ w.cell? ⟨g, 1, none⟩ = some x1 ∧ w.cell? ⟨g, 2, none⟩ = some x2 ∧ w.cell? ⟨g, 3, none⟩ = some x3 ∧ w.cell? ⟨g, 4, none⟩ = some x4 :=
 ⟨(cellR h 0 rfl).1, (cellR h 1 rfl).1, (cellR h 2 rfl).1, (cellR h 3 rfl).1, (cellR h 4 rfl).1⟩
theorem parser_frz {w : World} {g : Nat} {x0 x1 x2 x3 x4 : Value} {t : TypeId} (h : w.heap[g]? = some (.cells #[x0, x1, x2, x3, x4] t)) : w.frozen? ⟨g, 0, none⟩ = false ∧ w.frozen? ⟨g, 1, none⟩ = false ∧ w.frozen? ⟨g, 2, none⟩ = false ∧ w.frozen? ⟨g, 3, none⟩ = false ∧ w.frozen? ⟨g, 4, none⟩ = false :=
 ⟨(cellR h 0 rfl).2, (cellR h 1 rfl).2, (cellR h 2 rfl).2, (cellR h 3 rfl).2, (cellR h 4 rfl).2⟩
def StepAt (q : Pr) (acts : List Ac) (S : Nat → Prop) (w w5 : World) (s6 s7 : Value) (wx : World) : Prop :=
 ∃ pb xp xi xu, s6 = .pointer (some ⟨pb, 0, none⟩) ∧ w.heap.size + 1 < pb ∧ pb < wx.heap.size ∧ Below w5.heap.size w5 wx ∧ wx.heap[pb]? = some (.cells #[.int .i64 (q.mode : Int), .int .u8 (q.priv : Int), xp, xi, xu] 28) ∧
  SL vI wx (fun x => S x ∨ (w.heap.size + 1 < x ∧ x < wx.heap.size)) xp q.params ∧ SL vB wx (fun x => S x ∨ (w.heap.size + 1 < x ∧ x < wx.heap.size)) xi q.inter ∧ SL vB wx (fun x => S x ∨ (w.heap.size + 1 < x ∧ x < wx.heap.size)) xu q.utf ∧
  AS wx (fun x => w.heap.size + 1 < x ∧ x < wx.heap.size) (fun x => S x ∨ (w.heap.size + 1 < x ∧ x < wx.heap.size)) s7 acts
section
variable {q : Pr} {acts : List Ac} {S : Nat → Prop} {w w5 W w6 : World} {xp xi xu av : Value}
theorem stepA (hS : ∀ x, S x → x < w.heap.size) (hsz : w.heap.size + 1 + 1 ≤ w5.heap.size) (hW : Below w5.heap.size w5 W) (b6 : Below W.heap.size W w6)
  (r1 : SL vI w6 (fun x => (S x ∨ (w.heap.size + 1 < x ∧ x < w5.heap.size)) ∨ NewB w6 W.heap.size x) xp q.params) (r2 : SL vB w6 (fun x => (S x ∨ (w.heap.size + 1 < x ∧ x < w5.heap.size)) ∨ NewB w6 W.heap.size x) xi q.inter) (r3 : SL vB w6 (fun x => (S x ∨ (w.heap.size + 1 < x ∧ x < w5.heap.size)) ∨ NewB w6 W.heap.size x) xu q.utf)
  (ha : AS w6 (NewB w6 W.heap.size) (fun x => (S x ∨ (w.heap.size + 1 < x ∧ x < w5.heap.size)) ∨ NewB w6 W.heap.size x) av acts) :
  StepAt q acts S w w5 (.pointer (some ⟨w6.heap.size, 0, none⟩)) av (w6.alloc (.cells #[.int .i64 (q.mode : Int), .int .u8 (q.priv : Int), xp, xi, xu] 28)) := by
 have z1 : w5.heap.size ≤ W.heap.size := hW.size
 have z2 : W.heap.size ≤ w6.heap.size := b6.size
 have z3 : (w6.alloc (.cells #[.int .i64 (q.mode : Int), .int .u8 (q.priv : Int), xp, xi, xu] 28)).heap.size = w6.heap.size + 1 := by simp
 have hm : ∀ x, ((S x ∨ (w.heap.size + 1 < x ∧ x < w5.heap.size)) ∨ NewB w6 W.heap.size x) → (S x ∨ (w.heap.size + 1 < x ∧ x < (w6.alloc (.cells #[.int .i64 (q.mode : Int), .int .u8 (q.priv : Int), xp, xi, xu] 28)).heap.size)) := by
  intro x hx
  rw [z3]
  rcases hx with (h | h) | h
  ·exact .inl h
  ·exact .inr ⟨h.1, by omega⟩
  ·have h1 : W.heap.size ≤ x := h.1
   have h2 : x < w6.heap.size := h.2
   exact .inr ⟨by omega, by omega⟩
 have hlt : ∀ x, ((S x ∨ (w.heap.size + 1 < x ∧ x < w5.heap.size)) ∨ NewB w6 W.heap.size x) → x < w6.heap.size := by
  intro x hx
  rcases hx with (h | h) | h
  ·have := hS x h; omega
  ·omega
  ·exact h.2
 have hk : ∀ p : Addr, ((S p.block ∨ (w.heap.size + 1 < p.block ∧ p.block < w5.heap.size)) ∨ NewB w6 W.heap.size p.block) → (w6.alloc (.cells #[.int .i64 (q.mode : Int), .int .u8 (q.priv : Int), xp, xi, xu] 28)).cell? p = w6.cell? p := fun p hp => World.cell?_alloc_lt w6 _ p (hlt _ hp)
 refine ⟨_, xp, xi, xu, rfl, by omega, by rw [z3]; omega, (hW.trans (b6.mono z1)).alloc (by omega) _, ?_, (r1.keep hk).mono hm, (r2.keep hk).mono hm, (r3.keep hk).mono hm, (ha.keep (fun p hp => World.cell?_alloc_lt w6 _ p hp.2) hk).mono (fun x hx => ?_) hm⟩
 ·show (w6.heap.push _)[w6.heap.size]? = _
  simp
 ·have h1 : W.heap.size ≤ x := hx.1
  have h2 : x < w6.heap.size := hx.2
  rw [z3]
  exact ⟨by omega, by omega⟩
theorem row_five {w : World} {g : Nat} {x0 x1 x2 x3 x4 y0 y1 y2 y3 y4 : Value} {t : TypeId} (h : w.heap[g]? = some (.cells #[x0, x1, x2, x3, x4] t)) :
  (((((w.setCell ⟨g, 0, none⟩ y0).setCell ⟨g, 1, none⟩ y1).setCell ⟨g, 2, none⟩ y2).setCell ⟨g, 3, none⟩ y3).setCell ⟨g, 4, none⟩ y4).heap[g]? = some (.cells #[y0, y1, y2, y3, y4] t) := by
 rw [heap_setCell_same _ g 4 _ _ _ (heap_setCell_same _ g 3 _ _ _ (heap_setCell_same _ g 2 _ _ _ (heap_setCell_same _ g 1 _ _ _ (heap_setCell_same _ g 0 _ _ _ h))))]
 rfl
theorem stepB {Z : Obj} {x0 x1 x2 x3 x4 : Value} (hS : ∀ x, S x → x < w.heap.size) (hsz : w.heap.size + 1 + 1 ≤ w5.heap.size) (hz : Z = .cells #[x0, x1, x2, x3, x4] 28) (b6 : Below (w5.alloc Z).drew.heap.size (w5.alloc Z).drew w6)
  (r1 : SL vI w6 (fun x => (S x ∨ (w.heap.size + 1 < x ∧ x < w5.heap.size)) ∨ NewB w6 (w5.alloc Z).drew.heap.size x) xp q.params) (r2 : SL vB w6 (fun x => (S x ∨ (w.heap.size + 1 < x ∧ x < w5.heap.size)) ∨ NewB w6 (w5.alloc Z).drew.heap.size x) xi q.inter) (r3 : SL vB w6 (fun x => (S x ∨ (w.heap.size + 1 < x ∧ x < w5.heap.size)) ∨ NewB w6 (w5.alloc Z).drew.heap.size x) xu q.utf)
  (ha : AS w6 (NewB w6 (w5.alloc Z).drew.heap.size) (fun x => (S x ∨ (w.heap.size + 1 < x ∧ x < w5.heap.size)) ∨ NewB w6 (w5.alloc Z).drew.heap.size x) av acts) :
  StepAt q acts S w w5 (.pointer (some ⟨w5.heap.size, 0, none⟩)) av (((((w6.setCell ⟨w5.heap.size, 0, none⟩ (.int .i64 (q.mode : Int))).setCell ⟨w5.heap.size, 1, none⟩ (.int .u8 (q.priv : Int))).setCell ⟨w5.heap.size, 2, none⟩ xp).setCell ⟨w5.heap.size, 3, none⟩ xi).setCell ⟨w5.heap.size, 4, none⟩ xu) := by
 have hblk := parser_blk b6
 subst hz
 have z0 : (w5.alloc (.cells #[x0, x1, x2, x3, x4] 28)).drew.heap.size = w5.heap.size + 1 := by
  show (w5.heap.push _).size = _
  simp
 rw [z0] at b6 r1 r2 r3 ha
 have z2 : w5.heap.size + 1 ≤ w6.heap.size := by have := b6.size; rw [z0] at this; exact this
 obtain ⟨W7, hW7⟩ : ∃ W7, W7 = ((((w6.setCell ⟨w5.heap.size, 0, none⟩ (.int .i64 (q.mode : Int))).setCell ⟨w5.heap.size, 1, none⟩ (.int .u8 (q.priv : Int))).setCell ⟨w5.heap.size, 2, none⟩ xp).setCell ⟨w5.heap.size, 3, none⟩ xi).setCell ⟨w5.heap.size, 4, none⟩ xu := ⟨_, rfl⟩
 have hrow := row_five (y0 := .int .i64 (q.mode : Int)) (y1 := .int .u8 (q.priv : Int)) (y2 := xp) (y3 := xi) (y4 := xu) hblk
 rw [← hW7] at hrow ⊢
 have z3 : W7.heap.size = w6.heap.size := by rw [hW7]; simp [World.setCell]
 have ho : ∀ b, b ≠ w5.heap.size → W7.heap[b]? = w6.heap[b]? := fun b hb => by
  rw [hW7, Below.heap_setCell _ _ _ _ hb, Below.heap_setCell _ _ _ _ hb, Below.heap_setCell _ _ _ _ hb, Below.heap_setCell _ _ _ _ hb, Below.heap_setCell _ _ _ _ hb]
 have hbel : Below w5.heap.size w5 W7 := by
  have h0 : Below w5.heap.size w5 w6 := (((Below.refl _ _).alloc (Nat.le_refl _) _).drew).trans (b6.mono (Nat.le_succ _))
  rw [hW7]
  exact ((((h0.setCell (p := ⟨w5.heap.size, 0, none⟩) (Nat.le_refl _) _).setCell (p := ⟨w5.heap.size, 1, none⟩) (Nat.le_refl _) _).setCell (p := ⟨w5.heap.size, 2, none⟩) (Nat.le_refl _) _).setCell (p := ⟨w5.heap.size, 3, none⟩) (Nat.le_refl _) _).setCell (p := ⟨w5.heap.size, 4, none⟩) (Nat.le_refl _) _
 have hne : ∀ x, ((S x ∨ (w.heap.size + 1 < x ∧ x < w5.heap.size)) ∨ NewB w6 (w5.heap.size + 1) x) → x ≠ w5.heap.size := by
  intro x hx
  rcases hx with (h | h) | h
  ·have := hS x h; omega
  ·omega
  ·have h1 : w5.heap.size + 1 ≤ x := h.1; omega
 have hm : ∀ x, ((S x ∨ (w.heap.size + 1 < x ∧ x < w5.heap.size)) ∨ NewB w6 (w5.heap.size + 1) x) → (S x ∨ (w.heap.size + 1 < x ∧ x < W7.heap.size)) := by
  intro x hx
  rw [z3]
  rcases hx with (h | h) | h
  ·exact .inl h
  ·exact .inr ⟨h.1, by omega⟩
  ·have h1 : w5.heap.size + 1 ≤ x := h.1
   have h2 : x < w6.heap.size := h.2
   exact .inr ⟨by omega, by omega⟩
 have hk : ∀ p : Addr, ((S p.block ∨ (w.heap.size + 1 < p.block ∧ p.block < w5.heap.size)) ∨ NewB w6 (w5.heap.size + 1) p.block) → W7.cell? p = w6.cell? p := fun p hp => World.cell?_of_block (ho _ (hne _ hp))
 refine ⟨_, xp, xi, xu, rfl, by omega, by rw [z3]; omega, hbel, hrow, (r1.keep hk).mono hm, (r2.keep hk).mono hm, (r3.keep hk).mono hm, (ha.keep (fun p hp => World.cell?_of_block (ho _ (by have h1 : w5.heap.size + 1 ≤ p.block := hp.1; omega))) hk).mono (fun x hx => ?_) hm⟩
 have h1 : w5.heap.size + 1 ≤ x := hx.1
 have h2 : x < w6.heap.size := hx.2
 rw [z3]
 exact ⟨by omega, by omega⟩
end
theorem ScAt.on {s : Sc} {r c : Nat} {S : Nat → Prop} {w w5 wc : World} {Z : Obj} {uc ut uo up ui uu : Value} (h : ScAt s r c S w Z w5 uc ut uo up ui uu) (hS : ∀ x, S x → x < w.heap.size) (hb : Below w5.heap.size w5 wc) : ScAt s r c S w Z wc uc ut uo up ui uu := by
 have z := hb.size
 have z5 := h.size
 refine ⟨h.inn, h.bel.trans (hb.mono (by omega)), by omega, (hb.block _ (by omega)).trans h.kZ, (hb.block _ (by omega)).trans h.kS, (h.sl.keep (fun q hq => hb.cell ?_)).mono (fun x hx => ?_)⟩
 ·rcases hq with hq | hq
  ·have := hS _ hq; omega
  ·exact hq.2
 ·rcases hx with hx | hx
  ·exact .inl hx
  ·exact .inr ⟨hx.1, by omega⟩
theorem feedr_any (v bv : Value) (s : Sc) (b : List UInt8) (r c : Nat) (S : Nat → Prop) (w : World) (hS : ∀ x, S x → x < w.heap.size) (h : SCV w S v s) (hi : ScIn s r c) (hb : BS w w.heap.size bv b) (hbl : b.length ≤ 1099511627776) : Calls Tryz.prog 16 #[v, bv] w (ScPost S (feedS s b) w) := by
 have HSS := Lib.hid hS
 clear hS
 obtain ⟨vc, vt, vo, vp, vi, vu, rfl, hs⟩ := h
 have HS := Lib.hid hs
 obtain ⟨A1, kk1, A2, k2, A3, k3, A4, k4, A5, k5, A6, k6, rfl, rfl, rfl, rfl, rfl, rfl, p1, q1, p2, q2, p3, q3, p4, q4, p5, q5, p6, q6⟩ := sslSix hs
 have HI := Lib.hid hi
 have HB := Lib.hid hb
 obtain ⟨Ab, kb, rfl, pb1, pb2, -⟩ := hb.at_
 unfold maxLen at pb2
 have H2 := Lib.hid (fun x y => two_new w x y)
 clear hi hb
 go_enter Tryz.func16, Tryz.ntmps16
 go_wp2
 go_loopw [5] (fun i wr => FeedRel s b r c S w (.cells zQ 30) i wr) (fun i _ => b.length - (intOf i).toNat)
 case atStart => exact ⟨0, Nat.zero_le _, rfl, _, _, _, _, _, _, HI.out, (H2.out _ _).1, by rw [(H2.out _ _).2]; exact Nat.le_refl _, heap_a2 w _ _, heap_a1 w _ _, (HS.out.below HSS.out (H2.out _ _).1).mono (fun x hx => .inl hx)⟩
 case round =>
  generalize wr = w5 at *
  obtain ⟨j, hj, rfl, uc, ut, uo, up, ui, uu, hat⟩ := hrel
  by_cases hlt : j < b.length
  ·have HON := Lib.hid (feed_on s b j hlt)
   generalize hsj : feedS s (b.take j) = sj at *
   have HAT := Lib.hid hat
   obtain ⟨c19, f19⟩ := cellR (w := w5.drew) (v := .int .i64 (sj.p.mode : Int)) hat.kS 19 rfl
   obtain ⟨c20, f20⟩ := cellR (w := w5.drew) (v := .int .u8 (sj.p.priv : Int)) hat.kS 20 rfl
   obtain ⟨c21, f21⟩ := cellR (w := w5.drew) (v := up) hat.kS 21 rfl
   obtain ⟨c22, f22⟩ := cellR (w := w5.drew) (v := ui) hat.kS 22 rfl
   obtain ⟨c23, f23⟩ := cellR (w := w5.drew) (v := uu) hat.kS 23 rfl
   obtain ⟨ad, rfl, hc⟩ := (HB.out.below hat.bel).cellC j hlt
   have hc' : w5.drew.cell? (ad.add j) = _ := hc
   have hsz5 := hat.size
   have hgl : w.heap.size < w5.heap.size := by omega
   have hadb : (ad.add j).block < w5.heap.size := by
    rw [block_add]
    have := (HB.out.below hat.bel).blockC (by omega)
    omega
   unfold vB at hc hc'
   obtain ⟨-, -, -, sp, si, su⟩ := hat.sl
   have hSx : ∀ x, (S x ∨ (w.heap.size + 1 < x ∧ x < w5.heap.size)) → x < w5.drew.heap.size := fun x hx => hx.elim (fun h => by show x < w5.heap.size; have := HSS.out x h; have := hat.size; omega) (fun h => h.2)
   have hstep : ∀ W : World, Below w5.heap.size w5 W → Calls Tryz.prog 41 #[.agg #[.int .i64 (sj.p.mode : Int), .int .u8 (sj.p.priv : Int), up, ui, uu], .int .u8 ((b[j]).toNat : Int)] W (VtPost (fun x => S x ∨ (w.heap.size + 1 < x ∧ x < w5.heap.size)) (vtL sj.p b[j]) W) := by
    intro W hW
    have hk : ∀ q : Addr, (S q.block ∨ (w.heap.size + 1 < q.block ∧ q.block < w5.heap.size)) → W.cell? q = w5.cell? q := fun q hq => hW.cell (hSx _ hq)
    exact vtr_any up ui uu sj.p b[j] (fun x => S x ∨ (w.heap.size + 1 < x ∧ x < w5.heap.size)) W (sp.keep hk) (si.keep hk) (su.keep hk) (fun x hx => Nat.lt_of_lt_of_le (hSx x hx) hW.size) hat.inn.p
   have HST := Lib.hid hstep
   have hB0 : Below w5.heap.size w5 w5.drew := (Below.refl _ _).drew
   have hB1 : ∀ o, Below w5.heap.size w5 (w5.alloc o).drew := fun o => ((Below.refl _ _).alloc (Nat.le_refl _) o).drew
   obtain ⟨d19, -⟩ := cellR (w := w5) (v := .int .i64 (sj.p.mode : Int)) hat.kS 19 rfl
   obtain ⟨d20, -⟩ := cellR (w := w5) (v := .int .u8 (sj.p.priv : Int)) hat.kS 20 rfl
   obtain ⟨d21, -⟩ := cellR (w := w5) (v := up) hat.kS 21 rfl
   obtain ⟨d22, -⟩ := cellR (w := w5) (v := ui) hat.kS 22 rfl
   obtain ⟨d23, -⟩ := cellR (w := w5) (v := uu) hat.kS 23 rfl
   clear hat sp si su hstep f19 f20 f21 f22 f23
   go_upto_region 4 with fail
   go_cut [6, 7] from 9 to 38 (fun s6 s7 wx => StepAt (vtL sj.p b[j]).1 (vtL sj.p b[j]).2 S w w5 s6 s7 wx)
   case first =>
    go_region_with (go_at_call 41; refine (HST.out _ (by first | exact hB0 | exact hB1 _)).mono ?_; rintro e w6 ⟨qv, av, rfl, hq, ha, b6⟩; obtain ⟨xp, xi, xu, rfl, r1, r2, r3⟩ := hq; obtain ⟨Ap, cp, rfl, s1, s2⟩ := r1.form; obtain ⟨Ai, ci, rfl, s3, s4⟩ := r2.form; obtain ⟨Au, cu, rfl, s5, s6⟩ := r3.form; obtain ⟨Aa, ca, rfl, s7, s8⟩ := ha.form; (first | (have kp := parser_blk b6; obtain ⟨kc0, kc1, kc2, kc3, kc4⟩ := parser_cells kp; obtain ⟨kf0, kf1, kf2, kf3, kf4⟩ := parser_frz kp) | skip))
    all_goals (go_simp; go_wp2_with fail; go_meet)
    all_goals first
     | (have hkc := kc0; clear hkc; exact stepB HSS.out hsz5 rfl b6 r1 r2 r3 ha)
     | exact stepA HSS.out hsz5 hB0 b6 r1 r2 r3 ha
   case rest =>
    obtain ⟨pb, xp, xi, xu, rfl, hpb1, hpb2, hbc, kp, t1, t2, t3, has⟩ := hcut
    obtain ⟨Aa, ca, rfl, s7, s8⟩ := has.form
    obtain ⟨Bp, cp, rfl, m1, m2⟩ := t1.form
    obtain ⟨Bi, ci, rfl, m3, m4⟩ := t2.form
    obtain ⟨Bu, cu, rfl, m5, m6⟩ := t3.form
    have HATC := Lib.hid (HAT.out.on HSS.out hbc)
    obtain ⟨acts, hacts⟩ : ∃ l, (vtL sj.p b[j]).2 = l := ⟨_, rfl⟩
    obtain ⟨qp, hqp⟩ : ∃ l, (vtL sj.p b[j]).1 = l := ⟨_, rfl⟩
    have HOK := Lib.hid (vtL_acts sj.p b[j] HAT.out.inn.p)
    have HKD := Lib.hid (vtL_kd sj.p b[j] HAT.out.inn.p)
    have HPO := Lib.hid (vtL_ok sj.p b[j] HAT.out.inn.p)
    have HSTE := Lib.hid (show stepS sj b[j] = { acts.foldl doS sj with p := qp } by unfold stepS; rw [hacts, hqp])
    rw [hacts] at has s7 HOK HKD
    rw [hqp] at kp t1 t2 t3 HPO m1 m3 m5
    rw [hacts]
    have HAS := Lib.hid has
    have KP := Lib.hid kp
    have HT1 := Lib.hid t1
    have HT2 := Lib.hid t2
    have HT3 := Lib.hid t3
    clear has kp t1 t2 t3 hbc hacts hqp c19 c20 c21 c22 c23 d19 d20 d21 d22 d23 hc hc' hadb hB0 hB1 HST
    go_wp2
    go_loopw [8] (fun kv wr => ActsRel sj acts r c S w (.cells zQ 30) wc kv wr) (fun kv _ => acts.length - (intOf kv).toNat)
    case atStart => exact ⟨0, Nat.zero_le _, rfl, Nat.le_refl _, fun _ _ _ => rfl, uc, ut, uo, up, ui, uu, HATC.out⟩
    case round =>
     obtain ⟨k, hk, rfl, hz7, hfr, yc, yt, yo, yp, yi, yu, hat⟩ := hrel
     have HFR := Lib.hid hfr
     have HAT2 := Lib.hid hat
     have hsz9 := hat.size
     clear hfr hat
     by_cases hlk : k < acts.length
     ·obtain ⟨a, ha⟩ : ∃ a, acts[k]? = some a := ⟨_, List.getElem?_eq_getElem hlk⟩
      have hmem : a ∈ acts := List.mem_of_getElem? ha
      have HAO := Lib.hid (HOK.out a hmem)
      have hko : a.kind ≤ 3 := HKD.out a hmem
      have HKO := Lib.hid hko
      clear hko
      have HON2 := Lib.hid (acts_on sj acts k a ha)
      have hasr := HAS.out.keep (w' := wr.drew) (fun q hq => World.cell?_of_block (w := wc) (w' := wr.drew) (HFR.out _ (by omega) hq.2)) (fun q hq => by
       rcases hq with hq | hq
       ·have := HSS.out _ hq
        exact World.cell?_of_block (w := wc) (w' := wr.drew) (HFR.out _ (by omega) (by omega))
       ·exact World.cell?_of_block (w := wc) (w' := wr.drew) (HFR.out _ (by omega) hq.2))
      obtain ⟨ad2, vp2, vi2, hAd, hTb, l1, l2, s0, s1, s2, s3, s4, s5⟩ := hasr.get k a ha
      subst hAd
      obtain ⟨sk, hsk⟩ : ∃ x, (acts.take k).foldl doS sj = x := ⟨_, rfl⟩
      rw [hsk] at HAT2 HON2
      clear hsk
      have HVd := Lib.hid (show SCV wr.drew (fun x => S x ∨ (w.heap.size + 1 < x ∧ x < wr.heap.size)) (.agg (vS sk yc yt yo yp yi yu)) sk from ⟨_, _, _, _, _, _, rfl, HAT2.out.sl⟩)
      have HSd : Hid (∀ x, (S x ∨ (w.heap.size + 1 < x ∧ x < wr.heap.size)) → x < wr.drew.heap.size) := fun x hx => hx.elim (fun h => by show x < wr.heap.size; have := HSS.out x h; omega) (fun h => h.2)
      have HTd : Hid (∀ x, (S x ∨ (w.heap.size + 1 < x ∧ x < wc.heap.size)) → x < wr.drew.heap.size) := fun x hx => hx.elim (fun h => by show x < wr.heap.size; have := HSS.out x h; omega) (fun h => by show x < wr.heap.size; omega)
      have HL1 := Lib.hid l1
      have HL2 := Lib.hid l2
      have KS := Lib.hid (show wr.drew.heap[w.heap.size]? = some (.cells (vS sk yc yt yo yp yi yu) 30) from HAT2.out.kS)
      have hTb2 : (ad2.add (k * 6)).block < wr.heap.size := by omega
      clear ha hmem hasr l1 l2 hTb
      go_wp2_with fail
      refine wp_region_still_tail 5 (by kernel_rfl) (by kernel_rfl) ?_
      simp only [List.take_succ_cons, List.take_zero, List.drop_succ_cons, List.drop_zero]
      refine wpStill_loadS rfl (.tmp 2) rfl rfl KS.out rfl ?_
      repeat still_step
      try refine wpStill_nil ?_
      go_wp2_with fail
      ((with_reducible refine (dor_any _ vp2 vi2 sk a r c (fun x => S x ∨ (w.heap.size + 1 < x ∧ x < wr.heap.size)) (fun x => S x ∨ (w.heap.size + 1 < x ∧ x < wc.heap.size)) _ HSd.out HTd.out HVd.out HAT2.out.inn HL1.out HL2.out HAO.out HKO.out).mono ?_); rintro e w8 ⟨v8, rfl, hv8, b8⟩)
      have z8 : wr.heap.size ≤ w8.heap.size := b8.size
      have k8 : w8.heap[w.heap.size]? = _ := (b8.block _ (by show w.heap.size < wr.heap.size; omega)).trans KS.out
      have k81 : w8.heap[w.heap.size + 1]? = _ := (b8.block _ (by show w.heap.size + 1 < wr.heap.size; omega)).trans HAT2.out.kZ
      obtain ⟨zc, zt, zo, zp, zi, zu, rfl, hs8⟩ := hv8
      rename_i K hK
      refine hK _ _ ?_
      clear hK
      refine wpl_storeS rfl (.tmp 2) (.tmp 36) rfl rfl rfl k8 rfl rfl hs8.one ?_
      obtain ⟨W9, hW9⟩ : ∃ W9, W9 = w8.setRow w.heap.size (vS (doS sk a) zc zt zo zp zi zu) := ⟨_, rfl⟩
      rw [← hW9]
      have k9 : W9.heap[w.heap.size]? = some (.cells (vS (doS sk a) zc zt zo zp zi zu) 30) := by rw [hW9]; exact heap_setRow_same k8
      have o9 : ∀ b, b ≠ w.heap.size → W9.heap[b]? = w8.heap[b]? := fun b hb => by rw [hW9]; exact heap_setRow_other (fun e => hb e.symm)
      have z9 : W9.heap.size = w8.heap.size := by rw [hW9, size_setRow]
      have b9 : Below w.heap.size w W9 := by rw [hW9]; exact below_setRow (HAT2.out.bel.drew.trans (b8.mono (by show w.heap.size ≤ wr.heap.size; omega))) (Nat.le_refl _) _
      have hs9 : SSl W9 (fun x => S x ∨ (w.heap.size + 1 < x ∧ x < W9.heap.size)) (doS sk a) zc zt zo zp zi zu := (hs8.keep (fun q hq => World.cell?_of_block (o9 _ (by
       rcases hq with (h | h) | h
       ·have := HSS.out _ h; omega
       ·omega
       ·have h1 : wr.heap.size ≤ q.block := h.1; omega)))).mono (fun x hx => by
       rcases hx with (h | h) | h
       ·exact .inl h
       ·exact .inr ⟨h.1, by rw [z9]; omega⟩
       ·have h1 : wr.heap.size ≤ x := h.1
        exact .inr ⟨by omega, by rw [z9]; exact h.2⟩)
      have f9 : ∀ x, x ≠ w.heap.size → x < wc.heap.size → W9.heap[x]? = wc.heap[x]? := fun x hx hl => (o9 x hx).trans ((b8.block x (by show x < wr.heap.size; omega)).trans (HFR.out x hx hl))
      have R9 : Hid (ActsRel sj acts r c S w (.cells zQ 30) wc (.int .i64 ((k + 1 : Nat) : Int)) W9) :=
       ⟨k + 1, hlk, rfl, by rw [z9]; omega, f9, zc, zt, zo, zp, zi, zu, by rw [HON2.out]; exact ⟨doS_in HAT2.out.inn a HAO.out, b9, by rw [z9]; omega, (o9 _ (by omega)).trans k81, k9, hs9⟩⟩
      clear k9 o9 z9 b9 hs9 hs8 k8 k81 hW9 b8 f9 s0 s1 s2 s3 s4 s5 z8
      go_simp
      go_wp2
      go_roundw
      case rel =>
       have h := R9.out
       rw [show ((k + 1 : Nat) : Int) = (k : Int) + 1 by omega] at h
       exact h
      case measure => simp [intOf]; omega
     ·obtain rfl : k = acts.length := by omega
      have kpr : wr.heap[pb]? = _ := (HFR.out pb (by omega) hpb2).trans KP.out
      obtain ⟨kc0, kc1, kc2, kc3, kc4⟩ := parser_cells kpr
      obtain ⟨e19, g19⟩ := cellR (w := wr) HAT2.out.kS 19 rfl
      obtain ⟨e20, g20⟩ := cellR (w := wr) HAT2.out.kS 20 rfl
      obtain ⟨e21, g21⟩ := cellR (w := wr) HAT2.out.kS 21 rfl
      obtain ⟨e22, g22⟩ := cellR (w := wr) HAT2.out.kS 22 rfl
      obtain ⟨e23, g23⟩ := cellR (w := wr) HAT2.out.kS 23 rfl
      rw [List.take_of_length_le (Nat.le_refl _)] at HAT2
      clear kpr
      go_wp2
      go_roundw
      case rel =>
       obtain ⟨W9, hW9⟩ : ∃ W9, W9 = ((((wr.setCell ⟨w.heap.size, 19, none⟩ (.int .i64 (qp.mode : Int))).setCell ⟨w.heap.size, 20, none⟩ (.int .u8 (qp.priv : Int))).setCell ⟨w.heap.size, 21, none⟩ (.slice Bp qp.params.length cp)).setCell ⟨w.heap.size, 22, none⟩ (.slice Bi qp.inter.length ci)).setCell ⟨w.heap.size, 23, none⟩ (.slice Bu qp.utf.length cu) := ⟨_, rfl⟩
       have hrow := row_parser (p := qp) (xp := .slice Bp qp.params.length cp) (xi := .slice Bi qp.inter.length ci) (xu := .slice Bu qp.utf.length cu) HAT2.out.kS
       rw [← hW9] at hrow ⊢
       have z9 : W9.heap.size = wr.heap.size := by rw [hW9]; simp [World.setCell]
       have ho : ∀ b, b ≠ w.heap.size → W9.heap[b]? = wr.heap[b]? := fun b hb => by
        rw [hW9, Below.heap_setCell _ _ _ _ hb, Below.heap_setCell _ _ _ _ hb, Below.heap_setCell _ _ _ _ hb, Below.heap_setCell _ _ _ _ hb, Below.heap_setCell _ _ _ _ hb]
       have hbel : Below w.heap.size w W9 := by
        rw [hW9]
        exact ((((HAT2.out.bel.setCell (p := ⟨w.heap.size, 19, none⟩) (Nat.le_refl _) _).setCell (p := ⟨w.heap.size, 20, none⟩) (Nat.le_refl _) _).setCell (p := ⟨w.heap.size, 21, none⟩) (Nat.le_refl _) _).setCell (p := ⟨w.heap.size, 22, none⟩) (Nat.le_refl _) _).setCell (p := ⟨w.heap.size, 23, none⟩) (Nat.le_refl _) _
       have hkeep : ∀ q : Addr, (S q.block ∨ (w.heap.size + 1 < q.block ∧ q.block < wr.heap.size)) → W9.cell? q = wr.cell? q := fun q hq => World.cell?_of_block (ho _ (by
        rcases hq with h | h
        ·have := HSS.out _ h; omega
        ·omega))
       have hkeep2 : ∀ q : Addr, (S q.block ∨ (w.heap.size + 1 < q.block ∧ q.block < wc.heap.size)) → W9.cell? q = wc.cell? q := fun q hq => World.cell?_of_block ((ho _ (by
        rcases hq with h | h
        ·have := HSS.out _ h; omega
        ·omega)).trans (HFR.out _ (by
        rcases hq with h | h
        ·have := HSS.out _ h; omega
        ·omega) (by
        rcases hq with h | h
        ·have := HSS.out _ h; omega
        ·omega)))
       have hm2 : ∀ x, (S x ∨ (w.heap.size + 1 < x ∧ x < wc.heap.size)) → (S x ∨ (w.heap.size + 1 < x ∧ x < W9.heap.size)) := fun x hx => by
        rcases hx with h | h
        ·exact .inl h
        ·exact .inr ⟨h.1, by rw [z9]; omega⟩
       have hm1 : ∀ x, (S x ∨ (w.heap.size + 1 < x ∧ x < wr.heap.size)) → (S x ∨ (w.heap.size + 1 < x ∧ x < W9.heap.size)) := fun x hx => by rw [z9]; exact hx
       obtain ⟨y1, y2, y3, -, -, -⟩ := (HAT2.out.sl.keep hkeep).mono hm1
       refine ⟨j + 1, hlt, by go_num, yc, yt, yo, .slice Bp qp.params.length cp, .slice Bi qp.inter.length ci, .slice Bu qp.utf.length cu, ?_⟩
       rw [HON.out, HSTE.out]
       exact ⟨{ HAT2.out.inn with p := HPO.out }, hbel, by rw [z9]; exact hsz9, (ho _ (by omega)).trans HAT2.out.kZ, hrow, y1, y2, y3, (HT1.out.keep hkeep2).mono hm2, (HT2.out.keep hkeep2).mono hm2, (HT3.out.keep hkeep2).mono hm2⟩
      case measure => simp [intOf]; omega
  ·obtain rfl : j = b.length := by omega
   rw [List.take_of_length_le (Nat.le_refl _)] at hat
   have HAT := Lib.hid hat
   have hsz5 := hat.size
   clear hat
   go_upto_region 10 with fail
   refine wp_region_lit ?_
   refine wpl_loadS rfl (.tmp 2) rfl rfl HAT.out.kS rfl ?_
   refine wpl_storeS rfl (.tmp 4) (.tmp 39) rfl rfl rfl HAT.out.kZ rfl rfl HAT.out.sl.one ?_
   go_wp2
   refine scEndV (w.heap.size + 1) 4 Tryz.results16 ?_ ?_ HAT.out.kZ (by omega) HAT.out.bel HSS.out HAT.out.sl (fun x hx => hx)
   all_goals rfl
theorem wpl_appZ (w : World) {ops : Array Oper} {rest : List Oper} {o : Oper} {a : Act} {Q : Exit → Act → World → Prop} (hgd : o.guard = none) (s x : Operand)
  (ho : o.op = .call { callee := .builtin .append, args := #[s, x], argTypes := #[26, 9] })
  (base : Nat) (v : Value) (l : List UInt8) (m : ByteArray) (hs : a.eval s = v) (hx : a.eval x = .string m) (hown : OB w base v l) (hlen : l.length + m.size ≤ 1099511627776) (hbase : base ≤ w.heap.size)
  (h : ∀ v' w', OB w' base v' (l ++ m.data.toList) → w.grownBy w' v.ownBlock → Below base w w' → wpList Tryz.prog ops Q rest (a.put o.dst v') w') :
  wpList Tryz.prog ops Q (o :: rest) a w := by
 obtain ⟨i0, hi0, hz0, hz1, hz2⟩ := info_parts byteInfo
 have hlt := World.ownsRow.lt hown
 refine Lib.wpList_append_own_string w hgd s x 26 9 ho base 5 i0 Tryz.underlying26 Tryz.underlying9 hi0 hz0 hz1 hz2 v l.length (vBs l) hs hown m hx (by simp only [maxLen]; omega) (by omega) hbase ?_
 intro v' w' h1 h2 _
 refine h v' w' ?_ h2 ((Below.refl _ _).grown h2 hbase (fun k hk => (hlt k hk).1))
 unfold OB
 have e1 : (l ++ m.data.toList).length = l.length + m.size := by simp
 have e2 : vBs (l ++ m.data.toList) = vBs l ++ Lib.strCells m := by simp [vBs, vB, Lib.strCells]
 rw [e1, e2]
 exact h1
def seatP : List (List UInt8) := [[97, 98], [120], [230, 188, 162], [195, 169], [13, 10], [10], [13], [8], [9], [27, 91, 65], [27, 91, 51, 66], [27, 91, 50, 67], [27, 91, 68], [27, 91, 50, 59, 51, 72], [27, 91, 74], [27, 91, 49, 74], [27, 91, 50, 74], [27, 91, 75], [27, 91, 49, 75], [27, 91, 76], [27, 91, 50, 77], [27, 91, 50, 64], [27, 91, 80], [27, 91, 51, 88], [27, 91, 83], [27, 91, 84], [27, 91, 50, 59, 52, 114], [27, 91, 114], [27, 77], [27, 68], [27, 69], [27, 55], [27, 56], [27, 99], [27, 72], [27, 91, 103], [27, 91, 51, 103], [27, 91, 49, 59, 51, 49, 109], [27, 91, 48, 59, 52, 59, 52, 55, 109], [27, 91, 109], [27, 91, 63, 55, 108], [27, 91, 63, 55, 104], [27, 91, 63, 50, 53, 108], [27, 91, 63, 49, 48, 52, 57, 104], [27, 91, 63, 49, 48, 52, 57, 108], [27, 91, 53, 71], [27, 91, 50, 100], [27, 93, 48, 59, 116, 7], [27, 80, 49, 27, 92], [230], [255], [27, 91], [27], [49, 50, 59], [24], [97, 98, 99, 100, 101, 102, 103, 104], [27, 91, 57, 57, 57, 57, 57, 57, 57, 57, 57, 57, 57, 109], [27, 40, 66], [27, 91, 49, 58, 50, 109], [27, 91, 62, 99], [195], [169], [229, 173, 151, 229, 173, 151], [27, 91, 33, 112], [204, 129], [12], [127], [27, 91, 59, 72], [27, 91, 48, 75]]
def seatP1 (j : Nat) : List UInt8 := seatP.getD j []
def seatB (l : List UInt8) : List UInt8 := l.flatMap fun b => seatP1 (b.toNat % 69)
theorem seatP1_len (j : Nat) : (seatP1 j).length ≤ 20 := by
 by_cases h : j < 69
 ·revert h
  revert j
  have h := (List.all_eq_true (l := List.range 69) (p := fun j => decide ((seatP1 j).length ≤ 20))).1 (by kernel_rfl)
  exact fun j hj => of_decide_eq_true (h j (List.mem_range.2 hj))
 ·unfold seatP1
  rw [List.getD_eq_getElem?_getD, List.getElem?_eq_none (by show 69 ≤ j; omega)]
  simp
theorem seatB_take (l : List UInt8) (k : Nat) (h : k < l.length) : seatB (l.take (k + 1)) = seatB (l.take k) ++ seatP1 (l[k].toNat % 69) := by
 unfold seatB
 rw [List.take_succ_eq_append_getElem h, List.flatMap_append]
 simp
theorem seatB_len (l : List UInt8) : (seatB l).length ≤ 20 * l.length := by
 induction l with
 | nil => simp [seatB]
 | cons b l ih =>
  have h := seatP1_len (b.toNat % 69)
  have e : seatB (b :: l) = seatP1 (b.toNat % 69) ++ seatB l := rfl
  rw [e, List.length_append, List.length_cons]
  omega
def SeatBP (l : List UInt8) (w : World) (e : Ending) (w' : World) : Prop := ∃ v, e = .returned v ∧ OB w' w.heap.size v (seatB l) ∧ Below w.heap.size w w'
def SeatBRel (l : List UInt8) (B : Nat) (w1 : World) (o i : Value) (wr : World) : Prop :=
 ∃ k : Nat, k ≤ l.length ∧ i = .int .i64 (k : Int) ∧ OB wr (B + 1) o (seatB (l.take k)) ∧ Below (B + 1) w1 wr
def pieceS (j : Nat) : Option Value → Bool
 | some (.string s) => s.data.toList == seatP1 j
 | _ => false
theorem pieceS_ex {j : Nat} {x : Option Value} (h : pieceS j x = true) : ∃ s : ByteArray, s.data.toList = seatP1 j ∧ x = some (.string s) := by
 unfold pieceS at h
 split at h
 ·exact ⟨_, by simpa using h, rfl⟩
 ·cases h
theorem short_lt {n : Nat} {f : Nat → Bool} (h : (List.range n).all f = true) : ∀ j, j < n → f j = true := fun j hj => List.all_eq_true.1 h j (List.mem_range.2 hj)
theorem seatBytesF_any (v : Value) (l : List UInt8) (w : World) (hv : BS w w.heap.size v l) (hl : l.length ≤ 1048576) : Calls Tryz.prog 17 #[v] w (SeatBP l w) := by
 obtain ⟨A, cp, rfl, g1, g2, _⟩ := hv.at_
 unfold maxLen at g2
 go_enter Tryz.func17, Tryz.ntmps17
 go_wp2
 generalize hO : Obj.cells _ 9 _ = O
 have hC : ∀ j, j < 69 → ∃ s : ByteArray, s.data.toList = seatP1 j ∧ (w.alloc O).cell? ⟨w.heap.size, j, none⟩ = some (.string s) := by
  subst hO
  intro j hj
  rw [World.cell?_alloc_new]
  refine pieceS_ex ?_
  revert j
  refine short_lt (n := 69) (f := fun j => pieceS j _) ?_
  kernel_rfl
 clear hO
 have hB1 : Below w.heap.size w (w.alloc O) := (Below.refl _ _).alloc (Nat.le_refl _) _
 have hs1 : (w.alloc O).heap.size = w.heap.size + 1 := by simp
 have hv1 := hv.below hB1
 generalize w.alloc O = W1 at *
 go_loopw [4, 5] (fun o i wr => SeatBRel l w.heap.size W1 o i wr) (fun _ i _ => l.length - (intOf i).toNat)
 case atStart => exact ⟨0, Nat.zero_le _, rfl, OB.nil _ _, Below.refl _ _⟩
 case round =>
  obtain ⟨k, hk, rfl, ho, hbel⟩ := hrel
  have hm := Nat.le_trans (seatB_len (l.take k)) (Nat.mul_le_mul_left 20 (List.length_take_le k l))
  obtain ⟨m, hmm⟩ : ∃ m, seatB (l.take k) = m := ⟨_, rfl⟩
  rw [hmm] at ho hm
  by_cases hlt : k < l.length
  ·have hz := hbel.size
   obtain ⟨ad, rfl, hc⟩ := (hv1.below (hbel.mono (Nat.le_succ _))).cellC k hlt
   have hbl := (l[k]).toNat_lt
   have HN := Lib.hid (seatB_take l k hlt)
   rw [hmm] at HN
   clear hmm
   unfold vB at hc
   generalize l[k].toNat = b at *
   obtain ⟨j, hj⟩ : ∃ j, b % 69 = j := ⟨_, rfl⟩
   have hj17 : j < 69 := by omega
   obtain ⟨s, hsz, hcs⟩ := hC j hj17
   have hcs2 : wr.cell? ⟨w.heap.size, j, none⟩ = some (.string s) := (hbel.cell (p := ⟨w.heap.size, j, none⟩) (Nat.lt_succ_self _)).trans hcs
   have e1 : (b : Int) % 69 = (j : Int) := by omega
   have HO := Lib.hid ho
   have hsz2 : s.size ≤ 20 := by
    have h := seatP1_len j
    rw [← hsz, Array.length_toList] at h
    exact h
   have HSZ := Lib.hid hsz
   rw [hj] at HN
   clear hsz
   have hj1 : (j : Int) < 69 := by omega
   clear hv ho hC hv1 hcs hj
   go_wp2_with (first
    | (at_builtin; refine wpl_appZ _ rfl (.tmp 13) (.tmp 24) rfl (w.heap.size + 1) _ _ s rfl rfl HO.out (by omega) (by omega) ?_; intro v3 w3 ho3 hg3 hbel3))
   go_roundw
   case rel => exact ⟨k + 1, hlt, by go_num, by rw [HN.out, ← HSZ.out]; exact ho3, hbel.trans hbel3⟩
   case measure => simp [intOf]; omega
  ·obtain rfl : k = l.length := by omega
   clear hv hC hv1
   go_wp2
   go_ret
   rw [List.take_of_length_le (Nat.le_refl _)] at hmm
   exact ⟨_, rfl, by rw [hmm]; exact World.ownsRow.mono ho (Nat.le_succ _), hB1.trans (hbel.mono (Nat.le_succ _))⟩
end Go.Proofs.YthncoigjfhmldaaGreat
