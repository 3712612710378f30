/- What is proved here: the law VtTells, called with any bytes, numbers and parser, returns true and leaves alone whatever memory was there; an argument that is a parser reads as its five fields, whose values fit their types; for every input the law VtTells answers true (what any bytes come to, in any mode, byte by byte and all together, is the document's, and which parsers are right); no condition. -/
import Derived.Test.YtbimhhcmfhooaaaM11
import Derived.Deep.RegionHeld3
import Derived.Deep.RegionLaw
import Derived.Test.YtbimhhcmfhooaaaM2
import Derived.Deep.Slices
import Derived.Deep.Strs
import Derived.ProofKit
import Derived.OpenShut
import Derived.ShutString
import Derived.ChangeOld
import Derived.Test.YtbimhhcmfhooaaaRows
import Derived.WalkKit
import Derived.Below
namespace Go.Proofs.Ytbimhhcmfhooaaa
open Go.RowKit
set_option linter.unusedVariables false
set_option linter.unusedSimpArgs false

theorem knownB_any (w : World) (o : Obj) : Calls Try.prog 8 #[] (w.alloc o) fun e w' => e = .returned (.bool true) ∧ Below w.heap.size w w' ∧ w'.heap[w.heap.size]? = some o :=
  (knownV_any (w.alloc o)).mono fun e w' ⟨he, hb⟩ => ⟨he, ((Below.refl _ _).alloc (Nat.le_refl _) o).trans (hb.mono (by simp)), (hb.block _ (by simp)).trans (heap_new7 w o)⟩
/-- Two tests of one parser, behind W. -/
theorem rightB (b : Bool) {m : Int} {pv : Nat} {ps : List Int} {is us : List UInt8} (hb : b = true ↔ RightP m pv ps is us) {w w' : World} {e : Ending} (h : RightPost m pv ps is us w e w') : e = .returned (.bool b) ∧ Below w.heap.size w w' := by
  obtain ⟨r, rfl, h1, h2⟩ := h
  refine ⟨?_, h2⟩
  have : r = b := by
    cases r <;> cases b <;> simp_all
  rw [this]
theorem PB.pw {w : World} {g : Nat} {x : Array Value} {p : Pr} (h : PB w g x p) : PW w (.agg x) p := h.2
/-- Five cells that are a parser's. -/
def FiveAt (w : World) (g o : Nat) (x0 x1 x2 x3 x4 : Value) : Prop := w.cell? ⟨g, o, none⟩ = some x0 ∧ w.cell? ⟨g, o + 1, none⟩ = some x1 ∧ w.cell? ⟨g, o + 2, none⟩ = some x2 ∧ w.cell? ⟨g, o + 3, none⟩ = some x3 ∧ w.cell? ⟨g, o + 4, none⟩ = some x4
theorem FiveAt.below {w w' : World} {g o : Nat} {x0 x1 x2 x3 x4 : Value} (h : FiveAt w g o x0 x1 x2 x3 x4) (hb : Below w.heap.size w w') (hx : g < w.heap.size) : FiveAt w' g o x0 x1 x2 x3 x4 := by
  obtain ⟨h0, h1, h2, h3, h4⟩ := h
  exact ⟨(hb.cell (p := ⟨g, o, none⟩) hx).trans h0, (hb.cell (p := ⟨g, o + 1, none⟩) hx).trans h1, (hb.cell (p := ⟨g, o + 2, none⟩) hx).trans h2, (hb.cell (p := ⟨g, o + 3, none⟩) hx).trans h3, (hb.cell (p := ⟨g, o + 4, none⟩) hx).trans h4⟩
/-- Two parsers in a row: the one of nothing, and another one. -/
def TwoP (W : World) (g : Nat) : Prop := g < W.heap.size ∧ ∀ j, j < 2 → ∃ m pv Ap np cp Ai ni ci Au nu cu p, FiveAt W g (j * 5) (.int .i64 m) (.int .u8 pv) (.slice Ap np cp) (.slice Ai ni ci) (.slice Au nu cu) ∧ PrOk p ∧ PW W (.agg (v5 m pv Ap np cp Ai ni ci Au nu cu)) p
theorem twoP_laid {w : World} {m pv : Int} {Ap Ai Au : Option Addr} {np cp ni ci nu cu : Nat} {p : Pr} {t : TypeId} (hok : PrOk p) (hp : PW w (.agg (v5 m pv Ap np cp Ai ni ci Au nu cu)) p) : TwoP (w.alloc (.cells #[.int .i64 0, .int .u8 0, .slice none 0 0, .slice none 0 0, .slice none 0 0, .int .i64 m, .int .u8 pv, .slice Ap np cp, .slice Ai ni ci, .slice Au nu cu] t)) w.heap.size := by
  have hk := heap_new7 w (.cells #[.int .i64 0, .int .u8 0, .slice none 0 0, .slice none 0 0, .slice none 0 0, .int .i64 m, .int .u8 pv, .slice Ap np cp, .slice Ai ni ci, .slice Au nu cu] t)
  refine ⟨by simp, fun j hj => ?_⟩
  rcases (show j = 0 ∨ j = 1 by omega) with rfl | rfl
  · exact ⟨0, 0, none, 0, 0, none, 0, 0, none, 0, 0, prM 0, ⟨cell7 hk 0 rfl, cell7 hk 1 rfl, cell7 hk 2 rfl, cell7 hk 3 rfl, cell7 hk 4 rfl⟩, prM_ok 0 (by omega) (by omega) (by omega), PW.zero _⟩
  · exact ⟨m, pv, Ap, np, cp, Ai, ni, ci, Au, nu, cu, p, ⟨cell7 hk 5 rfl, cell7 hk 6 rfl, cell7 hk 7 rfl, cell7 hk 8 rfl, cell7 hk 9 rfl⟩, hok, hp.below ((Below.refl _ _).alloc (Nat.le_refl _) _)⟩
/-- Three slices of bytes in a row. -/
def ThreeB (W : World) (g : Nat) : Prop := g < W.heap.size ∧ ∀ j, j < 3 → ∃ A n c bl, W.cell? ⟨g, j, none⟩ = some (.slice A n c) ∧ BS W W.heap.size (.slice A n c) bl ∧ bl.length = n ∧ n ≤ 1000
theorem threeB_laid {w : World} {x y z : Value} {lx ly lz : List UInt8} {t : TypeId} (hx : BS w w.heap.size x lx) (hy : BS w w.heap.size y ly) (hz : BS w w.heap.size z lz) (bx : lx.length ≤ 1000) (hby : ly.length ≤ 1000) (bz : lz.length ≤ 1000) : ThreeB (w.alloc (.cells #[x, y, z] t)) w.heap.size := by
  have hk := heap_new7 w (.cells #[x, y, z] t)
  have hb : Below w.heap.size w (w.alloc (.cells #[x, y, z] t)) := (Below.refl _ _).alloc (Nat.le_refl _) _
  refine ⟨by simp, fun j hj => ?_⟩
  rcases (show j = 0 ∨ j = 1 ∨ j = 2 by omega) with rfl | rfl | rfl
  · obtain ⟨A, c, rfl, -, -, -⟩ := hx.at_
    exact ⟨A, _, c, lx, cell7 hk 0 rfl, (hx.below hb).more hb.size, rfl, bx⟩
  · obtain ⟨A, c, rfl, -, -, -⟩ := hy.at_
    exact ⟨A, _, c, ly, cell7 hk 1 rfl, (hy.below hb).more hb.size, rfl, hby⟩
  · obtain ⟨A, c, rfl, -, -, -⟩ := hz.at_
    exact ⟨A, _, c, lz, cell7 hk 2 rfl, (hz.below hb).more hb.size, rfl, bz⟩
/-- Behind a step: its parser lies in a block, its acts in a slice; what they reach are blocks of U, or new ones, not that block. -/
def LaidU (W : World) (U : Nat → Prop) (r : Pr × List Ac) (s1 s2 : Value) (wx : World) : Prop :=
  ∃ (g : Nat) (A1 : Option Addr) (n1 : Nat) (A2 : Option Addr) (n2 : Nat) (A3 : Option Addr) (n3 : Nat) (Aa : Option Addr) (na : Nat) (U2 : Nat → Prop), s1 = .pointer (some ⟨g, 0, none⟩) ∧ s2 = .slice Aa r.2.length na ∧ (r.2.length ≤ na ∧ na ≤ 9223372036854775807) ∧ W.heap.size ≤ g ∧
    wx.heap[g]? = some (.cells (v5 (r.1.mode : Int) (r.1.priv : Int) A1 r.1.params.length n1 A2 r.1.inter.length n2 A3 r.1.utf.length n3) 25) ∧ (SL vI wx U2 (.slice A1 r.1.params.length n1) r.1.params ∧ SL vB wx U2 (.slice A2 r.1.inter.length n2) r.1.inter ∧ SL vB wx U2 (.slice A3 r.1.utf.length n3) r.1.utf) ∧ AS wx U2 U2 (.slice Aa r.2.length na) r.2 ∧ (∀ x, U2 x → U x ∨ (W.heap.size ≤ x ∧ x < wx.heap.size ∧ x ≠ g)) ∧ Below W.heap.size W wx
section
variable {r : Pr × List Ac} {W W1 w6 : World} {U : Nat → Prop} {Ap Ai Au Aa : Option Addr} {cp ci cu ca : Nat}
theorem laidUA (hU : ∀ x, U x → x < W.heap.size) (hW : Below W.heap.size W W1) (b6 : Below W1.heap.size W1 w6) (r1 : SL vI w6 (fun x => U x ∨ NewB w6 W1.heap.size x) (.slice Ap r.1.params.length cp) r.1.params) (r2 : SL vB w6 (fun x => U x ∨ NewB w6 W1.heap.size x) (.slice Ai r.1.inter.length ci) r.1.inter) (r3 : SL vB w6 (fun x => U x ∨ NewB w6 W1.heap.size x) (.slice Au r.1.utf.length cu) r.1.utf)
    (ha : AS w6 (NewB w6 W1.heap.size) (fun x => U x ∨ NewB w6 W1.heap.size x) (.slice Aa r.2.length ca) r.2) :
    LaidU W U r (.pointer (some ⟨w6.heap.size, 0, none⟩)) (.slice Aa r.2.length ca) (w6.alloc (.cells #[.int .i64 (r.1.mode : Int), .int .u8 (r.1.priv : Int), .slice Ap r.1.params.length cp, .slice Ai r.1.inter.length ci, .slice Au r.1.utf.length cu] 25)) := by
  have z1 := hW.size
  have z2 := b6.size
  obtain ⟨A, c, hv, x1, x2⟩ := ha.form
  simp only [Value.slice.injEq] at hv
  obtain ⟨-, -, rfl⟩ := hv
  have hlt : ∀ x, (U x ∨ NewB w6 W1.heap.size x) → x < w6.heap.size := fun x hx => hx.elim (fun h => by have := hU x h; omega) (fun h => h.2)
  have hk : ∀ q : Addr, (U q.block ∨ NewB w6 W1.heap.size q.block) → (w6.alloc (.cells #[.int .i64 (r.1.mode : Int), .int .u8 (r.1.priv : Int), .slice Ap r.1.params.length cp, .slice Ai r.1.inter.length ci, .slice Au r.1.utf.length cu] 25)).cell? q = w6.cell? q := fun q hq => World.cell?_alloc_lt w6 _ q (hlt _ hq)
  have hb := hW.trans (b6.mono z1)
  exact ⟨w6.heap.size, Ap, cp, Ai, ci, Au, cu, Aa, ca, fun x => U x ∨ NewB w6 W1.heap.size x, rfl, rfl, ⟨x1, x2⟩, hb.size, heap_new7 w6 _, ⟨r1.keep hk, r2.keep hk, r3.keep hk⟩, (ha.mono (T' := fun x => U x ∨ NewB w6 W1.heap.size x) (fun x hx => .inr hx) (fun x hx => hx)).keep hk hk, fun x hx => hx.imp id (fun h => ⟨by have := h.1; omega, by have := h.2; simp; omega, by have := h.2; omega⟩), hb.alloc hb.size _⟩
theorem laidUB {x0 x1 x2 x3 x4 : Value} (hU : ∀ x, U x → x < W.heap.size) (b6 : Below (W.alloc (.cells #[x0, x1, x2, x3, x4] 25)).drew.heap.size (W.alloc (.cells #[x0, x1, x2, x3, x4] 25)).drew w6)
    (r1 : SL vI w6 (fun x => U x ∨ NewB w6 (W.alloc (.cells #[x0, x1, x2, x3, x4] 25)).drew.heap.size x) (.slice Ap r.1.params.length cp) r.1.params) (r2 : SL vB w6 (fun x => U x ∨ NewB w6 (W.alloc (.cells #[x0, x1, x2, x3, x4] 25)).drew.heap.size x) (.slice Ai r.1.inter.length ci) r.1.inter) (r3 : SL vB w6 (fun x => U x ∨ NewB w6 (W.alloc (.cells #[x0, x1, x2, x3, x4] 25)).drew.heap.size x) (.slice Au r.1.utf.length cu) r.1.utf)
    (ha : AS w6 (NewB w6 (W.alloc (.cells #[x0, x1, x2, x3, x4] 25)).drew.heap.size) (fun x => U x ∨ NewB w6 (W.alloc (.cells #[x0, x1, x2, x3, x4] 25)).drew.heap.size x) (.slice Aa r.2.length ca) r.2) :
    LaidU W U r (.pointer (some ⟨W.heap.size, 0, none⟩)) (.slice Aa r.2.length ca) (((((w6.setCell ⟨W.heap.size, 0, none⟩ (.int .i64 (r.1.mode : Int))).setCell ⟨W.heap.size, 1, none⟩ (.int .u8 (r.1.priv : Int))).setCell ⟨W.heap.size, 2, none⟩ (.slice Ap r.1.params.length cp)).setCell ⟨W.heap.size, 3, none⟩ (.slice Ai r.1.inter.length ci)).setCell ⟨W.heap.size, 4, none⟩ (.slice Au r.1.utf.length cu)) := by
  have hblk := blk7 b6
  have z0 : (W.alloc (.cells #[x0, x1, x2, x3, x4] 25)).drew.heap.size = W.heap.size + 1 := by
    show (W.heap.push _).size = _
    simp
  have hbW : Below W.heap.size W (W.alloc (.cells #[x0, x1, x2, x3, x4] 25)).drew := ((Below.refl _ _).alloc (Nat.le_refl _) _).drew
  have hb := hbW.trans (b6.mono (by rw [z0]; omega))
  have z2 : W.heap.size + 1 ≤ w6.heap.size := by have := b6.size; rw [z0] at this; exact this
  rw [z0] at b6 r1 r2 r3 ha
  obtain ⟨A, c, hv, y1, y2⟩ := ha.form
  simp only [Value.slice.injEq] at hv
  obtain ⟨-, -, rfl⟩ := hv
  show LaidU W U r _ _ (wsg W.heap.size w6 (.int .i64 (r.1.mode : Int)) (.int .u8 (r.1.priv : Int)) (.slice Ap r.1.params.length cp) (.slice Ai r.1.inter.length ci) (.slice Au r.1.utf.length cu))
  have hne : ∀ x, (U x ∨ NewB w6 (W.heap.size + 1) x) → x ≠ W.heap.size := fun x hx => hx.elim (fun h => by have := hU x h; omega) (fun h => by have := h.1; omega)
  have hk : ∀ q : Addr, (U q.block ∨ NewB w6 (W.heap.size + 1) q.block) → (wsg W.heap.size w6 (.int .i64 (r.1.mode : Int)) (.int .u8 (r.1.priv : Int)) (.slice Ap r.1.params.length cp) (.slice Ai r.1.inter.length ci) (.slice Au r.1.utf.length cu)).cell? q = w6.cell? q := fun q hq => World.cell?_of_block (wsg_heap _ (hne _ hq))
  have hzz : (wsg W.heap.size w6 (.int .i64 (r.1.mode : Int)) (.int .u8 (r.1.priv : Int)) (.slice Ap r.1.params.length cp) (.slice Ai r.1.inter.length ci) (.slice Au r.1.utf.length cu)).heap.size = w6.heap.size := by simp [wsg]
  exact ⟨W.heap.size, Ap, cp, Ai, ci, Au, cu, Aa, ca, fun x => U x ∨ NewB w6 (W.heap.size + 1) x, rfl, rfl, ⟨y1, y2⟩, Nat.le_refl _, wsg_box hblk, ⟨r1.keep hk, r2.keep hk, r3.keep hk⟩, (ha.mono (T' := fun x => U x ∨ NewB w6 (W.heap.size + 1) x) (fun x hx => .inr hx) (fun x hx => hx)).keep hk hk, fun x hx => hx.imp id (fun h => ⟨by have := h.1; omega, by rw [hzz]; exact h.2, by have := h.1; omega⟩), (wsg_fr (B := fun _ => False) (Fr.of hb _) (Nat.le_refl _)).below (fun _ h => h.elim) (Nat.le_refl _)⟩
end
theorem PW.five {w : World} {m pv : Int} {Ap Ai Au : Option Addr} {np cp ni ci nu cu : Nat} {p : Pr} (h : PW w (.agg (v5 m pv Ap np cp Ai ni ci Au nu cu)) p) : ((p.mode : Int) = m ∧ (p.priv : Int) = pv ∧ p.params.length = np ∧ p.inter.length = ni ∧ p.utf.length = nu) ∧ SL vI w (Old w) (.slice Ap np cp) p.params ∧ SL vB w (Old w) (.slice Ai ni ci) p.inter ∧ SL vB w (Old w) (.slice Au nu cu) p.utf := by
  obtain ⟨vp, vi, vu, hv, h1, h2, h3⟩ := h
  simp only [Value.agg.injEq, Array.mk.injEq, List.cons.injEq, Value.int.injEq, true_and, and_true] at hv
  obtain ⟨e1, e2, rfl, rfl, rfl⟩ := hv
  obtain ⟨_, _, f1, -⟩ := h1.form
  obtain ⟨_, _, f2, -⟩ := h2.form
  obtain ⟨_, _, f3, -⟩ := h3.form
  simp only [Value.slice.injEq] at f1 f2 f3
  exact ⟨⟨e1.symm, e2.symm, f1.2.1.symm, f2.2.1.symm, f3.2.1.symm⟩, h1, h2, h3⟩
/-- At the inner loop's head: so many bytes, step by step. -/
def LoRel (p : Pr) (bl : List UInt8) (V : World) (gx : Nat) (al i : Value) (wr : World) : Prop :=
  ∃ (k : Nat) (q : Pr) (mm : List Ac) (U : Nat → Prop) (A1 : Option Addr) (n1 : Nat) (A2 : Option Addr) (n2 : Nat) (A3 : Option Addr) (n3 : Nat), k ≤ bl.length ∧ i = .int .i64 (k : Int) ∧ vtAll p (bl.take k) = (q, mm) ∧
    wr.heap[gx]? = some (.cells (v5 (q.mode : Int) (q.priv : Int) A1 q.params.length n1 A2 q.inter.length n2 A3 q.utf.length n3) 25) ∧ (SL vI wr U (.slice A1 q.params.length n1) q.params ∧ SL vB wr U (.slice A2 q.inter.length n2) q.inter ∧ SL vB wr U (.slice A3 q.utf.length n3) q.utf) ∧ OA wr (gx + 1) U al mm ∧ (∀ x, U x → x < wr.heap.size ∧ x ≠ gx) ∧ Below gx V wr
theorem lo_start {p : Pr} {bl : List UInt8} {V : World} {m pv : Int} {Ap Ai Au : Option Addr} {np cp ni ci nu cu : Nat} (h : PW V (.agg (v5 m pv Ap np cp Ai ni ci Au nu cu)) p) : LoRel p bl V V.heap.size (.slice none 0 0) (.int .i64 ((0 : Nat) : Int)) (V.alloc (.cells (v5 m pv Ap np cp Ai ni ci Au nu cu) 25)) := by
  obtain ⟨⟨rfl, rfl, rfl, rfl, rfl⟩, h1, h2, h3⟩ := h.five
  have hk : ∀ q : Addr, Old V q.block → (V.alloc (.cells (v5 (p.mode : Int) (p.priv : Int) Ap p.params.length cp Ai p.inter.length ci Au p.utf.length cu) 25)).cell? q = V.cell? q := fun q hq => World.cell?_alloc_lt V _ q hq
  exact ⟨0, p, [], Old V, Ap, cp, Ai, ci, Au, cu, Nat.zero_le _, rfl, rfl, heap_new7 V _, ⟨h1.keep hk, h2.keep hk, h3.keep hk⟩, OA.nil _ _ _, fun x hx => ⟨by have h0 : x < V.heap.size := hx; simp; omega, by have h0 : x < V.heap.size := hx; omega⟩, (Below.refl _ _).alloc (Nat.le_refl _) _⟩
theorem lo_next {p : Pr} {bl : List UInt8} {V w8 w9 : World} {gx kk : Nat} {mm : List Ac} {U U2 : Nat → Prop} {r : Pr × List Ac} {A1 A2 A3 : Option Addr} {n1 n2 n3 : Nat} {al v9 x0 x1 x2 x3 x4 : Value} (hlt : kk < bl.length) (hq : vtAll p (bl.take (kk + 1)) = (r.1, mm ++ r.2)) (hU : ∀ x, (U x ∨ U2 x) → x < w8.heap.size ∧ x ≠ gx)
    (h1 : SL vI w8 U2 (.slice A1 r.1.params.length n1) r.1.params) (h2 : SL vB w8 U2 (.slice A2 r.1.inter.length n2) r.1.inter) (h3 : SL vB w8 U2 (.slice A3 r.1.utf.length n3) r.1.utf) (ho : OA w9 (gx + 1) (fun x => U x ∨ U2 x) v9 (mm ++ r.2)) (hg : w8.drew.grownBy w9 al.ownBlock) (hown : ∀ g, al.ownBlock = some g → ¬ (U g ∨ U2 g) ∧ gx + 1 ≤ g) (kx : w8.heap[gx]? = some (.cells #[x0, x1, x2, x3, x4] 25)) (hb : Below gx V w8) :
    LoRel p bl V gx v9 (.int .i64 ((kk : Int) + 1)) (wsg gx w9 (.int .i64 (r.1.mode : Int)) (.int .u8 (r.1.priv : Int)) (.slice A1 r.1.params.length n1) (.slice A2 r.1.inter.length n2) (.slice A3 r.1.utf.length n3)) := by
  have hgx : gx < w8.heap.size := lt7 kx
  have hz : w8.heap.size ≤ w9.heap.size := hg.size
  have hk9 : w9.heap[gx]? = some (.cells #[x0, x1, x2, x3, x4] 25) := (hg.block gx hgx (fun e => by have := (hown gx e.symm).2; omega)).trans kx
  have hzz : (wsg gx w9 (.int .i64 (r.1.mode : Int)) (.int .u8 (r.1.priv : Int)) (.slice A1 r.1.params.length n1) (.slice A2 r.1.inter.length n2) (.slice A3 r.1.utf.length n3)).heap.size = w9.heap.size := by simp [wsg]
  have hkU : ∀ q : Addr, U2 q.block → (wsg gx w9 (.int .i64 (r.1.mode : Int)) (.int .u8 (r.1.priv : Int)) (.slice A1 r.1.params.length n1) (.slice A2 r.1.inter.length n2) (.slice A3 r.1.utf.length n3)).cell? q = w8.cell? q := fun q hq => World.cell?_of_block ((wsg_heap _ (hU _ (.inr hq)).2).trans (hg.block _ (hU _ (.inr hq)).1 (fun e => (hown _ e.symm).1 (.inr hq))))
  have hb9 : Below gx V w9 := hb.drew.trans ((Below.refl _ _).grown hg (Nat.le_of_lt hgx) (fun k e => by have := (hown k e).2; omega))
  refine ⟨kk + 1, r.1, mm ++ r.2, fun x => U x ∨ U2 x, A1, n1, A2, n2, A3, n3, hlt, by go_num, hq, wsg_box hk9, ⟨(h1.keep hkU).mono (fun x hx => .inr hx), (h2.keep hkU).mono (fun x hx => .inr hx), (h3.keep hkU).mono (fun x hx => .inr hx)⟩, ho.keepB (fun g e => wsg_heap _ (by have := (ho.lt g e).1; omega)) (fun g e => wsg_heap _ (hU g e).2), fun x hx => ⟨by rw [hzz]; have := (hU x hx).1; omega, (hU x hx).2⟩, ?_⟩
  exact ((((hb9.setCell (p := ⟨gx, 0, none⟩) (Nat.le_refl _) _).setCell (p := ⟨gx, 1, none⟩) (Nat.le_refl _) _).setCell (p := ⟨gx, 2, none⟩) (Nat.le_refl _) _).setCell (p := ⟨gx, 3, none⟩) (Nat.le_refl _) _).setCell (p := ⟨gx, 4, none⟩) (Nat.le_refl _) _
set_option maxHeartbeats 4000000 in
set_option maxRecDepth 100000 in
theorem vtTells_walk (a0 : Option Addr) (len0 cap0 : Nat) (z0 : List UInt8) (a1 : Option Addr) (len1 cap1 : Nat) (z1 : List UInt8) (a2 : Int) (a3 : Option Addr) (len3 cap3 : Nat) (z3 : List Int) (m pv : Int) (Ap : Option Addr) (np cp : Nat) (Ai : Option Addr) (ni ci : Nat) (Au : Option Addr) (nu cu : Nat) (ps : List Int) (is us : List UInt8) (a5 : Int) (w : World)
    (w0 : BS w w.heap.size (.slice a0 len0 cap0) z0) (w1 : BS w w.heap.size (.slice a1 len1 cap1) z1) (w2 : (Lit.int .u8 a2).wf = true) (w3 : IS w w.heap.size (.slice a3 len3 cap3) z3) (f3 : ∀ n ∈ z3, (Lit.int .i64 n).wf = true) (q1 : SL vI w (Old w) (.slice Ap np cp) ps) (q2 : SL vB w (Old w) (.slice Ai ni ci) is) (q3 : SL vB w (Old w) (.slice Au nu cu) us) (hm : (Lit.int .i64 m).wf = true) (hpv : (Lit.int .u8 pv).wf = true) (w5 : (Lit.int .u8 a5).wf = true) :
    Calls Try.prog 3 #[.slice a0 len0 cap0, .slice a1 len1 cap1, .int .u8 a2, .slice a3 len3 cap3, .agg (v5 m pv Ap np cp Ai ni ci Au nu cu), .int .u8 a5] w fun e w' => e = .returned (.bool true) ∧ Below w.heap.size w w' := by
  obtain ⟨_, _, hv0, -⟩ := w0.at_
  simp only [Value.slice.injEq] at hv0
  obtain ⟨-, rfl, -⟩ := hv0
  obtain ⟨_, _, hv1, -⟩ := w1.at_
  simp only [Value.slice.injEq] at hv1
  obtain ⟨-, rfl, -⟩ := hv1
  obtain ⟨_, _, hv3, -⟩ := w3.at_
  simp only [Value.slice.injEq] at hv3
  obtain ⟨-, rfl, -⟩ := hv3
  obtain ⟨_, _, hq1, -⟩ := q1.form
  simp only [Value.slice.injEq] at hq1
  obtain ⟨-, rfl, -⟩ := hq1
  obtain ⟨_, _, hq2, -⟩ := q2.form
  simp only [Value.slice.injEq] at hq2
  obtain ⟨-, rfl, -⟩ := hq2
  obtain ⟨_, _, hq3, -⟩ := q3.form
  simp only [Value.slice.injEq] at hq3
  obtain ⟨-, rfl, -⟩ := hq3
  have W0 := Lib.hid w0
  have W1 := Lib.hid w1
  have W3 := Lib.hid w3
  have F3 := Lib.hid f3
  have Q1 := Lib.hid q1
  have Q2 := Lib.hid q2
  have Q3 := Lib.hid q3
  obtain ⟨k20, k21⟩ := bounds_u8 w2
  obtain ⟨k50, k51⟩ := bounds_u8 w5
  obtain ⟨m0, m1⟩ := bounds_i64 hm
  obtain ⟨p0, p1⟩ := bounds_u8 hpv
  clear w0 w1 w2 w3 f3 q1 q2 q3 hm hpv w5
  obtain ⟨k, rfl⟩ : ∃ k : Nat, a2 = (k : Int) := ⟨a2.toNat, by omega⟩
  obtain ⟨c5, rfl⟩ : ∃ c5 : Nat, a5 = (c5 : Int) := ⟨a5.toNat, by omega⟩
  have L0 : Hid (z0.length ≤ 100 → z1.length ≤ 30 → z3.length ≤ 30 → True) := fun _ _ _ => trivial
  clear L0
  have HK := Lib.hid (knownB_any w)
  by_cases t0 : (100 : Int) < (z0.length : Int)
  · go_enter Try.func3, Try.ntmps3
    go_wp2_with (go_at_call 8; refine (HK.out _).mono ?_; rintro e wk ⟨rfl, hbk, kb⟩; obtain ⟨c0, c1, c2, c3, c4, cf⟩ := five_cells kb)
    go_ret
    exact ⟨rfl, hbk⟩
  have t0' : decide ((100 : Int) < (z0.length : Int)) = false := by simp; omega
  by_cases t1 : (30 : Int) < (z1.length : Int)
  · go_enter Try.func3, Try.ntmps3
    go_wp2_with (go_at_call 8; refine (HK.out _).mono ?_; rintro e wk ⟨rfl, hbk, kb⟩; obtain ⟨c0, c1, c2, c3, c4, cf⟩ := five_cells kb)
    go_ret
    exact ⟨rfl, hbk⟩
  have t1' : decide ((30 : Int) < (z1.length : Int)) = false := by simp; omega
  by_cases t2 : (30 : Int) < (z3.length : Int)
  · go_enter Try.func3, Try.ntmps3
    go_wp2_with (go_at_call 8; refine (HK.out _).mono ?_; rintro e wk ⟨rfl, hbk, kb⟩; obtain ⟨c0, c1, c2, c3, c4, cf⟩ := five_cells kb)
    go_ret
    exact ⟨rfl, hbk⟩
  have t2' : decide ((30 : Int) < (z3.length : Int)) = false := by simp; omega
  by_cases t3 : (30 : Int) < (ps.length : Int)
  · go_enter Try.func3, Try.ntmps3
    go_wp2_with (go_at_call 8; refine (HK.out _).mono ?_; rintro e wk ⟨rfl, hbk, kb⟩; obtain ⟨c0, c1, c2, c3, c4, cf⟩ := five_cells kb)
    go_ret
    exact ⟨rfl, hbk⟩
  have t3' : decide ((30 : Int) < (ps.length : Int)) = false := by simp; omega
  by_cases t4 : (10 : Int) < (is.length : Int)
  · go_enter Try.func3, Try.ntmps3
    go_wp2_with (go_at_call 8; refine (HK.out _).mono ?_; rintro e wk ⟨rfl, hbk, kb⟩; obtain ⟨c0, c1, c2, c3, c4, cf⟩ := five_cells kb)
    go_ret
    exact ⟨rfl, hbk⟩
  have t4' : decide ((10 : Int) < (is.length : Int)) = false := by simp; omega
  by_cases t5 : (10 : Int) < (us.length : Int)
  · go_enter Try.func3, Try.ntmps3
    go_wp2_with (go_at_call 8; refine (HK.out _).mono ?_; rintro e wk ⟨rfl, hbk, kb⟩; obtain ⟨c0, c1, c2, c3, c4, cf⟩ := five_cells kb)
    go_ret
    exact ⟨rfl, hbk⟩
  have t5' : decide ((10 : Int) < (us.length : Int)) = false := by simp; omega
  go_enter Try.func3, Try.ntmps3
  go_upto_region 5 with (go_at_call 8; refine (HK.out _).mono ?_; rintro e w1 ⟨rfl, hb1, kb⟩; obtain ⟨c0, c1, c2, c3, c4, cf⟩ := five_cells kb; have HB1 := Lib.hid hb1; have KB := Lib.hid kb; clear hb1 kb)
  obtain ⟨b, hb⟩ : ∃ b : Bool, (b = true ↔ RightP m pv.toNat ps is us) := by
    classical exact ⟨decide (RightP m pv.toNat ps is us), by simp⟩
  have hpvn : ((pv.toNat : Nat) : Int) = pv := by omega
  have hbw1 : Below w.heap.size w w1.drew := HB1.out.drew
  have HQ : Hid (∀ W, Below w1.drew.heap.size w1.drew W → SL vI W (Old W) (.slice Ap ps.length cp) ps ∧ SL vB W (Old W) (.slice Ai is.length ci) is ∧ SL vB W (Old W) (.slice Au us.length cu) us) := fun W hW => by
    have h := hbw1.trans (hW.mono hbw1.size)
    exact ⟨(Q1.out.keep (fun q hq => h.cell hq)).mono (fun x hx => Nat.lt_of_lt_of_le hx h.size), (Q2.out.keep (fun q hq => h.cell hq)).mono (fun x hx => Nat.lt_of_lt_of_le hx h.size), (Q3.out.keep (fun q hq => h.cell hq)).mono (fun x hx => Nat.lt_of_lt_of_le hx h.size)⟩
  have HR1 : Hid (∀ W, Below w1.drew.heap.size w1.drew W → Calls Try.prog 9 #[.agg (v5 m pv Ap ps.length cp Ai is.length ci Au us.length cu)] W fun e w' => e = .returned (.bool b) ∧ Below w1.drew.heap.size w1.drew w') := fun W hW => by
    have h := vright_any (.slice Ap ps.length cp) (.slice Ai is.length ci) (.slice Au us.length cu) m pv.toNat ps is us (Old W) W (HQ.out W hW).1 (HQ.out W hW).2.1 (HQ.out W hW).2.2 (fun x hx => hx) (by omega) (by omega) (by omega) (by omega)
    rw [hpvn] at h
    exact h.mono fun e w' hp => ⟨(rightB b hb hp).1, hW.trans ((rightB b hb hp).2.mono hW.size)⟩
  have HR2 : Hid (∀ W, Below w1.drew.heap.size w1.drew W → Calls Try.prog 10 #[.agg (v5 m pv Ap ps.length cp Ai is.length ci Au us.length cu)] W fun e w' => e = .returned (.bool b) ∧ Below w1.drew.heap.size w1.drew w') := fun W hW => by
    have h := rightr_any (.slice Ap ps.length cp) (.slice Ai is.length ci) (.slice Au us.length cu) m pv.toNat ps is us (Old W) W (HQ.out W hW).1 (HQ.out W hW).2.1 (HQ.out W hW).2.2 (fun x hx => hx) (by omega) (by omega) (by omega) (by omega)
    rw [hpvn] at h
    exact h.mono fun e w' hp => ⟨(rightB b hb hp).1, hW.trans ((rightB b hb hp).2.mono hW.size)⟩
  have hS : ∀ x : World, Below w1.drew.heap.size w1.drew x → x.cell? ⟨w.heap.size, 0, none⟩ = some (.int .i64 m) ∧ x.cell? ⟨w.heap.size, 1, none⟩ = some (.int .u8 pv) ∧ x.cell? ⟨w.heap.size, 2, none⟩ = some (.slice Ap ps.length cp) ∧ x.cell? ⟨w.heap.size, 3, none⟩ = some (.slice Ai is.length ci) ∧ x.cell? ⟨w.heap.size, 4, none⟩ = some (.slice Au us.length cu) := fun x hx => by
    have hk : x.heap[w.heap.size]? = w1.heap[w.heap.size]? := hx.block _ (lt7 (w := w1) KB.out)
    obtain ⟨d0, d1, d2, d3, d4, -⟩ := five_cells (hk.trans KB.out)
    exact ⟨d0, d1, d2, d3, d4⟩
  have HS1 := Lib.hid hS
  have hb0 : Below w1.drew.heap.size w1.drew w1.drew := Below.refl _ _
  have hbb : (b != b) = false := by simp
  have hl0 : z0.length ≤ 100 := by omega
  have hl1 : z1.length ≤ 30 := by omega
  have hl3 : z3.length ≤ 30 := by omega
  clear hS hb hpvn hbw1 c0 c1 c2 c3 c4 cf t0 t1 t2 t3 t4 t5 t0' t1' t2' t3' t4' t5'
  go_region_held3 (fun x : World => x.cell? ⟨w.heap.size, 0, none⟩ = some (.int .i64 m) ∧ x.cell? ⟨w.heap.size, 1, none⟩ = some (.int .u8 pv) ∧ x.cell? ⟨w.heap.size, 2, none⟩ = some (.slice Ap ps.length cp) ∧ x.cell? ⟨w.heap.size, 3, none⟩ = some (.slice Ai is.length ci) ∧ x.cell? ⟨w.heap.size, 4, none⟩ = some (.slice Au us.length cu)) (exact HS1.out _ (by assumption))
    (first
      | (go_at_call 9; (with_reducible refine (HR1.out _ (by assumption)).mono ?_); rintro e wx ⟨rfl, bx⟩)
      | (go_at_call 10; (with_reducible refine (HR2.out _ (by assumption)).mono ?_); rintro e wx ⟨rfl, bx⟩))
  have hbx : Below w.heap.size w wx := HB1.out.drew.trans (by have h : Below w1.drew.heap.size w1.drew wx := by assumption
                                                              exact h.mono HB1.out.size)
  have HBX := Lib.hid hbx
  clear hbx hb0 hbb HR1 HR2 HQ HS1
  have hf3 : ∀ x ∈ z3, -9223372036854775808 ≤ x ∧ x ≤ 9223372036854775807 := fun x hx => bounds_i64 (F3.out x hx)
  have hso := some_any k (by omega) _ z3 wx ((W3.out.below HBX.out).more HBX.out.size) (by omega) hf3
  clear hf3
  go_wp2_with fail
  refine hso.mono ?_
  rintro e w3 ⟨m1, pv1, Ap1, np1, cp1, Ai1, ni1, ci1, Au1, nu1, cu1, p1, rfl, hok1, hpw1, hb3⟩
  have HB3 := Lib.hid (HBX.out.trans (hb3.mono HBX.out.size))
  have HTP : Hid _ := twoP_laid (t := 25) hok1 hpw1
  clear hso hb3 hok1 hpw1
  have HB4 := Lib.hid (HB3.out.alloc HB3.out.size (.cells #[.int .i64 0, .int .u8 0, .slice none 0 0, .slice none 0 0, .slice none 0 0, .int .i64 m1, .int .u8 pv1, .slice Ap1 np1 cp1, .slice Ai1 ni1 ci1, .slice Au1 nu1 cu1] 25))
  go_upto_region 8 with fail
  generalize World.alloc w3 _ = W at HTP HB4 ⊢
  generalize w3.heap.size = gp at *
  clear HB3 HBX HB1 KB HK
  go_loopw [70] (fun i wr => ∃ j : Nat, j ≤ 2 ∧ i = .int .i64 (j : Int) ∧ Below W.heap.size W wr) (fun i _ => 2 - (intOf i).toNat)
  case atStart => exact ⟨0, by omega, rfl, Below.refl _ _⟩
  case round =>
    obtain ⟨j, hj, rfl, hbl⟩ := hrel
    by_cases hj2 : j < 2
    · have hj2i : (j : Int) < 2 := by omega
      obtain ⟨hgp, htp⟩ := HTP.out
      obtain ⟨m2, pv2, Ap2, np2, cp2, Ai2, ni2, ci2, Au2, nu2, cu2, p, hfa, hok, hpw⟩ := htp j hj2
      obtain ⟨f0, f1, f2, f3, f4⟩ := hfa.below hbl hgp
      have hgr : gp < wr.heap.size := Nat.lt_of_lt_of_le hgp hbl.size
      have HOK := Lib.hid hok
      have HPB := Lib.hid (PB.laid (hpw.below hbl))
      have HB5 := Lib.hid ((HB4.out.trans (hbl.mono HB4.out.size)).alloc (Nat.le_trans HB4.out.size hbl.size) (.cells (v5 m2 pv2 Ap2 np2 cp2 Ai2 ni2 ci2 Au2 nu2 cu2) 25))
      have HBL := Lib.hid (hbl.alloc hbl.size (.cells (v5 m2 pv2 Ap2 np2 cp2 Ai2 ni2 ci2 Au2 nu2 cu2) 25))
      clear hbl htp hfa hok hpw
      go_upto_region 10 with fail
      clear f0 f1 f2 f3 f4 hgr
      generalize World.alloc wr _ = W6 at HPB HB5 HBL ⊢
      generalize wr.heap.size = g6 at *
      obtain ⟨d0, d1, d2, d3, d4⟩ := HPB.out.cells
      go_upto_region 12 with (first
        | (go_at_call 10; (with_reducible refine (rightrw_yes HPB.out.pw HOK.out).mono ?_); rintro e w7 ⟨rfl, hb7⟩; have HPB7 := Lib.hid (HPB.out.below hb7); have HB7 := Lib.hid hb7; obtain ⟨e0, e1, e2, e3, e4⟩ := HPB7.out.cells; clear hb7)
        | (go_at_call 9; (with_reducible refine (rightw_yes HPB7.out.pw HOK.out).mono ?_); rintro e w8 ⟨rfl, hb8⟩; have HPB8 := Lib.hid (HPB7.out.below hb8); have HB8 := Lib.hid (HB7.out.trans (hb8.mono HB7.out.size)); obtain ⟨o0, o1, o2, o3, o4⟩ := HPB8.out.cells; clear hb8))
      clear d0 d1 d2 d3 d4 e0 e1 e2 e3 e4 HPB HPB7 HB7
      have HB9 := Lib.hid (HB5.out.trans (HB8.out.mono HB5.out.size))
      have HBL9 := Lib.hid (HBL.out.trans (HB8.out.mono HBL.out.size))
      clear HB5 HBL HB8
      have hby := seatBytes_any _ z1 w8 ((W1.out.below HB9.out).more HB9.out.size) (by omega)
      go_wp2_with fail
      refine hby.mono ?_
      rintro e w10 ⟨vb, bb, rfl, hob, hbl1, hb10⟩
      have hbs := hob.bs
      obtain ⟨Ab, cb, rfl, g1, g2, -⟩ := hbs.at_
      unfold maxLen at g2
      have HB10 := Lib.hid (HB9.out.trans (hb10.mono HB9.out.size))
      have HBL10 := Lib.hid (HBL9.out.trans (hb10.mono HBL9.out.size))
      have hbc : Below w10.heap.size w10 (w10.alloc (.cells #[.int .u8 (c5 : Int)] 5)) := (Below.refl _ _).alloc (Nat.le_refl _) _
      have hc1 : BS (w10.alloc (.cells #[.int .u8 (c5 : Int)] 5)) (w10.alloc (.cells #[.int .u8 (c5 : Int)] 5)).heap.size (.slice (some ⟨w10.heap.size, 0, none⟩) 1 1) [UInt8.ofNat (c5 : Int).toNat] := by
        have h := (BS.one' w10 (c5 : Int) (by omega) (by omega) 5).more (B' := (w10.alloc (.cells #[.int .u8 (c5 : Int)] 5)).heap.size) (by simp)
        exact h
      have HTB : Hid _ := threeB_laid (t := 22) (((W0.out.below HB10.out).more HB10.out.size).below hbc |>.more hbc.size) ((hbs.below hbc).more hbc.size) hc1 (by omega) (by omega) (by simp)
      have HB11 := Lib.hid ((HB10.out.alloc HB10.out.size (.cells #[.int .u8 (c5 : Int)] 5)).alloc (Nat.le_trans HB10.out.size hbc.size) (.cells #[.slice a0 z0.length cap0, .slice Ab bb.length cb, .slice (some ⟨w10.heap.size, 0, none⟩) 1 1] 22))
      have HBL11 := Lib.hid ((HBL10.out.alloc HBL10.out.size (.cells #[.int .u8 (c5 : Int)] 5)).alloc (Nat.le_trans HBL10.out.size hbc.size) (.cells #[.slice a0 z0.length cap0, .slice Ab bb.length cb, .slice (some ⟨w10.heap.size, 0, none⟩) 1 1] 22))
      have HPB11 := Lib.hid (((HPB8.out.below hb10).below hbc).below ((Below.refl _ _).alloc (Nat.le_refl _) (.cells #[.slice a0 z0.length cap0, .slice Ab bb.length cb, .slice (some ⟨w10.heap.size, 0, none⟩) 1 1] 22)))
      have hsz : (w10.alloc (.cells #[.int .u8 (c5 : Int)] 5)).heap.size = w10.heap.size + 1 := by simp
      rw [hsz] at HTB
      clear hby hob hb10 hbs hbc hc1 hsz o0 o1 o2 o3 o4
      go_upto_region 13 with fail
      clear HB10 HBL10 HPB8 HB9 HBL9
      generalize (w10.alloc _).alloc _ = W11 at HTB HB11 HBL11 HPB11 ⊢
      generalize w10.heap.size + 1 = gt at *
      go_loopw [89] (fun i wr => ∃ j : Nat, j ≤ 3 ∧ i = .int .i64 (j : Int) ∧ Below W11.heap.size W11 wr) (fun i _ => 3 - (intOf i).toNat)
      case atStart => exact ⟨0, by omega, rfl, Below.refl _ _⟩
      case round =>
        obtain ⟨i2, hi2, rfl, hbl2⟩ := hrel
        by_cases hi3 : i2 < 3
        · obtain ⟨hgt, htb⟩ := HTB.out
          obtain ⟨Ax, nx, cx, bl, hcell, hbs, hnl, hn1000⟩ := htb i2 hi3
          subst hnl
          have hi3i : (i2 : Int) < 3 := by omega
          have hce := (hbl2.cell (p := ⟨gt, i2, none⟩) hgt).trans hcell
          have hgtr : gt < wr.heap.size := Nat.lt_of_lt_of_le hgt hbl2.size
          have HPBr := Lib.hid (HPB11.out.below hbl2)
          have HBSr := Lib.hid ((hbs.below hbl2).more hbl2.size)
          have HBr := Lib.hid (HB11.out.trans (hbl2.mono HB11.out.size))
          have HBL2 := Lib.hid hbl2
          obtain ⟨d0, d1, d2, d3, d4⟩ := HPBr.out.cells
          have HLS := Lib.hid (lo_start (bl := bl) HPBr.out.pw)
          clear htb hcell hbs hbl2
          go_upto_region 18 with fail
          clear d0 d1 d2 d3 d4 hce hgtr
          generalize World.alloc wr _ = WX at HLS ⊢
          obtain ⟨gx, hgx⟩ : ∃ gx, wr.heap.size = gx := ⟨_, rfl⟩
          rw [hgx] at HLS ⊢
          have HGX := Lib.hid hgx
          clear hgx
          generalize wr = V at *
          go_loopw [18, 19] (fun al i wr => LoRel p bl V gx al i wr) (fun _ i _ => bl.length - (intOf i).toNat)
          case atStart => exact HLS.out
          case round =>
            clear HLS
            obtain ⟨kk, q, mm, U, A1, n1, A2, n2, A3, n3, hk, rfl, hq, kx, ⟨s1, s2, s3⟩, hoa, hU, hbv⟩ := hrel
            have hqok : PrOk q := by have := vtAll_ok p (bl.take kk) HOK.out; rw [hq] at this; exact this
            have hmml : mm.length ≤ 3000 := by
              have h1 := (vtAll_few p (bl.take kk) HOK.out).1
              rw [hq] at h1
              have h2 : (bl.take kk).length ≤ bl.length := by simp; omega
              simp only at h1
              omega
            have HQOK := Lib.hid hqok
            have HQ := Lib.hid hq
            have HS1 := Lib.hid s1
            have HS2 := Lib.hid s2
            have HS3 := Lib.hid s3
            have HOA := Lib.hid hoa
            have HU := Lib.hid hU
            have HBV := Lib.hid hbv
            have KX := Lib.hid kx
            have hgl : gx < wr.heap.size := lt7 kx
            obtain ⟨Al, cl, rfl, l1, l2⟩ := hoa.as.form
            clear hqok hq s1 s2 s3 hoa hU hbv
            by_cases hlt : kk < bl.length
            · have hbsr : BS wr V.heap.size (.slice Ax bl.length cx) bl := HBSr.out.keep fun q hq => HBV.out.cell (by rw [← HGX.out]; exact hq)
              obtain ⟨ad, rfl, hc⟩ := hbsr.cellC kk hlt
              have hadb : (ad.add kk).block < wr.heap.size := by
                rw [block_add]
                have h1 := hbsr.blockC (by omega)
                have h2 := HGX.out
                omega
              obtain ⟨bt, hbt⟩ : ∃ x, bl[kk] = x := ⟨_, rfl⟩
              rw [hbt] at hc
              unfold vB at hc
              have hc' : wr.drew.cell? (ad.add kk) = some (.int .u8 (bt.toNat : Int)) := hc
              obtain ⟨r, hr⟩ : ∃ r, vtL q bt = r := ⟨_, rfl⟩
              have hsn : vtAll p (bl.take (kk + 1)) = (r.1, mm ++ r.2) := by
                rw [List.take_succ_eq_append_getElem hlt, vtAll_snoc, HQ.out, hbt, hr]
              have HSN := Lib.hid hsn
              have HUl : Hid (∀ x, U x → x < wr.heap.size) := fun x hx => (HU.out x hx).1
              have hst1 : ∀ W : World, Below wr.heap.size wr W → Calls Try.prog 13 #[.agg (v5 (q.mode : Int) (q.priv : Int) A1 q.params.length n1 A2 q.inter.length n2 A3 q.utf.length n3), .int .u8 (bt.toNat : Int)] W (VtPost U r W) := fun W hW => by
                have h := vstep_any (.slice A1 q.params.length n1) (.slice A2 q.inter.length n2) (.slice A3 q.utf.length n3) q bt U W (HS1.out.keep (fun q hq => hW.cell (HUl.out _ hq))) (HS2.out.keep (fun q hq => hW.cell (HUl.out _ hq))) (HS3.out.keep (fun q hq => hW.cell (HUl.out _ hq))) (fun x hx => Nat.lt_of_lt_of_le (HUl.out x hx) hW.size) HQOK.out
                rw [hr] at h
                exact h
              have hst2 : ∀ W : World, Below wr.heap.size wr W → Calls Try.prog 14 #[.agg (v5 (q.mode : Int) (q.priv : Int) A1 q.params.length n1 A2 q.inter.length n2 A3 q.utf.length n3), .int .u8 (bt.toNat : Int)] W (VtPost U r W) := fun W hW => by
                have h := vtr_any (.slice A1 q.params.length n1) (.slice A2 q.inter.length n2) (.slice A3 q.utf.length n3) q bt U W (HS1.out.keep (fun q hq => hW.cell (HUl.out _ hq))) (HS2.out.keep (fun q hq => hW.cell (HUl.out _ hq))) (HS3.out.keep (fun q hq => hW.cell (HUl.out _ hq))) (fun x hx => Nat.lt_of_lt_of_le (HUl.out x hx) hW.size) HQOK.out
                rw [hr] at h
                exact h
              have hrok : PrOk r.1 := by have := vtL_ok q bt HQOK.out; rw [hr] at this; exact this
              have hrf := vtL_few q bt HQOK.out
              rw [hr] at hrf
              have HROK := Lib.hid hrok
              have HRF := Lib.hid hrf
              have HST1 := Lib.hid hst1
              have HST2 := Lib.hid hst2
              have hkk1000 : (kk : Int) < (bl.length : Int) := by omega
              obtain ⟨c0, c1, c2, c3, c4, cf⟩ := five_cells kx
              obtain ⟨e0, e1, e2, e3, e4, -⟩ := five_cells (w := wr.drew) kx
              have hB0 : Below wr.heap.size wr wr.drew := (Below.refl _ _).drew
              have hB1 : ∀ o, Below wr.heap.size wr (wr.alloc o).drew := fun o => ((Below.refl _ _).alloc (Nat.le_refl _) o).drew
              clear hbsr hbt hr hsn hst1 hst2 hrok hrf kx cf
              go_upto_region 20 with fail
              go_cut [20, 21] from 100 to 108 (fun s20 s21 wx => LaidU wr U r s20 s21 wx)
              case first =>
                go_region_with (go_at_call 13; refine (HST1.out _ (by first | exact hB0 | exact hB1 _)).mono ?_; rintro e w6 ⟨qv, av, rfl, hq6, ha6, b6⟩; obtain ⟨xp, xi, xu, rfl, r1, r2, r3⟩ := hq6; obtain ⟨Bp, dp, rfl, y1, y2⟩ := r1.form; obtain ⟨Bi, di, rfl, y3, y4⟩ := r2.form; obtain ⟨Bu, du, rfl, y5, y6⟩ := r3.form; obtain ⟨Ba, da, rfl, y7, y8⟩ := ha6.form; (first | (have kp := blk7 b6; obtain ⟨kc0, kc1, kc2, kc3, kc4, kf⟩ := five_cells kp; have kf0 := kf 0; have kf1 := kf 1; have kf2 := kf 2; have kf3 := kf 3; have kf4 := kf 4) | skip))
                all_goals (go_simp; go_wp2_with fail; go_meet)
                all_goals first
                  | (have hkc := kc0; clear hkc; exact laidUB HUl.out b6 r1 r2 r3 ha6)
                  | exact laidUA HUl.out hB0 b6 r1 r2 r3 ha6
              case rest =>
                obtain ⟨gy, Y1, ny1, Y2, ny2, Y3, ny3, Ya, nya, UY, rfl, rfl, ⟨yb1, yb2⟩, hgy, ky, ⟨ys1, ys2, ys3⟩, yas, hUY, hby⟩ := hcut
                generalize wc = wy at *
                have hzc := hby.size
                have hUYl : ∀ x, UY x → x < wy.heap.size := fun x hx => (hUY x hx).elim (fun h => by have := HUl.out x h; omega) (fun h => h.2.1)
                have HPY := Lib.hid (show PB wy gy (v5 (r.1.mode : Int) (r.1.priv : Int) Y1 r.1.params.length ny1 Y2 r.1.inter.length ny2 Y3 r.1.utf.length ny3) r.1 from ⟨ky, ⟨_, _, _, rfl, ys1.mono hUYl, ys2.mono hUYl, ys3.mono hUYl⟩⟩)
                have HAY := Lib.hid (show AW wy (.slice Ya r.2.length nya) r.2 from yas.mono hUYl hUYl)
                have HBY := Lib.hid hby
                have kxc : wy.heap[gx]? = some (.cells (v5 (q.mode : Int) (q.priv : Int) A1 q.params.length n1 A2 q.inter.length n2 A3 q.utf.length n3) 25) := (hby.block gx hgl).trans KX.out
                have KXC := Lib.hid kxc
                have HST3 : Hid (∀ W : World, Below wy.heap.size wy W → Calls Try.prog 14 #[.agg (v5 (q.mode : Int) (q.priv : Int) A1 q.params.length n1 A2 q.inter.length n2 A3 q.utf.length n3), .int .u8 (bt.toNat : Int)] W (VtPost U r W)) := fun W hW => HST2.out W (HBY.out.trans (hW.mono HBY.out.size))
                have hcc : wy.cell? (ad.add kk) = some (.int .u8 (bt.toNat : Int)) := (hby.cell (p := ad.add kk) hadb).trans hc
                have hcc' : wy.drew.cell? (ad.add kk) = some (.int .u8 (bt.toNat : Int)) := hcc
                have hadc : (ad.add kk).block < wy.heap.size := Nat.lt_of_lt_of_le hadb hzc
                have hglc : gx < wy.heap.size := Nat.lt_of_lt_of_le hgl hzc
                have HUc : Hid (∀ x, U x → x < wy.heap.size) := fun x hx => Nat.lt_of_lt_of_le (HUl.out x hx) hzc
                have HUG : Hid (gx < wr.heap.size) := hgl
                have HAD : Hid ((ad.add kk).block < wr.heap.size) := hadb
                clear c0 c1 c2 c3 c4 e0 e1 e2 e3 e4 hB0 hB1 hc hc' HST1 HST2 hgl hadb ky ys1 ys2 ys3 yas hUY hUYl hby hzc
                obtain ⟨c0, c1, c2, c3, c4, -⟩ := five_cells kxc
                obtain ⟨e0, e1, e2, e3, e4, -⟩ := five_cells (w := wy.drew) kxc
                have hB0 : Below wy.heap.size wy wy.drew := (Below.refl _ _).drew
                have hB1 : ∀ o, Below wy.heap.size wy (wy.alloc o).drew := fun o => ((Below.refl _ _).alloc (Nat.le_refl _) o).drew
                clear kxc
                go_upto_region 21 with fail
                go_cut [22, 23] from 109 to 117 (fun s22 s23 wx => LaidU wy U r s22 s23 wx)
                case first =>
                  go_region_with (go_at_call 14; refine (HST3.out _ (by first | exact hB0 | exact hB1 _)).mono ?_; rintro e w6 ⟨qv, av, rfl, hq6, ha6, b6⟩; obtain ⟨xp, xi, xu, rfl, r1, r2, r3⟩ := hq6; obtain ⟨Bp, dp, rfl, y1, y2⟩ := r1.form; obtain ⟨Bi, di, rfl, y3, y4⟩ := r2.form; obtain ⟨Bu, du, rfl, y5, y6⟩ := r3.form; obtain ⟨Ba, da, rfl, y7, y8⟩ := ha6.form; (first | (have kp := blk7 b6; obtain ⟨kc0, kc1, kc2, kc3, kc4, kf⟩ := five_cells kp; have kf0 := kf 0; have kf1 := kf 1; have kf2 := kf 2; have kf3 := kf 3; have kf4 := kf 4) | skip))
                  all_goals (go_simp; go_wp2_with fail; go_meet)
                  all_goals first
                    | (have hkc := kc0; clear hkc; exact laidUB HUc.out b6 r1 r2 r3 ha6)
                    | exact laidUA HUc.out hB0 b6 r1 r2 r3 ha6
                case rest =>
                  obtain ⟨gz, Z1, nz1, Z2, nz2, Z3, nz3, Za, nza, UZ, rfl, rfl, ⟨zb1, zb2⟩, hgz, kz, ⟨zs1, zs2, zs3⟩, zas, hUZ, hbz⟩ := hcut
                  generalize wc = wz at *
                  have hzz := hbz.size
                  have HUZl : Hid (∀ x, UZ x → x < wz.heap.size) := fun x hx => (hUZ x hx).elim (fun h => Nat.lt_of_lt_of_le (HUc.out x h) hzz) (fun h => h.2.1)
                  have HPZ := Lib.hid (show PB wz gz (v5 (r.1.mode : Int) (r.1.priv : Int) Z1 r.1.params.length nz1 Z2 r.1.inter.length nz2 Z3 r.1.utf.length nz3) r.1 from ⟨kz, ⟨_, _, _, rfl, zs1.mono HUZl.out, zs2.mono HUZl.out, zs3.mono HUZl.out⟩⟩)
                  have HAZ := Lib.hid (show AW wz (.slice Za r.2.length nza) r.2 from zas.mono HUZl.out HUZl.out)
                  have HPY2 := Lib.hid (HPY.out.below hbz)
                  have HAY2 := Lib.hid (HAY.out.below hbz)
                  have HZS1 := Lib.hid zs1
                  have HZS2 := Lib.hid zs2
                  have HZS3 := Lib.hid zs3
                  have HZAS := Lib.hid zas
                  have HUZ := Lib.hid hUZ
                  have HBZ := Lib.hid hbz
                  have KXZ : Hid (wz.heap[gx]? = some (.cells (v5 (q.mode : Int) (q.priv : Int) A1 q.params.length n1 A2 q.inter.length n2 A3 q.utf.length n3) 25)) := (hbz.block gx hglc).trans KXC.out
                  have hr3 : r.2.length ≤ 3 := HRF.out.1
                  clear c0 c1 c2 c3 c4 e0 e1 e2 e3 e4 hB0 hB1 hcc hcc' HST3 hadc hglc kz zs1 zs2 zs3 zas hUZ hbz
                  obtain ⟨c0, c1, c2, c3, c4⟩ := HPY2.out.cells
                  obtain ⟨d0, d1, d2, d3, d4⟩ := HPZ.out.cells
                  go_upto_region 24 with (first
                    | (go_at_call 15; (with_reducible refine (samew_any HPY2.out.pw HPZ.out.pw HROK.out).mono ?_); rintro e wa ⟨rfl, hba⟩; have HPYa := Lib.hid (HPY2.out.below hba); have HAYa := Lib.hid (HAY2.out.below hba); have HAZa := Lib.hid (HAZ.out.below hba); have HBa := Lib.hid hba; clear hba)
                    | (go_at_call 16; (with_reducible refine (actsw_any HAYa.out HAZa.out HRF.out.2 (by omega)).mono ?_); rintro e wb ⟨rfl, hbb⟩; have HPYb := Lib.hid (HPYa.out.below hbb); have HBb := Lib.hid (HBa.out.trans (hbb.mono HBa.out.size)); obtain ⟨o0, o1, o2, o3, o4⟩ := HPYb.out.cells; clear hbb)
                    | (go_at_call 9; (with_reducible refine (rightw_yes HPYb.out.pw HROK.out).mono ?_); rintro e w8 ⟨rfl, hb8⟩; have HB8 := Lib.hid (HBb.out.trans (hb8.mono HBb.out.size)); clear hb8))
                  have hz8 := HB8.out.size
                  have hzy := HBY.out.size
                  have hzz2 := HBZ.out.size
                  have HBW8 : Hid (Below wr.heap.size wr w8) := (HBY.out.trans (HBZ.out.mono HBY.out.size)).trans (HB8.out.mono (HBY.out.trans (HBZ.out.mono HBY.out.size)).size)
                  have kz8 : w8.heap[gz]? = some (.cells (v5 (r.1.mode : Int) (r.1.priv : Int) Z1 r.1.params.length nz1 Z2 r.1.inter.length nz2 Z3 r.1.utf.length nz3) 25) := (HB8.out.block gz (lt7 HPZ.out.1)).trans HPZ.out.1
                  have kx8 : w8.heap[gx]? = some (.cells (v5 (q.mode : Int) (q.priv : Int) A1 q.params.length n1 A2 q.inter.length n2 A3 q.utf.length n3) 25) := (HBW8.out.block gx HUG.out).trans KX.out
                  have KZ8 := Lib.hid kz8
                  have KX8 := Lib.hid kx8
                  have HOA8 : Hid (OA w8.drew (gx + 1) U (.slice Al mm.length cl) mm) := HOA.out.below HUl.out HBW8.out.drew
                  have HZA8 : Hid (AS w8.drew UZ UZ (.slice Za r.2.length nza) r.2) := HZAS.out.keep (fun q hq => HB8.out.drew.cell (HUZl.out _ hq)) (fun q hq => HB8.out.drew.cell (HUZl.out _ hq))
                  have HS8 : Hid (∀ x, U x → x < w8.drew.heap.size) := fun x hx => Nat.lt_of_lt_of_le (HUl.out x hx) HBW8.out.size
                  have HT8 : Hid (∀ x, UZ x → x < w8.drew.heap.size) := fun x hx => Nat.lt_of_lt_of_le (HUZl.out x hx) hz8
                  have HOWN : Hid (∀ g, (Value.slice Al mm.length cl).ownBlock = some g → ¬ (U g ∨ UZ g) ∧ gx + 1 ≤ g) := fun g e => by
                    have h1 := HOA.out.lt g e
                    have h2 : ¬ U g := by obtain ⟨xs, _, _, c⟩ := HOA.out; exact c g e
                    refine ⟨fun h => h.elim h2 (fun h => (HUZ.out g h).elim h2 (fun h => by omega)), h1.1⟩
                  have HUU : Hid (∀ x, (U x ∨ UZ x) → x < w8.heap.size ∧ x ≠ gx) := fun x hx => by
                    have hg := HUG.out
                    rcases hx with hx | hx
                    · exact ⟨HS8.out x hx, (HU.out x hx).2⟩
                    · refine ⟨HT8.out x hx, ?_⟩
                      rcases HUZ.out x hx with h | h
                      · exact (HU.out x h).2
                      · omega
                  have HBAS : Hid (gx + 1 ≤ w8.drew.heap.size) := Nat.lt_of_lt_of_le HUG.out HBW8.out.size
                  have HBV8 : Hid (Below gx V w8) := HBV.out.trans (HBW8.out.mono (Nat.le_of_lt HUG.out))
                  have HL8 : Hid (SL vI w8 UZ (.slice Z1 r.1.params.length nz1) r.1.params ∧ SL vB w8 UZ (.slice Z2 r.1.inter.length nz2) r.1.inter ∧ SL vB w8 UZ (.slice Z3 r.1.utf.length nz3) r.1.utf) := ⟨HZS1.out.keep (fun q hq => HB8.out.cell (HUZl.out _ hq)), HZS2.out.keep (fun q hq => HB8.out.cell (HUZl.out _ hq)), HZS3.out.keep (fun q hq => HB8.out.cell (HUZl.out _ hq))⟩
                  clear c0 c1 c2 c3 c4 d0 d1 d2 d3 d4 o0 o1 o2 o3 o4
                  obtain ⟨c0, c1, c2, c3, c4, -⟩ := five_cells kz8
                  obtain ⟨d0, d1, d2, d3, d4, -⟩ := five_cells (w := w8.drew) kz8
                  clear kz8 kx8
                  go_region_law (refine step_appO rfl (.tmp 134) (.tmp 135) rfl (gx + 1) U UZ UZ (.slice Al mm.length cl) (.slice Za r.2.length nza) mm r.2 ?_ ?_ HOA8.out HZA8.out HS8.out HT8.out (fun g e h => (HOWN.out g e).1 (.inr h)) (by omega) HBAS.out ?_; go_simp; go_simp; intro v9 w9 ho9 hg9 hb9 hv9; obtain ⟨r0, r1, r2, r3, r4, rf⟩ := five_cells (row_grown (w1 := w8.drew) hg9 KX8.out (fun k e => by have := (HOWN.out k e).2; omega)); obtain ⟨x0, x1, x2, x3, x4, xf⟩ := five_cells (row_grown (w1 := w8.drew) hg9 KZ8.out (fun k e hk => by have h1 := (HOA.out.lt k e).2; omega)); have hnx := lo_next (bl := bl) (V := V) hlt HSN.out HUU.out HL8.out.1 HL8.out.2.1 HL8.out.2.2 ho9 hg9 HOWN.out KX8.out HBV8.out; obtain ⟨A9, n9, rfl, -, -⟩ := ho9.as.form; rw [List.length_append] at hnx ⊢; have HNX := Lib.hid hnx; clear ho9 hg9 hb9 hv9 hnx)
                  all_goals
                    go_wp2
                    go_roundw
                    case rel => exact HNX.out
                    case measure => simp [intOf]; omega
            · obtain rfl : kk = bl.length := by omega
              have hq := HQ.out
              rw [List.take_length] at hq
              have hbvV : Below V.heap.size V wr := by rw [HGX.out]; exact HBV.out
              have HBVV := Lib.hid hbvV
              have HPBw := Lib.hid (HPBr.out.below hbvV)
              have hbsw : BS wr wr.heap.size (.slice Ax bl.length cx) bl := (HBSr.out.below hbvV).more hbvV.size
              have hal := allw_any HPBw.out.pw HOK.out hbsw (by omega)
              rw [hq] at hal
              obtain ⟨d0, d1, d2, d3, d4⟩ := HPBw.out.cells
              have HPX : Hid (PB wr gx (v5 (q.mode : Int) (q.priv : Int) A1 q.params.length n1 A2 q.inter.length n2 A3 q.utf.length n3) q) := ⟨KX.out, ⟨_, _, _, rfl, HS1.out.mono (fun x hx => (HU.out x hx).1), HS2.out.mono (fun x hx => (HU.out x hx).1), HS3.out.mono (fun x hx => (HU.out x hx).1)⟩⟩
              have HAX : Hid (AW wr (.slice Al mm.length cl) mm) := HOA.out.as.mono (fun x hx => hx.2) (fun x hx => (HU.out x hx).1)
              have hfew := (vtAll_few p bl HOK.out).2
              rw [hq] at hfew
              have HFEW := Lib.hid hfew
              clear hq hbvV hbsw hfew
              go_wp2_with fail
              refine hal.mono ?_
              rintro e w6 ⟨m3, pv3, Bp, np3, cp3, Bi, ni3, ci3, Bu, nu3, cu3, Ba, na3, ca3, rfl, ⟨e1, e2, e3, e4, e5, e6, x1, x2⟩, hpw6, haw6, hb6⟩
              obtain rfl : na3 = mm.length := e6
              have hbl6 : Below w6.heap.size w6 (w6.alloc (.cells (v5 m3 pv3 Bp np3 cp3 Bi ni3 ci3 Bu nu3 cu3) 25)) := (Below.refl _ _).alloc (Nat.le_refl _) _
              have HPX6 := Lib.hid ((HPX.out.below hb6).below hbl6)
              have HAX6 := Lib.hid ((HAX.out.below hb6).below hbl6)
              have HPY6 := Lib.hid (PB.laid hpw6)
              have HAY6 := Lib.hid (haw6.below hbl6)
              have HB6 := Lib.hid (HBVV.out.trans ((hb6.trans (hbl6.mono hb6.size)).mono HBVV.out.size))
              clear hal d0 d1 d2 d3 d4 e1 e2 e3 e4 e5 hpw6 haw6 hb6 hbl6
              go_upto_region 26 with fail
              generalize World.alloc w6 _ = W7 at HPX6 HAX6 HPY6 HAY6 HB6 ⊢
              generalize w6.heap.size = g7 at *
              obtain ⟨c0, c1, c2, c3, c4⟩ := HPX6.out.cells
              obtain ⟨d0, d1, d2, d3, d4⟩ := HPY6.out.cells
              go_wp2_with (first
                | (go_at_call 15; (with_reducible refine (samew_any HPX6.out.pw HPY6.out.pw HQOK.out).mono ?_); rintro e wa ⟨rfl, hba⟩; have HAXa := Lib.hid (HAX6.out.below hba); have HAYa := Lib.hid (HAY6.out.below hba); have HBa := Lib.hid hba; clear hba)
                | (go_at_call 16; (with_reducible refine (actsw_any HAXa.out HAYa.out HFEW.out (by omega)).mono ?_); rintro e wb ⟨rfl, hbb⟩; have HBb := Lib.hid (HBa.out.trans (hbb.mono HBa.out.size)); clear hbb))
              go_roundw
              case rel => exact ⟨i2 + 1, by omega, by go_num, HBL2.out.trans ((HB6.out.trans (HBb.out.mono HB6.out.size)).mono HBL2.out.size)⟩
              case measure => simp [intOf]; omega
        · obtain rfl : i2 = 3 := by omega
          go_wp2
          go_roundw
          case rel => exact ⟨j + 1, by omega, by go_num, HBL11.out.trans (hbl2.mono HBL11.out.size)⟩
          case measure => simp [intOf]; omega
    · obtain rfl : j = 2 := by omega
      go_wp2
      go_ret
      exact ⟨rfl, HB4.out.trans (hbl.mono HB4.out.size)⟩
end Go.Proofs.Ytbimhhcmfhooaaa

namespace Go.Proofs.Ytbimhhcmfhooaaa
open Go.ChangeShapes Go.WideShapes Go.ChangeAt Go.RowKit
set_option linter.unusedVariables false
set_option linter.unusedSimpArgs false

section
variable {H : Type} {enc : TypeId × Value → H} {W : World} {base : Nat} {spare : Nat → Bool} {held : Bool}
theorem ints_open {n : Nat} {c : Value} {y : DataW H × List MemPlace} (hf : DataW.trod enc Try.prog W base spare held n 23 [c] = some y) : ∃ A m cap l, c = .slice A m cap ∧ SL vI W (Old W) (.slice A m cap) l := by
  rcases open_ints Try.underlying23 Try.underlying3 (by kernel_rfl) hf with ⟨hcs, _⟩ | ⟨x, l, c', zs, hcs, _, hl, hm, hz, _, hcell, hwz⟩
  · simp at hcs
    subst hcs
    exact ⟨_, _, _, [], rfl, SL.nil _ _ _⟩
  · simp at hcs
    subst hcs
    have hlen : (zs.take l).length = l := by
      have : l ≤ zs.length := by rw [hz]; split <;> omega
      simp; omega
    refine ⟨_, _, _, zs.take l, rfl, ⟨_, c', by rw [hlen], by rw [hlen]; exact hl, hm, fun h0 => ⟨x, rfl, ?_, fun j b hj => ?_⟩⟩⟩
    · rw [hlen] at h0
      have hlz : l ≤ zs.length := by rw [hz]; split <;> omega
      have h := hcell 0 (by omega)
      exact World.block_lt_of_cell? W _ (by rw [show x.add 0 = x from by simp [Addr.add]] at h; exact h)
    · have hj1 : j < (zs.take l).length := (List.getElem?_eq_some_iff.1 hj).1
      have hj2 : j < zs.length := by
        have hlz : l ≤ zs.length := by rw [hz]; split <;> omega
        omega
      rw [hcell j hj2]
      rw [List.getElem?_take, if_pos (by omega), List.getElem?_eq_getElem hj2] at hj
      injection hj with hj
      subst hj
      simp [vI, List.getD, List.getElem?_eq_getElem hj2]
theorem bytes_open {n : Nat} {c : Value} {y : DataW H × List MemPlace} (hf : DataW.trod enc Try.prog W base spare held n 22 [c] = some y) : ∃ A m cap l, c = .slice A m cap ∧ SL vB W (Old W) (.slice A m cap) l := by
  rcases open_ints Try.underlying22 Try.underlying5 (by kernel_rfl) hf with ⟨hcs, _⟩ | ⟨x, l, c', zs, hcs, _, hl, hm, hz, _, hcell, hwz⟩
  · simp at hcs
    subst hcs
    exact ⟨_, _, _, [], rfl, SL.nil _ _ _⟩
  · simp at hcs
    subst hcs
    have hlz : l ≤ zs.length := by rw [hz]; split <;> omega
    have hlen : ((zs.take l).map fun z => UInt8.ofNat z.toNat).length = l := by simp; omega
    refine ⟨_, _, _, (zs.take l).map fun z => UInt8.ofNat z.toNat, rfl, ⟨_, c', by rw [hlen], by rw [hlen]; exact hl, hm, fun h0 => ⟨x, rfl, ?_, fun j b hj => ?_⟩⟩⟩
    · rw [hlen] at h0
      have h := hcell 0 (by omega)
      exact World.block_lt_of_cell? W _ (by rw [show x.add 0 = x from by simp [Addr.add]] at h; exact h)
    · have hj1 := (List.getElem?_eq_some_iff.1 hj).1
      rw [hlen] at hj1
      have hj2 : j < zs.length := by omega
      rw [hcell j hj2]
      rw [List.getElem?_map, List.getElem?_take, if_pos (by omega), List.getElem?_eq_getElem hj2] at hj
      simp only [Option.map_some, Option.some.injEq] at hj
      subst hj
      have hb := bounds_u8 (hwz _ (List.getElem_mem hj2))
      unfold vB
      rw [ofNat_toNat _ (by omega)]
      simp [List.getD, List.getElem?_eq_getElem hj2]
      omega
theorem pr_open {r : Reach} {b0 : Nat} {v : Value} {d : DataW H} {p : List MemPlace} (hv : Value.okWide Try.prog W r b0 25 v) (h : DataW.Trod enc Try.prog W base spare held 25 v d p) :
    ∃ (m pv : Int) (Ap : Option Addr) (np cp : Nat) (Ai : Option Addr) (ni ci : Nat) (Au : Option Addr) (nu cu : Nat) (ps : List Int) (is us : List UInt8), v = .agg (v5 m pv Ap np cp Ai ni ci Au nu cu) ∧ SL vI W (Old W) (.slice Ap np cp) ps ∧ SL vB W (Old W) (.slice Ai ni ci) is ∧ SL vB W (Old W) (.slice Au nu cu) us ∧ (Lit.int .i64 m).wf = true ∧ (Lit.int .u8 pv).wf = true := by
  have hc : Try.prog.cellsOf 25 = 5 := by kernel_rfl
  have c0 : Try.prog.cellsOf 3 = 1 := by kernel_rfl
  have c1 : Try.prog.cellsOf 5 = 1 := by kernel_rfl
  have c2 : Try.prog.cellsOf 23 = 1 := by kernel_rfl
  have c3 : Try.prog.cellsOf 22 = 1 := by kernel_rfl
  obtain ⟨cs, rfl, hsz⟩ := okWide_struct Try.underlying25 hv
  obtain ⟨l⟩ := cs
  match l, hsz.trans hc with
  | [x0, x1, x2, x3, x4], _ =>
    obtain ⟨fuel, hf⟩ := h
    obtain ⟨xs, n, _, hx, _, hlen, hg⟩ := DataW.trod_struct Try.underlying25 hf
    match xs, hlen with
    | [y0, y1, y2, y3, y4], _ =>
      have g0 : DataW.trod enc Try.prog W base spare held n 3 [x0] = some y0 := by simpa [Value.cells, c0] using hg 0 _ rfl
      have g1 : DataW.trod enc Try.prog W base spare held n 5 [x1] = some y1 := by simpa [Value.cells, c1] using hg 1 _ rfl
      have g2 : DataW.trod enc Try.prog W base spare held n 23 [x2] = some y2 := by simpa [Value.cells, c2] using hg 2 _ rfl
      have g3 : DataW.trod enc Try.prog W base spare held n 22 [x3] = some y3 := by simpa [Value.cells, c3] using hg 3 _ rfl
      have g4 : DataW.trod enc Try.prog W base spare held n 22 [x4] = some y4 := by simpa [Value.cells, c3] using hg 4 _ rfl
      obtain ⟨m, e0, -, f0⟩ := DataW.trod_int Try.underlying3 g0
      obtain ⟨pv, e1, -, f1⟩ := DataW.trod_int Try.underlying5 g1
      simp only [List.cons.injEq, and_true] at e0 e1
      obtain ⟨Ap, np, cp, ps, rfl, q1⟩ := ints_open g2
      obtain ⟨Ai, ni, ci, is, rfl, q2⟩ := bytes_open g3
      obtain ⟨Au, nu, cu, us, rfl, q3⟩ := bytes_open g4
      exact ⟨m, pv, Ap, np, cp, Ai, ni, ci, Au, nu, cu, ps, is, us, by rw [e0, e1], q1, q2, q3, f0, f1⟩
end
end Go.Proofs.Ytbimhhcmfhooaaa

namespace Go.Proofs.Ytbimhhcmfhooaaa
open Go.ChangeShapes Go.WideShapes Go.ChangeAt Go.RowKit
open Go.ChangeMaps (open_string shut_string)
set_option linter.unusedVariables false

theorem vtTells_own : ownKnob Try.prog.godebug = none := by kernel_rfl
theorem vtTells_laidOut : laidOutB Try.prog = true := by kernel_rfl

set_option maxRecDepth 100000 in
theorem vtTells_lifted (os : Os) (started : os.Started) (H : Type) (enc : TypeId × Value → H) :
    ReturnsInHanded {} Try.checked os 3 .any (Rows.vtTellsSpec.pre6 enc Try.prog Try.f3 Rows.vtTellsRow.domain false) (Rows.vtTellsSpec.post enc Try.prog Try.f3 false true false false) := by
  refine returnsInHanded_of_change (C := Try.checked) vtTells_own started (by kernel_rfl) Try.func3
    (ChangeSpec.witness6 (enc := enc) (C := Try.checked) false ⟨#[], #[.slice none 0 0, .slice none 0 0, .int .u8 0, .slice none 0 0, .agg #[.int .i64 0, .int .u8 0, .slice none 0 0, .slice none 0 0, .slice none 0 0], .int .u8 0], []⟩ 8 (by kernel_rfl) (by kernel_rfl) (by kernel_rfl) (by kernel_rfl)) ?_
  intro W base args ds gs before hval0 hW hcnd _
  have hval : ∀ (j : Nat) t v, Try.f3.params[j]? = some t → args[j]? = some v → Value.okWide Try.prog W .any base t v := hval0
  have hW' := hW
  obtain ⟨p, q, hA0, hV, rfl, hfz, hnd⟩ := hW
  have hA : DataW.TrodAll enc Try.prog W 0 (fun _ => true) true Try.f3.params.toList args.toList ds p := hA0
  rw [Try.params3] at hA hval
  obtain ⟨v0, vs0, d0, ds0, p0, q0, hargs, rfl, rfl, h0, r0⟩ := trodAll_cons hA
  obtain ⟨v1, vs1, d1, ds1, p1, q1, rfl, rfl, rfl, h1, r1⟩ := trodAll_cons r0
  obtain ⟨v2, vs2, d2, ds2, p2, q2, rfl, rfl, rfl, h2, r2⟩ := trodAll_cons r1
  obtain ⟨v3, vs3, d3, ds3, p3, q3, rfl, rfl, rfl, h3, r3⟩ := trodAll_cons r2
  obtain ⟨v4, vs4, d4, ds4, p4, q4, rfl, rfl, rfl, h4, r4⟩ := trodAll_cons r3
  obtain ⟨v5', vs5, d5, ds5, p5, q5, rfl, rfl, rfl, h5, r5⟩ := trodAll_cons r4
  obtain ⟨rfl, rfl, rfl⟩ := trodAll_nil r5
  obtain rfl : args = #[v0, v1, v2, v3, v4, v5'] := by cases args; simp_all
  obtain ⟨rfl, rfl⟩ := trodVars_none hV
  obtain ⟨a0, len0, cap0, rfl⟩ := okWide_slice Try.underlying22 (hval 0 22 v0 rfl rfl)
  have k0 := h0
  have lt0 : ∀ x ∈ p0, x.block < W.heap.size := by obtain ⟨m, hm⟩ := k0; exact DataW.trod_lt m _ _ _ hm
  obtain ⟨z0, w0⟩ : ∃ l, BS W W.heap.size (.slice a0 len0 cap0) l := by
    obtain ⟨fuel, hf⟩ := h0
    rcases open_ints Try.underlying22 Try.underlying5 (by kernel_rfl) hf with ⟨hcs, _⟩ | ⟨x, l, c, zs, hcs, _, hl, hm, hz, _, hcell, hwz⟩
    · simp [Value.cells] at hcs
      obtain ⟨rfl, rfl, rfl⟩ := hcs
      exact ⟨[], BS.nil _ _⟩
    · simp [Value.cells] at hcs
      obtain ⟨rfl, rfl, rfl⟩ := hcs
      exact bs_row hl hm (by simpa using hz) hcell hwz
  obtain ⟨a1, len1, cap1, rfl⟩ := okWide_slice Try.underlying22 (hval 1 22 v1 rfl rfl)
  have k1 := h1
  have lt1 : ∀ x ∈ p1, x.block < W.heap.size := by obtain ⟨m, hm⟩ := k1; exact DataW.trod_lt m _ _ _ hm
  obtain ⟨z1, w1⟩ : ∃ l, BS W W.heap.size (.slice a1 len1 cap1) l := by
    obtain ⟨fuel, hf⟩ := h1
    rcases open_ints Try.underlying22 Try.underlying5 (by kernel_rfl) hf with ⟨hcs, _⟩ | ⟨x, l, c, zs, hcs, _, hl, hm, hz, _, hcell, hwz⟩
    · simp [Value.cells] at hcs
      obtain ⟨rfl, rfl, rfl⟩ := hcs
      exact ⟨[], BS.nil _ _⟩
    · simp [Value.cells] at hcs
      obtain ⟨rfl, rfl, rfl⟩ := hcs
      exact bs_row hl hm (by simpa using hz) hcell hwz
  obtain ⟨a2, rfl, rfl, rfl, w2⟩ := open_int Try.underlying5 (hval 2 5 v2 rfl rfl) h2
  obtain ⟨a3, len3, cap3, rfl⟩ := okWide_slice Try.underlying23 (hval 3 23 v3 rfl rfl)
  have k3 := h3
  have lt3 : ∀ x ∈ p3, x.block < W.heap.size := by obtain ⟨m, hm⟩ := k3; exact DataW.trod_lt m _ _ _ hm
  obtain ⟨z3, w3, f3⟩ : ∃ l, IS W W.heap.size (.slice a3 len3 cap3) l ∧ ∀ n ∈ l, (Lit.int .i64 n).wf = true := by
    obtain ⟨fuel, hf⟩ := h3
    rcases open_ints Try.underlying23 Try.underlying3 (by kernel_rfl) hf with ⟨hcs, _⟩ | ⟨x, l, c, zs, hcs, _, hl, hm, hz, _, hcell, hwz⟩
    · simp [Value.cells] at hcs
      obtain ⟨rfl, rfl, rfl⟩ := hcs
      exact ⟨[], IS.nil _ _, by simp⟩
    · simp [Value.cells] at hcs
      obtain ⟨rfl, rfl, rfl⟩ := hcs
      exact is_row hl hm (by simpa using hz) hcell hwz
  have k4 := h4
  have lt4 : ∀ x ∈ p4, x.block < W.heap.size := by obtain ⟨m, hm⟩ := k4; exact DataW.trod_lt m _ _ _ hm
  obtain ⟨m, pv, Ap, np, cp, Ai, ni, ci, Au, nu, cu, ps, is, us, rfl, g1, g2, g3, hm, hpv⟩ := pr_open (hval 4 25 v4 rfl rfl) h4
  obtain ⟨a5, rfl, rfl, rfl, w5⟩ := open_int Try.underlying5 (hval 5 5 v5' rfl rfl) h5
  clear hA0 hval0
  refine (vtTells_walk a0 len0 cap0 z0 a1 len1 cap1 z1 a2 a3 len3 cap3 z3 m pv Ap np cp Ai ni ci Au nu cu ps is us a5 W w0 w1 w2 w3 f3 g1 g2 g3 hm hpv w5).mono fun e W' ⟨he, bel⟩ => ?_
  subst he
  exact ⟨_, rfl, _, _, _, [], _, [], hW', trodAll_mk1 (shut_bool Try.underlying4 _), (trodAll_cons_mk (Below.trod vtTells_laidOut (by kernel_rfl) (of_decide_eq_true (by kernel_rfl)) k0 bel lt0) (trodAll_cons_mk (Below.trod vtTells_laidOut (by kernel_rfl) (of_decide_eq_true (by kernel_rfl)) k1 bel lt1) (trodAll_cons_mk (shut_int Try.underlying5 w2) (trodAll_cons_mk (Below.trod vtTells_laidOut (by kernel_rfl) (of_decide_eq_true (by kernel_rfl)) k3 bel lt3) (trodAll_cons_mk (Below.trod vtTells_laidOut (by kernel_rfl) (of_decide_eq_true (by kernel_rfl)) k4 bel lt4) (trodAll_cons_mk (shut_int Try.underlying5 w5) trodAll_mk0)))))), rfl, bel.frame _, fun h => by cases h⟩

theorem vtTells_over : Rows.vtTellsRow.holds Try.pinned (OpenSpec.ofChange Rows.vtTellsSpec) :=
  OpenClaim.holds_of_wide 3 Try.f3 rfl rfl rfl rfl rfl rfl rfl ⟨rfl, rfl, rfl, rfl, rfl⟩ rfl rfl rfl rfl rfl (by kernel_rfl) Try.func3 (by kernel_rfl)
    (of_decide_eq_true (by kernel_rfl)) (by unfold Func.isWrapper; first | (rw [if_pos (by decide +kernel)]; kernel_rfl) | (rw [if_neg (by decide +kernel)]; exact ⟨rfl, rfl⟩))
    (fun os started H enc _ => vtTells_lifted os started H enc)

theorem vtTells_holds : Rows.VtTellsSaid := vtTells_over
#print axioms vtTells_holds
end Go.Proofs.Ytbimhhcmfhooaaa
