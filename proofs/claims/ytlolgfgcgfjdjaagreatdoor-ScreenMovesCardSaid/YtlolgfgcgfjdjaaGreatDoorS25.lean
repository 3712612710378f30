/- What is proved here: plain facts: a screen that the document's calls tell is one that its Right takes; it fits its places; the contract of the program's Step on a terminal's parser: it comes to what the document's does, in new memory; the contract of the landed screen's Feed: it comes to what the document's does, in new memory; contracts of the landed screen's New: a new screen, or that its size may not be; the contract of the landed screen's Row: a copy of a row's cells, none where there is no such row; words for screens that a law holds in variables of its own: where each lies, that its slices lie in no variable's block, what is kept by calls and stores; plain facts on a screen as a fold: what a text's acts come to, what bytes that are parted come to, what an act leaves of the parser; no program is named; words for the laws of the screen: a screen in one variable, fed with bytes and stored again; whole loads at guarded operations; the contract of the laws' helper 'fresh' of layer 9: a new screen. -/
import Derived.Test.YtlolgfgcgfjdjaaGreatDoorS23
import Derived.Test.YtlolgfgcgfjdjaaGreatDoorS24
import Derived.Test.YtlolgfgcgfjdjaaGreatDoorS20
import Derived.Test.YtlolgfgcgfjdjaaGreatDoorS2
import Derived.Test.YtlolgfgcgfjdjaaGreatDoorS9
import Derived.Test.YtlolgfgcgfjdjaaGreatDoorS5
import Derived.Deep.QuietTactic
import Derived.BigQuiet
import Derived.Test.YtlolgfgcgfjdjaaGreatDoorS10
import Derived.Test.YtlolgfgcgfjdjaaGreatDoorS17
import Derived.Test.YtlolgfgcgfjdjaaGreatDoorS21
import Derived.Test.YtlolgfgcgfjdjaaGreatDoorS12
import Derived.Test.YtlolgfgcgfjdjaaGreatDoorS6
namespace Go.Proofs.YtlolgfgcgfjdjaaGreatDoor
set_option linter.unusedVariables false
set_option linter.unusedSimpArgs false
set_option maxHeartbeats 400000
set_option maxRecDepth 100000
theorem rightS_in {s : Sc} {r c : Nat} (hi : ScIn s r c) (hw : ScW s r c) : RightS (s.p.mode : Int) s := by
 refine rightS_of hi.rows hi.cols hi.g.r1 hi.g.r2 hi.g.c1 hi.g.c2 ⟨hi.g.n, hi.cells, hw.cells⟩ ⟨⟨hi.y0, hi.y1⟩, ⟨hi.x0, hi.x1⟩, ⟨hi.sy0, hi.sy1⟩, ⟨hi.sx0, hi.sx1⟩, ⟨hi.oy0, hi.oy1⟩, ⟨hi.ox0, hi.ox1⟩⟩ hi.wrap hi.attr hi.sattr (by rw [hi.tabs]) (rightP_ok hi.p) ⟨hi.t0, hi.b1⟩ ?_ ?_ ?_
 ·rcases hi.tb with h | h
  ·exact .inl h
  ·have := hi.t0; have := hi.t1; have := hi.b1
   exact .inr (by omega)
 ·intro e
  obtain ⟨g, h⟩ := hi.other e
  exact ⟨g.n, h, hw.other e⟩
 ·intro e
  obtain ⟨h1, h2, h3⟩ := hi.noAlt e
  exact ⟨by rw [h1]; rfl, h2, h3⟩
theorem fit_of {x : Cl} (h : cellB x = true) : CellFit x := by
 unfold cellB at h
 unfold CellFit
 simp only [Bool.and_eq_true, Bool.or_eq_true, decide_eq_true_eq, beq_iff_eq, mayR] at h
 omega
theorem fitS_in {s : Sc} {r c : Nat} (hi : ScIn s r c) : FitS (s.p.mode : Int) s := by
 have hn : s.cells.length = r * c := hi.g.n
 have hm := hi.p.mode
 have hpr := hi.p.priv
 have hul : s.p.utf.length ≤ 3 := by
  rcases hi.p.utf with h | ⟨_, h⟩
  ·rw [h]; simp
  ·exact (beginsL_len _ h).2
 have ho : s.other.length ≤ 1048576 ∧ ∀ x ∈ s.other, CellFit x := by
  cases ha : s.alt with
  | true =>
   obtain ⟨g, h⟩ := hi.other ha
   exact ⟨by rw [g.n]; have := rc_le g.r2 g.c2; omega, fun x hx => fit_of (h x hx)⟩
  | false =>
   rw [(hi.noAlt ha).1]
   exact ⟨by simp, by simp⟩
 refine ⟨by omega, by omega, fun x hx => fit_of (hi.cells x hx), ho.2, ?_, ho.1, ?_, by omega, by omega⟩
 ·rw [hn]; have := rc_le hi.g.r2 hi.g.c2; omega
 ·rw [hi.tabs]; have := hi.g.c2; omega
theorem lenS_in {s : Sc} {r c : Nat} (hi : ScIn s r c) : s.cells.length ≤ 1048576 ∧ s.other.length ≤ 1048576 ∧ s.tabs.length ≤ 1048576 ∧ s.p.params.length ≤ 1048576 ∧ s.p.inter.length ≤ 1048576 ∧ s.p.utf.length ≤ 1048576 := by
 have h := fitS_in hi
 have h1 := hi.p.params
 have h2 := hi.p.inter
 exact ⟨h.nc, h.no, h.nt, by omega, by omega, h.nu⟩
end Go.Proofs.YtlolgfgcgfjdjaaGreatDoor

namespace Go.Proofs.YtlolgfgcgfjdjaaGreatDoor
open Go.RowKit
set_option linter.unusedVariables false
set_option linter.unusedSimpArgs false
set_option maxHeartbeats 2000000
set_option maxRecDepth 100000
theorem stl_vt {w w' : World} {base : Nat} {B S : Nat → Prop} {vp vi vu av : Value} {r : Pr × List Ac} {m pv : Int} (h : StL w' base B vp vi vu av r.1.params r.1.inter r.1.utf r.2) (hbase : w.heap.size ≤ base) (hb : Below w.heap.size w w') (hm : (r.1.mode : Int) = m) (hpv : (r.1.priv : Int) = pv) : VtPost S r w (.returned (.tuple #[.agg #[.int .i64 m, .int .u8 pv, vp, vi, vu], av])) w' := by
 obtain ⟨S0, ⟨a1, a2, a3, a4⟩, h2, h3, -⟩ := h
 have hn : ∀ x, NewB w' base x → S x ∨ NewB w' w.heap.size x := fun x hx => .inr ⟨Nat.le_trans hbase hx.1, hx.2⟩
 have hs : ∀ x, S0 x → S x ∨ NewB w' w.heap.size x := fun x hx => hn x (h3 x (h2 x hx))
 subst hm
 subst hpv
 exact ⟨_, _, rfl, ⟨_, _, _, rfl, a1.sl.mono hn, a2.sl.mono hn, a3.mono hs⟩, a4.as.mono (fun x hx => ⟨Nat.le_trans hbase hx.1, hx.2⟩) hs, hb⟩
theorem stl_wset {w w5 : World} {y0 y1 y2 y3 y4 : Value} {base : Nat} {B : Nat → Prop} {vp vi vu av : Value} {ps : List Int} {is us : List UInt8} {l : List Ac} (h : StL w5 base B vp vi vu av ps is us l) (h1 : ¬ B (w.heap.size + 1)) : StL (wset w w5 y0 y1 y2 y3 y4) base B vp vi vu av ps is us l :=
 h.keep (fun x hx => wset_heap x (fun e => h1 (e ▸ hx)))
theorem vstep_any (vp vi vu : Value) (p : Pr) (b : UInt8) (S : Nat → Prop) (w : World) (hp : SL vI w S vp p.params) (hi : SL vB w S vi p.inter) (hu : SL vB w S vu p.utf) (hS : ∀ x, S x → x < w.heap.size) (hok : PrOk p) :
  Calls Tryz.prog 40 #[.agg #[.int .i64 (p.mode : Int), .int .u8 (p.priv : Int), vp, vi, vu], .int .u8 (b.toNat : Int)] w (VtPost S (vtL p b) w) := by
 have hul : p.utf.length ≤ 3 := by
  rcases hok.utf with h | ⟨_, h⟩
  ·rw [h]; simp
  ·exact (beginsL_len _ h).2
 have HC : Hid (∀ x y : Obj, Calls Tryz.prog 69 #[.agg #[.int .i64 (p.mode : Int), .int .u8 (p.priv : Int), vp, vi, vu]] ((w.alloc x).alloc y) (PPost ((w.alloc x).alloc y) ((w.alloc x).alloc y).heap.size (fun _ => False) p (.slice none 0 0) [])) := fun x y =>
  own_anyP vp vi vu p S _ (hp.keep (fun q hq => (two_new w x y).1.cell (hS _ hq))) (hi.keep (fun q hq => (two_new w x y).1.cell (hS _ hq))) (hu.keep (fun q hq => (two_new w x y).1.cell (hS _ hq))) (fun z hz => Nat.lt_of_lt_of_le (hS z hz) (two_new w x y).1.size) hok.params hok.inter hul
 have HOK := Lib.hid hok
 obtain ⟨Ap, cp, rfl, p1, p2⟩ := hp.form
 obtain ⟨Ai, ci, rfl, i1, i2⟩ := hi.form
 obtain ⟨Au, cu, rfl, u1, u2⟩ := hu.form
 clear hp hi hu hS hok
 obtain ⟨r, hr⟩ : ∃ r, vtL p b = r := ⟨_, rfl⟩
 rw [hr]
 have HR := Lib.hid hr
 clear hr
 have HN := Lib.hid (two_new w)
 go_enter Tryz.func40, Tryz.ntmps40
 go_wp2_with (first
  | (go_at_call 69; refine (HC.out _ _).mono ?_; rintro e w4 ⟨B4, A1, n1, A2, n2, A3, n3, rfl, hst, hB, hF⟩; have hb4 := hF.below (fun _ h => h.elim) (Nat.le_refl _); obtain ⟨⟨-, k1⟩, hb5, hz5⟩ := two_keptS hb4; rw [(HN.out _ _).2] at hst hB; have HK1 := Lib.hid k1; have HST := Lib.hid hst; have HB : Hid (∀ x, B4 x → w.heap.size + 1 + 1 ≤ x) := (fun x hx => (hB x hx).elim False.elim id); have HB5 := Lib.hid hb5; have HZ5 := Lib.hid hz5; clear hst hB hF hb4 k1 hb5 hz5)
  | (go_at_call 68; (with_reducible refine (stepIn_any _ _ _ _ p b [] _ B4 _ HST.out HZ5.out (by simp) HOK.out).mono ?_); rintro e w6 ⟨B6, D1, m1, D2, m2, D3, m3, Da, ma, rfl, hst, hB, hF⟩; rw [List.nil_append, HR.out] at hst ⊢; have j1 := (hF.block (w.heap.size + 1) (by have := HZ5.out; omega) (fun hb => by have := HB.out _ hb; omega)).trans HK1.out; obtain ⟨e0, e1, e2, e3, e4, ef⟩ := five_cells j1; have HB6 : Hid (Below w.heap.size w w6) := HB5.out.trans (hF.below (fun x hx => by have := HB.out x hx; omega) HB5.out.size); have HS6 := Lib.hid hst; have HN6 : Hid (¬ B6 (w.heap.size + 1)) := (fun hb => (hB _ hb).elim (fun h => by have := HB.out _ h; omega) (fun h => by have := HZ5.out; omega)); clear hst hB hF j1))
 exact bodyPost_ret (v := .tuple #[.agg #[.int .i64 (r.1.mode : Int), .int .u8 (r.1.priv : Int), .slice D1 r.1.params.length m1, .slice D2 r.1.inter.length m2, .slice D3 r.1.utf.length m3], .slice Da r.2.length ma]) (by simp [results, Tryz.results40, go_sem, e0, e1, e2, e3, e4]) rfl (stl_vt (stl_wset HS6.out HN6.out) (by omega) (wset_below HB6.out) rfl rfl)
end Go.Proofs.YtlolgfgcgfjdjaaGreatDoor

namespace Go.Proofs.YtlolgfgcgfjdjaaGreatDoor
open Go.RowKit
set_option linter.unusedVariables false
set_option linter.unusedSimpArgs false
set_option maxHeartbeats 8000000
set_option maxRecDepth 100000
theorem PsL.ssl {w : World} {base : Nat} {vc vt vo vp vi vu : Value} {s : Sc} {T : Nat → Prop} (h : PsL w base vc vt vo s) (h4 : SL vI w T vp s.p.params) (h5 : SL vB w T vi s.p.inter) (h6 : SL vB w T vu s.p.utf) (hT : ∀ x, T x → base ≤ x ∧ x < w.heap.size) : SSl w (NewB w base) s vc vt vo vp vi vu :=
 ⟨h.c.cl, h.t.sl, h.o.cl, h4.mono hT, h5.mono hT, h6.mono hT⟩
structure FdAt (s : Sc) (r c : Nat) (w : World) (Z : Obj) (wr : World) (uc ut uo up ui uu : Value) (T : Nat → Prop) : Prop where
 inn : ScIn s r c
 hw : ScW s r c
 bel : Below w.heap.size w wr
 size : w.heap.size + 1 + 1 ≤ wr.heap.size
 kS : wr.heap[w.heap.size]? = some (.cells (vS s uc ut uo up ui uu) 31)
 kZ : wr.heap[w.heap.size + 1]? = some Z
 ps : PsL wr (w.heap.size + 1 + 1) uc ut uo s
 sp : SL vI wr T up s.p.params
 si : SL vB wr T ui s.p.inter
 su : SL vB wr T uu s.p.utf
 far : ∀ x, T x → (w.heap.size + 1 < x ∧ x < wr.heap.size) ∧ ¬ OwB uc ut uo x
def PFeedRel (s : Sc) (b : List UInt8) (r c : Nat) (w : World) (Z : Obj) (i : Value) (wr : World) : Prop :=
 ∃ j : Nat, j ≤ b.length ∧ i = .int .i64 (j : Int) ∧ ∃ uc ut uo up ui uu T, FdAt (feedS s (b.take j)) r c w Z wr uc ut uo up ui uu T
structure DoAt (s : Sc) (r c : Nat) (w : World) (Z : Obj) (w7 : World) (O : Nat → Prop) (wr : World) (yc yt yo yp yi yu : Value) : Prop where
 inn : ScIn s r c
 hw : ScW s r c
 bel : Below w.heap.size w wr
 size : w7.heap.size ≤ wr.heap.size
 kS : wr.heap[w.heap.size]? = some (.cells (vS s yc yt yo yp yi yu) 31)
 ps : PsL wr (w.heap.size + 1 + 1) yc yt yo s
 sl : Sl yp ∧ Sl yi ∧ Sl yu
 fr : ∀ x, x ≠ w.heap.size → x < w7.heap.size → ¬ O x → wr.heap[x]? = w7.heap[x]?
 sub : ∀ x, OwB yc yt yo x → O x ∨ w7.heap.size ≤ x
def PActsRel (s : Sc) (l : List Ac) (r c : Nat) (w : World) (Z : Obj) (w7 : World) (O : Nat → Prop) (i : Value) (wr : World) : Prop :=
 ∃ j : Nat, j ≤ l.length ∧ i = .int .i64 (j : Int) ∧ ∃ yc yt yo yp yi yu, DoAt ((l.take j).foldl doS s) r c w Z w7 O wr yc yt yo yp yi yu
theorem FdAt.own_lt {s : Sc} {r c : Nat} {w wr : World} {Z : Obj} {uc ut uo up ui uu : Value} {T : Nat → Prop} (h : FdAt s r c w Z wr uc ut uo up ui uu T) : ∀ x, OwB uc ut uo x → w.heap.size + 1 + 1 ≤ x ∧ x < wr.heap.size := h.ps.lt
structure PStepAt (q : Pr) (acts : List Ac) (w w5 : World) (T O : Nat → Prop) (pb : Nat) (xp xi xu av : Value) (wc : World) : Prop where
 lo : w5.heap.size ≤ pb
 hi : pb < wc.heap.size
 bel : Below w5.heap.size w5 wc
 kp : wc.heap[pb]? = some (.cells #[.int .i64 (q.mode : Int), .int .u8 (q.priv : Int), xp, xi, xu] 29)
 sp : SL vI wc (fun x => (T x ∨ w5.heap.size ≤ x) ∧ x < wc.heap.size) xp q.params
 si : SL vB wc (fun x => (T x ∨ w5.heap.size ≤ x) ∧ x < wc.heap.size) xi q.inter
 su : SL vB wc (fun x => (T x ∨ w5.heap.size ≤ x) ∧ x < wc.heap.size) xu q.utf
 acs : AS wc (fun x => w5.heap.size ≤ x ∧ x < wc.heap.size) (fun x => (T x ∨ w5.heap.size ≤ x) ∧ x < wc.heap.size) av acts
theorem pstepA {q : Pr} {acts : List Ac} {w w5 w6 : World} {T O : Nat → Prop} {xp xi xu av : Value} (hT : ∀ x, T x → x < w5.heap.size) (b6 : Below w5.heap.size w5 w6)
  (r1 : SL vI w6 (fun x => T x ∨ NewB w6 w5.heap.size x) xp q.params) (r2 : SL vB w6 (fun x => T x ∨ NewB w6 w5.heap.size x) xi q.inter) (r3 : SL vB w6 (fun x => T x ∨ NewB w6 w5.heap.size x) xu q.utf)
  (ha : AS w6 (NewB w6 w5.heap.size) (fun x => T x ∨ NewB w6 w5.heap.size x) av acts) :
  PStepAt q acts w w5 T O w6.heap.size xp xi xu av (w6.alloc (.cells #[.int .i64 (q.mode : Int), .int .u8 (q.priv : Int), xp, xi, xu] 29)) := by
 have z2 : w5.heap.size ≤ w6.heap.size := b6.size
 have z3 : (w6.alloc (.cells #[.int .i64 (q.mode : Int), .int .u8 (q.priv : Int), xp, xi, xu] 29)).heap.size = w6.heap.size + 1 := by simp
 have hm : ∀ x, (T x ∨ NewB w6 w5.heap.size x) → ((T x ∨ w5.heap.size ≤ x) ∧ x < (w6.alloc (.cells #[.int .i64 (q.mode : Int), .int .u8 (q.priv : Int), xp, xi, xu] 29)).heap.size) := by
  intro x hx
  rw [z3]
  rcases hx with h | h
  ·have := hT x h
   exact ⟨.inl h, by omega⟩
  ·have h1 : w5.heap.size ≤ x := h.1
   have h2 : x < w6.heap.size := h.2
   exact ⟨.inr h1, by omega⟩
 have hlt : ∀ x, (T x ∨ NewB w6 w5.heap.size x) → x < w6.heap.size := by
  intro x hx
  rcases hx with h | h
  ·have := hT x h; omega
  ·exact h.2
 have hk : ∀ p : Addr, (T p.block ∨ NewB w6 w5.heap.size p.block) → (w6.alloc (.cells #[.int .i64 (q.mode : Int), .int .u8 (q.priv : Int), xp, xi, xu] 29)).cell? p = w6.cell? p := fun p hp => World.cell?_alloc_lt w6 _ p (hlt _ hp)
 refine ⟨z2, by rw [z3]; omega, b6.alloc z2 _, heap_alloc_new w6 _, (r1.keep hk).mono hm, (r2.keep hk).mono hm, (r3.keep hk).mono hm, (ha.keep (fun p hp => World.cell?_alloc_lt w6 _ p hp.2) hk).mono (fun x hx => ?_) hm⟩
 have h1 : w5.heap.size ≤ x := hx.1
 have h2 : x < w6.heap.size := hx.2
 rw [z3]
 exact ⟨h1, by omega⟩
theorem FdAt.acts {s : Sc} {r c : Nat} {w w5 wc : World} {Z : Obj} {uc ut uo up ui uu : Value} {T : Nat → Prop} (h : FdAt s r c w Z w5 uc ut uo up ui uu T) (hb : Below w5.heap.size w5 wc) : DoAt s r c w Z wc (OwB uc ut uo) wc uc ut uo up ui uu := by
 have hz := h.size
 obtain ⟨A4, k4, e4, -⟩ := h.sp.form
 obtain ⟨A5, k5, e5, -⟩ := h.si.form
 obtain ⟨A6, k6, e6, -⟩ := h.su.form
 exact ⟨h.inn, h.hw, h.bel.trans (hb.mono (by omega)), Nat.le_refl _, (hb.block _ (by omega)).trans h.kS, h.ps.below hb, ⟨⟨_, _, _, e4⟩, ⟨_, _, _, e5⟩, ⟨_, _, _, e6⟩⟩, fun _ _ _ _ => rfl, fun x hx => .inl hx⟩
theorem DoAt.next {s : Sc} {r c : Nat} {w w7 wr w8 : World} {Z X : Obj} {O : Nat → Prop} {yc yt yo yp yi yu zc zt zo zp zi zu : Value} {a : Ac} (h : DoAt s r c w Z w7 O wr yc yt yo yp yi yu) (ha : ActOk a) (hz7 : w.heap.size < w7.heap.size)
  (hsl : Sl zp ∧ Sl zi ∧ Sl zu) (hps : PsL w8 (w.heap.size + 1 + 1) zc zt zo (doS s a)) (hfr : Fr (OwB yc yt yo) (wr.alloc X) w8) (hsub : ∀ x, OwB zc zt zo x → OwB yc yt yo x ∨ (wr.alloc X).heap.size ≤ x) :
  DoAt (doS s a) r c w Z w7 O (w8.setRow w.heap.size (vS (doS s a) zc zt zo zp zi zu)) zc zt zo zp zi zu := by
 have hz := h.size
 have hlt := h.ps.lt
 have e1 : (wr.alloc X).heap.size = wr.heap.size + 1 := by simp
 rw [e1] at hsub
 have hz8 := hfr.size
 rw [e1] at hz8
 have hno : ¬ OwB yc yt yo w.heap.size := fun hx => by have := (hlt _ hx).1; omega
 have hno2 : ¬ OwB zc zt zo w.heap.size := fun hx => by have := (hps.lt _ hx).1; omega
 have hbk : ∀ x, x < wr.heap.size → ¬ OwB yc yt yo x → w8.heap[x]? = wr.heap[x]? := fun x hx hn => (hfr.block x (by rw [e1]; omega) hn).trans (Below.heap_alloc wr X x hx)
 have hb8 : Below w.heap.size w w8 := by
  refine (h.bel.alloc (by omega) X).trans (hfr.below (fun x hx => ?_) (by rw [e1]; omega))
  have := (hlt x hx).1
  omega
 have kS8 := (hbk _ (by omega) hno).trans h.kS
 refine ⟨doS_in h.inn a ha, doS_w h.inn h.hw a, below_setRow hb8 (Nat.le_refl _) _, by rw [size_setRow]; omega, heap_setRow_same kS8, hps.setRow hno2 _, hsl, fun x hx hl hO => ?_, fun x hx => ?_⟩
 ·rw [heap_setRow_other (fun e => hx e.symm), hbk x (by omega) (fun hy => ?_)]
  ·exact h.fr x hx hl hO
  ·rcases h.sub x hy with h1 | h1
   ·exact hO h1
   ·omega
 ·rcases hsub x hx with h1 | h1
  ·exact h.sub x h1
  ·exact .inr (by omega)
theorem FdAt.next {s sj : Sc} {r c : Nat} {w w5 wc wr : World} {Z : Obj} {uc ut uo up ui uu : Value} {T : Nat → Prop} {q : Pr} {acts : List Ac} {pb : Nat} {xp xi xu av yc yt yo yp yi yu : Value} (h : FdAt s r c w Z w5 uc ut uo up ui uu T) (hp : PStepAt q acts w w5 T (OwB uc ut uo) pb xp xi xu av wc) (hd : DoAt sj r c w Z wc (OwB uc ut uo) wr yc yt yo yp yi yu) (hq : PrOk q) :
  FdAt { sj with p := q } r c w Z (((((wr.setCell ⟨w.heap.size, 19, none⟩ (.int .i64 (q.mode : Int))).setCell ⟨w.heap.size, 20, none⟩ (.int .u8 (q.priv : Int))).setCell ⟨w.heap.size, 21, none⟩ xp).setCell ⟨w.heap.size, 22, none⟩ xi).setCell ⟨w.heap.size, 23, none⟩ xu) yc yt yo xp xi xu (fun x => (T x ∨ w5.heap.size ≤ x) ∧ x < wc.heap.size) := by
 have hz5 := h.size
 have hlt := h.own_lt
 have hzc := hp.bel.size
 have hz := hd.size
 have hrow := row_parser (p := q) (xp := xp) (xi := xi) (xu := xu) hd.kS
 obtain ⟨W9, hW9⟩ : ∃ W9, W9 = ((((wr.setCell ⟨w.heap.size, 19, none⟩ (.int .i64 (q.mode : Int))).setCell ⟨w.heap.size, 20, none⟩ (.int .u8 (q.priv : Int))).setCell ⟨w.heap.size, 21, none⟩ xp).setCell ⟨w.heap.size, 22, none⟩ xi).setCell ⟨w.heap.size, 23, none⟩ xu := ⟨_, rfl⟩
 rw [← hW9] at hrow ⊢
 have z9 : W9.heap.size = wr.heap.size := by rw [hW9]; simp [World.setCell]
 have ho : ∀ b, b ≠ w.heap.size → W9.heap[b]? = wr.heap[b]? := fun b hb => by
  rw [hW9, Below.heap_setCell _ _ _ _ hb, Below.heap_setCell _ _ _ _ hb, Below.heap_setCell _ _ _ _ hb, Below.heap_setCell _ _ _ _ hb, Below.heap_setCell _ _ _ _ hb]
 have hbel : Below w.heap.size w W9 := by
  rw [hW9]
  exact ((((hd.bel.setCell (p := ⟨w.heap.size, 19, none⟩) (Nat.le_refl _) _).setCell (p := ⟨w.heap.size, 20, none⟩) (Nat.le_refl _) _).setCell (p := ⟨w.heap.size, 21, none⟩) (Nat.le_refl _) _).setCell (p := ⟨w.heap.size, 22, none⟩) (Nat.le_refl _) _).setCell (p := ⟨w.heap.size, 23, none⟩) (Nat.le_refl _) _
 have hn0 : ∀ x, (T x ∨ w5.heap.size ≤ x) → x ≠ w.heap.size ∧ w.heap.size + 1 < x ∧ ¬ OwB uc ut uo x := fun x hx => by
  rcases hx with h1 | h1
  ·obtain ⟨⟨h2, h3⟩, h4⟩ := h.far x h1
   exact ⟨by omega, h2, h4⟩
  ·exact ⟨by omega, by omega, fun h4 => by have := (hlt x h4).2; omega⟩
 have hkeep : ∀ p : Addr, ((T p.block ∨ w5.heap.size ≤ p.block) ∧ p.block < wc.heap.size) → W9.cell? p = wc.cell? p := fun p hp2 => by
  obtain ⟨h1, h2, h3⟩ := hn0 _ hp2.1
  exact World.cell?_of_block ((ho _ h1).trans (hd.fr _ h1 hp2.2 h3))
 refine ⟨{ hd.inn with p := hq }, ⟨hd.hw.cells, hd.hw.other⟩, hbel, by rw [z9]; omega, hrow, ?_, ?_, hp.sp.keep hkeep, hp.si.keep hkeep, hp.su.keep hkeep, fun x hx => ?_⟩
 ·rw [ho _ (by omega), hd.fr _ (by omega) (by omega) (fun h4 => by have := (hlt _ h4).1; omega), hp.bel.block _ (by omega)]
  exact h.kZ
 ·exact (hd.ps.keep (fun x hx => ho x (fun e => by have := (hd.ps.lt x hx).1; omega))).like rfl rfl rfl
 ·obtain ⟨h1, h2, h3⟩ := hn0 _ hx.1
  refine ⟨⟨h2, by rw [z9]; omega⟩, fun h4 => ?_⟩
  rcases hd.sub x h4 with h5 | h5
  ·exact h3 h5
  ·have := hx.2; omega
theorem FdAt.below {s : Sc} {r c : Nat} {w W3 w4 : World} {Z : Obj} {uc ut uo up ui uu : Value} {T : Nat → Prop} (h : FdAt s r c w Z W3 uc ut uo up ui uu T) (b4 : Below W3.heap.size W3 w4) : FdAt s r c w Z w4 uc ut uo up ui uu T := by
 have hz := h.size
 have hk : ∀ q : Addr, q.block < W3.heap.size → w4.cell? q = W3.cell? q := fun q hq => b4.cell hq
 exact ⟨h.inn, h.hw, h.bel.trans (b4.mono (by have := h.bel.size; omega)), Nat.le_trans hz b4.size, (b4.block _ (by omega)).trans h.kS, (b4.block _ (by omega)).trans h.kZ, h.ps.below b4, h.sp.keep (fun q hq => hk q (h.far _ hq).1.2), h.si.keep (fun q hq => hk q (h.far _ hq).1.2), h.su.keep (fun q hq => hk q (h.far _ hq).1.2), fun x hx => ⟨⟨(h.far x hx).1.1, Nat.lt_of_lt_of_le (h.far x hx).1.2 b4.size⟩, (h.far x hx).2⟩⟩
theorem pfeed_any (v bv : Value) (s : Sc) (b : List UInt8) (r c : Nat) (S : Nat → Prop) (w : World) (hS : ∀ x, S x → x < w.heap.size) (h : SCV w S v s) (hi : ScIn s r c) (hw : ScW s r c) (hb : BS w w.heap.size bv b) (hbl : b.length ≤ 1099511627776) (hsp : Spans w) (hgb : 0 < w.heap.size) : Calls Tryz.prog 17 #[v, bv] w (ScPost S (feedS s b) w) := by
 have HSS := Lib.hid hS
 clear hS
 obtain ⟨vc, vt, vo, vp, vi, vu, rfl, hs⟩ := h
 have HS := Lib.hid hs
 obtain ⟨g1, g2, g3, g4, g5, g6⟩ := hs
 obtain ⟨A1, kk1, rfl, p1, q1⟩ := g1.form
 obtain ⟨A2, k2, rfl, p2, q2⟩ := g2.form
 obtain ⟨A3, k3, rfl, p3, q3⟩ := g3.form
 obtain ⟨A4, k4, rfl, p4, q4⟩ := g4.form
 obtain ⟨A5, k5, rfl, p5, q5⟩ := g5.form
 obtain ⟨A6, k6, rfl, p6, q6⟩ := g6.form
 clear g1 g2 g3 g4 g5 g6
 have HI := Lib.hid hi
 have HW := Lib.hid hw
 have HB := Lib.hid hb
 have HSP := Lib.hid hsp
 have HGB := Lib.hid hgb
 obtain ⟨Ab, kb, rfl, pb1, pb2, -⟩ := hb.at_
 unfold maxLen at pb2
 have H2 := Lib.hid (fun x y => two_new w x y)
 clear hi hw hb hsp hgb
 go_enter Tryz.func17, Tryz.ntmps17
 go_upto_region 1 with fail
 refine wp_region_lit ?_
 refine wpl_loadS rfl (.tmp 2) rfl rfl (heap_a1 w _ _) rfl ?_
 go_wp2_with fail
 ((with_reducible refine (pown_any s _ _ _ _ _ _ S _ (fun x hx => Nat.lt_of_lt_of_le (HSS.out x hx) (H2.out _ _).1.size) (HS.out.below HSS.out (H2.out _ _).1) (lenS_in HI.out)).mono ?_); rintro e w2 ⟨xc, xt, xo, xp, xi, xu, rfl, ho, b2⟩)
 rename_i K hK
 refine hK _ _ ?_
 clear hK K
 obtain ⟨⟨k0, k1⟩, hb2, hz2⟩ := two_keptS b2
 rw [(H2.out _ _).2] at ho
 have hone := ho.ps.one (s' := s) (vp := xp) (vi := xi) (vu := xu) ⟨(by obtain ⟨A, k, e, -⟩ := ho.p.sl.form; exact ⟨A, _, k, e⟩), (by obtain ⟨A, k, e, -⟩ := ho.i.sl.form; exact ⟨A, _, k, e⟩), (by obtain ⟨A, k, e, -⟩ := ho.u.sl.form; exact ⟨A, _, k, e⟩)⟩
 refine wpl_storeS rfl (.tmp 2) (.tmp 12) rfl rfl rfl k0 rfl rfl hone ?_
 have hno : ¬ OwB xc xt xo w.heap.size := fun hx => by have := (ho.ps.lt _ hx).1; omega
 have hF : FdAt s r c w (.cells zQ 31) (w2.setRow w.heap.size (vS s xc xt xo xp xi xu)) xc xt xo xp xi xu (fun x => xp.ownBlock = some x ∨ xi.ownBlock = some x ∨ xu.ownBlock = some x) := by
  have hpl := World.ownsRow.lt ho.p
  have hil := World.ownsRow.lt ho.i
  have hul := World.ownsRow.lt ho.u
  have hk : ∀ q : Addr, (xp.ownBlock = some q.block ∨ xi.ownBlock = some q.block ∨ xu.ownBlock = some q.block) → (w2.setRow w.heap.size (vS s xc xt xo xp xi xu)).cell? q = w2.cell? q := fun q hq => World.cell?_of_block (heap_setRow_other (fun e => by
   rcases hq with h | h | h
   ·have := (hpl _ h).1; omega
   ·have := (hil _ h).1; omega
   ·have := (hul _ h).1; omega))
  refine ⟨HI.out, HW.out, below_setRow hb2 (Nat.le_refl _) _, by rw [size_setRow]; exact hz2, heap_setRow_same k0, (heap_setRow_other (by omega)).trans k1, ho.ps.setRow hno _, (ho.p.slO.mono (fun x hx => .inl hx)).keep hk, (ho.i.slO.mono (fun x hx => .inr (.inl hx))).keep hk, (ho.u.slO.mono (fun x hx => .inr (.inr hx))).keep hk, fun x hx => ?_⟩
  refine ⟨?_, fun hy => ?_⟩
  ·rw [size_setRow]
   rcases hx with h | h | h
   ·have := hpl _ h; omega
   ·have := hil _ h; omega
   ·have := hul _ h; omega
  ·rcases hx with h | h | h
   ·rcases hy with g | g | g
    ·exact own_apart ho.p ho.c (by decide) x h g
    ·exact own_apart ho.p ho.t (by decide) x h g
    ·exact own_apart ho.p ho.o (by decide) x h g
   ·rcases hy with g | g | g
    ·exact own_apart ho.i ho.c (by decide) x h g
    ·exact own_apart ho.i ho.t (by decide) x h g
    ·exact own_apart ho.i ho.o (by decide) x h g
   ·rcases hy with g | g | g
    ·exact own_apart ho.u ho.c (by decide) x h g
    ·exact own_apart ho.u ho.t (by decide) x h g
    ·exact own_apart ho.u ho.o (by decide) x h g
 generalize (w2.setRow w.heap.size (vS s xc xt xo xp xi xu)) = W3 at hF ⊢
 have HF0 := Lib.hid hF
 clear hF hone hno ho b2 k0 k1 hb2 hz2
 have hR : Calls Tryz.prog 14 #[.agg (vS s xc xt xo xp xi xu)] W3 (RightSPost (s.p.mode : Int) s W3) :=
  pRight_any (s.p.mode : Int) s xc xt xo xp xi xu (NewB W3 (w.heap.size + 1 + 1)) W3 (fun x hx => hx.2) (HF0.out.ps.ssl HF0.out.sp HF0.out.si HF0.out.su (fun x hx => by have := (HF0.out.far x hx).1; omega)) (fitS_in HI.out)
 have HR := Lib.hid hR
 clear hR
 obtain ⟨A1', kc1, rfl, -⟩ := HF0.out.ps.c.cs.form
 obtain ⟨A2', kc2, rfl, -⟩ := HF0.out.ps.t.sl.form
 obtain ⟨A3', kc3, rfl, -⟩ := HF0.out.ps.o.cs.form
 obtain ⟨A4', kc4, rfl, -⟩ := HF0.out.sp.form
 obtain ⟨A5', kc5, rfl, -⟩ := HF0.out.si.form
 obtain ⟨A6', kc6, rfl, -⟩ := HF0.out.su.form
 go_upto_region 2 with fail
 refine wp_region_lit ?_
 refine wpl_loadS rfl (.tmp 2) rfl rfl HF0.out.kS rfl ?_
 go_wp2_with fail
 ((with_reducible refine HR.out.mono ?_); rintro e w4 ⟨bb, rfl, hbb, b4⟩)
 obtain rfl : bb = true := hbb.2 (rightS_in HI.out HW.out)
 have hF4 := HF0.out.below b4
 have HF4 := Lib.hid hF4
 clear hbb b4 hF4
 rename_i K hK
 refine hK _ _ ?_
 clear hK K
 go_wp2
 go_loopw [19] (fun i wr => PFeedRel s b r c w (.cells zQ 31) i wr) (fun i _ => b.length - (intOf i).toNat)
 case atStart => exact ⟨0, Nat.zero_le _, rfl, _, _, _, _, _, _, _, HF4.out⟩
 case round =>
  generalize wr = w5 at *
  obtain ⟨j, hj, rfl, uc, ut, uo, up, ui, uu, T, hat⟩ := hrel
  by_cases hlt : j < b.length
  ·have HON := Lib.hid (feed_on s b j hlt)
   generalize hsj : feedS s (b.take j) = sj at *
   have HAT := Lib.hid hat
   obtain ⟨ad, hAd, hc⟩ := (HB.out.below hat.bel).cellC j hlt
   subst hAd
   unfold vB at hc
   have hsz5 := hat.size
   obtain ⟨B4, kb4, rfl, -⟩ := hat.sp.form
   obtain ⟨B5, kb5, rfl, -⟩ := hat.si.form
   obtain ⟨B6, kb6, rfl, -⟩ := hat.su.form
   have HST := Lib.hid (vstep_any (.slice B4 sj.p.params.length kb4) (.slice B5 sj.p.inter.length kb5) (.slice B6 sj.p.utf.length kb6) sj.p b[j] T w5 hat.sp hat.si hat.su (fun x hx => (hat.far x hx).1.2) hat.inn.p)
   obtain ⟨d19, -⟩ := cellR (w := w5) (v := .int .i64 (sj.p.mode : Int)) hat.kS 19 rfl
   obtain ⟨d20, -⟩ := cellR (w := w5) (v := .int .u8 (sj.p.priv : Int)) hat.kS 20 rfl
   obtain ⟨d21, -⟩ := cellR (w := w5) (v := .slice B4 sj.p.params.length kb4) hat.kS 21 rfl
   obtain ⟨d22, -⟩ := cellR (w := w5) (v := .slice B5 sj.p.inter.length kb5) hat.kS 22 rfl
   obtain ⟨d23, -⟩ := cellR (w := w5) (v := .slice B6 sj.p.utf.length kb6) hat.kS 23 rfl
   have HTL := Lib.hid (fun x (hx : T x) => (hat.far x hx).1.2)
   clear hat
   go_upto_region 8 with (go_at_call 40; (with_reducible refine HST.out.mono ?_); rintro e w6 ⟨qv, av, rfl, hq, ha, b6⟩; obtain ⟨xp, xi, xu, rfl, r1, r2, r3⟩ := hq; have HPS := Lib.hid (pstepA (w := w) (O := OwB uc ut uo) HTL.out b6 r1 r2 r3 ha); obtain ⟨Ap, cp, rfl, s1, s2⟩ := r1.form; obtain ⟨Ai, ci, rfl, s3, s4⟩ := r2.form; obtain ⟨Au, cu, rfl, s5, s6⟩ := r3.form; obtain ⟨Aa, ca, rfl, s7, s8⟩ := ha.form; clear r1 r2 r3 ha b6)
   have HDO := Lib.hid (HAT.out.acts HPS.out.bel)
   obtain ⟨acts, hacts⟩ : ∃ l, (vtL sj.p b[j]).2 = l := ⟨_, rfl⟩
   obtain ⟨qp, hqp⟩ : ∃ l, (vtL sj.p b[j]).1 = l := ⟨_, rfl⟩
   have HOK := Lib.hid (vtL_acts sj.p b[j] HAT.out.inn.p)
   have HKD := Lib.hid (vtL_kd sj.p b[j] HAT.out.inn.p)
   have HPO := Lib.hid (vtL_ok sj.p b[j] HAT.out.inn.p)
   have HSTE := Lib.hid (show stepS sj b[j] = { acts.foldl doS sj with p := qp } by unfold stepS; rw [hacts, hqp])
   rw [hacts] at HOK HKD
   rw [hqp] at HPO
   rw [hacts, hqp] at HPS
   rw [hqp] at HDO s1 s3 s5
   rw [hacts] at s7
   rw [hacts, hqp]
   clear hacts hqp d19 d20 d21 d22 d23 hc HST
   generalize hpb : w6.heap.size = pb at HPS ⊢
   clear hpb
   generalize World.alloc w6 _ = wc at HPS HDO ⊢
   go_wp2
   go_loopw [32] (fun kv wr => PActsRel sj acts r c w (.cells zQ 31) wc (OwB uc ut uo) kv wr) (fun kv _ => acts.length - (intOf kv).toNat)
   case atStart => exact ⟨0, Nat.zero_le _, rfl, _, _, _, _, _, _, HDO.out⟩
   case round =>
    obtain ⟨k, hk, rfl, yc, yt, yo, yp, yi, yu, hat⟩ := hrel
    have HAT2 := Lib.hid hat
    clear hat
    by_cases hlk : k < acts.length
    ·obtain ⟨a, ha⟩ : ∃ a, acts[k]? = some a := ⟨_, List.getElem?_eq_getElem hlk⟩
     have hmem : a ∈ acts := List.mem_of_getElem? ha
     have HAO := Lib.hid (HOK.out a hmem)
     have hko : a.kind ≤ 3 := HKD.out a hmem
     have HKO := Lib.hid hko
     clear hko
     have HON2 := Lib.hid (acts_on sj acts k a ha)
     have HN0 : Hid (∀ x, (T x ∨ w5.heap.size ≤ x) → x ≠ w.heap.size ∧ ¬ OwB uc ut uo x) := fun x hx => by
      have h5 := HAT.out.size
      rcases hx with h1 | h1
      ·obtain ⟨⟨h2, h3⟩, h4⟩ := HAT.out.far x h1
       exact ⟨by omega, h4⟩
      ·exact ⟨by omega, fun h4 => by have := (HAT.out.own_lt x h4).2; omega⟩
     have hkeep : ∀ x, (T x ∨ w5.heap.size ≤ x) → x < wc.heap.size → wr.heap[x]? = wc.heap[x]? := fun x hx hl => HAT2.out.fr x (HN0.out x hx).1 hl (HN0.out x hx).2
     have hasr := HPS.out.acs.keep (w' := wr) (fun q hq => World.cell?_of_block (hkeep _ (.inr hq.1) hq.2)) (fun q hq => World.cell?_of_block (hkeep _ hq.1 hq.2))
     obtain ⟨ad2, vp2, vi2, hAd2, hTb, l1, l2, s0', s1', s2', s3', s4', s5'⟩ := hasr.get k a ha
     subst hAd2
     obtain ⟨sk, hsk⟩ : ∃ x, (acts.take k).foldl doS sj = x := ⟨_, rfl⟩
     rw [hsk] at HAT2 HON2
     clear hsk
     obtain ⟨AP, kP, rfl, u1, u2⟩ := l1.form
     obtain ⟨AI, kI, rfl, u3, u4⟩ := l2.form
     obtain ⟨⟨A4'', n4'', k4'', rfl⟩, ⟨A5'', n5'', k5'', rfl⟩, ⟨A6'', n6'', k6'', rfl⟩⟩ := HAT2.out.sl
     have HL1 := Lib.hid l1
     have HKE := Lib.hid hkeep
     have hwz := HAT2.out.size
     have hcz := HPS.out.bel.size
     have h5z := HAT.out.size
     have HBX : Hid (∀ X, Below w.heap.size w (wr.alloc X)) := fun X => HAT2.out.bel.alloc (by omega) X
     have HZX : Hid (∀ X, (wr.alloc X).heap.size = wr.heap.size + 1) := fun X => by simp
     have HDOA : Hid (∀ X, Calls Tryz.prog 41 #[.agg (vS sk yc yt yo (.slice A4'' n4'' k4'') (.slice A5'' n5'' k5'') (.slice A6'' n6'' k6'')), .agg #[.int .i64 (a.kind : Int), .int .i32 a.r, .int .u8 (a.b : Int), .int .u8 (a.priv : Int), .slice AP a.params.length kP, .slice AI a.inter.length kI]] (wr.alloc X) (PsPost (w.heap.size + 1 + 1) yc yt yo (doS sk a) (wr.alloc X))) := by
      intro X
      refine pdo_any sk r c yc yt yo A4'' A5'' A6'' n4'' n5'' n6'' k4'' k5'' k6'' (w.heap.size + 1 + 1) (wr.alloc X) ?_ (HAT2.out.ps.alloc X) { HAT2.out.inn with wrap := fun e => by cases e } a AP AI kP kI u1 u2 u3 u4 (fun x => (T x ∨ w5.heap.size ≤ x) ∧ x < wc.heap.size) (fun x hx => ?_) (fun x hx hy => ?_) (HL1.out.keep (fun q hq => World.cell?_alloc_lt wr X q (by have := hq.2; omega))) HAO.out HKO.out HAT2.out.hw.cells (HSP.out.below HGB.out (HBX.out X)) (Nat.lt_of_lt_of_le HGB.out (HBX.out X).size)
      ·rw [HZX.out]; omega
      ·rw [HZX.out]; have := hx.2; omega
      ·rcases HAT2.out.sub x hy with h1 | h1
       ·exact (HN0.out x hx.1).2 h1
       ·have := hx.2; omega
     have hgl : w.heap.size < wr.heap.size := by omega
     have KS : Hid (∀ X, (wr.alloc X).heap[w.heap.size]? = some (.cells (vS sk yc yt yo (.slice A4'' n4'' k4'') (.slice A5'' n5'' k5'') (.slice A6'' n6'' k6'')) 31)) := fun X => (Below.heap_alloc wr X _ hgl).trans HAT2.out.kS
     clear ha hmem hasr l1 l2 hTb hkeep
     obtain ⟨gc, kyc, gt, kyt, A3y, kyo, rfl, rfl, rfl, -⟩ := HAT2.out.ps.open_ { HAT2.out.inn with wrap := fun e => by cases e }
     go_upto_region 11 with fail
     refine wp_region_lit ?_
     refine wpl_loadS rfl (.tmp 2) rfl rfl (KS.out _) rfl ?_
     clear s0' s1' s2' s3' s4' s5'
     go_wp2_with fail
     ((with_reducible refine (HDOA.out _).mono ?_); rintro e w8 ⟨zc, zt, zo, zp, zi, zu, rfl, hsl, hps, hfr, hsub⟩)
     have hno : ¬ OwB (.slice (some ⟨gc, 0, none⟩) sk.cells.length kyc) (.slice (some ⟨gt, 0, none⟩) sk.tabs.length kyt) (.slice A3y sk.other.length kyo) w.heap.size := fun hx => by have := (HAT2.out.ps.lt _ hx).1; omega
     have k8 := hfr.var (KS.out _) hno
     have hN := HAT2.out.next HAO.out (by omega) hsl hps hfr hsub
     rename_i K hK
     refine hK _ _ ?_
     clear hK K
     refine wpl_storeS rfl (.tmp 2) (.tmp 38) rfl rfl rfl k8 rfl rfl (hps.one hsl) ?_
     generalize World.setRow w8 _ _ = W9 at hN ⊢
     have HN9 := Lib.hid hN
     clear hN k8 hno hsl hps hfr hsub
     go_wp2
     go_roundw
     case rel =>
      refine ⟨k + 1, hlk, by go_num, zc, zt, zo, zp, zi, zu, ?_⟩
      rw [HON2.out]
      exact HN9.out
     case measure => simp [intOf]; omega
    ·obtain rfl : k = acts.length := by omega
     have h5 := HAT.out.size
     have kpr : wr.heap[pb]? = _ := (HAT2.out.fr pb (by have := HPS.out.lo; omega) HPS.out.hi (fun h4 => by have := (HAT.out.own_lt _ h4).2; have := HPS.out.lo; omega)).trans HPS.out.kp
     obtain ⟨kc0, kc1, kc2, kc3, kc4⟩ := parser_cells kpr
     obtain ⟨e19, g19⟩ := cellR (w := wr) HAT2.out.kS 19 rfl
     obtain ⟨e20, g20⟩ := cellR (w := wr) HAT2.out.kS 20 rfl
     obtain ⟨e21, g21⟩ := cellR (w := wr) HAT2.out.kS 21 rfl
     obtain ⟨e22, g22⟩ := cellR (w := wr) HAT2.out.kS 22 rfl
     obtain ⟨e23, g23⟩ := cellR (w := wr) HAT2.out.kS 23 rfl
     rw [List.take_of_length_le (Nat.le_refl _)] at HAT2
     have HNX := Lib.hid (HAT.out.next HPS.out HAT2.out HPO.out)
     clear kpr
     go_wp2
     go_roundw
     case rel =>
      refine ⟨j + 1, hlt, by go_num, ?_⟩
      rw [HON.out, HSTE.out]
      exact ⟨_, _, _, _, _, _, _, HNX.out⟩
     case measure => simp [intOf]; omega
  ·obtain rfl : j = b.length := by omega
   rw [List.take_of_length_le (Nat.le_refl _)] at hat
   have HAT := Lib.hid hat
   have hsz5 := hat.size
   obtain ⟨C1, kc1', rfl, -⟩ := hat.ps.c.cs.form
   obtain ⟨C2, kc2', rfl, -⟩ := hat.ps.t.sl.form
   obtain ⟨C3, kc3', rfl, -⟩ := hat.ps.o.cs.form
   obtain ⟨C4, kc4', rfl, -⟩ := hat.sp.form
   obtain ⟨C5, kc5', rfl, -⟩ := hat.si.form
   obtain ⟨C6, kc6', rfl, -⟩ := hat.su.form
   clear hat
   go_upto_region 15 with fail
   refine wp_region_lit ?_
   refine wpl_loadS rfl (.tmp 2) rfl rfl HAT.out.kS rfl ?_
   refine wpl_storeS rfl (.tmp 4) (.tmp 43) rfl rfl rfl HAT.out.kZ rfl rfl (HAT.out.ps.one sl3) ?_
   go_wp2
   have hno : ¬ OwB _ _ _ (w.heap.size + 1) := fun hx => by have := (HAT.out.own_lt _ hx).1; omega
   refine bodyPost_ret (v := .agg (vS (feedS s b) _ _ _ _ _ _)) (resultS Tryz.results17 rfl (heap_setRow_same HAT.out.kZ) rfl) rfl ?_
   have hk : ∀ (xs : Array Value) (q : Addr), q.block ≠ w.heap.size + 1 → World.cell? (World.setRow w5 (w.heap.size + 1) xs) q = w5.cell? q := fun xs q hq => World.cell?_of_block (heap_setRow_other (fun e => hq e.symm))
   have hssl := fun xs : Array Value => (HAT.out.ps.setRow hno xs).ssl (HAT.out.sp.keep (fun q hq => hk xs q (by have := (HAT.out.far _ hq).1; omega))) (HAT.out.si.keep (fun q hq => hk xs q (by have := (HAT.out.far _ hq).1; omega))) (HAT.out.su.keep (fun q hq => hk xs q (by have := (HAT.out.far _ hq).1; omega))) (fun x hx => by rw [size_setRow]; have := (HAT.out.far x hx).1; omega)
   exact ⟨_, rfl, ⟨_, _, _, _, _, _, rfl, (hssl _).mono (fun x hx => .inr ⟨by have := hx.1; omega, hx.2⟩)⟩, below_setRow HAT.out.bel (by omega) _⟩
end Go.Proofs.YtlolgfgcgfjdjaaGreatDoor

namespace Go.Proofs.YtlolgfgcgfjdjaaGreatDoor
open Go.RowKit
set_option linter.unusedVariables false
set_option linter.unusedSimpArgs false
set_option maxHeartbeats 2000000
set_option maxRecDepth 100000
theorem pNew_yes (r c : Nat) (w : World) (r1 : 1 ≤ r) (r2 : r ≤ 1000) (c1 : 1 ≤ c) (c2 : c ≤ 1000) : Calls Tryz.prog 20 #[.int .i64 (r : Int), .int .i64 (c : Int)] w (NewPost (newS r c) w) := by
 have HR : Hid (∀ W, Calls Tryz.prog 29 #[.int .i64 (r : Int)] W fun e w' => e = .returned (.bool true) ∧ W = w') := fun W => by
  have h := psize_any (r : Int) W
  rw [show sizeB (r : Int) = true from decide_eq_true (by omega)] at h
  exact h
 have HC : Hid (∀ W, Calls Tryz.prog 29 #[.int .i64 (c : Int)] W fun e w' => e = .returned (.bool true) ∧ W = w') := fun W => by
  have h := psize_any (c : Int) W
  rw [show sizeB (c : Int) = true from decide_eq_true (by omega)] at h
  exact h
 have hz1 : (w.alloc (.cells zQ 31)).heap.size = w.heap.size + 1 := by simp
 have HZ1 := Lib.hid hz1
 have HF := Lib.hid (pfresh_any r c (w.alloc (.cells zQ 31)) r1 r2 c1 c2)
 clear hz1
 go_enter Tryz.func20, Tryz.ntmps20
 go_upto_region 3 with (go_at_call 29; (first | refine (HR.out _).mono ?_ | refine (HC.out _).mono ?_); rintro e wq ⟨rfl, rfl⟩)
 refine wp_region_lit ?_
 go_wp2_with fail
 ((with_reducible refine HF.out.mono ?_); rintro e w4 ⟨vc, vt, rfl, hps, hb⟩)
 have k4 := (hb.block w.heap.size (by rw [HZ1.out]; omega)).trans (heap_alloc_new w (.cells zQ 31))
 have hno : ¬ OwB vc vt (.slice none 0 0) w.heap.size := fun hx => by have := (hps.lt _ hx).1; rw [HZ1.out] at this; omega
 have HPS := Lib.hid (hps.setRow hno (vS (newS r c) vc vt (.slice none 0 0) (.slice none 0 0) (.slice none 0 0) (.slice none 0 0)))
 have HBW := Lib.hid (below_setRow ((((Below.refl _ _).alloc (Nat.le_refl _) (.cells zQ 31)).trans (hb.mono (by rw [HZ1.out]; omega))) : Below w.heap.size w w4) (Nat.le_refl _) (vS (newS r c) vc vt (.slice none 0 0) (.slice none 0 0) (.slice none 0 0) (.slice none 0 0)))
 have HK := Lib.hid (heap_setRow_same (xs := vS (newS r c) vc vt (.slice none 0 0) (.slice none 0 0) (.slice none 0 0) (.slice none 0 0)) k4)
 rename_i K hK
 refine hK _ _ ?_
 clear hK K
 refine wpl_storeS rfl (.tmp 4) (.tmp 17) rfl rfl rfl k4 rfl rfl (hps.one sl3) ?_
 generalize World.setRow w4 _ _ = W5 at HPS HBW HK ⊢
 clear k4 hno hps hb
 go_wp2
 refine bodyPost_ret (v := .tuple #[.agg (vS (newS r c) vc vt (.slice none 0 0) (.slice none 0 0) (.slice none 0 0) (.slice none 0 0)), .int .i64 0]) (resultS2 Tryz.results20 rfl rfl HK.out rfl) rfl ?_
 refine ⟨_, rfl, ⟨_, _, _, _, _, _, rfl, ?_⟩, HBW.out⟩
 have h := HPS.out
 rw [HZ1.out] at h
 exact SSl.mono (S := NewB W5 (w.heap.size + 1)) ⟨h.c.cl, h.t.sl, h.o.cl, SL.nil _ _ _, SL.nil _ _ _, SL.nil _ _ _⟩ (fun x hx => ⟨by have := hx.1; omega, hx.2⟩)
def NewNo (w : World) (e : Ending) (w' : World) : Prop := e = .returned (.tuple #[.agg zQ, .int .i64 26]) ∧ Below w.heap.size w w'
theorem pNew_no (rows cols : Int) (w : World) (h : ¬ ((1 ≤ rows ∧ rows ≤ 1000) ∧ (1 ≤ cols ∧ cols ≤ 1000))) : Calls Tryz.prog 20 #[.int .i64 rows, .int .i64 cols] w (NewNo w) := by
 have hb1 : Below w.heap.size w (w.alloc (.cells zQ 31)) := (Below.refl _ _).alloc (Nat.le_refl _) _
 have HB1 := Lib.hid hb1
 have k1 := heap_alloc_new w (.cells zQ 31)
 have HK1 := Lib.hid k1
 clear hb1 k1
 by_cases hr : 1 ≤ rows ∧ rows ≤ 1000
 ·have hc : ¬ (1 ≤ cols ∧ cols ≤ 1000) := fun g => h ⟨hr, g⟩
  have HR : Hid (∀ W, Calls Tryz.prog 29 #[.int .i64 rows] W fun e w' => e = .returned (.bool true) ∧ W = w') := fun W => by
   have h := psize_any rows W
   rw [show sizeB rows = true from decide_eq_true hr] at h
   exact h
  have HC : Hid (∀ W, Calls Tryz.prog 29 #[.int .i64 cols] W fun e w' => e = .returned (.bool false) ∧ W = w') := fun W => by
   have h := psize_any cols W
   rw [show sizeB cols = false from decide_eq_false hc] at h
   exact h
  clear h hr hc
  go_enter Tryz.func20, Tryz.ntmps20
  go_upto_region 2 with (go_at_call 29; (first | refine (HR.out _).mono ?_ | refine (HC.out _).mono ?_); rintro e wq ⟨rfl, rfl⟩)
  refine wp_region_lit ?_
  refine wpList_plain rfl fun K hK => ?_
  go_simp
  refine hK _ _ ?_
  clear hK K
  refine wpl_storeS rfl (.tmp 4) (.tmp 14) rfl rfl rfl HK1.out rfl rfl (all24 rfl rfl rfl rfl rfl rfl rfl rfl rfl rfl rfl rfl rfl rfl rfl rfl rfl rfl rfl rfl rfl rfl rfl rfl) ?_
  have HB2 := Lib.hid (below_setRow HB1.out (Nat.le_refl _) (zQ))
  have HK2 := Lib.hid (heap_setRow_same (xs := zQ) HK1.out)
  generalize World.setRow _ _ _ = W5 at HB2 HK2 ⊢
  go_wp2
  exact bodyPost_ret (v := .tuple #[.agg zQ, .int .i64 26]) (resultS2 Tryz.results20 rfl rfl HK2.out rfl) rfl ⟨rfl, HB2.out⟩
 ·have HR : Hid (∀ W, Calls Tryz.prog 29 #[.int .i64 rows] W fun e w' => e = .returned (.bool false) ∧ W = w') := fun W => by
   have h := psize_any rows W
   rw [show sizeB rows = false from decide_eq_false hr] at h
   exact h
  clear h hr
  go_enter Tryz.func20, Tryz.ntmps20
  go_upto_region 2 with (go_at_call 29; refine (HR.out _).mono ?_; rintro e wq ⟨rfl, rfl⟩)
  refine wp_region_lit ?_
  refine wpList_plain rfl fun K hK => ?_
  go_simp
  refine hK _ _ ?_
  clear hK K
  refine wpl_storeS rfl (.tmp 4) (.tmp 14) rfl rfl rfl HK1.out rfl rfl (all24 rfl rfl rfl rfl rfl rfl rfl rfl rfl rfl rfl rfl rfl rfl rfl rfl rfl rfl rfl rfl rfl rfl rfl rfl) ?_
  have HB2 := Lib.hid (below_setRow HB1.out (Nat.le_refl _) (zQ))
  have HK2 := Lib.hid (heap_setRow_same (xs := zQ) HK1.out)
  generalize World.setRow _ _ _ = W5 at HB2 HK2 ⊢
  go_wp2
  exact bodyPost_ret (v := .tuple #[.agg zQ, .int .i64 26]) (resultS2 Tryz.results20 rfl rfl HK2.out rfl) rfl ⟨rfl, HB2.out⟩
end Go.Proofs.YtlolgfgcgfjdjaaGreatDoor

namespace Go.Proofs.YtlolgfgcgfjdjaaGreatDoor
open Go.RowKit
set_option linter.unusedVariables false
set_option linter.unusedSimpArgs false
set_option maxHeartbeats 2000000
set_option maxRecDepth 100000
theorem prowC_any (s : Sc) (r c : Nat) (vc vt vo vp vi vu : Value) (S : Nat → Prop) (w : World) (hS : ∀ x, S x → x < w.heap.size) (hs : SSl w S s vc vt vo vp vi vu) (hi : ScIn s r c) (y : Nat) (hy : y < r) : Calls Tryz.prog 51 #[.agg (vS s vc vt vo vp vi vu), .int .i64 (y : Int)] w fun e w' => ∃ A n k, e = .returned (.slice A n k) ∧ CS w' w'.heap.size (.slice A n k) (rowL s.cells c y) ∧ Below w.heap.size w w' := by
 have HCS := Lib.hid (show CS w w.heap.size vc s.cells from hs.1.cs hS)
 obtain ⟨g1, g2, g3, g4, g5, g6⟩ := hs
 obtain ⟨A1, k1, rfl, p1, q1⟩ := g1.form
 obtain ⟨A2, k2, rfl, p2, q2⟩ := g2.form
 obtain ⟨A3, k3, rfl, p3, q3⟩ := g3.form
 obtain ⟨A4, k4, rfl, p4, q4⟩ := g4.form
 obtain ⟨A5, k5, rfl, p5, q5⟩ := g5.form
 obtain ⟨A6, k6, rfl, p6, q6⟩ := g6.form
 clear g1 g2 g3 g4 g5 g6 hS
 have hr1 := hi.g.r1
 have hr2 := hi.g.r2
 have hc1 := hi.g.c1
 have hc2 := hi.g.c2
 have hn : s.cells.length = r * c := hi.g.n
 have hl6 : s.cells.length ≤ 1000000 := by rw [hn]; exact rc_le hr2 hc2
 have HR := Lib.hid (show s.rows = r from hi.rows)
 have HCO := Lib.hid (show s.cols = c from hi.cols)
 obtain ⟨x0, hx0⟩ : ∃ x, s.cells[0]? = some x := ⟨_, List.getElem?_eq_getElem (by rw [hn]; exact Nat.mul_pos hr1 hc1)⟩
 obtain ⟨ad, hA, -⟩ := HCS.out.get 0 x0 hx0
 subst hA
 obtain ⟨p, hp⟩ : ∃ p, p = y * c := ⟨_, rfl⟩
 have he := row_end (c := c) hy
 rw [← hn, ← hp] at he
 have hq1 : (y : Int) * (c : Int) = (p : Int) := by rw [hp]; simp
 have hq2 : ((y : Int) + 1) * (c : Int) = (p : Int) + (c : Int) := by rw [Int.add_mul, Int.one_mul, hq1]
 have hne : ¬ k1 = p := by omega
 have hyb : y ≤ 1000 := by omega
 have HP := Lib.hid hp
 have HE := Lib.hid he
 have k0 := heap_alloc_new w (.cells (vS s (.slice (some ad) s.cells.length k1) (.slice A2 s.tabs.length k2) (.slice A3 s.other.length k3) (.slice A4 s.p.params.length k4) (.slice A5 s.p.inter.length k5) (.slice A6 s.p.utf.length k6)) 31)
 obtain ⟨e0, -⟩ := cellR (v := .int .i64 s.rows) k0 0 rfl
 obtain ⟨e1, -⟩ := cellR (v := .int .i64 s.cols) k0 1 rfl
 obtain ⟨e2, -⟩ := cellR (v := .slice (some ad) s.cells.length k1) k0 2 rfl
 rw [HR.out] at e0
 rw [HCO.out] at e1
 have K0 := Lib.hid k0
 clear k0
 clear hn hp hx0 hi
 go_enter Tryz.func51, Tryz.ntmps51
 go_wp2
 go_ret
 have h := HCS.out.cut p c (p + c - p) HE.out (by omega)
 rw [if_neg hne] at h
 refine ⟨_, _, _, rfl, ?_, (Below.refl _ _).alloc (Nat.le_refl _) _⟩
 unfold rowL
 rw [← HP.out]
 exact (h.alloc (Nat.le_refl _) _).more (by simp)
theorem pRow_yes (s : Sc) (r c : Nat) (vc vt vo vp vi vu : Value) (S : Nat → Prop) (w : World) (hS : ∀ x, S x → x < w.heap.size) (hs : SSl w S s vc vt vo vp vi vu) (hi : ScIn s r c) (y : Nat) (hy : y < r) : Calls Tryz.prog 24 #[.agg (vS s vc vt vo vp vi vu), .int .i64 (y : Int)] w fun e w' => ∃ v, e = .returned v ∧ OC w' w.heap.size v (rowL s.cells c y) ∧ Below w.heap.size w w' := by
 have HRO := Lib.hid (fun (W : World) (hW : Below w.heap.size w W) => prowC_any s r c vc vt vo vp vi vu S W (fun x hx => Nat.lt_of_lt_of_le (hS x hx) hW.size) (hs.below hS hW) hi y hy)
 have HCS := Lib.hid (show CS w w.heap.size vc s.cells from hs.1.cs hS)
 obtain ⟨g1, g2, g3, g4, g5, g6⟩ := hs
 obtain ⟨A1, k1, rfl, p1, q1⟩ := g1.form
 obtain ⟨A2, k2, rfl, p2, q2⟩ := g2.form
 obtain ⟨A3, k3, rfl, p3, q3⟩ := g3.form
 obtain ⟨A4, k4, rfl, p4, q4⟩ := g4.form
 obtain ⟨A5, k5, rfl, p5, q5⟩ := g5.form
 obtain ⟨A6, k6, rfl, p6, q6⟩ := g6.form
 clear g1 g2 g3 g4 g5 g6 hS
 have hr1 := hi.g.r1
 have hr2 := hi.g.r2
 have hc1 := hi.g.c1
 have hc2 := hi.g.c2
 have hn : s.cells.length = r * c := hi.g.n
 have hl6 : s.cells.length ≤ 1000000 := by rw [hn]; exact rc_le hr2 hc2
 have HR := Lib.hid (show s.rows = r from hi.rows)
 have HCO := Lib.hid (show s.cols = c from hi.cols)
 have HSR : Hid (∀ W, Calls Tryz.prog 29 #[.int .i64 (r : Int)] W fun e w' => e = .returned (.bool true) ∧ W = w') := fun W => by
  have h := psize_any (r : Int) W
  rw [show sizeB (r : Int) = true from decide_eq_true (by omega)] at h
  exact h
 have HSC : Hid (∀ W, Calls Tryz.prog 29 #[.int .i64 (c : Int)] W fun e w' => e = .returned (.bool true) ∧ W = w') := fun W => by
  have h := psize_any (c : Int) W
  rw [show sizeB (c : Int) = true from decide_eq_true (by omega)] at h
  exact h
 have hrc : (r : Int) * (c : Int) = ((s.cells.length : Nat) : Int) := by rw [hn, Int.natCast_mul]
 have hwr : IntKind.i64.wrap ((r : Int) * (c : Int)) = ((s.cells.length : Nat) : Int) := by rw [hrc, IntKind.wrap_i64]; omega
 have hee : (((s.cells.length : Nat) : Int) == ((s.cells.length : Nat) : Int)) = true := beq_iff_eq.2 rfl
 have k0 := heap_alloc_new w (.cells (vS s (.slice A1 s.cells.length k1) (.slice A2 s.tabs.length k2) (.slice A3 s.other.length k3) (.slice A4 s.p.params.length k4) (.slice A5 s.p.inter.length k5) (.slice A6 s.p.utf.length k6)) 31)
 obtain ⟨e0, -⟩ := cellR (v := .int .i64 s.rows) k0 0 rfl
 obtain ⟨e1, -⟩ := cellR (v := .int .i64 s.cols) k0 1 rfl
 obtain ⟨e2, -⟩ := cellR (v := .slice A1 s.cells.length k1) k0 2 rfl
 rw [HR.out] at e0
 rw [HCO.out] at e1
 have K0 := Lib.hid k0
 clear k0
 have HRL := Lib.hid (show (rowL s.cells c y).length ≤ 1048576 by rw [rowL_len hi.g hy]; omega)
 have hyi : (y : Int) < (r : Int) := by omega
 clear hn hi
 go_enter Tryz.func24, Tryz.ntmps24
 go_upto_region 4 with (go_at_call 29; (first | refine (HSR.out _).mono ?_ | refine (HSC.out _).mono ?_); rintro e wq ⟨rfl, rfl⟩)
 refine wp_region_lit ?_
 refine wpl_loadS rfl (.tmp 2) rfl rfl K0.out rfl ?_
 go_wp2_with fail
 ((with_reducible refine (HRO.out _ ((Below.refl _ _).alloc (Nat.le_refl _) _)).mono ?_); rintro e w3 ⟨A, n, k, rfl, h3, b3⟩)
 have HB3 := Lib.hid (((Below.refl w.heap.size w).alloc (Nat.le_refl _) (.cells (vS s (.slice A1 s.cells.length k1) (.slice A2 s.tabs.length k2) (.slice A3 s.other.length k3) (.slice A4 s.p.params.length k4) (.slice A5 s.p.inter.length k5) (.slice A6 s.p.utf.length k6)) 31)).trans (b3.mono (by simp)))
 have HCL := Lib.hid (cloneC_any _ _ w3 h3 HRL.out)
 clear b3 h3 e0 e1 e2
 rename_i K hK
 refine hK _ _ ?_
 clear hK K
 go_wp2_with fail
 ((with_reducible refine HCL.out.mono ?_); rintro e w4 ⟨v4, rfl, h4, b4⟩)
 have HB4 := Lib.hid (HB3.out.trans (b4.mono HB3.out.size))
 have HO4 := Lib.hid (h4.lower HB3.out.size)
 clear h4 b4
 rename_i K hK
 refine hK _ _ ?_
 clear hK K
 go_wp2
 go_ret
 exact ⟨_, rfl, HO4.out, HB4.out⟩
end Go.Proofs.YtlolgfgcgfjdjaaGreatDoor

namespace Go.Proofs.YtlolgfgcgfjdjaaGreatDoor
open Go.RowKit
set_option linter.unusedVariables false
set_option linter.unusedSimpArgs false
set_option maxHeartbeats 400000
set_option maxRecDepth 100000
def Far (V : List Nat) (w : World) (x : Nat) : Prop := x < w.heap.size ∧ x ∉ V
theorem ltB {w : World} {b : Nat} {o : Obj} (h : w.heap[b]? = some o) : b < w.heap.size := by
 rcases Nat.lt_or_ge b w.heap.size with c | c
 ·exact c
 ·rw [Array.getElem?_eq_none c] at h; cases h
theorem alloc_new (w : World) (o : Obj) : (w.alloc o).heap[w.heap.size]? = some o := by
 show (w.heap.push o)[w.heap.size]? = _
 simp
theorem alloc_size (w : World) (o : Obj) : (w.alloc o).heap.size = w.heap.size + 1 := by simp
structure Held (V : List Nat) (w : World) (g : Nat) (s : Sc) (vc vt vo vp vi vu : Value) : Prop where
 blk : w.heap[g]? = some (.cells (vS s vc vt vo vp vi vu) 31)
 sl : SSl w (Far V w) s vc vt vo vp vi vu
 lt : ∀ x ∈ V, x < w.heap.size
section
variable {V : List Nat} {w w' w1 : World} {g g' : Nat} {s s0 : Sc} {vc vt vo vp vi vu uc ut uo up ui uu : Value}
theorem far_below (hV : ∀ x ∈ V, x < w.heap.size) (hb : Below w.heap.size w w') {x : Nat} (h : Far V w x) : Far V w' x := ⟨Nat.lt_of_lt_of_le h.1 hb.size, h.2⟩
theorem far_since (hV : ∀ x ∈ V, x < w.heap.size) (hb : Below w.heap.size w w') {x : Nat} (h : Since (Far V w) w w' x) : Far V w' x := by
 rcases h with h | h
 ·exact far_below hV hb h
 ·exact ⟨h.2, fun hx => by have := hV x hx; have := h.1; omega⟩
theorem Held.below (h : Held V w g s vc vt vo vp vi vu) (hb : Below w.heap.size w w') : Held V w' g s vc vt vo vp vi vu :=
 ⟨(hb.block g (ltB h.blk)).trans h.blk, (h.sl.below (fun x hx => hx.1) hb).mono fun x hx => far_below h.lt hb hx, fun x hx => Nat.lt_of_lt_of_le (h.lt x hx) hb.size⟩
theorem Held.drew (h : Held V w g s vc vt vo vp vi vu) : Held V w.drew g s vc vt vo vp vi vu := ⟨h.blk, h.sl, h.lt⟩
theorem Held.scv (h : Held V w g s vc vt vo vp vi vu) : SCV w (Far V w) (.agg (vS s vc vt vo vp vi vu)) s := ⟨_, _, _, _, _, _, rfl, h.sl⟩
theorem Held.cell (h : Held V w g s vc vt vo vp vi vu) (i : Nat) {v : Value} (hv : (vS s vc vt vo vp vi vu)[i]? = some v) : w.cell? ⟨g, i, none⟩ = some v := (cellR h.blk i hv).1
theorem held_new (hV : ∀ x ∈ V, x < w1.heap.size) (hs : SSl w1 (Far V w1) s vc vt vo vp vi vu) (Z : Array Value) :
  Held (w1.heap.size :: V) ((w1.alloc (.cells Z 31)).setRow w1.heap.size (vS s vc vt vo vp vi vu)) w1.heap.size s vc vt vo vp vi vu := by
 have k := alloc_new w1 (.cells Z 31)
 have z : ((w1.alloc (.cells Z 31)).setRow w1.heap.size (vS s vc vt vo vp vi vu)).heap.size = w1.heap.size + 1 := by rw [size_setRow, alloc_size]
 have o : ∀ b, b < w1.heap.size → ((w1.alloc (.cells Z 31)).setRow w1.heap.size (vS s vc vt vo vp vi vu)).heap[b]? = w1.heap[b]? := fun b hb => by rw [heap_setRow_other (by omega)]; exact Below.heap_alloc w1 _ b hb
 refine ⟨heap_setRow_same k, (hs.keep fun q hq => World.cell?_of_block (o _ hq.1)).mono fun x hx => ⟨by rw [z]; exact Nat.lt_succ_of_lt hx.1, ?_⟩, fun x hx => ?_⟩
 ·intro hm
  rcases List.mem_cons.1 hm with e | e
  ·have := hx.1; omega
  ·exact hx.2 e
 ·rw [z]
  rcases List.mem_cons.1 hx with e | e
  ·omega
  ·have := hV x e; omega
theorem Held.new (h : Held V w g s vc vt vo vp vi vu) (Z : Array Value) (xs : Array Value) : Held (w.heap.size :: V) ((w.alloc (.cells Z 31)).setRow w.heap.size xs) g s vc vt vo vp vi vu := by
 have hg := ltB h.blk
 have z : ((w.alloc (.cells Z 31)).setRow w.heap.size xs).heap.size = w.heap.size + 1 := by rw [size_setRow, alloc_size]
 have o : ∀ b, b < w.heap.size → ((w.alloc (.cells Z 31)).setRow w.heap.size xs).heap[b]? = w.heap[b]? := fun b hb => by rw [heap_setRow_other (by omega)]; exact Below.heap_alloc w _ b hb
 refine ⟨(o g hg).trans h.blk, (h.sl.keep fun q hq => World.cell?_of_block (o _ hq.1)).mono fun x hx => ⟨by rw [z]; exact Nat.lt_succ_of_lt hx.1, ?_⟩, fun x hx => ?_⟩
 ·intro hm
  rcases List.mem_cons.1 hm with e | e
  ·have := hx.1; omega
  ·exact hx.2 e
 ·rw [z]
  rcases List.mem_cons.1 hx with e | e
  ·omega
  ·have := h.lt x e; omega
theorem held_store (h : Held V w g s0 uc ut uo up ui uu) (hg : g ∈ V) (hs : SSl w (Far V w) s vc vt vo vp vi vu) : Held V (w.setRow g (vS s vc vt vo vp vi vu)) g s vc vt vo vp vi vu :=
 ⟨heap_setRow_same h.blk, (hs.keep fun q hq => World.cell?_of_block (heap_setRow_other (fun e => hq.2 (by rw [← e]; exact hg)))).mono fun x hx => ⟨by rw [size_setRow]; exact hx.1, hx.2⟩, fun x hx => by rw [size_setRow]; exact h.lt x hx⟩
theorem Held.store (h : Held V w g s vc vt vo vp vi vu) (hg : g' ∈ V) (hne : g' ≠ g) (xs : Array Value) : Held V (w.setRow g' xs) g s vc vt vo vp vi vu :=
 ⟨(heap_setRow_other hne).trans h.blk, (h.sl.keep fun q hq => World.cell?_of_block (heap_setRow_other (fun e => hq.2 (by rw [← e]; exact hg)))).mono fun x hx => ⟨by rw [size_setRow]; exact hx.1, hx.2⟩, fun x hx => by rw [size_setRow]; exact h.lt x hx⟩
theorem Held.one (h : Held V w g s vc vt vo vp vi vu) : (vS s vc vt vo vp vi vu).all (·.oneCell') = true := h.sl.one
theorem SSl.forms {S : Nat → Prop} (h : SSl w S s vc vt vo vp vi vu) : ∃ A1 k1 A2 k2 A3 k3 A4 k4 A5 k5 A6 k6, vc = .slice A1 s.cells.length k1 ∧ vt = .slice A2 s.tabs.length k2 ∧ vo = .slice A3 s.other.length k3 ∧ vp = .slice A4 s.p.params.length k4 ∧ vi = .slice A5 s.p.inter.length k5 ∧ vu = .slice A6 s.p.utf.length k6 := by
 obtain ⟨g1, g2, g3, g4, g5, g6⟩ := h
 obtain ⟨A1, k1, e1, -⟩ := g1.form
 obtain ⟨A2, k2, e2, -⟩ := g2.form
 obtain ⟨A3, k3, e3, -⟩ := g3.form
 obtain ⟨A4, k4, e4, -⟩ := g4.form
 obtain ⟨A5, k5, e5, -⟩ := g5.form
 obtain ⟨A6, k6, e6, -⟩ := g6.form
 exact ⟨A1, k1, A2, k2, A3, k3, A4, k4, A5, k5, A6, k6, e1, e2, e3, e4, e5, e6⟩
end
@[reducible] def zS : Array Value := zQ
end Go.Proofs.YtlolgfgcgfjdjaaGreatDoor

namespace Go.Proofs.YtlolgfgcgfjdjaaGreatDoor
set_option linter.unusedVariables false
set_option linter.unusedSimpArgs false
set_option maxHeartbeats 400000
set_option maxRecDepth 100000
theorem feedS_cons (s : Sc) (b : UInt8) (l : List UInt8) : feedS s (b :: l) = feedS (stepS s b) l := rfl
def Sc.par (s : Sc) (q : Pr) : Sc := { s with p := q }
theorem downS_par (s : Sc) (q : Pr) : downS (s.par q) = (downS s).par q := by
 show (if s.y = s.bottom then _ else if s.y < s.rows - 1 then _ else _) = _
 unfold downS
 split
 ·rfl
 ·split <;> rfl
theorem crS_par (s : Sc) (q : Pr) : crS (s.par q) = (crS s).par q := by unfold crS; rw [downS_par]; rfl
theorem wrapS_par (s : Sc) (q : Pr) : wrapS (s.par q) = (wrapS s).par q := by
 show (if s.wrap = true then crS (s.par q) else s.par q) = _
 unfold wrapS
 rw [crS_par]
 split <;> rfl
theorem putS_par (s : Sc) (q : Pr) (r w : Int) : putS (s.par q) r w = (putS s r w).par q := by
 show (if s.cols ≤ s.x + w then _ else _) = _
 unfold putS
 split <;> rfl
theorem printS_par (s : Sc) (q : Pr) (r : Int) : printS (s.par q) r = (printS s r).par q := by
 unfold printS
 rw [wrapS_par, crS_par, putS_par, putS_par]
 split
 ·rfl
 ·show (if widthL r = 2 ∧ (wrapS s).x = (wrapS s).cols - 1 then (if (wrapS s).auto = false ∨ (wrapS s).cols = 1 then _ else _) else _) = _
  split
  ·split <;> rfl
  ·rfl
theorem controlS_par (s : Sc) (q : Pr) (b : Nat) : controlS (s.par q) b = (controlS s b).par q := by
 unfold controlS
 rw [downS_par]
 split
 ·rfl
 ·split
  ·rfl
  ·split
   ·rfl
   ·split <;> rfl
theorem modeS_par (s : Sc) (q : Pr) (k : Int) (on : Bool) : modeS (s.par q) k on = (modeS s k on).par q := by
 show (if k = 7 then _ else if k = 25 then _ else if k = 1049 ∧ on = true ∧ s.alt = false then _ else if k = 1049 ∧ on = false ∧ s.alt = true then _ else _) = _
 unfold modeS
 split
 ·rfl
 ·split
  ·rfl
  ·split
   ·rfl
   ·split <;> rfl
theorem foldl_mode_par (l : List Int) (on : Bool) (q : Pr) : ∀ s : Sc, l.foldl (fun s k => modeS s k on) (s.par q) = (l.foldl (fun s k => modeS s k on) s).par q := by
 induction l with
 | nil => intro s; rfl
 | cons k l ih => intro s; show l.foldl _ (modeS (s.par q) k on) = _; rw [modeS_par]; exact ih _
theorem eraseS_par (s : Sc) (q : Pr) (row : Bool) (k : Int) : eraseS (s.par q) row k = (eraseS s row k).par q := by
 unfold eraseS
 split <;> rfl
theorem seqS_par (s : Sc) (q : Pr) (b : Nat) (l : List Int) : seqS (s.par q) b l = (seqS s b l).par q := by
 unfold seqS
 simp only [eraseS_par]
 simp only [apply_ite (fun s => Sc.par s q)]
 rfl
theorem doS_par (s : Sc) (q q' : Pr) (a : Ac) : (doS (s.par q) a).par q' = (doS s a).par q' := by
 unfold doS
 rw [printS_par, controlS_par, foldl_mode_par, seqS_par]
 split
 ·rfl
 ·split
  ·rfl
  ·split
   ·split
    ·unfold escapeS
     rw [downS_par, crS_par]
     split
     ·rfl
     ·split
      ·rfl
      ·split
       ·rfl
       ·split
        ·rfl
        ·split
         ·show (if s.y = s.top then _ else if 0 < s.y then _ else _ : Sc).par q' = _
          split
          ·rfl
          ·split <;> rfl
         ·split
          ·rfl
          ·split <;> rfl
    ·rfl
   ·split
    ·split
     ·rfl
     ·split
      ·rfl
      ·split <;> rfl
    ·rfl
theorem foldl_do_par (l : List Ac) (q' : Pr) : ∀ (s : Sc) (q : Pr), (l.foldl doS (s.par q)).par q' = (l.foldl doS s).par q' := by
 induction l with
 | nil => intro s q; rfl
 | cons a l ih =>
  intro s q
  show (l.foldl doS (doS (s.par q) a)).par q' = (l.foldl doS (doS s a)).par q'
  rw [← ih (doS (s.par q) a) q', ← ih (doS s a) q', doS_par]
theorem feedS_acts (l : List UInt8) : ∀ s : Sc, feedS s l = ((vtAll s.p l).2.foldl doS s).par (vtAll s.p l).1 := by
 suffices h : ∀ (l : List UInt8) (s : Sc) (p : Pr) (o : List Ac), feedS ((o.foldl doS s).par p) l = ((l.foldl (fun (s : Pr × List Ac) b => ((vtL s.1 b).1, s.2 ++ (vtL s.1 b).2)) (p, o)).2.foldl doS s).par (l.foldl (fun (s : Pr × List Ac) b => ((vtL s.1 b).1, s.2 ++ (vtL s.1 b).2)) (p, o)).1 by
  intro s
  exact h l s s.p []
 intro l
 induction l with
 | nil => intro s p o; rfl
 | cons b l ih =>
  intro s p o
  rw [feedS_cons]
  have e : stepS ((o.foldl doS s).par p) b = ((o ++ (vtL p b).2).foldl doS s).par (vtL p b).1 := by
   show ((vtL p b).2.foldl doS ((o.foldl doS s).par p)).par (vtL p b).1 = _
   rw [foldl_do_par, List.foldl_append]
  rw [e]
  exact ih s (vtL p b).1 (o ++ (vtL p b).2)
end Go.Proofs.YtlolgfgcgfjdjaaGreatDoor

namespace Go.Proofs.YtlolgfgcgfjdjaaGreatDoor
open Go.RowKit
set_option linter.unusedVariables false
set_option linter.unusedSimpArgs false
set_option maxHeartbeats 400000
set_option maxRecDepth 100000
theorem wpl_loadW {w : World} {ops : Array Oper} {rest : List Oper} {o : Oper} {a : Act} {Q : Exit → Act → World → Prop} (hw : Region.wanted o (yielded ops a.tmps) = true) (x : Operand) (ho : o.op = .load 31 x) {g : Nat} {xs : Array Value} (hx : a.eval x = .pointer (some ⟨g, 0, none⟩))
  (hg : w.heap[g]? = some (.cells xs 31)) (hn : xs.size = 24) (h : wpList Tryz.prog ops Q rest (a.put o.dst (.agg xs)) w) : wpList Tryz.prog ops Q (o :: rest) a w := by
 refine wpList_step fun K hK => ?_
 rw [if_pos hw]
 unfold Oper.wp execOp
 simp only [ho, hx, Sem.run_bind, run_loadS hg hn, Result.andThen_ok, Sem.run_pure]
 exact hK _ _ h
theorem feedHeld {V : List Nat} {w w1 : World} {g r c : Nat} {s : Sc} {vc vt vo vp vi vu bv : Value} {b : List UInt8} (h : Held V w g s vc vt vo vp vi vu) (hi : ScIn s r c) (hw : ScW s r c) (hsp : Spans w) (hgb : 0 < w.heap.size) (h1 : Below w.heap.size w w1) (hb : BS w1 w1.heap.size bv b) (hl : b.length ≤ 1048576) :
  Calls Tryz.prog 17 #[.agg (vS s vc vt vo vp vi vu), bv] w1 fun e w' => ∃ uc ut uo up ui uu, e = .returned (.agg (vS (feedS s b) uc ut uo up ui uu)) ∧ SSl w' (Far V w') (feedS s b) uc ut uo up ui uu ∧ Below w1.heap.size w1 w' := by
 have h2 := h.below h1
 refine (pfeed_any _ bv s b r c (Far V w1) w1 (fun x hx => hx.1) h2.scv hi hw hb (by omega) (hsp.below hgb h1) (Nat.lt_of_lt_of_le hgb h1.size)).mono ?_
 rintro e w' ⟨v, rfl, ⟨uc, ut, uo, up, ui, uu, rfl, hs⟩, hb2⟩
 exact ⟨uc, ut, uo, up, ui, uu, rfl, hs.mono (fun x hx => far_since h2.lt hb2 hx), hb2⟩
theorem SSl.far {V : List Nat} {w w1 : World} {s : Sc} {vc vt vo vp vi vu : Value} (hV : ∀ x ∈ V, x < w.heap.size) (hs : SSl w (Far V w) s vc vt vo vp vi vu) (h1 : Below w.heap.size w w1) : SSl w1 (Far V w1) s vc vt vo vp vi vu := (hs.below (fun x hx => hx.1) h1).mono fun x hx => far_below hV h1 hx
theorem rightHeld {S : Nat → Prop} {w : World} {r c : Nat} {s : Sc} {vc vt vo vp vi vu : Value} (hS : ∀ x, S x → x < w.heap.size) (h : SSl w S s vc vt vo vp vi vu) (hi : ScIn s r c) (hw : ScW s r c) :
  Calls Tryz.prog 14 #[.agg (vS s vc vt vo vp vi vu)] w fun e w' => e = .returned (.bool true) ∧ Below w.heap.size w w' := by
 refine (pRight_any (s.p.mode : Int) s vc vt vo vp vi vu S w hS h (fitS_in hi)).mono ?_
 rintro e w' ⟨b, rfl, hb, hb2⟩
 rw [hb.2 (rightS_in hi hw)]
 exact ⟨rfl, hb2⟩
structure One (w0 W : World) (g : Nat) (s : Sc) (r c : Nat) (vc vt vo vp vi vu : Value) : Prop where
 held : Held [g] W g s vc vt vo vp vi vu
 inn : ScIn s r c
 hw : ScW s r c
 bel : Below w0.heap.size w0 W
 lo : w0.heap.size ≤ g
section
variable {w0 W W' : World} {g r c : Nat} {s : Sc} {vc vt vo vp vi vu uc ut uo up ui uu bv : Value} {b : List UInt8}
theorem One.below (h : One w0 W g s r c vc vt vo vp vi vu) (hb : Below W.heap.size W W') : One w0 W' g s r c vc vt vo vp vi vu :=
 ⟨h.held.below hb, h.inn, h.hw, h.bel.trans (hb.mono h.bel.size), h.lo⟩
theorem One.drew (h : One w0 W g s r c vc vt vo vp vi vu) : One w0 W.drew g s r c vc vt vo vp vi vu := ⟨h.held.drew, h.inn, h.hw, h.bel.drew, h.lo⟩
def FedOne (w0 : World) (g : Nat) (s : Sc) (r c : Nat) (old : Array Value) (e : Ending) (w' : World) : Prop :=
 ∃ uc ut uo up ui uu, e = .returned (.agg (vS s uc ut uo up ui uu)) ∧ w'.heap[g]? = some (.cells old 31) ∧ (vS s uc ut uo up ui uu).all (·.oneCell') = true ∧ One w0 (w'.setRow g (vS s uc ut uo up ui uu)) g s r c uc ut uo up ui uu
theorem One.feed (h : One w0 W g s r c vc vt vo vp vi vu) (hsp : Spans w0) (hgb : 0 < w0.heap.size) (h1 : Below W.heap.size W W') (hb : BS W' W'.heap.size bv b) (hl : b.length ≤ 1048576) :
  Calls Tryz.prog 17 #[.agg (vS s vc vt vo vp vi vu), bv] W' (FedOne w0 g (feedS s b) r c (vS s vc vt vo vp vi vu)) := by
 refine (feedHeld h.held h.inn h.hw (hsp.below hgb h.bel) (Nat.lt_of_lt_of_le hgb h.bel.size) h1 hb hl).mono ?_
 rintro e w' ⟨uc, ut, uo, up, ui, uu, rfl, hs, hb2⟩
 have h2 := (h.held.below h1).below hb2
 have hbel : Below w0.heap.size w0 w' := h.bel.trans ((h1.trans (hb2.mono h1.size)).mono h.bel.size)
 exact ⟨uc, ut, uo, up, ui, uu, rfl, h2.blk, hs.one, held_store h2 (by simp) hs, feedS_in b h.inn, feedS_w b h.inn h.hw, below_setRow hbel h.lo _, h.lo⟩
def LaidOne (w0 : World) (s : Sc) (r c : Nat) (e : Ending) (w' : World) : Prop :=
 ∃ uc ut uo up ui uu, e = .returned (.agg (vS s uc ut uo up ui uu)) ∧ (w'.alloc (.cells zS 31)).heap[w'.heap.size]? = some (.cells zS 31) ∧ (vS s uc ut uo up ui uu).all (·.oneCell') = true ∧ One w0 ((w'.alloc (.cells zS 31)).setRow w'.heap.size (vS s uc ut uo up ui uu)) w'.heap.size s r c uc ut uo up ui uu
theorem laidOne {w1 : World} (hb : Below w0.heap.size w0 w1) (hs : SSl w1 (NewB w1 w0.heap.size) s uc ut uo up ui uu) (hi : ScIn s r c) (hw : ScW s r c) : LaidOne w0 s r c (.returned (.agg (vS s uc ut uo up ui uu))) w1 := by
 have hh := held_new (V := []) (w1 := w1) (by simp) (hs.mono (S' := Far [] w1) (fun x hx => ⟨hx.2, by simp⟩)) zS
 exact ⟨uc, ut, uo, up, ui, uu, rfl, alloc_new w1 _, hs.one, hh, hi, hw, below_setRow (hb.alloc hb.size _) hb.size _, hb.size⟩
end
end Go.Proofs.YtlolgfgcgfjdjaaGreatDoor

namespace Go.Proofs.YtlolgfgcgfjdjaaGreatDoor
open Go.RowKit
set_option linter.unusedVariables false
set_option linter.unusedSimpArgs false
set_option maxHeartbeats 2000000
set_option maxRecDepth 100000
theorem freshL_any (r c : Nat) (w : World) (r1 : 1 ≤ r) (r2 : r ≤ 1000) (c1 : 1 ≤ c) (c2 : c ≤ 1000) : Calls Tryz.prog 27 #[.int .i64 (r : Int), .int .i64 (c : Int)] w fun e w' => ∃ uc ut uo up ui uu, e = .returned (.agg (vS (newS r c) uc ut uo up ui uu)) ∧ SSl w' (NewB w' w.heap.size) (newS r c) uc ut uo up ui uu ∧ Below w.heap.size w w' := by
 have HN := Lib.hid (pNew_yes r c (w.alloc (.cells zS 31)) r1 r2 c1 c2)
 go_enter Tryz.func27, Tryz.ntmps27
 go_wp2_with fail
 refine HN.out.mono ?_
 rintro e w2 ⟨v2, rfl, ⟨uc, ut, uo, up, ui, uu, rfl, hs2⟩, b2⟩
 have z1 := alloc_size w (.cells zS 31)
 have k1 : w2.heap[w.heap.size]? = some (.cells zS 31) := (b2.block _ (by rw [z1]; omega)).trans (alloc_new w _)
 have z2 : w.heap.size + 1 ≤ w2.heap.size := by have := b2.size; rw [z1] at this; exact this
 have hb2 : Below w.heap.size w w2 := ((Below.refl _ _).alloc (Nat.le_refl _) _).trans (b2.mono (by rw [z1]; omega))
 have hs3 : SSl w2 (Far [w.heap.size] w2) (newS r c) uc ut uo up ui uu := hs2.mono (fun x hx => ⟨hx.2, fun hm => by have := hx.1; rw [z1] at this; simp at hm; omega⟩)
 have hh := Lib.hid (held_new (V := [w.heap.size]) (fun x hx => by simp at hx; omega) hs3 zS)
 have HS := Lib.hid hs2
 have k2 := alloc_new w2 (.cells zS 31)
 have HB := Lib.hid (below_setRow (hb2.alloc hb2.size (.cells zS 31)) hb2.size (vS (newS r c) uc ut uo up ui uu))
 have k3 : ((w2.alloc (.cells zS 31)).setRow w2.heap.size (vS (newS r c) uc ut uo up ui uu)).heap[w.heap.size]? = some (.cells zS 31) := by
  rw [heap_setRow_other (by omega)]
  exact (Below.heap_alloc w2 _ _ (by omega)).trans k1
 have z3 : ((w2.alloc (.cells zS 31)).setRow w2.heap.size (vS (newS r c) uc ut uo up ui uu)).heap.size = w2.heap.size + 1 := by rw [size_setRow, alloc_size]
 have o3 : ∀ q : Addr, q.block < w2.heap.size → ((w2.alloc (.cells zS 31)).setRow w2.heap.size (vS (newS r c) uc ut uo up ui uu)).cell? q = w2.cell? q := fun q hq => World.cell?_of_block (by rw [heap_setRow_other (by omega)]; exact Below.heap_alloc w2 _ _ hq)
 have HK3 := Lib.hid k3
 have HO3 := Lib.hid o3
 have HZ3 := Lib.hid z3
 clear b2 k1 k3 z3 o3 hb2 hs3
 rename_i K hK
 refine hK _ _ ?_
 clear hK K
 iterate 4 (refine wpList_plain rfl fun K hK => ?_; go_simp; refine hK _ _ ?_; clear hK K)
 refine wpl_storeS rfl (.tmp 5) (.tmp 11) rfl rfl rfl k2 rfl rfl HS.out.one ?_
 clear k2
 have hsz : w2.heap.size ≠ w.heap.size := by omega
 generalize hg2 : w2.heap.size = g2 at *
 generalize World.setRow _ _ _ = W3 at hh HB HK3 HO3 HZ3 ⊢
 have kG := hh.out.blk
 go_upto_region 2 with fail
 refine wp_region_lit ?_
 refine wpl_loadS rfl (.tmp 5) rfl rfl kG rfl ?_
 refine wpl_storeS rfl (.tmp 4) (.tmp 13) rfl rfl rfl HK3.out rfl rfl hh.out.one ?_
 go_wp2
 refine bodyPost_ret (v := .agg (vS (newS r c) uc ut uo up ui uu)) (resultS Tryz.results27 rfl (heap_setRow_same HK3.out) rfl) rfl ?_
 refine ⟨_, _, _, _, _, _, rfl, (HS.out.keep (fun q hq => ?_)).mono (fun x hx => ⟨by have := hx.1; omega, ?_⟩), below_setRow HB.out (Nat.le_refl _) _⟩
 ·have h1 := hq.1
  have h2 := hq.2
  exact (World.cell?_of_block (heap_setRow_other (by omega))).trans (HO3.out q (by omega))
 ·rw [size_setRow, HZ3.out]
  have h2 := hx.2
  omega
theorem freshOne (r c : Nat) (w w1 : World) (hb : Below w.heap.size w w1) (r1 : 1 ≤ r) (r2 : r ≤ 1000) (c1 : 1 ≤ c) (c2 : c ≤ 1000) : Calls Tryz.prog 27 #[.int .i64 (r : Int), .int .i64 (c : Int)] w1 (LaidOne w (newS r c) r c) := by
 refine (freshL_any r c w1 r1 r2 c1 c2).mono ?_
 rintro e w2 ⟨uc, ut, uo, up, ui, uu, rfl, hs2, b2⟩
 exact laidOne (hb.trans (b2.mono hb.size)) (hs2.mono (fun x hx => ⟨Nat.le_trans hb.size hx.1, hx.2⟩)) (newS_in r c r1 r2 c1 c2) (newS_w _ _ _ _)
end Go.Proofs.YtlolgfgcgfjdjaaGreatDoor
