/- What is proved here: contracts of the program's small functions on a terminal's parser: kinds of bytes, which parsers are left where nothing comes of a byte; what such a call answers; contracts of the program's functions that put one thing more into a parser's lists: a byte between, a number, a digit; contracts of the program's functions that take a byte into a sequence's numbers; a contract of the program's function that takes a digit into a sequence's last number; a contract of the program's function that takes a byte of a control sequence's numbers; contracts of the program's functions that end a sequence with an act; contracts of the program's functions on a byte right behind an escape, or behind bytes between; contracts of the program's functions on a byte within a sequence. -/
import Derived.Test.YtlolgfgcgfjdjaaGreatDoorS10
import Derived.Test.YtlolgfgcgfjdjaaGreatDoorS5
import Derived.Deep.RegionWith
import Derived.Deep.RegionLaw
import Derived.Deep.CutRange
namespace Go.Proofs.YtlolgfgcgfjdjaaGreatDoor
open Go.RowKit
set_option linter.unusedVariables false
set_option linter.unusedSimpArgs false
set_option maxHeartbeats 1000000
set_option maxRecDepth 100000
@[reducible] def v5 (m pv : Int) (Ap : Option Addr) (np cp : Nat) (Ai : Option Addr) (ni ci : Nat) (Au : Option Addr) (nu cu : Nat) : Array Value := #[.int .i64 m, .int .u8 pv, .slice Ap np cp, .slice Ai ni ci, .slice Au nu cu]
def PPost (w : World) (base : Nat) (B : Nat → Prop) (r : Pr) (av : Value) (l : List Ac) (e : Ending) (w' : World) : Prop :=
 ∃ B' Ap cp Ai ci Au cu, e = .returned (.agg (v5 (r.mode : Int) (r.priv : Int) Ap r.params.length cp Ai r.inter.length ci Au r.utf.length cu)) ∧ StL w' base B' (.slice Ap r.params.length cp) (.slice Ai r.inter.length ci) (.slice Au r.utf.length cu) av r.params r.inter r.utf l ∧ (∀ x, B' x → B x ∨ w.heap.size ≤ x) ∧ Fr B w w'
def VPost (w : World) (base : Nat) (B : Nat → Prop) (r : Pr) (l : List Ac) (e : Ending) (w' : World) : Prop :=
 ∃ B' Ap cp Ai ci Au cu Aa ca, e = .returned (.tuple #[.agg (v5 (r.mode : Int) (r.priv : Int) Ap r.params.length cp Ai r.inter.length ci Au r.utf.length cu), .slice Aa l.length ca]) ∧ StL w' base B' (.slice Ap r.params.length cp) (.slice Ai r.inter.length ci) (.slice Au r.utf.length cu) (.slice Aa l.length ca) r.params r.inter r.utf l ∧ (∀ x, B' x → B x ∨ w.heap.size ≤ x) ∧ Fr B w w'
section
variable {w w' : World} {base : Nat} {B B' : Nat → Prop} {vp vi vu av : Value} {ps : List Int} {is us : List UInt8} {l : List Ac} {r : Pr} {m pv : Int}
theorem PPost.of (h : StL w' base B' vp vi vu av ps is us l) (hr : r.params = ps ∧ r.inter = is ∧ r.utf = us ∧ (r.mode : Int) = m ∧ (r.priv : Int) = pv) (hB : ∀ x, B' x → B x ∨ w.heap.size ≤ x) (hF : Fr B w w') : PPost w base B r av l (.returned (.agg #[.int .i64 m, .int .u8 pv, vp, vi, vu])) w' := by
 obtain ⟨rfl, rfl, rfl, rfl, rfl⟩ := hr
 obtain ⟨Ap, cp, Ai, ci, Au, cu, Aa, ca, rfl, rfl, rfl, rfl, -⟩ := h.form
 exact ⟨B', Ap, cp, Ai, ci, Au, cu, rfl, h, hB, hF⟩
theorem VPost.of (h : StL w' base B' vp vi vu av ps is us l) (hr : r.params = ps ∧ r.inter = is ∧ r.utf = us ∧ (r.mode : Int) = m ∧ (r.priv : Int) = pv) (hB : ∀ x, B' x → B x ∨ w.heap.size ≤ x) (hF : Fr B w w') : VPost w base B r l (.returned (.tuple #[.agg #[.int .i64 m, .int .u8 pv, vp, vi, vu], av])) w' := by
 obtain ⟨rfl, rfl, rfl, rfl, rfl⟩ := hr
 obtain ⟨Ap, cp, Ai, ci, Au, cu, Aa, ca, rfl, rfl, rfl, rfl, -⟩ := h.form
 exact ⟨B', Ap, cp, Ai, ci, Au, cu, Aa, ca, rfl, h, hB, hF⟩
theorem PPost.same (h : StL w base B vp vi vu av r.params r.inter r.utf l) (hb : Below w.heap.size w w') : PPost w base B r av l (.returned (.agg #[.int .i64 (r.mode : Int), .int .u8 (r.priv : Int), vp, vi, vu])) w' := PPost.of (h.below hb) ⟨rfl, rfl, rfl, rfl, rfl⟩ (fun x hx => .inl hx) (Fr.of hb B)
theorem PPost.zero (h : StL w base B vp vi vu av ps is us l) (hb : Below w.heap.size w w') (n : Nat) (hm : (n : Int) = m) : PPost w base B (prM n) av l (.returned (.agg #[.int .i64 m, .int .u8 0, .slice none 0 0, .slice none 0 0, .slice none 0 0])) w' := PPost.of (h.below hb).zero ⟨rfl, rfl, rfl, hm, rfl⟩ (fun x hx => .inl hx) (Fr.of hb B)
theorem VPost.same (h : StL w base B vp vi vu av r.params r.inter r.utf l) (hb : Below w.heap.size w w') : VPost w base B r l (.returned (.tuple #[.agg #[.int .i64 (r.mode : Int), .int .u8 (r.priv : Int), vp, vi, vu], av])) w' := VPost.of (h.below hb) ⟨rfl, rfl, rfl, rfl, rfl⟩ (fun x hx => .inl hx) (Fr.of hb B)
theorem VPost.zero (h : StL w base B vp vi vu av ps is us l) (hb : Below w.heap.size w w') (n : Nat) (hm : (n : Int) = m) : VPost w base B (prM n) l (.returned (.tuple #[.agg #[.int .i64 m, .int .u8 0, .slice none 0 0, .slice none 0 0, .slice none 0 0], av])) w' := VPost.of (h.below hb).zero ⟨rfl, rfl, rfl, hm, rfl⟩ (fun x hx => .inl hx) (Fr.of hb B)
end
def kindN (b : UInt8) : Nat := if b.toNat < 32 then 0 else if b.toNat < 48 then 1 else if b.toNat < 64 then 2 else if b.toNat < 127 then 3 else if b.toNat = 127 then 4 else 5
theorem kindOf_any (b : UInt8) (w : World) : Calls Tryz.prog 101 #[.int .u8 (b.toNat : Int)] w fun e w' => e = .returned (.int .i64 (kindN b : Int)) ∧ w = w' := by
 unfold kindN
 split
 ·rename_i h
  have d0 : (b.toNat : Int) < 32 := by omega
  go_enter Tryz.func101, Tryz.ntmps101
  go_wp2
  go_ret
  exact ⟨rfl, rfl⟩
 rename_i h0
 have d0 : decide ((b.toNat : Int) < 32) = false := by simp; omega
 split
 ·rename_i h
  have d1 : (b.toNat : Int) < 48 := by omega
  go_enter Tryz.func101, Tryz.ntmps101
  go_wp2
  go_ret
  exact ⟨rfl, rfl⟩
 rename_i h1
 have d1 : decide ((b.toNat : Int) < 48) = false := by simp; omega
 split
 ·rename_i h
  have d2 : (b.toNat : Int) < 64 := by omega
  go_enter Tryz.func101, Tryz.ntmps101
  go_wp2
  go_ret
  exact ⟨rfl, rfl⟩
 rename_i h2
 have d2 : decide ((b.toNat : Int) < 64) = false := by simp; omega
 split
 ·rename_i h
  have d3 : (b.toNat : Int) < 127 := by omega
  go_enter Tryz.func101, Tryz.ntmps101
  go_wp2
  go_ret
  exact ⟨rfl, rfl⟩
 rename_i h3
 have d3 : decide ((b.toNat : Int) < 127) = false := by simp; omega
 split
 ·rename_i h
  have d4 : ((b.toNat : Int) == 127) = true := beq_iff_eq.2 (by omega)
  go_enter Tryz.func101, Tryz.ntmps101
  go_wp2
  go_ret
  exact ⟨rfl, rfl⟩
 ·have d4 : ((b.toNat : Int) == 127) = false := beq_eq_false_iff_ne.2 (by omega)
  go_enter Tryz.func101, Tryz.ntmps101
  go_wp2
  go_ret
  exact ⟨rfl, rfl⟩
theorem noInter_any (b : UInt8) (w : World) : Calls Tryz.prog 98 #[.int .u8 (b.toNat : Int)] w fun e w' => e = .returned (.bool (!interB b)) ∧ w = w' := by
 have hk : interB b = decide (kindN b = 1) := by
  unfold kindN interB
  repeat' split
  all_goals simp <;> omega
 by_cases h : kindN b = 1
 ·have d : ((kindN b : Int) == 1) = true := beq_iff_eq.2 (by omega)
  rw [hk, decide_eq_true h]
  clear hk h
  go_enter Tryz.func98, Tryz.ntmps98
  go_wp2_with (go_at_call 101; refine (kindOf_any b _).mono ?_; rintro e w' ⟨rfl, rfl⟩)
  go_ret
  exact ⟨congrArg (fun t => Ending.returned (Value.bool (!t))) d, rfl⟩
 ·have d : ((kindN b : Int) == 1) = false := beq_eq_false_iff_ne.2 (by omega)
  rw [hk, decide_eq_false h]
  clear hk h
  go_enter Tryz.func98, Tryz.ntmps98
  go_wp2_with (go_at_call 101; refine (kindOf_any b _).mono ?_; rintro e w' ⟨rfl, rfl⟩)
  go_ret
  exact ⟨congrArg (fun t => Ending.returned (Value.bool (!t))) d, rfl⟩
theorem noParam_any (n : Int) (w : World) : Calls Tryz.prog 96 #[.int .i64 n] w fun e w' => e = .returned (.bool (!decide (0 ≤ n ∧ n ≤ 65535))) ∧ w = w' := by
 by_cases h0 : n < 0
 ·rw [decide_eq_false (by omega)]
  go_enter Tryz.func96, Tryz.ntmps96
  go_wp2
  go_ret
  exact ⟨rfl, rfl⟩
 have d0 : decide (n < 0) = false := by simp; omega
 by_cases h1 : 65535 < n
 ·rw [decide_eq_false (by omega)]
  clear h0
  go_enter Tryz.func96, Tryz.ntmps96
  go_wp2
  go_ret
  exact ⟨rfl, rfl⟩
 ·have d1 : decide (65535 < n) = false := by simp; omega
  rw [decide_eq_true (by omega)]
  clear h0 h1
  go_enter Tryz.func96, Tryz.ntmps96
  go_wp2
  go_ret
  exact ⟨rfl, rfl⟩
theorem text_any (vp vi vu av : Value) (p : Pr) (b : UInt8) (l : List Ac) (base : Nat) (B : Nat → Prop) (w : World) (h : StL w base B vp vi vu av p.params p.inter p.utf l) :
  Calls Tryz.prog 102 #[.agg #[.int .i64 (p.mode : Int), .int .u8 (p.priv : Int), vp, vi, vu], .int .u8 (b.toNat : Int)] w (PPost w base B (if b.toNat = 7 then prM 0 else p) av l) := by
 have H := Lib.hid h
 obtain ⟨Ap, cp, Ai, ci, Au, cu, Aa, ca, rfl, rfl, rfl, rfl, -⟩ := h.form
 clear h
 by_cases hb : b.toNat = 7
 ·have d : ((b.toNat : Int) == 7) = true := beq_iff_eq.2 (by omega)
  rw [if_pos hb]
  clear hb
  go_enter Tryz.func102, Tryz.ntmps102
  go_wp2
  exact bodyPost_ret (v := .agg #[.int .i64 0, .int .u8 0, .slice none 0 0, .slice none 0 0, .slice none 0 0]) (by simp [results, Tryz.results102, go_sem]) rfl (PPost.zero H.out (two_new w _ _).1 0 rfl)
 ·have d : ((b.toNat : Int) == 7) = false := beq_eq_false_iff_ne.2 (by omega)
  rw [if_neg hb]
  clear hb
  go_enter Tryz.func102, Tryz.ntmps102
  go_wp2
  exact bodyPost_ret (v := .agg #[.int .i64 (p.mode : Int), .int .u8 (p.priv : Int), .slice Ap p.params.length cp, .slice Ai p.inter.length ci, .slice Au p.utf.length cu]) (by simp [results, Tryz.results102, go_sem]) rfl (PPost.same H.out (two_new w _ _).1)
theorem ignore_any (vp vi vu av : Value) (p : Pr) (t : Bool) (l : List Ac) (base : Nat) (B : Nat → Prop) (w : World) (h : StL w base B vp vi vu av p.params p.inter p.utf l) :
  Calls Tryz.prog 136 #[.agg #[.int .i64 (p.mode : Int), .int .u8 (p.priv : Int), vp, vi, vu], .bool t] w (PPost w base B (if t = true then prM 0 else p) av l) := by
 have H := Lib.hid h
 obtain ⟨Ap, cp, Ai, ci, Au, cu, Aa, ca, rfl, rfl, rfl, rfl, -⟩ := h.form
 clear h
 cases t
 ·rw [if_neg (by simp)]
  go_enter Tryz.func136, Tryz.ntmps136
  go_wp2
  exact bodyPost_ret (v := .agg #[.int .i64 (p.mode : Int), .int .u8 (p.priv : Int), .slice Ap p.params.length cp, .slice Ai p.inter.length ci, .slice Au p.utf.length cu]) (by simp [results, Tryz.results136, go_sem]) rfl (PPost.same H.out (two_new w _ _).1)
 ·rw [if_pos rfl]
  go_enter Tryz.func136, Tryz.ntmps136
  go_wp2
  exact bodyPost_ret (v := .agg #[.int .i64 0, .int .u8 0, .slice none 0 0, .slice none 0 0, .slice none 0 0]) (by simp [results, Tryz.results136, go_sem]) rfl (PPost.zero H.out (two_new w _ _).1 0 rfl)
end Go.Proofs.YtlolgfgcgfjdjaaGreatDoor

namespace Go.Proofs.YtlolgfgcgfjdjaaGreatDoor
open Go.RowKit
set_option linter.unusedVariables false
set_option linter.unusedSimpArgs false
set_option maxHeartbeats 1000000
set_option maxRecDepth 100000
theorem row_grown {w1 w2 : World} {row : Option Nat} {g : Nat} {o : Obj} (hg : w1.grownBy w2 row) (h : w1.heap[g]? = some o) (hr : ∀ k, row = some k → k ≠ g) : w2.heap[g]? = some o := by
 refine (hg.block g ?_ (fun e => hr g e.symm rfl)).trans h
 rcases Nat.lt_or_ge g w1.heap.size with c | c
 ·exact c
 ·rw [Array.getElem?_eq_none c] at h; cases h
theorem two_at (w : World) (x y : Obj) : ((w.alloc x).alloc y).heap[w.heap.size]? = some x ∧ ((w.alloc x).alloc y).heap[w.heap.size + 1]? = some y := two_keptB (w := w) (x := x) (y := y) (Below.refl _ _)
theorem three_at (w : World) (x y z : Obj) : (((w.alloc x).alloc y).alloc z).heap[w.heap.size]? = some x ∧ (((w.alloc x).alloc y).alloc z).heap[w.heap.size + 1]? = some y ∧ Below w.heap.size w (((w.alloc x).alloc y).alloc z) ∧ w.heap.size + 1 + 1 ≤ (((w.alloc x).alloc y).alloc z).heap.size := by
 have h := three_kept3 (w := w) (x := x) (y := y) (z := z) (Below.refl _ _)
 have h3 := three_new w x y z
 exact ⟨h.1, h.2.1, h3.1, by rw [h3.2]; omega⟩
theorem byte_at (w : World) (x y : Obj) (b : UInt8) (t : TypeId) : BS (((w.alloc x).alloc y).alloc (.cells #[.int .u8 (b.toNat : Int)] t)) (w.heap.size + 1 + 1 + 1) (.slice (some ⟨w.heap.size + 1 + 1, 0, none⟩) 1 1) [b] := by
 have h := BS.one ((w.alloc x).alloc y) b t
 rw [(two_new w x y).2] at h
 exact h
def fset (w w5 : World) (i : Nat) (x0 y0 y1 y2 y3 y4 : Value) : World := wset w (w5.setCell ⟨w.heap.size, i, none⟩ x0) y0 y1 y2 y3 y4
theorem fset_heap {w w5 : World} {i : Nat} {x0 y0 y1 y2 y3 y4 : Value} (x : Nat) (h0 : x ≠ w.heap.size) (h1 : x ≠ w.heap.size + 1) : (fset w w5 i x0 y0 y1 y2 y3 y4).heap[x]? = w5.heap[x]? := by
 unfold fset wset
 have e (W : World) (k : Nat) (y : Value) : (W.setCell ⟨w.heap.size + 1, k, none⟩ y).heap[x]? = W.heap[x]? := Below.heap_setCell _ _ _ _ h1
 rw [e, e, e, e, e]
 exact Below.heap_setCell _ _ _ _ h0
theorem fset_fr {w w5 : World} {i : Nat} {x0 y0 y1 y2 y3 y4 : Value} {B : Nat → Prop} (h : Fr B w w5) : Fr B w (fset w w5 i x0 y0 y1 y2 y3 y4) :=
 (((((h.setCell (.inr (Nat.le_refl _)) _).setCell (.inr (Nat.le_succ _)) _).setCell (.inr (Nat.le_succ _)) _).setCell (.inr (Nat.le_succ _)) _).setCell (.inr (Nat.le_succ _)) _).setCell (.inr (Nat.le_succ _)) _
theorem stl_fset {w w5 : World} {i : Nat} {x0 y0 y1 y2 y3 y4 : Value} {base : Nat} {B : Nat → Prop} {vp vi vu av : Value} {ps : List Int} {is us : List UInt8} {l : List Ac} (h : StL w5 base B vp vi vu av ps is us l) (h0 : ¬ B w.heap.size) (h1 : ¬ B (w.heap.size + 1)) : StL (fset w w5 i x0 y0 y1 y2 y3 y4) base B vp vi vu av ps is us l :=
 h.keep (fun x hx => fset_heap x (fun e => h0 (e ▸ hx)) (fun e => h1 (e ▸ hx)))
theorem inter_post {w w1 w2 : World} {base : Nat} {B : Nat → Prop} {Ap Ai Au : Option Addr} {cp ci cu : Nat} {av v' x0 : Value} {p : Pr} {m : List UInt8} {l : List Ac} (h : StL w base B (.slice Ap p.params.length cp) (.slice Ai p.inter.length ci) (.slice Au p.utf.length cu) av p.params p.inter p.utf l) (ho : OB w2 base v' (p.inter ++ m)) (hb1 : Below w.heap.size w w1) (hz : w.heap.size + 1 + 1 ≤ w1.heap.size) (hg : w1.grownBy w2 (Value.slice Ai p.inter.length ci).ownBlock) (hv : v'.ownBlock = (Value.slice Ai p.inter.length ci).ownBlock ∨ v'.ownBlock = some w1.heap.size) :
  PPost w base B { p with inter := p.inter ++ m } av l (.returned (.agg #[.int .i64 (p.mode : Int), .int .u8 (p.priv : Int), .slice Ap p.params.length cp, v', .slice Au p.utf.length cu])) (fset w w2 3 x0 (.int .i64 (p.mode : Int)) (.int .u8 (p.priv : Int)) (.slice Ap p.params.length cp) v' (.slice Au p.utf.length cu)) := by
 have hown : ∀ g, (Value.slice Ai p.inter.length ci).ownBlock = some g → B g := fun g e => by obtain ⟨S, -, -, -, -, h5, -⟩ := h; exact (h5 g e).1
 obtain ⟨B', hst, hB'⟩ := h.setI (w' := w2) (by have := hg.size; omega) ho (fun x hx hn => (hg.block x (by have := (h.lt x hx).2; omega) (fun e => hn e.symm)).trans (hb1.block x (h.lt x hx).2)) (hv.imp id (fun e => ⟨_, e, by omega⟩))
 have hBn : ∀ x, B' x → B x ∨ w.heap.size + 1 + 1 ≤ x := fun x hx => (hB' x hx).elim .inl (fun e => by
  rcases hv with e2 | e2
  ·rw [e2] at e; exact .inl (hown x e)
  ·rw [e2] at e; injection e with e; exact .inr (by omega))
 have hF : Fr B w w2 := (Fr.of hb1 B).grown hg (fun k e => .inl (hown k e))
 exact PPost.of (stl_fset hst (fun hb => (hBn _ hb).elim (fun hb => by have := (h.lt _ hb).2; omega) (fun hb => by omega)) (fun hb => (hBn _ hb).elim (fun hb => by have := (h.lt _ hb).2; omega) (fun hb => by omega))) ⟨rfl, rfl, rfl, rfl, rfl⟩ (fun x hx => (hBn x hx).imp id (fun h => by omega)) (fset_fr hF)
theorem moreInter_any (vp vi vu av : Value) (p : Pr) (b : UInt8) (m : Nat) (l : List Ac) (base : Nat) (B : Nat → Prop) (w : World) (h : StL w base B vp vi vu av p.params p.inter p.utf l) (hbase : base ≤ w.heap.size) (hm : m ≤ 7) :
  Calls Tryz.prog 154 #[.agg #[.int .i64 (p.mode : Int), .int .u8 (p.priv : Int), vp, vi, vu], .int .u8 (b.toNat : Int), .int .i64 (m : Int)] w (PPost w base B (if 2 ≤ p.inter.length then prM m else { p with inter := p.inter ++ [b] }) av l) := by
 have H := Lib.hid h
 obtain ⟨Ap, cp, Ai, ci, Au, cu, Aa, ca, rfl, rfl, rfl, rfl, ⟨p1, p2⟩, ⟨i1, i2⟩, ⟨u1, u2⟩, -⟩ := h.form
 have HI : Hid (OB w base (.slice Ai p.inter.length ci) p.inter) := by obtain ⟨S, ⟨_, a2, _, _⟩, -⟩ := h; exact a2
 clear h
 by_cases hl : 2 ≤ p.inter.length
 ·have d : (2 : Int) ≤ (p.inter.length : Int) := by omega
  rw [if_pos hl]
  clear hl
  go_enter Tryz.func154, Tryz.ntmps154
  go_wp2
  exact bodyPost_ret (v := .agg #[.int .i64 (m : Int), .int .u8 0, .slice none 0 0, .slice none 0 0, .slice none 0 0]) (by simp [results, Tryz.results154, go_sem]) rfl (PPost.zero H.out (two_new w _ _).1 m rfl)
 ·have d : decide ((2 : Int) ≤ (p.inter.length : Int)) = false := by simp; omega
  rw [if_neg hl]
  have HG : Hid (∀ g, (Value.slice Ai p.inter.length ci).ownBlock = some g → g < w.heap.size) := fun g e => (World.ownsRow.lt HI.out g e).2
  have hl2 : p.inter.length < 2 := by omega
  clear hl
  have HT := Lib.hid (three_at w)
  go_enter Tryz.func154, Tryz.ntmps154
  go_wp2_with (at_builtin; refine wpl_app _ rfl (.tmp 14) (.tmp 16) rfl base _ _ _ p.inter [b] rfl rfl (((HI.out.alloc _).alloc _).alloc _) (byte_at w _ _ b _) (by simp; omega) (by simp; omega) ?_; intro v3 w3 ho3 hg3 hb3 hv3; obtain ⟨t0, t1, t2, t3⟩ := HT.out _ _ _; obtain ⟨c0, c1, c2, c3, c4, cf⟩ := five_cells (row_grown hg3 t0 (fun k e => by have := HG.out k e; omega)); obtain ⟨e0, e1, e2, e3, e4, ef⟩ := five_cells (row_grown hg3 t1 (fun k e => by have := HG.out k e; omega)); have hp3 := inter_post (x0 := v3) H.out ho3 t2 t3 hg3 hv3; obtain ⟨A3, n3, rfl, -, -⟩ := ho3.sl.form; rw [show (p.inter ++ [b]).length = p.inter.length + 1 from by simp] at hp3; have HP := Lib.hid hp3; clear t0 t1 t2 t3 ho3 hg3 hb3 hv3 hp3)
  exact bodyPost_ret (v := .agg #[.int .i64 (p.mode : Int), .int .u8 (p.priv : Int), .slice Ap p.params.length cp, .slice A3 (p.inter.length + 1) n3, .slice Au p.utf.length cu]) (by simp [results, Tryz.results154, go_sem, e0, e1, e2, e3, e4]) rfl HP.out
end Go.Proofs.YtlolgfgcgfjdjaaGreatDoor

namespace Go.Proofs.YtlolgfgcgfjdjaaGreatDoor
open Go.RowKit
set_option linter.unusedVariables false
set_option linter.unusedSimpArgs false
set_option maxHeartbeats 1000000
set_option maxRecDepth 100000
theorem oi_one (w : World) (base : Nat) (x : Int) (hb : base ≤ w.heap.size) : OI (w.alloc (.cells #[.int .i64 x] 3)) base (.slice (some ⟨w.heap.size, 0, none⟩) 1 1) [x] :=
 World.ownsRow_lit (base := base) (e := 3) (size := 1) w #[.int .i64 x] 1 hb (by simp [maxLen]) (by simp)
theorem grown_set (w : World) (g k : Nat) (u : Value) : w.grownBy (w.setCell ⟨g, k, none⟩ u) (some g) :=
 ⟨rfl, rfl, rfl, by simp, fun k hk hn => Below.heap_setCell _ _ _ _ (fun e => hn (by rw [e]))⟩
theorem nums_core {w w1 w2 : World} {base : Nat} {B : Nat → Prop} {vp vi vu av v' : Value} {p : Pr} {ps : List Int} {row : Option Nat} {l : List Ac} (h : StL w base B vp vi vu av p.params p.inter p.utf l) (ho : OI w2 base v' ps) (hb1 : Below w.heap.size w w1) (hz : w.heap.size + 1 + 1 ≤ w1.heap.size) (hg : w1.grownBy w2 row) (hrow : row = vp.ownBlock ∨ ∃ g, row = some g ∧ w.heap.size + 1 + 1 ≤ g) (hv : v'.ownBlock = row ∨ v'.ownBlock = some w1.heap.size) :
  ∃ B', StL w2 base B' v' vi vu av ps p.inter p.utf l ∧ (∀ x, B' x → B x ∨ w.heap.size + 1 + 1 ≤ x) ∧ Fr B w w2 := by
 have hown : ∀ g, vp.ownBlock = some g → B g := fun g e => by obtain ⟨S, -, -, -, h4, -⟩ := h; exact (h4 g e).1
 have hv2 : v'.ownBlock = vp.ownBlock ∨ ∃ g, v'.ownBlock = some g ∧ w.heap.size + 1 + 1 ≤ g := by
  rcases hv with e | e
  ·rcases hrow with e2 | ⟨g, e2, e3⟩
   ·exact .inl (e.trans e2)
   ·exact .inr ⟨g, e.trans e2, e3⟩
  ·exact .inr ⟨_, e, hz⟩
 obtain ⟨B', hst, hB'⟩ := h.setP (w' := w2) (by have := hg.size; omega) ho (fun x hx hn => (hg.block x (by have := (h.lt x hx).2; omega) (fun e => by
  rcases hrow with e2 | ⟨g, e2, e3⟩
  ·exact hn (e2.symm.trans e.symm)
  ·rw [e2] at e; injection e with e; have := (h.lt x hx).2; omega)).trans (hb1.block x (h.lt x hx).2)) (hv2.imp id (fun ⟨g, e, e2⟩ => ⟨g, e, by omega⟩))
 have hBn : ∀ x, B' x → B x ∨ w.heap.size + 1 + 1 ≤ x := fun x hx => (hB' x hx).elim .inl (fun e => by
  rcases hv2 with e2 | ⟨g, e2, e3⟩
  ·rw [e2] at e; exact .inl (hown x e)
  ·rw [e2] at e; injection e with e; exact .inr (by omega))
 have hF : Fr B w w2 := (Fr.of hb1 B).grown hg (fun k e => by
  rcases hrow with e2 | ⟨g, e2, e3⟩
  ·exact .inl (hown k (e2.symm.trans e))
  ·rw [e2] at e; injection e with e; exact .inr (by omega))
 exact ⟨B', hst, hBn, hF⟩
theorem wset_heap {w w5 : World} {y0 y1 y2 y3 y4 : Value} (x : Nat) (h1 : x ≠ w.heap.size + 1) : (wset w w5 y0 y1 y2 y3 y4).heap[x]? = w5.heap[x]? := by
 unfold wset
 have e (W : World) (k : Nat) (y : Value) : (W.setCell ⟨w.heap.size + 1, k, none⟩ y).heap[x]? = W.heap[x]? := Below.heap_setCell _ _ _ _ h1
 rw [e, e, e, e, e]
theorem wset_fr {w w5 : World} {y0 y1 y2 y3 y4 : Value} {B : Nat → Prop} (h : Fr B w w5) : Fr B w (wset w w5 y0 y1 y2 y3 y4) :=
 ((((h.setCell (.inr (Nat.le_succ _)) _).setCell (.inr (Nat.le_succ _)) _).setCell (.inr (Nat.le_succ _)) _).setCell (.inr (Nat.le_succ _)) _).setCell (.inr (Nat.le_succ _)) _
theorem pend_f {w w2 : World} {base : Nat} {B B' : Nat → Prop} {vp vi vu av x0 : Value} {ps : List Int} {is us : List UInt8} {l : List Ac} {r : Pr} {m pv : Int} {i : Nat} (hlt : ∀ x, B x → x < w.heap.size) (h : StL w2 base B' vp vi vu av ps is us l) (hBn : ∀ x, B' x → B x ∨ w.heap.size + 1 + 1 ≤ x) (hF : Fr B w w2) (hr : r.params = ps ∧ r.inter = is ∧ r.utf = us ∧ (r.mode : Int) = m ∧ (r.priv : Int) = pv) :
  PPost w base B r av l (.returned (.agg #[.int .i64 m, .int .u8 pv, vp, vi, vu])) (fset w w2 i x0 (.int .i64 m) (.int .u8 pv) vp vi vu) :=
 PPost.of (stl_fset h (fun hb => (hBn _ hb).elim (fun hb => by have := hlt _ hb; omega) (fun hb => by omega)) (fun hb => (hBn _ hb).elim (fun hb => by have := hlt _ hb; omega) (fun hb => by omega))) hr (fun x hx => (hBn x hx).imp id (fun h => by omega)) (fset_fr hF)
theorem pend_w {w w2 : World} {base : Nat} {B B' : Nat → Prop} {vp vi vu av : Value} {ps : List Int} {is us : List UInt8} {l : List Ac} {r : Pr} {m pv : Int} (hlt : ∀ x, B x → x < w.heap.size) (h : StL w2 base B' vp vi vu av ps is us l) (hBn : ∀ x, B' x → B x ∨ w.heap.size + 1 + 1 ≤ x) (hF : Fr B w w2) (hr : r.params = ps ∧ r.inter = is ∧ r.utf = us ∧ (r.mode : Int) = m ∧ (r.priv : Int) = pv) :
  PPost w base B r av l (.returned (.agg #[.int .i64 m, .int .u8 pv, vp, vi, vu])) (wset w w2 (.int .i64 m) (.int .u8 pv) vp vi vu) :=
 PPost.of (h.keep (fun x hx => wset_heap x (fun e => (hBn x hx).elim (fun hb => by have := hlt _ hb; omega) (fun hb => by omega)))) hr (fun x hx => (hBn x hx).imp id (fun h => by omega)) (wset_fr hF)
theorem vend_w {w w2 : World} {base : Nat} {B B' : Nat → Prop} {vp vi vu av : Value} {ps : List Int} {is us : List UInt8} {l : List Ac} {r : Pr} {m pv : Int} (hlt : ∀ x, B x → x < w.heap.size) (h : StL w2 base B' vp vi vu av ps is us l) (hBn : ∀ x, B' x → B x ∨ w.heap.size + 1 + 1 ≤ x) (hF : Fr B w w2) (hr : r.params = ps ∧ r.inter = is ∧ r.utf = us ∧ (r.mode : Int) = m ∧ (r.priv : Int) = pv) :
  VPost w base B r l (.returned (.tuple #[.agg #[.int .i64 m, .int .u8 pv, vp, vi, vu], av])) (wset w w2 (.int .i64 m) (.int .u8 pv) vp vi vu) :=
 VPost.of (h.keep (fun x hx => wset_heap x (fun e => (hBn x hx).elim (fun hb => by have := hlt _ hb; omega) (fun hb => by omega)))) hr (fun x hx => (hBn x hx).imp id (fun h => by omega)) (wset_fr hF)
theorem nums_post {w w1 w2 : World} {base : Nat} {B : Nat → Prop} {vp vi vu av v' x0 : Value} {p : Pr} {ps : List Int} {row : Option Nat} {l : List Ac} (h : StL w base B vp vi vu av p.params p.inter p.utf l) (ho : OI w2 base v' ps) (hb1 : Below w.heap.size w w1) (hz : w.heap.size + 1 + 1 ≤ w1.heap.size) (hg : w1.grownBy w2 row) (hrow : row = vp.ownBlock ∨ ∃ g, row = some g ∧ w.heap.size + 1 + 1 ≤ g) (hv : v'.ownBlock = row ∨ v'.ownBlock = some w1.heap.size) :
  PPost w base B { p with params := ps } av l (.returned (.agg #[.int .i64 (p.mode : Int), .int .u8 (p.priv : Int), v', vi, vu])) (fset w w2 2 x0 (.int .i64 (p.mode : Int)) (.int .u8 (p.priv : Int)) v' vi vu) := by
 obtain ⟨B', hst, hBn, hF⟩ := nums_core h ho hb1 hz hg hrow hv
 exact pend_f (fun x hx => (h.lt x hx).2) hst hBn hF ⟨rfl, rfl, rfl, rfl, rfl⟩
theorem int_at (w : World) (x y : Obj) (n : Int) (t : TypeId) : IS (((w.alloc x).alloc y).alloc (.cells #[.int .i64 n] t)) (w.heap.size + 1 + 1 + 1) (.slice (some ⟨w.heap.size + 1 + 1, 0, none⟩) 1 1) [n] := by
 have h := IS.one ((w.alloc x).alloc y) n t
 rw [(two_new w x y).2] at h
 exact h
theorem len_app0 (l : List Int) : (l ++ [0]).length = l.length + 1 := by simp
theorem four_at (w : World) (x y : Obj) (base : Nat) (hb : base ≤ w.heap.size) (W : World) (hW : (((w.alloc x).alloc y).alloc (.cells #[.int .i64 0] 3)).alloc (.cells #[.int .i64 0] 3) = W) :
  W.heap[w.heap.size]? = some x ∧ W.heap[w.heap.size + 1]? = some y ∧ Below w.heap.size w W ∧ (w.heap.size + 1 + 1 ≤ W.heap.size ∧ base ≤ W.heap.size) ∧ OI W base (.slice (some ⟨w.heap.size + 1 + 1, 0, none⟩) 1 1) [0] ∧ IS W (w.heap.size + 1 + 1 + 1 + 1) (.slice (some ⟨w.heap.size + 1 + 1 + 1, 0, none⟩) 1 1) [0] := by
 subst hW
 have h3 := three_new w x y (.cells #[.int .i64 0] 3)
 have h := three_kept3 (w := w) (x := x) (y := y) (z := .cells #[.int .i64 0] 3) (Below.refl _ _)
 have h2 := two_new w x y
 have ho := oi_one ((w.alloc x).alloc y) base 0 (by omega)
 rw [h2.2] at ho
 have hi := IS.one (((w.alloc x).alloc y).alloc (.cells #[.int .i64 0] 3)) 0 3
 rw [h3.2] at hi
 exact ⟨(Below.heap_alloc _ _ _ (by omega)).trans h.1, (Below.heap_alloc _ _ _ (by omega)).trans h.2.1, h3.1.alloc (by omega) _, ⟨by simp, by simp; omega⟩, ho.alloc _, hi⟩
theorem stl_oi {w : World} {base : Nat} {B : Nat → Prop} {vp vi vu av : Value} {ps : List Int} {is us : List UInt8} {l : List Ac} (h : StL w base B vp vi vu av ps is us l) : OI w base vp ps := by obtain ⟨S, ⟨a1, _⟩, -⟩ := h; exact a1
theorem more_some (vp vi vu av : Value) (p : Pr) (l : List Ac) (base : Nat) (B : Nat → Prop) (w : World) (h : StL w base B vp vi vu av p.params p.inter p.utf l) (hbase : base ≤ w.heap.size) (h0 : 0 < p.params.length) :
  Calls Tryz.prog 169 #[.agg #[.int .i64 (p.mode : Int), .int .u8 (p.priv : Int), vp, vi, vu]] w (PPost w base B (if 16 ≤ p.params.length then prM 6 else { p with params := p.params ++ [0] }) av l) := by
 have H := Lib.hid h
 have HO := Lib.hid (stl_oi h)
 obtain ⟨Ap, cp, Ai, ci, Au, cu, Aa, ca, rfl, rfl, rfl, rfl, ⟨p1, p2⟩, ⟨i1, i2⟩, ⟨u1, u2⟩, -⟩ := h.form
 clear h
 have d0 : ((p.params.length : Int) == 0) = false := beq_eq_false_iff_ne.2 (by omega)
 by_cases hl : 16 ≤ p.params.length
 ·have d : (16 : Int) ≤ (p.params.length : Int) := by omega
  rw [if_pos hl]
  clear hl h0
  go_enter Tryz.func169, Tryz.ntmps169
  go_wp2
  exact bodyPost_ret (v := .agg #[.int .i64 6, .int .u8 0, .slice none 0 0, .slice none 0 0, .slice none 0 0]) (by simp [results, Tryz.results169, go_sem]) rfl (PPost.zero H.out (two_new w _ _).1 6 rfl)
 ·have d : decide ((16 : Int) ≤ (p.params.length : Int)) = false := by simp; omega
  rw [if_neg hl]
  have HG : Hid (∀ g, (Value.slice Ap p.params.length cp).ownBlock = some g → g < w.heap.size) := fun g e => (World.ownsRow.lt HO.out g e).2
  have hl2 : p.params.length < 16 := by omega
  have HT := Lib.hid (three_at w)
  clear hl h0
  go_enter Tryz.func169, Tryz.ntmps169
  go_wp2_with (at_builtin; refine wpl_appI _ rfl (.tmp 15) (.tmp 16) rfl base _ _ _ p.params [0] rfl rfl (((HO.out.alloc _).alloc _).alloc _) (int_at w _ _ 0 _) (by simp; omega) (by simp; omega) ?_; intro v3 w3 ho3 hg3 hb3 hv3; obtain ⟨t0, t1, t2, t3⟩ := HT.out _ _ _; obtain ⟨c0, c1, c2, c3, c4, cf⟩ := five_cells (row_grown hg3 t0 (fun k e => by have := HG.out k e; omega)); obtain ⟨e0, e1, e2, e3, e4, ef⟩ := five_cells (row_grown hg3 t1 (fun k e => by have := HG.out k e; omega)); have hp3 := nums_post (x0 := v3) H.out ho3 t2 t3 hg3 (.inl rfl) hv3; obtain ⟨A3, n3, rfl, -, -⟩ := ho3.sl.form; rw [len_app0] at hp3; have HP := Lib.hid hp3; clear t0 t1 t2 t3 ho3 hg3 hb3 hv3 hp3)
  exact bodyPost_ret (v := .agg #[.int .i64 (p.mode : Int), .int .u8 (p.priv : Int), .slice A3 (p.params.length + 1) n3, .slice Ai p.inter.length ci, .slice Au p.utf.length cu]) (by simp [results, Tryz.results169, go_sem, e0, e1, e2, e3, e4]) rfl HP.out
theorem more_none (vp vi vu av : Value) (p : Pr) (l : List Ac) (base : Nat) (B : Nat → Prop) (w : World) (h : StL w base B vp vi vu av p.params p.inter p.utf l) (hbase : base ≤ w.heap.size) (h0 : p.params.length = 0) :
  Calls Tryz.prog 169 #[.agg #[.int .i64 (p.mode : Int), .int .u8 (p.priv : Int), vp, vi, vu]] w (PPost w base B { p with params := [0, 0] } av l) := by
 have H := Lib.hid h
 have HO := Lib.hid (stl_oi h)
 obtain ⟨Ap, cp, Ai, ci, Au, cu, Aa, ca, rfl, rfl, rfl, rfl, ⟨p1, p2⟩, ⟨i1, i2⟩, ⟨u1, u2⟩, -⟩ := h.form
 clear h
 have d0 : ((p.params.length : Int) == 0) = true := beq_iff_eq.2 (by omega)
 have HT : Hid _ := fun x y W hW => four_at w x y base hbase W hW
 clear h0
 go_enter Tryz.func169, Tryz.ntmps169
 go_wp2_with (at_builtin; obtain ⟨t0, t1, t2, t3, t4, t5⟩ := HT.out _ _ _ rfl; refine wpl_appI _ rfl (.tmp 15) (.tmp 16) rfl base _ _ _ [0] [0] rfl rfl t4 t5 (by simp) t3.2 ?_; intro v3 w3 ho3 hg3 hb3 hv3; obtain ⟨c0, c1, c2, c3, c4, cf⟩ := five_cells (row_grown hg3 t0 (fun k e => by have e2 : some (w.heap.size + 1 + 1) = some k := e; injection e2 with e2; omega)); obtain ⟨e0, e1, e2, e3, e4, ef⟩ := five_cells (row_grown hg3 t1 (fun k e => by have e2 : some (w.heap.size + 1 + 1) = some k := e; injection e2 with e2; omega)); have hp3 := nums_post (x0 := v3) (ps := [0, 0]) H.out ho3 t2 t3.1 hg3 (.inr ⟨w.heap.size + 1 + 1, rfl, Nat.le_refl _⟩) hv3; obtain ⟨A3, n3, rfl, -, -⟩ := ho3.sl.form; have HP := Lib.hid hp3; clear t0 t1 t2 t3 t4 t5 ho3 hg3 hb3 hv3 hp3)
 exact bodyPost_ret (v := .agg #[.int .i64 (p.mode : Int), .int .u8 (p.priv : Int), .slice A3 2 n3, .slice Ai p.inter.length ci, .slice Au p.utf.length cu]) (by simp [results, Tryz.results169, go_sem, e0, e1, e2, e3, e4]) rfl HP.out
end Go.Proofs.YtlolgfgcgfjdjaaGreatDoor

namespace Go.Proofs.YtlolgfgcgfjdjaaGreatDoor
open Go.RowKit
set_option linter.unusedVariables false
set_option linter.unusedSimpArgs false
set_option maxHeartbeats 1000000
set_option maxRecDepth 100000
theorem PPost.drew {w w' : World} {base : Nat} {B : Nat → Prop} {r : Pr} {av : Value} {l : List Ac} {e : Ending} (h : PPost w base B r av l e w') : PPost w base B r av l e w'.drew := by
 obtain ⟨B', Ap, cp, Ai, ci, Au, cu, he, h1, h2, h3⟩ := h
 exact ⟨B', Ap, cp, Ai, ci, Au, cu, he, h1.keep (fun _ _ => rfl), h2, h3.drew⟩
theorem VPost.drew {w w' : World} {base : Nat} {B : Nat → Prop} {r : Pr} {l : List Ac} {e : Ending} (h : VPost w base B r l e w') : VPost w base B r l e w'.drew := by
 obtain ⟨B', Ap, cp, Ai, ci, Au, cu, Aa, ca, he, h1, h2, h3⟩ := h
 exact ⟨B', Ap, cp, Ai, ci, Au, cu, Aa, ca, he, h1.keep (fun _ _ => rfl), h2, h3.drew⟩
theorem digP_of {l : List Int} {d : Nat} {x M : Int} (h0 : 0 < l.length) (hx : l[l.length - 1]? = some x) (hM : (if 65535 < 10 * x + (d : Int) then 65535 else 10 * x + (d : Int)) = M) : l.set (l.length - 1) M = digP l (48 + d) := by
 unfold digP
 have e : l.getD (l.length - 1) 0 = x := by simp [List.getD, hx]
 rw [e, ← hM]
 show l.set (l.length - 1) _ = l.set (l.length - 1) _
 congr 1
 split <;> omega
theorem dig_some (vp vi vu av : Value) (p : Pr) (d : Nat) (l : List Ac) (base : Nat) (B : Nat → Prop) (w : World) (h : StL w base B vp vi vu av p.params p.inter p.utf l) (hbase : base ≤ w.heap.size) (h0 : 0 < p.params.length) (hd : d < 10) (hpr : ∀ x ∈ p.params, 0 ≤ x ∧ x ≤ 65535) :
  Calls Tryz.prog 168 #[.agg #[.int .i64 (p.mode : Int), .int .u8 (p.priv : Int), vp, vi, vu], .int .i64 (d : Int)] w (PPost w base B { p with params := digP p.params (48 + d) } av l) := by
 have H := Lib.hid h
 have HO := Lib.hid (stl_oi h)
 obtain ⟨Ap, cp, Ai, ci, Au, cu, Aa, ca, rfl, rfl, rfl, rfl, ⟨p1, p2⟩, ⟨i1, i2⟩, ⟨u1, u2⟩, -⟩ := h.form
 obtain ⟨g, q, hgq, q1, q2, hgg⟩ := (stl_oi h).formed h0
 injection hgq with hA hn hc
 subst hA
 subst hc
 have hgl : g < w.heap.size := (World.ownsRow.lt (stl_oi h) g rfl).2
 clear h
 have d0 : ((p.params.length : Int) == 0) = false := beq_eq_false_iff_ne.2 (by omega)
 have hlast : p.params.length - 1 < p.params.length := by omega
 obtain ⟨x0, x1⟩ := hpr (p.params[p.params.length - 1]) (List.getElem_mem hlast)
 obtain ⟨x, hx⟩ : ∃ x, p.params[p.params.length - 1] = x := ⟨_, rfl⟩
 rw [hx] at x0 x1
 obtain ⟨M, hM⟩ : ∃ M, (if 65535 < 10 * x + (d : Int) then 65535 else 10 * x + (d : Int)) = M := ⟨_, rfl⟩
 have HM := Lib.hid (digP_of h0 (by rw [List.getElem?_eq_getElem hlast, hx]) hM)
 have cl0 := HO.out.cellAt (p.params.length - 1) hlast
 rw [hx] at cl0
 have fl0 := HO.out.frozenAt (p.params.length - 1)
 have HT := Lib.hid (two_at w)
 have HN := Lib.hid (two_new w)
 clear hx hpr
 go_enter Tryz.func168, Tryz.ntmps168
 go_upto_region 4 with fail
 obtain ⟨t0, t1⟩ := HT.out (.cells #[.int .i64 (p.mode : Int), .int .u8 (p.priv : Int), .slice (some ⟨g, 0, none⟩) p.params.length cp, .slice Ai p.inter.length ci, .slice Au p.utf.length cu] 29) (.cells #[.int .i64 0, .int .u8 0, .slice none 0 0, .slice none 0 0, .slice none 0 0] 29)
 obtain ⟨t2, t3⟩ := HN.out (.cells #[.int .i64 (p.mode : Int), .int .u8 (p.priv : Int), .slice (some ⟨g, 0, none⟩) p.params.length cp, .slice Ai p.inter.length ci, .slice Au p.utf.length cu] 29) (.cells #[.int .i64 0, .int .u8 0, .slice none 0 0, .slice none 0 0, .slice none 0 0] 29)
 have cl := (t2.cell (p := ⟨g, p.params.length - 1, none⟩) hgl).trans cl0
 have fl := (t2.frozen (p := ⟨g, p.params.length - 1, none⟩) hgl).trans fl0
 generalize (w.alloc _).alloc _ = W at *
 have ho := HO.out.below t2
 have HO2 := Lib.hid ho
 have HB2 := Lib.hid t2
 have HZ := Lib.hid t3
 obtain ⟨c0, c1, c2, c3, c4, cf⟩ := five_cells t0
 obtain ⟨e0, e1, e2, e3, e4, ef⟩ := five_cells t1
 unfold vI at cl
 have n1 : ¬ g = w.heap.size := (by omega)
 have n2 : ¬ g = w.heap.size + 1 := (by omega)
 have n3 : ¬ w.heap.size = g := (by omega)
 have n4 : ¬ w.heap.size + 1 = g := (by omega)
 clear t0 t1 t2 t3 ho cl0 fl0
 go_region
 go_wp2
 have hpo : PPost w base B { p with params := digP p.params (48 + d) } (.slice Aa l.length ca) l (.returned (.agg #[.int .i64 (p.mode : Int), .int .u8 (p.priv : Int), .slice (some ⟨g, 0, none⟩) p.params.length cp, .slice Ai p.inter.length ci, .slice Au p.utf.length cu])) (wset w (W.setCell ⟨g, p.params.length - 1, none⟩ (.int .i64 M)) (.int .i64 (p.mode : Int)) (.int .u8 (p.priv : Int)) (.slice (some ⟨g, 0, none⟩) p.params.length cp) (.slice Ai p.inter.length ci) (.slice Au p.utf.length cu)).drew := by
  have hst := HO2.out.stored (p.params.length - 1) M
  rw [HM.out] at hst
  have hz := HZ.out
  obtain ⟨B', h1, h2, h3⟩ := nums_core (w2 := W.setCell ⟨g, p.params.length - 1, none⟩ (.int .i64 M)) (row := some g) H.out hst HB2.out (by omega) (grown_set W g (p.params.length - 1) (.int .i64 M)) (.inl rfl) (.inl rfl)
  exact PPost.drew (pend_w (fun x hx => (H.out.lt x hx).2) h1 h2 h3 ⟨rfl, rfl, rfl, rfl, rfl⟩)
 exact bodyPost_ret (v := .agg #[.int .i64 (p.mode : Int), .int .u8 (p.priv : Int), .slice (some ⟨g, 0, none⟩) p.params.length cp, .slice Ai p.inter.length ci, .slice Au p.utf.length cu]) (by simp [results, Tryz.results168, go_sem, e0, e1, e2, e3, e4]) rfl hpo
theorem three_atI (w : World) (x y : Obj) (base : Nat) (hb : base ≤ w.heap.size) (W : World) (hW : ((w.alloc x).alloc y).alloc (.cells #[.int .i64 0] 3) = W) :
  W.heap[w.heap.size]? = some x ∧ W.heap[w.heap.size + 1]? = some y ∧ Below w.heap.size w W ∧ W.heap.size = w.heap.size + 1 + 1 + 1 ∧ OI W base (.slice (some ⟨w.heap.size + 1 + 1, 0, none⟩) [(0 : Int)].length 1) [0] := by
 subst hW
 have h2 := two_new w x y
 have h3 := three_new w x y (.cells #[.int .i64 0] 3)
 have h := three_kept3 (w := w) (x := x) (y := y) (z := .cells #[.int .i64 0] 3) (Below.refl _ _)
 have ho := oi_one ((w.alloc x).alloc y) base 0 (by omega)
 rw [h2.2] at ho
 exact ⟨h.1, h.2.1, h3.1, h3.2, ho⟩
theorem dig_none (vp vi vu av : Value) (p : Pr) (d : Nat) (l : List Ac) (base : Nat) (B : Nat → Prop) (w : World) (h : StL w base B vp vi vu av p.params p.inter p.utf l) (hbase : base ≤ w.heap.size) (h0 : p.params.length = 0) (hd : d < 10) :
  Calls Tryz.prog 168 #[.agg #[.int .i64 (p.mode : Int), .int .u8 (p.priv : Int), vp, vi, vu], .int .i64 (d : Int)] w (PPost w base B { p with params := [(d : Int)] } av l) := by
 have H := Lib.hid h
 obtain ⟨Ap, cp, Ai, ci, Au, cu, Aa, ca, rfl, rfl, rfl, rfl, ⟨p1, p2⟩, ⟨i1, i2⟩, ⟨u1, u2⟩, -⟩ := h.form
 clear h
 have d0 : ((p.params.length : Int) == 0) = true := beq_iff_eq.2 (by omega)
 have d9 : ¬ 65535 < (d : Int) := by omega
 have HT : Hid _ := fun x y W hW => three_atI w x y base hbase W hW
 clear h0
 go_enter Tryz.func168, Tryz.ntmps168
 go_upto_region 4 with fail
 obtain ⟨t0, t1, t2, t3, t4⟩ := HT.out _ _ _ rfl
 generalize ((w.alloc _).alloc _).alloc _ = W at *
 have cl := t4.cellAt 0 (by simp)
 have fl := t4.frozenAt 0
 have HO2 := Lib.hid t4
 have HB2 := Lib.hid t2
 have HZ := Lib.hid t3
 obtain ⟨c0, c1, c2, c3, c4, cf⟩ := five_cells t0
 obtain ⟨e0, e1, e2, e3, e4, ef⟩ := five_cells t1
 replace cl : W.cell? ⟨w.heap.size + 1 + 1, 0, none⟩ = some (.int .i64 0) := cl
 clear t0 t1 t2 t3 t4
 go_region
 go_wp2
 have hpo : PPost w base B { p with params := [(d : Int)] } (.slice Aa l.length ca) l (.returned (.agg #[.int .i64 (p.mode : Int), .int .u8 (p.priv : Int), .slice (some ⟨w.heap.size + 1 + 1, 0, none⟩) 1 1, .slice Ai p.inter.length ci, .slice Au p.utf.length cu])) (wset w (W.setCell ⟨w.heap.size + 1 + 1, 0, none⟩ (.int .i64 (d : Int))) (.int .i64 (p.mode : Int)) (.int .u8 (p.priv : Int)) (.slice (some ⟨w.heap.size + 1 + 1, 0, none⟩) 1 1) (.slice Ai p.inter.length ci) (.slice Au p.utf.length cu)).drew := by
  have hst := HO2.out.stored 0 (d : Int)
  have hz := HZ.out
  obtain ⟨B', h1, h2, h3⟩ := nums_core (w2 := W.setCell ⟨w.heap.size + 1 + 1, 0, none⟩ (.int .i64 (d : Int))) (row := some (w.heap.size + 1 + 1)) H.out hst HB2.out (by omega) (grown_set W (w.heap.size + 1 + 1) 0 (.int .i64 (d : Int))) (.inr ⟨_, rfl, Nat.le_refl _⟩) (.inl rfl)
  exact PPost.drew (pend_w (fun x hx => (H.out.lt x hx).2) h1 h2 h3 ⟨rfl, rfl, rfl, rfl, rfl⟩)
 exact bodyPost_ret (v := .agg #[.int .i64 (p.mode : Int), .int .u8 (p.priv : Int), .slice (some ⟨w.heap.size + 1 + 1, 0, none⟩) 1 1, .slice Ai p.inter.length ci, .slice Au p.utf.length cu]) (by simp [results, Tryz.results168, go_sem, e0, e1, e2, e3, e4]) rfl hpo
end Go.Proofs.YtlolgfgcgfjdjaaGreatDoor

namespace Go.Proofs.YtlolgfgcgfjdjaaGreatDoor
open Go.RowKit
set_option linter.unusedVariables false
set_option linter.unusedSimpArgs false
set_option maxHeartbeats 1000000
set_option maxRecDepth 100000
theorem kept_two {w w4 : World} {B : Nat → Prop} {x y : Obj} (hlt : ∀ x, B x → x < w.heap.size) (hF : Fr B ((w.alloc x).alloc y) w4) : w4.heap[w.heap.size]? = some x ∧ w4.heap[w.heap.size + 1]? = some y := by
 obtain ⟨h0, h1⟩ := two_at w x y
 have hs := (two_new w x y).2
 exact ⟨(hF.block _ (by omega) (fun hb => by have := hlt _ hb; omega)).trans h0, (hF.block _ (by omega) (fun hb => by have := hlt _ hb; omega)).trans h1⟩
theorem kept_in {w w4 : World} {base : Nat} {B B' : Nat → Prop} {x y : Obj} (hB : ∀ z, B' z → B z ∨ ((w.alloc x).alloc y).heap.size ≤ z) (hF : Fr B ((w.alloc x).alloc y) w4) : (∀ z, B' z → B z ∨ w.heap.size + 1 + 1 ≤ z) ∧ Fr B w w4 := by
 have hs := two_new w x y
 exact ⟨fun z hz => (hB z hz).imp id (fun h => by omega), (Fr.of hs.1 B).trans hF (fun z hz => .inl hz)⟩
theorem hand_p {w w4 : World} {base : Nat} {B B' : Nat → Prop} {x y : Obj} {vp vi vu av : Value} {ps : List Int} {is us : List UInt8} {l : List Ac} {r : Pr} {m pv : Int} (hlt : ∀ x, B x → x < w.heap.size) (h : StL w4 base B' vp vi vu av ps is us l) (hB : ∀ z, B' z → B z ∨ ((w.alloc x).alloc y).heap.size ≤ z) (hF : Fr B ((w.alloc x).alloc y) w4) (hr : r.params = ps ∧ r.inter = is ∧ r.utf = us ∧ (r.mode : Int) = m ∧ (r.priv : Int) = pv) :
  PPost w base B r av l (.returned (.agg #[.int .i64 m, .int .u8 pv, vp, vi, vu])) (wset w w4 (.int .i64 m) (.int .u8 pv) vp vi vu) := by
 obtain ⟨h1, h2⟩ := kept_in (base := base) hB hF
 exact pend_w hlt h h1 h2 hr
theorem hand_v {w w4 : World} {base : Nat} {B B' : Nat → Prop} {x y : Obj} {vp vi vu av : Value} {ps : List Int} {is us : List UInt8} {l : List Ac} {r : Pr} {m pv : Int} (hlt : ∀ x, B x → x < w.heap.size) (h : StL w4 base B' vp vi vu av ps is us l) (hB : ∀ z, B' z → B z ∨ ((w.alloc x).alloc y).heap.size ≤ z) (hF : Fr B ((w.alloc x).alloc y) w4) (hr : r.params = ps ∧ r.inter = is ∧ r.utf = us ∧ (r.mode : Int) = m ∧ (r.priv : Int) = pv) :
  VPost w base B r l (.returned (.tuple #[.agg #[.int .i64 m, .int .u8 pv, vp, vi, vu], av])) (wset w w4 (.int .i64 m) (.int .u8 pv) vp vi vu) := by
 obtain ⟨h1, h2⟩ := kept_in (base := base) hB hF
 exact vend_w hlt h h1 h2 hr
theorem par_dig (vp vi vu av : Value) (p r : Pr) (b : UInt8) (d : Nat) (l : List Ac) (base : Nat) (B : Nat → Prop) (w : World) (h : StL w base B vp vi vu av p.params p.inter p.utf l) (hd : (b.toNat : Int) - 48 = (d : Int)) (hd0 : (48 : Int) ≤ (b.toNat : Int)) (hd9 : (b.toNat : Int) ≤ 57)
  (hc : ∀ W, StL W base B vp vi vu av p.params p.inter p.utf l → w.heap.size ≤ W.heap.size → Calls Tryz.prog 168 #[.agg #[.int .i64 (p.mode : Int), .int .u8 (p.priv : Int), vp, vi, vu], .int .i64 (d : Int)] W (PPost W base B r av l)) :
  Calls Tryz.prog 155 #[.agg #[.int .i64 (p.mode : Int), .int .u8 (p.priv : Int), vp, vi, vu], .int .u8 (b.toNat : Int)] w (PPost w base B r av l) := by
 have H := Lib.hid h
 have HL : Hid (∀ x, B x → x < w.heap.size) := fun x hx => (h.lt x hx).2
 have HC := Lib.hid hc
 obtain ⟨Ap, cp, Ai, ci, Au, cu, Aa, ca, rfl, rfl, rfl, rfl, -⟩ := h.form
 clear h hc
 go_enter Tryz.func155, Tryz.ntmps155
 go_wp2_with (go_at_call 168; refine (HC.out _ (H.out.below (two_new w _ _).1) (two_new w _ _).1.size).mono ?_; rintro e w4 ⟨B', Bp, np, Bi, ni, Bu, nu, rfl, hst, hB, hF⟩; obtain ⟨k0, k1⟩ := kept_two HL.out hF; obtain ⟨e0, e1, e2, e3, e4, ef⟩ := five_cells k1; have HP := Lib.hid (hand_p (r := r) HL.out hst hB hF ⟨rfl, rfl, rfl, rfl, rfl⟩); clear hst hB hF k0 k1)
 exact bodyPost_ret (v := .agg #[.int .i64 (r.mode : Int), .int .u8 (r.priv : Int), .slice Bp r.params.length np, .slice Bi r.inter.length ni, .slice Bu r.utf.length nu]) (by simp [results, Tryz.results155, go_sem, e0, e1, e2, e3, e4]) rfl HP.out
theorem par_semi (vp vi vu av : Value) (p r : Pr) (b : UInt8) (l : List Ac) (base : Nat) (B : Nat → Prop) (w : World) (h : StL w base B vp vi vu av p.params p.inter p.utf l) (hb : b.toNat = 59)
  (hc : ∀ W, StL W base B vp vi vu av p.params p.inter p.utf l → w.heap.size ≤ W.heap.size → Calls Tryz.prog 169 #[.agg #[.int .i64 (p.mode : Int), .int .u8 (p.priv : Int), vp, vi, vu]] W (PPost W base B r av l)) :
  Calls Tryz.prog 155 #[.agg #[.int .i64 (p.mode : Int), .int .u8 (p.priv : Int), vp, vi, vu], .int .u8 (b.toNat : Int)] w (PPost w base B r av l) := by
 have H := Lib.hid h
 have HL : Hid (∀ x, B x → x < w.heap.size) := fun x hx => (h.lt x hx).2
 have HC := Lib.hid hc
 obtain ⟨Ap, cp, Ai, ci, Au, cu, Aa, ca, rfl, rfl, rfl, rfl, -⟩ := h.form
 clear h hc
 have d0 : (48 : Int) ≤ (b.toNat : Int) := by omega
 have d1 : decide ((b.toNat : Int) ≤ 57) = false := by simp; omega
 have d2 : ((b.toNat : Int) == 59) = true := beq_iff_eq.2 (by omega)
 clear hb
 go_enter Tryz.func155, Tryz.ntmps155
 go_wp2_with (go_at_call 169; refine (HC.out _ (H.out.below (two_new w _ _).1) (two_new w _ _).1.size).mono ?_; rintro e w4 ⟨B', Bp, np, Bi, ni, Bu, nu, rfl, hst, hB, hF⟩; obtain ⟨k0, k1⟩ := kept_two HL.out hF; obtain ⟨e0, e1, e2, e3, e4, ef⟩ := five_cells k1; have HP := Lib.hid (hand_p (r := r) HL.out hst hB hF ⟨rfl, rfl, rfl, rfl, rfl⟩); clear hst hB hF k0 k1)
 exact bodyPost_ret (v := .agg #[.int .i64 (r.mode : Int), .int .u8 (r.priv : Int), .slice Bp r.params.length np, .slice Bi r.inter.length ni, .slice Bu r.utf.length nu]) (by simp [results, Tryz.results155, go_sem, e0, e1, e2, e3, e4]) rfl HP.out
theorem par_mark (vp vi vu av : Value) (p : Pr) (b : UInt8) (l : List Ac) (base : Nat) (B : Nat → Prop) (w : World) (h : StL w base B vp vi vu av p.params p.inter p.utf l) (hb : 58 ≤ b.toNat) (hb9 : b.toNat ≠ 59) :
  Calls Tryz.prog 155 #[.agg #[.int .i64 (p.mode : Int), .int .u8 (p.priv : Int), vp, vi, vu], .int .u8 (b.toNat : Int)] w (PPost w base B (if b.toNat = 58 then prM 6 else if 0 < p.params.length ∨ p.priv ≠ 0 then prM 6 else { p with priv := b.toNat }) av l) := by
 have H := Lib.hid h
 obtain ⟨Ap, cp, Ai, ci, Au, cu, Aa, ca, rfl, rfl, rfl, rfl, -⟩ := h.form
 clear h
 have d0 : (48 : Int) ≤ (b.toNat : Int) := by omega
 have d1 : decide ((b.toNat : Int) ≤ 57) = false := by simp; omega
 have d2 : ((b.toNat : Int) == 59) = false := beq_eq_false_iff_ne.2 (by omega)
 clear hb9
 split
 ·have d3 : ((b.toNat : Int) != 58) = false := by rw [bne, show ((b.toNat : Int) == 58) = true from beq_iff_eq.2 (by omega)]; rfl
  rename_i hb8
  clear hb8
  go_enter Tryz.func155, Tryz.ntmps155
  go_wp2
  exact bodyPost_ret (v := .agg #[.int .i64 6, .int .u8 0, .slice none 0 0, .slice none 0 0, .slice none 0 0]) (by simp [results, Tryz.results155, go_sem]) rfl (PPost.zero H.out (two_new w _ _).1 6 rfl)
 ·have d3 : ((b.toNat : Int) != 58) = true := by rw [bne, show ((b.toNat : Int) == 58) = false from beq_eq_false_iff_ne.2 (by omega)]; rfl
  rename_i hb8
  clear hb8
  by_cases hp : p.params.length = 0
  ·have d4 : ((p.params.length : Int) == 0) = true := beq_iff_eq.2 (by omega)
   by_cases hv : p.priv = 0
   ·have d5 : ((p.priv : Int) == 0) = true := beq_iff_eq.2 (by omega)
    rw [if_neg (by omega)]
    clear hp hv
    go_enter Tryz.func155, Tryz.ntmps155
    go_wp2
    exact bodyPost_ret (v := .agg #[.int .i64 (p.mode : Int), .int .u8 (b.toNat : Int), .slice Ap p.params.length cp, .slice Ai p.inter.length ci, .slice Au p.utf.length cu]) (by simp [results, Tryz.results155, go_sem]) rfl (PPost.same (r := { p with priv := b.toNat }) H.out (two_new w _ _).1)
   ·have d5 : ((p.priv : Int) == 0) = false := beq_eq_false_iff_ne.2 (by omega)
    rw [if_pos (.inr hv)]
    clear hp hv
    go_enter Tryz.func155, Tryz.ntmps155
    go_wp2
    exact bodyPost_ret (v := .agg #[.int .i64 6, .int .u8 0, .slice none 0 0, .slice none 0 0, .slice none 0 0]) (by simp [results, Tryz.results155, go_sem]) rfl (PPost.zero H.out (two_new w _ _).1 6 rfl)
  ·have d4 : ((p.params.length : Int) == 0) = false := beq_eq_false_iff_ne.2 (by omega)
   rw [if_pos (.inl (by omega))]
   clear hp
   go_enter Tryz.func155, Tryz.ntmps155
   go_wp2
   exact bodyPost_ret (v := .agg #[.int .i64 6, .int .u8 0, .slice none 0 0, .slice none 0 0, .slice none 0 0]) (by simp [results, Tryz.results155, go_sem]) rfl (PPost.zero H.out (two_new w _ _).1 6 rfl)
theorem par_any (vp vi vu av : Value) (p : Pr) (b : UInt8) (l : List Ac) (base : Nat) (B : Nat → Prop) (w : World) (h : StL w base B vp vi vu av p.params p.inter p.utf l) (hbase : base ≤ w.heap.size) (hok : PrOk p) (hm : p.mode = 4) (hb0 : 48 ≤ b.toNat) (hb1 : b.toNat < 64) :
  Calls Tryz.prog 155 #[.agg #[.int .i64 (p.mode : Int), .int .u8 (p.priv : Int), vp, vi, vu], .int .u8 (b.toNat : Int)] w (PPost w base B (csiL p b).1 av l) := by
 have hni := inter_no b (.inr (by omega))
 by_cases h9 : b.toNat ≤ 57
 ·obtain ⟨d, hd⟩ : ∃ d : Nat, (b.toNat : Int) - 48 = (d : Int) := ⟨b.toNat - 48, by omega⟩
  have e : (csiL p b).1 = { p with params := digP (oneP p.params) (48 + d) } := by
   have e1 : b.toNat = 48 + d := by omega
   unfold csiL
   rw [if_neg (by omega), if_neg (by rw [hni]; simp), if_neg (by omega), if_neg (by omega), if_neg (by omega), e1]
  rw [e]
  refine par_dig vp vi vu av p _ b d l base B w h hd (by omega) (by omega) fun W hW hz => ?_
  rcases Nat.eq_zero_or_pos p.params.length with h0 | h0
  ·have e2 : digP (oneP p.params) (48 + d) = [(d : Int)] := by
    rw [oneP_none _ h0]
    unfold digP
    simp
    omega
   rw [e2]
   exact dig_none vp vi vu av p d l base B W hW (by omega) h0 (by omega)
  ·rw [oneP_some _ h0]
   exact dig_some vp vi vu av p d l base B W hW (by omega) h0 (by omega) hok.each
 ·by_cases h59 : b.toNat = 59
  ·have e : (csiL p b).1 = if 16 ≤ (oneP p.params).length then prM 6 else { p with params := oneP p.params ++ [0] } := by
    unfold csiL
    rw [if_neg (by omega), if_neg (by rw [hni]; simp), if_neg (by omega), if_neg (by omega), if_pos h59]
    split <;> rfl
   rw [e]
   refine par_semi vp vi vu av p _ b l base B w h h59 fun W hW hz => ?_
   rcases Nat.eq_zero_or_pos p.params.length with h0 | h0
   ·rw [oneP_none _ h0, if_neg (by simp)]
    exact more_none vp vi vu av p l base B W hW (by omega) h0
   ·rw [oneP_some _ h0]
    exact more_some vp vi vu av p l base B W hW (by omega) h0
  ·have e : (csiL p b).1 = if b.toNat = 58 then prM 6 else if 0 < p.params.length ∨ p.priv ≠ 0 then prM 6 else { p with priv := b.toNat } := by
    unfold csiL
    rw [if_neg (by omega), if_neg (by rw [hni]; simp)]
    by_cases h58 : b.toNat = 58
    ·rw [if_pos (.inr h58), if_pos h58]
    ·rw [if_neg (by omega), if_neg h58, if_pos (by omega)]
     split <;> rfl
   rw [e]
   exact par_mark vp vi vu av p b l base B w h (by omega) h59
end Go.Proofs.YtlolgfgcgfjdjaaGreatDoor

namespace Go.Proofs.YtlolgfgcgfjdjaaGreatDoor
open Go.RowKit
set_option linter.unusedVariables false
set_option linter.unusedSimpArgs false
set_option maxHeartbeats 1000000
set_option maxRecDepth 100000
def wsg (g : Nat) (w5 : World) (y0 y1 y2 y3 y4 : Value) : World := ((((w5.setCell ⟨g, 0, none⟩ y0).setCell ⟨g, 1, none⟩ y1).setCell ⟨g, 2, none⟩ y2).setCell ⟨g, 3, none⟩ y3).setCell ⟨g, 4, none⟩ y4
theorem wsg_heap {g : Nat} {w5 : World} {y0 y1 y2 y3 y4 : Value} (x : Nat) (h1 : x ≠ g) : (wsg g w5 y0 y1 y2 y3 y4).heap[x]? = w5.heap[x]? := by
 unfold wsg
 have e (W : World) (k : Nat) (y : Value) : (W.setCell ⟨g, k, none⟩ y).heap[x]? = W.heap[x]? := Below.heap_setCell _ _ _ _ h1
 rw [e, e, e, e, e]
theorem wsg_fr {w w5 : World} {g : Nat} {y0 y1 y2 y3 y4 : Value} {B : Nat → Prop} (h : Fr B w w5) (hg : w.heap.size ≤ g) : Fr B w (wsg g w5 y0 y1 y2 y3 y4) :=
 ((((h.setCell (.inr hg) _).setCell (.inr hg) _).setCell (.inr hg) _).setCell (.inr hg) _).setCell (.inr hg) _
section
variable {w W w4 : World} {base g : Nat} {B B' : Nat → Prop} {vp vi vu av av' : Value} {ps : List Int} {is us : List UInt8} {l m : List Ac} {r : Pr} {mm pv : Int} {S T : Nat → Prop}
theorem vend_g (h : StL w4 base B' vp vi vu av ps is us l) (hB : ∀ x, B' x → B x ∨ w.heap.size ≤ x) (hF : Fr B w w4) (hg : w.heap.size ≤ g) (hgB : ¬ B' g) (hr : r.params = ps ∧ r.inter = is ∧ r.utf = us ∧ (r.mode : Int) = mm ∧ (r.priv : Int) = pv) :
  VPost w base B r l (.returned (.tuple #[.agg #[.int .i64 mm, .int .u8 pv, vp, vi, vu], av])) (wsg g w4 (.int .i64 mm) (.int .u8 pv) vp vi vu) :=
 VPost.of (h.keep (fun x hx => wsg_heap x (fun e => hgB (by rw [← e]; exact hx)))) hr hB (wsg_fr hF hg)
theorem act_end (n : Nat) (hn : (n : Int) = mm) (h : StL w base B vp vi vu av ps is us l) (hb : Below w.heap.size w W) (hg : w.heap.size ≤ g ∧ g < W.heap.size) (hST : ∀ x, S x ∨ T x → B x) (ho : OA w4 base (fun x => S x ∨ T x) av' (l ++ m)) (hgr : W.grownBy w4 av.ownBlock) (hv : av'.ownBlock = av.ownBlock ∨ av'.ownBlock = some W.heap.size) (hbase : base ≤ w.heap.size) :
  VPost w base B (prM n) (l ++ m) (.returned (.tuple #[.agg #[.int .i64 mm, .int .u8 0, .slice none 0 0, .slice none 0 0, .slice none 0 0], av'])) (wsg g w4 (.int .i64 mm) (.int .u8 0) (.slice none 0 0) (.slice none 0 0) (.slice none 0 0)) := by
 have hW := h.below hb
 have hav : ∀ x, av.ownBlock = some x → B x := fun x e => by obtain ⟨S', -, -, -, -, -, h6⟩ := h; exact h6 x e
 obtain ⟨B', hst, hB'⟩ := hW.more (fun x hx => hST x (.inl hx)) hST ho hgr (fun x e => by
  rcases hv with e2 | e2
  ·rw [e2] at e; exact .inl (hav x e)
  ·rw [e2] at e; injection e with e; exact .inr (by omega)) (Nat.le_trans hbase hb.size)
 refine vend_g hst (fun x hx => (hB' x hx).imp id (fun h => by have := hb.size; omega)) ((Fr.of hb B).grown hgr (fun k e => .inl (hav k e))) hg.1 (fun hx => ?_) ⟨rfl, rfl, rfl, hn, rfl⟩
 rcases hB' g hx with h1 | h1
 ·have := (h.lt g h1).2; omega
 ·omega
end
theorem OI.slO {w : World} {base : Nat} {v : Value} {l : List Int} (h : OI w base v l) : SL vI w (fun x => v.ownBlock = some x) v l := by
 obtain ⟨A, c, hv, h1, h2, h3⟩ := h.sl
 refine ⟨A, c, hv, h1, h2, fun hl => ?_⟩
 obtain ⟨ad, hA, hb, hc⟩ := h3 hl
 exact ⟨ad, hA, by rw [hv, hA]; rfl, hc⟩
theorem OB.slO {w : World} {base : Nat} {v : Value} {l : List UInt8} (h : OB w base v l) : SL vB w (fun x => v.ownBlock = some x) v l := by
 obtain ⟨A, c, hv, h1, h2, h3⟩ := h.sl
 refine ⟨A, c, hv, h1, h2, fun hl => ?_⟩
 obtain ⟨ad, hA, hb, hc⟩ := h3 hl
 exact ⟨ad, hA, by rw [hv, hA]; rfl, hc⟩
theorem act_laid {w W : World} {base g : Nat} {B : Nat → Prop} {vp vi vu av : Value} {ps : List Int} {is us : List UInt8} {l : List Ac} (h : StL w base B vp vi vu av ps is us l) (hb : Below w.heap.size w W) (hg : W.heap.size = g) (a : Ac) (xp xi : Value) (hp : xp = vp ∧ a.params = ps ∨ xp = .slice none 0 0 ∧ a.params = []) (hi : xi = vi ∧ a.inter = is ∨ xi = .slice none 0 0 ∧ a.inter = []) (t : TypeId) (W2 : World) (hW2 : W.alloc (.cells #[.int .i64 (a.kind : Int), .int .i32 a.r, .int .u8 (a.b : Int), .int .u8 (a.priv : Int), xp, xi] t) = W2) :
  ∃ S T, OA W2 base S av l ∧ AS W2 (fun x => x = g) T (.slice (some ⟨g, 0, none⟩) 1 1) [a] ∧ (∀ x, S x → x < W2.heap.size) ∧ (∀ x, T x → x < W2.heap.size) ∧ (∀ x, av.ownBlock = some x → ¬ T x) ∧ (∀ x, S x ∨ T x → B x) ∧ Below w.heap.size w W2 ∧ W2.heap.size = g + 1 := by
 subst hW2
 subst hg
 obtain ⟨S, ⟨a1, a2, a3, a4⟩, h2, h3, h4, h5, h6⟩ := h
 have hb2 : Below w.heap.size w (W.alloc (.cells #[.int .i64 (a.kind : Int), .int .i32 a.r, .int .u8 (a.b : Int), .int .u8 (a.priv : Int), xp, xi] t)) := hb.alloc hb.size _
 have hz : (W.alloc (.cells #[.int .i64 (a.kind : Int), .int .i32 a.r, .int .u8 (a.b : Int), .int .u8 (a.priv : Int), xp, xi] t)).heap.size = W.heap.size + 1 := by simp
 have hzw := hb.size
 refine ⟨S, fun x => vp.ownBlock = some x ∨ vi.ownBlock = some x, a4.below (fun x hx => (h3 x (h2 x hx)).2) hb2, AS.one W _ a xp xi t ?_ ?_ ?_, fun x hx => by have := (h3 x (h2 x hx)).2; omega, fun x hx => ?_, fun x e hx => ?_, fun x hx => ?_, hb2, hz⟩
 ·rcases hp with ⟨rfl, e⟩ | ⟨rfl, e⟩
  ·rw [e]; exact (a1.slO.keep (fun q hq => hb.cell (h3 _ (h4 _ hq).1).2)).mono (fun x hx => .inl hx)
  ·rw [e]; exact SL.nil _ _ _
 ·rcases hi with ⟨rfl, e⟩ | ⟨rfl, e⟩
  ·rw [e]; exact (a2.slO.keep (fun q hq => hb.cell (h3 _ (h5 _ hq).1).2)).mono (fun x hx => .inr hx)
  ·rw [e]; exact SL.nil _ _ _
 ·intro x hx
  rcases hx with hx | hx
  ·have := (h3 x (h4 x hx).1).2; omega
  ·have := (h3 x (h5 x hx).1).2; omega
 ·rcases hx with hx | hx
  ·have := (h3 x (h4 x hx).1).2; omega
  ·have := (h3 x (h5 x hx).1).2; omega
 ·obtain ⟨xs, b1, _⟩ := a4
  rcases hx with hx | hx
  ·exact own_apart a1 b1 (by decide) x hx e
  ·exact own_apart a2 b1 (by decide) x hx e
 ·rcases hx with hx | hx | hx
  ·exact h2 x hx
  ·exact (h4 x hx).1
  ·exact (h5 x hx).1
theorem four_row {w W2 : World} {x y z u : Obj} (h : (((w.alloc x).alloc y).alloc z).alloc u = W2) : W2.heap[w.heap.size + 1]? = some y := by
 subst h
 have h3 := three_new w x y z
 exact (Below.heap_alloc _ _ _ (by omega)).trans (three_at w x y z).2.1
theorem three_row {w W2 : World} {x y u : Obj} (h : ((w.alloc x).alloc y).alloc u = W2) : W2.heap[w.heap.size + 1]? = some y := by
 subst h
 exact (three_at w x y u).2.1
theorem two_row {w W2 : World} {y u : Obj} (h : (w.alloc y).alloc u = W2) : W2.heap[w.heap.size]? = some y := by
 subst h
 exact (two_at w y u).1
theorem endCsi_any (vp vi vu av : Value) (p : Pr) (b : UInt8) (l : List Ac) (base : Nat) (B : Nat → Prop) (w : World) (h : StL w base B vp vi vu av p.params p.inter p.utf l) (hbase : base ≤ w.heap.size) (hl : l.length ≤ 1099511627000) :
  Calls Tryz.prog 156 #[.agg #[.int .i64 (p.mode : Int), .int .u8 (p.priv : Int), vp, vi, vu], .int .u8 (b.toNat : Int), av] w (VPost w base B (prM 0) (l ++ [acS p b.toNat])) := by
 have H := Lib.hid h
 obtain ⟨Ap, cp, Ai, ci, Au, cu, Aa, ca, rfl, rfl, rfl, rfl, -⟩ := h.form
 have hav : ∀ x, (Value.slice Aa l.length ca).ownBlock = some x → x < w.heap.size := fun x e => by obtain ⟨S', -, -, h3, -, -, h6⟩ := h; exact (h3 x (h6 x e)).2
 have HAV := Lib.hid hav
 clear h hav
 have HT : Hid _ := fun x y z W2 hW => And.intro (four_row hW) (act_laid H.out (three_new w x y z).1 (three_new w x y z).2 (acS p b.toNat) (.slice Ap p.params.length cp) (.slice Ai p.inter.length ci) (.inl ⟨rfl, rfl⟩) (.inl ⟨rfl, rfl⟩) 72 W2 hW)
 go_enter Tryz.func156, Tryz.ntmps156
 go_wp2_with (at_builtin; obtain ⟨t0, S, T, t1, t2, t3, t4, t5, t6, t7, t8⟩ := HT.out _ _ _ _ rfl; refine wpl_appA _ rfl (.tmp 18) (.tmp 20) rfl base S _ T _ _ l [acS p b.toNat] rfl rfl t1 t2 t3 t4 t5 (by simp; omega) (Nat.le_trans hbase t7.size) ?_; intro v4 w4 ho4 hg4 hb4 hv4; obtain ⟨e0, e1, e2, e3, e4, ef⟩ := five_cells (row_grown hg4 t0 (fun k e => by have := HAV.out k e; omega)); have HP := Lib.hid (act_end (mm := 0) (g := w.heap.size + 1) 0 rfl H.out t7 ⟨Nat.le_succ _, by omega⟩ t6 ho4 hg4 hv4 hbase); obtain ⟨A4, n4, rfl, -, -⟩ := ho4.as.form; clear t0 t1 t2 t3 t4 t5 t6 t7 t8 ho4 hg4 hb4 hv4)
 exact bodyPost_ret (v := .tuple #[.agg #[.int .i64 0, .int .u8 0, .slice none 0 0, .slice none 0 0, .slice none 0 0], .slice A4 (l ++ [acS p b.toNat]).length n4]) (by simp [results, Tryz.results156, go_sem, e0, e1, e2, e3, e4]) rfl HP.out
end Go.Proofs.YtlolgfgcgfjdjaaGreatDoor

namespace Go.Proofs.YtlolgfgcgfjdjaaGreatDoor
open Go.RowKit
set_option linter.unusedVariables false
set_option linter.unusedSimpArgs false
set_option maxHeartbeats 1000000
set_option maxRecDepth 100000
theorem kind_inter {b : UInt8} (h : interB b = true) : kindN b = 1 := by
 have hb : 32 ≤ b.toNat ∧ b.toNat ≤ 47 := by simpa [interB] using h
 unfold kindN
 rw [if_neg (by omega), if_pos (by omega)]
theorem kind_other {b : UInt8} (h : interB b = false) : kindN b ≠ 1 := by
 intro hk
 have hb : ¬ (32 ≤ b.toNat ∧ b.toNat ≤ 47) := by
  intro hb
  rw [inter_yes b hb.1 hb.2] at h
  cases h
 unfold kindN at hk
 repeat' split at hk
 all_goals omega
theorem ob_one (w : World) (base : Nat) (b : UInt8) (hb : base ≤ w.heap.size) : OB (w.alloc (.cells #[.int .u8 (b.toNat : Int)] 5)) base (.slice (some ⟨w.heap.size, 0, none⟩) 1 1) [b] :=
 World.ownsRow_lit (base := base) (e := 5) (size := 1) w #[.int .u8 (b.toNat : Int)] 1 hb (by simp [maxLen]) (by simp)
theorem vend_inter {w W : World} {base g c : Nat} {B : Nat → Prop} {vp vi vu av : Value} {ps : List Int} {is us is' : List UInt8} {l : List Ac} {r : Pr} {mm pv : Int} (h : StL w base B vp vi vu av ps is us l) (hb : Below w.heap.size w W) (hg : w.heap.size ≤ g) (ho : OB W base (.slice (some ⟨g, 0, none⟩) 1 c) is') (hr : r.params = ps ∧ r.inter = is' ∧ r.utf = us ∧ (r.mode : Int) = mm ∧ (r.priv : Int) = pv) :
  VPost w base B r l (.returned (.tuple #[.agg #[.int .i64 mm, .int .u8 pv, vp, .slice (some ⟨g, 0, none⟩) 1 c, vu], av])) W := by
 obtain ⟨B', h1, h2⟩ := h.setI (w' := W) hb.size ho (fun x hx _ => hb.block x (h.lt x hx).2) (.inr ⟨g, rfl, hg⟩)
 exact VPost.of h1 hr (fun x hx => (h2 x hx).imp id (fun e => by have e2 : some g = some x := e; injection e2 with e2; omega)) (Fr.of hb B)
theorem stl_oa {w : World} {base : Nat} {B : Nat → Prop} {vp vi vu av : Value} {ps : List Int} {is us : List UInt8} {l : List Ac} (h : StL w base B vp vi vu av ps is us l) : ∀ x, av.ownBlock = some x → x < w.heap.size := fun x e => by obtain ⟨S', -, -, h3, -, -, h6⟩ := h; exact (h3 x (h6 x e)).2
theorem esc_any (vp vi vu av : Value) (p : Pr) (b : UInt8) (l : List Ac) (base : Nat) (B : Nat → Prop) (w : World) (h : StL w base B vp vi vu av p.params p.inter p.utf l) (hbase : base ≤ w.heap.size) (hl : l.length ≤ 1099511627000) (hm : p.mode = 1) :
  Calls Tryz.prog 134 #[.int .u8 (b.toNat : Int), av] w (VPost w base B (vtM p b).1 (l ++ (vtM p b).2)) := by
 have H := Lib.hid h.zero
 have HAV := Lib.hid (stl_oa h)
 obtain ⟨Ap, cp, Ai, ci, Au, cu, Aa, ca, rfl, rfl, rfl, rfl, -⟩ := h.form
 clear h
 unfold vtM
 rw [if_pos hm]
 clear hm
 cases hB : interB b
 ·have hk := kind_other hB
  have dk : ((kindN b : Int) == 1) = false := beq_eq_false_iff_ne.2 (by omega)
  rw [if_neg (by simp)]
  clear hk hB
  by_cases h91 : b.toNat = 91
  ·have d91 : ((b.toNat : Int) == 91) = true := beq_iff_eq.2 (by omega)
   rw [if_pos h91, List.append_nil]
   clear h91
   go_enter Tryz.func134, Tryz.ntmps134
   go_wp2_with (go_at_call 101; refine (kindOf_any b _).mono ?_; rintro e w' ⟨rfl, rfl⟩)
   exact bodyPost_ret (v := .tuple #[.agg #[.int .i64 4, .int .u8 0, .slice none 0 0, .slice none 0 0, .slice none 0 0], .slice Aa l.length ca]) (by simp [results, Tryz.results134, go_sem]) rfl (VPost.zero H.out ((Below.refl _ _).alloc (Nat.le_refl _) _) 4 rfl)
  have d91 : ((b.toNat : Int) == 91) = false := beq_eq_false_iff_ne.2 (by omega)
  rw [if_neg h91]
  by_cases hs : b.toNat = 93 ∨ b.toNat = 80 ∨ b.toNat = 88 ∨ b.toNat = 94 ∨ b.toNat = 95
  ·rw [if_pos hs, List.append_nil]
   clear h91
   have hfin : ∀ W, Below w.heap.size w W → VPost w base B (prM 7) l (.returned (.tuple #[.agg #[.int .i64 7, .int .u8 0, .slice none 0 0, .slice none 0 0, .slice none 0 0], .slice Aa l.length ca])) W := fun W hW => VPost.zero H.out hW 7 rfl
   have HFIN := Lib.hid hfin
   clear hfin
   rcases hs with hs | hs | hs | hs | hs
   ·have d93 : ((b.toNat : Int) == 93) = true := beq_iff_eq.2 (by omega)
    clear hs
    go_enter Tryz.func134, Tryz.ntmps134
    go_wp2_with (go_at_call 101; refine (kindOf_any b _).mono ?_; rintro e w' ⟨rfl, rfl⟩)
    exact bodyPost_ret (v := .tuple #[.agg #[.int .i64 7, .int .u8 0, .slice none 0 0, .slice none 0 0, .slice none 0 0], .slice Aa l.length ca]) (by simp [results, Tryz.results134, go_sem]) rfl (HFIN.out _ ((Below.refl _ _).alloc (Nat.le_refl _) _))
   ·have d93 : ((b.toNat : Int) == 93) = false := beq_eq_false_iff_ne.2 (by omega)
    have d80 : ((b.toNat : Int) == 80) = true := beq_iff_eq.2 (by omega)
    clear hs
    go_enter Tryz.func134, Tryz.ntmps134
    go_wp2_with (go_at_call 101; refine (kindOf_any b _).mono ?_; rintro e w' ⟨rfl, rfl⟩)
    exact bodyPost_ret (v := .tuple #[.agg #[.int .i64 7, .int .u8 0, .slice none 0 0, .slice none 0 0, .slice none 0 0], .slice Aa l.length ca]) (by simp [results, Tryz.results134, go_sem]) rfl (HFIN.out _ ((Below.refl _ _).alloc (Nat.le_refl _) _))
   ·have d93 : ((b.toNat : Int) == 93) = false := beq_eq_false_iff_ne.2 (by omega)
    have d80 : ((b.toNat : Int) == 80) = false := beq_eq_false_iff_ne.2 (by omega)
    have d88 : ((b.toNat : Int) == 88) = true := beq_iff_eq.2 (by omega)
    clear hs
    go_enter Tryz.func134, Tryz.ntmps134
    go_wp2_with (go_at_call 101; refine (kindOf_any b _).mono ?_; rintro e w' ⟨rfl, rfl⟩)
    exact bodyPost_ret (v := .tuple #[.agg #[.int .i64 7, .int .u8 0, .slice none 0 0, .slice none 0 0, .slice none 0 0], .slice Aa l.length ca]) (by simp [results, Tryz.results134, go_sem]) rfl (HFIN.out _ ((Below.refl _ _).alloc (Nat.le_refl _) _))
   ·have d93 : ((b.toNat : Int) == 93) = false := beq_eq_false_iff_ne.2 (by omega)
    have d80 : ((b.toNat : Int) == 80) = false := beq_eq_false_iff_ne.2 (by omega)
    have d88 : ((b.toNat : Int) == 88) = false := beq_eq_false_iff_ne.2 (by omega)
    have d94 : ((b.toNat : Int) == 94) = true := beq_iff_eq.2 (by omega)
    clear hs
    go_enter Tryz.func134, Tryz.ntmps134
    go_wp2_with (go_at_call 101; refine (kindOf_any b _).mono ?_; rintro e w' ⟨rfl, rfl⟩)
    exact bodyPost_ret (v := .tuple #[.agg #[.int .i64 7, .int .u8 0, .slice none 0 0, .slice none 0 0, .slice none 0 0], .slice Aa l.length ca]) (by simp [results, Tryz.results134, go_sem]) rfl (HFIN.out _ ((Below.refl _ _).alloc (Nat.le_refl _) _))
   ·have d93 : ((b.toNat : Int) == 93) = false := beq_eq_false_iff_ne.2 (by omega)
    have d80 : ((b.toNat : Int) == 80) = false := beq_eq_false_iff_ne.2 (by omega)
    have d88 : ((b.toNat : Int) == 88) = false := beq_eq_false_iff_ne.2 (by omega)
    have d94 : ((b.toNat : Int) == 94) = false := beq_eq_false_iff_ne.2 (by omega)
    have d95 : ((b.toNat : Int) == 95) = true := beq_iff_eq.2 (by omega)
    clear hs
    go_enter Tryz.func134, Tryz.ntmps134
    go_wp2_with (go_at_call 101; refine (kindOf_any b _).mono ?_; rintro e w' ⟨rfl, rfl⟩)
    exact bodyPost_ret (v := .tuple #[.agg #[.int .i64 7, .int .u8 0, .slice none 0 0, .slice none 0 0, .slice none 0 0], .slice Aa l.length ca]) (by simp [results, Tryz.results134, go_sem]) rfl (HFIN.out _ ((Below.refl _ _).alloc (Nat.le_refl _) _))
  ·have d93 : ((b.toNat : Int) == 93) = false := beq_eq_false_iff_ne.2 (by omega)
   have d80 : ((b.toNat : Int) == 80) = false := beq_eq_false_iff_ne.2 (by omega)
   have d88 : ((b.toNat : Int) == 88) = false := beq_eq_false_iff_ne.2 (by omega)
   have d94 : ((b.toNat : Int) == 94) = false := beq_eq_false_iff_ne.2 (by omega)
   have d95 : ((b.toNat : Int) == 95) = false := beq_eq_false_iff_ne.2 (by omega)
   rw [if_neg hs]
   clear hs h91
   have hone : ∀ y : Obj, Below w.heap.size w (w.alloc y) ∧ (w.alloc y).heap.size = w.heap.size + 1 := fun y => ⟨(Below.refl _ _).alloc (Nat.le_refl _) _, by simp⟩
   have HT : Hid _ := fun y W2 hW => And.intro (two_row hW) (act_laid H.out (hone y).1 (hone y).2 (acE b.toNat []) (.slice none 0 0) (.slice none 0 0) (.inr ⟨rfl, rfl⟩) (.inr ⟨rfl, rfl⟩) 72 W2 hW)
   clear hone
   go_enter Tryz.func134, Tryz.ntmps134
   go_wp2_with (first
    | (go_at_call 101; refine (kindOf_any b _).mono ?_; rintro e w' ⟨rfl, rfl⟩)
    | (at_builtin; obtain ⟨t0, S, T, t1, t2, t3, t4, t5, t6, t7, t8⟩ := HT.out _ _ rfl; refine wpl_appA _ rfl (.tmp 27) (.tmp 30) rfl base S _ T _ _ l [acE b.toNat []] rfl rfl t1 t2 t3 t4 t5 (by simp; omega) (Nat.le_trans hbase t7.size) ?_; intro v4 w4 ho4 hg4 hb4 hv4; obtain ⟨e0, e1, e2, e3, e4, ef⟩ := five_cells (row_grown hg4 t0 (fun k e => by have := HAV.out k e; omega)); have HP := Lib.hid (act_end (mm := 0) (g := w.heap.size) 0 rfl H.out t7 ⟨Nat.le_refl _, by omega⟩ t6 ho4 hg4 hv4 hbase); obtain ⟨A4, n4, rfl, -, -⟩ := ho4.as.form; clear t0 t1 t2 t3 t4 t5 t6 t7 t8 ho4 hg4 hb4 hv4))
   exact bodyPost_ret (v := .tuple #[.agg #[.int .i64 0, .int .u8 0, .slice none 0 0, .slice none 0 0, .slice none 0 0], .slice A4 (l ++ [acE b.toNat []]).length n4]) (by simp [results, Tryz.results134, go_sem, e0, e1, e2, e3, e4]) rfl HP.out
 ·have hk := kind_inter hB
  have dk : ((kindN b : Int) == 1) = true := beq_iff_eq.2 (by omega)
  rw [if_pos rfl, List.append_nil]
  clear hk hB
  have HI : Hid _ := fun y => ob_one (w.alloc y) base b (by simp; omega)
  have HN : Hid _ := two_new w
  go_enter Tryz.func134, Tryz.ntmps134
  go_wp2_with (go_at_call 101; refine (kindOf_any b _).mono ?_; rintro e w' ⟨rfl, rfl⟩)
  exact bodyPost_ret (v := .tuple #[.agg #[.int .i64 2, .int .u8 0, .slice none 0 0, .slice (some ⟨w.heap.size + 1, 0, none⟩) 1 1, .slice none 0 0], .slice Aa l.length ca]) (by simp [results, Tryz.results134, go_sem]) rfl (vend_inter H.out (HN.out _ _).1 (Nat.le_succ _) (by simpa using HI.out _) ⟨rfl, rfl, rfl, rfl, rfl⟩)
end Go.Proofs.YtlolgfgcgfjdjaaGreatDoor

namespace Go.Proofs.YtlolgfgcgfjdjaaGreatDoor
open Go.RowKit
set_option linter.unusedVariables false
set_option linter.unusedSimpArgs false
set_option maxHeartbeats 2000000
set_option maxRecDepth 100000
theorem kind_ahead {b : UInt8} (h0 : 48 ≤ b.toNat) (h1 : b.toNat < 64) : kindN b = 2 := by
 unfold kindN
 rw [if_neg (by omega), if_neg (by omega), if_pos (by omega)]
theorem kind_last {b : UInt8} (h0 : 64 ≤ b.toNat) (h1 : b.toNat < 127) : kindN b = 3 := by
 unfold kindN
 rw [if_neg (by omega), if_neg (by omega), if_neg (by omega), if_pos (by omega)]
theorem escInter_more (vp vi vu av : Value) (p r : Pr) (b : UInt8) (l : List Ac) (base : Nat) (B : Nat → Prop) (w : World) (h : StL w base B vp vi vu av p.params p.inter p.utf l) (hk : kindN b = 1)
  (hc : ∀ W, StL W base B vp vi vu av p.params p.inter p.utf l → w.heap.size ≤ W.heap.size → Calls Tryz.prog 154 #[.agg #[.int .i64 (p.mode : Int), .int .u8 (p.priv : Int), vp, vi, vu], .int .u8 (b.toNat : Int), .int .i64 3] W (PPost W base B r av l)) :
  Calls Tryz.prog 135 #[.agg #[.int .i64 (p.mode : Int), .int .u8 (p.priv : Int), vp, vi, vu], .int .u8 (b.toNat : Int), av] w (VPost w base B r l) := by
 have HC := Lib.hid hc
 have H := Lib.hid h
 have HL : Hid (∀ x, B x → x < w.heap.size) := fun x hx => (h.lt x hx).2
 have HAV := Lib.hid (stl_oa h)
 obtain ⟨Ap, cp, Ai, ci, Au, cu, Aa, ca, rfl, rfl, rfl, rfl, -⟩ := h.form
 clear h hc
 have dk : ((kindN b : Int) == 1) = true := beq_iff_eq.2 (by omega)
 clear hk
 go_enter Tryz.func135, Tryz.ntmps135
 go_wp2_with (first
  | (go_at_call 101; refine (kindOf_any b _).mono ?_; rintro e w' ⟨rfl, rfl⟩)
  | (go_at_call 154; refine (HC.out _ (H.out.below (two_new w _ _).1) (two_new w _ _).1.size).mono ?_; rintro e w4 ⟨B', Bp, np, Bi, ni, Bu, nu, rfl, hst, hB, hF⟩; obtain ⟨k0, k1⟩ := kept_two HL.out hF; obtain ⟨e0, e1, e2, e3, e4, ef⟩ := five_cells k1; have HP := Lib.hid (hand_v (r := r) HL.out hst hB hF ⟨rfl, rfl, rfl, rfl, rfl⟩); clear hst hB hF k0 k1))
 exact bodyPost_ret (v := .tuple #[.agg #[.int .i64 (r.mode : Int), .int .u8 (r.priv : Int), .slice Bp r.params.length np, .slice Bi r.inter.length ni, .slice Bu r.utf.length nu], .slice Aa l.length ca]) (by simp [results, Tryz.results135, go_sem, e0, e1, e2, e3, e4]) rfl HP.out
theorem escInter_end (vp vi vu av : Value) (p : Pr) (b : UInt8) (l : List Ac) (base : Nat) (B : Nat → Prop) (w : World) (h : StL w base B vp vi vu av p.params p.inter p.utf l) (hk : kindN b ≠ 1) (hbase : base ≤ w.heap.size) (hl : l.length ≤ 1099511627000) :
  Calls Tryz.prog 135 #[.agg #[.int .i64 (p.mode : Int), .int .u8 (p.priv : Int), vp, vi, vu], .int .u8 (b.toNat : Int), av] w (VPost w base B (prM 0) (l ++ [acE b.toNat p.inter])) := by
 have H := Lib.hid h
 have HL : Hid (∀ x, B x → x < w.heap.size) := fun x hx => (h.lt x hx).2
 have HAV := Lib.hid (stl_oa h)
 obtain ⟨Ap, cp, Ai, ci, Au, cu, Aa, ca, rfl, rfl, rfl, rfl, -⟩ := h.form
 clear h
 have dk : ((kindN b : Int) == 1) = false := beq_eq_false_iff_ne.2 (by omega)
 clear hk
 have HT : Hid _ := fun x y W2 hW => And.intro (three_row hW) (act_laid H.out (two_new w x y).1 (two_new w x y).2 (acE b.toNat p.inter) (.slice none 0 0) (.slice Ai p.inter.length ci) (.inr ⟨rfl, rfl⟩) (.inl ⟨rfl, rfl⟩) 72 W2 hW)
 go_enter Tryz.func135, Tryz.ntmps135
 go_wp2_with (first
  | (go_at_call 101; refine (kindOf_any b _).mono ?_; rintro e w' ⟨rfl, rfl⟩)
  | (at_builtin; obtain ⟨t0, S, T, t1, t2, t3, t4, t5, t6, t7, t8⟩ := HT.out _ _ _ rfl; refine wpl_appA _ rfl (.tmp 16) (.tmp 21) rfl base S _ T _ _ l [acE b.toNat p.inter] rfl rfl t1 t2 t3 t4 t5 (by simp; omega) (Nat.le_trans hbase t7.size) ?_; intro v4 w4 ho4 hg4 hb4 hv4; obtain ⟨e0, e1, e2, e3, e4, ef⟩ := five_cells (row_grown hg4 t0 (fun k e => by have := HAV.out k e; omega)); have HP := Lib.hid (act_end (mm := 0) (g := w.heap.size + 1) 0 rfl H.out t7 ⟨Nat.le_succ _, by omega⟩ t6 ho4 hg4 hv4 hbase); obtain ⟨A4, n4, rfl, -, -⟩ := ho4.as.form; clear t0 t1 t2 t3 t4 t5 t6 t7 t8 ho4 hg4 hb4 hv4))
 exact bodyPost_ret (v := .tuple #[.agg #[.int .i64 0, .int .u8 0, .slice none 0 0, .slice none 0 0, .slice none 0 0], .slice A4 (l ++ [acE b.toNat p.inter]).length n4]) (by simp [results, Tryz.results135, go_sem, e0, e1, e2, e3, e4]) rfl HP.out
theorem csi_inter (vp vi vu av : Value) (p : Pr) (b : UInt8) (l : List Ac) (base : Nat) (B : Nat → Prop) (w : World) (h : StL w base B vp vi vu av p.params p.inter p.utf l) (hk : kindN b = 1) (hbase : base ≤ w.heap.size) :
  Calls Tryz.prog 137 #[.agg #[.int .i64 (p.mode : Int), .int .u8 (p.priv : Int), vp, vi, vu], .int .u8 (b.toNat : Int), av] w (VPost w base B { p with mode := 5, inter := [b] } l) := by
 have H := Lib.hid h
 have HL : Hid (∀ x, B x → x < w.heap.size) := fun x hx => (h.lt x hx).2
 have HAV := Lib.hid (stl_oa h)
 obtain ⟨Ap, cp, Ai, ci, Au, cu, Aa, ca, rfl, rfl, rfl, rfl, -⟩ := h.form
 clear h
 have dk : ((kindN b : Int) == 1) = true := beq_iff_eq.2 (by omega)
 clear hk
 have HI : Hid (∀ x y : Obj, OB (((w.alloc x).alloc y).alloc (.cells #[.int .u8 (b.toNat : Int)] 5)) base (.slice (some ⟨w.heap.size + 1 + 1, 0, none⟩) 1 1) [b]) := fun x y => by have := ob_one ((w.alloc x).alloc y) base b (by simp; omega); rw [(two_new w x y).2] at this; exact this
 have HN : Hid _ := three_new w
 go_enter Tryz.func137, Tryz.ntmps137
 go_wp2_with (go_at_call 101; refine (kindOf_any b _).mono ?_; rintro e w' ⟨rfl, rfl⟩)
 exact bodyPost_ret (v := .tuple #[.agg #[.int .i64 5, .int .u8 (p.priv : Int), .slice Ap p.params.length cp, .slice (some ⟨w.heap.size + 1 + 1, 0, none⟩) 1 1, .slice Au p.utf.length cu], .slice Aa l.length ca]) (by simp [results, Tryz.results137, go_sem]) rfl (vend_inter (r := { p with mode := 5, inter := [b] }) H.out (HN.out _ _ _).1 (by omega) (HI.out _ _) ⟨rfl, rfl, rfl, rfl, rfl⟩)
theorem csi_par (vp vi vu av : Value) (p r : Pr) (b : UInt8) (l : List Ac) (base : Nat) (B : Nat → Prop) (w : World) (h : StL w base B vp vi vu av p.params p.inter p.utf l) (hk : kindN b = 2)
  (hc : ∀ W, StL W base B vp vi vu av p.params p.inter p.utf l → w.heap.size ≤ W.heap.size → Calls Tryz.prog 155 #[.agg #[.int .i64 (p.mode : Int), .int .u8 (p.priv : Int), vp, vi, vu], .int .u8 (b.toNat : Int)] W (PPost W base B r av l)) :
  Calls Tryz.prog 137 #[.agg #[.int .i64 (p.mode : Int), .int .u8 (p.priv : Int), vp, vi, vu], .int .u8 (b.toNat : Int), av] w (VPost w base B r l) := by
 have HC := Lib.hid hc
 have H := Lib.hid h
 have HL : Hid (∀ x, B x → x < w.heap.size) := fun x hx => (h.lt x hx).2
 have HAV := Lib.hid (stl_oa h)
 obtain ⟨Ap, cp, Ai, ci, Au, cu, Aa, ca, rfl, rfl, rfl, rfl, -⟩ := h.form
 clear h hc
 have dk1 : ((kindN b : Int) == 1) = false := beq_eq_false_iff_ne.2 (by omega)
 have dk2 : ((kindN b : Int) == 2) = true := beq_iff_eq.2 (by omega)
 clear hk
 go_enter Tryz.func137, Tryz.ntmps137
 go_wp2_with (first
  | (go_at_call 101; refine (kindOf_any b _).mono ?_; rintro e w' ⟨rfl, rfl⟩)
  | (go_at_call 155; refine (HC.out _ (H.out.below (two_new w _ _).1) (two_new w _ _).1.size).mono ?_; rintro e w4 ⟨B', Bp, np, Bi, ni, Bu, nu, rfl, hst, hB, hF⟩; obtain ⟨k0, k1⟩ := kept_two HL.out hF; obtain ⟨e0, e1, e2, e3, e4, ef⟩ := five_cells k1; have HP := Lib.hid (hand_v (r := r) HL.out hst hB hF ⟨rfl, rfl, rfl, rfl, rfl⟩); clear hst hB hF k0 k1))
 exact bodyPost_ret (v := .tuple #[.agg #[.int .i64 (r.mode : Int), .int .u8 (r.priv : Int), .slice Bp r.params.length np, .slice Bi r.inter.length ni, .slice Bu r.utf.length nu], .slice Aa l.length ca]) (by simp [results, Tryz.results137, go_sem, e0, e1, e2, e3, e4]) rfl HP.out
theorem csi_end (vp vi vu av : Value) (p r : Pr) (b : UInt8) (l l2 : List Ac) (base : Nat) (B : Nat → Prop) (w : World) (h : StL w base B vp vi vu av p.params p.inter p.utf l) (hk : kindN b = 3)
  (hc : ∀ W, StL W base B vp vi vu av p.params p.inter p.utf l → w.heap.size ≤ W.heap.size → Calls Tryz.prog 156 #[.agg #[.int .i64 (p.mode : Int), .int .u8 (p.priv : Int), vp, vi, vu], .int .u8 (b.toNat : Int), av] W (VPost W base B r l2)) :
  Calls Tryz.prog 137 #[.agg #[.int .i64 (p.mode : Int), .int .u8 (p.priv : Int), vp, vi, vu], .int .u8 (b.toNat : Int), av] w (VPost w base B r l2) := by
 have HC := Lib.hid hc
 have H := Lib.hid h
 have HL : Hid (∀ x, B x → x < w.heap.size) := fun x hx => (h.lt x hx).2
 have HAV := Lib.hid (stl_oa h)
 obtain ⟨Ap, cp, Ai, ci, Au, cu, Aa, ca, rfl, rfl, rfl, rfl, -⟩ := h.form
 clear h hc
 have dk1 : ((kindN b : Int) == 1) = false := beq_eq_false_iff_ne.2 (by omega)
 have dk2 : ((kindN b : Int) == 2) = false := beq_eq_false_iff_ne.2 (by omega)
 clear hk
 go_enter Tryz.func137, Tryz.ntmps137
 go_wp2_with (first
  | (go_at_call 101; refine (kindOf_any b _).mono ?_; rintro e w' ⟨rfl, rfl⟩)
  | (go_at_call 156; refine (HC.out _ (H.out.below (two_new w _ _).1) (two_new w _ _).1.size).mono ?_; rintro e w4 ⟨B', Bp, np, Bi, ni, Bu, nu, Ba, na, rfl, hst, hB, hF⟩; obtain ⟨k0, k1⟩ := kept_two HL.out hF; obtain ⟨e0, e1, e2, e3, e4, ef⟩ := five_cells k1; have HP := Lib.hid (hand_v (r := r) HL.out hst hB hF ⟨rfl, rfl, rfl, rfl, rfl⟩); clear hst hB hF k0 k1))
 exact bodyPost_ret (v := .tuple #[.agg #[.int .i64 (r.mode : Int), .int .u8 (r.priv : Int), .slice Bp r.params.length np, .slice Bi r.inter.length ni, .slice Bu r.utf.length nu], .slice Ba l2.length na]) (by simp [results, Tryz.results137, go_sem, e0, e1, e2, e3, e4]) rfl HP.out
theorem csiInter_more (vp vi vu av : Value) (p r : Pr) (b : UInt8) (l : List Ac) (base : Nat) (B : Nat → Prop) (w : World) (h : StL w base B vp vi vu av p.params p.inter p.utf l) (hk : kindN b = 1)
  (hc : ∀ W, StL W base B vp vi vu av p.params p.inter p.utf l → w.heap.size ≤ W.heap.size → Calls Tryz.prog 154 #[.agg #[.int .i64 (p.mode : Int), .int .u8 (p.priv : Int), vp, vi, vu], .int .u8 (b.toNat : Int), .int .i64 6] W (PPost W base B r av l)) :
  Calls Tryz.prog 138 #[.agg #[.int .i64 (p.mode : Int), .int .u8 (p.priv : Int), vp, vi, vu], .int .u8 (b.toNat : Int), av] w (VPost w base B r l) := by
 have HC := Lib.hid hc
 have H := Lib.hid h
 have HL : Hid (∀ x, B x → x < w.heap.size) := fun x hx => (h.lt x hx).2
 have HAV := Lib.hid (stl_oa h)
 obtain ⟨Ap, cp, Ai, ci, Au, cu, Aa, ca, rfl, rfl, rfl, rfl, -⟩ := h.form
 clear h hc
 have dk : ((kindN b : Int) == 1) = true := beq_iff_eq.2 (by omega)
 clear hk
 go_enter Tryz.func138, Tryz.ntmps138
 go_wp2_with (first
  | (go_at_call 101; refine (kindOf_any b _).mono ?_; rintro e w' ⟨rfl, rfl⟩)
  | (go_at_call 154; refine (HC.out _ (H.out.below (two_new w _ _).1) (two_new w _ _).1.size).mono ?_; rintro e w4 ⟨B', Bp, np, Bi, ni, Bu, nu, rfl, hst, hB, hF⟩; obtain ⟨k0, k1⟩ := kept_two HL.out hF; obtain ⟨e0, e1, e2, e3, e4, ef⟩ := five_cells k1; have HP := Lib.hid (hand_v (r := r) HL.out hst hB hF ⟨rfl, rfl, rfl, rfl, rfl⟩); clear hst hB hF k0 k1))
 exact bodyPost_ret (v := .tuple #[.agg #[.int .i64 (r.mode : Int), .int .u8 (r.priv : Int), .slice Bp r.params.length np, .slice Bi r.inter.length ni, .slice Bu r.utf.length nu], .slice Aa l.length ca]) (by simp [results, Tryz.results138, go_sem, e0, e1, e2, e3, e4]) rfl HP.out
theorem csiInter_ign (vp vi vu av : Value) (p : Pr) (b : UInt8) (l : List Ac) (base : Nat) (B : Nat → Prop) (w : World) (h : StL w base B vp vi vu av p.params p.inter p.utf l) (hk : kindN b = 2) :
  Calls Tryz.prog 138 #[.agg #[.int .i64 (p.mode : Int), .int .u8 (p.priv : Int), vp, vi, vu], .int .u8 (b.toNat : Int), av] w (VPost w base B (prM 6) l) := by
 have H := Lib.hid h
 have HL : Hid (∀ x, B x → x < w.heap.size) := fun x hx => (h.lt x hx).2
 have HAV := Lib.hid (stl_oa h)
 obtain ⟨Ap, cp, Ai, ci, Au, cu, Aa, ca, rfl, rfl, rfl, rfl, -⟩ := h.form
 clear h
 have dk1 : ((kindN b : Int) == 1) = false := beq_eq_false_iff_ne.2 (by omega)
 have dk2 : ((kindN b : Int) == 2) = true := beq_iff_eq.2 (by omega)
 clear hk
 have HN : Hid _ := two_new w
 go_enter Tryz.func138, Tryz.ntmps138
 go_wp2_with (go_at_call 101; refine (kindOf_any b _).mono ?_; rintro e w' ⟨rfl, rfl⟩)
 exact bodyPost_ret (v := .tuple #[.agg #[.int .i64 6, .int .u8 0, .slice none 0 0, .slice none 0 0, .slice none 0 0], .slice Aa l.length ca]) (by simp [results, Tryz.results138, go_sem]) rfl (VPost.zero H.out (HN.out _ _).1 6 rfl)
theorem csiInter_end (vp vi vu av : Value) (p r : Pr) (b : UInt8) (l l2 : List Ac) (base : Nat) (B : Nat → Prop) (w : World) (h : StL w base B vp vi vu av p.params p.inter p.utf l) (hk : kindN b = 3)
  (hc : ∀ W, StL W base B vp vi vu av p.params p.inter p.utf l → w.heap.size ≤ W.heap.size → Calls Tryz.prog 156 #[.agg #[.int .i64 (p.mode : Int), .int .u8 (p.priv : Int), vp, vi, vu], .int .u8 (b.toNat : Int), av] W (VPost W base B r l2)) :
  Calls Tryz.prog 138 #[.agg #[.int .i64 (p.mode : Int), .int .u8 (p.priv : Int), vp, vi, vu], .int .u8 (b.toNat : Int), av] w (VPost w base B r l2) := by
 have HC := Lib.hid hc
 have H := Lib.hid h
 have HL : Hid (∀ x, B x → x < w.heap.size) := fun x hx => (h.lt x hx).2
 have HAV := Lib.hid (stl_oa h)
 obtain ⟨Ap, cp, Ai, ci, Au, cu, Aa, ca, rfl, rfl, rfl, rfl, -⟩ := h.form
 clear h hc
 have dk1 : ((kindN b : Int) == 1) = false := beq_eq_false_iff_ne.2 (by omega)
 have dk2 : ((kindN b : Int) == 2) = false := beq_eq_false_iff_ne.2 (by omega)
 clear hk
 go_enter Tryz.func138, Tryz.ntmps138
 go_wp2_with (first
  | (go_at_call 101; refine (kindOf_any b _).mono ?_; rintro e w' ⟨rfl, rfl⟩)
  | (go_at_call 156; refine (HC.out _ (H.out.below (two_new w _ _).1) (two_new w _ _).1.size).mono ?_; rintro e w4 ⟨B', Bp, np, Bi, ni, Bu, nu, Ba, na, rfl, hst, hB, hF⟩; obtain ⟨k0, k1⟩ := kept_two HL.out hF; obtain ⟨e0, e1, e2, e3, e4, ef⟩ := five_cells k1; have HP := Lib.hid (hand_v (r := r) HL.out hst hB hF ⟨rfl, rfl, rfl, rfl, rfl⟩); clear hst hB hF k0 k1))
 exact bodyPost_ret (v := .tuple #[.agg #[.int .i64 (r.mode : Int), .int .u8 (r.priv : Int), .slice Bp r.params.length np, .slice Bi r.inter.length ni, .slice Bu r.utf.length nu], .slice Ba l2.length na]) (by simp [results, Tryz.results138, go_sem, e0, e1, e2, e3, e4]) rfl HP.out
end Go.Proofs.YtlolgfgcgfjdjaaGreatDoor
