/- What is proved here: parts of layer 10's proofs. -/
import Derived.Test.YthepofkdgbcifaaGreatS5
import Derived.Deep.WholeRow
import Derived.Laws.ResultCell
namespace Go.Proofs.YthepofkdgbcifaaGreat
open Go.RowKit
set_option linter.unusedVariables false
set_option linter.unusedSimpArgs false
set_option maxHeartbeats 2000000
set_option maxRecDepth 100000
def CL (w : World) (S : Nat → Prop) (v : Value) (l : List Cl) : Prop :=
 ∃ A c, v = .slice A l.length c ∧ l.length ≤ c ∧ c ≤ maxLen ∧ (0 < l.length → ∃ ad, A = some ad ∧ S ad.block ∧ ∀ j b, l[j]? = some b → ThreeAt w (ad.add (j * 3)) b)
section
variable {w w' : World} {S S' : Nat → Prop} {v : Value} {l : List Cl}
theorem CL.keep (h : CL w S v l) (hk : ∀ q : Addr, S q.block → w'.cell? q = w.cell? q) : CL w' S v l := by
 obtain ⟨A, c, hv, h1, h2, h3⟩ := h
 refine ⟨A, c, hv, h1, h2, fun hl => ?_⟩
 obtain ⟨ad, hA, hb, hc⟩ := h3 hl
 exact ⟨ad, hA, hb, fun j b hj => (hc j b hj).keep fun p hp => hk p (by rw [hp, block_add]; exact hb)⟩
theorem CL.mono (h : CL w S v l) (hS : ∀ x, S x → S' x) : CL w S' v l := by
 obtain ⟨A, c, hv, h1, h2, h3⟩ := h
 refine ⟨A, c, hv, h1, h2, fun hl => ?_⟩
 obtain ⟨ad, hA, hb, hc⟩ := h3 hl
 exact ⟨ad, hA, hS _ hb, hc⟩
theorem CL.nil (w : World) (S : Nat → Prop) : CL w S (.slice none 0 0) [] := ⟨none, 0, rfl, by simp, by simp [maxLen], fun h => absurd h (by simp)⟩
theorem CL.form (h : CL w S v l) : ∃ A c, v = .slice A l.length c ∧ l.length ≤ c ∧ c ≤ 9223372036854775807 := by
 obtain ⟨A, c, hv, h1, h2, _⟩ := h
 unfold maxLen at h2
 exact ⟨A, c, hv, h1, by omega⟩
theorem CL.cs {B : Nat} (h : CL w S v l) (hS : ∀ x, S x → x < B) : CS w B v l := h.mono hS
theorem CL.cs' {B : Nat} (h : CL w S v l) (hS : ∀ x, S x → x < w.heap.size) (hb : Below w.heap.size w w') (hB : w'.heap.size ≤ B) : CS w' B v l :=
 (h.keep (fun q hq => hb.cell (hS _ hq))).cs (fun x hx => Nat.lt_of_lt_of_le (hS x hx) (Nat.le_trans hb.size hB))
end
theorem OT.sl {w : World} {base : Nat} {v : Value} {l : List Bool} (h : OT w base v l) : SL vT w (NewB w base) v l := by
 obtain ⟨A, c, hv, h1, h2, h3⟩ := h.bs
 refine ⟨A, c, hv, h1, h2, fun hl => ?_⟩
 obtain ⟨ad, hA, hb, hc⟩ := h3 hl
 subst hA
 exact ⟨ad, rfl, ⟨(World.ownsRow.lt h ad.block (by rw [hv]; rfl)).1, hb⟩, hc⟩
theorem OC.cl {w : World} {base : Nat} {v : Value} {l : List Cl} (h : OC w base v l) : CL w (NewB w base) v l := by
 obtain ⟨A, c, hv, h1, h2, h3⟩ := h.cs
 refine ⟨A, c, hv, h1, h2, fun hl => ?_⟩
 obtain ⟨ad, hA, hb, hc⟩ := h3 hl
 subst hA
 exact ⟨ad, rfl, ⟨(World.ownsRow.lt h ad.block (by rw [hv]; rfl)).1, hb⟩, hc⟩
@[reducible] def zQ : Array Value := #[.int .i64 0, .int .i64 0, .slice none 0 0, .int .i64 0, .int .i64 0, .bool false, .int .u16 0, .int .i64 0, .int .i64 0, .slice none 0 0, .int .i64 0, .int .i64 0, .int .u16 0, .bool false, .bool false, .bool false, .slice none 0 0, .int .i64 0, .int .i64 0, .int .i64 0, .int .u8 0, .slice none 0 0, .slice none 0 0, .slice none 0 0]
@[reducible] def vS (s : Sc) (vc vt vo vp vi vu : Value) : Array Value :=
 #[.int .i64 s.rows, .int .i64 s.cols, vc, .int .i64 s.y, .int .i64 s.x, .bool s.wrap, .int .u16 (s.attr : Int), .int .i64 s.top, .int .i64 s.bottom, vt, .int .i64 s.sy, .int .i64 s.sx, .int .u16 (s.sattr : Int), .bool s.auto, .bool s.shown, .bool s.alt, vo, .int .i64 s.oy, .int .i64 s.ox, .int .i64 (s.p.mode : Int), .int .u8 (s.p.priv : Int), vp, vi, vu]
def SSl (w : World) (S : Nat → Prop) (s : Sc) (vc vt vo vp vi vu : Value) : Prop :=
 CL w S vc s.cells ∧ SL vT w S vt s.tabs ∧ CL w S vo s.other ∧ SL vI w S vp s.p.params ∧ SL vB w S vi s.p.inter ∧ SL vB w S vu s.p.utf
def SCV (w : World) (S : Nat → Prop) (v : Value) (s : Sc) : Prop := ∃ vc vt vo vp vi vu, v = .agg (vS s vc vt vo vp vi vu) ∧ SSl w S s vc vt vo vp vi vu
section
variable {w w' : World} {S S' : Nat → Prop} {s : Sc} {vc vt vo vp vi vu : Value}
theorem SSl.keep (h : SSl w S s vc vt vo vp vi vu) (hk : ∀ q : Addr, S q.block → w'.cell? q = w.cell? q) : SSl w' S s vc vt vo vp vi vu := by
 obtain ⟨h1, h2, h3, h4, h5, h6⟩ := h
 exact ⟨h1.keep hk, h2.keep hk, h3.keep hk, h4.keep hk, h5.keep hk, h6.keep hk⟩
theorem SSl.mono (h : SSl w S s vc vt vo vp vi vu) (hS : ∀ x, S x → S' x) : SSl w S' s vc vt vo vp vi vu := by
 obtain ⟨h1, h2, h3, h4, h5, h6⟩ := h
 exact ⟨h1.mono hS, h2.mono hS, h3.mono hS, h4.mono hS, h5.mono hS, h6.mono hS⟩
theorem SSl.below {B : Nat} (h : SSl w S s vc vt vo vp vi vu) (hS : ∀ x, S x → x < B) (hb : Below B w w') : SSl w' S s vc vt vo vp vi vu := h.keep fun q hq => hb.cell (hS _ hq)
theorem SSl.like {s' : Sc} (h : SSl w S s vc vt vo vp vi vu) (h1 : s'.cells = s.cells) (h2 : s'.tabs = s.tabs) (h3 : s'.other = s.other) (h4 : s'.p = s.p) : SSl w S s' vc vt vo vp vi vu := by
 unfold SSl
 rw [h1, h2, h3, h4]
 exact h
end
theorem SCV.below {w w' : World} {S : Nat → Prop} {B : Nat} {v : Value} {s : Sc} (h : SCV w S v s) (hS : ∀ x, S x → x < B) (hb : Below B w w') : SCV w' S v s := by
 obtain ⟨vc, vt, vo, vp, vi, vu, hv, hs⟩ := h
 exact ⟨vc, vt, vo, vp, vi, vu, hv, hs.below hS hb⟩
def Since (S : Nat → Prop) (w w' : World) (x : Nat) : Prop := S x ∨ NewB w' w.heap.size x
def ScPost (S : Nat → Prop) (s : Sc) (w : World) (e : Ending) (w' : World) : Prop := ∃ v, e = .returned v ∧ SCV w' (Since S w w') v s ∧ Below w.heap.size w w'
theorem scrSize : (Tryz.prog.info? 30).map (·.size) = some 24 := by kernel_rfl
theorem run_loadS {w : World} {g : Nat} {xs : Array Value} (h : w.heap[g]? = some (.cells xs 30)) (hn : xs.size = 24) : (Instr.loadAt 30 (.pointer (some ⟨g, 0, none⟩))).run Tryz.prog w = .ok (.agg xs) w := by
 simp only [Instr.loadAt, Instr.sureAddr, Sem.run_bind, Sem.run_pure, Result.andThen]
 exact run_loadVar_row _ g _ 30 xs (0, 0) _ h Tryz.underlying30 rfl (by rw [scrSize, hn])
theorem run_storeS {w : World} {g : Nat} {old xs : Array Value} (h : w.heap[g]? = some (.cells old 30)) (ho : old.size = 24) (hn : xs.size = 24) (h1 : xs.all (·.oneCell') = true) : (Instr.storeAt 30 (.pointer (some ⟨g, 0, none⟩)) (.agg xs)).run Tryz.prog w = .ok () (w.setRow g xs) := by
 simp only [Instr.storeAt, Instr.sureAddr, Sem.run_bind, Sem.run_pure, Result.andThen]
 exact run_storeVar_row _ g _ 30 old xs h (by rw [scrSize, hn]) (by rw [ho, hn]) h1
theorem heap_setRow_same {w : World} {g : Nat} {old xs : Array Value} {t : TypeId} (h : w.heap[g]? = some (.cells old t)) : (w.setRow g xs).heap[g]? = some (.cells xs t) := by
 simp [World.setRow, Array.getElem?_modify, h]
theorem heap_setRow_other {w : World} {g k : Nat} {xs : Array Value} (h : g ≠ k) : (w.setRow g xs).heap[k]? = w.heap[k]? := by
 simp [World.setRow, Array.getElem?_modify, h]
theorem size_setRow (w : World) (g : Nat) (xs : Array Value) : (w.setRow g xs).heap.size = w.heap.size := by simp [World.setRow]
theorem below_setRow {B : Nat} {w w' : World} (h : Below B w w') {g : Nat} (hg : B ≤ g) (xs : Array Value) : Below B w (w'.setRow g xs) :=
 ⟨h.os, h.tape, h.output, by rw [size_setRow]; exact h.size, fun i hi => (heap_setRow_other (by omega)).trans (h.block i hi)⟩
theorem resultS {fn : Func} {p : Tmp} (h : fn.results = #[.cell p 30]) {tmps : Array Value} {w : World} {g : Nat} {xs : Array Value} (ht : tmps.getD p undef = .pointer (some ⟨g, 0, none⟩)) (hg : w.heap[g]? = some (.cells xs 30)) (hn : xs.size = 24) :
  (results fn tmps).run Tryz.prog w = .ok (.agg xs) w := by
 simp only [results, h]
 have := run_loadVar_row (P := Tryz.prog) w g _ 30 xs (0, 0) _ hg Tryz.underlying30 rfl (by rw [scrSize, hn])
 have ht2 : tmps[p]?.getD undef = .pointer (some ⟨g, 0, none⟩) := by simpa using ht
 simp [ht2, asAddr, this]
theorem wpl_loadS {w : World} {ops : Array Oper} {rest : List Oper} {o : Oper} {a : Act} {Q : Exit → Act → World → Prop} (hgd : o.guard = none) (x : Operand) (ho : o.op = .load 30 x) {g : Nat} {xs : Array Value} (hx : a.eval x = .pointer (some ⟨g, 0, none⟩))
  (hg : w.heap[g]? = some (.cells xs 30)) (hn : xs.size = 24) (h : wpList Tryz.prog ops Q rest (a.put o.dst (.agg xs)) w) : wpList Tryz.prog ops Q (o :: rest) a w := by
 refine wpList_plain hgd fun K hK => ?_
 unfold Oper.wp execOp
 simp only [ho, hx, Sem.run_bind, run_loadS hg hn, Result.andThen_ok, Sem.run_pure]
 exact hK _ _ h
theorem wpl_storeS {w : World} {ops : Array Oper} {rest : List Oper} {o : Oper} {a : Act} {Q : Exit → Act → World → Prop} (hgd : o.guard = none) (x y : Operand) (ho : o.op = .store 30 x y) {g : Nat} {old xs : Array Value} (hx : a.eval x = .pointer (some ⟨g, 0, none⟩)) (hy : a.eval y = .agg xs)
  (hg : w.heap[g]? = some (.cells old 30)) (ho2 : old.size = 24) (hn : xs.size = 24) (h1 : xs.all (·.oneCell') = true) (h : wpList Tryz.prog ops Q rest (a.put o.dst undef) (w.setRow g xs)) : wpList Tryz.prog ops Q (o :: rest) a w := by
 refine wpList_plain hgd fun K hK => ?_
 unfold Oper.wp execOp
 simp only [ho, hx, hy, Sem.run_bind, run_storeS hg ho2 hn h1, Result.andThen_ok, Sem.run_pure]
 exact hK _ _ h
theorem vS_one (s : Sc) {vc vt vo vp vi vu : Value} {A1 A2 A3 A4 A5 A6 : Option Addr} {n1 n2 n3 n4 n5 n6 c1 c2 c3 c4 c5 c6 : Nat} (e1 : vc = .slice A1 n1 c1) (e2 : vt = .slice A2 n2 c2) (e3 : vo = .slice A3 n3 c3) (e4 : vp = .slice A4 n4 c4) (e5 : vi = .slice A5 n5 c5) (e6 : vu = .slice A6 n6 c6) : (vS s vc vt vo vp vi vu).all (·.oneCell') = true := by
 subst e1 e2 e3 e4 e5 e6
 simp [vS, Value.oneCell']
theorem SSl.one {w : World} {S : Nat → Prop} {s s' : Sc} {vc vt vo vp vi vu : Value} (h : SSl w S s vc vt vo vp vi vu) : (vS s' vc vt vo vp vi vu).all (·.oneCell') = true := by
 obtain ⟨h1, h2, h3, h4, h5, h6⟩ := h
 obtain ⟨A1, c1, e1, _⟩ := h1.form
 obtain ⟨A2, c2, e2, _⟩ := h2.form
 obtain ⟨A3, c3, e3, _⟩ := h3.form
 obtain ⟨A4, c4, e4, _⟩ := h4.form
 obtain ⟨A5, c5, e5, _⟩ := h5.form
 obtain ⟨A6, c6, e6, _⟩ := h6.form
 exact vS_one s' e1 e2 e3 e4 e5 e6
theorem all24 {x0 x1 x2 x3 x4 x5 x6 x7 x8 x9 x10 x11 x12 x13 x14 x15 x16 x17 x18 x19 x20 x21 x22 x23 : Value} (h0 : x0.oneCell' = true) (h1 : x1.oneCell' = true) (h2 : x2.oneCell' = true) (h3 : x3.oneCell' = true) (h4 : x4.oneCell' = true) (h5 : x5.oneCell' = true) (h6 : x6.oneCell' = true) (h7 : x7.oneCell' = true) (h8 : x8.oneCell' = true) (h9 : x9.oneCell' = true) (h10 : x10.oneCell' = true) (h11 : x11.oneCell' = true) (h12 : x12.oneCell' = true) (h13 : x13.oneCell' = true) (h14 : x14.oneCell' = true) (h15 : x15.oneCell' = true) (h16 : x16.oneCell' = true) (h17 : x17.oneCell' = true) (h18 : x18.oneCell' = true) (h19 : x19.oneCell' = true) (h20 : x20.oneCell' = true) (h21 : x21.oneCell' = true) (h22 : x22.oneCell' = true) (h23 : x23.oneCell' = true) : (#[x0, x1, x2, x3, x4, x5, x6, x7, x8, x9, x10, x11, x12, x13, x14, x15, x16, x17, x18, x19, x20, x21, x22, x23] : Array Value).all (·.oneCell') = true := by
 simp [h0, h1, h2, h3, h4, h5, h6, h7, h8, h9, h10, h11, h12, h13, h14, h15, h16, h17, h18, h19, h20, h21, h22, h23]
@[reducible] def vA (s : Sc) (A1 A2 A3 A4 A5 A6 : Option Addr) (k1 k2 k3 k4 k5 k6 : Nat) : Array Value := vS s (.slice A1 s.cells.length k1) (.slice A2 s.tabs.length k2) (.slice A3 s.other.length k3) (.slice A4 s.p.params.length k4) (.slice A5 s.p.inter.length k5) (.slice A6 s.p.utf.length k6)
@[reducible] def vG (s : Sc) (g1 k1 g2 k2 : Nat) (A3 : Option Addr) (k3 : Nat) (A4 : Option Addr) (n4 k4 : Nat) (A5 : Option Addr) (n5 k5 : Nat) (A6 : Option Addr) (n6 k6 : Nat) : Array Value := vS s (.slice (some ⟨g1, 0, none⟩) s.cells.length k1) (.slice (some ⟨g2, 0, none⟩) s.tabs.length k2) (.slice A3 s.other.length k3) (.slice A4 n4 k4) (.slice A5 n5 k5) (.slice A6 n6 k6)
theorem all25 {x0 x1 x2 x3 x4 x5 x6 x7 x8 x9 x10 x11 x12 x13 x14 x15 x16 x17 x18 x19 x20 x21 x22 x23 : Value} (h0 : x0.oneCell' = true := by rfl) (h1 : x1.oneCell' = true := by rfl) (h2 : x2.oneCell' = true := by rfl) (h3 : x3.oneCell' = true := by rfl) (h4 : x4.oneCell' = true := by rfl) (h5 : x5.oneCell' = true := by rfl) (h6 : x6.oneCell' = true := by rfl) (h7 : x7.oneCell' = true := by rfl) (h8 : x8.oneCell' = true := by rfl) (h9 : x9.oneCell' = true := by rfl) (h10 : x10.oneCell' = true := by rfl) (h11 : x11.oneCell' = true := by rfl) (h12 : x12.oneCell' = true := by rfl) (h13 : x13.oneCell' = true := by rfl) (h14 : x14.oneCell' = true := by rfl) (h15 : x15.oneCell' = true := by rfl) (h16 : x16.oneCell' = true := by rfl) (h17 : x17.oneCell' = true := by rfl) (h18 : x18.oneCell' = true := by rfl) (h19 : x19.oneCell' = true := by rfl) (h20 : x20.oneCell' = true := by rfl) (h21 : x21.oneCell' = true := by rfl) (h22 : x22.oneCell' = true := by rfl) (h23 : x23.oneCell' = true := by rfl) : (#[x0, x1, x2, x3, x4, x5, x6, x7, x8, x9, x10, x11, x12, x13, x14, x15, x16, x17, x18, x19, x20, x21, x22, x23] : Array Value).all (·.oneCell') = true := all24 h0 h1 h2 h3 h4 h5 h6 h7 h8 h9 h10 h11 h12 h13 h14 h15 h16 h17 h18 h19 h20 h21 h22 h23
theorem sslSix {w : World} {S : Nat → Prop} {s : Sc} {vc vt vo vp vi vu : Value} (h : SSl w S s vc vt vo vp vi vu) : ∃ A1 k1 A2 k2 A3 k3 A4 k4 A5 k5 A6 k6, vc = .slice A1 s.cells.length k1 ∧ vt = .slice A2 s.tabs.length k2 ∧ vo = .slice A3 s.other.length k3 ∧ vp = .slice A4 s.p.params.length k4 ∧ vi = .slice A5 s.p.inter.length k5 ∧ vu = .slice A6 s.p.utf.length k6 ∧ s.cells.length ≤ k1 ∧ k1 ≤ 9223372036854775807 ∧ s.tabs.length ≤ k2 ∧ k2 ≤ 9223372036854775807 ∧ s.other.length ≤ k3 ∧ k3 ≤ 9223372036854775807 ∧ s.p.params.length ≤ k4 ∧ k4 ≤ 9223372036854775807 ∧ s.p.inter.length ≤ k5 ∧ k5 ≤ 9223372036854775807 ∧ s.p.utf.length ≤ k6 ∧ k6 ≤ 9223372036854775807 := by
 obtain ⟨g1, g2, g3, g4, g5, g6⟩ := h
 obtain ⟨A1, k1, e1, p1, q1⟩ := g1.form
 obtain ⟨A2, k2, e2, p2, q2⟩ := g2.form
 obtain ⟨A3, k3, e3, p3, q3⟩ := g3.form
 obtain ⟨A4, k4, e4, p4, q4⟩ := g4.form
 obtain ⟨A5, k5, e5, p5, q5⟩ := g5.form
 obtain ⟨A6, k6, e6, p6, q6⟩ := g6.form
 exact ⟨A1, k1, A2, k2, A3, k3, A4, k4, A5, k5, A6, k6, e1, e2, e3, e4, e5, e6, p1, q1, p2, q2, p3, q3, p4, q4, p5, q5, p6, q6⟩
theorem heap_a1 (w : World) (x y : Obj) : ((w.alloc x).alloc y).heap[w.heap.size]? = some x := by
 show ((w.heap.push x).push y)[w.heap.size]? = some x
 simp [Array.getElem?_push]
theorem heap_a2 (w : World) (x y : Obj) : ((w.alloc x).alloc y).heap[w.heap.size + 1]? = some y := by
 show ((w.heap.push x).push y)[w.heap.size + 1]? = some y
 rw [Array.getElem?_push, if_pos (by simp)]
theorem scEnd {w W : World} {S : Nat → Prop} {s : Sc} (g : Nat) (p : Tmp) {vc vt vo vp vi vu : Value} {fn : Func} {a : Act} {z : Array Value} (hfn : fn.results = #[.cell p 30]) (ht : a.tmps.getD p undef = .pointer (some ⟨g, 0, none⟩)) (hd : a.defers = [])
  (hz : W.heap[g]? = some (.cells z 30)) (hg : w.heap.size ≤ g) (hb : Below w.heap.size w W) (hS : ∀ x, S x → x < w.heap.size) (hs : SSl w S s vc vt vo vp vi vu) : bodyPost Tryz.prog fn (ScPost S s w) .ret a (W.setRow g (vS s vc vt vo vp vi vu)) := by
 refine bodyPost_ret (v := .agg (vS s vc vt vo vp vi vu)) (resultS hfn ht (heap_setRow_same hz) rfl) hd ?_
 have hb2 := below_setRow hb hg (vS s vc vt vo vp vi vu)
 exact ⟨_, rfl, ⟨_, _, _, _, _, _, rfl, (hs.below hS hb2).mono (fun x hx => .inl hx)⟩, hb2⟩
theorem scEndC {w w4 W : World} {S : Nat → Prop} {s s0 : Sc} (g : Nat) (p : Tmp) {vc0 vc vt vo vp vi vu : Value} {fn : Func} {a : Act} {z : Array Value} (hfn : fn.results = #[.cell p 30]) (ht : a.tmps.getD p undef = .pointer (some ⟨g, 0, none⟩)) (hd : a.defers = [])
  (hz : W.heap[g]? = some (.cells z 30)) (hg : w.heap.size ≤ g) (hb : Below w.heap.size w W) (hS : ∀ x, S x → x < w.heap.size) (hs : SSl w S s0 vc0 vt vo vp vi vu) (e1 : s.tabs = s0.tabs) (e2 : s.other = s0.other) (e3 : s.p = s0.p)
  (base : Nat) (hbase : g < base) (hc : OC w4 base vc s.cells) (hk : ∀ b, base ≤ b → W.heap[b]? = w4.heap[b]?) (hz4 : w4.heap.size ≤ W.heap.size) : bodyPost Tryz.prog fn (ScPost S s w) .ret a (W.setRow g (vS s vc vt vo vp vi vu)) := by
 refine bodyPost_ret (v := .agg (vS s vc vt vo vp vi vu)) (resultS hfn ht (heap_setRow_same hz) rfl) hd ?_
 have hb2 := below_setRow hb hg (vS s vc vt vo vp vi vu)
 obtain ⟨h1, h2, h3, h4, h5, h6⟩ := (hs.below hS hb2).mono (S' := Since S w (W.setRow g (vS s vc vt vo vp vi vu))) (fun x hx => .inl hx)
 refine ⟨_, rfl, ⟨_, _, _, _, _, _, rfl, ?_⟩, hb2⟩
 unfold SSl
 rw [e1, e2, e3]
 refine ⟨(hc.cl.keep (fun q hq => World.cell?_of_block ((heap_setRow_other (by have := hq.1; omega)).trans (hk _ hq.1)))).mono (fun x hx => .inr ⟨by have := hx.1; omega, ?_⟩), h2, h3, h4, h5, h6⟩
 rw [size_setRow]
 have := hx.2
 omega
theorem scEndV {w w4 : World} {S S4 : Nat → Prop} {s : Sc} (g : Nat) (p : Tmp) {vc vt vo vp vi vu : Value} {fn : Func} {a : Act} {z : Array Value} (hfn : fn.results = #[.cell p 30]) (ht : a.tmps.getD p undef = .pointer (some ⟨g, 0, none⟩)) (hd : a.defers = [])
  (hz : w4.heap[g]? = some (.cells z 30)) (hg : w.heap.size ≤ g) (hb : Below w.heap.size w w4) (hS : ∀ x, S x → x < w.heap.size) (hs : SSl w4 S4 s vc vt vo vp vi vu) (h4 : ∀ x, S4 x → S x ∨ (g < x ∧ x < w4.heap.size)) : bodyPost Tryz.prog fn (ScPost S s w) .ret a (w4.setRow g (vS s vc vt vo vp vi vu)) := by
 refine bodyPost_ret (v := .agg (vS s vc vt vo vp vi vu)) (resultS hfn ht (heap_setRow_same hz) rfl) hd ?_
 have hb2 := below_setRow hb hg (vS s vc vt vo vp vi vu)
 refine ⟨_, rfl, ⟨_, _, _, _, _, _, rfl, (hs.keep (fun q hq => World.cell?_of_block (heap_setRow_other ?_))).mono (fun x hx => ?_)⟩, hb2⟩
 ·rcases h4 _ hq with h | h
  ·have := hS _ h; omega
  ·omega
 ·rcases h4 _ hx with h | h
  ·exact .inl h
  ·exact .inr ⟨by omega, by rw [size_setRow]; omega⟩
theorem cellR {w : World} {g : Nat} {xs : Array Value} {t : TypeId} (h : w.heap[g]? = some (.cells xs t)) (i : Nat) {v : Value} (hv : xs[i]? = some v) : w.cell? ⟨g, i, none⟩ = some v ∧ w.frozen? ⟨g, i, none⟩ = false :=
 ⟨by rw [cell_of_row w g i _ t _ h]; exact hv, by simp [World.frozen?, h]⟩
theorem downr_any (v : Value) (s : Sc) (r c : Nat) (S : Nat → Prop) (w : World) (hS : ∀ x, S x → x < w.heap.size) (h : SCV w S v s) (hi : ScIn s r c) : Calls Tryz.prog 98 #[v] w (ScPost S (downS s) w) := by
 have HSS := Lh hS
 clear hS
 obtain ⟨vc, vt, vo, vp, vi, vu, rfl, hs⟩ := h
 have HS := Lh hs
 obtain ⟨g1, g2, g3, g4, g5, g6⟩ := hs
 obtain ⟨A1, k1, rfl, p1, q1⟩ := g1.form
 obtain ⟨A2, k2, rfl, p2, q2⟩ := g2.form
 obtain ⟨A3, k3, rfl, p3, q3⟩ := g3.form
 obtain ⟨A4, k4, rfl, p4, q4⟩ := g4.form
 obtain ⟨A5, k5, rfl, p5, q5⟩ := g5.form
 obtain ⟨A6, k6, rfl, p6, q6⟩ := g6.form
 clear g1 g2 g3 g4 g5 g6
 have HI := Lh hi
 have y0 := hi.y0
 have y1 := hi.y1
 have hr := hi.rows
 have hlen : s.cells.length ≤ 1000000 := by rw [hi.g.n]; exact rc_le hi.g.r2 hi.g.c2
 have hr2 := hi.g.r2
 clear hi
 have HR := Lh hr
 have hr3 : s.rows ≤ 1000 := by omega
 have hr4 : 1 ≤ s.rows := by omega
 clear hr
 by_cases hb : s.y = s.bottom
 ·have hb1 : (s.y == s.bottom) = true := by simpa using hb
  have e : downS s = { s with wrap := false, cells := upL s.cells s.cols s.top s.bottom 1 } := by unfold downS; rw [if_pos hb]
  rw [e]
  have HBB := Lh hb
  clear e hb
  have h2 := two_new w (.cells #[.int .i64 s.rows, .int .i64 s.cols, .slice A1 s.cells.length k1, .int .i64 s.y, .int .i64 s.x, .bool false, .int .u16 (s.attr : Int), .int .i64 s.top, .int .i64 s.bottom, .slice A2 s.tabs.length k2, .int .i64 s.sy, .int .i64 s.sx, .int .u16 (s.sattr : Int), .bool s.auto, .bool s.shown, .bool s.alt, .slice A3 s.other.length k3, .int .i64 s.oy, .int .i64 s.ox, .int .i64 (s.p.mode : Int), .int .u8 (s.p.priv : Int), .slice A4 s.p.params.length k4, .slice A5 s.p.inter.length k5, .slice A6 s.p.utf.length k6] 30) (.cells zQ 30)
  have HC := Lh (HS.out.1.cs' HSS.out h2.1 (Nat.le_refl _))
  have H2 := Lh h2
  clear h2
  go_enter Tryz.func98, Tryz.ntmps98
  go_upto_region 6 with fail
  ((with_reducible refine (Up_any _ s.cells s.cols s.top s.bottom 1 _ HC.out (by omega)).mono ?_); rintro e w4 ⟨v4, rfl, o4, b4⟩; have hb4 : Below (w.heap.size + 1 + 1) _ w4 := (by rw [← H2.out.2]; exact b4); obtain ⟨k0, k1⟩ := two_keptB hb4; obtain ⟨c2, f2⟩ := cellR k0 2 rfl; have K0 := Lh k0; have K1 := Lh k1; rw [H2.out.2] at o4; have O4 := Lh o4; have B4 := Lh (H2.out.1.trans (hb4.mono (by omega))); have Z4 := b4.size; rw [H2.out.2] at Z4; clear o4 b4 hb4 k0 k1)
  obtain ⟨A7, k7, rfl, p7, q7⟩ := O4.out.cs.form
  go_upto_region 6 with fail
  refine wp_region_lit ?_
  refine wpl_loadS rfl (.tmp 1) rfl rfl ((heap_setCell_same _ _ 2 _ _ _ K0.out).trans rfl) rfl ?_
  refine wpl_storeS rfl (.tmp 2) (.tmp 29) rfl rfl rfl ((heap_setCell_other _ _ _ _ (by simp)).trans K1.out) rfl rfl all25 ?_
  go_wp2
  refine scEndC (w.heap.size + 1) 2 Tryz.results98 ?_ ?_ ((heap_setCell_other _ _ _ _ (by simp)).trans K1.out) (by omega) (B4.out.setCell (by simp) _) HSS.out HS.out ?_ ?_ ?_ (w.heap.size + 1 + 1) (by omega) O4.out (fun b hb => heap_setCell_other _ _ _ _ (by simp; omega)) (by simp)
  all_goals rfl
 ·have hb1 : (s.y == s.bottom) = false := by simpa using hb
  by_cases hb2 : s.y < s.rows - 1
  ·have e : downS s = { s with wrap := false, y := s.y + 1 } := by unfold downS; rw [if_neg hb, if_pos hb2]
   rw [e]
   clear e
   go_enter Tryz.func98, Tryz.ntmps98
   go_upto_region 6 with fail
   refine wp_region_lit ?_
   refine wpl_loadS rfl (.tmp 1) rfl rfl (heap_a1 w _ _) rfl ?_
   refine wpl_storeS rfl (.tmp 2) (.tmp 29) rfl rfl rfl (heap_a2 w _ _) rfl rfl all25 ?_
   go_wp2
   refine scEnd (w.heap.size + 1) 2 Tryz.results98 ?_ ?_ (heap_a2 w _ _) (by omega) (two_new w _ _).1 HSS.out (HS.out.like ?_ ?_ ?_ ?_)
   all_goals rfl
  ·have hb3 : decide (s.y < s.rows - 1) = false := by simpa using hb2
   have e : downS s = { s with wrap := false } := by unfold downS; rw [if_neg hb, if_neg (by omega)]
   rw [e]
   clear e
   go_enter Tryz.func98, Tryz.ntmps98
   go_upto_region 6 with fail
   refine wp_region_lit ?_
   refine wpl_loadS rfl (.tmp 1) rfl rfl (heap_a1 w _ _) rfl ?_
   refine wpl_storeS rfl (.tmp 2) (.tmp 29) rfl rfl rfl (heap_a2 w _ _) rfl rfl all25 ?_
   go_wp2
   refine scEnd (w.heap.size + 1) 2 Tryz.results98 ?_ ?_ (heap_a2 w _ _) (by omega) (two_new w _ _).1 HSS.out (HS.out.like ?_ ?_ ?_ ?_)
   all_goals rfl
@[reducible] def vRaw (m : Int) (s : Sc) (vc vt vo vp vi vu : Value) : Array Value :=
 #[.int .i64 s.rows, .int .i64 s.cols, vc, .int .i64 s.y, .int .i64 s.x, .bool s.wrap, .int .u16 (s.attr : Int), .int .i64 s.top, .int .i64 s.bottom, vt, .int .i64 s.sy, .int .i64 s.sx, .int .u16 (s.sattr : Int), .bool s.auto, .bool s.shown, .bool s.alt, vo, .int .i64 s.oy, .int .i64 s.ox, .int .i64 m, .int .u8 (s.p.priv : Int), vp, vi, vu]
theorem vRaw_cells {w : World} {g : Nat} {t : TypeId} {m : Int} {s : Sc} {vc vt vo vp vi vu : Value} (h : w.heap[g]? = some (.cells (vRaw m s vc vt vo vp vi vu) t)) :
  w.cell? ⟨g, 0, none⟩ = some (.int .i64 s.rows) ∧ w.cell? ⟨g, 1, none⟩ = some (.int .i64 s.cols) ∧ w.cell? ⟨g, 2, none⟩ = some (vc) ∧ w.cell? ⟨g, 3, none⟩ = some (.int .i64 s.y) ∧ w.cell? ⟨g, 4, none⟩ = some (.int .i64 s.x) ∧ w.cell? ⟨g, 5, none⟩ = some (.bool s.wrap) ∧ w.cell? ⟨g, 6, none⟩ = some (.int .u16 (s.attr : Int)) ∧ w.cell? ⟨g, 7, none⟩ = some (.int .i64 s.top) ∧ w.cell? ⟨g, 8, none⟩ = some (.int .i64 s.bottom) ∧ w.cell? ⟨g, 9, none⟩ = some (vt) ∧ w.cell? ⟨g, 10, none⟩ = some (.int .i64 s.sy) ∧ w.cell? ⟨g, 11, none⟩ = some (.int .i64 s.sx) ∧ w.cell? ⟨g, 12, none⟩ = some (.int .u16 (s.sattr : Int)) ∧ w.cell? ⟨g, 13, none⟩ = some (.bool s.auto) ∧ w.cell? ⟨g, 14, none⟩ = some (.bool s.shown) ∧ w.cell? ⟨g, 15, none⟩ = some (.bool s.alt) ∧ w.cell? ⟨g, 16, none⟩ = some (vo) ∧ w.cell? ⟨g, 17, none⟩ = some (.int .i64 s.oy) ∧ w.cell? ⟨g, 18, none⟩ = some (.int .i64 s.ox) ∧ w.cell? ⟨g, 19, none⟩ = some (.int .i64 m) ∧ w.cell? ⟨g, 20, none⟩ = some (.int .u8 (s.p.priv : Int)) ∧ w.cell? ⟨g, 21, none⟩ = some (vp) ∧ w.cell? ⟨g, 22, none⟩ = some (vi) ∧ w.cell? ⟨g, 23, none⟩ = some (vu) :=
 ⟨(cellR h 0 rfl).1, (cellR h 1 rfl).1, (cellR h 2 rfl).1, (cellR h 3 rfl).1, (cellR h 4 rfl).1, (cellR h 5 rfl).1, (cellR h 6 rfl).1, (cellR h 7 rfl).1, (cellR h 8 rfl).1, (cellR h 9 rfl).1, (cellR h 10 rfl).1, (cellR h 11 rfl).1, (cellR h 12 rfl).1, (cellR h 13 rfl).1, (cellR h 14 rfl).1, (cellR h 15 rfl).1, (cellR h 16 rfl).1, (cellR h 17 rfl).1, (cellR h 18 rfl).1, (cellR h 19 rfl).1, (cellR h 20 rfl).1, (cellR h 21 rfl).1, (cellR h 22 rfl).1, (cellR h 23 rfl).1⟩
theorem blk_below {w1 w2 : World} {o : Obj} {g : Nat} (h : w1.heap[g]? = some o) (hb : Below w1.heap.size w1 w2) : w2.heap[g]? = some o := by
 refine (hb.block g ?_).trans h
 exact (Array.getElem?_eq_some_iff.1 h).1
@[reducible] def vNq (m : Int) (s : Sc) (A1 A2 A3 A4 A5 A6 : Option Addr) (n1 n2 n3 n4 n5 n6 k1 k2 k3 k4 k5 k6 : Nat) : Array Value := vRaw m s (.slice A1 n1 k1) (.slice A2 n2 k2) (.slice A3 n3 k3) (.slice A4 n4 k4) (.slice A5 n5 k5) (.slice A6 n6 k6)
@[reducible] def vMq (m : Int) (s : Sc) (A1 A2 A3 A4 A5 A6 : Option Addr) (k1 k2 k3 k4 k5 k6 : Nat) : Array Value := vRaw m s (.slice A1 s.cells.length k1) (.slice A2 s.tabs.length k2) (.slice A3 s.other.length k3) (.slice A4 s.p.params.length k4) (.slice A5 s.p.inter.length k5) (.slice A6 s.p.utf.length k6)
structure RightS (m : Int) (s : Sc) : Prop where
 r1 : 1 ≤ s.rows
 r2 : s.rows ≤ 1000
 c1 : 1 ≤ s.cols
 c2 : s.cols ≤ 1000
 cells : CellsR s.cells s.rows.toNat s.cols.toNat
 y0 : 0 ≤ s.y
 y1 : s.y < s.rows
 x0 : 0 ≤ s.x
 x1 : s.x < s.cols
 sy0 : 0 ≤ s.sy
 sy1 : s.sy < s.rows
 sx0 : 0 ≤ s.sx
 sx1 : s.sx < s.cols
 oy0 : 0 ≤ s.oy
 oy1 : s.oy < s.rows
 ox0 : 0 ≤ s.ox
 ox1 : s.ox < s.cols
 wrap : s.wrap = true → s.x = s.cols - 1
 attr : attrB s.attr = true
 sattr : attrB s.sattr = true
 tabs : (s.tabs.length : Int) = s.cols
 p : RightP m s.p.priv s.p.params s.p.inter s.p.utf
 t0 : 0 ≤ s.top
 b1 : s.bottom < s.rows
 tb : s.top < s.bottom ∨ (s.rows = 1 ∧ s.top = 0 ∧ s.bottom = 0)
 other : s.alt = true → CellsR s.other s.rows.toNat s.cols.toNat
 noAlt : s.alt = false → s.other.length = 0 ∧ s.oy = 0 ∧ s.ox = 0
structure FitS (m : Int) (s : Sc) : Prop where
 m0 : -9223372036854775808 ≤ m
 m1 : m ≤ 9223372036854775807
 cells : ∀ x ∈ s.cells, CellFit x
 other : ∀ x ∈ s.other, CellFit x
 nc : s.cells.length ≤ 1048576
 no : s.other.length ≤ 1048576
 nt : s.tabs.length ≤ 1048576
 nu : s.p.utf.length ≤ 1048576
 pv : s.p.priv < 256
def RightSPost (m : Int) (s : Sc) (w : World) (e : Ending) (w' : World) : Prop := ∃ b, e = .returned (.bool b) ∧ (b = true ↔ RightS m s) ∧ Below w.heap.size w w'
theorem rightS_no {m : Int} {s : Sc} {w w' : World} (h : ¬ RightS m s) (hb : Below w.heap.size w w') : RightSPost m s w (.returned (.bool false)) w' := ⟨false, rfl, by simp [h], hb⟩
theorem rightS_of {m : Int} {s : Sc} {r c : Nat} (hr : s.rows = r) (hc : s.cols = c) (r1 : 1 ≤ r) (r2 : r ≤ 1000) (c1 : 1 ≤ c) (c2 : c ≤ 1000) (hcr : CellsR s.cells r c) (h4 : (0 ≤ s.y ∧ s.y < r) ∧ (0 ≤ s.x ∧ s.x < c) ∧ (0 ≤ s.sy ∧ s.sy < r) ∧ (0 ≤ s.sx ∧ s.sx < c) ∧ (0 ≤ s.oy ∧ s.oy < r) ∧ (0 ≤ s.ox ∧ s.ox < c))
  (hw : s.wrap = true → s.x = (c : Int) - 1) (ha : attrB s.attr = true) (ha2 : attrB s.sattr = true) (ht : (s.tabs.length : Int) = c) (hp : RightP m s.p.priv s.p.params s.p.inter s.p.utf) (htb : 0 ≤ s.top ∧ s.bottom < r) (hv : s.top < s.bottom ∨ ((r : Int) = 1 ∧ s.top = 0 ∧ s.bottom = 0))
  (ho : s.alt = true → CellsR s.other r c) (hn : s.alt = false → s.other.length = 0 ∧ s.oy = 0 ∧ s.ox = 0) : RightS m s := by
 have er : s.rows.toNat = r := by omega
 have ec : s.cols.toNat = c := by omega
 obtain ⟨⟨h1, h2⟩, ⟨h3, h5⟩, ⟨h6, h7⟩, ⟨h8, h9⟩, ⟨h10, h11⟩, ⟨h12, h13⟩⟩ := h4
 constructor
 case cells => rw [er, ec]; exact hcr
 case other => rw [er, ec]; exact ho
 case noAlt => exact hn
 case attr => exact ha
 case sattr => exact ha2
 case p => exact hp
 case wrap => rw [hc]; exact hw
 case tabs => rw [hc]; exact ht
 case tb => rw [hr]; exact hv
 all_goals omega
def snumL : List Nat → List UInt8
 | [] => []
 | n :: r => lebP n ++ snumL r
theorem snumL_app (a b : List Nat) : snumL (a ++ b) = snumL a ++ snumL b := by
 induction a with
 | nil => rfl
 | cons n r ih => show lebP n ++ snumL (r ++ b) = _; rw [ih, ← List.append_assoc]; rfl
theorem snumL_len (l : List Nat) : (snumL l).length ≤ 10 * l.length := by
 induction l with
 | nil => simp [snumL]
 | cons n r ih => have := (lebP_length n).2; simp [snumL]; omega
def bN (b : Bool) (n : Nat) : Nat := if b = true then n else 0
def tabsB (l : List Bool) : List UInt8 := snumL (l.map fun b => bN b 1)
def bitsN (s : Sc) : Nat := bN s.wrap 1 + bN s.auto 2 + bN s.shown 4 + bN s.alt 8
def headN (s : Sc) : List Nat := [s.rows.toNat, s.cols.toNat, s.y.toNat, s.x.toNat, bitsN s, s.attr, s.top.toNat, s.bottom.toNat, s.sy.toNat, s.sx.toNat, s.sattr]
def otherB (s : Sc) : List UInt8 := if s.alt = true then snumL [s.oy.toNat, s.ox.toNat] ++ bytL s.other else []
def parserB (p : Pr) : List UInt8 := snumL [p.mode, p.priv, p.params.length] ++ (snumL (p.params.map Int.toNat) ++ (putB p.inter ++ putB p.utf))
def snapL (s : Sc) : List UInt8 := snumL (headN s) ++ (tabsB s.tabs ++ (bytL s.cells ++ (otherB s ++ parserB s.p)))
abbrev Rd := List UInt8 × Bool
def numR (most : Nat) (q : Rd) : Nat × Rd := if (readL q.1).2.2 = 0 ∧ (readL q.1).1 ≤ most then ((readL q.1).1, q.1.drop (readL q.1).2.1, q.2) else (0, [], true)
def tabsR : Nat → Rd → List Bool × Rd
 | 0, q => ([], q)
 | n + 1, q => (decide ((numR 1 q).1 = 1) :: (tabsR n (numR 1 q).2).1, (tabsR n (numR 1 q).2).2)
def paramsR : Nat → Rd → List Int × Rd
 | 0, q => ([], q)
 | n + 1, q => (((numR 65535 q).1 : Int) :: (paramsR n (numR 65535 q).2).1, (paramsR n (numR 65535 q).2).2)
def cellsR (n : Nat) (q : Rd) : List Cl × Rd := if (readCL q.1 (n : Int)).2.2 = 0 then ((readCL q.1 (n : Int)).1, q.1.drop (readCL q.1 (n : Int)).2.1, q.2) else ([], [], true)
def bytesR (q : Rd) : List UInt8 × Rd := if (readB q.1 (q.1.length : Int)).2.2 = 0 then ((readB q.1 (q.1.length : Int)).1, q.1.drop (readB q.1 (q.1.length : Int)).2.1, q.2) else ([], [], true)
def parserR (q : Rd) : Pr × Rd :=
 let a := numR 7 q
 let b := numR 255 a.2
 let k := numR 16 b.2
 let ps := paramsR k.1 k.2
 let is := bytesR ps.2
 let us := bytesR is.2
 (⟨a.1, b.1, ps.1, is.1, us.1⟩, us.2)
def otherR (alt : Bool) (n : Nat) (q : Rd) : (Nat × Nat × List Cl) × Rd :=
 if alt = true then
  (let a := numR 1000 q
   let b := numR 1000 a.2
   let c := cellsR n b.2
   ((a.1, b.1, c.1), c.2))
 else ((0, 0, []), q)
structure Hd where
 rows : Nat
 cols : Nat
 y : Nat
 x : Nat
 bits : Nat
 attr : Nat
 top : Nat
 bottom : Nat
 sy : Nat
 sx : Nat
 sattr : Nat
def headR (q : Rd) : Hd × Rd :=
 let a1 := numR 1000 q
 let a2 := numR 1000 a1.2
 let a3 := numR 1000 a2.2
 let a4 := numR 1000 a3.2
 let a5 := numR 15 a4.2
 let a6 := numR 65535 a5.2
 let a7 := numR 1000 a6.2
 let a8 := numR 1000 a7.2
 let a9 := numR 1000 a8.2
 let a10 := numR 1000 a9.2
 let a11 := numR 65535 a10.2
 (⟨a1.1, a2.1, a3.1, a4.1, a5.1, a6.1, a7.1, a8.1, a9.1, a10.1, a11.1⟩, a11.2)
def mkS (h : Hd) (tabs : List Bool) (cells : List Cl) (o : Nat × Nat × List Cl) (p : Pr) : Sc :=
 ⟨h.rows, h.cols, cells, h.y, h.x, decide (h.bits % 2 = 1), h.attr, h.top, h.bottom, tabs, h.sy, h.sx, h.sattr, decide (h.bits / 2 % 2 = 1), decide (h.bits / 4 % 2 = 1), decide (h.bits / 8 % 2 = 1), o.2.2, o.1, o.2.1, p⟩
def screenR (q : Rd) : Sc × Rd :=
 let h := headR q
 let t := tabsR h.1.cols h.2
 let c := cellsR (h.1.rows * h.1.cols) t.2
 let o := otherR (decide (h.1.bits / 8 % 2 = 1)) (h.1.rows * h.1.cols) c.2
 let p := parserR o.2
 (mkS h.1 t.1 c.1 o.1 p.1, p.2)
-- There and back.
theorem numR_put (n most : Nat) (h : n ≤ most) (hn : n < 18446744073709551616) (t : List UInt8) (f : Bool) : numR most (lebP n ++ t, f) = (n, t, f) := by
 unfold numR
 simp only [readL_lebP n t hn]
 rw [if_pos ⟨trivial, h⟩, List.drop_left]
theorem bN_le (b : Bool) (n : Nat) : bN b n ≤ n := by unfold bN; split <;> omega
theorem tabsR_put (l : List Bool) (t : List UInt8) (f : Bool) : tabsR l.length (tabsB l ++ t, f) = (l, t, f) := by
 induction l with
 | nil => rfl
 | cons b r ih =>
  have e : tabsB (b :: r) ++ t = lebP (bN b 1) ++ (tabsB r ++ t) := by simp [tabsB, snumL]
  have h1 := numR_put (bN b 1) 1 (bN_le b 1) (by have := bN_le b 1; omega) (tabsB r ++ t) f
  show (decide ((numR 1 (tabsB (b :: r) ++ t, f)).1 = 1) :: (tabsR r.length (numR 1 (tabsB (b :: r) ++ t, f)).2).1, (tabsR r.length (numR 1 (tabsB (b :: r) ++ t, f)).2).2) = _
  rw [e, h1]
  simp only [ih]
  cases b <;> rfl
theorem paramsR_put (l : List Int) (hl : ∀ x ∈ l, 0 ≤ x ∧ x ≤ 65535) (t : List UInt8) (f : Bool) : paramsR l.length (snumL (l.map Int.toNat) ++ t, f) = (l, t, f) := by
 induction l with
 | nil => rfl
 | cons b r ih =>
  obtain ⟨h0, h1⟩ := hl b (by simp)
  have e : snumL ((b :: r).map Int.toNat) ++ t = lebP b.toNat ++ (snumL (r.map Int.toNat) ++ t) := by simp [snumL]
  have h2 := numR_put b.toNat 65535 (by omega) (by omega) (snumL (r.map Int.toNat) ++ t) f
  show (((numR 65535 (snumL ((b :: r).map Int.toNat) ++ t, f)).1 : Int) :: (paramsR r.length (numR 65535 (snumL ((b :: r).map Int.toNat) ++ t, f)).2).1, (paramsR r.length (numR 65535 (snumL ((b :: r).map Int.toNat) ++ t, f)).2).2) = _
  rw [e, h2]
  simp only [ih (fun x hx => hl x (by simp [hx]))]
  rw [Int.toNat_of_nonneg h0]
theorem cellsR_put (l : List Cl) (hl : ∀ x ∈ l, cellB x = true) (hn : l.length ≤ 1048576) (t : List UInt8) (f : Bool) : cellsR l.length (bytL l ++ t, f) = (l, t, f) := by
 unfold cellsR
 simp only [readCL_back l t hl hn]
 rw [if_pos trivial, List.drop_left]
theorem bytesR_put (l t : List UInt8) (hl : l.length < 18446744073709551616) (f : Bool) : bytesR (putB l ++ t, f) = (l, t, f) := by
 unfold bytesR
 have h := readB_putB l t ((putB l ++ t).length : Int) hl (by simp [putB]; omega)
 simp only [h]
 rw [if_pos trivial, List.drop_left]
theorem parserR_put (p : Pr) (hp : RightP (p.mode : Int) p.priv p.params p.inter p.utf) (t : List UInt8) (f : Bool) : parserR (parserB p ++ t, f) = (p, t, f) := by
 obtain ⟨⟨-, m7, k16, i2, hu⟩, hps, -, hpv, -, -⟩ := hp
 have hul : p.utf.length ≤ 3 := by
  rcases Nat.eq_zero_or_pos p.utf.length with h | h
  ·omega
  ·exact (beginsL_len _ (hu h).2).2
 have e1 : parserB p ++ t = lebP p.mode ++ (lebP p.priv ++ (lebP p.params.length ++ (snumL (p.params.map Int.toNat) ++ (putB p.inter ++ (putB p.utf ++ t))))) := by simp [parserB, snumL]
 unfold parserR
 simp only [e1]
 rw [numR_put p.mode 7 (by omega) (by omega)]
 simp only
 rw [numR_put p.priv 255 (by omega) (by omega)]
 simp only
 rw [numR_put p.params.length 16 (by omega) (by omega)]
 simp only
 rw [paramsR_put p.params hps]
 simp only
 rw [bytesR_put p.inter _ (by omega)]
 simp only
 rw [bytesR_put p.utf _ (by omega)]
theorem bits_lt (s : Sc) : bitsN s ≤ 15 := by
 have := bN_le s.wrap 1
 have := bN_le s.auto 2
 have := bN_le s.shown 4
 have := bN_le s.alt 8
 unfold bitsN
 omega
theorem bits_back (s : Sc) : decide (bitsN s % 2 = 1) = s.wrap ∧ decide (bitsN s / 2 % 2 = 1) = s.auto ∧ decide (bitsN s / 4 % 2 = 1) = s.shown ∧ decide (bitsN s / 8 % 2 = 1) = s.alt := by
 unfold bitsN bN
 cases s.wrap <;> cases s.auto <;> cases s.shown <;> cases s.alt <;> decide
theorem attrS_lt {a : Nat} (h : attrB a = true) : a < 4096 := by
 unfold attrB at h
 simp only [Bool.and_eq_true, decide_eq_true_eq] at h
 exact h.1.1.1
theorem headR_put (s : Sc) (hs : RightS (s.p.mode : Int) s) (t : List UInt8) (f : Bool) : headR (snumL (headN s) ++ t, f) = (⟨s.rows.toNat, s.cols.toNat, s.y.toNat, s.x.toNat, bitsN s, s.attr, s.top.toNat, s.bottom.toNat, s.sy.toNat, s.sx.toNat, s.sattr⟩, t, f) := by
 have r2 := hs.r2
 have c2 := hs.c2
 have y1 := hs.y1
 have x1 := hs.x1
 have b1 := hs.b1
 have tb := hs.tb
 have sy1 := hs.sy1
 have sx1 := hs.sx1
 have a1 := attrS_lt hs.attr
 have a2 := attrS_lt hs.sattr
 have bl := bits_lt s
 have e1 : snumL (headN s) ++ t = lebP s.rows.toNat ++ (lebP s.cols.toNat ++ (lebP s.y.toNat ++ (lebP s.x.toNat ++ (lebP (bitsN s) ++ (lebP s.attr ++ (lebP s.top.toNat ++ (lebP s.bottom.toNat ++ (lebP s.sy.toNat ++ (lebP s.sx.toNat ++ (lebP s.sattr ++ t)))))))))) := by simp [headN, snumL]
 unfold headR
 simp only [e1]
 rw [numR_put _ 1000 (by omega) (by omega)]
 simp only
 rw [numR_put _ 1000 (by omega) (by omega)]
 simp only
 rw [numR_put _ 1000 (by omega) (by omega)]
 simp only
 rw [numR_put _ 1000 (by omega) (by omega)]
 simp only
 rw [numR_put _ 15 (by omega) (by omega)]
 simp only
 rw [numR_put _ 65535 (by omega) (by omega)]
 simp only
 rw [numR_put _ 1000 (by omega) (by omega)]
 simp only
 rw [numR_put _ 1000 (by omega) (by omega)]
 simp only
 rw [numR_put _ 1000 (by omega) (by omega)]
 simp only
 rw [numR_put _ 1000 (by omega) (by omega)]
 simp only
 rw [numR_put _ 65535 (by omega) (by omega)]
theorem otherR_put (s : Sc) (hs : RightS (s.p.mode : Int) s) (t : List UInt8) (f : Bool) : otherR s.alt (s.rows.toNat * s.cols.toNat) (otherB s ++ t, f) = ((s.oy.toNat, s.ox.toNat, s.other), t, f) := by
 have r2 := hs.r2
 have c2 := hs.c2
 have oy1 := hs.oy1
 have ox1 := hs.ox1
 unfold otherR otherB
 cases h : s.alt with
 | false =>
  obtain ⟨e1, e2, e3⟩ := hs.noAlt h
  have e4 : s.other = [] := List.eq_nil_of_length_eq_zero e1
  simp [e2, e3, e4]
 | true =>
  obtain ⟨n1, n2, -⟩ := hs.other h
  have e1 : snumL [s.oy.toNat, s.ox.toNat] ++ bytL s.other ++ t = lebP s.oy.toNat ++ (lebP s.ox.toNat ++ (bytL s.other ++ t)) := by simp [snumL]
  have hle : s.rows.toNat * s.cols.toNat ≤ 1000 * 1000 := Nat.mul_le_mul (by omega) (by omega)
  simp only [if_true, e1]
  rw [numR_put _ 1000 (by omega) (by omega)]
  simp only
  rw [numR_put _ 1000 (by omega) (by omega)]
  simp only
  rw [← n1, cellsR_put s.other n2 (by omega)]
theorem screenR_put (s : Sc) (hs : RightS (s.p.mode : Int) s) (t : List UInt8) (f : Bool) : screenR (snapL s ++ t, f) = (s, t, f) := by
 have r1 := hs.r1
 have r2 := hs.r2
 have c1 := hs.c1
 have c2 := hs.c2
 have tl := hs.tabs
 obtain ⟨n1, n2, -⟩ := hs.cells
 have hle : s.rows.toNat * s.cols.toNat ≤ 1000 * 1000 := Nat.mul_le_mul (by omega) (by omega)
 obtain ⟨w1, w2, w3, w4⟩ := bits_back s
 have e1 : snapL s ++ t = snumL (headN s) ++ (tabsB s.tabs ++ (bytL s.cells ++ (otherB s ++ (parserB s.p ++ t)))) := by simp [snapL]
 unfold screenR
 simp only [e1]
 rw [headR_put s hs]
 simp only
 rw [show s.cols.toNat = s.tabs.length by omega, tabsR_put]
 simp only
 rw [show s.tabs.length = s.cols.toNat by omega, ← n1, cellsR_put s.cells n2 (by omega)]
 simp only
 rw [w4, n1, otherR_put s hs]
 simp only
 rw [parserR_put s.p hs.p]
 simp only
 have ey := hs.y0
 have ex := hs.x0
 have e3 := hs.t0
 have e4 : 0 ≤ s.bottom := by have := hs.tb; omega
 have e5 := hs.sy0
 have e6 := hs.sx0
 have e7 := hs.oy0
 have e8 := hs.ox0
 unfold mkS
 simp only [w1, w2, w3, w4]
 rw [Int.toNat_of_nonneg (show 0 ≤ s.rows by omega), Int.toNat_of_nonneg (show 0 ≤ s.cols by omega), Int.toNat_of_nonneg ey, Int.toNat_of_nonneg ex, Int.toNat_of_nonneg e3, Int.toNat_of_nonneg e4, Int.toNat_of_nonneg e5, Int.toNat_of_nonneg e6, Int.toNat_of_nonneg e7, Int.toNat_of_nonneg e8]
-- What is read is just what was put.
theorem readG_canon (l : List UInt8) : ∀ (acc i v k : Nat), i ≤ 9 → readG acc i l = (v, k, 0) → ∃ n, v = acc + n * 2 ^ (7 * i) ∧ i ≤ k ∧ l.take (k - i) = lebF (9 - i) n ∧ k - i ≤ l.length ∧ (i = 0 ∨ 0 < n) := by
 induction l with
 | nil => intro acc i v k _ h; simp [readG] at h
 | cons c r ih =>
  intro acc i v k hi h
  have hc : c.toNat < 256 := c.toNat_lt
  have hcc : UInt8.ofNat c.toNat = c := by simp
  unfold readG at h
  split at h
  ·simp at h
  ·rename_i h9
   split at h
   ·rename_i hbig
    obtain ⟨n, e1, e2, e3, e4, e5⟩ := ih _ _ _ _ (show i + 1 ≤ 9 by omega) h
    have hn : 0 < n := by omega
    refine ⟨c.toNat % 128 + 128 * n, ?_, by omega, ?_, by simp; omega, .inr (by omega)⟩
    ·rw [e1, show 7 * (i + 1) = 7 * i + 7 by omega, Nat.pow_add, Nat.add_mul, Nat.add_assoc]
     congr 1
     rw [show (2 : Nat) ^ 7 = 128 from rfl, Nat.mul_comm (2 ^ (7 * i)) 128, ← Nat.mul_assoc, Nat.mul_comm n 128]
    ·obtain ⟨j, hj⟩ : ∃ j, k - i = j + 1 := ⟨k - i - 1, by omega⟩
     rw [hj, List.take_succ_cons, show 9 - i = (9 - (i + 1)) + 1 by omega, lebF_big _ _ (by omega)]
     rw [show (c.toNat % 128 + 128 * n) % 128 + 128 = c.toNat by omega, show (c.toNat % 128 + 128 * n) / 128 = n by omega, hcc, ← e3]
     congr 2
     omega
   ·rename_i hsm
    split at h
    ·simp at h
    ·rename_i hz
     simp only [Prod.mk.injEq, and_true] at h
     obtain ⟨rfl, rfl⟩ := h
     refine ⟨c.toNat % 128, rfl, by omega, ?_, by simp, ?_⟩
     ·rw [show i + 1 - i = 1 by omega, lebF_small _ _ (by omega), show c.toNat % 128 = c.toNat by omega, hcc]
      simp
     ·omega
theorem readL_canon {l : List UInt8} {v k : Nat} (h : readL l = (v, k, 0)) : l = lebP v ++ l.drop k ∧ k = (lebP v).length := by
 obtain ⟨n, e1, e2, e3, e4, -⟩ := readG_canon l 0 0 v k (by omega) h
 have hv : v = n := by simpa using e1
 subst hv
 have e5 : l.take k = lebP v := by simpa [lebP] using e3
 refine ⟨by rw [← e5, List.take_append_drop], ?_⟩
 rw [← e5, List.length_take]
 omega
theorem readL_split (l : List UInt8) : ∃ v k e, readL l = (v, k, e) := ⟨_, _, _, rfl⟩
theorem numR_canon {most n : Nat} {l r : List UInt8} {f : Bool} (h : numR most (l, f) = (n, r, false)) : l = lebP n ++ r ∧ f = false ∧ n ≤ most := by
 unfold numR at h
 split at h
 ·rename_i hc
  obtain ⟨v, k, e, hv⟩ := readL_split l
  simp only [hv] at h hc
  obtain ⟨rfl, hm⟩ := hc
  simp only [Prod.mk.injEq] at h
  obtain ⟨rfl, rfl, rfl⟩ := h
  exact ⟨(readL_canon hv).1, rfl, hm⟩
 ·simp at h
theorem numR_le (most : Nat) (q : Rd) : (numR most q).1 ≤ most := by
 unfold numR
 split
 ·rename_i h; exact h.2
 ·simp
theorem numR_rest (most : Nat) (q : Rd) : (numR most q).2.1.length ≤ q.1.length := by
 unfold numR
 split
 ·simp
 ·simp
theorem tabsR_canon (n : Nat) : ∀ {l r : List UInt8} {f : Bool} {b : List Bool}, tabsR n (l, f) = (b, r, false) → l = tabsB b ++ r ∧ f = false ∧ b.length = n := by
 induction n with
 | zero =>
  intro l r f b h
  simp only [tabsR, Prod.mk.injEq] at h
  obtain ⟨rfl, rfl, rfl⟩ := h
  exact ⟨rfl, rfl, rfl⟩
 | succ n ih =>
  intro l r f b h
  simp only [tabsR, Prod.mk.injEq] at h
  obtain ⟨rfl, h2⟩ := h
  have e0 : tabsR n (numR 1 (l, f)).2 = ((tabsR n (numR 1 (l, f)).2).1, r, false) := by rw [← h2]
  obtain ⟨e1, e2, e3⟩ := ih (l := (numR 1 (l, f)).2.1) (f := (numR 1 (l, f)).2.2) e0
  have h3 : numR 1 (l, f) = ((numR 1 (l, f)).1, (numR 1 (l, f)).2.1, false) := by rw [← e2]
  obtain ⟨g1, g2, g3⟩ := numR_canon h3
  refine ⟨?_, g2, by simp [e3]⟩
  conv => lhs; rw [g1, e1]
  have : bN (decide ((numR 1 (l, f)).1 = 1)) 1 = (numR 1 (l, f)).1 := by
   unfold bN
   rcases Nat.lt_or_ge (numR 1 (l, f)).1 1 with c | c
   ·rw [show (numR 1 (l, f)).1 = 0 by omega]; rfl
   ·rw [show (numR 1 (l, f)).1 = 1 by omega]; rfl
  show _ = (lebP (bN (decide ((numR 1 (l, f)).1 = 1)) 1) ++ tabsB _) ++ r
  rw [this, List.append_assoc]
theorem paramsR_canon (n : Nat) : ∀ {l r : List UInt8} {f : Bool} {b : List Int}, paramsR n (l, f) = (b, r, false) → l = snumL (b.map Int.toNat) ++ r ∧ f = false ∧ b.length = n := by
 induction n with
 | zero =>
  intro l r f b h
  simp only [paramsR, Prod.mk.injEq] at h
  obtain ⟨rfl, rfl, rfl⟩ := h
  exact ⟨rfl, rfl, rfl⟩
 | succ n ih =>
  intro l r f b h
  simp only [paramsR, Prod.mk.injEq] at h
  obtain ⟨rfl, h2⟩ := h
  have e0 : paramsR n (numR 65535 (l, f)).2 = ((paramsR n (numR 65535 (l, f)).2).1, r, false) := by rw [← h2]
  obtain ⟨e1, e2, e3⟩ := ih (l := (numR 65535 (l, f)).2.1) (f := (numR 65535 (l, f)).2.2) e0
  have h3 : numR 65535 (l, f) = ((numR 65535 (l, f)).1, (numR 65535 (l, f)).2.1, false) := by rw [← e2]
  obtain ⟨g1, g2, g3⟩ := numR_canon h3
  refine ⟨?_, g2, by simp [e3]⟩
  conv => lhs; rw [g1, e1]
  show _ = (lebP ((numR 65535 (l, f)).1 : Int).toNat ++ snumL _) ++ r
  rw [Int.toNat_natCast, List.append_assoc]
theorem bytesR_canon {l r b : List UInt8} {f : Bool} (h : bytesR (l, f) = (b, r, false)) : l = putB b ++ r ∧ f = false := by
 unfold bytesR at h
 split at h
 ·rename_i hc
  simp only [Prod.mk.injEq] at h
  obtain ⟨v, k, e, hv⟩ := readL_split l
  have hb : readB l (l.length : Int) = (b, (readB l (l.length : Int)).2.1, 0) := by rw [← h.1, ← hc]
  unfold readB at hb hc h
  simp only [hv] at hb hc h
  split at hc
  ·rename_i c; exact absurd hc c
  ·rename_i c0
   have he : e = 0 := by omega
   subst he
   split at hc
   ·simp at hc
   ·split at hc
    ·simp at hc
    ·rename_i c2 c3
     rw [if_neg c0, if_neg c2, if_neg c3] at h
     obtain ⟨g1, g2, rfl⟩ := h
     obtain ⟨q1, q2⟩ := readL_canon hv
     refine ⟨?_, rfl⟩
     have hl : b.length = v := by rw [← g1]; simp; omega
     unfold putB
     rw [hl, List.append_assoc, ← g1, ← g2, ← List.drop_drop, List.take_append_drop]
     exact q1
 ·simp at h
theorem run3_canon {b : List UInt8} {n v2 v3 k : Nat} (h : run3 b = ((n, v2, v3), k, 0)) : b = lebP n ++ (lebP v2 ++ (lebP v3 ++ b.drop k)) := by
 obtain ⟨x1, k1, e1, h1⟩ := readL_split b
 obtain ⟨x2, k2, e2, h2⟩ := readL_split (b.drop k1)
 obtain ⟨x3, k3, e3, h3⟩ := readL_split (b.drop (k1 + k2))
 by_cases c1 : e1 = 0
 ·subst c1
  by_cases c2 : e2 = 0
  ·subst c2
   by_cases c3 : e3 = 0
   ·subst c3
    rw [run3_ok h1 h2 h3] at h
    simp only [Prod.mk.injEq, and_true] at h
    obtain ⟨⟨rfl, rfl, rfl⟩, rfl⟩ := h
    have q1 := (readL_canon h1).1
    have q2 := (readL_canon h2).1
    have q3 := (readL_canon h3).1
    rw [List.drop_drop] at q2 q3
    rw [← q3, ← q2]
    exact q1
   ·rw [run3_e3 h1 h2 h3 c3] at h; simp only [Prod.mk.injEq] at h; omega
  ·rw [run3_e2 h1 h2 c2] at h; simp only [Prod.mk.injEq] at h; omega
 ·rw [run3_e1 h1 c1] at h; simp only [Prod.mk.injEq] at h; omega
theorem cellOf_num {v2 v3 : Nat} (h2 : v2 ≤ 1114111) (h3 : v3 < 16384) : (cellOf v2 v3).r.toNat = v2 ∧ 4 * (cellOf v2 v3).a + (cellOf v2 v3).h = v3 := by
 unfold cellOf
 simp only [Int.toNat_natCast, true_and]
 omega
theorem sameN_rep (n : Nat) (c : Cl) (r : List Cl) (h : r.head? ≠ some c) : sameN c (List.replicate n c ++ r) = n := by
 induction n with
 | zero =>
  cases r with
  | nil => rfl
  | cons x r =>
   have : x ≠ c := fun e => h (by simp [e])
   simp [sameN, this]
 | succ n ih => simp [List.replicate_succ, sameN, ih]
theorem bytL_run (n : Nat) (c : Cl) (r : List Cl) (hn : 0 < n) (h : r.head? ≠ some c) : bytL (List.replicate n c ++ r) = runB n c ++ bytL r := by
 obtain ⟨m, rfl⟩ : ∃ m, n = m + 1 := ⟨n - 1, by omega⟩
 rw [List.replicate_succ, List.cons_append, bytL_cons, sameN_rep m c r h]
 congr 2
 rw [List.drop_left' (by simp)]
theorem rep_last (out : List Cl) (n : Nat) (c : Cl) (hn : 0 < n) : (out ++ List.replicate n c).getLast? = some c := by
 obtain ⟨m, rfl⟩ : ∃ m, n = m + 1 := ⟨n - 1, by omega⟩
 rw [List.replicate_succ', ← List.append_assoc]
 simp
theorem readF_canon (n : Nat) : ∀ (f : Nat) (b : List UInt8) (out res : List Cl) (at_ at2 : Nat), n - out.length ≤ f → out.length ≤ n → readF n f b out at_ = (res, at2, 0) →
  ∃ c, res = out ++ c ∧ res.length = n ∧ at_ ≤ at2 ∧ b = bytL c ++ b.drop (at2 - at_) ∧ (c = [] ∨ out.getLast? = none ∨ out.getLast? ≠ c.head?) ∧ ∀ x ∈ c, cellB x = true := by
 intro f
 induction f with
 | zero =>
  intro b out res at_ at2 hf hl h
  simp only [readF, Prod.mk.injEq, and_true] at h
  obtain ⟨rfl, rfl⟩ := h
  exact ⟨[], by simp, by omega, by omega, by simp [bytL, bytF], .inl rfl, by simp⟩
 | succ f ih =>
  intro b out res at_ at2 hf hl h
  by_cases hlt : out.length < n
  ·obtain ⟨⟨⟨v1, v2, v3⟩, k, e⟩, hr⟩ : ∃ x, run3 b = x := ⟨_, rfl⟩
   by_cases he : e = 0
   ·subst he
    by_cases hb : v1 = 0 ∨ n - out.length < v1 ∨ 1114111 < v2 ∨ 16384 ≤ v3
    ·rw [readF_bad hf hlt hr (.inl hb)] at h; simp at h
    ·by_cases hc : cellB (cellOf v2 v3) = false ∨ out.getLast? = some (cellOf v2 v3)
     ·rw [readF_bad hf hlt hr (.inr hc)] at h; simp at h
     ·rw [readF] at h
      rw [if_pos hlt, hr] at h
      rw [if_neg (by simp), if_neg hb, if_neg hc] at h
      simp only at h
      obtain ⟨c, e1, e2, e3, e4, e5, e6⟩ := ih _ _ _ _ _ (by simp; omega) (by simp; omega) h
      have hlast := rep_last out v1 (cellOf v2 v3) (by omega)
      have hne : c.head? ≠ some (cellOf v2 v3) := by
       intro hh
       rcases e5 with e5 | e5 | e5
       ·rw [e5] at hh; cases hh
       ·rw [hlast] at e5; cases e5
       ·exact e5 (hlast.trans hh.symm)
      obtain ⟨g1, g2⟩ := cellOf_num (v2 := v2) (v3 := v3) (by omega) (by omega)
      refine ⟨List.replicate v1 (cellOf v2 v3) ++ c, by rw [e1, List.append_assoc], e2, by omega, ?_, ?_, ?_⟩
      ·rw [bytL_run v1 _ c (by omega) hne]
       have q := run3_canon hr
       unfold runB
       rw [g1, g2, List.append_assoc, List.append_assoc, List.append_assoc]
       rw [List.drop_drop] at e4
       rw [show k + (at2 - (at_ + k)) = at2 - at_ by omega] at e4
       rw [← e4]
       exact q
      ·obtain ⟨m, rfl⟩ : ∃ m, v1 = m + 1 := ⟨v1 - 1, by omega⟩
       rw [List.replicate_succ, List.cons_append, List.head?_cons]
       exact .inr (.inr (fun hh => hc (.inr hh)))
      ·intro x hx
       rcases List.mem_append.1 hx with hx | hx
       ·rw [List.eq_of_mem_replicate hx]
        cases hh : cellB (cellOf v2 v3) with
        | false => exact absurd (.inl hh) hc
        | true => rfl
       ·exact e6 x hx
   ·rw [readF_err hf hlt hr he] at h; simp only [Prod.mk.injEq] at h; omega
  ·rw [readF_end _ _ _ _ _ hlt] at h
   simp only [Prod.mk.injEq, and_true] at h
   obtain ⟨rfl, rfl⟩ := h
   exact ⟨[], by simp, by omega, by omega, by simp [bytL, bytF], .inl rfl, by simp⟩
theorem cellsR_canon {n : Nat} {l r : List UInt8} {f : Bool} {c : List Cl} (h : cellsR n (l, f) = (c, r, false)) : l = bytL c ++ r ∧ f = false ∧ c.length = n ∧ ∀ x ∈ c, cellB x = true := by
 unfold cellsR at h
 split at h
 ·rename_i hc
  obtain ⟨⟨c0, k, e⟩, hv⟩ : ∃ x, readCL l (n : Int) = x := ⟨_, rfl⟩
  simp only [hv] at h hc
  subst hc
  simp only [Prod.mk.injEq] at h
  obtain ⟨rfl, rfl, rfl⟩ := h
  unfold readCL at hv
  rw [Int.toNat_natCast] at hv
  obtain ⟨c, e1, e2, e3, e4, -, e6⟩ := readF_canon n n l [] c0 0 k (by simp) (by simp) hv
  rw [List.nil_append] at e1
  subst e1
  exact ⟨e4, rfl, e2, e6⟩
 ·simp at h
theorem parserR_canon {l r : List UInt8} {f : Bool} {p : Pr} (h : parserR (l, f) = (p, r, false)) : l = parserB p ++ r ∧ f = false ∧ p.priv ≤ 255 ∧ p.mode ≤ 7 ∧ p.params.length ≤ 16 := by
 unfold parserR at h
 obtain ⟨a, ha⟩ : ∃ x, numR 7 (l, f) = x := ⟨_, rfl⟩
 simp only [ha] at h
 obtain ⟨b, hb⟩ : ∃ x, numR 255 a.2 = x := ⟨_, rfl⟩
 simp only [hb] at h
 obtain ⟨k, hk⟩ : ∃ x, numR 16 b.2 = x := ⟨_, rfl⟩
 simp only [hk] at h
 obtain ⟨ps, hps⟩ : ∃ x, paramsR k.1 k.2 = x := ⟨_, rfl⟩
 simp only [hps] at h
 obtain ⟨is, his⟩ : ∃ x, bytesR ps.2 = x := ⟨_, rfl⟩
 simp only [his] at h
 obtain ⟨us, hus⟩ : ∃ x, bytesR is.2 = x := ⟨_, rfl⟩
 simp only [hus, Prod.mk.injEq] at h
 obtain ⟨rfl, h2⟩ := h
 obtain ⟨a1, a2, a3⟩ := a
 obtain ⟨b1, b2, b3⟩ := b
 obtain ⟨k1, k2, k3⟩ := k
 obtain ⟨p1, p2, p3⟩ := ps
 obtain ⟨i1, i2, i3⟩ := is
 obtain ⟨u1, u2, u3⟩ := us
 simp only at h2
 obtain ⟨rfl, rfl⟩ := Prod.mk.inj h2
 obtain ⟨e6, rfl⟩ := bytesR_canon hus
 obtain ⟨e5, rfl⟩ := bytesR_canon his
 obtain ⟨e4, rfl, e4n⟩ := paramsR_canon _ hps
 obtain ⟨e3, rfl, e3n⟩ := numR_canon hk
 obtain ⟨e2, rfl, e2n⟩ := numR_canon hb
 obtain ⟨e1, rfl, e1n⟩ := numR_canon ha
 refine ⟨?_, rfl, e2n, e1n, by simp only; omega⟩
 rw [e1, e2, e3, e4, e5, e6]
 simp only at e4n
 simp [parserB, snumL, e4n]
theorem headR_canon {l r : List UInt8} {f : Bool} {h : Hd} (hh : headR (l, f) = (h, r, false)) : l = snumL [h.rows, h.cols, h.y, h.x, h.bits, h.attr, h.top, h.bottom, h.sy, h.sx, h.sattr] ++ r ∧ f = false ∧ h.rows ≤ 1000 ∧ h.cols ≤ 1000 ∧ h.bits ≤ 15 := by
 unfold headR at hh
 obtain ⟨a1, h1⟩ : ∃ x, numR 1000 (l, f) = x := ⟨_, rfl⟩
 simp only [h1] at hh
 obtain ⟨a2, h2⟩ : ∃ x, numR 1000 a1.2 = x := ⟨_, rfl⟩
 simp only [h2] at hh
 obtain ⟨a3, h3⟩ : ∃ x, numR 1000 a2.2 = x := ⟨_, rfl⟩
 simp only [h3] at hh
 obtain ⟨a4, h4⟩ : ∃ x, numR 1000 a3.2 = x := ⟨_, rfl⟩
 simp only [h4] at hh
 obtain ⟨a5, h5⟩ : ∃ x, numR 15 a4.2 = x := ⟨_, rfl⟩
 simp only [h5] at hh
 obtain ⟨a6, h6⟩ : ∃ x, numR 65535 a5.2 = x := ⟨_, rfl⟩
 simp only [h6] at hh
 obtain ⟨a7, h7⟩ : ∃ x, numR 1000 a6.2 = x := ⟨_, rfl⟩
 simp only [h7] at hh
 obtain ⟨a8, h8⟩ : ∃ x, numR 1000 a7.2 = x := ⟨_, rfl⟩
 simp only [h8] at hh
 obtain ⟨a9, h9⟩ : ∃ x, numR 1000 a8.2 = x := ⟨_, rfl⟩
 simp only [h9] at hh
 obtain ⟨a10, h10⟩ : ∃ x, numR 1000 a9.2 = x := ⟨_, rfl⟩
 simp only [h10] at hh
 obtain ⟨a11, h11⟩ : ∃ x, numR 65535 a10.2 = x := ⟨_, rfl⟩
 simp only [h11] at hh
 obtain ⟨rfl, hh2⟩ := Prod.mk.inj hh
 clear hh
 obtain ⟨x1, y1, z1⟩ := a1
 obtain ⟨x2, y2, z2⟩ := a2
 obtain ⟨x3, y3, z3⟩ := a3
 obtain ⟨x4, y4, z4⟩ := a4
 obtain ⟨x5, y5, z5⟩ := a5
 obtain ⟨x6, y6, z6⟩ := a6
 obtain ⟨x7, y7, z7⟩ := a7
 obtain ⟨x8, y8, z8⟩ := a8
 obtain ⟨x9, y9, z9⟩ := a9
 obtain ⟨x10, y10, z10⟩ := a10
 obtain ⟨x11, y11, z11⟩ := a11
 simp only at hh2
 obtain ⟨rfl, rfl⟩ := Prod.mk.inj hh2
 obtain ⟨e11, rfl, -⟩ := numR_canon h11
 obtain ⟨e10, rfl, -⟩ := numR_canon h10
 obtain ⟨e9, rfl, -⟩ := numR_canon h9
 obtain ⟨e8, rfl, -⟩ := numR_canon h8
 obtain ⟨e7, rfl, -⟩ := numR_canon h7
 obtain ⟨e6, rfl, -⟩ := numR_canon h6
 obtain ⟨e5, rfl, n5⟩ := numR_canon h5
 obtain ⟨e4, rfl, -⟩ := numR_canon h4
 obtain ⟨e3, rfl, -⟩ := numR_canon h3
 obtain ⟨e2, rfl, n2⟩ := numR_canon h2
 obtain ⟨e1, rfl, n1⟩ := numR_canon h1
 refine ⟨?_, rfl, n1, n2, n5⟩
 rw [e1, e2, e3, e4, e5, e6, e7, e8, e9, e10, e11]
 simp [snumL]
theorem otherR_canon {alt : Bool} {n : Nat} {l r : List UInt8} {f : Bool} {o : Nat × Nat × List Cl} (h : otherR alt n (l, f) = (o, r, false)) : l = (if alt = true then snumL [o.1, o.2.1] ++ bytL o.2.2 else []) ++ r ∧ f = false := by
 unfold otherR at h
 cases alt with
 | false =>
  simp only [Bool.false_eq_true, if_false, Prod.mk.injEq] at h
  obtain ⟨rfl, rfl, rfl⟩ := h
  simp
 | true =>
  simp only [if_true] at h
  obtain ⟨a1, h1⟩ : ∃ x, numR 1000 (l, f) = x := ⟨_, rfl⟩
  simp only [h1] at h
  obtain ⟨a2, h2⟩ : ∃ x, numR 1000 a1.2 = x := ⟨_, rfl⟩
  simp only [h2] at h
  obtain ⟨a3, h3⟩ : ∃ x, cellsR n a2.2 = x := ⟨_, rfl⟩
  simp only [h3] at h
  obtain ⟨rfl, hh2⟩ := Prod.mk.inj h
  clear h
  obtain ⟨x1, y1, z1⟩ := a1
  obtain ⟨x2, y2, z2⟩ := a2
  obtain ⟨x3, y3, z3⟩ := a3
  simp only at hh2
  obtain ⟨rfl, rfl⟩ := Prod.mk.inj hh2
  obtain ⟨e3, rfl, -⟩ := cellsR_canon h3
  obtain ⟨e2, rfl, -⟩ := numR_canon h2
  obtain ⟨e1, rfl, -⟩ := numR_canon h1
  refine ⟨?_, rfl⟩
  rw [e1, e2, e3]
  simp [snumL]
theorem bits_mk {b : Nat} (h : b ≤ 15) {s : Sc} (e1 : s.wrap = decide (b % 2 = 1)) (e2 : s.auto = decide (b / 2 % 2 = 1)) (e3 : s.shown = decide (b / 4 % 2 = 1)) (e4 : s.alt = decide (b / 8 % 2 = 1)) : bitsN s = b := by
 unfold bitsN bN
 rw [e1, e2, e3, e4]
 simp only [decide_eq_true_eq]
 split <;> split <;> split <;> split <;> omega
theorem screenR_canon {l r : List UInt8} {f : Bool} {s : Sc} (h : screenR (l, f) = (s, r, false)) : l = snapL s ++ r ∧ f = false ∧ s.p.priv ≤ 255 ∧ s.p.mode ≤ 7 := by
 unfold screenR at h
 obtain ⟨⟨hd, qh⟩, h1⟩ : ∃ x, headR (l, f) = x := ⟨_, rfl⟩
 simp only [h1] at h
 obtain ⟨⟨tb, qt⟩, h2⟩ : ∃ x, tabsR hd.cols qh = x := ⟨_, rfl⟩
 simp only [h2] at h
 obtain ⟨⟨cs, qc⟩, h3⟩ : ∃ x, cellsR (hd.rows * hd.cols) qt = x := ⟨_, rfl⟩
 simp only [h3] at h
 obtain ⟨⟨o, qo⟩, h4⟩ : ∃ x, otherR (decide (hd.bits / 8 % 2 = 1)) (hd.rows * hd.cols) qc = x := ⟨_, rfl⟩
 simp only [h4] at h
 obtain ⟨⟨p, qp⟩, h5⟩ : ∃ x, parserR qo = x := ⟨_, rfl⟩
 simp only [h5] at h
 obtain ⟨rfl, rfl⟩ := Prod.mk.inj h
 obtain ⟨lo, fo⟩ := qo
 obtain ⟨lc, fc⟩ := qc
 obtain ⟨lt, ft⟩ := qt
 obtain ⟨lh, fh⟩ := qh
 obtain ⟨e5, rfl, n5, m5, -⟩ := parserR_canon h5
 obtain ⟨e4, rfl⟩ := otherR_canon h4
 obtain ⟨e3, rfl, -⟩ := cellsR_canon h3
 obtain ⟨e2, rfl, -⟩ := tabsR_canon _ h2
 obtain ⟨e1, rfl, n1, n2, n3⟩ := headR_canon h1
 refine ⟨?_, rfl, n5, m5⟩
 have hb : bitsN (mkS hd tb cs o p) = hd.bits := bits_mk n3 rfl rfl rfl rfl
 rw [e1, e2, e3, e4, e5]
 unfold snapL headN otherB
 rw [hb]
 simp [mkS]
def IsSnap (b : List UInt8) (s : Sc) : Prop := RightS (s.p.mode : Int) s ∧ snapL s = b
theorem snap_inj {s t : Sc} (hs : RightS (s.p.mode : Int) s) (ht : RightS (t.p.mode : Int) t) (h : snapL s = snapL t) : s = t := by
 have e1 := screenR_put s hs [] false
 have e2 := screenR_put t ht [] false
 rw [h, e2] at e1
 exact (Prod.mk.inj e1).1.symm
theorem snap_pre {s t : Sc} {m : List UInt8} (hs : RightS (s.p.mode : Int) s) (ht : RightS (t.p.mode : Int) t) (h : snapL s ++ m = snapL t) : m = [] := by
 have e1 := screenR_put s hs m false
 have e2 := screenR_put t ht [] false
 rw [List.append_nil] at e2
 rw [h, e2] at e1
 exact (Prod.mk.inj (Prod.mk.inj e1).2).1.symm
theorem isSnap_iff (b : List UInt8) : ((screenR (b, false)).2.2 = false ∧ (screenR (b, false)).2.1 = [] ∧ RightS ((screenR (b, false)).1.p.mode : Int) (screenR (b, false)).1) ↔ ∃ s, IsSnap b s := by
 constructor
 ·rintro ⟨h1, h2, h3⟩
  refine ⟨(screenR (b, false)).1, h3, ?_⟩
  have := (screenR_canon (l := b) (r := []) (f := false) (s := (screenR (b, false)).1) (Prod.ext rfl (Prod.ext h2 h1))).1
  rw [List.append_nil] at this
  exact this.symm
 ·rintro ⟨s, hs, rfl⟩
  have e1 := screenR_put s hs [] false
  rw [List.append_nil] at e1
  rw [e1]
  exact ⟨rfl, rfl, hs⟩
theorem isSnap_read {b : List UInt8} {s : Sc} (h : IsSnap b s) : (screenR (b, false)).1 = s := by
 obtain ⟨hs, rfl⟩ := h
 have e1 := screenR_put s hs [] false
 rw [List.append_nil] at e1
 rw [e1]
theorem or128_nat : ∀ a : Nat, a < 256 → a ||| 128 = a % 128 + 128 := by decide +kernel
theorem or128 (a : Int) (h0 : 0 ≤ a) (h1 : a < 256) : bits .or .u8 a 128 = a % 128 + 128 := by
 rw [u8_or a 128 h0 h1 (by omega) (by omega), show (128 : Int).toNat = 128 from rfl, or128_nat _ (by omega)]
 omega
theorem and127 (a : Int) (h0 : 0 ≤ a) (h1 : a < 18446744073709551616) : bits .and .u64 a 127 = a % 128 := by
 rw [u64_and a 127 h0 h1 (by omega) (by omega), show (127 : Int).toNat = 127 from rfl, nat_mask7]
 omega
theorem mul_pow_lt (m : Int) (k : Nat) (_h0 : 0 ≤ m) (h : m.toNat * 2 ^ (7 * k) < 2 ^ 64) : m < 18446744073709551616 := by
 have := Nat.le_mul_of_pos_right m.toNat (Nat.two_pow_pos (7 * k))
 omega
def PutRel (n : Int) (base : Nat) (w0 : World) (t v : Value) (w : World) : Prop :=
 ∃ (m : Int) (f : Nat) (l : List UInt8), 0 ≤ m ∧ t = .int .u64 m ∧ l.length + f = 9 ∧ m.toNat * 2 ^ (7 * l.length) < 2 ^ 64 ∧ l ++ lebF f m.toNat = lebP n.toNat ∧ OB w base v l ∧ Below base w0 w
def PutPost (n : Int) (w : World) (e : Ending) (w' : World) : Prop := ∃ v, e = .returned v ∧ OB w' w.heap.size v (lebP n.toNat) ∧ Below w.heap.size w w'
theorem put_step {n m : Int} {f base : Nat} {l : List UInt8} {w0 w1 : World} {v1 : Value} (_hm0 : 0 ≤ m) (hlt : ¬ m < 128) (hf : l.length + f = 9) (hm : m.toNat * 2 ^ (7 * l.length) < 2 ^ 64) (hl : l ++ lebF f m.toNat = lebP n.toNat)
  (hown : OB w1 base v1 (l ++ [UInt8.ofNat (m % 128 + 128).toNat])) (hb : Below base w0 w1) : PutRel n base w0 (.int .u64 (m / 128)) v1 w1 := by
 have hf1 : 1 ≤ f := by
  rcases Nat.eq_zero_or_pos f with h | h
  ·have : l.length = 9 := by omega
   rw [this] at hm
   omega
  ·exact h
 obtain ⟨f, rfl⟩ : ∃ g, f = g + 1 := ⟨f - 1, by omega⟩
 have e1 : (m / 128).toNat = m.toNat / 128 := by omega
 have e2 : (m % 128 + 128).toNat = m.toNat % 128 + 128 := by omega
 refine ⟨m / 128, f, _, by omega, rfl, by simp; omega, ?_, ?_, hown, hb⟩
 ·rw [e1, List.length_append, List.length_singleton]
  have e3 : 2 ^ (7 * (l.length + 1)) = 128 * 2 ^ (7 * l.length) := by rw [Nat.mul_add, Nat.pow_add, Nat.mul_comm]
  rw [e3, ← Nat.mul_assoc]
  have : m.toNat / 128 * 128 * 2 ^ (7 * l.length) ≤ m.toNat * 2 ^ (7 * l.length) := Nat.mul_le_mul_right _ (by omega)
  omega
 ·rw [e1, e2, List.append_assoc, ← hl, lebF_big _ _ (by omega)]
  rfl
theorem put_last {n m : Int} {f base : Nat} {l : List UInt8} {w1 : World} {v1 : Value} (hlt : m < 128) (hl : l ++ lebF f m.toNat = lebP n.toNat)
  (hown : OB w1 base v1 (l ++ [UInt8.ofNat m.toNat])) : OB w1 base v1 (lebP n.toNat) := by
 rw [← hl, lebF_small _ _ (by omega)]
 exact hown
theorem put_any (n : Int) (hn0 : 0 ≤ n) (hn : n < 18446744073709551616) (w : World) : Calls Tryz.prog 50 #[.int .u64 n] w (PutPost n w) := by
 go_enter Tryz.func50, Tryz.ntmps50
 go_wp2
 go_loopw [0, 3] (fun t v wr => PutRel n w.heap.size w t v wr) (fun t _ _ => (intOf t).toNat)
 case atStart => exact ⟨n, 9, [], hn0, rfl, rfl, by simp; omega, rfl, OB.nil _ _, Below.refl _ _⟩
 case round =>
  obtain ⟨m, f, l, hm0, rfl, hf, hm, hl, hown, hbel⟩ := hrel
  have hmb := mul_pow_lt m _ hm0 hm
  have hll : l.length ≤ 9 := by omega
  have HF := Lh hf
  have HM := Lh hm
  have HL := Lh hl
  clear hf hm hl hn hn0
  have hs := hbel.size
  by_cases hlt : m < 128
  ·go_wp2_with (at_builtin; refine wpl_app _ rfl (.tmp 15) (.tmp 18) rfl w.heap.size _ _ _ l _ rfl rfl (hown.alloc _) (BS.one' wr m hm0 (by omega) _) (by simp; omega) (by simp; omega) ?_; intro v1 w1 hown1 hg1 hbel1 _)
   go_ret
   exact ⟨v1, rfl, put_last hlt HL.out hown1, (hbel.alloc hs _).trans hbel1⟩
  ·have e1 := and127 m hm0 hmb
   have e2 := or128 (m % 128) (by omega) (by omega)
   rw [show m % 128 % 128 = m % 128 from by omega] at e2
   have b1 : 0 ≤ m % 128 := by omega
   have b2 : m % 128 < 128 := by omega
   go_wp2_with (at_builtin; refine wpl_app _ rfl (.tmp 6) (.tmp 11) rfl w.heap.size _ _ _ l _ rfl rfl (hown.alloc _) (BS.one' wr (m % 128 + 128) (by omega) (by omega) _) (by simp; omega) (by simp; omega) ?_; intro v1 w1 hown1 hg1 hbel1 _)
   go_roundw
   case rel => exact put_step hm0 hlt HF.out HM.out HL.out hown1 ((hbel.alloc hs _).trans hbel1)
   case measure => simp [intOf]; omega
def tup (x k e : Nat) : Value := .tuple #[.int .u64 (x : Int), .int .i64 (k : Int), .int .i64 (e : Int)]
def ReadPost (l : List UInt8) (w : World) (e : Ending) (w' : World) : Prop := e = .returned (tup (readL l).1 (readL l).2.1 (readL l).2.2) ∧ w = w'
def ReadRel (l : List UInt8) (t i : Value) : Prop :=
 ∃ (acc : Int) (k : Nat), 0 ≤ acc ∧ k ≤ l.length ∧ k ≤ 9 ∧ t = .int .u64 acc ∧ i = .int .i64 (k : Int) ∧ acc.toNat < 2 ^ (7 * k) ∧ readG acc.toNat k (l.drop k) = readL l
theorem or_step (acc x : Int) (k : Nat) (ha0 : 0 ≤ acc) (ha : acc.toNat < 2 ^ (7 * k)) (hx0 : 0 ≤ x) (hx1 : x < 256) (hk : k ≤ 9) (h9 : k = 9 → x ≤ 1) :
  bits .or .u64 acc (IntKind.u64.wrap (IntKind.u64.wrap (bits .and .u8 x 127) * 2 ^ (7 * k))) = ((acc.toNat + x.toNat % 128 * 2 ^ (7 * k) : Nat) : Int) := by
 rw [u8_and x 127 hx0 hx1 (by omega) (by omega), show (127 : Int).toNat = 127 from rfl, nat_mask7]
 generalize hy : x.toNat % 128 = y
 have hy1 : y < 128 := by omega
 have hp : y * 2 ^ (7 * k) < 18446744073709551616 := by
  rcases Nat.lt_or_ge k 9 with h | h
  ·have h1 : 2 ^ (7 * k) ≤ 2 ^ 56 := Nat.pow_le_pow_right (by decide) (by omega)
   have h2 : y * 2 ^ (7 * k) ≤ 127 * 2 ^ (7 * k) := Nat.mul_le_mul_right _ (by omega)
   omega
  ·have : k = 9 := by omega
   subst this
   have := h9 rfl
   have h2 : y * 2 ^ (7 * 9) ≤ 1 * 2 ^ (7 * 9) := Nat.mul_le_mul_right _ (by omega)
   omega
 have ha1 : acc.toNat < 18446744073709551616 := by
  have h1 : 2 ^ (7 * k) ≤ 2 ^ 63 := Nat.pow_le_pow_right (by decide) (by omega)
  omega
 have e1 : IntKind.u64.wrap (y : Int) = (y : Int) := by rw [IntKind.wrap_u64]; omega
 have e2 : (y : Int) * 2 ^ (7 * k) = ((y * 2 ^ (7 * k) : Nat) : Int) := by simp
 have e3 : IntKind.u64.wrap ((y * 2 ^ (7 * k) : Nat) : Int) = ((y * 2 ^ (7 * k) : Nat) : Int) := by rw [IntKind.wrap_u64]; omega
 obtain ⟨a, rfl⟩ := Int.eq_ofNat_of_zero_le ha0
 rw [e1, e2, e3, u64_or_nat a _ (by simpa using ha1) hp, Nat.or_comm, nat_join (7 * k) _ a (Nat.mul_mod_left _ _) (by simpa using ha)]
 simp
 omega
section
variable {acc : Int} {k : Nat} {l : List UInt8} {x : Int} (hlt : k < l.length) (hx : ((l[k].toNat : Nat) : Int) = x) (hr : readG acc.toNat k (l.drop k) = readL l)
include hlt hx hr
theorem rd_tenth (h9 : k = 9 ∧ 1 < x) : readL l = (0, 0, 21) := by
 rw [← hr, List.drop_eq_getElem_cons hlt, readG, if_pos (by omega)]
theorem rd_more (h9 : ¬ (k = 9 ∧ 1 < x)) (h : 128 ≤ x) : readG (acc.toNat + x.toNat % 128 * 2 ^ (7 * k)) (k + 1) (l.drop (k + 1)) = readL l := by
 have e : x.toNat = l[k].toNat := by omega
 rw [← hr, List.drop_eq_getElem_cons hlt, readG, if_neg (by omega), if_pos (by omega), e]
theorem rd_zero (h9 : ¬ (k = 9 ∧ 1 < x)) (h : x = 0) (h0 : 0 < k) : readL l = (0, 0, 21) := by
 rw [← hr, List.drop_eq_getElem_cons hlt, readG, if_neg (by omega), if_neg (by omega), if_pos (by omega)]
theorem rd_last (h9 : ¬ (k = 9 ∧ 1 < x)) (h : ¬ 128 ≤ x) (h0 : ¬ (x = 0 ∧ 0 < k)) : readL l = (acc.toNat + x.toNat % 128 * 2 ^ (7 * k), k + 1, 0) := by
 have e : x.toNat = l[k].toNat := by omega
 rw [← hr, List.drop_eq_getElem_cons hlt, readG, if_neg (by omega), if_neg (by omega), if_neg (by omega), e]
end
theorem rd_end {acc : Int} {k : Nat} {l : List UInt8} (hge : ¬ k < l.length) (hr : readG acc.toNat k (l.drop k) = readL l) : readL l = (0, 0, 22) := by
 rw [← hr, List.drop_of_length_le (by omega), readG]
theorem acc_lt (acc x : Int) (k : Nat) (ha : acc.toNat < 2 ^ (7 * k)) : acc.toNat + x.toNat % 128 * 2 ^ (7 * k) < 2 ^ (7 * (k + 1)) := by
 have e1 : 2 ^ (7 * (k + 1)) = 128 * 2 ^ (7 * k) := by rw [Nat.mul_add, Nat.pow_add, Nat.mul_comm]
 have : x.toNat % 128 * 2 ^ (7 * k) ≤ 127 * 2 ^ (7 * k) := Nat.mul_le_mul_right _ (by omega)
 omega
theorem rel_step {acc x y : Int} {k : Nat} {l : List UInt8} (ha : acc.toNat < 2 ^ (7 * k)) (hk : k ≤ 8) (hkl : k < l.length) (hy : y = ((acc.toNat + x.toNat % 128 * 2 ^ (7 * k) : Nat) : Int))
  (hr : readG (acc.toNat + x.toNat % 128 * 2 ^ (7 * k)) (k + 1) (l.drop (k + 1)) = readL l) : ReadRel l (.int .u64 y) (.int .i64 ((k : Int) + 1)) :=
 ⟨y, k + 1, by omega, by omega, by omega, rfl, by simp, by rw [hy, Int.toNat_natCast]; exact acc_lt acc x k ha, by rw [hy, Int.toNat_natCast]; exact hr⟩
theorem post_of {l : List UInt8} {w : World} {v : Value} {a b c : Nat} (h : readL l = (a, b, c)) (hv : v = tup a b c) : ReadPost l w (.returned v) w := by
 refine ⟨?_, rfl⟩
 rw [h, hv]
theorem read_any (v : Value) (l : List UInt8) (B : Nat) (w : World) (h : BS w B v l) (hl : l.length ≤ 1099511627776) : Calls Tryz.prog 90 #[v] w (ReadPost l w) := by
 obtain ⟨A, c, rfl, _, _, hcell⟩ := h.at_
 go_enter Tryz.func90, Tryz.ntmps90
 go_wp2
 go_loop [5, 10] (fun t i => ReadRel l t i) (fun _ i => l.length - (intOf i).toNat)
 case atStart => exact ⟨0, 0, by omega, Nat.zero_le _, by omega, rfl, rfl, by simp, rfl⟩
 case round =>
  obtain ⟨acc, k, ha0, hkl, hk9, rfl, rfl, ha, hr⟩ := hrel
  have HA := Lh ha
  have HR := Lh hr
  clear ha hr
  by_cases hlt : k < l.length
  ·obtain ⟨ad, rfl, hc⟩ := hcell k hlt
   have hcl := (l[k]).toNat_lt
   unfold vB at hc
   generalize hx : ((l[k].toNat : Nat) : Int) = x at hc
   have hx0 : 0 ≤ x := by omega
   have hx1 : x < 256 := by omega
   have HX := Lh hx
   clear hx hcl hcell
   by_cases h9 : k = 9 ∧ 1 < x
   ·have H9 := Lh h9
    have b1 : ((k : Int) == 9) = true := by simp; omega
    have b2 : 1 < x := h9.2
    clear h9
    go_wp2
    go_ret3
    exact post_of (rd_tenth hlt HX.out HR.out H9.out) rfl
   ·have H9 := Lh h9
    by_cases h128 : 128 ≤ x
    ·have hk8 : k ≤ 8 := by omega
     have h9' : ((k : Int) == 9) = false := by simp; omega
     clear h9
     go_wp2
     go_round
     case rel => exact rel_step HA.out hk8 hlt (or_step acc x k ha0 HA.out hx0 hx1 hk9 (by omega)) (rd_more hlt HX.out HR.out H9.out h128)
     case measure => simp [intOf]; omega
    ·have e9 : (k = 9 → x ≤ 1) := by omega
     have E9 := Lh e9
     clear e9
     by_cases h0 : x = 0 ∧ 0 < k
     ·have H0 := Lh h0
      have b1 : (x == 0) = true := by simp; omega
      have b2 : 0 < k := h0.2
      have b3 : decide (1 < x) = false := by simp; omega
      clear h0 h9
      by_cases hk : k = 9
      ·have b4 : ((k : Int) == 9) = true := by simp; omega
       clear hk
       go_wp2
       go_ret3
       exact post_of (rd_zero hlt HX.out HR.out H9.out H0.out.1 b2) rfl
      ·have b4 : ((k : Int) == 9) = false := by simp; omega
       clear hk
       go_wp2
       go_ret3
       exact post_of (rd_zero hlt HX.out HR.out H9.out H0.out.1 b2) rfl
     ·have H0 := Lh h0
      have hfin := rd_last hlt HX.out HR.out h9 h128 h0
      have HFIN := Lh hfin
      have hor := or_step acc x k ha0 HA.out hx0 hx1 hk9 E9.out
      have HOR := Lh hor
      clear hor hfin
      have b3 : decide (1 < x) = false ∨ ¬ k = 9 := by
       by_cases hk : k = 9
       ·left; have := E9.out hk; simp; omega
       ·right; exact hk
      have b5 : (x == 0) = false ∨ k = 0 := by
       by_cases hk : x = 0
       ·right; omega
       ·left; simp; omega
      clear h0 h9
      have b6 : decide (128 ≤ x) = false := by simp; omega
      by_cases hk : k = 9
      ·have b1 : ((k : Int) == 9) = true := by simp; omega
       have b4 : decide (1 < x) = false := by rcases b3 with h | h; exact h; exact absurd hk h
       have b7 : (x == 0) = false := by rcases b5 with h | h; exact h; omega
       clear hk b3 b5
       go_wp2
       all_goals (go_ret3; exact post_of HFIN.out (by simp [tup, HOR.out]))
      ·have b1 : ((k : Int) == 9) = false := by simp; omega
       clear hk b3
       by_cases hz : x = 0
       ·have b8 : (x == 0) = true := by simp; omega
        have b9 : decide (0 < k) = false := by
         rcases b5 with h | h
         ·rw [b8] at h; cases h
         ·simp; omega
        clear hz b5
        go_wp2
        all_goals (go_ret3; exact post_of HFIN.out (by simp [tup, HOR.out]))
       ·have b7 : (x == 0) = false := by simp; omega
        clear hz b5
        go_wp2
        all_goals (go_ret3; exact post_of HFIN.out (by simp [tup, HOR.out]))
  ·go_wp2
   go_ret3
   exact post_of (rd_end hlt HR.out) rfl
def PBPost (l : List UInt8) (w : World) (e : Ending) (w' : World) : Prop := ∃ v, e = .returned v ∧ OB w' w.heap.size v (putB l) ∧ Below w.heap.size w w'
theorem putbytes_any (v : Value) (l : List UInt8) (w : World) (h : BS w w.heap.size v l) (hl : l.length ≤ 1048576) : Calls Tryz.prog 53 #[v] w (PBPost l w) := by
 have hcp := h
 obtain ⟨A, c, rfl, _, _, _⟩ := h
 have hll := (lebP_length l.length).2
 go_enter Tryz.func53, Tryz.ntmps53
 go_wp2_with fail
 refine (put_any _ (by omega) (by omega) _).mono ?_
 rintro e w1 ⟨v1, rfl, hown, hbel⟩
 rw [Int.toNat_natCast] at hown
 have hs := hbel.size
 go_wp2_with (at_builtin; refine wpl_app _ rfl (.tmp 6) (.tmp 7) rfl w.heap.size _ _ _ _ _ rfl rfl hown (hcp.below hbel) (by omega) hs ?_; intro v2 w2 hown2 hg2 hbel2 _)
 go_ret
 exact ⟨v2, rfl, hown2, hbel.trans hbel2⟩
def RBQ (R : World → Value → List UInt8 → Prop) (l : List UInt8) (most : Int) (w : World) (e : Ending) (w' : World) : Prop :=
 ∃ u, e = .returned (.tuple #[u, .int .i64 ((readB l most).2.1 : Int), .int .i64 ((readB l most).2.2 : Int)]) ∧ R w' u (readB l most).1 ∧ Below w.heap.size w w'
theorem read_at {v : Value} {l : List UInt8} {B : Nat} {w : World} (h : BS w B v l) (hl : l.length ≤ 1099511627776) {x : Int} {k er : Nat} (hx : 0 ≤ x) (hr : readL l = (x.toNat, k, er)) :
  Calls Tryz.prog 90 #[v] w fun e w' => e = .returned (.tuple #[.int .u64 x, .int .i64 (k : Int), .int .i64 (er : Int)]) ∧ w = w' := by
 refine (read_any v l B w h hl).mono ?_
 rintro e w' ⟨rfl, rfl⟩
 refine ⟨?_, rfl⟩
 rw [hr, tup]
 simp
 omega
theorem rb_err {R : World → Value → List UInt8 → Prop} {l : List UInt8} {most : Int} {w : World} {x k er : Nat} (hr : readL l = (x, k, er)) (he : er ≠ 0) (h0 : R w (.slice none 0 0) []) :
  RBQ R l most w (.returned (.tuple #[.slice none 0 0, .int .i64 0, .int .i64 (er : Int)])) w := by
 have h := readB_err l most (by rw [hr]; exact he)
 rw [hr] at h
 unfold RBQ
 rw [h]
 exact ⟨_, rfl, h0, Below.refl _ _⟩
theorem rb_long {R : World → Value → List UInt8 → Prop} {l : List UInt8} {most x : Int} {w : World} {k : Nat} (hr : readL l = (x.toNat, k, 0)) (hx : 0 ≤ x) (h : (if most < 0 then 0 else most) < x) (h0 : R w (.slice none 0 0) []) :
  RBQ R l most w (.returned (.tuple #[.slice none 0 0, .int .i64 0, .int .i64 25])) w := by
 have h := readB_long l most (by rw [hr]) (by rw [hr]; show most.toNat < x.toNat; split at h <;> omega)
 unfold RBQ
 rw [h]
 exact ⟨_, rfl, h0, Below.refl _ _⟩
theorem rb_short {R : World → Value → List UInt8 → Prop} {l : List UInt8} {most x : Int} {w : World} {k : Nat} (hr : readL l = (x.toNat, k, 0)) (hk : k ≤ l.length) (h : x ≤ (if most < 0 then 0 else most)) (h2 : (l.length : Int) - k < x) (h0 : R w (.slice none 0 0) []) :
  RBQ R l most w (.returned (.tuple #[.slice none 0 0, .int .i64 0, .int .i64 22])) w := by
 have h := readB_short l most (by rw [hr]) (by rw [hr]; show ¬ most.toNat < x.toNat; split at h <;> omega) (by rw [hr]; show l.length - k < x.toNat; omega)
 unfold RBQ
 rw [h]
 exact ⟨_, rfl, h0, Below.refl _ _⟩
theorem rb_ok {R : World → Value → List UInt8 → Prop} {l : List UInt8} {most x : Int} {w w' : World} {k : Nat} {u : Value} (hx : 0 ≤ x) (hr : readL l = (x.toNat, k, 0)) (hk : k ≤ l.length) (h : x ≤ (if most < 0 then 0 else most)) (h2 : x ≤ (l.length : Int) - k)
  (hb : R w' u ((l.drop k).take x.toNat)) (hbel : Below w.heap.size w w') :
  RBQ R l most w (.returned (.tuple #[u, .int .i64 ((k : Int) + x), .int .i64 0])) w' := by
 have h := readB_ok l most (by rw [hr]) (by rw [hr]; show ¬ most.toNat < x.toNat; split at h <;> omega) (by rw [hr]; show ¬ l.length - k < x.toNat; omega)
 rw [hr] at h
 unfold RBQ
 rw [h]
 refine ⟨u, ?_, hb, hbel⟩
 have e : ((k + x.toNat : Nat) : Int) = (k : Int) + x := by omega
 show _ = Ending.returned (.tuple #[u, .int .i64 ((k + x.toNat : Nat) : Int), .int .i64 ((0 : Nat) : Int)])
 rw [e]
 rfl
theorem readbytesO_any (v : Value) (l : List UInt8) (most : Int) (w : World) (h : BS w w.heap.size v l) (hl : l.length ≤ 1048576) (hm0 : -9223372036854775808 ≤ most) (hm1 : most < 9223372036854775808) :
  Calls Tryz.prog 123 #[v, .int .i64 most] w (RBQ (fun W u x => OB W w.heap.size u x) l most w) := by
 have hcp := h
 obtain ⟨A, c, rfl, hc1, hc2, _⟩ := h
 obtain ⟨x, k, er, hx, hr⟩ : ∃ (x : Int) (k er : Nat), 0 ≤ x ∧ readL l = (x.toNat, k, er) := ⟨((readL l).1 : Int), (readL l).2.1, (readL l).2.2, by omega, by simp⟩
 obtain ⟨hb1, hb2, hb3⟩ := readL_bd l
 rw [hr] at hb1 hb2 hb3
 have hx1 : x < 18446744073709551616 := by simp at hb1; omega
 have hk : k ≤ l.length := hb2
 have her : er ≤ 22 := by simp at hb3; omega
 have HR := Lh hr
 have hc3 : (c : Int) ≤ 9223372036854775807 := by unfold maxLen at hc2; omega
 clear hr hb1 hb2 hb3 hc2
 by_cases he : er = 0
 ·subst he
  by_cases hlong : (if most < 0 then 0 else most) < x
  ·have HLO := Lh hlong
   clear hlong
   by_cases hneg : most < 0
   ·have b1 : 0 < x := by have := HLO.out; rw [if_pos hneg] at this; exact this
    go_enter Tryz.func123, Tryz.ntmps123
    go_wp2_with fail
    refine (read_at hcp (by omega) hx HR.out).mono ?_
    rintro e w1 ⟨rfl, rfl⟩
    go_wp2
    go_ret3
    exact rb_long HR.out hx HLO.out (OB.nil _ _)
   ·have b1 : most < x := by have := HLO.out; rw [if_neg hneg] at this; exact this
    go_enter Tryz.func123, Tryz.ntmps123
    go_wp2_with fail
    refine (read_at hcp (by omega) hx HR.out).mono ?_
    rintro e w1 ⟨rfl, rfl⟩
    go_wp2
    go_ret3
    exact rb_long HR.out hx HLO.out (OB.nil _ _)
  ·have HLO := Lh hlong
   clear hlong
   by_cases hsh : (l.length : Int) - k < x
   ·by_cases hneg : most < 0
    ·have b1 : x ≤ 0 := by have := HLO.out; rw [if_pos hneg] at this; omega
     omega
    ·have b1 : x ≤ most := by have := HLO.out; rw [if_neg hneg] at this; omega
     go_enter Tryz.func123, Tryz.ntmps123
     go_wp2_with fail
     refine (read_at hcp (by omega) hx HR.out).mono ?_
     rintro e w1 ⟨rfl, rfl⟩
     go_wp2
     go_ret3
     exact rb_short HR.out hk HLO.out hsh (OB.nil _ _)
   ·by_cases hneg : most < 0
    all_goals
     have b1 : x ≤ 0 ∨ x ≤ most := by have := HLO.out; split at this <;> omega
     go_enter Tryz.func123, Tryz.ntmps123
     go_wp2_with fail
     refine (read_at hcp (by omega) hx HR.out).mono ?_
     rintro e w1 ⟨rfl, rfl⟩
     go_wp2_with (at_builtin; refine wpl_app _ rfl _ _ rfl w.heap.size _ _ _ [] _ rfl rfl (OB.nil _ _) (hcp.cut k x.toNat _ (by omega) (by omega)) (by simp; omega) (Nat.le_refl _) ?_; intro v1 w1 hown1 hg1 hbel1 _)
     all_goals (go_ret3; exact rb_ok hx HR.out hk HLO.out hsh hown1 hbel1)
 ·have HE := Lh he
  have b1 : ((er : Int) == 0) = false := by simp; omega
  have b2 : ((er : Int) != 0) = true := by simp; omega
  clear he
  go_enter Tryz.func123, Tryz.ntmps123
  go_wp2_with fail
  refine (read_at hcp (by omega) hx HR.out).mono ?_
  rintro e w1 ⟨rfl, rfl⟩
  go_wp2
  go_ret3
  exact rb_err HR.out HE.out (OB.nil _ _)
end Go.Proofs.YthepofkdgbcifaaGreat
