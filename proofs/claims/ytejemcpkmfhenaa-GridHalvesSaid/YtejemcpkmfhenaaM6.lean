/- What is proved here: the contract of the document's escapes on a screen; the contract of the document's erasing of a screen; plain facts on the document's screen: what holds of each screen stays behind each act; no program is named. -/
import Derived.Test.YtejemcpkmfhenaaM5
import Derived.Deep.QuietTactic
import Derived.BigQuiet
import Derived.Deep.RegionWith
import Derived.Test.YtejemcpkmfhenaaM3
namespace Go.Proofs.Ytejemcpkmfhenaa
open Go.RowKit
set_option linter.unusedVariables false
set_option linter.unusedSimpArgs false

/-- A screen with new tabs, as its result. -/
theorem scEndT {w W : World} {S : Nat → Prop} {s s0 : Sc} (g : Nat) (p : Tmp) {vc vt0 vt vo vp vi vu : Value} {fn : Func} {a : Act} {z : Array Value} (hfn : fn.results = #[.cell p 32]) (ht : a.tmps.getD p undef = .pointer (some ⟨g, 0, none⟩)) (hd : a.defers = [])
    (hz : W.heap[g]? = some (.cells z 32)) (hg : w.heap.size ≤ g) (hb : Below w.heap.size w W) (hS : ∀ x, S x → x < w.heap.size) (hs : SSl w S s0 vc vt0 vo vp vi vu) (e1 : s.cells = s0.cells) (e2 : s.other = s0.other) (e3 : s.p = s0.p) (base : Nat) (hbase : g < base) (hc : OT W base vt s.tabs) : bodyPost Try.prog fn (ScPost S s w) .ret a (W.setRow g (vS s vc vt vo vp vi vu)) := by
  obtain ⟨h1, h2, h3, h4, h5, h6⟩ := (hs.below hS hb).mono (S' := fun x => S x ∨ (g < x ∧ x < W.heap.size)) (fun x hx => .inl hx)
  refine scEndV g p hfn ht hd hz hg hb hS (S4 := fun x => S x ∨ (g < x ∧ x < W.heap.size)) ?_ (fun x hx => hx)
  unfold SSl
  rw [e1, e2, e3]
  exact ⟨h1, hc.sl.mono (fun x hx => .inr ⟨by have := hx.1; omega, hx.2⟩), h3, h4, h5, h6⟩
theorem OT.other {w : World} {base : Nat} {v : Value} {l : List Bool} (h : OT w base v l) (a : Addr) (x : Value) (ha : a.block < base) : OT (w.setCell a x) base v l := by
  unfold OT at h ⊢
  refine World.ownsRow.kept h (row := some a.block) ⟨rfl, rfl, rfl, by simp, fun k _ hk => heap_setCell_other w a k x (fun e => hk (by simp [e]))⟩ ?_
  cases hv : v.ownBlock with
  | none => exact Or.inl rfl
  | some k =>
    have := (World.ownsRow.lt h k hv).1
    refine Or.inr ?_
    simp
    omega
set_option maxHeartbeats 2000000 in
set_option maxRecDepth 100000 in
theorem escaper_72 (v : Value) (s : Sc) (b : Int) (r c : Nat) (S : Nat → Prop) (w : World) (hS : ∀ x, S x → x < w.heap.size) (h : SCV w S v s) (hi : ScIn s r c) (hb : b = 72) : Calls Try.prog 53 #[v, .int .u8 b] w (ScPost S { s with tabs := s.tabs.set s.x.toNat true } w) := by
  have HSS := Lib.hid hS
  clear hS
  obtain ⟨vc, vt, vo, vp, vi, vu, rfl, hs⟩ := h
  have HS := Lib.hid hs
  obtain ⟨g1, g2, g3, g4, g5, g6⟩ := hs
  obtain ⟨A1, k1, rfl, p1, q1⟩ := g1.form
  obtain ⟨A2, k2, rfl, p2, q2⟩ := g2.form
  obtain ⟨A3, k3, rfl, p3, q3⟩ := g3.form
  obtain ⟨A4, k4, rfl, p4, q4⟩ := g4.form
  obtain ⟨A5, k5, rfl, p5, q5⟩ := g5.form
  obtain ⟨A6, k6, rfl, p6, q6⟩ := g6.form
  clear g1 g2 g3 g4 g5 g6
  have HI := Lib.hid hi
  have y0 := hi.y0
  have y1 := hi.y1
  have x0 := hi.x0
  have x1 := hi.x1
  have hcl := hi.cols
  have hrl := hi.rows
  have c2 := hi.g.c2
  have r2 := hi.g.r2
  have hlen : s.cells.length ≤ 1000000 := by rw [hi.g.n]; exact rc_le hi.g.r2 hi.g.c2
  have c3 : s.cols ≤ 1000 := by omega
  have r3 : s.rows ≤ 1000 := by omega
  have r4 : 1 ≤ s.rows := by omega
  have c4 : s.x < s.cols := by omega
  have htl : (s.tabs.length : Int) = s.cols := by rw [hcl, hi.tabs]
  have HTL := Lib.hid htl
  clear hi hcl hrl htl
  subst hb
  have htb : s.tabs.length ≤ 1000 := by have := HTL.out; omega
  have htp : 0 < s.tabs.length := by have := HTL.out; omega
  obtain ⟨xx, hxx⟩ : ∃ xx : Nat, xx = s.x.toNat := ⟨_, rfl⟩
  rw [← hxx]
  have hxt : xx < s.tabs.length := by have := HTL.out; omega
  have hxs : s.x = (xx : Int) := by omega
  have hti : (s.x : Int) < (s.tabs.length : Int) := by omega
  have HXX := Lib.hid hxs
  clear hxx hxs
  have h2 := two_new w (.cells #[.int .i64 s.rows, .int .i64 s.cols, .slice A1 s.cells.length k1, .int .i64 s.y, .int .i64 s.x, .bool s.wrap, .int .u16 (s.attr : Int), .int .i64 s.top, .int .i64 s.bottom, .slice A2 s.tabs.length k2, .int .i64 s.sy, .int .i64 s.sx, .int .u16 (s.sattr : Int), .bool s.auto, .bool s.shown, .bool s.alt, .slice A3 s.other.length k3, .int .i64 s.oy, .int .i64 s.ox, .int .i64 (s.p.mode : Int), .int .u8 (s.p.priv : Int), .slice A4 s.p.params.length k4, .slice A5 s.p.inter.length k5, .slice A6 s.p.utf.length k6] 32) (.cells #[.int .i64 0, .int .i64 0, .slice none 0 0, .int .i64 0, .int .i64 0, .bool false, .int .u16 0, .int .i64 0, .int .i64 0, .slice none 0 0, .int .i64 0, .int .i64 0, .int .u16 0, .bool false, .bool false, .bool false, .slice none 0 0, .int .i64 0, .int .i64 0, .int .i64 0, .int .u8 0, .slice none 0 0, .slice none 0 0, .slice none 0 0] 32)
  have HS2 : Hid (∀ x, S x → x < _) := fun x hx => Nat.lt_of_lt_of_le (HSS.out x hx) h2.1.size
  have H2 := Lib.hid h2
  have HT2 : Hid (TS _ w.heap.size (.slice A2 s.tabs.length k2) s.tabs) := (HS.out.2.1.keep (fun q hq => h2.1.cell (HSS.out _ hq))).mono (fun x hx => HSS.out x hx)
  have hb2 := h2.2
  clear h2
  go_enter Try.func53, Try.ntmps53
  go_upto_region 18 with fail
  refine wp_region_lit ?_
  iterate 2 (refine wpList_plain rfl fun K hK => ?_; go_simp; refine hK _ _ ?_; clear hK K)
  refine wpl_appT _ rfl (.const (.slice none 0 0)) (.tmp 66) rfl (w.heap.size + 1 + 1) w.heap.size (.slice none 0 0) (.slice A2 s.tabs.length k2) [] s.tabs rfl rfl (OT.nil _ _) HT2.out (by simp; omega) (by rw [hb2]; exact Nat.le_refl _) ?_
  intro v4 w4 o4 g4 b4 _
  clear g4
  rw [List.nil_append] at o4
  obtain ⟨k0, k1⟩ := two_keptB b4
  obtain ⟨gt, cap, rfl, hg1, hg2, hg3, hg4⟩ := o4.open_ htp
  obtain ⟨c9, f9⟩ := cellR (v := .slice A2 s.tabs.length k2) k0 9 rfl
  obtain ⟨cx, fx⟩ := cellR (v := .int .i64 s.x) k0 4 rfl
  obtain ⟨q, s0, f0⟩ := o4.spot xx hxt
  have K0 := Lib.hid k0
  have K1 := Lib.hid k1
  have O4 := Lib.hid o4
  have Z4 := b4.size
  rw [hb2] at Z4
  have B4 := Lib.hid (H2.out.1.trans (b4.mono (by omega)))
  clear k0 k1 o4 b4 hb2
  have hne : ¬ gt = w.heap.size := by omega
  rw [HXX.out] at cx
  go_simp
  go_upto_region 22 with fail
  have e1 : ((w4.setCell ⟨w.heap.size, 9, none⟩ (.slice (some ⟨gt, 0, none⟩) s.tabs.length cap)).setCell ⟨gt, xx, none⟩ (.bool true)).heap[w.heap.size + 1]? = some (.cells #[.int .i64 0, .int .i64 0, .slice none 0 0, .int .i64 0, .int .i64 0, .bool false, .int .u16 0, .int .i64 0, .int .i64 0, .slice none 0 0, .int .i64 0, .int .i64 0, .int .u16 0, .bool false, .bool false, .bool false, .slice none 0 0, .int .i64 0, .int .i64 0, .int .i64 0, .int .u8 0, .slice none 0 0, .slice none 0 0, .slice none 0 0] 32) := (heap_setCell_other _ _ _ _ (by simp; omega)).trans ((heap_setCell_other _ _ _ _ (by simp)).trans K1.out)
  refine wp_region_lit ?_
  refine wpl_loadS rfl (.tmp 2) rfl rfl ((heap_setCell_other _ _ _ _ (by simp; omega)).trans ((heap_setCell_same _ _ 9 _ _ _ K0.out).trans rfl)) rfl ?_
  refine wpl_storeS rfl (.tmp 4) (.tmp 84) rfl rfl rfl e1 rfl rfl (all24 rfl rfl rfl rfl rfl rfl rfl rfl rfl rfl rfl rfl rfl rfl rfl rfl rfl rfl rfl rfl rfl rfl rfl rfl) ?_
  go_wp2
  refine scEndT (s0 := s) (w.heap.size + 1) 4 Try.results53 ?_ ?_ e1 (by omega) ((B4.out.setCell (by simp) _).setCell (by simp; omega) _) HSS.out HS.out ?_ ?_ ?_ (w.heap.size + 1 + 1) (by omega) ((O4.out.other ⟨w.heap.size, 9, none⟩ _ (by simp; omega)).put xx true)
  all_goals rfl
set_option maxHeartbeats 2000000 in
set_option maxRecDepth 100000 in
theorem escaper_99 (v : Value) (s : Sc) (b : Int) (r c : Nat) (S : Nat → Prop) (w : World) (hS : ∀ x, S x → x < w.heap.size) (h : SCV w S v s) (hi : ScIn s r c) (hb : b = 99) : Calls Try.prog 53 #[v, .int .u8 b] w (ScPost S (newS s.rows s.cols) w) := by
  have HSS := Lib.hid hS
  clear hS
  obtain ⟨vc, vt, vo, vp, vi, vu, rfl, hs⟩ := h
  have HS := Lib.hid hs
  obtain ⟨g1, g2, g3, g4, g5, g6⟩ := hs
  obtain ⟨A1, k1, rfl, p1, q1⟩ := g1.form
  obtain ⟨A2, k2, rfl, p2, q2⟩ := g2.form
  obtain ⟨A3, k3, rfl, p3, q3⟩ := g3.form
  obtain ⟨A4, k4, rfl, p4, q4⟩ := g4.form
  obtain ⟨A5, k5, rfl, p5, q5⟩ := g5.form
  obtain ⟨A6, k6, rfl, p6, q6⟩ := g6.form
  clear g1 g2 g3 g4 g5 g6
  have HI := Lib.hid hi
  have y0 := hi.y0
  have y1 := hi.y1
  have x0 := hi.x0
  have x1 := hi.x1
  have hcl := hi.cols
  have hrl := hi.rows
  have c2 := hi.g.c2
  have r2 := hi.g.r2
  have hlen : s.cells.length ≤ 1000000 := by rw [hi.g.n]; exact rc_le hi.g.r2 hi.g.c2
  have c3 : s.cols ≤ 1000 := by omega
  have r3 : s.rows ≤ 1000 := by omega
  have r4 : 1 ≤ s.rows := by omega
  have c4 : s.x < s.cols := by omega
  have htl : (s.tabs.length : Int) = s.cols := by rw [hcl, hi.tabs]
  have HTL := Lib.hid htl
  clear hi hcl hrl htl
  subst hb
  have c5 : 1 ≤ s.cols := by omega
  have hz := sizeOk_mk r4 r3 c5 c3
  have HZ := Lib.hid hz
  have h2 := two_new w (.cells #[.int .i64 s.rows, .int .i64 s.cols, .slice A1 s.cells.length k1, .int .i64 s.y, .int .i64 s.x, .bool s.wrap, .int .u16 (s.attr : Int), .int .i64 s.top, .int .i64 s.bottom, .slice A2 s.tabs.length k2, .int .i64 s.sy, .int .i64 s.sx, .int .u16 (s.sattr : Int), .bool s.auto, .bool s.shown, .bool s.alt, .slice A3 s.other.length k3, .int .i64 s.oy, .int .i64 s.ox, .int .i64 (s.p.mode : Int), .int .u8 (s.p.priv : Int), .slice A4 s.p.params.length k4, .slice A5 s.p.inter.length k5, .slice A6 s.p.utf.length k6] 32) (.cells #[.int .i64 0, .int .i64 0, .slice none 0 0, .int .i64 0, .int .i64 0, .bool false, .int .u16 0, .int .i64 0, .int .i64 0, .slice none 0 0, .int .i64 0, .int .i64 0, .int .u16 0, .bool false, .bool false, .bool false, .slice none 0 0, .int .i64 0, .int .i64 0, .int .i64 0, .int .u8 0, .slice none 0 0, .slice none 0 0, .slice none 0 0] 32)
  have HS2 : Hid (∀ x, S x → x < _) := fun x hx => Nat.lt_of_lt_of_le (HSS.out x hx) h2.1.size
  have H2 := Lib.hid h2
  clear h2 hz
  go_enter Try.func53, Try.ntmps53
  go_upto_region 21 with fail
  refine wp_region_lit ?_
  go_wp2_with fail
  ((with_reducible refine (Newr_any s.rows s.cols _ HZ.out).mono ?_); rintro e w4 ⟨v4, rfl, hv4, b4⟩)
  have hb4 : Below (w.heap.size + 1 + 1) _ w4 := (by rw [← H2.out.2]; exact b4)
  obtain ⟨e0, e1⟩ := two_keptB hb4
  have z4 := b4.size
  rw [H2.out.2] at z4
  obtain ⟨uc, ut, uo, up, ui, uu, rfl, hs4⟩ := hv4
  rename_i K hK
  refine hK _ _ ?_
  clear hK
  iterate 3 (refine wpList_plain rfl fun K hK => ?_; go_simp; refine hK _ _ ?_; clear hK K)
  refine wpl_storeS rfl (.tmp 2) (.tmp 82) rfl rfl rfl e0 rfl rfl hs4.one ?_
  obtain ⟨W5, hW5⟩ : ∃ W5, W5 = w4.setRow w.heap.size (vS (newS s.rows s.cols) uc ut uo up ui uu) := ⟨_, rfl⟩
  rw [← hW5]
  have k5 : W5.heap[w.heap.size]? = some (.cells (vS (newS s.rows s.cols) uc ut uo up ui uu) 32) := by rw [hW5]; exact heap_setRow_same e0
  have o5 : ∀ b, b ≠ w.heap.size → W5.heap[b]? = w4.heap[b]? := fun b hb => by rw [hW5]; exact heap_setRow_other (fun e => hb e.symm)
  have z5 : W5.heap.size = w4.heap.size := by rw [hW5, size_setRow]
  have b5 : Below w.heap.size w W5 := by rw [hW5]; exact below_setRow (H2.out.1.trans (hb4.mono (by omega))) (Nat.le_refl _) _
  have hsW : SSl W5 _ (newS s.rows s.cols) uc ut uo up ui uu := hs4.keep (fun q hq => World.cell?_of_block (o5 _ (by
    have := hq.1
    rw [H2.out.2] at this
    omega)))
  have K5 := Lib.hid k5
  have E1 := Lib.hid ((o5 (w.heap.size + 1) (by omega)).trans e1)
  have B5 := Lib.hid b5
  have Z5 := Lib.hid z5
  have HSW := Lib.hid hsW
  clear k5 o5 b5 z5 hs4 hW5 e0 e1 b4 hb4 hsW
  go_simp
  go_upto_region 22 with fail
  refine wp_region_lit ?_
  refine wpl_loadS rfl (.tmp 2) rfl rfl K5.out rfl ?_
  refine wpl_storeS rfl (.tmp 4) (.tmp 84) rfl rfl rfl E1.out rfl rfl HSW.out.one ?_
  go_wp2
  refine scEndV (w.heap.size + 1) 4 Try.results53 rfl rfl E1.out (by omega) B5.out HSS.out HSW.out (fun x hx => ?_)
  have h1 := hx.1
  have h3 := hx.2
  rw [H2.out.2] at h1
  exact .inr ⟨by omega, by rw [Z5.out]; exact h3⟩
theorem escaper_any (v : Value) (s : Sc) (b : Nat) (r c : Nat) (S : Nat → Prop) (w : World) (hS : ∀ x, S x → x < w.heap.size) (h : SCV w S v s) (hi : ScIn s r c) : Calls Try.prog 53 #[v, .int .u8 (b : Int)] w (ScPost S (escapeS s b) w) := by
  unfold escapeS
  by_cases h1 : b = 55
  · rw [if_pos h1]; exact escaper_55 v s b r c S w hS h hi (by omega)
  rw [if_neg h1]
  by_cases h2 : b = 56
  · rw [if_pos h2]; exact escaper_56 v s b r c S w hS h hi (by omega)
  rw [if_neg h2]
  by_cases h3 : b = 68
  · rw [if_pos h3]; exact escaper_68 v s b r c S w hS h hi (by omega)
  rw [if_neg h3]
  by_cases h4 : b = 69
  · rw [if_pos h4]; exact escaper_69 v s b r c S w hS h hi (by omega)
  rw [if_neg h4]
  by_cases h5 : b = 77
  · rw [if_pos h5]
    by_cases e1 : s.y = s.top
    · rw [if_pos e1]; exact escaper_77dn v s b r c S w hS h hi (by omega) e1
    rw [if_neg e1]
    by_cases e2 : 0 < s.y
    · rw [if_pos e2]; exact escaper_77up v s b r c S w hS h hi (by omega) e1 e2
    · rw [if_neg e2]; exact escaper_77st v s b r c S w hS h hi (by omega) e1 e2
  rw [if_neg h5]
  by_cases h6 : b = 72
  · rw [if_pos h6]; exact escaper_72 v s b r c S w hS h hi (by omega)
  rw [if_neg h6]
  by_cases h7 : b = 99
  · rw [if_pos h7]; exact escaper_99 v s b r c S w hS h hi (by omega)
  rw [if_neg h7]
  exact escaper_no v s b r c S w hS h hi (by omega)
end Go.Proofs.Ytejemcpkmfhenaa

namespace Go.Proofs.Ytejemcpkmfhenaa
open Go.RowKit
set_option linter.unusedVariables false
set_option linter.unusedSimpArgs false

set_option maxHeartbeats 2000000 in
set_option maxRecDepth 100000 in
theorem eraser_big (v : Value) (s : Sc) (r c : Nat) (S : Nat → Prop) (w : World) (hS : ∀ x, S x → x < w.heap.size) (h : SCV w S v s) (hi : ScIn s r c) (row : Bool) (k : Int) (hk : 2 < k) : Calls Try.prog 65 #[v, .bool row, .int .i64 k] w (ScPost S { s with wrap := false } w) := by
  have HSS := Lib.hid hS
  clear hS
  obtain ⟨vc, vt, vo, vp, vi, vu, rfl, hs⟩ := h
  have HS := Lib.hid hs
  obtain ⟨g1, g2, g3, g4, g5, g6⟩ := hs
  obtain ⟨A1, kk1, rfl, p1, q1⟩ := g1.form
  obtain ⟨A2, k2, rfl, p2, q2⟩ := g2.form
  obtain ⟨A3, k3, rfl, p3, q3⟩ := g3.form
  obtain ⟨A4, k4, rfl, p4, q4⟩ := g4.form
  obtain ⟨A5, k5, rfl, p5, q5⟩ := g5.form
  obtain ⟨A6, k6, rfl, p6, q6⟩ := g6.form
  clear g1 g2 g3 g4 g5 g6
  have HI := Lib.hid hi
  have y0 := hi.y0
  have y1 := hi.y1
  have x0 := hi.x0
  have x1 := hi.x1
  have hcl := hi.cols
  have hrl := hi.rows
  have c2 := hi.g.c2
  have r2 := hi.g.r2
  have hlen : s.cells.length ≤ 1000000 := by rw [hi.g.n]; exact rc_le hi.g.r2 hi.g.c2
  obtain ⟨yy, hyy⟩ : ∃ yy : Nat, s.y = yy := ⟨s.y.toNat, by omega⟩
  obtain ⟨xx, hxx⟩ : ∃ xx : Nat, s.x = xx := ⟨s.x.toNat, by omega⟩
  have hm : s.y * s.cols = ((yy * c : Nat) : Int) := by rw [hyy, hcl, Int.natCast_mul]
  have hm1 : (s.y + 1) * s.cols = ((yy * c + c : Nat) : Int) := by rw [Int.add_mul, Int.one_mul, hm, hcl]; omega
  have hle : yy * c + c ≤ s.cells.length := by
    rw [hi.g.n]
    have : (yy + 1) * c ≤ r * c := Nat.mul_le_mul_right _ (by omega)
    rw [Nat.add_mul, Nat.one_mul] at this
    exact this
  have hpos : 0 < s.cells.length := by rw [hi.g.n]; exact Nat.mul_pos hi.g.r1 hi.g.c1
  have m0 : 0 ≤ s.y * s.cols := by omega
  have m1 : s.y * s.cols ≤ 1000000 := by omega
  have m2 : 0 ≤ (s.y + 1) * s.cols := by omega
  have m3 : (s.y + 1) * s.cols ≤ 1000000 := by omega
  have c3 : s.cols ≤ 1000 := by omega
  have c4 : s.x < s.cols := by omega
  have HM := Lib.hid hm
  have HM1 := Lib.hid hm1
  have HY := Lib.hid hyy
  have HX := Lib.hid hxx
  have HCL := Lib.hid hcl
  clear hi hcl hrl hm hm1 hyy hxx
  go_enter Try.func65, Try.ntmps65
  go_upto_region 3 with fail
  refine wp_region_lit ?_
  refine wpl_loadS rfl (.tmp 3) rfl rfl (heap_a1 w _ _) rfl ?_
  refine wpl_storeS rfl (.tmp 6) (.tmp 14) rfl rfl rfl (heap_a2 w _ _) rfl rfl (all24 rfl rfl rfl rfl rfl rfl rfl rfl rfl rfl rfl rfl rfl rfl rfl rfl rfl rfl rfl rfl rfl rfl rfl rfl) ?_
  go_wp2
  refine scEnd (w.heap.size + 1) 6 Try.results65 ?_ ?_ (heap_a2 w _ _) (by omega) (two_new w _ _).1 HSS.out (HS.out.like ?_ ?_ ?_ ?_)
  all_goals rfl
theorem OC.other {w : World} {base : Nat} {v : Value} {l : List Cl} (h : OC w base v l) (a : Addr) (x : Value) (ha : a.block < base) : OC (w.setCell a x) base v l := by
  unfold OC at h ⊢
  refine World.ownsRow.kept h (row := some a.block) ⟨rfl, rfl, rfl, by simp, fun k _ hk => heap_setCell_other w a k x (fun e => hk (by simp [e]))⟩ ?_
  cases hv : v.ownBlock with
  | none => exact Or.inl rfl
  | some k =>
    have := (World.ownsRow.lt h k hv).1
    refine Or.inr ?_
    simp
    omega
def EraseRel (l : List Cl) (lo hi : Nat) (w : World) (base g cap : Nat) (W5 : World) (i : Value) (wr : World) : Prop :=
  ∃ j : Nat, lo ≤ j ∧ j ≤ hi ∧ i = .int .i64 (j : Int) ∧ OC wr base (.slice (some ⟨g, 0, none⟩) l.length cap) (fillL l (fun _ => blankC) lo j) ∧ (∀ b, b < base → wr.heap[b]? = W5.heap[b]?) ∧ W5.heap.size ≤ wr.heap.size ∧ Below w.heap.size w wr
set_option maxHeartbeats 2000000 in
set_option maxRecDepth 100000 in
theorem eraser_r0 (v : Value) (s : Sc) (r c : Nat) (S : Nat → Prop) (w : World) (hS : ∀ x, S x → x < w.heap.size) (h : SCV w S v s) (hi : ScIn s r c) (lo he : Nat) (hlo : s.y * s.cols + s.x = (lo : Int)) (hhi : (s.y + 1) * s.cols = (he : Int)) : Calls Try.prog 65 #[v, .bool true, .int .i64 0] w (ScPost S { s with wrap := false, cells := mendL (fillL s.cells (fun _ => blankC) lo he) s.cols s.y } w) := by
  have HSS := Lib.hid hS
  clear hS
  obtain ⟨vc, vt, vo, vp, vi, vu, rfl, hs⟩ := h
  have HS := Lib.hid hs
  obtain ⟨g1, g2, g3, g4, g5, g6⟩ := hs
  obtain ⟨A1, kk1, rfl, p1, q1⟩ := g1.form
  obtain ⟨A2, k2, rfl, p2, q2⟩ := g2.form
  obtain ⟨A3, k3, rfl, p3, q3⟩ := g3.form
  obtain ⟨A4, k4, rfl, p4, q4⟩ := g4.form
  obtain ⟨A5, k5, rfl, p5, q5⟩ := g5.form
  obtain ⟨A6, k6, rfl, p6, q6⟩ := g6.form
  clear g1 g2 g3 g4 g5 g6
  have HI := Lib.hid hi
  have y0 := hi.y0
  have y1 := hi.y1
  have x0 := hi.x0
  have x1 := hi.x1
  have hcl := hi.cols
  have hrl := hi.rows
  have c2 := hi.g.c2
  have r2 := hi.g.r2
  have hlen : s.cells.length ≤ 1000000 := by rw [hi.g.n]; exact rc_le hi.g.r2 hi.g.c2
  obtain ⟨yy, hyy⟩ : ∃ yy : Nat, s.y = yy := ⟨s.y.toNat, by omega⟩
  obtain ⟨xx, hxx⟩ : ∃ xx : Nat, s.x = xx := ⟨s.x.toNat, by omega⟩
  have hm : s.y * s.cols = ((yy * c : Nat) : Int) := by rw [hyy, hcl, Int.natCast_mul]
  have hm1 : (s.y + 1) * s.cols = ((yy * c + c : Nat) : Int) := by rw [Int.add_mul, Int.one_mul, hm, hcl]; omega
  have hle : yy * c + c ≤ s.cells.length := by
    rw [hi.g.n]
    have : (yy + 1) * c ≤ r * c := Nat.mul_le_mul_right _ (by omega)
    rw [Nat.add_mul, Nat.one_mul] at this
    exact this
  have hpos : 0 < s.cells.length := by rw [hi.g.n]; exact Nat.mul_pos hi.g.r1 hi.g.c1
  have m0 : 0 ≤ s.y * s.cols := by omega
  have m1 : s.y * s.cols ≤ 1000000 := by omega
  have m2 : 0 ≤ (s.y + 1) * s.cols := by omega
  have m3 : (s.y + 1) * s.cols ≤ 1000000 := by omega
  have c3 : s.cols ≤ 1000 := by omega
  have c4 : s.x < s.cols := by omega
  have HM := Lib.hid hm
  have HM1 := Lib.hid hm1
  have HY := Lib.hid hyy
  have HX := Lib.hid hxx
  have HCL := Lib.hid hcl
  clear hi hcl hrl hm hm1 hyy hxx
  have hlh : lo ≤ he := by have := HM.out; have := HM1.out; have := HX.out; have := HCL.out; omega
  have hhl : he ≤ s.cells.length := by have := HM.out; have := HM1.out; have := HX.out; have := HCL.out; omega
  have HLO := Lib.hid hlo
  have HHI := Lib.hid hhi
  clear hlo hhi
  have w1 : IntKind.i64.wrap (s.y * s.cols) = s.y * s.cols := IntWalk.i64_in _ (by omega)
  have w2 : IntKind.i64.wrap (s.y + 1) = s.y + 1 := IntWalk.i64_in _ (by omega)
  have w3 : IntKind.i64.wrap ((s.y + 1) * s.cols) = (s.y + 1) * s.cols := IntWalk.i64_in _ (by omega)
  go_enter Try.func65, Try.ntmps65
  go_upto_region 4 with fail
  go_quiet (fail)
  go_upto_region 6 with fail
  go_quiet (fail)
  clear w1 w2 w3
  go_upto_region 13 with fail
  generalize hW2 : World.drewN _ _ = W2
  have k0 : W2.heap[w.heap.size]? = some (.cells (vS s (.slice A1 s.cells.length kk1) (.slice A2 s.tabs.length k2) (.slice A3 s.other.length k3) (.slice A4 s.p.params.length k4) (.slice A5 s.p.inter.length k5) (.slice A6 s.p.utf.length k6)) 32) := by rw [← hW2]; exact heap_a1 w _ _
  have k1 : W2.heap[w.heap.size + 1]? = some (.cells #[.int .i64 0, .int .i64 0, .slice none 0 0, .int .i64 0, .int .i64 0, .bool false, .int .u16 0, .int .i64 0, .int .i64 0, .slice none 0 0, .int .i64 0, .int .i64 0, .int .u16 0, .bool false, .bool false, .bool false, .slice none 0 0, .int .i64 0, .int .i64 0, .int .i64 0, .int .u8 0, .slice none 0 0, .slice none 0 0, .slice none 0 0] 32) := by rw [← hW2]; exact heap_a2 w _ _
  have z2 : W2.heap.size = w.heap.size + 1 + 1 := by rw [← hW2]; exact (two_new w _ _).2
  have b2 : Below w.heap.size w W2 := by rw [← hW2]; exact below_drewN (two_new w _ _).1 _
  obtain ⟨d2, e2⟩ := cellR (v := .slice A1 s.cells.length kk1) k0 2 rfl
  have HC := Lib.hid (HS.out.1.cs' HSS.out b2 (Nat.le_refl _))
  have K0 := Lib.hid k0
  have K1 := Lib.hid k1
  have Z2 := Lib.hid z2
  have B2 := Lib.hid b2
  clear k0 k1 z2 b2 hW2
  go_upto_region 14 with fail
  ((with_reducible refine (own_any _ s.cells _ HC.out (by omega)).mono ?_); rintro e w4 ⟨v4, rfl, o4, b4⟩)
  obtain ⟨gc, cap, rfl, hg1, hg2, hg3, hg4⟩ := o4.open_ hpos
  have z4 := b4.size
  rw [Z2.out] at hg1 o4 z4
  have k4 : w4.heap[w.heap.size]? = _ := (b4.block _ (by rw [Z2.out]; omega)).trans K0.out
  have k41 : w4.heap[w.heap.size + 1]? = _ := (b4.block _ (by rw [Z2.out]; omega)).trans K1.out
  obtain ⟨f2, i2⟩ := cellR (v := .slice A1 s.cells.length kk1) k4 2 rfl
  obtain ⟨f5, i5⟩ := cellR (v := .bool s.wrap) k4 5 rfl
  have B4 := Lib.hid (B2.out.trans (b4.mono (by rw [Z2.out]; omega)))
  have O4 := Lib.hid o4
  have K4 := Lib.hid k4
  have K41 := Lib.hid k41
  clear o4 b4 k4 k41 d2 e2
  go_upto_region 14 with fail
  generalize hW5 : World.setCell _ _ _ = W5
  have k5 : W5.heap[w.heap.size]? = some (.cells (vS { s with wrap := false } (.slice (some ⟨gc, 0, none⟩) s.cells.length cap) (.slice A2 s.tabs.length k2) (.slice A3 s.other.length k3) (.slice A4 s.p.params.length k4) (.slice A5 s.p.inter.length k5) (.slice A6 s.p.utf.length k6)) 32) := by rw [← hW5]; exact (heap_setCell_same _ _ 5 _ _ _ ((heap_setCell_same _ _ 2 _ _ _ K4.out).trans rfl)).trans rfl
  have k51 : W5.heap[w.heap.size + 1]? = some (.cells #[.int .i64 0, .int .i64 0, .slice none 0 0, .int .i64 0, .int .i64 0, .bool false, .int .u16 0, .int .i64 0, .int .i64 0, .slice none 0 0, .int .i64 0, .int .i64 0, .int .u16 0, .bool false, .bool false, .bool false, .slice none 0 0, .int .i64 0, .int .i64 0, .int .i64 0, .int .u8 0, .slice none 0 0, .slice none 0 0, .slice none 0 0] 32) := by rw [← hW5]; exact (heap_setCell_other _ _ _ _ (by simp)).trans ((heap_setCell_other _ _ _ _ (by simp)).trans K41.out)
  have o5 : OC W5 (w.heap.size + 1 + 1) (.slice (some ⟨gc, 0, none⟩) s.cells.length cap) s.cells := by rw [← hW5]; exact (O4.out.other _ _ (by simp; omega)).other _ _ (by simp; omega)
  have z5 : W5.heap.size = w4.heap.size := by rw [← hW5]; simp
  have b5 : Below w.heap.size w W5 := by rw [← hW5]; exact (B4.out.setCell (by simp) _).setCell (by simp) _
  have K5 := Lib.hid k5
  have K51 := Lib.hid k51
  have O5 := Lib.hid o5
  have Z5 := Lib.hid z5
  have B5 := Lib.hid b5
  clear f2 i2 f5 i5 k5 k51 o5 z5 b5 hW5
  rw [HLO.out, HHI.out]
  go_wp2
  go_loopw [10] (fun i wr => EraseRel s.cells lo he w (w.heap.size + 1 + 1) gc cap W5 i wr) (fun i _ => he - (intOf i).toNat)
  case atStart => exact ⟨lo, Nat.le_refl _, hlh, rfl, by rw [fillL_none _ _ _ _ (Nat.le_refl _)]; exact O5.out, fun _ _ => rfl, Nat.le_refl _, B5.out⟩
  case round =>
    generalize wr = w6 at *
    obtain ⟨j, hj1, hj2, rfl, ho, hk, hz, hb⟩ := hrel
    have k6 := (hk w.heap.size (by omega)).trans K5.out
    have k61 := (hk (w.heap.size + 1) (by omega)).trans K51.out
    have z6 := hb.size
    have g6 := ho.block.2
    have HO6 := Lib.hid ho
    have HK6 := Lib.hid hk
    have HZ6 := Lib.hid hz
    have HB6 := Lib.hid hb
    have K6 := Lib.hid k6
    have K61 := Lib.hid k61
    clear ho hk hz hb k6 k61
    by_cases hlt : j < he
    · have hjl : j < s.cells.length := by omega
      obtain ⟨c2', i2'⟩ := cellR (w := w6.drew) (v := .slice (some ⟨gc, 0, none⟩) s.cells.length cap) K6.out 2 rfl
      have hO6d : OC w6.drew (w.heap.size + 1 + 1) (.slice (some ⟨gc, 0, none⟩) s.cells.length cap) (fillL s.cells (fun _ => blankC) lo j) := HO6.out
      have HO6d := Lib.hid hO6d
      have hd : w.heap.size < w6.drew.heap.size := by show w.heap.size < w6.heap.size; omega
      clear hO6d
      go_wp2
      go_region_with ((with_reducible refine (blank_any _).mono ?_); rintro e w7 ⟨rfl, hw7⟩; have H7 := Lib.hid (HO6d.out.below hw7); have HW7 := Lib.hid hw7; have z7 := hw7.size; have c27 := (hw7.cell (p := ⟨w.heap.size, 2, none⟩) hd).trans c2'; obtain ⟨q0, q1, q2, s0, s1, s2, t0, t1, t2⟩ := (HO6d.out.below hw7).spot j hjl; clear hw7)
      all_goals
        go_wp2
        go_roundw
        case rel =>
          have z7' : w6.heap.size ≤ w7.heap.size := z7
          refine ⟨j + 1, by omega, by omega, by go_num, ?_, fun b hb => ?_, ?_, below_put (HB6.out.drew.trans (HW7.out.mono (by show w.heap.size ≤ w6.heap.size; omega))) (by omega) _ _ _ _⟩
          · have := H7.out.put j hjl blankC
            rw [fillL_set _ _ _ _ _ hj1 rfl] at this
            exact this
          · rw [heap_setCell_other _ _ _ _ (by simp; omega), heap_setCell_other _ _ _ _ (by simp; omega), heap_setCell_other _ _ _ _ (by simp; omega)]
            exact (HW7.out.block b (by show b < w6.heap.size; omega)).trans (HK6.out b hb)
          · have := HZ6.out
            simp
            omega
        case measure => simp [intOf]; omega
    · obtain rfl : he = j := by omega
      obtain ⟨a1, n1⟩ := cellR (v := .int .i64 s.cols) K6.out 1 rfl
      obtain ⟨a2, n2⟩ := cellR (v := .slice (some ⟨gc, 0, none⟩) s.cells.length cap) K6.out 2 rfl
      obtain ⟨a3, n3⟩ := cellR (v := .int .i64 s.y) K6.out 3 rfl
      have HM6 := Lib.hid HO6.out.cs
      go_upto_region 19 with fail
      ((with_reducible refine (Mend_any _ (fillL s.cells (fun _ => blankC) lo he) s.cols s.y _ HM6.out (by rw [fillL_len]; omega)).mono ?_); rintro e w8 ⟨v8, rfl, o8, b8⟩)
      have z8 := b8.size
      have k8 : w8.heap[w.heap.size]? = _ := (b8.block _ (by omega)).trans K6.out
      have k81 : w8.heap[w.heap.size + 1]? = _ := (b8.block _ (by omega)).trans K61.out
      obtain ⟨f2, i2⟩ := cellR (v := .slice (some ⟨gc, 0, none⟩) s.cells.length cap) k8 2 rfl
      obtain ⟨A8, q8, rfl, p8, r8⟩ := o8.cs.form
      have B8 := Lib.hid (HB6.out.trans (b8.mono (by omega)))
      have O8 := Lib.hid (o8.lower (b2 := w.heap.size + 1 + 1) (by omega))
      have K8 := Lib.hid k8
      have K81 := Lib.hid k81
      clear o8 b8 k8 k81 a1 n1 a2 n2 a3 n3
      go_upto_region 19 with fail
      refine wp_region_lit ?_
      refine wpl_loadS rfl (.tmp 3) rfl rfl ((heap_setCell_same _ _ 2 _ _ _ K8.out).trans rfl) rfl ?_
      refine wpl_storeS rfl (.tmp 6) (.tmp 70) rfl rfl rfl ((heap_setCell_other _ _ _ _ (by simp)).trans K81.out) rfl rfl (all24 rfl rfl rfl rfl rfl rfl rfl rfl rfl rfl rfl rfl rfl rfl rfl rfl rfl rfl rfl rfl rfl rfl rfl rfl) ?_
      go_wp2
      refine scEndC (s0 := s) (w.heap.size + 1) 6 Try.results65 ?_ ?_ ((heap_setCell_other _ _ _ _ (by simp)).trans K81.out) (by omega) (B8.out.setCell (by simp) _) HSS.out HS.out ?_ ?_ ?_ (w.heap.size + 1 + 1) (by omega) O8.out (fun b hb => heap_setCell_other _ _ _ _ (by simp; omega)) (by simp)
      all_goals rfl
set_option maxHeartbeats 2000000 in
set_option maxRecDepth 100000 in
theorem eraser_r1 (v : Value) (s : Sc) (r c : Nat) (S : Nat → Prop) (w : World) (hS : ∀ x, S x → x < w.heap.size) (h : SCV w S v s) (hi : ScIn s r c) (lo he : Nat) (hlo : s.y * s.cols = (lo : Int)) (hhi : s.y * s.cols + s.x + 1 = (he : Int)) : Calls Try.prog 65 #[v, .bool true, .int .i64 1] w (ScPost S { s with wrap := false, cells := mendL (fillL s.cells (fun _ => blankC) lo he) s.cols s.y } w) := by
  have HSS := Lib.hid hS
  clear hS
  obtain ⟨vc, vt, vo, vp, vi, vu, rfl, hs⟩ := h
  have HS := Lib.hid hs
  obtain ⟨g1, g2, g3, g4, g5, g6⟩ := hs
  obtain ⟨A1, kk1, rfl, p1, q1⟩ := g1.form
  obtain ⟨A2, k2, rfl, p2, q2⟩ := g2.form
  obtain ⟨A3, k3, rfl, p3, q3⟩ := g3.form
  obtain ⟨A4, k4, rfl, p4, q4⟩ := g4.form
  obtain ⟨A5, k5, rfl, p5, q5⟩ := g5.form
  obtain ⟨A6, k6, rfl, p6, q6⟩ := g6.form
  clear g1 g2 g3 g4 g5 g6
  have HI := Lib.hid hi
  have y0 := hi.y0
  have y1 := hi.y1
  have x0 := hi.x0
  have x1 := hi.x1
  have hcl := hi.cols
  have hrl := hi.rows
  have c2 := hi.g.c2
  have r2 := hi.g.r2
  have hlen : s.cells.length ≤ 1000000 := by rw [hi.g.n]; exact rc_le hi.g.r2 hi.g.c2
  obtain ⟨yy, hyy⟩ : ∃ yy : Nat, s.y = yy := ⟨s.y.toNat, by omega⟩
  obtain ⟨xx, hxx⟩ : ∃ xx : Nat, s.x = xx := ⟨s.x.toNat, by omega⟩
  have hm : s.y * s.cols = ((yy * c : Nat) : Int) := by rw [hyy, hcl, Int.natCast_mul]
  have hm1 : (s.y + 1) * s.cols = ((yy * c + c : Nat) : Int) := by rw [Int.add_mul, Int.one_mul, hm, hcl]; omega
  have hle : yy * c + c ≤ s.cells.length := by
    rw [hi.g.n]
    have : (yy + 1) * c ≤ r * c := Nat.mul_le_mul_right _ (by omega)
    rw [Nat.add_mul, Nat.one_mul] at this
    exact this
  have hpos : 0 < s.cells.length := by rw [hi.g.n]; exact Nat.mul_pos hi.g.r1 hi.g.c1
  have m0 : 0 ≤ s.y * s.cols := by omega
  have m1 : s.y * s.cols ≤ 1000000 := by omega
  have m2 : 0 ≤ (s.y + 1) * s.cols := by omega
  have m3 : (s.y + 1) * s.cols ≤ 1000000 := by omega
  have c3 : s.cols ≤ 1000 := by omega
  have c4 : s.x < s.cols := by omega
  have HM := Lib.hid hm
  have HM1 := Lib.hid hm1
  have HY := Lib.hid hyy
  have HX := Lib.hid hxx
  have HCL := Lib.hid hcl
  clear hi hcl hrl hm hm1 hyy hxx
  have hlh : lo ≤ he := by have := HM.out; have := HM1.out; have := HX.out; have := HCL.out; omega
  have hhl : he ≤ s.cells.length := by have := HM.out; have := HM1.out; have := HX.out; have := HCL.out; omega
  have HLO := Lib.hid hlo
  have HHI := Lib.hid hhi
  clear hlo hhi
  have w1 : IntKind.i64.wrap (s.y * s.cols) = s.y * s.cols := IntWalk.i64_in _ (by omega)
  have w2 : IntKind.i64.wrap (s.y + 1) = s.y + 1 := IntWalk.i64_in _ (by omega)
  have w3 : IntKind.i64.wrap ((s.y + 1) * s.cols) = (s.y + 1) * s.cols := IntWalk.i64_in _ (by omega)
  go_enter Try.func65, Try.ntmps65
  go_upto_region 4 with fail
  go_quiet (fail)
  go_upto_region 6 with fail
  go_quiet (fail)
  clear w1 w2 w3
  go_upto_region 13 with fail
  generalize hW2 : World.drewN _ _ = W2
  have k0 : W2.heap[w.heap.size]? = some (.cells (vS s (.slice A1 s.cells.length kk1) (.slice A2 s.tabs.length k2) (.slice A3 s.other.length k3) (.slice A4 s.p.params.length k4) (.slice A5 s.p.inter.length k5) (.slice A6 s.p.utf.length k6)) 32) := by rw [← hW2]; exact heap_a1 w _ _
  have k1 : W2.heap[w.heap.size + 1]? = some (.cells #[.int .i64 0, .int .i64 0, .slice none 0 0, .int .i64 0, .int .i64 0, .bool false, .int .u16 0, .int .i64 0, .int .i64 0, .slice none 0 0, .int .i64 0, .int .i64 0, .int .u16 0, .bool false, .bool false, .bool false, .slice none 0 0, .int .i64 0, .int .i64 0, .int .i64 0, .int .u8 0, .slice none 0 0, .slice none 0 0, .slice none 0 0] 32) := by rw [← hW2]; exact heap_a2 w _ _
  have z2 : W2.heap.size = w.heap.size + 1 + 1 := by rw [← hW2]; exact (two_new w _ _).2
  have b2 : Below w.heap.size w W2 := by rw [← hW2]; exact below_drewN (two_new w _ _).1 _
  obtain ⟨d2, e2⟩ := cellR (v := .slice A1 s.cells.length kk1) k0 2 rfl
  have HC := Lib.hid (HS.out.1.cs' HSS.out b2 (Nat.le_refl _))
  have K0 := Lib.hid k0
  have K1 := Lib.hid k1
  have Z2 := Lib.hid z2
  have B2 := Lib.hid b2
  clear k0 k1 z2 b2 hW2
  go_upto_region 14 with fail
  ((with_reducible refine (own_any _ s.cells _ HC.out (by omega)).mono ?_); rintro e w4 ⟨v4, rfl, o4, b4⟩)
  obtain ⟨gc, cap, rfl, hg1, hg2, hg3, hg4⟩ := o4.open_ hpos
  have z4 := b4.size
  rw [Z2.out] at hg1 o4 z4
  have k4 : w4.heap[w.heap.size]? = _ := (b4.block _ (by rw [Z2.out]; omega)).trans K0.out
  have k41 : w4.heap[w.heap.size + 1]? = _ := (b4.block _ (by rw [Z2.out]; omega)).trans K1.out
  obtain ⟨f2, i2⟩ := cellR (v := .slice A1 s.cells.length kk1) k4 2 rfl
  obtain ⟨f5, i5⟩ := cellR (v := .bool s.wrap) k4 5 rfl
  have B4 := Lib.hid (B2.out.trans (b4.mono (by rw [Z2.out]; omega)))
  have O4 := Lib.hid o4
  have K4 := Lib.hid k4
  have K41 := Lib.hid k41
  clear o4 b4 k4 k41 d2 e2
  go_upto_region 14 with fail
  generalize hW5 : World.setCell _ _ _ = W5
  have k5 : W5.heap[w.heap.size]? = some (.cells (vS { s with wrap := false } (.slice (some ⟨gc, 0, none⟩) s.cells.length cap) (.slice A2 s.tabs.length k2) (.slice A3 s.other.length k3) (.slice A4 s.p.params.length k4) (.slice A5 s.p.inter.length k5) (.slice A6 s.p.utf.length k6)) 32) := by rw [← hW5]; exact (heap_setCell_same _ _ 5 _ _ _ ((heap_setCell_same _ _ 2 _ _ _ K4.out).trans rfl)).trans rfl
  have k51 : W5.heap[w.heap.size + 1]? = some (.cells #[.int .i64 0, .int .i64 0, .slice none 0 0, .int .i64 0, .int .i64 0, .bool false, .int .u16 0, .int .i64 0, .int .i64 0, .slice none 0 0, .int .i64 0, .int .i64 0, .int .u16 0, .bool false, .bool false, .bool false, .slice none 0 0, .int .i64 0, .int .i64 0, .int .i64 0, .int .u8 0, .slice none 0 0, .slice none 0 0, .slice none 0 0] 32) := by rw [← hW5]; exact (heap_setCell_other _ _ _ _ (by simp)).trans ((heap_setCell_other _ _ _ _ (by simp)).trans K41.out)
  have o5 : OC W5 (w.heap.size + 1 + 1) (.slice (some ⟨gc, 0, none⟩) s.cells.length cap) s.cells := by rw [← hW5]; exact (O4.out.other _ _ (by simp; omega)).other _ _ (by simp; omega)
  have z5 : W5.heap.size = w4.heap.size := by rw [← hW5]; simp
  have b5 : Below w.heap.size w W5 := by rw [← hW5]; exact (B4.out.setCell (by simp) _).setCell (by simp) _
  have K5 := Lib.hid k5
  have K51 := Lib.hid k51
  have O5 := Lib.hid o5
  have Z5 := Lib.hid z5
  have B5 := Lib.hid b5
  clear f2 i2 f5 i5 k5 k51 o5 z5 b5 hW5
  rw [HHI.out, HLO.out]
  go_wp2
  go_loopw [10] (fun i wr => EraseRel s.cells lo he w (w.heap.size + 1 + 1) gc cap W5 i wr) (fun i _ => he - (intOf i).toNat)
  case atStart => exact ⟨lo, Nat.le_refl _, hlh, rfl, by rw [fillL_none _ _ _ _ (Nat.le_refl _)]; exact O5.out, fun _ _ => rfl, Nat.le_refl _, B5.out⟩
  case round =>
    generalize wr = w6 at *
    obtain ⟨j, hj1, hj2, rfl, ho, hk, hz, hb⟩ := hrel
    have k6 := (hk w.heap.size (by omega)).trans K5.out
    have k61 := (hk (w.heap.size + 1) (by omega)).trans K51.out
    have z6 := hb.size
    have g6 := ho.block.2
    have HO6 := Lib.hid ho
    have HK6 := Lib.hid hk
    have HZ6 := Lib.hid hz
    have HB6 := Lib.hid hb
    have K6 := Lib.hid k6
    have K61 := Lib.hid k61
    clear ho hk hz hb k6 k61
    by_cases hlt : j < he
    · have hjl : j < s.cells.length := by omega
      obtain ⟨c2', i2'⟩ := cellR (w := w6.drew) (v := .slice (some ⟨gc, 0, none⟩) s.cells.length cap) K6.out 2 rfl
      have hO6d : OC w6.drew (w.heap.size + 1 + 1) (.slice (some ⟨gc, 0, none⟩) s.cells.length cap) (fillL s.cells (fun _ => blankC) lo j) := HO6.out
      have HO6d := Lib.hid hO6d
      have hd : w.heap.size < w6.drew.heap.size := by show w.heap.size < w6.heap.size; omega
      clear hO6d
      go_wp2
      go_region_with ((with_reducible refine (blank_any _).mono ?_); rintro e w7 ⟨rfl, hw7⟩; have H7 := Lib.hid (HO6d.out.below hw7); have HW7 := Lib.hid hw7; have z7 := hw7.size; have c27 := (hw7.cell (p := ⟨w.heap.size, 2, none⟩) hd).trans c2'; obtain ⟨q0, q1, q2, s0, s1, s2, t0, t1, t2⟩ := (HO6d.out.below hw7).spot j hjl; clear hw7)
      all_goals
        go_wp2
        go_roundw
        case rel =>
          have z7' : w6.heap.size ≤ w7.heap.size := z7
          refine ⟨j + 1, by omega, by omega, by go_num, ?_, fun b hb => ?_, ?_, below_put (HB6.out.drew.trans (HW7.out.mono (by show w.heap.size ≤ w6.heap.size; omega))) (by omega) _ _ _ _⟩
          · have := H7.out.put j hjl blankC
            rw [fillL_set _ _ _ _ _ hj1 rfl] at this
            exact this
          · rw [heap_setCell_other _ _ _ _ (by simp; omega), heap_setCell_other _ _ _ _ (by simp; omega), heap_setCell_other _ _ _ _ (by simp; omega)]
            exact (HW7.out.block b (by show b < w6.heap.size; omega)).trans (HK6.out b hb)
          · have := HZ6.out
            simp
            omega
        case measure => simp [intOf]; omega
    · obtain rfl : he = j := by omega
      obtain ⟨a1, n1⟩ := cellR (v := .int .i64 s.cols) K6.out 1 rfl
      obtain ⟨a2, n2⟩ := cellR (v := .slice (some ⟨gc, 0, none⟩) s.cells.length cap) K6.out 2 rfl
      obtain ⟨a3, n3⟩ := cellR (v := .int .i64 s.y) K6.out 3 rfl
      have HM6 := Lib.hid HO6.out.cs
      go_upto_region 19 with fail
      ((with_reducible refine (Mend_any _ (fillL s.cells (fun _ => blankC) lo he) s.cols s.y _ HM6.out (by rw [fillL_len]; omega)).mono ?_); rintro e w8 ⟨v8, rfl, o8, b8⟩)
      have z8 := b8.size
      have k8 : w8.heap[w.heap.size]? = _ := (b8.block _ (by omega)).trans K6.out
      have k81 : w8.heap[w.heap.size + 1]? = _ := (b8.block _ (by omega)).trans K61.out
      obtain ⟨f2, i2⟩ := cellR (v := .slice (some ⟨gc, 0, none⟩) s.cells.length cap) k8 2 rfl
      obtain ⟨A8, q8, rfl, p8, r8⟩ := o8.cs.form
      have B8 := Lib.hid (HB6.out.trans (b8.mono (by omega)))
      have O8 := Lib.hid (o8.lower (b2 := w.heap.size + 1 + 1) (by omega))
      have K8 := Lib.hid k8
      have K81 := Lib.hid k81
      clear o8 b8 k8 k81 a1 n1 a2 n2 a3 n3
      go_upto_region 19 with fail
      refine wp_region_lit ?_
      refine wpl_loadS rfl (.tmp 3) rfl rfl ((heap_setCell_same _ _ 2 _ _ _ K8.out).trans rfl) rfl ?_
      refine wpl_storeS rfl (.tmp 6) (.tmp 70) rfl rfl rfl ((heap_setCell_other _ _ _ _ (by simp)).trans K81.out) rfl rfl (all24 rfl rfl rfl rfl rfl rfl rfl rfl rfl rfl rfl rfl rfl rfl rfl rfl rfl rfl rfl rfl rfl rfl rfl rfl) ?_
      go_wp2
      refine scEndC (s0 := s) (w.heap.size + 1) 6 Try.results65 ?_ ?_ ((heap_setCell_other _ _ _ _ (by simp)).trans K81.out) (by omega) (B8.out.setCell (by simp) _) HSS.out HS.out ?_ ?_ ?_ (w.heap.size + 1 + 1) (by omega) O8.out (fun b hb => heap_setCell_other _ _ _ _ (by simp; omega)) (by simp)
      all_goals rfl
set_option maxHeartbeats 2000000 in
set_option maxRecDepth 100000 in
theorem eraser_r2 (v : Value) (s : Sc) (r c : Nat) (S : Nat → Prop) (w : World) (hS : ∀ x, S x → x < w.heap.size) (h : SCV w S v s) (hi : ScIn s r c) (lo he : Nat) (hlo : s.y * s.cols = (lo : Int)) (hhi : (s.y + 1) * s.cols = (he : Int)) : Calls Try.prog 65 #[v, .bool true, .int .i64 2] w (ScPost S { s with wrap := false, cells := mendL (fillL s.cells (fun _ => blankC) lo he) s.cols s.y } w) := by
  have HSS := Lib.hid hS
  clear hS
  obtain ⟨vc, vt, vo, vp, vi, vu, rfl, hs⟩ := h
  have HS := Lib.hid hs
  obtain ⟨g1, g2, g3, g4, g5, g6⟩ := hs
  obtain ⟨A1, kk1, rfl, p1, q1⟩ := g1.form
  obtain ⟨A2, k2, rfl, p2, q2⟩ := g2.form
  obtain ⟨A3, k3, rfl, p3, q3⟩ := g3.form
  obtain ⟨A4, k4, rfl, p4, q4⟩ := g4.form
  obtain ⟨A5, k5, rfl, p5, q5⟩ := g5.form
  obtain ⟨A6, k6, rfl, p6, q6⟩ := g6.form
  clear g1 g2 g3 g4 g5 g6
  have HI := Lib.hid hi
  have y0 := hi.y0
  have y1 := hi.y1
  have x0 := hi.x0
  have x1 := hi.x1
  have hcl := hi.cols
  have hrl := hi.rows
  have c2 := hi.g.c2
  have r2 := hi.g.r2
  have hlen : s.cells.length ≤ 1000000 := by rw [hi.g.n]; exact rc_le hi.g.r2 hi.g.c2
  obtain ⟨yy, hyy⟩ : ∃ yy : Nat, s.y = yy := ⟨s.y.toNat, by omega⟩
  obtain ⟨xx, hxx⟩ : ∃ xx : Nat, s.x = xx := ⟨s.x.toNat, by omega⟩
  have hm : s.y * s.cols = ((yy * c : Nat) : Int) := by rw [hyy, hcl, Int.natCast_mul]
  have hm1 : (s.y + 1) * s.cols = ((yy * c + c : Nat) : Int) := by rw [Int.add_mul, Int.one_mul, hm, hcl]; omega
  have hle : yy * c + c ≤ s.cells.length := by
    rw [hi.g.n]
    have : (yy + 1) * c ≤ r * c := Nat.mul_le_mul_right _ (by omega)
    rw [Nat.add_mul, Nat.one_mul] at this
    exact this
  have hpos : 0 < s.cells.length := by rw [hi.g.n]; exact Nat.mul_pos hi.g.r1 hi.g.c1
  have m0 : 0 ≤ s.y * s.cols := by omega
  have m1 : s.y * s.cols ≤ 1000000 := by omega
  have m2 : 0 ≤ (s.y + 1) * s.cols := by omega
  have m3 : (s.y + 1) * s.cols ≤ 1000000 := by omega
  have c3 : s.cols ≤ 1000 := by omega
  have c4 : s.x < s.cols := by omega
  have HM := Lib.hid hm
  have HM1 := Lib.hid hm1
  have HY := Lib.hid hyy
  have HX := Lib.hid hxx
  have HCL := Lib.hid hcl
  clear hi hcl hrl hm hm1 hyy hxx
  have hlh : lo ≤ he := by have := HM.out; have := HM1.out; have := HX.out; have := HCL.out; omega
  have hhl : he ≤ s.cells.length := by have := HM.out; have := HM1.out; have := HX.out; have := HCL.out; omega
  have HLO := Lib.hid hlo
  have HHI := Lib.hid hhi
  clear hlo hhi
  have w1 : IntKind.i64.wrap (s.y * s.cols) = s.y * s.cols := IntWalk.i64_in _ (by omega)
  have w2 : IntKind.i64.wrap (s.y + 1) = s.y + 1 := IntWalk.i64_in _ (by omega)
  have w3 : IntKind.i64.wrap ((s.y + 1) * s.cols) = (s.y + 1) * s.cols := IntWalk.i64_in _ (by omega)
  go_enter Try.func65, Try.ntmps65
  go_upto_region 4 with fail
  go_quiet (fail)
  go_upto_region 6 with fail
  go_quiet (fail)
  clear w1 w2 w3
  go_upto_region 13 with fail
  generalize hW2 : World.drewN _ _ = W2
  have k0 : W2.heap[w.heap.size]? = some (.cells (vS s (.slice A1 s.cells.length kk1) (.slice A2 s.tabs.length k2) (.slice A3 s.other.length k3) (.slice A4 s.p.params.length k4) (.slice A5 s.p.inter.length k5) (.slice A6 s.p.utf.length k6)) 32) := by rw [← hW2]; exact heap_a1 w _ _
  have k1 : W2.heap[w.heap.size + 1]? = some (.cells #[.int .i64 0, .int .i64 0, .slice none 0 0, .int .i64 0, .int .i64 0, .bool false, .int .u16 0, .int .i64 0, .int .i64 0, .slice none 0 0, .int .i64 0, .int .i64 0, .int .u16 0, .bool false, .bool false, .bool false, .slice none 0 0, .int .i64 0, .int .i64 0, .int .i64 0, .int .u8 0, .slice none 0 0, .slice none 0 0, .slice none 0 0] 32) := by rw [← hW2]; exact heap_a2 w _ _
  have z2 : W2.heap.size = w.heap.size + 1 + 1 := by rw [← hW2]; exact (two_new w _ _).2
  have b2 : Below w.heap.size w W2 := by rw [← hW2]; exact below_drewN (two_new w _ _).1 _
  obtain ⟨d2, e2⟩ := cellR (v := .slice A1 s.cells.length kk1) k0 2 rfl
  have HC := Lib.hid (HS.out.1.cs' HSS.out b2 (Nat.le_refl _))
  have K0 := Lib.hid k0
  have K1 := Lib.hid k1
  have Z2 := Lib.hid z2
  have B2 := Lib.hid b2
  clear k0 k1 z2 b2 hW2
  go_upto_region 14 with fail
  ((with_reducible refine (own_any _ s.cells _ HC.out (by omega)).mono ?_); rintro e w4 ⟨v4, rfl, o4, b4⟩)
  obtain ⟨gc, cap, rfl, hg1, hg2, hg3, hg4⟩ := o4.open_ hpos
  have z4 := b4.size
  rw [Z2.out] at hg1 o4 z4
  have k4 : w4.heap[w.heap.size]? = _ := (b4.block _ (by rw [Z2.out]; omega)).trans K0.out
  have k41 : w4.heap[w.heap.size + 1]? = _ := (b4.block _ (by rw [Z2.out]; omega)).trans K1.out
  obtain ⟨f2, i2⟩ := cellR (v := .slice A1 s.cells.length kk1) k4 2 rfl
  obtain ⟨f5, i5⟩ := cellR (v := .bool s.wrap) k4 5 rfl
  have B4 := Lib.hid (B2.out.trans (b4.mono (by rw [Z2.out]; omega)))
  have O4 := Lib.hid o4
  have K4 := Lib.hid k4
  have K41 := Lib.hid k41
  clear o4 b4 k4 k41 d2 e2
  go_upto_region 14 with fail
  generalize hW5 : World.setCell _ _ _ = W5
  have k5 : W5.heap[w.heap.size]? = some (.cells (vS { s with wrap := false } (.slice (some ⟨gc, 0, none⟩) s.cells.length cap) (.slice A2 s.tabs.length k2) (.slice A3 s.other.length k3) (.slice A4 s.p.params.length k4) (.slice A5 s.p.inter.length k5) (.slice A6 s.p.utf.length k6)) 32) := by rw [← hW5]; exact (heap_setCell_same _ _ 5 _ _ _ ((heap_setCell_same _ _ 2 _ _ _ K4.out).trans rfl)).trans rfl
  have k51 : W5.heap[w.heap.size + 1]? = some (.cells #[.int .i64 0, .int .i64 0, .slice none 0 0, .int .i64 0, .int .i64 0, .bool false, .int .u16 0, .int .i64 0, .int .i64 0, .slice none 0 0, .int .i64 0, .int .i64 0, .int .u16 0, .bool false, .bool false, .bool false, .slice none 0 0, .int .i64 0, .int .i64 0, .int .i64 0, .int .u8 0, .slice none 0 0, .slice none 0 0, .slice none 0 0] 32) := by rw [← hW5]; exact (heap_setCell_other _ _ _ _ (by simp)).trans ((heap_setCell_other _ _ _ _ (by simp)).trans K41.out)
  have o5 : OC W5 (w.heap.size + 1 + 1) (.slice (some ⟨gc, 0, none⟩) s.cells.length cap) s.cells := by rw [← hW5]; exact (O4.out.other _ _ (by simp; omega)).other _ _ (by simp; omega)
  have z5 : W5.heap.size = w4.heap.size := by rw [← hW5]; simp
  have b5 : Below w.heap.size w W5 := by rw [← hW5]; exact (B4.out.setCell (by simp) _).setCell (by simp) _
  have K5 := Lib.hid k5
  have K51 := Lib.hid k51
  have O5 := Lib.hid o5
  have Z5 := Lib.hid z5
  have B5 := Lib.hid b5
  clear f2 i2 f5 i5 k5 k51 o5 z5 b5 hW5
  rw [HLO.out, HHI.out]
  go_wp2
  go_loopw [10] (fun i wr => EraseRel s.cells lo he w (w.heap.size + 1 + 1) gc cap W5 i wr) (fun i _ => he - (intOf i).toNat)
  case atStart => exact ⟨lo, Nat.le_refl _, hlh, rfl, by rw [fillL_none _ _ _ _ (Nat.le_refl _)]; exact O5.out, fun _ _ => rfl, Nat.le_refl _, B5.out⟩
  case round =>
    generalize wr = w6 at *
    obtain ⟨j, hj1, hj2, rfl, ho, hk, hz, hb⟩ := hrel
    have k6 := (hk w.heap.size (by omega)).trans K5.out
    have k61 := (hk (w.heap.size + 1) (by omega)).trans K51.out
    have z6 := hb.size
    have g6 := ho.block.2
    have HO6 := Lib.hid ho
    have HK6 := Lib.hid hk
    have HZ6 := Lib.hid hz
    have HB6 := Lib.hid hb
    have K6 := Lib.hid k6
    have K61 := Lib.hid k61
    clear ho hk hz hb k6 k61
    by_cases hlt : j < he
    · have hjl : j < s.cells.length := by omega
      obtain ⟨c2', i2'⟩ := cellR (w := w6.drew) (v := .slice (some ⟨gc, 0, none⟩) s.cells.length cap) K6.out 2 rfl
      have hO6d : OC w6.drew (w.heap.size + 1 + 1) (.slice (some ⟨gc, 0, none⟩) s.cells.length cap) (fillL s.cells (fun _ => blankC) lo j) := HO6.out
      have HO6d := Lib.hid hO6d
      have hd : w.heap.size < w6.drew.heap.size := by show w.heap.size < w6.heap.size; omega
      clear hO6d
      go_wp2
      go_region_with ((with_reducible refine (blank_any _).mono ?_); rintro e w7 ⟨rfl, hw7⟩; have H7 := Lib.hid (HO6d.out.below hw7); have HW7 := Lib.hid hw7; have z7 := hw7.size; have c27 := (hw7.cell (p := ⟨w.heap.size, 2, none⟩) hd).trans c2'; obtain ⟨q0, q1, q2, s0, s1, s2, t0, t1, t2⟩ := (HO6d.out.below hw7).spot j hjl; clear hw7)
      all_goals
        go_wp2
        go_roundw
        case rel =>
          have z7' : w6.heap.size ≤ w7.heap.size := z7
          refine ⟨j + 1, by omega, by omega, by go_num, ?_, fun b hb => ?_, ?_, below_put (HB6.out.drew.trans (HW7.out.mono (by show w.heap.size ≤ w6.heap.size; omega))) (by omega) _ _ _ _⟩
          · have := H7.out.put j hjl blankC
            rw [fillL_set _ _ _ _ _ hj1 rfl] at this
            exact this
          · rw [heap_setCell_other _ _ _ _ (by simp; omega), heap_setCell_other _ _ _ _ (by simp; omega), heap_setCell_other _ _ _ _ (by simp; omega)]
            exact (HW7.out.block b (by show b < w6.heap.size; omega)).trans (HK6.out b hb)
          · have := HZ6.out
            simp
            omega
        case measure => simp [intOf]; omega
    · obtain rfl : he = j := by omega
      obtain ⟨a1, n1⟩ := cellR (v := .int .i64 s.cols) K6.out 1 rfl
      obtain ⟨a2, n2⟩ := cellR (v := .slice (some ⟨gc, 0, none⟩) s.cells.length cap) K6.out 2 rfl
      obtain ⟨a3, n3⟩ := cellR (v := .int .i64 s.y) K6.out 3 rfl
      have HM6 := Lib.hid HO6.out.cs
      go_upto_region 19 with fail
      ((with_reducible refine (Mend_any _ (fillL s.cells (fun _ => blankC) lo he) s.cols s.y _ HM6.out (by rw [fillL_len]; omega)).mono ?_); rintro e w8 ⟨v8, rfl, o8, b8⟩)
      have z8 := b8.size
      have k8 : w8.heap[w.heap.size]? = _ := (b8.block _ (by omega)).trans K6.out
      have k81 : w8.heap[w.heap.size + 1]? = _ := (b8.block _ (by omega)).trans K61.out
      obtain ⟨f2, i2⟩ := cellR (v := .slice (some ⟨gc, 0, none⟩) s.cells.length cap) k8 2 rfl
      obtain ⟨A8, q8, rfl, p8, r8⟩ := o8.cs.form
      have B8 := Lib.hid (HB6.out.trans (b8.mono (by omega)))
      have O8 := Lib.hid (o8.lower (b2 := w.heap.size + 1 + 1) (by omega))
      have K8 := Lib.hid k8
      have K81 := Lib.hid k81
      clear o8 b8 k8 k81 a1 n1 a2 n2 a3 n3
      go_upto_region 19 with fail
      refine wp_region_lit ?_
      refine wpl_loadS rfl (.tmp 3) rfl rfl ((heap_setCell_same _ _ 2 _ _ _ K8.out).trans rfl) rfl ?_
      refine wpl_storeS rfl (.tmp 6) (.tmp 70) rfl rfl rfl ((heap_setCell_other _ _ _ _ (by simp)).trans K81.out) rfl rfl (all24 rfl rfl rfl rfl rfl rfl rfl rfl rfl rfl rfl rfl rfl rfl rfl rfl rfl rfl rfl rfl rfl rfl rfl rfl) ?_
      go_wp2
      refine scEndC (s0 := s) (w.heap.size + 1) 6 Try.results65 ?_ ?_ ((heap_setCell_other _ _ _ _ (by simp)).trans K81.out) (by omega) (B8.out.setCell (by simp) _) HSS.out HS.out ?_ ?_ ?_ (w.heap.size + 1 + 1) (by omega) O8.out (fun b hb => heap_setCell_other _ _ _ _ (by simp; omega)) (by simp)
      all_goals rfl
set_option maxHeartbeats 2000000 in
set_option maxRecDepth 100000 in
theorem eraser_a0 (v : Value) (s : Sc) (r c : Nat) (S : Nat → Prop) (w : World) (hS : ∀ x, S x → x < w.heap.size) (h : SCV w S v s) (hi : ScIn s r c) (lo : Nat) (hlo : s.y * s.cols + s.x = (lo : Int))  : Calls Try.prog 65 #[v, .bool false, .int .i64 0] w (ScPost S { s with wrap := false, cells := mendL (fillL s.cells (fun _ => blankC) lo s.cells.length) s.cols s.y } w) := by
  have HSS := Lib.hid hS
  clear hS
  obtain ⟨vc, vt, vo, vp, vi, vu, rfl, hs⟩ := h
  have HS := Lib.hid hs
  obtain ⟨g1, g2, g3, g4, g5, g6⟩ := hs
  obtain ⟨A1, kk1, rfl, p1, q1⟩ := g1.form
  obtain ⟨A2, k2, rfl, p2, q2⟩ := g2.form
  obtain ⟨A3, k3, rfl, p3, q3⟩ := g3.form
  obtain ⟨A4, k4, rfl, p4, q4⟩ := g4.form
  obtain ⟨A5, k5, rfl, p5, q5⟩ := g5.form
  obtain ⟨A6, k6, rfl, p6, q6⟩ := g6.form
  clear g1 g2 g3 g4 g5 g6
  have HI := Lib.hid hi
  have y0 := hi.y0
  have y1 := hi.y1
  have x0 := hi.x0
  have x1 := hi.x1
  have hcl := hi.cols
  have hrl := hi.rows
  have c2 := hi.g.c2
  have r2 := hi.g.r2
  have hlen : s.cells.length ≤ 1000000 := by rw [hi.g.n]; exact rc_le hi.g.r2 hi.g.c2
  obtain ⟨yy, hyy⟩ : ∃ yy : Nat, s.y = yy := ⟨s.y.toNat, by omega⟩
  obtain ⟨xx, hxx⟩ : ∃ xx : Nat, s.x = xx := ⟨s.x.toNat, by omega⟩
  have hm : s.y * s.cols = ((yy * c : Nat) : Int) := by rw [hyy, hcl, Int.natCast_mul]
  have hm1 : (s.y + 1) * s.cols = ((yy * c + c : Nat) : Int) := by rw [Int.add_mul, Int.one_mul, hm, hcl]; omega
  have hle : yy * c + c ≤ s.cells.length := by
    rw [hi.g.n]
    have : (yy + 1) * c ≤ r * c := Nat.mul_le_mul_right _ (by omega)
    rw [Nat.add_mul, Nat.one_mul] at this
    exact this
  have hpos : 0 < s.cells.length := by rw [hi.g.n]; exact Nat.mul_pos hi.g.r1 hi.g.c1
  have m0 : 0 ≤ s.y * s.cols := by omega
  have m1 : s.y * s.cols ≤ 1000000 := by omega
  have m2 : 0 ≤ (s.y + 1) * s.cols := by omega
  have m3 : (s.y + 1) * s.cols ≤ 1000000 := by omega
  have c3 : s.cols ≤ 1000 := by omega
  have c4 : s.x < s.cols := by omega
  have HM := Lib.hid hm
  have HM1 := Lib.hid hm1
  have HY := Lib.hid hyy
  have HX := Lib.hid hxx
  have HCL := Lib.hid hcl
  clear hi hcl hrl hm hm1 hyy hxx
  have hlh : lo ≤ s.cells.length := by have := HM.out; have := HM1.out; have := HX.out; have := HCL.out; omega
  have hhl : s.cells.length ≤ s.cells.length := by have := HM.out; have := HM1.out; have := HX.out; have := HCL.out; omega
  have HLO := Lib.hid hlo
  clear hlo
  have w1 : IntKind.i64.wrap (s.y * s.cols) = s.y * s.cols := IntWalk.i64_in _ (by omega)
  have w2 : IntKind.i64.wrap (s.y + 1) = s.y + 1 := IntWalk.i64_in _ (by omega)
  have w3 : IntKind.i64.wrap ((s.y + 1) * s.cols) = (s.y + 1) * s.cols := IntWalk.i64_in _ (by omega)
  go_enter Try.func65, Try.ntmps65
  go_upto_region 4 with fail
  go_quiet (fail)
  clear w1 w2 w3
  go_upto_region 13 with fail
  generalize hW2 : World.drewN _ _ = W2
  have k0 : W2.heap[w.heap.size]? = some (.cells (vS s (.slice A1 s.cells.length kk1) (.slice A2 s.tabs.length k2) (.slice A3 s.other.length k3) (.slice A4 s.p.params.length k4) (.slice A5 s.p.inter.length k5) (.slice A6 s.p.utf.length k6)) 32) := by rw [← hW2]; exact heap_a1 w _ _
  have k1 : W2.heap[w.heap.size + 1]? = some (.cells #[.int .i64 0, .int .i64 0, .slice none 0 0, .int .i64 0, .int .i64 0, .bool false, .int .u16 0, .int .i64 0, .int .i64 0, .slice none 0 0, .int .i64 0, .int .i64 0, .int .u16 0, .bool false, .bool false, .bool false, .slice none 0 0, .int .i64 0, .int .i64 0, .int .i64 0, .int .u8 0, .slice none 0 0, .slice none 0 0, .slice none 0 0] 32) := by rw [← hW2]; exact heap_a2 w _ _
  have z2 : W2.heap.size = w.heap.size + 1 + 1 := by rw [← hW2]; exact (two_new w _ _).2
  have b2 : Below w.heap.size w W2 := by rw [← hW2]; exact below_drewN (two_new w _ _).1 _
  obtain ⟨d2, e2⟩ := cellR (v := .slice A1 s.cells.length kk1) k0 2 rfl
  have HC := Lib.hid (HS.out.1.cs' HSS.out b2 (Nat.le_refl _))
  have K0 := Lib.hid k0
  have K1 := Lib.hid k1
  have Z2 := Lib.hid z2
  have B2 := Lib.hid b2
  clear k0 k1 z2 b2 hW2
  go_upto_region 14 with fail
  ((with_reducible refine (own_any _ s.cells _ HC.out (by omega)).mono ?_); rintro e w4 ⟨v4, rfl, o4, b4⟩)
  obtain ⟨gc, cap, rfl, hg1, hg2, hg3, hg4⟩ := o4.open_ hpos
  have z4 := b4.size
  rw [Z2.out] at hg1 o4 z4
  have k4 : w4.heap[w.heap.size]? = _ := (b4.block _ (by rw [Z2.out]; omega)).trans K0.out
  have k41 : w4.heap[w.heap.size + 1]? = _ := (b4.block _ (by rw [Z2.out]; omega)).trans K1.out
  obtain ⟨f2, i2⟩ := cellR (v := .slice A1 s.cells.length kk1) k4 2 rfl
  obtain ⟨f5, i5⟩ := cellR (v := .bool s.wrap) k4 5 rfl
  have B4 := Lib.hid (B2.out.trans (b4.mono (by rw [Z2.out]; omega)))
  have O4 := Lib.hid o4
  have K4 := Lib.hid k4
  have K41 := Lib.hid k41
  clear o4 b4 k4 k41 d2 e2
  go_upto_region 14 with fail
  generalize hW5 : World.setCell _ _ _ = W5
  have k5 : W5.heap[w.heap.size]? = some (.cells (vS { s with wrap := false } (.slice (some ⟨gc, 0, none⟩) s.cells.length cap) (.slice A2 s.tabs.length k2) (.slice A3 s.other.length k3) (.slice A4 s.p.params.length k4) (.slice A5 s.p.inter.length k5) (.slice A6 s.p.utf.length k6)) 32) := by rw [← hW5]; exact (heap_setCell_same _ _ 5 _ _ _ ((heap_setCell_same _ _ 2 _ _ _ K4.out).trans rfl)).trans rfl
  have k51 : W5.heap[w.heap.size + 1]? = some (.cells #[.int .i64 0, .int .i64 0, .slice none 0 0, .int .i64 0, .int .i64 0, .bool false, .int .u16 0, .int .i64 0, .int .i64 0, .slice none 0 0, .int .i64 0, .int .i64 0, .int .u16 0, .bool false, .bool false, .bool false, .slice none 0 0, .int .i64 0, .int .i64 0, .int .i64 0, .int .u8 0, .slice none 0 0, .slice none 0 0, .slice none 0 0] 32) := by rw [← hW5]; exact (heap_setCell_other _ _ _ _ (by simp)).trans ((heap_setCell_other _ _ _ _ (by simp)).trans K41.out)
  have o5 : OC W5 (w.heap.size + 1 + 1) (.slice (some ⟨gc, 0, none⟩) s.cells.length cap) s.cells := by rw [← hW5]; exact (O4.out.other _ _ (by simp; omega)).other _ _ (by simp; omega)
  have z5 : W5.heap.size = w4.heap.size := by rw [← hW5]; simp
  have b5 : Below w.heap.size w W5 := by rw [← hW5]; exact (B4.out.setCell (by simp) _).setCell (by simp) _
  have K5 := Lib.hid k5
  have K51 := Lib.hid k51
  have O5 := Lib.hid o5
  have Z5 := Lib.hid z5
  have B5 := Lib.hid b5
  clear f2 i2 f5 i5 k5 k51 o5 z5 b5 hW5
  rw [HLO.out]
  go_wp2
  go_loopw [10] (fun i wr => EraseRel s.cells lo s.cells.length w (w.heap.size + 1 + 1) gc cap W5 i wr) (fun i _ => s.cells.length - (intOf i).toNat)
  case atStart => exact ⟨lo, Nat.le_refl _, hlh, rfl, by rw [fillL_none _ _ _ _ (Nat.le_refl _)]; exact O5.out, fun _ _ => rfl, Nat.le_refl _, B5.out⟩
  case round =>
    generalize wr = w6 at *
    obtain ⟨j, hj1, hj2, rfl, ho, hk, hz, hb⟩ := hrel
    have k6 := (hk w.heap.size (by omega)).trans K5.out
    have k61 := (hk (w.heap.size + 1) (by omega)).trans K51.out
    have z6 := hb.size
    have g6 := ho.block.2
    have HO6 := Lib.hid ho
    have HK6 := Lib.hid hk
    have HZ6 := Lib.hid hz
    have HB6 := Lib.hid hb
    have K6 := Lib.hid k6
    have K61 := Lib.hid k61
    clear ho hk hz hb k6 k61
    by_cases hlt : j < s.cells.length
    · have hjl : j < s.cells.length := by omega
      obtain ⟨c2', i2'⟩ := cellR (w := w6.drew) (v := .slice (some ⟨gc, 0, none⟩) s.cells.length cap) K6.out 2 rfl
      have hO6d : OC w6.drew (w.heap.size + 1 + 1) (.slice (some ⟨gc, 0, none⟩) s.cells.length cap) (fillL s.cells (fun _ => blankC) lo j) := HO6.out
      have HO6d := Lib.hid hO6d
      have hd : w.heap.size < w6.drew.heap.size := by show w.heap.size < w6.heap.size; omega
      clear hO6d
      go_wp2
      go_region_with ((with_reducible refine (blank_any _).mono ?_); rintro e w7 ⟨rfl, hw7⟩; have H7 := Lib.hid (HO6d.out.below hw7); have HW7 := Lib.hid hw7; have z7 := hw7.size; have c27 := (hw7.cell (p := ⟨w.heap.size, 2, none⟩) hd).trans c2'; obtain ⟨q0, q1, q2, s0, s1, s2, t0, t1, t2⟩ := (HO6d.out.below hw7).spot j hjl; clear hw7)
      all_goals
        go_wp2
        go_roundw
        case rel =>
          have z7' : w6.heap.size ≤ w7.heap.size := z7
          refine ⟨j + 1, by omega, by omega, by go_num, ?_, fun b hb => ?_, ?_, below_put (HB6.out.drew.trans (HW7.out.mono (by show w.heap.size ≤ w6.heap.size; omega))) (by omega) _ _ _ _⟩
          · have := H7.out.put j hjl blankC
            rw [fillL_set _ _ _ _ _ hj1 rfl] at this
            exact this
          · rw [heap_setCell_other _ _ _ _ (by simp; omega), heap_setCell_other _ _ _ _ (by simp; omega), heap_setCell_other _ _ _ _ (by simp; omega)]
            exact (HW7.out.block b (by show b < w6.heap.size; omega)).trans (HK6.out b hb)
          · have := HZ6.out
            simp
            omega
        case measure => simp [intOf]; omega
    · have hje : j = s.cells.length := by omega
      rw [hje] at HO6
      obtain ⟨a1, n1⟩ := cellR (v := .int .i64 s.cols) K6.out 1 rfl
      obtain ⟨a2, n2⟩ := cellR (v := .slice (some ⟨gc, 0, none⟩) s.cells.length cap) K6.out 2 rfl
      obtain ⟨a3, n3⟩ := cellR (v := .int .i64 s.y) K6.out 3 rfl
      have HM6 := Lib.hid HO6.out.cs
      go_upto_region 19 with fail
      ((with_reducible refine (Mend_any _ (fillL s.cells (fun _ => blankC) lo s.cells.length) s.cols s.y _ HM6.out (by rw [fillL_len]; omega)).mono ?_); rintro e w8 ⟨v8, rfl, o8, b8⟩)
      have z8 := b8.size
      have k8 : w8.heap[w.heap.size]? = _ := (b8.block _ (by omega)).trans K6.out
      have k81 : w8.heap[w.heap.size + 1]? = _ := (b8.block _ (by omega)).trans K61.out
      obtain ⟨f2, i2⟩ := cellR (v := .slice (some ⟨gc, 0, none⟩) s.cells.length cap) k8 2 rfl
      obtain ⟨A8, q8, rfl, p8, r8⟩ := o8.cs.form
      have B8 := Lib.hid (HB6.out.trans (b8.mono (by omega)))
      have O8 := Lib.hid (o8.lower (b2 := w.heap.size + 1 + 1) (by omega))
      have K8 := Lib.hid k8
      have K81 := Lib.hid k81
      clear o8 b8 k8 k81 a1 n1 a2 n2 a3 n3
      go_upto_region 19 with fail
      refine wp_region_lit ?_
      refine wpl_loadS rfl (.tmp 3) rfl rfl ((heap_setCell_same _ _ 2 _ _ _ K8.out).trans rfl) rfl ?_
      refine wpl_storeS rfl (.tmp 6) (.tmp 70) rfl rfl rfl ((heap_setCell_other _ _ _ _ (by simp)).trans K81.out) rfl rfl (all24 rfl rfl rfl rfl rfl rfl rfl rfl rfl rfl rfl rfl rfl rfl rfl rfl rfl rfl rfl rfl rfl rfl rfl rfl) ?_
      go_wp2
      refine scEndC (s0 := s) (w.heap.size + 1) 6 Try.results65 ?_ ?_ ((heap_setCell_other _ _ _ _ (by simp)).trans K81.out) (by omega) (B8.out.setCell (by simp) _) HSS.out HS.out ?_ ?_ ?_ (w.heap.size + 1 + 1) (by omega) O8.out (fun b hb => heap_setCell_other _ _ _ _ (by simp; omega)) (by simp)
      all_goals rfl
set_option maxHeartbeats 2000000 in
set_option maxRecDepth 100000 in
theorem eraser_a1 (v : Value) (s : Sc) (r c : Nat) (S : Nat → Prop) (w : World) (hS : ∀ x, S x → x < w.heap.size) (h : SCV w S v s) (hi : ScIn s r c) (he : Nat)  (hhi : s.y * s.cols + s.x + 1 = (he : Int)) : Calls Try.prog 65 #[v, .bool false, .int .i64 1] w (ScPost S { s with wrap := false, cells := mendL (fillL s.cells (fun _ => blankC) (0 : Nat) he) s.cols s.y } w) := by
  have HSS := Lib.hid hS
  clear hS
  obtain ⟨vc, vt, vo, vp, vi, vu, rfl, hs⟩ := h
  have HS := Lib.hid hs
  obtain ⟨g1, g2, g3, g4, g5, g6⟩ := hs
  obtain ⟨A1, kk1, rfl, p1, q1⟩ := g1.form
  obtain ⟨A2, k2, rfl, p2, q2⟩ := g2.form
  obtain ⟨A3, k3, rfl, p3, q3⟩ := g3.form
  obtain ⟨A4, k4, rfl, p4, q4⟩ := g4.form
  obtain ⟨A5, k5, rfl, p5, q5⟩ := g5.form
  obtain ⟨A6, k6, rfl, p6, q6⟩ := g6.form
  clear g1 g2 g3 g4 g5 g6
  have HI := Lib.hid hi
  have y0 := hi.y0
  have y1 := hi.y1
  have x0 := hi.x0
  have x1 := hi.x1
  have hcl := hi.cols
  have hrl := hi.rows
  have c2 := hi.g.c2
  have r2 := hi.g.r2
  have hlen : s.cells.length ≤ 1000000 := by rw [hi.g.n]; exact rc_le hi.g.r2 hi.g.c2
  obtain ⟨yy, hyy⟩ : ∃ yy : Nat, s.y = yy := ⟨s.y.toNat, by omega⟩
  obtain ⟨xx, hxx⟩ : ∃ xx : Nat, s.x = xx := ⟨s.x.toNat, by omega⟩
  have hm : s.y * s.cols = ((yy * c : Nat) : Int) := by rw [hyy, hcl, Int.natCast_mul]
  have hm1 : (s.y + 1) * s.cols = ((yy * c + c : Nat) : Int) := by rw [Int.add_mul, Int.one_mul, hm, hcl]; omega
  have hle : yy * c + c ≤ s.cells.length := by
    rw [hi.g.n]
    have : (yy + 1) * c ≤ r * c := Nat.mul_le_mul_right _ (by omega)
    rw [Nat.add_mul, Nat.one_mul] at this
    exact this
  have hpos : 0 < s.cells.length := by rw [hi.g.n]; exact Nat.mul_pos hi.g.r1 hi.g.c1
  have m0 : 0 ≤ s.y * s.cols := by omega
  have m1 : s.y * s.cols ≤ 1000000 := by omega
  have m2 : 0 ≤ (s.y + 1) * s.cols := by omega
  have m3 : (s.y + 1) * s.cols ≤ 1000000 := by omega
  have c3 : s.cols ≤ 1000 := by omega
  have c4 : s.x < s.cols := by omega
  have HM := Lib.hid hm
  have HM1 := Lib.hid hm1
  have HY := Lib.hid hyy
  have HX := Lib.hid hxx
  have HCL := Lib.hid hcl
  clear hi hcl hrl hm hm1 hyy hxx
  have hlh : (0 : Nat) ≤ he := by have := HM.out; have := HM1.out; have := HX.out; have := HCL.out; omega
  have hhl : he ≤ s.cells.length := by have := HM.out; have := HM1.out; have := HX.out; have := HCL.out; omega
  have HHI := Lib.hid hhi
  clear hhi
  have w1 : IntKind.i64.wrap (s.y * s.cols) = s.y * s.cols := IntWalk.i64_in _ (by omega)
  have w2 : IntKind.i64.wrap (s.y + 1) = s.y + 1 := IntWalk.i64_in _ (by omega)
  have w3 : IntKind.i64.wrap ((s.y + 1) * s.cols) = (s.y + 1) * s.cols := IntWalk.i64_in _ (by omega)
  go_enter Try.func65, Try.ntmps65
  go_upto_region 4 with fail
  go_quiet (fail)
  clear w1 w2 w3
  go_upto_region 13 with fail
  generalize hW2 : World.drewN _ _ = W2
  have k0 : W2.heap[w.heap.size]? = some (.cells (vS s (.slice A1 s.cells.length kk1) (.slice A2 s.tabs.length k2) (.slice A3 s.other.length k3) (.slice A4 s.p.params.length k4) (.slice A5 s.p.inter.length k5) (.slice A6 s.p.utf.length k6)) 32) := by rw [← hW2]; exact heap_a1 w _ _
  have k1 : W2.heap[w.heap.size + 1]? = some (.cells #[.int .i64 0, .int .i64 0, .slice none 0 0, .int .i64 0, .int .i64 0, .bool false, .int .u16 0, .int .i64 0, .int .i64 0, .slice none 0 0, .int .i64 0, .int .i64 0, .int .u16 0, .bool false, .bool false, .bool false, .slice none 0 0, .int .i64 0, .int .i64 0, .int .i64 0, .int .u8 0, .slice none 0 0, .slice none 0 0, .slice none 0 0] 32) := by rw [← hW2]; exact heap_a2 w _ _
  have z2 : W2.heap.size = w.heap.size + 1 + 1 := by rw [← hW2]; exact (two_new w _ _).2
  have b2 : Below w.heap.size w W2 := by rw [← hW2]; exact below_drewN (two_new w _ _).1 _
  obtain ⟨d2, e2⟩ := cellR (v := .slice A1 s.cells.length kk1) k0 2 rfl
  have HC := Lib.hid (HS.out.1.cs' HSS.out b2 (Nat.le_refl _))
  have K0 := Lib.hid k0
  have K1 := Lib.hid k1
  have Z2 := Lib.hid z2
  have B2 := Lib.hid b2
  clear k0 k1 z2 b2 hW2
  go_upto_region 14 with fail
  ((with_reducible refine (own_any _ s.cells _ HC.out (by omega)).mono ?_); rintro e w4 ⟨v4, rfl, o4, b4⟩)
  obtain ⟨gc, cap, rfl, hg1, hg2, hg3, hg4⟩ := o4.open_ hpos
  have z4 := b4.size
  rw [Z2.out] at hg1 o4 z4
  have k4 : w4.heap[w.heap.size]? = _ := (b4.block _ (by rw [Z2.out]; omega)).trans K0.out
  have k41 : w4.heap[w.heap.size + 1]? = _ := (b4.block _ (by rw [Z2.out]; omega)).trans K1.out
  obtain ⟨f2, i2⟩ := cellR (v := .slice A1 s.cells.length kk1) k4 2 rfl
  obtain ⟨f5, i5⟩ := cellR (v := .bool s.wrap) k4 5 rfl
  have B4 := Lib.hid (B2.out.trans (b4.mono (by rw [Z2.out]; omega)))
  have O4 := Lib.hid o4
  have K4 := Lib.hid k4
  have K41 := Lib.hid k41
  clear o4 b4 k4 k41 d2 e2
  go_upto_region 14 with fail
  generalize hW5 : World.setCell _ _ _ = W5
  have k5 : W5.heap[w.heap.size]? = some (.cells (vS { s with wrap := false } (.slice (some ⟨gc, 0, none⟩) s.cells.length cap) (.slice A2 s.tabs.length k2) (.slice A3 s.other.length k3) (.slice A4 s.p.params.length k4) (.slice A5 s.p.inter.length k5) (.slice A6 s.p.utf.length k6)) 32) := by rw [← hW5]; exact (heap_setCell_same _ _ 5 _ _ _ ((heap_setCell_same _ _ 2 _ _ _ K4.out).trans rfl)).trans rfl
  have k51 : W5.heap[w.heap.size + 1]? = some (.cells #[.int .i64 0, .int .i64 0, .slice none 0 0, .int .i64 0, .int .i64 0, .bool false, .int .u16 0, .int .i64 0, .int .i64 0, .slice none 0 0, .int .i64 0, .int .i64 0, .int .u16 0, .bool false, .bool false, .bool false, .slice none 0 0, .int .i64 0, .int .i64 0, .int .i64 0, .int .u8 0, .slice none 0 0, .slice none 0 0, .slice none 0 0] 32) := by rw [← hW5]; exact (heap_setCell_other _ _ _ _ (by simp)).trans ((heap_setCell_other _ _ _ _ (by simp)).trans K41.out)
  have o5 : OC W5 (w.heap.size + 1 + 1) (.slice (some ⟨gc, 0, none⟩) s.cells.length cap) s.cells := by rw [← hW5]; exact (O4.out.other _ _ (by simp; omega)).other _ _ (by simp; omega)
  have z5 : W5.heap.size = w4.heap.size := by rw [← hW5]; simp
  have b5 : Below w.heap.size w W5 := by rw [← hW5]; exact (B4.out.setCell (by simp) _).setCell (by simp) _
  have K5 := Lib.hid k5
  have K51 := Lib.hid k51
  have O5 := Lib.hid o5
  have Z5 := Lib.hid z5
  have B5 := Lib.hid b5
  clear f2 i2 f5 i5 k5 k51 o5 z5 b5 hW5
  rw [HHI.out]
  go_wp2
  go_loopw [10] (fun i wr => EraseRel s.cells (0 : Nat) he w (w.heap.size + 1 + 1) gc cap W5 i wr) (fun i _ => he - (intOf i).toNat)
  case atStart => exact ⟨(0 : Nat), Nat.le_refl _, hlh, rfl, by rw [fillL_none _ _ _ _ (Nat.le_refl _)]; exact O5.out, fun _ _ => rfl, Nat.le_refl _, B5.out⟩
  case round =>
    generalize wr = w6 at *
    obtain ⟨j, hj1, hj2, rfl, ho, hk, hz, hb⟩ := hrel
    have k6 := (hk w.heap.size (by omega)).trans K5.out
    have k61 := (hk (w.heap.size + 1) (by omega)).trans K51.out
    have z6 := hb.size
    have g6 := ho.block.2
    have HO6 := Lib.hid ho
    have HK6 := Lib.hid hk
    have HZ6 := Lib.hid hz
    have HB6 := Lib.hid hb
    have K6 := Lib.hid k6
    have K61 := Lib.hid k61
    clear ho hk hz hb k6 k61
    by_cases hlt : j < he
    · have hjl : j < s.cells.length := by omega
      obtain ⟨c2', i2'⟩ := cellR (w := w6.drew) (v := .slice (some ⟨gc, 0, none⟩) s.cells.length cap) K6.out 2 rfl
      have hO6d : OC w6.drew (w.heap.size + 1 + 1) (.slice (some ⟨gc, 0, none⟩) s.cells.length cap) (fillL s.cells (fun _ => blankC) (0 : Nat) j) := HO6.out
      have HO6d := Lib.hid hO6d
      have hd : w.heap.size < w6.drew.heap.size := by show w.heap.size < w6.heap.size; omega
      clear hO6d
      go_wp2
      go_region_with ((with_reducible refine (blank_any _).mono ?_); rintro e w7 ⟨rfl, hw7⟩; have H7 := Lib.hid (HO6d.out.below hw7); have HW7 := Lib.hid hw7; have z7 := hw7.size; have c27 := (hw7.cell (p := ⟨w.heap.size, 2, none⟩) hd).trans c2'; obtain ⟨q0, q1, q2, s0, s1, s2, t0, t1, t2⟩ := (HO6d.out.below hw7).spot j hjl; clear hw7)
      all_goals
        go_wp2
        go_roundw
        case rel =>
          have z7' : w6.heap.size ≤ w7.heap.size := z7
          refine ⟨j + 1, by omega, by omega, by go_num, ?_, fun b hb => ?_, ?_, below_put (HB6.out.drew.trans (HW7.out.mono (by show w.heap.size ≤ w6.heap.size; omega))) (by omega) _ _ _ _⟩
          · have := H7.out.put j hjl blankC
            rw [fillL_set _ _ _ _ _ hj1 rfl] at this
            exact this
          · rw [heap_setCell_other _ _ _ _ (by simp; omega), heap_setCell_other _ _ _ _ (by simp; omega), heap_setCell_other _ _ _ _ (by simp; omega)]
            exact (HW7.out.block b (by show b < w6.heap.size; omega)).trans (HK6.out b hb)
          · have := HZ6.out
            simp
            omega
        case measure => simp [intOf]; omega
    · obtain rfl : he = j := by omega
      obtain ⟨a1, n1⟩ := cellR (v := .int .i64 s.cols) K6.out 1 rfl
      obtain ⟨a2, n2⟩ := cellR (v := .slice (some ⟨gc, 0, none⟩) s.cells.length cap) K6.out 2 rfl
      obtain ⟨a3, n3⟩ := cellR (v := .int .i64 s.y) K6.out 3 rfl
      have HM6 := Lib.hid HO6.out.cs
      go_upto_region 19 with fail
      ((with_reducible refine (Mend_any _ (fillL s.cells (fun _ => blankC) (0 : Nat) he) s.cols s.y _ HM6.out (by rw [fillL_len]; omega)).mono ?_); rintro e w8 ⟨v8, rfl, o8, b8⟩)
      have z8 := b8.size
      have k8 : w8.heap[w.heap.size]? = _ := (b8.block _ (by omega)).trans K6.out
      have k81 : w8.heap[w.heap.size + 1]? = _ := (b8.block _ (by omega)).trans K61.out
      obtain ⟨f2, i2⟩ := cellR (v := .slice (some ⟨gc, 0, none⟩) s.cells.length cap) k8 2 rfl
      obtain ⟨A8, q8, rfl, p8, r8⟩ := o8.cs.form
      have B8 := Lib.hid (HB6.out.trans (b8.mono (by omega)))
      have O8 := Lib.hid (o8.lower (b2 := w.heap.size + 1 + 1) (by omega))
      have K8 := Lib.hid k8
      have K81 := Lib.hid k81
      clear o8 b8 k8 k81 a1 n1 a2 n2 a3 n3
      go_upto_region 19 with fail
      refine wp_region_lit ?_
      refine wpl_loadS rfl (.tmp 3) rfl rfl ((heap_setCell_same _ _ 2 _ _ _ K8.out).trans rfl) rfl ?_
      refine wpl_storeS rfl (.tmp 6) (.tmp 70) rfl rfl rfl ((heap_setCell_other _ _ _ _ (by simp)).trans K81.out) rfl rfl (all24 rfl rfl rfl rfl rfl rfl rfl rfl rfl rfl rfl rfl rfl rfl rfl rfl rfl rfl rfl rfl rfl rfl rfl rfl) ?_
      go_wp2
      refine scEndC (s0 := s) (w.heap.size + 1) 6 Try.results65 ?_ ?_ ((heap_setCell_other _ _ _ _ (by simp)).trans K81.out) (by omega) (B8.out.setCell (by simp) _) HSS.out HS.out ?_ ?_ ?_ (w.heap.size + 1 + 1) (by omega) O8.out (fun b hb => heap_setCell_other _ _ _ _ (by simp; omega)) (by simp)
      all_goals rfl
set_option maxHeartbeats 2000000 in
set_option maxRecDepth 100000 in
theorem eraser_a2 (v : Value) (s : Sc) (r c : Nat) (S : Nat → Prop) (w : World) (hS : ∀ x, S x → x < w.heap.size) (h : SCV w S v s) (hi : ScIn s r c)    : Calls Try.prog 65 #[v, .bool false, .int .i64 2] w (ScPost S { s with wrap := false, cells := mendL (fillL s.cells (fun _ => blankC) (0 : Nat) s.cells.length) s.cols s.y } w) := by
  have HSS := Lib.hid hS
  clear hS
  obtain ⟨vc, vt, vo, vp, vi, vu, rfl, hs⟩ := h
  have HS := Lib.hid hs
  obtain ⟨g1, g2, g3, g4, g5, g6⟩ := hs
  obtain ⟨A1, kk1, rfl, p1, q1⟩ := g1.form
  obtain ⟨A2, k2, rfl, p2, q2⟩ := g2.form
  obtain ⟨A3, k3, rfl, p3, q3⟩ := g3.form
  obtain ⟨A4, k4, rfl, p4, q4⟩ := g4.form
  obtain ⟨A5, k5, rfl, p5, q5⟩ := g5.form
  obtain ⟨A6, k6, rfl, p6, q6⟩ := g6.form
  clear g1 g2 g3 g4 g5 g6
  have HI := Lib.hid hi
  have y0 := hi.y0
  have y1 := hi.y1
  have x0 := hi.x0
  have x1 := hi.x1
  have hcl := hi.cols
  have hrl := hi.rows
  have c2 := hi.g.c2
  have r2 := hi.g.r2
  have hlen : s.cells.length ≤ 1000000 := by rw [hi.g.n]; exact rc_le hi.g.r2 hi.g.c2
  obtain ⟨yy, hyy⟩ : ∃ yy : Nat, s.y = yy := ⟨s.y.toNat, by omega⟩
  obtain ⟨xx, hxx⟩ : ∃ xx : Nat, s.x = xx := ⟨s.x.toNat, by omega⟩
  have hm : s.y * s.cols = ((yy * c : Nat) : Int) := by rw [hyy, hcl, Int.natCast_mul]
  have hm1 : (s.y + 1) * s.cols = ((yy * c + c : Nat) : Int) := by rw [Int.add_mul, Int.one_mul, hm, hcl]; omega
  have hle : yy * c + c ≤ s.cells.length := by
    rw [hi.g.n]
    have : (yy + 1) * c ≤ r * c := Nat.mul_le_mul_right _ (by omega)
    rw [Nat.add_mul, Nat.one_mul] at this
    exact this
  have hpos : 0 < s.cells.length := by rw [hi.g.n]; exact Nat.mul_pos hi.g.r1 hi.g.c1
  have m0 : 0 ≤ s.y * s.cols := by omega
  have m1 : s.y * s.cols ≤ 1000000 := by omega
  have m2 : 0 ≤ (s.y + 1) * s.cols := by omega
  have m3 : (s.y + 1) * s.cols ≤ 1000000 := by omega
  have c3 : s.cols ≤ 1000 := by omega
  have c4 : s.x < s.cols := by omega
  have HM := Lib.hid hm
  have HM1 := Lib.hid hm1
  have HY := Lib.hid hyy
  have HX := Lib.hid hxx
  have HCL := Lib.hid hcl
  clear hi hcl hrl hm hm1 hyy hxx
  have hlh : (0 : Nat) ≤ s.cells.length := by have := HM.out; have := HM1.out; have := HX.out; have := HCL.out; omega
  have hhl : s.cells.length ≤ s.cells.length := by have := HM.out; have := HM1.out; have := HX.out; have := HCL.out; omega
  have w1 : IntKind.i64.wrap (s.y * s.cols) = s.y * s.cols := IntWalk.i64_in _ (by omega)
  have w2 : IntKind.i64.wrap (s.y + 1) = s.y + 1 := IntWalk.i64_in _ (by omega)
  have w3 : IntKind.i64.wrap ((s.y + 1) * s.cols) = (s.y + 1) * s.cols := IntWalk.i64_in _ (by omega)
  go_enter Try.func65, Try.ntmps65
  go_upto_region 4 with fail
  go_quiet (fail)
  clear w1 w2 w3
  go_upto_region 13 with fail
  generalize hW2 : World.drewN _ _ = W2
  have k0 : W2.heap[w.heap.size]? = some (.cells (vS s (.slice A1 s.cells.length kk1) (.slice A2 s.tabs.length k2) (.slice A3 s.other.length k3) (.slice A4 s.p.params.length k4) (.slice A5 s.p.inter.length k5) (.slice A6 s.p.utf.length k6)) 32) := by rw [← hW2]; exact heap_a1 w _ _
  have k1 : W2.heap[w.heap.size + 1]? = some (.cells #[.int .i64 0, .int .i64 0, .slice none 0 0, .int .i64 0, .int .i64 0, .bool false, .int .u16 0, .int .i64 0, .int .i64 0, .slice none 0 0, .int .i64 0, .int .i64 0, .int .u16 0, .bool false, .bool false, .bool false, .slice none 0 0, .int .i64 0, .int .i64 0, .int .i64 0, .int .u8 0, .slice none 0 0, .slice none 0 0, .slice none 0 0] 32) := by rw [← hW2]; exact heap_a2 w _ _
  have z2 : W2.heap.size = w.heap.size + 1 + 1 := by rw [← hW2]; exact (two_new w _ _).2
  have b2 : Below w.heap.size w W2 := by rw [← hW2]; exact below_drewN (two_new w _ _).1 _
  obtain ⟨d2, e2⟩ := cellR (v := .slice A1 s.cells.length kk1) k0 2 rfl
  have HC := Lib.hid (HS.out.1.cs' HSS.out b2 (Nat.le_refl _))
  have K0 := Lib.hid k0
  have K1 := Lib.hid k1
  have Z2 := Lib.hid z2
  have B2 := Lib.hid b2
  clear k0 k1 z2 b2 hW2
  go_upto_region 14 with fail
  ((with_reducible refine (own_any _ s.cells _ HC.out (by omega)).mono ?_); rintro e w4 ⟨v4, rfl, o4, b4⟩)
  obtain ⟨gc, cap, rfl, hg1, hg2, hg3, hg4⟩ := o4.open_ hpos
  have z4 := b4.size
  rw [Z2.out] at hg1 o4 z4
  have k4 : w4.heap[w.heap.size]? = _ := (b4.block _ (by rw [Z2.out]; omega)).trans K0.out
  have k41 : w4.heap[w.heap.size + 1]? = _ := (b4.block _ (by rw [Z2.out]; omega)).trans K1.out
  obtain ⟨f2, i2⟩ := cellR (v := .slice A1 s.cells.length kk1) k4 2 rfl
  obtain ⟨f5, i5⟩ := cellR (v := .bool s.wrap) k4 5 rfl
  have B4 := Lib.hid (B2.out.trans (b4.mono (by rw [Z2.out]; omega)))
  have O4 := Lib.hid o4
  have K4 := Lib.hid k4
  have K41 := Lib.hid k41
  clear o4 b4 k4 k41 d2 e2
  go_upto_region 14 with fail
  generalize hW5 : World.setCell _ _ _ = W5
  have k5 : W5.heap[w.heap.size]? = some (.cells (vS { s with wrap := false } (.slice (some ⟨gc, 0, none⟩) s.cells.length cap) (.slice A2 s.tabs.length k2) (.slice A3 s.other.length k3) (.slice A4 s.p.params.length k4) (.slice A5 s.p.inter.length k5) (.slice A6 s.p.utf.length k6)) 32) := by rw [← hW5]; exact (heap_setCell_same _ _ 5 _ _ _ ((heap_setCell_same _ _ 2 _ _ _ K4.out).trans rfl)).trans rfl
  have k51 : W5.heap[w.heap.size + 1]? = some (.cells #[.int .i64 0, .int .i64 0, .slice none 0 0, .int .i64 0, .int .i64 0, .bool false, .int .u16 0, .int .i64 0, .int .i64 0, .slice none 0 0, .int .i64 0, .int .i64 0, .int .u16 0, .bool false, .bool false, .bool false, .slice none 0 0, .int .i64 0, .int .i64 0, .int .i64 0, .int .u8 0, .slice none 0 0, .slice none 0 0, .slice none 0 0] 32) := by rw [← hW5]; exact (heap_setCell_other _ _ _ _ (by simp)).trans ((heap_setCell_other _ _ _ _ (by simp)).trans K41.out)
  have o5 : OC W5 (w.heap.size + 1 + 1) (.slice (some ⟨gc, 0, none⟩) s.cells.length cap) s.cells := by rw [← hW5]; exact (O4.out.other _ _ (by simp; omega)).other _ _ (by simp; omega)
  have z5 : W5.heap.size = w4.heap.size := by rw [← hW5]; simp
  have b5 : Below w.heap.size w W5 := by rw [← hW5]; exact (B4.out.setCell (by simp) _).setCell (by simp) _
  have K5 := Lib.hid k5
  have K51 := Lib.hid k51
  have O5 := Lib.hid o5
  have Z5 := Lib.hid z5
  have B5 := Lib.hid b5
  clear f2 i2 f5 i5 k5 k51 o5 z5 b5 hW5
  skip
  go_wp2
  go_loopw [10] (fun i wr => EraseRel s.cells (0 : Nat) s.cells.length w (w.heap.size + 1 + 1) gc cap W5 i wr) (fun i _ => s.cells.length - (intOf i).toNat)
  case atStart => exact ⟨(0 : Nat), Nat.le_refl _, hlh, rfl, by rw [fillL_none _ _ _ _ (Nat.le_refl _)]; exact O5.out, fun _ _ => rfl, Nat.le_refl _, B5.out⟩
  case round =>
    generalize wr = w6 at *
    obtain ⟨j, hj1, hj2, rfl, ho, hk, hz, hb⟩ := hrel
    have k6 := (hk w.heap.size (by omega)).trans K5.out
    have k61 := (hk (w.heap.size + 1) (by omega)).trans K51.out
    have z6 := hb.size
    have g6 := ho.block.2
    have HO6 := Lib.hid ho
    have HK6 := Lib.hid hk
    have HZ6 := Lib.hid hz
    have HB6 := Lib.hid hb
    have K6 := Lib.hid k6
    have K61 := Lib.hid k61
    clear ho hk hz hb k6 k61
    by_cases hlt : j < s.cells.length
    · have hjl : j < s.cells.length := by omega
      obtain ⟨c2', i2'⟩ := cellR (w := w6.drew) (v := .slice (some ⟨gc, 0, none⟩) s.cells.length cap) K6.out 2 rfl
      have hO6d : OC w6.drew (w.heap.size + 1 + 1) (.slice (some ⟨gc, 0, none⟩) s.cells.length cap) (fillL s.cells (fun _ => blankC) (0 : Nat) j) := HO6.out
      have HO6d := Lib.hid hO6d
      have hd : w.heap.size < w6.drew.heap.size := by show w.heap.size < w6.heap.size; omega
      clear hO6d
      go_wp2
      go_region_with ((with_reducible refine (blank_any _).mono ?_); rintro e w7 ⟨rfl, hw7⟩; have H7 := Lib.hid (HO6d.out.below hw7); have HW7 := Lib.hid hw7; have z7 := hw7.size; have c27 := (hw7.cell (p := ⟨w.heap.size, 2, none⟩) hd).trans c2'; obtain ⟨q0, q1, q2, s0, s1, s2, t0, t1, t2⟩ := (HO6d.out.below hw7).spot j hjl; clear hw7)
      all_goals
        go_wp2
        go_roundw
        case rel =>
          have z7' : w6.heap.size ≤ w7.heap.size := z7
          refine ⟨j + 1, by omega, by omega, by go_num, ?_, fun b hb => ?_, ?_, below_put (HB6.out.drew.trans (HW7.out.mono (by show w.heap.size ≤ w6.heap.size; omega))) (by omega) _ _ _ _⟩
          · have := H7.out.put j hjl blankC
            rw [fillL_set _ _ _ _ _ hj1 rfl] at this
            exact this
          · rw [heap_setCell_other _ _ _ _ (by simp; omega), heap_setCell_other _ _ _ _ (by simp; omega), heap_setCell_other _ _ _ _ (by simp; omega)]
            exact (HW7.out.block b (by show b < w6.heap.size; omega)).trans (HK6.out b hb)
          · have := HZ6.out
            simp
            omega
        case measure => simp [intOf]; omega
    · have hje : j = s.cells.length := by omega
      rw [hje] at HO6
      obtain ⟨a1, n1⟩ := cellR (v := .int .i64 s.cols) K6.out 1 rfl
      obtain ⟨a2, n2⟩ := cellR (v := .slice (some ⟨gc, 0, none⟩) s.cells.length cap) K6.out 2 rfl
      obtain ⟨a3, n3⟩ := cellR (v := .int .i64 s.y) K6.out 3 rfl
      have HM6 := Lib.hid HO6.out.cs
      go_upto_region 19 with fail
      ((with_reducible refine (Mend_any _ (fillL s.cells (fun _ => blankC) (0 : Nat) s.cells.length) s.cols s.y _ HM6.out (by rw [fillL_len]; omega)).mono ?_); rintro e w8 ⟨v8, rfl, o8, b8⟩)
      have z8 := b8.size
      have k8 : w8.heap[w.heap.size]? = _ := (b8.block _ (by omega)).trans K6.out
      have k81 : w8.heap[w.heap.size + 1]? = _ := (b8.block _ (by omega)).trans K61.out
      obtain ⟨f2, i2⟩ := cellR (v := .slice (some ⟨gc, 0, none⟩) s.cells.length cap) k8 2 rfl
      obtain ⟨A8, q8, rfl, p8, r8⟩ := o8.cs.form
      have B8 := Lib.hid (HB6.out.trans (b8.mono (by omega)))
      have O8 := Lib.hid (o8.lower (b2 := w.heap.size + 1 + 1) (by omega))
      have K8 := Lib.hid k8
      have K81 := Lib.hid k81
      clear o8 b8 k8 k81 a1 n1 a2 n2 a3 n3
      go_upto_region 19 with fail
      refine wp_region_lit ?_
      refine wpl_loadS rfl (.tmp 3) rfl rfl ((heap_setCell_same _ _ 2 _ _ _ K8.out).trans rfl) rfl ?_
      refine wpl_storeS rfl (.tmp 6) (.tmp 70) rfl rfl rfl ((heap_setCell_other _ _ _ _ (by simp)).trans K81.out) rfl rfl (all24 rfl rfl rfl rfl rfl rfl rfl rfl rfl rfl rfl rfl rfl rfl rfl rfl rfl rfl rfl rfl rfl rfl rfl rfl) ?_
      go_wp2
      refine scEndC (s0 := s) (w.heap.size + 1) 6 Try.results65 ?_ ?_ ((heap_setCell_other _ _ _ _ (by simp)).trans K81.out) (by omega) (B8.out.setCell (by simp) _) HSS.out HS.out ?_ ?_ ?_ (w.heap.size + 1 + 1) (by omega) O8.out (fun b hb => heap_setCell_other _ _ _ _ (by simp; omega)) (by simp)
      all_goals rfl
theorem eraser_any (v : Value) (s : Sc) (row : Bool) (k : Int) (r c : Nat) (S : Nat → Prop) (w : World) (hS : ∀ x, S x → x < w.heap.size) (h : SCV w S v s) (hi : ScIn s r c) (hk : 0 ≤ k) : Calls Try.prog 65 #[v, .bool row, .int .i64 k] w (ScPost S (eraseS s row k) w) := by
  unfold eraseS
  by_cases hb : 2 < k
  · rw [if_pos hb]; exact eraser_big v s r c S w hS h hi row k hb
  rw [if_neg hb]
  have y0 := hi.y0
  have x0 := hi.x0
  have m0 : 0 ≤ s.y * s.cols := Int.mul_nonneg y0 (by rw [hi.cols]; omega)
  have m1 : 0 ≤ (s.y + 1) * s.cols := Int.mul_nonneg (by omega) (by rw [hi.cols]; omega)
  obtain ⟨a, ha⟩ : ∃ a : Nat, s.y * s.cols = a := ⟨(s.y * s.cols).toNat, by omega⟩
  obtain ⟨d, hd⟩ : ∃ d : Nat, (s.y + 1) * s.cols = d := ⟨((s.y + 1) * s.cols).toNat, by omega⟩
  obtain ⟨e, he⟩ : ∃ e : Nat, s.x = e := ⟨s.x.toNat, by omega⟩
  have hk3 : k = 0 ∨ k = 1 ∨ k = 2 := by omega
  cases row with
  | true =>
    rcases hk3 with rfl | rfl | rfl
    · have := eraser_r0 v s r c S w hS h hi (a + e) d (by rw [ha, he]; omega) hd
      simpa [ha, hd, he, ← Int.natCast_add] using this
    · have := eraser_r1 v s r c S w hS h hi a (a + e + 1) ha (by rw [ha, he]; omega)
      simpa [ha, hd, he, ← Int.natCast_add] using this
    · have := eraser_r2 v s r c S w hS h hi a d ha hd
      simpa [ha, hd, he] using this
  | false =>
    rcases hk3 with rfl | rfl | rfl
    · have := eraser_a0 v s r c S w hS h hi (a + e) (by rw [ha, he]; omega)
      simpa [ha, hd, he, ← Int.natCast_add] using this
    · have := eraser_a1 v s r c S w hS h hi (a + e + 1) (by rw [ha, he]; omega)
      simpa [ha, hd, he, ← Int.natCast_add] using this
    · have := eraser_a2 v s r c S w hS h hi
      simpa [ha, hd, he] using this
end Go.Proofs.Ytejemcpkmfhenaa

namespace Go.Proofs.Ytejemcpkmfhenaa
set_option linter.unusedVariables false

theorem blankC_ok : cellB blankC = true := by decide
theorem getC_ok {l : List Cl} (h : ∀ x ∈ l, cellB x = true) (i : Nat) : cellB (getC l i) = true := by
  unfold getC List.getD
  cases hx : l[i]? with
  | none => exact blankC_ok
  | some x => exact h x (List.mem_of_getElem? hx)
theorem fill_ok {l : List Cl} {f : Nat → Cl} {lo hi : Nat} (h : ∀ x ∈ l, cellB x = true) (hf : ∀ i, cellB (f i) = true) : ∀ x ∈ fillL l f lo hi, cellB x = true := by
  intro x hx
  obtain ⟨i, hi2⟩ := List.mem_iff_getElem?.1 hx
  rw [fillL_get] at hi2
  split at hi2
  · split at hi2
    · injection hi2 with e; rw [← e]; exact hf i
    · exact h x (List.mem_of_getElem? hi2)
  · cases hi2
theorem upL_ok {l : List Cl} (h : ∀ x ∈ l, cellB x = true) (cols top bottom n : Int) : ∀ x ∈ upL l cols top bottom n, cellB x = true := by
  unfold upL
  split
  · refine fill_ok h (fun i => ?_)
    unfold upF
    split
    · exact getC_ok h _
    · exact blankC_ok
  · exact h
theorem downL_ok {l : List Cl} (h : ∀ x ∈ l, cellB x = true) (cols top bottom n : Int) : ∀ x ∈ downL l cols top bottom n, cellB x = true := by
  unfold downL
  split
  · refine fill_ok h (fun i => ?_)
    unfold downF
    split
    · exact getC_ok h _
    · exact blankC_ok
  · exact h
theorem mendL_ok {l : List Cl} (h : ∀ x ∈ l, cellB x = true) (cols y : Int) : ∀ x ∈ mendL l cols y, cellB x = true := by
  unfold mendL
  split
  · refine fill_ok h (fun i => ?_)
    unfold mendF
    split
    · exact blankC_ok
    · exact getC_ok h _
  · exact h
theorem insertL_ok {l : List Cl} (h : ∀ x ∈ l, cellB x = true) (cols y x n : Int) : ∀ c ∈ insertL l cols y x n, cellB c = true := by
  unfold insertL
  split
  · refine mendL_ok (fill_ok h (fun i => ?_)) _ _
    unfold insF
    split
    · exact getC_ok h _
    · exact blankC_ok
  · exact h
theorem deleteL_ok {l : List Cl} (h : ∀ x ∈ l, cellB x = true) (cols y x n : Int) : ∀ c ∈ deleteL l cols y x n, cellB c = true := by
  unfold deleteL
  split
  · refine mendL_ok (fill_ok h (fun i => ?_)) _ _
    unfold delF
    split
    · exact getC_ok h _
    · exact blankC_ok
  · exact h
theorem eraseL_ok {l : List Cl} (h : ∀ x ∈ l, cellB x = true) (cols y fr til : Int) : ∀ c ∈ eraseL l cols y fr til, cellB c = true := by
  unfold eraseL
  split
  · exact mendL_ok (fill_ok h (fun i => blankC_ok)) _ _
  · exact h
theorem blankL_ok (rows cols : Int) : ∀ c ∈ blankL rows cols, cellB c = true := by
  unfold blankL
  split
  · intro c hc; rw [List.eq_of_mem_replicate hc]; exact blankC_ok
  · intro c hc; cases hc
theorem ScIn.cells_ {s : Sc} {r c : Nat} (h : ScIn s r c) (l : List Cl) (hl : l.length = s.cells.length) (ho : ∀ x ∈ l, cellB x = true) : ScIn { s with cells := l } r c :=
  { h with g := (by show GOk l.length r c; rw [hl]; exact h.g), cells := ho }
theorem ScIn.noWrap {s : Sc} {r c : Nat} (h : ScIn s r c) : ScIn { s with wrap := false } r c := { h with wrap := (fun e => by cases e) }
theorem ScIn.at_ {s : Sc} {r c : Nat} (h : ScIn s r c) (y x : Int) (y0 : 0 ≤ y) (y1 : y < r) (x0 : 0 ≤ x) (x1 : x < c) : ScIn { s with wrap := false, y := y, x := x } r c :=
  { h with wrap := (fun e => by cases e), y0 := y0, y1 := y1, x0 := x0, x1 := x1 }
theorem downS_in {s : Sc} {r c : Nat} (h : ScIn s r c) : ScIn (downS s) r c := by
  have e1 := h.rows
  have e2 := h.y0
  have e3 := h.y1
  have e4 := h.x0
  have e5 := h.x1
  unfold downS
  split
  · exact h.noWrap.cells_ _ (upL_len _ _ _ _ _) (upL_ok h.cells _ _ _ _)
  · split
    · exact h.at_ (s.y + 1) s.x (by omega) (by omega) e4 e5
    · exact h.noWrap
theorem crS_in {s : Sc} {r c : Nat} (h : ScIn s r c) : ScIn (crS s) r c := by
  have hd := downS_in h
  have hc := hd.g.c1
  unfold crS
  have hw : (downS s).wrap = false := by
    unfold downS
    split
    · rfl
    · split <;> rfl
  exact { hd with wrap := (fun e => by rw [hw] at e; cases e), x0 := (Int.le_refl _), x1 := (by show (0 : Int) < c; omega) }
end Go.Proofs.Ytejemcpkmfhenaa
