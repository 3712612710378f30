/- What is proved here: contracts of the program's functions that link nodes, go down, go on to the next end. -/
import Derived.Test.YtmggknoaiaeojaaTreeOps
namespace Go.Proofs.Ytmggknoaiaeojaa
open Go.RowKit
set_option linter.unusedVariables false

/-- The link of node x is y, if x is not the root. -/
def linkN (ns : List Nd) (x y : Nat) : List Nd := if x = 0 then ns else match ns[x]? with | some c => ns.set x (c.1, c.2.1, y) | none => ns
theorem linkN_zero (ns : List Nd) (y : Nat) : linkN ns 0 y = ns := rfl
theorem linkN_some (ns : List Nd) (x y : Nat) (c : Nd) (h0 : x ≠ 0) (hc : ns[x]? = some c) : linkN ns x y = ns.set x (c.1, c.2.1, y) := by
  unfold linkN
  rw [if_neg h0, hc]

theorem TT.drew {T : List UInt8} {sv nv : Value} {base tb mb n : Nat} {w : World} {ns : List Nd} {f : Nat → UInt8 → Option Nat} (h : TT T sv base w tb mb nv ns f n) : TT T sv base w.drew tb mb nv ns f n := h.below (Below.drew (Below.refl _ _))
section
variable {T : List UInt8} {sv nv : Value} {base tb mb n : Nat} {w : World} {ns : List Nd} {f : Nat → UInt8 → Option Nat}
set_option maxHeartbeats 1000000 in
theorem connect_any (h : TT T sv base w tb mb nv ns f n) (x y : Nat) (hx : x < ns.length) (hns : ns.length ≤ 4294967296) (hy : y ≤ 4294967296) :
    Calls Try.prog 30 #[.pointer (some ⟨tb, 0, none⟩), .int .i64 (x : Int), .int .i64 (y : Int)] w (TreePost (.tuple #[]) T sv base w tb mb (linkN ns x y) f n) := by
  by_cases h0 : x = 0
  · subst h0
    go_enter Try.func30, Try.ntmps30
    go_wp2
    go_end0
    exact ⟨rfl, ⟨_, h⟩, Below.refl _ _, KeptG.refl _⟩
  · obtain ⟨g, k, cur, rfl, q1, q2, q3, q4, q5⟩ := h.row.open_ (by omega)
    obtain ⟨c, hc⟩ : ∃ c, ns[x]? = some c := ⟨_, List.getElem?_eq_getElem hx⟩
    have HL := Lib.hid (linkN_some ns x y c h0 hc)
    obtain ⟨-, -, c5⟩ := h.row.threeAt x c hc
    have f5 := h.row.frozenAt (x * 3 + 2)
    obtain ⟨⟨c0, c1, c2⟩, fr⟩ := h.cells
    have HP := Lib.hid (h.put (g := g) rfl (h.row.put2 x c hc y))
    have HK := Lib.hid (KeptG.setCell (a := ⟨g, x * 3 + 2, none⟩) q5 (fun xs e => by injection e with _ e2; exact absurd e2 (by decide)) (.int .i64 (y : Int)))
    have d0 : ((x : Int) != 0) = true := by simp; omega
    clear h hc q5
    go_enter Try.func30, Try.ntmps30
    go_wp2
    go_end0
    refine ⟨rfl, ⟨.slice (some ⟨g, 0, none⟩) ns.length k, ?_⟩, ?_, HK.out⟩
    · rw [HL.out]; exact HP.out
    · exact Below.setCell (Below.refl base w) (p := ⟨g, x * 3 + 2, none⟩) q1 _

/-- What 'descend' leaves. -/
def DescPost (T : List UInt8) (sv : Value) (base : Nat) (w : World) (tb mb : Nat) (nv : Value) (ns : List Nd) (f : Nat → UInt8 → Option Nat) (n gb : Nat) (a b c d : Int) (way : Int) (v : Nat) (e : Ending) (w' : World) : Prop :=
  TT T sv base w' tb mb nv ns f n ∧ Below base w w' ∧ ((d < way ∧ e = .returned (.bool false) ∧ GV w' gb a b c d) ∨ (way ≤ d ∧ e = .returned (.bool true) ∧ GV w' gb a (v : Int) (c + way) (d - way)))

set_option maxHeartbeats 1000000 in
theorem descend_any (h : TT T sv base w tb mb nv ns f n) {gb : Nat} {a b c d : Int} (hg : GV w gb a b c d) (hgb : base ≤ gb) (v : Nat) (x : Nd) (hx : ns[v]? = some x) (hns : ns.length ≤ 4294967296) (h1 : x.1 ≤ 4294967296) (h2 : x.2.1 ≤ 4294967296) (hc0 : 0 ≤ c) (hc1 : c ≤ 4294967296) (hd0 : 0 ≤ d) (hd1 : d ≤ 4294967296) :
    Calls Try.prog 29 #[.pointer (some ⟨gb, 0, none⟩), .pointer (some ⟨tb, 0, none⟩), .int .i64 (v : Int)] w (DescPost T sv base w tb mb nv ns f n gb a b c d ((x.2.1 : Int) - (x.1 : Int)) v) := by
  have hv : v < ns.length := (List.getElem?_eq_some_iff.1 hx).1
  obtain ⟨g, k, cur, rfl, q1, q2, q3, q4, q5⟩ := h.row.open_ (by omega)
  obtain ⟨c3, c4, c5⟩ := h.row.threeAt v x hx
  obtain ⟨⟨c0, c1, c2⟩, fr⟩ := h.cells
  obtain ⟨⟨e0, e1, e2, e3⟩, fg⟩ := hg.cells
  have ltb := lt_of_heap h.blk
  have lgb := lt_of_heap hg
  have HT := Lib.hid h
  have HG := Lib.hid hg
  clear h hg hx
  have f0 := fg 0
  have f1 := fg 1
  have f2 := fg 2
  have f3 := fg 3
  clear fg
  by_cases hlt : d < (x.2.1 : Int) - (x.1 : Int)
  · have dd : decide (d < (x.2.1 : Int) - (x.1 : Int)) = true := by simpa using hlt
    go_enter Try.func29, Try.ntmps29
    go_wp2
    go_ret
    exact ⟨HT.out.alloc _, (Below.refl base w).alloc HT.out.size _, .inl ⟨hlt, rfl, HG.out.kept (KeptG.alloc _ _)⟩⟩
  · have dd : decide (d < (x.2.1 : Int) - (x.1 : Int)) = false := by simpa using hlt
    go_enter Try.func29, Try.ntmps29
    go_wp2
    go_ret
    have g1 := HG.out.set1 (v : Int)
    have g2 := g1.set2 (c + ((x.2.1 : Int) - (x.1 : Int)))
    have g3 := g2.set3 (d - ((x.2.1 : Int) - (x.1 : Int)))
    refine ⟨(((HT.out.far HG.out hgb).far g1 hgb).far g2 hgb).alloc _, ?_, .inr ⟨by omega, rfl, g3.kept (KeptG.alloc _ _)⟩⟩
    refine Below.alloc ?_ (by simp; exact HT.out.size) _
    exact (((Below.refl base w).setCell (p := ⟨gb, 1, none⟩) hgb _).setCell (p := ⟨gb, 2, none⟩) hgb _).setCell (p := ⟨gb, 3, none⟩) hgb _

/-- What 'shorten' leaves. -/
def ShortPost (T : List UInt8) (sv : Value) (base : Nat) (w : World) (tb mb : Nat) (nv : Value) (ns : List Nd) (f : Nat → UInt8 → Option Nat) (n gb : Nat) (a b c d p : Int) (l : Nat) (e : Ending) (w' : World) : Prop :=
  e = .returned (.tuple #[]) ∧ TT T sv base w' tb mb nv ns f n ∧ Below base w w' ∧ ((b = 0 ∧ 0 < d ∧ GV w' gb (a - 1) b (p - (a - 1) + 1) (d - 1)) ∨ (¬ (b = 0 ∧ 0 < d) ∧ GV w' gb (a - 1) (l : Int) c d))

set_option maxHeartbeats 2000000 in
theorem shorten_any (h : TT T sv base w tb mb nv ns f n) {gb b : Nat} {a c d p : Int} (hg : GV w gb a (b : Int) c d) (hgb : base ≤ gb) (x : Nd) (hx : ns[b]? = some x) (hns : ns.length ≤ 4294967296) (ha0 : 0 < a) (ha1 : a ≤ 4294967296) (hd0 : 0 ≤ d) (hd1 : d ≤ 4294967296) (hp0 : 0 ≤ p) (hp1 : p ≤ 4294967296) :
    Calls Try.prog 33 #[.pointer (some ⟨gb, 0, none⟩), .pointer (some ⟨tb, 0, none⟩), .int .i64 p] w (ShortPost T sv base w tb mb nv ns f n gb a (b : Int) c d p x.2.2) := by
  have hv : b < ns.length := (List.getElem?_eq_some_iff.1 hx).1
  have HX := Lib.hid hx
  have HT := Lib.hid h
  have HG := Lib.hid hg
  obtain ⟨g, k, cur, rfl, q1, q2, q3, q4, q5⟩ := h.row.open_ (by omega)
  obtain ⟨⟨e0, e1, e2, e3⟩, fg⟩ := hg.cells
  have f0 := fg 0
  have f1 := fg 1
  have f2 := fg 2
  have f3 := fg 3
  clear fg
  by_cases hb : b = 0
  · subst hb
    by_cases hd : 0 < d
    · have dd : decide (0 < d) = true := by simpa using hd
      clear h hg hx q5
      go_enter Try.func33, Try.ntmps33
      go_wp2
      go_end0
      have g1 := HG.out.set0 (a - 1)
      have g2 := g1.set3 (d - 1)
      have g3 := g2.set2 (p - (a - 1) + 1)
      refine ⟨rfl, ((HT.out.far HG.out hgb).far g1 hgb).far g2 hgb, ?_, .inl ⟨rfl, hd, g3⟩⟩
      exact (((Below.refl base w).setCell (p := ⟨gb, 0, none⟩) hgb _).setCell (p := ⟨gb, 3, none⟩) hgb _).setCell (p := ⟨gb, 2, none⟩) hgb _
    · have dd : decide (0 < d) = false := by simpa using hd
      clear h hg hx q5
      go_enter Try.func33, Try.ntmps33
      go_wp2
      have HT1 := Lib.hid (HT.out.far (o := 0) (x := .int .i64 (a - 1)) HG.out hgb)
      have HG1 := Lib.hid (HG.out.set0 (a - 1))
      have HB1 := Lib.hid ((Below.refl base w).setCell (p := ⟨gb, 0, none⟩) hgb (.int .i64 (a - 1)))
      clear e0 e1 e2 e3 f0 f1 f2 f3
      generalize World.setCell _ _ _ = W at HT1 HG1 HB1 ⊢
      have HBD := Lib.hid (Below.drew (Below.refl W.heap.size W))
      generalize hD : W.drew = D at HBD
      have HD := Lib.hid hD
      clear hD
      obtain ⟨⟨e0, e1, e2, e3⟩, fg⟩ := (HG1.out.kept (KeptG.below HBD.out)).cells
      obtain ⟨⟨c0, c1, c2⟩, -⟩ := (HT1.out.below HBD.out).cells
      obtain ⟨-, -, c5⟩ := (HT1.out.below HBD.out).row.threeAt 0 x HX.out
      have f1 := fg 1
      rw [← HD.out] at e0 e1 e2 e3 c0 c1 c2 c5 f1
      clear fg
      go_still_tail 14, (by kernel_rfl)
      go_wp2
      go_end0
      have g2 := HG1.out.set1 (x.2.2 : Int)
      refine ⟨rfl, (HT1.out.far HG1.out hgb).drew, ?_, .inr ⟨fun e => by have := e.2; omega, g2⟩⟩
      exact (HB1.out.setCell (p := ⟨gb, 1, none⟩) hgb _).drew
  · have d0 : ((b : Int) == 0) = false := beq_eq_false_iff_ne.2 (by omega)
    clear h hg hx q5
    go_enter Try.func33, Try.ntmps33
    go_wp2
    have HT1 := Lib.hid (HT.out.far (o := 0) (x := .int .i64 (a - 1)) HG.out hgb)
    have HG1 := Lib.hid (HG.out.set0 (a - 1))
    have HB1 := Lib.hid ((Below.refl base w).setCell (p := ⟨gb, 0, none⟩) hgb (.int .i64 (a - 1)))
    clear e0 e1 e2 e3 f0 f1 f2 f3
    generalize World.setCell _ _ _ = W at HT1 HG1 HB1 ⊢
    have HBD := Lib.hid (Below.drew (Below.refl W.heap.size W))
    generalize hD : W.drew = D at HBD
    have HD := Lib.hid hD
    clear hD
    obtain ⟨⟨e0, e1, e2, e3⟩, fg⟩ := (HG1.out.kept (KeptG.below HBD.out)).cells
    obtain ⟨⟨c0, c1, c2⟩, -⟩ := (HT1.out.below HBD.out).cells
    obtain ⟨-, -, c5⟩ := (HT1.out.below HBD.out).row.threeAt b x HX.out
    have f1 := fg 1
    rw [← HD.out] at e0 e1 e2 e3 c0 c1 c2 c5 f1
    clear fg
    go_still_tail 14, (by kernel_rfl)
    go_wp2
    go_end0
    have g2 := HG1.out.set1 (x.2.2 : Int)
    refine ⟨rfl, (HT1.out.far HG1.out hgb).drew, ?_, .inr ⟨fun e => hb (by omega), g2⟩⟩
    exact (HB1.out.setCell (p := ⟨gb, 1, none⟩) hgb _).drew
end
end Go.Proofs.Ytmggknoaiaeojaa
