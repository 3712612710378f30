/- What is proved here: contracts of the program's small functions on a suffix tree. -/
import Derived.Test.YtmggknoaiaeojaaTreeWords
import Derived.Laws.BitsLemmas
import Derived.Laws.BitsAllLaws
import Derived.BigQuiet
import Derived.Deep.QuietTactic
import Derived.StillTailTactics
import Derived.Deep.RegionLaw
import Derived.Deep.RegionWith
namespace Go.Proofs.Ytmggknoaiaeojaa
open Go.RowKit
set_option linter.unusedVariables false

theorem or_key (u : Nat) (c : UInt8) (hu : u ≤ 4294967296) : bits .or .u64 ((u : Int) * 256) (c.toNat : Int) = keyI u c := by
  have hc := u8lt c
  have e1 : (u : Int) * 256 = ((u * 256 : Nat) : Int) := by simp
  rw [e1, u64_or_nat _ _ (by omega) (by omega), nat_join 8 _ _ (by omega) (by omega)]
  unfold keyI
  simp
set_option maxHeartbeats 400000 in
theorem branch_any (u : Nat) (c : UInt8) (w : World) (hu : u ≤ 4294967296) : Calls Try.prog 23 #[.int .i64 (u : Int), vB c] w fun e w' => e = .returned (.int .u64 (keyI u c)) ∧ w' = w := by
  have hc := u8lt c
  have HK := Lib.hid (or_key u c hu)
  unfold vB
  go_enter Try.func23, Try.ntmps23
  go_wp2
  go_ret
  exact ⟨by rw [← HK.out]; rfl, rfl⟩

/-- What a call leaves that changes the tree. -/
def TreePost (r : Value) (T : List UInt8) (sv : Value) (base : Nat) (w : World) (tb mb : Nat) (ns : List Nd) (f : Nat → UInt8 → Option Nat) (n : Nat) (e : Ending) (w' : World) : Prop :=
  e = .returned r ∧ (∃ nv, TT T sv base w' tb mb nv ns f n) ∧ Below base w w' ∧ KeptG w w'

theorem vN_cells (w : World) (x : Nd) (t : TypeId) : ∀ j u, (vN x)[j]? = some u → (w.alloc (.cells #[.int .i64 (x.1 : Int), .int .i64 (x.2.1 : Int), .int .i64 (x.2.2 : Int)] t)).cell? ((⟨w.heap.size, 0, none⟩ : Addr).add j) = some u := by
  intro j u hj
  have hblk : (w.alloc (.cells #[.int .i64 (x.1 : Int), .int .i64 (x.2.1 : Int), .int .i64 (x.2.2 : Int)] t)).heap[w.heap.size]? = some (.cells #[.int .i64 (x.1 : Int), .int .i64 (x.2.1 : Int), .int .i64 (x.2.2 : Int)] t) := by
    show (w.heap.push _)[w.heap.size]? = _
    simp
  have e : (⟨w.heap.size, 0, none⟩ : Addr).add j = ⟨w.heap.size, j, none⟩ := by
    unfold Addr.add
    split
    · next h => rw [h]
    · simp
  rw [e, cell_of_row _ _ j _ t _ hblk, ← hj]
  simp [vN]

theorem TT.stays {T : List UInt8} {sv nv : Value} {base tb mb n : Nat} {w w1 : World} {ns : List Nd} {f : Nat → UInt8 → Option Nat} (h : TT T sv base w tb mb nv ns f n) (hg : w.grownBy w1 nv.ownBlock) : w1.heap[tb]? = some (.cells #[sv, nv, .map (some mb)] 59) := by
  refine (hg.block tb (lt_of_heap h.blk) ?_).trans h.blk
  intro e
  exact (h.apart.1 tb e.symm).1 rfl
theorem TT.keptRow {T : List UInt8} {sv nv : Value} {base tb mb n : Nat} {w w1 : World} {ns : List Nd} {f : Nat → UInt8 → Option Nat} (h : TT T sv base w tb mb nv ns f n) (hg : w.grownBy w1 nv.ownBlock) : KeptG w w1 := by
  have hr := h.row
  unfold ON World.ownsRow at hr
  rcases hr.2 with ⟨rfl, hn⟩ | ⟨g', cap, cur, rfl, hbg, hg', -⟩
  · exact fun b xs hb => (hg.block b (lt_of_heap hb) (by simp [Value.ownBlock])).trans hb
  · refine KeptG.grown hg hg' (fun xs e => ?_)
    injection e with _ e2
    exact absurd e2 (by decide)
theorem row_cells {w : World} {tb mb : Nat} {sv nv : Value} (h : w.heap[tb]? = some (.cells #[sv, nv, .map (some mb)] 59)) : w.cell? ⟨tb, 1, none⟩ = some nv ∧ w.frozen? ⟨tb, 1, none⟩ = false := by
  constructor
  · rw [cell_of_row w tb 1 _ _ _ h]; rfl
  · simp [World.frozen?, h]

set_option maxHeartbeats 1000000 in
theorem hang_any {T : List UInt8} {sv nv : Value} {base tb mb n : Nat} {w : World} {ns : List Nd} {f : Nat → UInt8 → Option Nat} (h : TT T sv base w tb mb nv ns f n) (u s e : Nat) (hT : T.length ≤ 1048576) (hs : s < T.length) (hu : u ≤ 4294967296) (he : e ≤ 4294967296) (hns : 0 < ns.length) (hns2 : ns.length < 4294967296) (hn : n ≤ 4294967296) :
    Calls Try.prog 32 #[.pointer (some ⟨tb, 0, none⟩), .int .i64 (u : Int), .int .i64 (s : Int), .int .i64 (e : Int)] w (TreePost (.int .i64 (ns.length : Int)) T sv base w tb mb (ns ++ [(s, e, 0)]) (updB f u (T[s]) ns.length) (n + 1)) := by
  obtain ⟨A, c, rfl, g1, g2, -⟩ := h.bs.at_
  unfold maxLen at g2
  have H := Lib.hid h
  obtain ⟨⟨c0, c1, c2⟩, fr⟩ := h.cells
  have hltb := lt_of_heap h.blk
  clear h
  go_enter Try.func32, Try.ntmps32
  go_wp2_with (first
    | (at_builtin; refine wpl_appN _ rfl (.tmp 14) (.tmp 18) rfl base nv ⟨w.heap.size, 0, none⟩ ns (s, e, 0) rfl rfl (H.out.alloc _).row (vN_cells w (s, e, 0) _) (by omega) (H.out.alloc _).size ?_; intro v1 w1 ho1 hg1 hb1 hat1
       obtain ⟨c3, c4⟩ := row_cells ((H.out.alloc _).stays hg1)
       have H1 := Lib.hid ((H.out.alloc _).grow ho1 hg1 hb1 hat1)
       have HK := Lib.hid hg1
       have HB := Lib.hid hb1
       obtain ⟨g1, k1, cur1, rfl, q1, q2, q3, q4, q5⟩ := ho1.open_ (by simp)
       have HQ := Lib.hid q5
       rw [List.length_append] at q3 H1 ⊢
       simp only [List.length_cons, List.length_nil] at q3 H1 ⊢
       clear ho1 hg1 hb1 hat1 q5))
  generalize hW : World.setCell _ _ _ = W at H1 ⊢
  have HW := Lib.hid hW
  clear hW c0 c1 c2 fr c3 c4
  obtain ⟨ad, rfl, hc⟩ := H1.out.bs.cellC s hs
  obtain ⟨⟨c0, c1, c2⟩, -⟩ := H1.out.cells
  have c0' : W.drew.cell? ⟨tb, 0, none⟩ = _ := c0
  have c2' : W.drew.cell? ⟨tb, 2, none⟩ = _ := c2
  have hc' : W.drew.cell? (ad.add s) = _ := hc
  have hbr := branch_any u (T[s]) W.drew hu
  clear c0 c1 c2 hc
  refine wp_region_still_tail 14 (by kernel_rfl) (by kernel_rfl) ?_
  simp only [List.take_succ_cons, List.take_zero, List.drop_succ_cons, List.drop_zero]
  repeat still_step
  still_call hbr
  repeat still_step
  refine wpStill_nil ?_
  refine wpl_upd _ rfl (.tmp 31) (.tmp 40) (.tmp 41) rfl mb n u ns.length (T[s]) f rfl rfl (by go_simp) (show OM W.drew mb n f from H1.out.map) hn hu (by omega) ?_
  intro w2 hm2 hg2
  go_simp
  go_wp2
  go_ret
  have hgW : W.grownBy w2 (some mb) := ⟨hg2.os, hg2.tape, hg2.output, hg2.size, hg2.block⟩
  have hT2 := H1.out.upd hm2 hgW
  have hb2 : Below base W w2 := (Below.refl _ _).grown hgW H1.out.size (fun k hk => by injection hk with hk; subst hk; exact H1.out.mlo)
  obtain ⟨es, kk, hmo⟩ := H1.out.map.obj
  refine ⟨rfl, ⟨_, hT2⟩, ?_, ?_⟩
  · refine Below.trans ?_ hb2
    rw [← HW.out]
    exact (((Below.refl _ _).alloc H.out.size _).trans HB.out).setCell H.out.tlo _
  · refine KeptG.trans ?_ (KeptG.grown hgW hmo (fun xs e => by cases e))
    rw [← HW.out]
    refine ((KeptG.alloc _ _).trans ((H.out.alloc _).keptRow HK.out)).trans (KeptG.setCell ((H.out.alloc _).stays HK.out) (fun xs e => ?_) _)
    injection e with _ e2
    exact absurd e2 (by decide)
end Go.Proofs.Ytmggknoaiaeojaa
