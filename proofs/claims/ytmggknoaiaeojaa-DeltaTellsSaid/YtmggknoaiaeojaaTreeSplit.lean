/- What is proved here: a contract of the program's function that puts a node between two others. -/
import Derived.Test.YtmggknoaiaeojaaTreeOps2
namespace Go.Proofs.Ytmggknoaiaeojaa
open Go.RowKit
set_option linter.unusedVariables false

set_option maxHeartbeats 2000000 in
theorem split_any {T : List UInt8} {sv nv : Value} {base tb mb n : Nat} {w : World} {ns : List Nd} {f : Nat → UInt8 → Option Nat} (h : TT T sv base w tb mb nv ns f n) (u v d : Nat) (x : Nd) (hx : ns[v]? = some x) (hT : T.length ≤ 1048576) (hs : x.1 < T.length) (hd : x.1 + d < T.length) (hu : u ≤ 4294967296) (hns2 : ns.length < 4294967296) (hn : n < 4294967296) :
    Calls Try.prog 31 #[.pointer (some ⟨tb, 0, none⟩), .int .i64 (u : Int), .int .i64 (v : Int), .int .i64 (d : Int)] w
      (TreePost (.int .i64 (ns.length : Int)) T sv base w tb mb ((ns ++ [(x.1, x.1 + d, 0)]).set v (x.1 + d, x.2.1, x.2.2)) (updB (updB f u (T[x.1]) ns.length) ns.length (T[x.1 + d]) v) (n + 2)) := by
  have hv : v < ns.length := (List.getElem?_eq_some_iff.1 hx).1
  obtain ⟨A, c, rfl, g1, g2, -⟩ := h.bs.at_
  unfold maxLen at g2
  have HX := Lib.hid hx
  have H := Lib.hid h
  obtain ⟨g, k, cur, rfl, q1, q2, q3, q4, q5⟩ := h.row.open_ (by omega)
  obtain ⟨⟨c0, c1, c2⟩, fr⟩ := h.cells
  obtain ⟨c3, -, -⟩ := h.row.threeAt v x hx
  have hh := hang_any h u x.1 (x.1 + d) hT hs hu (by omega) (by omega) hns2 (by omega)
  have ecast : ((x.1 + d : Nat) : Int) = (x.1 : Int) + (d : Int) := by omega
  rw [ecast] at hh
  clear h hx q5 ecast
  go_enter Try.func31, Try.ntmps31
  go_wp2_with (first
    | (go_at_call 32; refine hh.mono ?_; rintro e w1 ⟨rfl, ⟨nv1, ht1⟩, hb1, hk1⟩
       have hx1 : (ns ++ [(x.1, x.1 + d, 0)])[v]? = some x := by rw [List.getElem?_append_left hv]; exact HX.out
       obtain ⟨G1, k1, cur1, rfl, r1, r2, r3, r4, r5⟩ := ht1.row.open_ (by simp)
       obtain ⟨⟨c0', c1', c2'⟩, -⟩ := ht1.cells
       obtain ⟨c6, -, -⟩ := ht1.row.threeAt v x hx1
       have f6 := ht1.row.frozenAt (v * 3)
       have HP := Lib.hid (ht1.put (g := G1) rfl (ht1.row.put0 v x hx1 (x.1 + d)))
       have HKP := Lib.hid (KeptG.setCell (a := ⟨G1, v * 3, none⟩) r5 (fun xs e => by injection e with _ e2; exact absurd e2 (by decide)) (.int .i64 ((x.1 + d : Nat) : Int)))
       have HB1 := Lib.hid hb1
       have HK1 := Lib.hid hk1
       have hcast : ((x.1 + d : Nat) : Int) = (x.1 : Int) + (d : Int) := by omega
       rw [hcast] at HP HKP
       rw [List.length_append] at r3 HP c1'
       simp only [List.length_cons, List.length_nil] at r3 HP c1'
       clear ht1 hb1 hk1 r5 hcast hx1))
  generalize hW : World.setCell _ _ _ = W at HP HKP ⊢
  have HW := Lib.hid hW
  clear hW c0 c1 c2 fr c3 c0' c1' c2' c6 f6
  obtain ⟨ad, rfl, hc⟩ := HP.out.bs.cellC (x.1 + d) hd
  obtain ⟨⟨c0, c1, c2⟩, -⟩ := HP.out.cells
  have c0' : W.drew.cell? ⟨tb, 0, none⟩ = _ := c0
  have c2' : W.drew.cell? ⟨tb, 2, none⟩ = _ := c2
  have hc' : W.drew.cell? (ad.add (x.1 + d)) = _ := hc
  have hbr := branch_any ns.length (T[x.1 + d]) W.drew (by omega)
  have s1 : (0 : Int) ≤ (x.1 : Int) + (d : Int) := by omega
  have s3 : ((x.1 : Int) + (d : Int)).toNat = x.1 + d := by omega
  have s4 : (x.1 : Int) + (d : Int) < (T.length : Int) := by omega
  have s2 : IntKind.i64.wrap ((x.1 : Int) + (d : Int)) = (x.1 : Int) + (d : Int) := by rw [IntKind.wrap_i64]; omega
  clear c0 c1 c2 hc
  refine wp_region_still_tail 16 (by kernel_rfl) (by kernel_rfl) ?_
  simp only [List.take_succ_cons, List.take_zero, List.drop_succ_cons, List.drop_zero]
  repeat still_step
  still_call hbr
  repeat still_step
  refine wpStill_nil ?_
  refine wpl_upd _ rfl (.tmp 39) (.tmp 50) (.tmp 51) rfl mb (n + 1) ns.length v (T[x.1 + d]) (updB f u (T[x.1]) ns.length) rfl rfl (by go_simp) (show OM W.drew mb (n + 1) (updB f u (T[x.1]) ns.length) from HP.out.map) (by omega) (by omega) (by omega) ?_
  intro w2 hm2 hg2
  go_simp
  go_wp2
  go_ret
  have hgW : W.grownBy w2 (some mb) := ⟨hg2.os, hg2.tape, hg2.output, hg2.size, hg2.block⟩
  have hT2 := HP.out.upd hm2 hgW
  have hb2 : Below base W w2 := (Below.refl _ _).grown hgW HP.out.size (fun k hk => by injection hk with hk; subst hk; exact HP.out.mlo)
  obtain ⟨es, kk, hmo⟩ := HP.out.map.obj
  refine ⟨rfl, ⟨_, hT2⟩, ?_, ?_⟩
  · refine Below.trans ?_ hb2
    rw [← HW.out]
    exact HB1.out.setCell (p := ⟨G1, v * 3, none⟩) r1 _
  · exact HK1.out.trans (HKP.out.trans (KeptG.grown hgW hmo (fun xs e => by cases e)))
end Go.Proofs.Ytmggknoaiaeojaa
