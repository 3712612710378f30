/- What is proved here: contracts of the program's functions that make a delta: in new memory. -/
import Derived.Test.YtmggknoaiaeojaaTreeLong
import Derived.Test.YtmggknoaiaeojaaDeltaTwist
namespace Go.Proofs.Ytmggknoaiaeojaa
open Go.RowKit
set_option linter.unusedVariables false

section
variable {T : List UInt8} {sv nv v : Value} {base tb mb n : Nat} {w w' : World} {ns : List Nd} {f : Nat → UInt8 → Option Nat} {l : List UInt8}
/-- The tree stays what it is while a row of bytes grows. -/
theorem TT.keptB (h : TT T sv base w tb mb nv ns f n) (ho : OB w base v l) (hg : w.grownBy w' v.ownBlock) (hb : Below base w w') : TT T sv base w' tb mb nv ns f n := by
  have hr := ho
  unfold OB World.ownsRow at hr
  rcases hr.2 with ⟨rfl, hn⟩ | ⟨g, cap, cur, rfl, hbg, hg', -⟩
  · exact h.below ⟨hb.os, hb.tape, hb.output, hb.size, fun i hi => hg.block i hi (by simp [Value.ownBlock])⟩
  · have hne : ∀ {x : Nat} {o : Obj}, w.heap[x]? = some o → (∀ cs, o ≠ .cells cs 5) → some x ≠ some g := by
      intro x o hx ho2 e
      injection e with e
      subst e
      rw [hx] at hg'
      injection hg' with hg'
      exact ho2 _ hg'
    obtain ⟨es, k, hm⟩ := h.map.obj
    have t1 : (some tb : Option Nat) ≠ some g := hne h.blk (fun cs e => by injection e with _ e2; exact absurd e2 (by decide))
    have t2 : (some mb : Option Nat) ≠ some g := hne hm (fun cs e => by cases e)
    refine ⟨h.bs.below hb, (hg.block tb (lt_of_heap h.blk) t1).trans h.blk, h.row.kept hg ?_, h.map.kept hg t2, h.tlo, h.mlo⟩
    have hr2 := h.row
    unfold ON World.ownsRow at hr2
    rcases hr2.2 with ⟨rfl, hn⟩ | ⟨g2, cap2, cur2, rfl, hbg2, hg2, -⟩
    · exact .inl rfl
    · exact .inr (hne hg2 (fun cs e => by injection e with _ e2; exact absurd e2 (by decide)))
theorem Grown.keptB (h : Grown T sv base tb w) (ho : OB w base v l) (hg : w.grownBy w' v.ownBlock) (hb : Below base w w') : Grown T sv base tb w' := by
  obtain ⟨mb, nv, t, n, k, u, h1, h2⟩ := h
  exact ⟨mb, nv, t, n, k, u, h1.keptB ho hg hb, h2⟩
end

set_option maxHeartbeats 400000 in
theorem bytesPart_any (v : Value) (l : List UInt8) (w : World) (hv : BS w w.heap.size v l) (hl : l.length ≤ 1099511627000) : Calls Try.prog 15 #[v] w (RowPost (litL l) w) := by
  have HV := Lib.hid hv
  obtain ⟨A, c, rfl, g1, g2, -⟩ := hv.at_
  unfold maxLen at g2
  clear hv
  by_cases h0 : l.length = 0
  · have HL := Lib.hid (litL_nil h0)
    have d1 : ((l.length : Int) == 0) = true := by rw [h0]; rfl
    go_enter Try.func15, Try.ntmps15
    go_wp2
    go_ret
    exact ⟨_, rfl, by rw [HL.out]; exact OB.nil _ _, Below.refl _ _⟩
  · have HL := Lib.hid (litL_some (l := l) (by omega))
    have d1 : ((l.length : Int) == 0) = false := beq_eq_false_iff_ne.2 (by omega)
    clear h0
    have hput := put_any ((l.length : Int) * 2) (by omega) (by omega) w
    go_enter Try.func15, Try.ntmps15
    go_wp2_with (first
      | (go_at_call 25; refine hput.mono ?_; rintro e w1 ⟨v1, rfl, hown, hbel⟩; have hz := hbel.size; rw [show ((l.length : Int) * 2).toNat = 2 * l.length by omega] at hown; have hln := (lebP_length (2 * l.length)).2; have HV1 := Lib.hid (HV.out.below hbel))
      | (at_builtin; refine wpl_app _ rfl (.tmp 10) (.tmp 11) rfl w.heap.size _ _ _ _ l rfl rfl hown HV1.out (by omega) hz ?_; intro v2 w2 hown2 hg2 hbel2 _))
    go_ret
    exact ⟨_, rfl, by rw [HL.out]; exact hown2, hbel.trans hbel2⟩

theorem or_one (n : Nat) (h : n ≤ 1099511627776) : bits .or .u64 ((n : Int) * 2) 1 = (n : Int) * 2 + 1 := by
  have e1 : (n : Int) * 2 = ((n * 2 : Nat) : Int) := by simp
  have e2 : (1 : Int) = ((1 : Nat) : Int) := rfl
  rw [e1, e2, u64_or_nat _ _ (by omega) (by omega), nat_join 1 _ _ (by omega) (by omega)]
  simp
set_option maxHeartbeats 400000 in
theorem oldPart_any (a n : Nat) (w : World) (ha : a ≤ 1099511627000) (hn : n ≤ 1099511627000) : Calls Try.prog 16 #[.int .i64 (a : Int), .int .i64 (n : Int)] w (RowPost (lebP (2 * n + 1) ++ lebP a) w) := by
  have hor := or_one n (by omega)
  have hput := put_any ((n : Int) * 2 + 1) (by omega) (by omega) w
  have hln1 := (lebP_length (2 * n + 1)).2
  have hln2 := (lebP_length a).2
  go_enter Try.func16, Try.ntmps16
  go_wp2_with (first
    | (go_at_call 25; (with_reducible refine hput.mono ?_); rintro e w1 ⟨v1, rfl, hown, hbel⟩; have hz := hbel.size; rw [show ((n : Int) * 2 + 1).toNat = 2 * n + 1 by omega] at hown; have hput2 := put_any (a : Int) (by omega) (by omega) w1)
    | (go_at_call 25; (with_reducible refine hput2.mono ?_); rintro e w2 ⟨v2, rfl, hown2, hbel2⟩; have hz2 := hbel2.size; rw [show ((a : Int)).toNat = a by omega] at hown2)
    | (at_builtin; refine wpl_app _ rfl (.tmp 9) (.tmp 12) rfl w.heap.size _ _ _ _ (lebP a) rfl rfl (hown.below hbel2) hown2.bs (by omega) (by omega) ?_; intro v3 w3 hown3 hg3 hbel3 _))
  go_ret
  exact ⟨_, rfl, hown3, (hbel.trans (hbel2.mono hz)).trans hbel3⟩
end Go.Proofs.Ytmggknoaiaeojaa
