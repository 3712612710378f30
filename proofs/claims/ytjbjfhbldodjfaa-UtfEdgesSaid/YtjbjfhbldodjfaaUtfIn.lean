/- What is proved here: a contract of the program's inner step (a byte behind what is pending, the runes behind those that are there): both in rows of the caller's own. -/
import Derived.Test.YtjbjfhbldodjfaaUtfRune
import Derived.Lib.OwnKind
import Derived.Deep.RegionLaw
namespace Go.Proofs.Ytjbjfhbldodjfaa
open Go.RowKit
set_option linter.unusedVariables false

/-- A row of bytes and a row of runes are never one. -/
theorem ob_or {w : World} {B1 B2 : Nat} {v1 v2 : Value} {l1 : List UInt8} {l2 : List Int} (h1 : OB w B1 v1 l1) (h2 : OR w B2 v2 l2) : (v2.ownBlock = none ∨ v2.ownBlock ≠ v1.ownBlock) := by
  cases e : v2.ownBlock with
  | none => exact .inl rfl
  | some g =>
    refine .inr fun e2 => ?_
    obtain ⟨c2, f2, hh2⟩ := Lib.ownsRow_kind h2 g e
    obtain ⟨c1, f1, hh1⟩ := Lib.ownsRow_kind h1 g e2.symm
    rw [hh1] at hh2
    injection hh2 with hh2
    injection hh2 with _ hh2 _
    exact absurd hh2 (by decide)
theorem or_ob {w : World} {B1 B2 : Nat} {v1 v2 : Value} {l1 : List UInt8} {l2 : List Int} (h1 : OB w B1 v1 l1) (h2 : OR w B2 v2 l2) (g : Nat) (hg : v2.ownBlock = some g) : v1.ownBlock ≠ some g := by
  intro e
  rcases ob_or h1 h2 with h | h
  · rw [h] at hg; cases hg
  · rw [hg, e] at h; exact h rfl
theorem OR.keptB {w w' : World} {B1 B2 : Nat} {v1 v2 : Value} {l1 : List UInt8} {l2 : List Int} (h2 : OR w B2 v2 l2) (h1 : OB w B1 v1 l1) (hg : w.grownBy w' v1.ownBlock) : OR w' B2 v2 l2 := World.ownsRow.kept h2 hg (ob_or h1 h2)
theorem OB.keptR {w w' : World} {B1 B2 : Nat} {v1 v2 : Value} {l1 : List UInt8} {l2 : List Int} (h1 : OB w B1 v1 l1) (h2 : OR w B2 v2 l2) (hg : w.grownBy w' v2.ownBlock) : OB w' B1 v1 l1 := by
  refine World.ownsRow.kept h1 hg ?_
  rcases ob_or h1 h2 with h | h
  · cases e : v1.ownBlock with
    | none => exact .inl rfl
    | some g => exact .inr (by rw [h]; simp)
  · exact .inr h.symm
theorem OB.cut0 {w : World} {base g n cap : Nat} {l : List UInt8} (h : OB w base (.slice (some ⟨g, 0, none⟩) n cap) l) : OB w base (.slice (some ⟨g, 0, none⟩) 0 cap) [] := by
  unfold OB at h ⊢
  rcases h.2 with ⟨hv, _⟩ | ⟨g', cap', cur, hv, hb, hg, hnc, hcm, hcs, htake⟩
  · cases hv
  · simp only [Value.slice.injEq, Option.some.injEq, Addr.mk.injEq] at hv
    obtain ⟨⟨rfl, _⟩, _, rfl⟩ := hv
    exact ⟨by simp [vBs], .inr ⟨_, _, cur, rfl, hb, hg, by simp, hcm, hcs, by simp [vBs]⟩⟩
theorem OB.formed {w : World} {base : Nat} {v : Value} {l : List UInt8} (h : OB w base v l) (hl : 0 < l.length) : ∃ g cap, v = .slice (some ⟨g, 0, none⟩) l.length cap ∧ cap ≤ 9223372036854775807 := by
  unfold OB at h
  rcases h.2 with ⟨hv, h0⟩ | ⟨g', cap', cur, hv, hb, hg, hnc, hcm, hcs, htake⟩
  · omega
  · unfold maxLen at hcm
    exact ⟨g', cap', hv, by omega⟩

/-- append of runes at a step of a region that draws. -/
theorem step_appR {ops : Array Oper} {o : Oper} {a : Act} {w : World} {K : Act → World → Prop} {Q : Exit → Act → World → Prop} {E : Prop} (hgd : o.guard = none) (s x : Operand)
    (ho : o.op = .call { callee := .builtin .append, args := #[s, x], argTypes := #[26, 26] })
    (base B : Nat) (v u : Value) (l m : List Int) (hs : a.eval s = v) (hx : a.eval x = u) (hown : OR w base v l) (hr : RS w B u m) (hlen : l.length + m.length ≤ 1099511627776) (hbase : base ≤ w.heap.size)
    (h : ∀ v' w', OR w' base v' (l ++ m) → w.grownBy w' v.ownBlock → Below base w w' → K (a.put o.dst v') w') :
    if Region.wanted o (yielded ops a.tmps) = true then Oper.wp Try.prog o a w K Q else E := by
  have hw : Region.wanted o (yielded ops a.tmps) = true := by simp [Region.wanted, hgd]
  rw [if_pos hw]
  obtain ⟨v', w', hrun, h2, h3, h4, h5⟩ := run_appR w o.type hown hr hlen hbase
  unfold Oper.wp execOp
  simp only [ho, resolve, invoke, builtin, Sem.run_bind, Sem.run_pure, Result.andThen_ok, List.map_toArray, List.map_cons, List.map_nil, hs, hx, hrun]
  exact h v' w' h2 h3 h4

def InPost (base : Nat) (p : List UInt8) (b : UInt8) (m : List Int) (w : World) (e : Ending) (w' : World) : Prop :=
  ∃ v1 v2, e = .returned (.tuple #[v1, v2]) ∧ OB w' base v1 (stepL p b).1 ∧ OR w' base v2 (m ++ ints (stepL p b).2) ∧ Below base w w'
theorem inPost_of {base : Nat} {p : List UInt8} {b : UInt8} {m : List Int} {w w' : World} {v1 v2 : Value} {q : List UInt8} {o : List Nat} {mo : List Int} (h : stepL p b = (q, o)) (hm : mo = m ++ ints o) (h1 : OB w' base v1 q) (h2 : OR w' base v2 mo) (h3 : Below base w w') :
    InPost base p b m w (.returned (.tuple #[v1, v2])) w' := ⟨v1, v2, rfl, by rw [h]; exact h1, by rw [h, ← hm]; exact h2, h3⟩

set_option maxHeartbeats 1000000 in
set_option maxRecDepth 100000 in
/-- What is joined begins. -/
theorem in_a1 (v o : Value) (p q : List UInt8) (b : UInt8) (m : List Int) (base : Nat) (w : World) (hv : OB w base v p) (ho : OR w base o m) (hbase : base ≤ w.heap.size) (hpl : p.length ≤ 3) (hml : m.length ≤ 1099511627000)
    (hq : p ++ [b] = q) (hf : fitsL q = true) (hb : beginsL q = true) (hs : stepL p b = (q, [])) :
    Calls Try.prog 20 #[v, .int .u8 (b.toNat : Int), o] w (InPost base p b m w) := by
  have HS := Lib.hid hs
  have HB := Lib.hid hb
  have HF := Lib.hid hf
  have HQ := Lib.hid hq
  have HV := Lib.hid hv
  have HO := Lib.hid ho
  have hq0 : 0 < q.length := by rw [← hq]; simp
  clear hs hb hf hq hv ho
  by_cases h1 : q.length = 1
  · have d1 : decide ((1 : Int) < (q.length : Int)) = false := by simp; omega
    clear h1
    go_enter Try.func20, Try.ntmps20
    go_wp2_with (first
      | (at_builtin; refine wpl_app _ rfl (.tmp 9) (.tmp 11) rfl base _ _ _ p [b] rfl rfl (HV.out.alloc _) (BS.one w b _) (by simp; omega) (by simp; omega) ?_; intro v1 w1 hown1 hg1 hbel1 _; rw [HQ.out] at hown1; have ho1 := (HO.out.alloc _).keptB (HV.out.alloc _) hg1; obtain ⟨g, cap, rfl, hcap⟩ := hown1.formed hq0; have hb1 := ((Below.refl base w).alloc hbase _).trans hbel1; have hz1 := hb1.size; clear hg1 hbel1)
      | (go_at_call 22; (with_reducible refine (fits_any _ q _ _ hown1.bs).mono ?_); rintro e w' ⟨rfl, rfl⟩; rw [HF.out])
      | (go_at_call 14; (with_reducible refine (begins_any _ q _ _ hown1.bs).mono ?_); rintro e w' ⟨rfl, rfl⟩; rw [HB.out]))
    go_ret2
    exact inPost_of HS.out (by simp [ints]) hown1 ho1 hb1
  · have d1 : (1 : Int) < (q.length : Int) := by omega
    clear h1
    go_enter Try.func20, Try.ntmps20
    go_wp2_with (first
      | (at_builtin; refine wpl_app _ rfl (.tmp 9) (.tmp 11) rfl base _ _ _ p [b] rfl rfl (HV.out.alloc _) (BS.one w b _) (by simp; omega) (by simp; omega) ?_; intro v1 w1 hown1 hg1 hbel1 _; rw [HQ.out] at hown1; have ho1 := (HO.out.alloc _).keptB (HV.out.alloc _) hg1; obtain ⟨g, cap, rfl, hcap⟩ := hown1.formed hq0; have hb1 := ((Below.refl base w).alloc hbase _).trans hbel1; have hz1 := hb1.size; clear hg1 hbel1)
      | (go_at_call 22; (with_reducible refine (fits_any _ q _ _ hown1.bs).mono ?_); rintro e w' ⟨rfl, rfl⟩; rw [HF.out])
      | (go_at_call 14; (with_reducible refine (begins_any _ q _ _ hown1.bs).mono ?_); rintro e w' ⟨rfl, rfl⟩; rw [HB.out]))
    go_ret2
    exact inPost_of HS.out (by simp [ints]) hown1 ho1 hb1
set_option maxHeartbeats 1000000 in
set_option maxRecDepth 100000 in
/-- What is joined is a form. -/
theorem in_a2 (v o : Value) (p q : List UInt8) (b : UInt8) (m : List Int) (base : Nat) (w : World) (hv : OB w base v p) (ho : OR w base o m) (hbase : base ≤ w.heap.size) (hpl : p.length ≤ 3) (hml : m.length ≤ 1099511627000)
    (hq : p ++ [b] = q) (hf : fitsL q = true) (hb : beginsL q = false) (r : Nat) (hw : wholeL q = some r) (hs : stepL p b = ([], [r])) :
    Calls Try.prog 20 #[v, .int .u8 (b.toNat : Int), o] w (InPost base p b m w) := by
  have HS := Lib.hid hs
  have HB := Lib.hid hb
  have HF := Lib.hid hf
  have HQ := Lib.hid hq
  have HV := Lib.hid hv
  have HO := Lib.hid ho
  have hq0 : 0 < q.length := by rw [← hq]; simp
  clear hs hb hf hq hv ho
  have HW := Lib.hid hw
  clear hw
  by_cases h1 : q.length = 1
  · have d1 : decide ((1 : Int) < (q.length : Int)) = false := by simp; omega
    clear h1
    go_enter Try.func20, Try.ntmps20
    go_wp2_with (first
      | (at_builtin; refine wpl_app _ rfl (.tmp 9) (.tmp 11) rfl base _ _ _ p [b] rfl rfl (HV.out.alloc _) (BS.one w b _) (by simp; omega) (by simp; omega) ?_; intro v1 w1 hown1 hg1 hbel1 _; rw [HQ.out] at hown1; have ho1 := (HO.out.alloc _).keptB (HV.out.alloc _) hg1; obtain ⟨g, cap, rfl, hcap⟩ := hown1.formed hq0; have hb1 := ((Below.refl base w).alloc hbase _).trans hbel1; have hz1 := hb1.size; clear hg1 hbel1)
      | (go_at_call 22; (with_reducible refine (fits_any _ q _ _ hown1.bs).mono ?_); rintro e w' ⟨rfl, rfl⟩; rw [HF.out])
      | (go_at_call 14; (with_reducible refine (begins_any _ q _ _ hown1.bs).mono ?_); rintro e w' ⟨rfl, rfl⟩; rw [HB.out]))
    have hown2 : OB w1.drew base (.slice (some ⟨g, 0, none⟩) q.length cap) q := hown1
    have ho2 : OR w1.drew base o m := ho1
    have hb2 : Below base w w1.drew := hb1.drew
    have hz2 : base ≤ w1.drew.heap.size := Nat.le_trans hbase hz1
    clear hown1 ho1 hb1
    go_region_law (first
      | (go_simp; go_at_call 27; (with_reducible refine (rune_any _ q _ _ hown2.bs r HW.out).mono ?_); rintro e w' ⟨rfl, rfl⟩)
      | (refine step_appR rfl (.tmp 39) (.tmp 42) rfl base _ o _ m [(r : Int)] ?_ ?_ (ho2.alloc _) (RS.one _ _ _) (by simp; omega) (by simp; omega) ?_; go_simp; go_simp; intro v3 w3 ho3 hg3 hbel3))
    all_goals
      have hown3 : OB w3 base (.slice (some ⟨g, 0, none⟩) q.length cap) q := (hown2.alloc _).keptR (ho2.alloc _) hg3
      have hb3 : Below base w w3 := (hb2.alloc hz2 _).trans hbel3
      go_wp2
      go_ret2
      exact inPost_of HS.out rfl hown3.cut0 ho3 hb3
  · have d1 : (1 : Int) < (q.length : Int) := by omega
    clear h1
    go_enter Try.func20, Try.ntmps20
    go_wp2_with (first
      | (at_builtin; refine wpl_app _ rfl (.tmp 9) (.tmp 11) rfl base _ _ _ p [b] rfl rfl (HV.out.alloc _) (BS.one w b _) (by simp; omega) (by simp; omega) ?_; intro v1 w1 hown1 hg1 hbel1 _; rw [HQ.out] at hown1; have ho1 := (HO.out.alloc _).keptB (HV.out.alloc _) hg1; obtain ⟨g, cap, rfl, hcap⟩ := hown1.formed hq0; have hb1 := ((Below.refl base w).alloc hbase _).trans hbel1; have hz1 := hb1.size; clear hg1 hbel1)
      | (go_at_call 22; (with_reducible refine (fits_any _ q _ _ hown1.bs).mono ?_); rintro e w' ⟨rfl, rfl⟩; rw [HF.out])
      | (go_at_call 14; (with_reducible refine (begins_any _ q _ _ hown1.bs).mono ?_); rintro e w' ⟨rfl, rfl⟩; rw [HB.out]))
    have hown2 : OB w1.drew base (.slice (some ⟨g, 0, none⟩) q.length cap) q := hown1
    have ho2 : OR w1.drew base o m := ho1
    have hb2 : Below base w w1.drew := hb1.drew
    have hz2 : base ≤ w1.drew.heap.size := Nat.le_trans hbase hz1
    clear hown1 ho1 hb1
    go_region_law (first
      | (go_simp; go_at_call 27; (with_reducible refine (rune_any _ q _ _ hown2.bs r HW.out).mono ?_); rintro e w' ⟨rfl, rfl⟩)
      | (refine step_appR rfl (.tmp 39) (.tmp 42) rfl base _ o _ m [(r : Int)] ?_ ?_ (ho2.alloc _) (RS.one _ _ _) (by simp; omega) (by simp; omega) ?_; go_simp; go_simp; intro v3 w3 ho3 hg3 hbel3))
    all_goals
      have hown3 : OB w3 base (.slice (some ⟨g, 0, none⟩) q.length cap) q := (hown2.alloc _).keptR (ho2.alloc _) hg3
      have hb3 : Below base w w3 := (hb2.alloc hz2 _).trans hbel3
      go_wp2
      go_ret2
      exact inPost_of HS.out rfl hown3.cut0 ho3 hb3
set_option maxHeartbeats 1000000 in
set_option maxRecDepth 100000 in
/-- A byte alone that can neither begin nor be one. -/
theorem in_a3 (v o : Value) (p q : List UInt8) (b : UInt8) (m : List Int) (base : Nat) (w : World) (hv : OB w base v p) (ho : OR w base o m) (hbase : base ≤ w.heap.size) (hpl : p.length ≤ 3) (hml : m.length ≤ 1099511627000)
    (hq : p ++ [b] = q) (hn : q.length = 1) (hf : fitsL q = false) (hb : beginsL q = false) (hs : stepL p b = ([], [65533])) :
    Calls Try.prog 20 #[v, .int .u8 (b.toNat : Int), o] w (InPost base p b m w) := by
  have HS := Lib.hid hs
  have HB := Lib.hid hb
  have HF := Lib.hid hf
  have HQ := Lib.hid hq
  have HV := Lib.hid hv
  have HO := Lib.hid ho
  have hq0 : 0 < q.length := by rw [← hq]; simp
  clear hs hb hf hq hv ho
  have d1 : decide ((1 : Int) < (q.length : Int)) = false := by simp; omega
  clear hn
  go_enter Try.func20, Try.ntmps20
  go_wp2_with (first
    | (at_builtin; refine wpl_app _ rfl (.tmp 9) (.tmp 11) rfl base _ _ _ p [b] rfl rfl (HV.out.alloc _) (BS.one w b _) (by simp; omega) (by simp; omega) ?_; intro v1 w1 hown1 hg1 hbel1 _; rw [HQ.out] at hown1; have ho1 := (HO.out.alloc _).keptB (HV.out.alloc _) hg1; obtain ⟨g, cap, rfl, hcap⟩ := hown1.formed hq0; have hb1 := ((Below.refl base w).alloc hbase _).trans hbel1; have hz1 := Nat.le_trans hbase hb1.size; clear hg1 hbel1)
    | (go_at_call 22; (with_reducible refine (fits_any _ q _ _ hown1.bs).mono ?_); rintro e w' ⟨rfl, rfl⟩; rw [HF.out])
    | (go_at_call 14; (with_reducible refine (begins_any _ q _ _ hown1.bs).mono ?_); rintro e w' ⟨rfl, rfl⟩; rw [HB.out]))
  have hown2 : OB w1.drew base (.slice (some ⟨g, 0, none⟩) q.length cap) q := hown1
  have ho2 : OR w1.drew base o m := ho1
  have hb2 : Below base w w1.drew := hb1.drew
  have hz2 : base ≤ w1.drew.heap.size := hz1
  clear hown1 ho1 hb1
  go_region_law (refine step_appR rfl (.tmp 46) (.tmp 47) rfl base _ o _ m [(65533 : Int)] ?_ ?_ (ho2.alloc _) (RS.one _ _ _) (by simp; omega) (by simp; omega) ?_; go_simp; go_simp; intro v3 w3 ho3 hg3 hbel3)
  all_goals
    have hown3 : OB w3 base (.slice (some ⟨g, 0, none⟩) q.length cap) q := (hown2.alloc _).keptR (ho2.alloc _) hg3
    have hb3 : Below base w w3 := (hb2.alloc hz2 _).trans hbel3
    go_wp2
    go_ret2
    exact inPost_of HS.out rfl hown3.cut0 ho3 hb3
set_option maxHeartbeats 1000000 in
set_option maxRecDepth 100000 in
/-- What is joined does not fit; the byte begins. -/
theorem in_b1 (v o : Value) (p q : List UInt8) (b : UInt8) (m : List Int) (base : Nat) (w : World) (hv : OB w base v p) (ho : OR w base o m) (hbase : base ≤ w.heap.size) (hpl : p.length ≤ 3) (hml : m.length ≤ 1099511627000)
    (hq : p ++ [b] = q) (hn : 1 < q.length) (hf : fitsL q = false) (hb : beginsL [b] = true) (hf2 : fitsL [b] = true) (hs : stepL p b = ([b], [65533])) :
    Calls Try.prog 20 #[v, .int .u8 (b.toNat : Int), o] w (InPost base p b m w) := by
  have HS := Lib.hid hs
  have HB := Lib.hid hb
  have HF := Lib.hid hf
  have HQ := Lib.hid hq
  have HV := Lib.hid hv
  have HO := Lib.hid ho
  have hq0 : 0 < q.length := by rw [← hq]; simp
  clear hs hb hf hq hv ho
  have HF2 := Lib.hid hf2
  clear hf2
  have d1 : (1 : Int) < (q.length : Int) := by omega
  go_enter Try.func20, Try.ntmps20
  go_wp2_with (first
    | (at_builtin; refine wpl_app _ rfl (.tmp 9) (.tmp 11) rfl base _ _ _ p [b] rfl rfl (HV.out.alloc _) (BS.one w b _) (by simp; omega) (by simp; omega) ?_; intro v1 w1 hown1 hg1 hbel1 _; rw [HQ.out] at hown1; have ho1 := (HO.out.alloc _).keptB (HV.out.alloc _) hg1; obtain ⟨g, cap, rfl, hcap⟩ := hown1.formed hq0; have hb1 := ((Below.refl base w).alloc hbase _).trans hbel1; have hz1 := Nat.le_trans hbase hb1.size; clear hg1 hbel1)
    | (go_at_call 22; (with_reducible refine (fits_any _ q _ _ hown1.bs).mono ?_); rintro e w' ⟨rfl, rfl⟩; rw [HF.out])
    | (at_builtin; refine wpl_appR _ rfl (.tmp 21) (.tmp 22) rfl base _ _ _ m [(65533 : Int)] rfl rfl (ho1.alloc _) (RS.oneAt _ _ _ _ (by simp)) (by simp; omega) (by simp; omega) ?_; intro v2 w2 ho2 hg2 hbel2 _; have hown2 := ((hown1.alloc _).keptR (ho1.alloc _) hg2).cut0; have hb2 := (hb1.alloc hz1 _).trans hbel2; have hz2 := Nat.le_trans hbase hb2.size; clear hg2 hbel2 hown1 ho1 hb1 hz1)
    | (at_builtin; refine wpl_app _ rfl (.tmp 25) (.tmp 27) rfl base _ _ _ [] [b] rfl rfl (hown2.alloc _) (BS.one w2 b _) (by simp) (by simp; omega) ?_; intro v3 w3 hown3 hg3 hbel3 _; have ho3 := (ho2.alloc _).keptB (hown2.alloc _) hg3; rw [List.nil_append] at hown3; obtain ⟨g3, cap3, rfl, hcap3⟩ := hown3.formed (by simp); have hown3 : OB w3 base (.slice (some ⟨g3, 0, none⟩) 1 cap3) [b] := hown3; have hb3 := (hb2.alloc hz2 _).trans hbel3; have hz3 := Nat.le_trans hbase hb3.size; clear hg3 hbel3 hown2 ho2 hb2 hz2)
    | (go_at_call 14; (with_reducible refine (begins_any _ [b] _ _ hown3.bs).mono ?_); rintro e w' ⟨rfl, rfl⟩; rw [HB.out])
    | (go_at_call 22; (with_reducible refine (fits_any _ [b] _ _ hown3.bs).mono ?_); rintro e w' ⟨rfl, rfl⟩; rw [HF2.out]))
  go_ret2
  exact inPost_of HS.out rfl hown3 ho3 hb3
set_option maxHeartbeats 1000000 in
set_option maxRecDepth 100000 in
/-- .. the byte is one. -/
theorem in_b2 (v o : Value) (p q : List UInt8) (b : UInt8) (m : List Int) (base : Nat) (w : World) (hv : OB w base v p) (ho : OR w base o m) (hbase : base ≤ w.heap.size) (hpl : p.length ≤ 3) (hml : m.length ≤ 1099511627000)
    (hq : p ++ [b] = q) (hn : 1 < q.length) (hf : fitsL q = false) (hb : beginsL [b] = false) (hf2 : fitsL [b] = true) (r : Nat) (hw : wholeL [b] = some r) (hs : stepL p b = ([], [65533, r])) :
    Calls Try.prog 20 #[v, .int .u8 (b.toNat : Int), o] w (InPost base p b m w) := by
  have HS := Lib.hid hs
  have HB := Lib.hid hb
  have HF := Lib.hid hf
  have HQ := Lib.hid hq
  have HV := Lib.hid hv
  have HO := Lib.hid ho
  have hq0 : 0 < q.length := by rw [← hq]; simp
  clear hs hb hf hq hv ho
  have HF2 := Lib.hid hf2
  clear hf2
  have d1 : (1 : Int) < (q.length : Int) := by omega
  have HW := Lib.hid hw
  clear hw
  go_enter Try.func20, Try.ntmps20
  go_wp2_with (first
    | (at_builtin; refine wpl_app _ rfl (.tmp 9) (.tmp 11) rfl base _ _ _ p [b] rfl rfl (HV.out.alloc _) (BS.one w b _) (by simp; omega) (by simp; omega) ?_; intro v1 w1 hown1 hg1 hbel1 _; rw [HQ.out] at hown1; have ho1 := (HO.out.alloc _).keptB (HV.out.alloc _) hg1; obtain ⟨g, cap, rfl, hcap⟩ := hown1.formed hq0; have hb1 := ((Below.refl base w).alloc hbase _).trans hbel1; have hz1 := Nat.le_trans hbase hb1.size; clear hg1 hbel1)
    | (go_at_call 22; (with_reducible refine (fits_any _ q _ _ hown1.bs).mono ?_); rintro e w' ⟨rfl, rfl⟩; rw [HF.out])
    | (at_builtin; refine wpl_appR _ rfl (.tmp 21) (.tmp 22) rfl base _ _ _ m [(65533 : Int)] rfl rfl (ho1.alloc _) (RS.oneAt _ _ _ _ (by simp)) (by simp; omega) (by simp; omega) ?_; intro v2 w2 ho2 hg2 hbel2 _; have hown2 := ((hown1.alloc _).keptR (ho1.alloc _) hg2).cut0; have hb2 := (hb1.alloc hz1 _).trans hbel2; have hz2 := Nat.le_trans hbase hb2.size; clear hg2 hbel2 hown1 ho1 hb1 hz1)
    | (at_builtin; refine wpl_app _ rfl (.tmp 25) (.tmp 27) rfl base _ _ _ [] [b] rfl rfl (hown2.alloc _) (BS.one w2 b _) (by simp) (by simp; omega) ?_; intro v3 w3 hown3 hg3 hbel3 _; have ho3 := (ho2.alloc _).keptB (hown2.alloc _) hg3; rw [List.nil_append] at hown3; obtain ⟨g3, cap3, rfl, hcap3⟩ := hown3.formed (by simp); have hown3 : OB w3 base (.slice (some ⟨g3, 0, none⟩) 1 cap3) [b] := hown3; have hb3 := (hb2.alloc hz2 _).trans hbel3; have hz3 := Nat.le_trans hbase hb3.size; clear hg3 hbel3 hown2 ho2 hb2 hz2)
    | (go_at_call 14; (with_reducible refine (begins_any _ [b] _ _ hown3.bs).mono ?_); rintro e w' ⟨rfl, rfl⟩; rw [HB.out])
    | (go_at_call 22; (with_reducible refine (fits_any _ [b] _ _ hown3.bs).mono ?_); rintro e w' ⟨rfl, rfl⟩; rw [HF2.out]))
  have hown4 : OB w3.drew base (.slice (some ⟨g3, 0, none⟩) 1 cap3) [b] := hown3
  have ho4 : OR w3.drew base v2 (m ++ [65533]) := ho3
  have hb4 : Below base w w3.drew := hb3.drew
  have hz4 : base ≤ w3.drew.heap.size := hz3
  clear hown3 ho3 hb3
  go_region_law (first
    | (go_simp; go_at_call 27; (with_reducible refine (rune_any _ [b] _ _ hown4.bs r HW.out).mono ?_); rintro e w' ⟨rfl, rfl⟩)
    | (refine step_appR rfl (.tmp 39) (.tmp 42) rfl base _ v2 _ (m ++ [65533]) [(r : Int)] ?_ ?_ (ho4.alloc _) (RS.one _ _ _) (by simp; omega) (by simp; omega) ?_; go_simp; go_simp; intro v5 w5 ho5 hg5 hbel5))
  all_goals
    have hown5 : OB w5 base (.slice (some ⟨g3, 0, none⟩) 1 cap3) [b] := (hown4.alloc _).keptR (ho4.alloc _) hg5
    have hb5 : Below base w w5 := (hb4.alloc hz4 _).trans hbel5
    go_wp2
    go_ret2
    exact inPost_of HS.out (by simp [ints]) hown5.cut0 ho5 hb5
set_option maxHeartbeats 1000000 in
set_option maxRecDepth 100000 in
/-- .. the byte can do neither. -/
theorem in_b3 (v o : Value) (p q : List UInt8) (b : UInt8) (m : List Int) (base : Nat) (w : World) (hv : OB w base v p) (ho : OR w base o m) (hbase : base ≤ w.heap.size) (hpl : p.length ≤ 3) (hml : m.length ≤ 1099511627000)
    (hq : p ++ [b] = q) (hn : 1 < q.length) (hf : fitsL q = false) (hb : beginsL [b] = false) (hf2 : fitsL [b] = false) (hs : stepL p b = ([], [65533, 65533])) :
    Calls Try.prog 20 #[v, .int .u8 (b.toNat : Int), o] w (InPost base p b m w) := by
  have HS := Lib.hid hs
  have HB := Lib.hid hb
  have HF := Lib.hid hf
  have HQ := Lib.hid hq
  have HV := Lib.hid hv
  have HO := Lib.hid ho
  have hq0 : 0 < q.length := by rw [← hq]; simp
  clear hs hb hf hq hv ho
  have HF2 := Lib.hid hf2
  clear hf2
  have d1 : (1 : Int) < (q.length : Int) := by omega
  go_enter Try.func20, Try.ntmps20
  go_wp2_with (first
    | (at_builtin; refine wpl_app _ rfl (.tmp 9) (.tmp 11) rfl base _ _ _ p [b] rfl rfl (HV.out.alloc _) (BS.one w b _) (by simp; omega) (by simp; omega) ?_; intro v1 w1 hown1 hg1 hbel1 _; rw [HQ.out] at hown1; have ho1 := (HO.out.alloc _).keptB (HV.out.alloc _) hg1; obtain ⟨g, cap, rfl, hcap⟩ := hown1.formed hq0; have hb1 := ((Below.refl base w).alloc hbase _).trans hbel1; have hz1 := Nat.le_trans hbase hb1.size; clear hg1 hbel1)
    | (go_at_call 22; (with_reducible refine (fits_any _ q _ _ hown1.bs).mono ?_); rintro e w' ⟨rfl, rfl⟩; rw [HF.out])
    | (at_builtin; refine wpl_appR _ rfl (.tmp 21) (.tmp 22) rfl base _ _ _ m [(65533 : Int)] rfl rfl (ho1.alloc _) (RS.oneAt _ _ _ _ (by simp)) (by simp; omega) (by simp; omega) ?_; intro v2 w2 ho2 hg2 hbel2 _; have hown2 := ((hown1.alloc _).keptR (ho1.alloc _) hg2).cut0; have hb2 := (hb1.alloc hz1 _).trans hbel2; have hz2 := Nat.le_trans hbase hb2.size; clear hg2 hbel2 hown1 ho1 hb1 hz1)
    | (at_builtin; refine wpl_app _ rfl (.tmp 25) (.tmp 27) rfl base _ _ _ [] [b] rfl rfl (hown2.alloc _) (BS.one w2 b _) (by simp) (by simp; omega) ?_; intro v3 w3 hown3 hg3 hbel3 _; have ho3 := (ho2.alloc _).keptB (hown2.alloc _) hg3; rw [List.nil_append] at hown3; obtain ⟨g3, cap3, rfl, hcap3⟩ := hown3.formed (by simp); have hown3 : OB w3 base (.slice (some ⟨g3, 0, none⟩) 1 cap3) [b] := hown3; have hb3 := (hb2.alloc hz2 _).trans hbel3; have hz3 := Nat.le_trans hbase hb3.size; clear hg3 hbel3 hown2 ho2 hb2 hz2)
    | (go_at_call 14; (with_reducible refine (begins_any _ [b] _ _ hown3.bs).mono ?_); rintro e w' ⟨rfl, rfl⟩; rw [HB.out])
    | (go_at_call 22; (with_reducible refine (fits_any _ [b] _ _ hown3.bs).mono ?_); rintro e w' ⟨rfl, rfl⟩; rw [HF2.out]))
  have hown4 : OB w3.drew base (.slice (some ⟨g3, 0, none⟩) 1 cap3) [b] := hown3
  have ho4 : OR w3.drew base v2 (m ++ [65533]) := ho3
  have hb4 : Below base w w3.drew := hb3.drew
  have hz4 : base ≤ w3.drew.heap.size := hz3
  clear hown3 ho3 hb3
  go_region_law (refine step_appR rfl (.tmp 46) (.tmp 47) rfl base _ v2 _ (m ++ [65533]) [(65533 : Int)] ?_ ?_ (ho4.alloc _) (RS.one _ _ _) (by simp; omega) (by simp; omega) ?_; go_simp; go_simp; intro v5 w5 ho5 hg5 hbel5)
  all_goals
    have hown5 : OB w5 base (.slice (some ⟨g3, 0, none⟩) 1 cap3) [b] := (hown4.alloc _).keptR (ho4.alloc _) hg5
    have hb5 : Below base w w5 := (hb4.alloc hz4 _).trans hbel5
    go_wp2
    go_ret2
    exact inPost_of HS.out (by simp [ints]) hown5.cut0 ho5 hb5

/-- The inner step. -/
theorem in_any (v o : Value) (p : List UInt8) (b : UInt8) (m : List Int) (base : Nat) (w : World) (hv : OB w base v p) (ho : OR w base o m) (hbase : base ≤ w.heap.size) (hml : m.length ≤ 1099511627000) (hp : p = [] ∨ beginsL p = true) :
    Calls Try.prog 20 #[v, .int .u8 (b.toNat : Int), o] w (InPost base p b m w) := by
  rcases hp with rfl | hp
  · have hs := stepL_no [] b rfl
    cases hf : fitsL [b]
    · have hb : beginsL [b] = false := by rw [beg_fits, hf, Bool.false_and]
      have h0 : ¬ b.toNat < 128 := by
        intro h
        rw [(fits1_iff b).2 (by rw [fs_1 _ h]; omega)] at hf
        cases hf
      rw [firstL_bad b _ h0 hb] at hs
      exact in_a3 v o [] [b] b m base w hv ho hbase (by simp) hml rfl rfl hf hb hs
    · cases hb : beginsL [b]
      · obtain ⟨r, hw⟩ := fits_whole [b] hf hb
        have h0 : b.toNat < 128 ∧ r = b.toNat := by
          simp only [wholeL] at hw
          split at hw
          · injection hw with hw
            exact ⟨by assumption, hw.symm⟩
          · cases hw
        rw [firstL_ascii b _ h0.1] at hs
        rw [← h0.2] at hs
        exact in_a2 v o [] [b] b m base w hv ho hbase (by simp) hml rfl hf hb r hw hs
      · have h0 : ¬ b.toNat < 128 := by rw [beg1_iff] at hb; omega
        rw [firstL_lead b _ h0 hb] at hs
        exact in_a1 v o [] [b] b m base w hv ho hbase (by simp) hml rfl hf hb hs
  · have hl := beginsL_len p hp
    have hq1 : 1 < (p ++ [b]).length := by simp; omega
    cases hf : fitsL (p ++ [b])
    · have hq : beginsL (p ++ [b]) = false := by
        match p, hp, hf with
        | a :: t, hp, hf =>
          rw [List.cons_append] at hf ⊢
          rw [beg_fits, hf, Bool.false_and]
      have hw : wholeL (p ++ [b]) = none := by
        cases hw : wholeL (p ++ [b]) with
        | none => rfl
        | some r =>
          rw [(whole_fits _ r hw).1] at hf
          cases hf
      have hs := stepL_breaks p b hp hw hq
      cases hf2 : fitsL [b]
      · have hb : beginsL [b] = false := by rw [beg_fits, hf2, Bool.false_and]
        have h0 : ¬ b.toNat < 128 := by
          intro h
          rw [(fits1_iff b).2 (by rw [fs_1 _ h]; omega)] at hf2
          cases hf2
        rw [firstL_bad b _ h0 hb] at hs
        exact in_b3 v o p _ b m base w hv ho hbase hl.2 hml rfl hq1 hf hb hf2 hs
      · cases hb : beginsL [b]
        · obtain ⟨r, hw2⟩ := fits_whole [b] hf2 hb
          have h0 : b.toNat < 128 ∧ r = b.toNat := by
            simp only [wholeL] at hw2
            split at hw2
            · injection hw2 with hw2
              exact ⟨by assumption, hw2.symm⟩
            · cases hw2
          rw [firstL_ascii b _ h0.1] at hs
          rw [← h0.2] at hs
          exact in_b2 v o p _ b m base w hv ho hbase hl.2 hml rfl hq1 hf hb hf2 r hw2 hs
        · have h0 : ¬ b.toNat < 128 := by rw [beg1_iff] at hb; omega
          rw [firstL_lead b _ h0 hb] at hs
          exact in_b1 v o p _ b m base w hv ho hbase hl.2 hml rfl hq1 hf hb hf2 hs
    · cases hb : beginsL (p ++ [b])
      · obtain ⟨r, hw⟩ := fits_whole _ hf hb
        exact in_a2 v o p _ b m base w hv ho hbase hl.2 hml rfl hf hb r hw (stepL_some p b r hp hw)
      · have hw : wholeL (p ++ [b]) = none := by
          cases hw : wholeL (p ++ [b]) with
          | none => rfl
          | some r =>
            rw [(whole_fits _ r hw).2] at hb
            cases hb
        exact in_a1 v o p _ b m base w hv ho hbase hl.2 hml rfl hf hb (stepL_pends p b hp hw hb)
end Go.Proofs.Ytjbjfhbldodjfaa
