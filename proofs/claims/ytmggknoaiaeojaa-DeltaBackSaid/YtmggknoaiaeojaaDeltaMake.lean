/- What is proved here: contracts of the document's functions that make a delta: in new memory. -/
import Derived.Test.YtmggknoaiaeojaaDeltaLong
import Derived.Test.YtmggknoaiaeojaaLebPut
namespace Go.Proofs.Ytmggknoaiaeojaa
open Go.RowKit
set_option linter.unusedVariables false

/-- Bytes in a row of the call's own. -/
def RowPost (l : List UInt8) (w : World) (e : Ending) (w' : World) : Prop := ∃ v, e = .returned v ∧ OB w' w.heap.size v l ∧ Below w.heap.size w w'

/-- Two rows of the call's own that are apart. -/
structure Two (base : Nat) (w0 w : World) (o p : Value) (lo lp : List UInt8) : Prop where
  ob : OB w base o lo
  pb : OB w base p lp
  ap : o.ownBlock = none ∨ o.ownBlock ≠ p.ownBlock
  bel : Below base w0 w
  le : base ≤ w.heap.size
theorem Two.start {w : World} : Two w.heap.size w w (.slice none 0 0) (.slice none 0 0) [] [] := ⟨OB.nil _ _, OB.nil _ _, .inl rfl, Below.refl _ _, Nat.le_refl _⟩
section
variable {base : Nat} {w0 w w' : World} {o p o' p' : Value} {lo lp l : List UInt8}
theorem Two.below (h : Two base w0 w o p lo lp) (hb : Below w.heap.size w w') : Two base w0 w' o p lo lp := ⟨h.ob.below hb, h.pb.below hb, h.ap, h.bel.trans (hb.mono h.le), Nat.le_trans h.le hb.size⟩
theorem Two.alloc (h : Two base w0 w o p lo lp) (x : Obj) : Two base w0 (w.alloc x) o p lo lp := ⟨h.ob.alloc x, h.pb.alloc x, h.ap, h.bel.alloc h.le x, by have := h.le; simp; omega⟩
/-- The second row has been appended to. -/
theorem Two.toP (h : Two base w0 w o p lo lp) (h1 : OB w' base p' l) (hg : w.grownBy w' p.ownBlock) (hb : Below base w w') (hat : p'.ownBlock = p.ownBlock ∨ p'.ownBlock = some w.heap.size) : Two base w0 w' o p' lo l := by
  refine ⟨World.ownsRow.kept h.ob hg h.ap, h1, ?_, h.bel.trans hb, Nat.le_trans h.le hb.size⟩
  rcases hat with e | e
  · rw [e]; exact h.ap
  · cases ho : o.ownBlock with
    | none => exact .inl rfl
    | some k =>
      have := (World.ownsRow.lt h.ob k ho).2
      exact .inr (by rw [e]; intro x; injection x with x; omega)
/-- The first row has been appended to. -/
theorem Two.toO (h : Two base w0 w o p lo lp) (h1 : OB w' base o' l) (hg : w.grownBy w' o.ownBlock) (hb : Below base w w') (hat : o'.ownBlock = o.ownBlock ∨ o'.ownBlock = some w.heap.size) : Two base w0 w' o' p l lp := by
  have hap : p.ownBlock = none ∨ p.ownBlock ≠ o.ownBlock := by
    rcases h.ap with e | e
    · cases hp : p.ownBlock with
      | none => exact .inl rfl
      | some k => exact .inr (by rw [e]; simp)
    · exact .inr (Ne.symm e)
  refine ⟨h1, World.ownsRow.kept h.pb hg hap, ?_, h.bel.trans hb, Nat.le_trans h.le hb.size⟩
  rcases hat with e | e
  · rw [e]
    rcases hap with e2 | e2
    · cases ho : o.ownBlock with
      | none => exact .inl rfl
      | some k => exact .inr (by rw [e2]; simp)
    · exact .inr (Ne.symm e2)
  · cases hp : p.ownBlock with
    | none => exact .inr (by rw [e]; simp)
    | some k =>
      have := (World.ownsRow.lt h.pb k hp).2
      exact .inr (by rw [e]; intro x; injection x with x; omega)
theorem Two.fresh (h : Two base w0 w o p lo lp) : Two base w0 w o (.slice none 0 0) lo [] := ⟨h.ob, OB.nil _ _, by cases ho : o.ownBlock with
  | none => exact .inl rfl
  | some k => exact .inr (by simp [Value.ownBlock]), h.bel, h.le⟩
end

theorem litL_len' (l : List UInt8) : (litL l).length ≤ l.length + 10 := by
  unfold litL
  split
  · simp
  · have := (lebP_length (2 * l.length)).2
    rw [List.length_append]
    omega
theorem litL_nil {l : List UInt8} (h : l.length = 0) : litL l = [] := by unfold litL; rw [if_pos h]
theorem litL_some {l : List UInt8} (h : 0 < l.length) : litL l = lebP (2 * l.length) ++ l := by unfold litL; rw [if_neg (by omega)]

set_option maxHeartbeats 400000 in
theorem literalr_any (v : Value) (l : List UInt8) (w : World) (hv : BS w w.heap.size v l) (hl : l.length ≤ 1099511627000) : Calls Try.prog 18 #[v] w (RowPost (litL l) w) := by
  have HV := Lib.hid hv
  obtain ⟨A, c, rfl, g1, g2, -⟩ := hv.at_
  unfold maxLen at g2
  clear hv
  by_cases h0 : l.length = 0
  · have HL := Lib.hid (litL_nil h0)
    have d1 : ((l.length : Int) == 0) = true := by rw [h0]; rfl
    go_enter Try.func18, Try.ntmps18
    go_wp2
    go_ret
    exact ⟨_, rfl, by rw [HL.out]; exact OB.nil _ _, Below.refl _ _⟩
  · have HL := Lib.hid (litL_some (l := l) (by omega))
    have d1 : ((l.length : Int) == 0) = false := beq_eq_false_iff_ne.2 (by omega)
    clear h0
    have hput := putr_any (2 * (l.length : Int)) (by omega) (by omega) w
    go_enter Try.func18, Try.ntmps18
    go_wp2_with (first
      | (go_at_call 19; refine hput.mono ?_; rintro e w1 ⟨v1, rfl, hown, hbel⟩; have hz := hbel.size; rw [show (2 * (l.length : Int)).toNat = 2 * l.length by omega] at hown; have hln := (lebP_length (2 * l.length)).2; have HV1 := Lib.hid (HV.out.below hbel))
      | (at_builtin; refine wpl_app _ rfl (.tmp 10) (.tmp 11) rfl w.heap.size _ _ _ _ l rfl rfl hown HV1.out (by omega) hz ?_; intro v2 w2 hown2 hg2 hbel2 _))
    go_ret
    exact ⟨_, rfl, by rw [HL.out]; exact hown2, hbel.trans hbel2⟩

theorem makeF_at_plain (old new lp : List UInt8) (k : Nat) (hk : k < new.length) (h : (longL old (new.drop k)).1 < 4) : makeF old (new.length - k) (new.drop k) lp = makeF old (new.length - (k + 1)) (new.drop (k + 1)) (lp ++ [new[k]]) := by
  rw [List.drop_eq_getElem_cons hk] at h ⊢
  rw [show new.length - k = new.length - (k + 1) + 1 by omega, makeF_plain _ _ _ _ _ h]
theorem makeF_at_match (old new lp : List UInt8) (k N A : Nat) (hk : k < new.length) (hN : (longL old (new.drop k)).1 = N) (hA : (longL old (new.drop k)).2 = A) (h : ¬ N < 4) : makeF old (new.length - k) (new.drop k) lp = litL lp ++ (lebP (2 * N + 1) ++ (lebP A ++ makeF old (new.length - (k + N)) (new.drop (k + N)) [])) := by
  rw [← hN] at h
  rw [List.drop_eq_getElem_cons hk] at h hN hA ⊢
  rw [show new.length - k = new.length - (k + 1) + 1 by omega, makeF_match _ _ _ _ _ h, hN, hA, ← List.drop_eq_getElem_cons hk, List.drop_drop]
  rw [hN] at h
  rw [makeF_fuel old (new.length - (k + 1)) (new.length - (k + N)) (List.drop (k + N) new) [] (by simp; omega) (by simp)]
def MakeRel (old new : List UInt8) (w0 : World) (o p i : Value) (wr : World) : Prop :=
  ∃ (k : Nat) (lo lp : List UInt8), k ≤ new.length ∧ i = .int .i64 (k : Int) ∧ Two w0.heap.size w0 wr o p lo lp ∧ lo.length + lp.length ≤ 64 * k ∧ lo ++ makeF old (new.length - k) (new.drop k) lp = makeL old new

set_option maxHeartbeats 1000000 in
set_option maxRecDepth 100000 in
theorem maker_any (v1 v2 : Value) (old new : List UInt8) (w : World) (h1 : BS w w.heap.size v1 old) (h2 : BS w w.heap.size v2 new) (hl1 : old.length ≤ 1048576) (hl2 : new.length ≤ 1048576) :
    Calls Try.prog 10 #[v1, v2] w (RowPost (makeL old new) w) := by
  have HO := Lib.hid h1
  have HB := Lib.hid h2
  obtain ⟨A1, c1, rfl, g1, g2, -⟩ := h1.at_
  obtain ⟨A2, c2, rfl, g3, g4, -⟩ := h2.at_
  unfold maxLen at g2 g4
  clear h1 h2
  go_enter Try.func10, Try.ntmps10
  go_wp2
  go_loopw [5, 6, 7] (fun o p i wr => MakeRel old new w o p i wr) (fun _ _ i _ => new.length - (intOf i).toNat)
  case atStart => exact ⟨0, [], [], Nat.zero_le _, rfl, Two.start, by simp, rfl⟩
  case round =>
    obtain ⟨k, lo, lp, hk, rfl, h2, hlo, hmk⟩ := hrel
    by_cases hlt : k < new.length
    · obtain ⟨ad, rfl, hc⟩ := (HB.out.below h2.bel).cellC k hlt
      unfold vB at hc
      have hck : ¬ c2 = k := by omega
      have hcut : BS wr wr.heap.size (.slice (some (ad.add k)) (new.length - k) (c2 - k)) (new.drop k) := by
        have h := (HB.out.below h2.bel).cut k (new.length - k) (new.length - k) (by omega) rfl
        rw [if_neg hck, List.take_of_length_le (by simp)] at h
        exact h.more h2.le
      have hlong := longr_any _ _ old (new.drop k) wr ((HO.out.below h2.bel).more h2.le) hcut (by omega) (by simp; omega)
      obtain ⟨q1, q2, -⟩ := longL_ok old (new.drop k)
      simp only [List.length_drop] at q1
      unfold LongPost at hlong
      by_cases hN4 : (longL old (new.drop k)).1 < 4
      · have hmp := makeF_at_plain old new lp k hlt hN4
        rw [hmp] at hmk
        generalize (longL old (new.drop k)).1 = N at *
        generalize (longL old (new.drop k)).2 = A at *
        have hN4' : (N : Int) < 4 := by omega
        have HM := Lib.hid hmk
        have H2 := Lib.hid h2
        clear hmk h2 hcut hc hmp
        go_wp2_with (first
          | (go_at_call 17; refine hlong.mono ?_; rintro e w1 ⟨rfl, hb1⟩; have h3 := H2.out.below hb1; obtain ⟨ad', hadE, hc⟩ := (HB.out.below h3.bel).cellC k hlt; injection hadE with hadE; subst hadE; unfold vB at hc)
          | (at_builtin; refine wpl_app _ rfl (.tmp 24) (.tmp 29) rfl w.heap.size _ _ _ lp [new[k]] rfl rfl (h3.alloc _).pb (BS.one _ _ _) (by simp; omega) (h3.alloc _).le ?_; intro v3 w3 ho3 hg3 hb3 hat3; have h4 := (h3.alloc _).toP ho3 hg3 hb3 hat3))
        go_roundw
        case rel => exact ⟨k + 1, lo, lp ++ [new[k]], hlt, by go_num, h4, by simp; omega, HM.out⟩
        case measure => simp [intOf]; omega
      · have hN4' : decide (((longL old (new.drop k)).1 : Int) < 4) = false := by simp; omega
        obtain ⟨N, hN⟩ : ∃ N, (longL old (new.drop k)).1 = N := ⟨_, rfl⟩
        obtain ⟨A, hA⟩ : ∃ A, (longL old (new.drop k)).2 = A := ⟨_, rfl⟩
        rw [hN] at hN4 hN4' q1 q2 hlong
        rw [hA] at q2 hlong
        have hmp := makeF_at_match old new lp k N A hlt hN hA hN4
        rw [hmp] at hmk
        have HM := Lib.hid hmk
        have H2 := Lib.hid h2
        clear hmk h2 hcut hc hmp hN hA
        have hln1 := (lebP_length (2 * N + 1)).2
        have hln2 := (lebP_length A).2
        have hln3 := litL_len' lp
        go_wp2_with (first
          | (go_at_call 17; refine hlong.mono ?_; rintro e w1 ⟨rfl, hb1⟩; have h3 := H2.out.below hb1)
          | (go_at_call 18; refine (literalr_any _ lp _ h3.pb.bs (by omega)).mono ?_; rintro e w2 ⟨u, rfl, hu, hb2⟩; have h4 := h3.below hb2)
          | (at_builtin; refine wpl_app _ rfl (.tmp 33) (.tmp 35) rfl w.heap.size _ _ _ lo (litL lp) rfl rfl h4.ob hu.bs (by omega) h4.le ?_; intro v5 w5 ho5 hg5 hb5 hat5; have h5 := (h4.toO ho5 hg5 hb5 hat5).fresh)
          | (go_at_call 19; (with_reducible refine (putr_any (2 * (N : Int) + 1) (by omega) (by omega) _).mono ?_); rintro e w6 ⟨u6, rfl, hu6, hb6⟩; rw [show (2 * (N : Int) + 1).toNat = 2 * N + 1 by omega] at hu6; have h6 := h5.below hb6)
          | (at_builtin; refine wpl_app _ rfl (.tmp 37) (.tmp 42) rfl w.heap.size _ _ _ (lo ++ litL lp) (lebP (2 * N + 1)) rfl rfl h6.ob hu6.bs (by simp; omega) h6.le ?_; intro v7 w7 ho7 hg7 hb7 hat7; have h7 := h6.toO ho7 hg7 hb7 hat7)
          | (go_at_call 19; (with_reducible refine (putr_any (A : Int) (by omega) (by omega) _).mono ?_); rintro e w8 ⟨u8, rfl, hu8, hb8⟩; rw [show ((A : Int)).toNat = A by omega] at hu8; have h8 := h7.below hb8)
          | (at_builtin; refine wpl_app _ rfl (.tmp 43) (.tmp 46) rfl w.heap.size _ _ _ (lo ++ litL lp ++ lebP (2 * N + 1)) (lebP A) rfl rfl h8.ob hu8.bs (by simp; omega) h8.le ?_; intro v9 w9 ho9 hg9 hb9 hat9; have h9 := h8.toO ho9 hg9 hb9 hat9))
        go_roundw
        case rel => exact ⟨k + N, lo ++ litL lp ++ lebP (2 * N + 1) ++ lebP A, [], by omega, by go_num, h9, by simp; omega, by rw [← HM.out]; simp only [List.append_assoc]⟩
        case measure => simp [intOf]; omega
    · obtain rfl : k = new.length := by omega
      rw [List.drop_length, makeF_nil] at hmk
      have HM := Lib.hid hmk
      clear hmk
      obtain ⟨ho, hp, hap, hbel, hle⟩ := h2
      go_wp2_with (first
        | (go_at_call 18; refine (literalr_any _ lp _ hp.bs (by omega)).mono ?_; rintro e w1 ⟨u, rfl, hu, hb1⟩; have hz1 := hb1.size; have ho1 := ho.below hb1; have hll := litL_len' lp)
        | (at_builtin; refine wpl_app _ rfl (.tmp 51) (.tmp 53) rfl w.heap.size _ _ _ lo (litL lp) rfl rfl ho1 hu.bs (by omega) (by omega) ?_; intro v3 w3 ho3 hg3 hb3 _))
      go_ret
      exact ⟨_, rfl, by rw [← HM.out]; exact ho3, (hbel.trans (hb1.mono hle)).trans hb3⟩
end Go.Proofs.Ytmggknoaiaeojaa
