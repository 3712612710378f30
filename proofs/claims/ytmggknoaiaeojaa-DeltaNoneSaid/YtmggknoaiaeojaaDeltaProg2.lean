/- What is proved here: a contract of the program's function that makes a delta: in new memory. -/
import Derived.Test.YtmggknoaiaeojaaDeltaProg
namespace Go.Proofs.Ytmggknoaiaeojaa
open Go.RowKit
set_option linter.unusedVariables false

def MkRel (T new : List UInt8) (sv : Value) (w0 : World) (tb : Nat) (ov pv iv : Value) (wr : World) : Prop :=
  ∃ (pl k : Nat) (lo : List UInt8), pl ≤ k ∧ k ≤ new.length ∧ pv = .int .i64 (pl : Int) ∧ iv = .int .i64 (k : Int) ∧ OB wr w0.heap.size ov lo ∧ Grown T sv w0.heap.size tb wr ∧ Below w0.heap.size w0 wr ∧ lo.length ≤ 64 * pl ∧
    lo ++ makeF T (new.length - k) (new.drop k) ((new.drop pl).take (k - pl)) = makeL T new
theorem take_on (new : List UInt8) (pl k : Nat) (h : pl ≤ k) (hk : k < new.length) : (new.drop pl).take (k - pl) ++ [new[k]] = (new.drop pl).take (k + 1 - pl) := by
  rw [show k + 1 - pl = k - pl + 1 by omega, List.take_add_one, List.getElem?_drop, show pl + (k - pl) = k by omega, List.getElem?_eq_getElem hk]
  rfl

set_option maxHeartbeats 1000000 in
set_option maxRecDepth 100000 in
theorem make_any (v1 v2 : Value) (old new : List UInt8) (w : World) (h1 : BS w w.heap.size v1 old) (h2 : BS w w.heap.size v2 new) (hl1 : old.length ≤ 1048576) (hl2 : new.length ≤ 1048576) :
    Calls Try.prog 9 #[v1, v2] w (RowPost (makeL old new) w) := by
  have hgrow := grow_any v1 old w h1 hl1
  have HO := Lib.hid h1
  have HB := Lib.hid h2
  obtain ⟨A1, c1, rfl, g1, g2, -⟩ := h1.at_
  obtain ⟨A2, c2, rfl, g3, g4, -⟩ := h2.at_
  unfold maxLen at g2 g4
  clear h1 h2
  go_enter Try.func9, Try.ntmps9
  go_wp2_with (first
    | (go_at_call 13; refine hgrow.mono ?_; rintro e w1 ⟨tb, rfl, hG, hb1⟩; have HG := Lib.hid hG; have HB1 := Lib.hid hb1; clear hG hb1))
  go_loopw [6, 7, 8] (fun o p i wr => MkRel old new (.slice A1 old.length c1) w tb o p i wr) (fun _ _ i _ => new.length - (intOf i).toNat)
  case atStart => exact ⟨0, 0, [], Nat.le_refl _, Nat.zero_le _, rfl, rfl, OB.nil _ _, HG.out, HB1.out, by simp, rfl⟩
  case round =>
    obtain ⟨pl, k, lo, hpk, hk, rfl, rfl, ho, hG, hbel, hlo, hmk⟩ := hrel
    have hle := hbel.size
    by_cases hlt : k < new.length
    · obtain ⟨ad, rfl, hc⟩ := (HB.out.below hbel).cellC k hlt
      have hck : ¬ c2 = k := by omega
      have hcut : BS wr wr.heap.size (.slice (some (ad.add k)) (new.length - k) (c2 - k)) (new.drop k) := by
        have h := (HB.out.below hbel).cut k (new.length - k) (new.length - k) (by omega) rfl
        rw [if_neg hck, List.take_of_length_le (by simp)] at h
        exact h.more hle
      have hlong := longest_any hG _ (new.drop k) hcut hl1 (by simp; omega)
      obtain ⟨qq1, qq2, -⟩ := longL_ok old (new.drop k)
      simp only [List.length_drop] at qq1
      unfold PostLong at hlong
      by_cases hN4 : (longL old (new.drop k)).1 < 4
      · have hmp := makeF_at_plain old new ((new.drop pl).take (k - pl)) k hlt hN4
        rw [hmp, take_on new pl k hpk hlt] at hmk
        generalize (longL old (new.drop k)).1 = N at *
        generalize (longL old (new.drop k)).2 = A at *
        have hN4' : (N : Int) < 4 := by omega
        have HM := Lib.hid hmk
        have HOO := Lib.hid ho
        have HGG := Lib.hid hG
        have HBE := Lib.hid hbel
        clear hmk ho hG hbel hcut hc hmp
        go_wp2_with (first
          | (go_at_call 14; refine hlong.mono ?_; rintro e w1 ⟨rfl, hb2⟩))
        go_roundw
        case rel => exact ⟨pl, k + 1, lo, by omega, hlt, rfl, by go_num, HOO.out.below hb2, HGG.out.below hb2, HBE.out.trans (hb2.mono hle), hlo, HM.out⟩
        case measure => simp [intOf]; omega
      · have hN4' : decide (((longL old (new.drop k)).1 : Int) < 4) = false := by simp; omega
        obtain ⟨N, hN⟩ : ∃ N, (longL old (new.drop k)).1 = N := ⟨_, rfl⟩
        obtain ⟨A, hA⟩ : ∃ A, (longL old (new.drop k)).2 = A := ⟨_, rfl⟩
        rw [hN] at hN4 hN4' qq1 qq2 hlong
        rw [hA] at qq2 hlong
        have hmp := makeF_at_match old new ((new.drop pl).take (k - pl)) k N A hlt hN hA hN4
        rw [hmp] at hmk
        have HM := Lib.hid hmk
        have HOO := Lib.hid ho
        have HGG := Lib.hid hG
        have HBE := Lib.hid hbel
        clear hmk ho hG hbel hcut hc hmp hN hA
        have hln1 := (lebP_length (2 * N + 1)).2
        have hln2 := (lebP_length A).2
        have hln3 := litL_len' ((new.drop pl).take (k - pl))
        simp only [List.length_take, List.length_drop] at hln3
        have hcp : ¬ c2 = pl := by omega
        have hpI : (pl : Int) ≤ (k : Int) := by omega
        go_wp2_with (first
          | (go_at_call 14; refine hlong.mono ?_; rintro e w1 ⟨rfl, hb2⟩
             have HO2 := Lib.hid (HOO.out.below hb2)
             have HG2 := Lib.hid (HGG.out.below hb2)
             have HB2 := Lib.hid (HBE.out.trans (hb2.mono hle))
             have hle2 : w.heap.size ≤ w1.heap.size := HB2.out.size
             have hcut : BS w1 w1.heap.size (.slice (some (ad.add pl)) (k - pl) (c2 - pl)) ((new.drop pl).take (k - pl)) := by
               have h := (HB.out.below HB2.out).cut pl (k - pl) (k - pl) (by omega) rfl
               rw [if_neg hcp] at h
               exact h.more hle2
             have hpart := bytesPart_any _ _ w1 hcut (by simp; omega)
             clear hcut)
          | (go_at_call 15; refine hpart.mono ?_; rintro e w2 ⟨u, rfl, hu, hb3⟩
             have HO3 := Lib.hid (HO2.out.below hb3)
             have HG3 := Lib.hid (HG2.out.below hb3)
             have HB3 := Lib.hid (HB2.out.trans (hb3.mono hle2))
             have hle3 : w.heap.size ≤ w2.heap.size := HB3.out.size)
          | (at_builtin; refine wpl_app _ rfl (.tmp 29) (.tmp 34) rfl w.heap.size _ _ _ lo (litL ((new.drop pl).take (k - pl))) rfl rfl HO3.out hu.bs (by omega) hle3 ?_; intro v5 w5 ho5 hg5 hb5 hat5
             have HG5 := Lib.hid (HG3.out.keptB HO3.out hg5 hb5)
             have HB5 := Lib.hid (HB3.out.trans hb5)
             have hle5 : w.heap.size ≤ w5.heap.size := HB5.out.size)
          | (go_at_call 16; refine (oldPart_any A N w5 (by omega) (by omega)).mono ?_; rintro e w6 ⟨u6, rfl, hu6, hb6⟩
             have HO6 := Lib.hid (ho5.below hb6)
             have HG6 := Lib.hid (HG5.out.below hb6)
             have HB6 := Lib.hid (HB5.out.trans (hb6.mono hle5))
             have hle6 : w.heap.size ≤ w6.heap.size := HB6.out.size)
          | (at_builtin; refine wpl_app _ rfl (.tmp 36) (.tmp 39) rfl w.heap.size _ _ _ (lo ++ litL ((new.drop pl).take (k - pl))) (lebP (2 * N + 1) ++ lebP A) rfl rfl HO6.out hu6.bs (by simp only [List.length_append]; omega) hle6 ?_; intro v7 w7 ho7 hg7 hb7 hat7
             have HG7 := Lib.hid (HG6.out.keptB HO6.out hg7 hb7)
             have HB7 := Lib.hid (HB6.out.trans hb7)))
        go_roundw
        case rel =>
          refine ⟨k + N, k + N, lo ++ litL ((new.drop pl).take (k - pl)) ++ (lebP (2 * N + 1) ++ lebP A), Nat.le_refl _, by omega, by go_num, by go_num, ho7, HG7.out, HB7.out, by simp only [List.length_append]; omega, ?_⟩
          rw [← HM.out, Nat.sub_self, List.take_zero]
          simp only [List.append_assoc]
        case measure => simp [intOf]; omega
    · obtain rfl : k = new.length := by omega
      rw [List.drop_length, makeF_nil, List.take_of_length_le (by simp)] at hmk
      have HM := Lib.hid hmk
      have HOO := Lib.hid ho
      have HBE := Lib.hid hbel
      clear hmk ho hG hbel
      obtain ⟨A4, hif⟩ : ∃ A4, (if c2 = pl then A2 else Option.map (fun x => x.add pl) A2) = A4 := ⟨_, rfl⟩
      have hcut : BS wr wr.heap.size (.slice A4 (new.length - pl) (c2 - pl)) (new.drop pl) := by
        have h := (HB.out.below HBE.out).cut pl (new.length - pl) (new.length - pl) (by omega) rfl
        rw [hif, List.take_of_length_le (by simp)] at h
        exact h.more hle
      have hpart := bytesPart_any _ _ wr hcut (by simp; omega)
      have hln3 := litL_len' (new.drop pl)
      simp only [List.length_drop] at hln3
      clear hcut
      go_wp2_with (first
        | (go_at_call 15; refine hpart.mono ?_; rintro e w2 ⟨u, rfl, hu, hb3⟩
           have HO3 := Lib.hid (HOO.out.below hb3)
           have HB3 := Lib.hid (HBE.out.trans (hb3.mono hle))
           have hle3 : w.heap.size ≤ w2.heap.size := HB3.out.size)
        | (at_builtin; refine wpl_app _ rfl (.tmp 45) (.tmp 49) rfl w.heap.size _ _ _ lo (litL (new.drop pl)) rfl rfl HO3.out hu.bs (by omega) hle3 ?_; intro v5 w5 ho5 hg5 hb5 hat5))
      go_ret
      exact ⟨_, rfl, by rw [← HM.out]; exact ho5, HB3.out.trans hb5⟩
end Go.Proofs.Ytmggknoaiaeojaa
