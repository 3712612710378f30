/- What is proved here: a contract of the help of layer 5's laws that makes bytes of pieces of others: some bytes, not too many, in new memory. -/
import Derived.Test.YtmggknoaiaeojaaDeltaApply
namespace Go.Proofs.Ytmggknoaiaeojaa
open Go.RowKit
set_option linter.unusedVariables false

/-- A slice of numbers of 16 bits that reads as l; it lies below block B. -/
def HS (w : World) (B : Nat) (v : Value) (l : List Int) : Prop :=
  ∃ A c, v = .slice A l.length c ∧ l.length ≤ c ∧ c ≤ maxLen ∧
    (0 < l.length → ∃ ad, A = some ad ∧ ad.block < B ∧ ∀ j b, l[j]? = some b → w.cell? (ad.add j) = some (.int .u16 b))
section
variable {w w' : World} {B B' : Nat} {v : Value} {l : List Int}
theorem HS.below (h : HS w B v l) (hb : Below B w w') : HS w' B v l := by
  obtain ⟨A, c, hv, h1, h2, h3⟩ := h
  refine ⟨A, c, hv, h1, h2, fun hl => ?_⟩
  obtain ⟨ad, hA, hbk, hc⟩ := h3 hl
  exact ⟨ad, hA, hbk, fun j b hj => (hb.cell (by rw [block_add]; exact hbk)).trans (hc j b hj)⟩
theorem HS.more (h : HS w B v l) (hB : B ≤ B') : HS w B' v l := by
  obtain ⟨A, c, hv, h1, h2, h3⟩ := h
  refine ⟨A, c, hv, h1, h2, fun hl => ?_⟩
  obtain ⟨ad, hA, hb, hc⟩ := h3 hl
  exact ⟨ad, hA, by omega, hc⟩
theorem HS.nil (w : World) (B : Nat) : HS w B (.slice none 0 0) [] := ⟨none, 0, rfl, by simp, by simp [maxLen], fun h => absurd h (by simp)⟩
theorem HS.cellC {A : Option Addr} {n c : Nat} (h : HS w B (.slice A n c) l) (k : Nat) (hk : k < l.length) : ∃ ad, A = some ad ∧ w.cell? (ad.add k) = some (.int .u16 l[k]) := by
  obtain ⟨A', c', hv, _, _, h3⟩ := h
  simp only [Value.slice.injEq] at hv
  obtain ⟨rfl, _, _⟩ := hv
  obtain ⟨ad, hA, _, hc⟩ := h3 (by omega)
  exact ⟨ad, hA, hc k _ (List.getElem?_eq_getElem hk)⟩
end
/-- A row of numbers that came in. -/
theorem hs_row {W : World} {a : Addr} {len cap : Nat} {zs : List Int} (hl : len ≤ cap) (hm : cap ≤ maxLen) (hz : zs.length = cap)
    (hcell : ∀ i, i < zs.length → W.cell? (a.add i) = some (.int .u16 (zs.getD i 0))) (hwz : ∀ n ∈ zs, (Lit.int .u16 n).wf = true) : ∃ l, HS W W.heap.size (.slice (some a) len cap) l ∧ ∀ n ∈ l, (Lit.int .u16 n).wf = true := by
  have hlen : (zs.take len).length = len := by simp; omega
  refine ⟨zs.take len, ⟨_, cap, by rw [hlen], by rw [hlen]; exact hl, hm, fun h0 => ⟨a, rfl, ?_, fun j b hj => ?_⟩⟩, fun n hn => hwz n (List.mem_of_mem_take hn)⟩
  · rw [hlen] at h0
    have h := hcell 0 (by omega)
    rw [show a.add 0 = a from by simp [Addr.add]] at h
    rcases Nat.lt_or_ge a.block W.heap.size with hh | hh
    · exact hh
    · simp [World.cell?, Array.getElem?_eq_none hh] at h
  · have hj1 : j < len := by
      rcases Nat.lt_or_ge j len with hh | hh
      · exact hh
      · rw [List.getElem?_eq_none (by rw [hlen]; exact hh)] at hj; cases hj
    have hj2 : j < zs.length := by omega
    rw [hcell j hj2]
    rw [List.getElem?_take, if_pos hj1, List.getElem?_eq_getElem hj2] at hj
    injection hj with hj
    subst hj
    simp [List.getD, List.getElem?_eq_getElem hj2]

theorem u16_wrap (x : Int) (h0 : 0 ≤ x) (h1 : x < 65536) : IntKind.u16.wrap x = x := by
  simp [IntKind.wrap, IntKind.bits, IntKind.signed]
  omega
def TwistPost (n : Nat) (w : World) (e : Ending) (w' : World) : Prop := ∃ v t, e = .returned v ∧ OB w' w.heap.size v t ∧ t.length ≤ 12 * n ∧ Below w.heap.size w w'
def TwistRel (n : Nat) (w0 : World) (o i : Value) (wr : World) : Prop := ∃ (k : Nat) (t : List UInt8), k ≤ n ∧ i = .int .i64 (k : Int) ∧ OB wr w0.heap.size o t ∧ t.length ≤ 12 * k ∧ Below w0.heap.size w0 wr

set_option maxHeartbeats 1000000 in
set_option maxRecDepth 100000 in
theorem twist_any (v1 v2 : Value) (old : List UInt8) (l : List Int) (w : World) (h1 : BS w w.heap.size v1 old) (h2 : HS w w.heap.size v2 l) (hl1 : old.length ≤ 1048576) (hl2 : l.length ≤ 1048576) (hw : ∀ n ∈ l, (Lit.int .u16 n).wf = true) :
    Calls Try.prog 8 #[v1, v2] w (TwistPost l.length w) := by
  have HO := Lib.hid h1
  have HL := Lib.hid h2
  have HW := Lib.hid hw
  obtain ⟨A1, c1, rfl, g1, g2, -⟩ := h1.at_
  obtain ⟨A2, c2, rfl, g3, g4, -⟩ := h2
  unfold maxLen at g2 g4
  clear h1 hw
  go_enter Try.func8, Try.ntmps8
  go_wp2
  go_loopw [5, 6] (fun o i wr => TwistRel l.length w o i wr) (fun _ i _ => l.length - (intOf i).toNat)
  case atStart => exact ⟨0, [], Nat.zero_le _, rfl, OB.nil _ _, by simp, Below.refl _ _⟩
  case round =>
    obtain ⟨k, t, hk, rfl, ho, htl, hbel⟩ := hrel
    by_cases hlt : k < l.length
    · obtain ⟨ad, rfl, hc⟩ := (HL.out.below hbel).cellC k hlt
      have hx := bounds_u16 (HW.out l[k] (List.getElem_mem hlt))
      obtain ⟨x, hxx⟩ : ∃ x, l[k] = x := ⟨_, rfl⟩
      rw [hxx] at hc hx
      clear hxx
      obtain ⟨x0, x1⟩ := hx
      have tm3 : x.tmod 3 = x % 3 := Int.tmod_eq_emod_of_nonneg x0
      have td3 : x.tdiv 3 = x / 3 := Int.tdiv_eq_ediv_of_nonneg x0
      have td64 : x.tdiv 64 = x / 64 := Int.tdiv_eq_ediv_of_nonneg x0
      have tw3 : IntKind.u16.wrap (x / 3) = x / 3 := u16_wrap _ (by omega) (by omega)
      have tw64 : IntKind.u16.wrap (x / 64) = x / 64 := u16_wrap _ (by omega) (by omega)
      have tm4 : (x / 3).tmod 4 = x / 3 % 4 := Int.tmod_eq_emod_of_nonneg (by omega)
      have p3 : 0 ≤ x / 3 := by omega
      have hz := hbel.size
      have HOO := Lib.hid ho
      clear ho
      by_cases hn : 0 < old.length
      · by_cases h3 : 0 < x % 3
        · obtain ⟨a, ha⟩ : ∃ a : Nat, x / 3 % (old.length : Int) = (a : Int) := ⟨(x / 3 % (old.length : Int)).toNat, by have := Int.emod_nonneg (x / 3) (show (old.length : Int) ≠ 0 by omega); omega⟩
          have han : a < old.length := by have := Int.emod_lt_of_pos (x / 3) (show (0 : Int) < (old.length : Int) by omega); omega
          obtain ⟨q, hq⟩ : ∃ q : Nat, x / 64 % 12 = (q : Int) := ⟨(x / 64 % 12).toNat, by omega⟩
          have hq2 : q < 12 := by omega
          have tma : (x / 3).tmod (old.length : Int) = (a : Int) := by rw [Int.tmod_eq_emod_of_nonneg p3, ha]
          have tmq : (x / 64).tmod 12 = (q : Int) := by rw [Int.tmod_eq_emod_of_nonneg (by omega), hq]
          obtain ⟨A6, hif6⟩ : ∃ A6, (if c1 = a then A1 else Option.map (fun x => x.add a) A1) = A6 := ⟨_, rfl⟩
          have hck : ¬ c1 = a := by omega
          rw [if_neg hck] at hif6
          by_cases hM : (a : Int) + (q : Int) < (old.length : Int)
          · have ho6 : BS wr w.heap.size (.slice A6 q (c1 - a)) ((old.drop a).take q) := by
              have h := (HO.out.below hbel).cut a q q (by omega) rfl
              rw [if_neg hck, hif6] at h
              exact h
            have HO6 := Lib.hid ho6
            clear ho6
            have hln : ((old.drop a).take q).length ≤ 12 := by simp; omega
            go_wp2_with (at_builtin; refine wpl_app _ rfl (.tmp 35) (.tmp 49) rfl w.heap.size _ _ (.slice A6 q (c1 - a)) t ((old.drop a).take q) rfl (by go_simp) HOO.out HO6.out (by omega) hz ?_; intro v3 w3 ho3 hg3 hb3 _; have hb4 := hbel.trans hb3)
            go_roundw
            case rel => exact ⟨k + 1, _, hlt, by go_num, ho3, by simp only [List.length_append]; omega, hb4⟩
            case measure => simp [intOf]; omega
          · have hM' : decide ((a : Int) + (q : Int) < (old.length : Int)) = false := by simp; omega
            have ho6 : BS wr w.heap.size (.slice A6 (old.length - a) (c1 - a)) ((old.drop a).take (old.length - a)) := by
              have h := (HO.out.below hbel).cut a (old.length - a) (old.length - a) (by omega) rfl
              rw [if_neg hck, hif6] at h
              exact h
            have HO6 := Lib.hid ho6
            clear ho6
            have hln : ((old.drop a).take (old.length - a)).length ≤ 12 := by simp; omega
            go_wp2_with (at_builtin; refine wpl_app _ rfl (.tmp 35) (.tmp 49) rfl w.heap.size _ _ (.slice A6 (old.length - a) (c1 - a)) t ((old.drop a).take (old.length - a)) rfl (by go_simp) HOO.out HO6.out (by omega) hz ?_; intro v3 w3 ho3 hg3 hb3 _; have hb4 := hbel.trans hb3)
            go_roundw
            case rel => exact ⟨k + 1, _, hlt, by go_num, ho3, by simp only [List.length_append]; omega, hb4⟩
            case measure => simp [intOf]; omega
        · have h3' : decide (0 < x % 3) = false := by simp; omega
          go_wp2_with (at_builtin; refine wpl_app _ rfl (.tmp 51) (.tmp 59) rfl w.heap.size _ _ _ t [UInt8.ofNat (x / 3 % 4).toNat] rfl rfl (HOO.out.alloc _) (BS.one' _ _ (by omega) (by omega) _) (by simp; omega) (by simp; omega) ?_; intro v3 w3 ho3 hg3 hb3 _; have hb4 := (hbel.alloc hz _).trans hb3)
          go_roundw
          case rel => exact ⟨k + 1, t ++ [UInt8.ofNat (x / 3 % 4).toNat], hlt, by go_num, ho3, by simp only [List.length_append, List.length_singleton]; omega, hb4⟩
          case measure => simp [intOf]; omega
      · have hn' : decide (0 < old.length) = false := decide_eq_false hn
        go_wp2_with (at_builtin; refine wpl_app _ rfl (.tmp 51) (.tmp 59) rfl w.heap.size _ _ _ t [UInt8.ofNat (x / 3 % 4).toNat] rfl rfl (HOO.out.alloc _) (BS.one' _ _ (by omega) (by omega) _) (by simp; omega) (by simp; omega) ?_; intro v3 w3 ho3 hg3 hb3 _; have hb4 := (hbel.alloc hz _).trans hb3)
        go_roundw
        case rel => exact ⟨k + 1, t ++ [UInt8.ofNat (x / 3 % 4).toNat], hlt, by go_num, ho3, by simp only [List.length_append, List.length_singleton]; omega, hb4⟩
        case measure => simp [intOf]; omega
    · obtain rfl : k = l.length := by omega
      go_wp2
      go_ret
      exact ⟨_, t, rfl, ho, htl, hbel⟩
end Go.Proofs.Ytmggknoaiaeojaa
