/- What is proved here: the law CrcTurned, called with any slice of bytes, any place and any number, returns true and leaves alone whatever memory was there. -/
import Derived.Test.YtaiclombimdkmaaCrcKnown
import Derived.Test.YtaiclombimdkmaaCrcTurnedPlain
import Derived.Test.YtaiclombimdkmaaBytesOwn
import Derived.Deep.RegionHeld3
import Derived.Deep.DeepCutAuto
import Derived.Deep.QuietTactic
import Derived.BigQuiet
import Derived.IntWalk
namespace Go.Proofs.Ytaiclombimdkmaa
open Go.RowKit
set_option linter.unusedVariables false

/-- What stands at the head of a round. -/
def TurnRel (l : List UInt8) (n x g cap : Nat) (w0 : World) (t i : Value) (wr : World) : Prop :=
  ∃ k : Nat, k ≤ 4 ∧ n + k ≤ l.length ∧ i = .int .i64 (k : Int) ∧ t = .bool (sameC x k) ∧ OB wr w0.heap.size (.slice (some ⟨g, 0, none⟩) l.length cap) (turnC l n x k) ∧ Below w0.heap.size w0 wr

theorem wrap_small (y : Int) (h0 : 0 ≤ y) (h1 : y < 1000000) : IntKind.i64.wrap y = y ∧ wrap64 y = y := by
  refine ⟨by rw [IntKind.wrap_i64]; omega, by unfold wrap64; omega⟩
theorem ef_of (r1 r0 : Nat) (b : Bool) (h : r1 = r0 ↔ b = true) : (((r1 : Int) == (r0 : Int)) == b) = true := by
  cases b
  · have h1 : ¬ r1 = r0 := fun e => by cases h.1 e
    have h2 : ((r1 : Int) == (r0 : Int)) = false := beq_eq_false_iff_ne.2 (by omega)
    rw [h2]
    rfl
  · rw [h.2 rfl]
    simp
theorem byteOf_spell (x k : Nat) : (x : Int) / 2 ^ (8 * k) % 256 = ((byteOf x k).toNat : Int) := byteOf_int x k _ (by simp)

set_option maxHeartbeats 4000000 in
set_option maxRecDepth 100000 in
theorem crcTurned_walk (a0 : Option Addr) (len0 cap0 : Nat) (l : List UInt8) (a1 a2 : Int) (w : World) (h0 : BS w w.heap.size (.slice a0 len0 cap0) l) (w1 : (Lit.int .u16 a1).wf = true) (w2 : (Lit.int .u32 a2).wf = true) :
    Calls Try.prog 5 #[.slice a0 len0 cap0, .int .u16 a1, .int .u32 a2] w fun e w' => e = .returned (.bool true) ∧ Below w.heap.size w w' := by
  obtain ⟨c0, c1⟩ := bounds_u16 w1
  obtain ⟨x0, x1⟩ := bounds_u32 w2
  clear w1 w2
  obtain ⟨x, rfl⟩ : ∃ x : Nat, a2 = (x : Int) := ⟨a2.toNat, by omega⟩
  obtain rfl := h0.lenC
  obtain ⟨g1, g2⟩ := h0.capC
  unfold maxLen at g2
  by_cases hlong : 300 < l.length
  · have d1 : decide (300 < (l.length : Int)) = true := by simp; omega
    go_enter Try.func5, Try.ntmps5
    go_wp2_with fail
    refine (knownC_any _).mono ?_
    rintro e w1 ⟨rfl, hb1⟩
    go_wp2
    go_ret
    exact ⟨rfl, hb1⟩
  have d1 : decide (300 < (l.length : Int)) = false := by simp; omega
  by_cases hzero : l.length = 0
  · have d2 : ((l.length : Int) == 0) = true := beq_iff_eq.2 (by omega)
    clear hzero
    go_enter Try.func5, Try.ntmps5
    go_wp2_with fail
    refine (knownC_any _).mono ?_
    rintro e w1 ⟨rfl, hb1⟩
    go_wp2
    go_ret
    exact ⟨rfl, hb1⟩
  have d2 : ((l.length : Int) == 0) = false := beq_eq_false_iff_ne.2 (by omega)
  by_cases hx0 : x = 0
  · have d3 : ((x : Int) == 0) = true := beq_iff_eq.2 (by omega)
    clear hx0
    go_enter Try.func5, Try.ntmps5
    go_wp2_with fail
    refine (knownC_any _).mono ?_
    rintro e w1 ⟨rfl, hb1⟩
    go_wp2
    go_ret
    exact ⟨rfl, hb1⟩
  have d3 : ((x : Int) == 0) = false := beq_eq_false_iff_ne.2 (by omega)
  have hpos : 0 < l.length := by omega
  have hl300 : l.length ≤ 300 := by omega
  clear hlong hzero hx0
  go_enter Try.func5, Try.ntmps5
  go_wp2_with fail
  refine (knownC_any _).mono ?_
  rintro e w1 ⟨rfl, hb1⟩
  have H0 := h0.below hb1
  have hsz := hb1.size
  obtain ⟨n, hn⟩ : ∃ n : Nat, a1 % (l.length : Int) = (n : Int) := ⟨(a1 % (l.length : Int)).toNat, by have := Int.emod_nonneg a1 (show (l.length : Int) ≠ 0 by omega); omega⟩
  have hnl : n < l.length := by
    have := Int.emod_lt_of_pos a1 (show (0 : Int) < (l.length : Int) by omega)
    omega
  go_wp2_with (at_builtin; refine wpl_app _ rfl (.const (.slice none 0 0)) (.tmp 25) rfl w1.heap.size _ (.slice none 0 0) (.slice a0 l.length cap0) [] l rfl rfl (OB.nil _ _) H0 (by simp; omega) (Nat.le_refl _) ?_; intro v1 w2 hown1 hg1 hbel1 _; have hown : OB w2 w1.heap.size v1 l := hown1; obtain ⟨g, cap, rfl, hg3, hg4⟩ := World.ownsRow.form hown hpos; clear hown1 hg1)
  rw [hn]
  clear hn c0 c1
  have hown2 : OB w2 w1.heap.size (.slice (some ⟨g, 0, none⟩) l.length cap) (turnC l n x 0) := by rw [turnC_zero]; exact hown
  have hcap : l.length ≤ cap ∧ cap ≤ maxLen := hown.bs.capC
  obtain ⟨hcap1, hcap2⟩ := hcap
  unfold maxLen at hcap2
  go_loopw [9, 10] (fun t i wr => TurnRel l n x g cap w1 t i wr) (fun _ i _ => 4 - (intOf i).toNat)
  case atStart => exact ⟨0, by omega, by omega, rfl, rfl, hown2, hbel1⟩
  case round =>
    clear hown hown2 hbel1 hg4
    obtain ⟨k, hk, hnk, rfl, rfl, hown, hbel⟩ := hrel
    by_cases hlt : k < 4 ∧ n + k < l.length
    · obtain ⟨hk4, hnk4⟩ := hlt
      obtain ⟨ad0, rfl, cb⟩ := (H0.below (hbel.mono hsz)).cellC (n + k) hnk4
      have hx := turnC_len l n x k
      have cd := OB.cellAt (cap := cap) (g := g) (l := turnC l n x k) (by rw [hx]; exact hown) (n + k) (by rw [hx]; exact hnk4)
      rw [turnC_at l n x k hnk4] at cd
      have fd : wr.frozen? ⟨g, n + k, none⟩ = false := OB.frozenAt (cap := cap) (l := turnC l n x k) (by rw [hx]; exact hown) (n + k)
      have hst : OB (wr.setCell ⟨g, n + k, none⟩ (vB (l[n + k] ^^^ byteOf x k))) w1.heap.size (.slice (some ⟨g, 0, none⟩) l.length cap) (turnC l n x (k + 1)) := by
        have h := OB.stored (cap := cap) (g := g) (l := turnC l n x k) (by rw [hx]; exact hown) (n + k) (l[n + k] ^^^ byteOf x k)
        rw [turnC_set l n x k hnk4, hx] at h
        exact h
      generalize l[n + k] = y at *
      have e1 := xor8c y (byteOf x k)
      have e3 := xor_same y (byteOf x k)
      have e4 := sameC_succ x k
      have b7 := byteOf_spell x k
      have c2 : (wr.setCell ⟨g, n + k, none⟩ (.int .u8 ((y ^^^ byteOf x k).toNat : Int))).drew.cell? ⟨g, n + k, none⟩ = some (.int .u8 ((y ^^^ byteOf x k).toNat : Int)) := World.cell?_setCell_same' wr ⟨g, n + k, none⟩ _ (by rw [cd]; rfl)
      have hbel2 : Below w1.heap.size w1 (wr.setCell ⟨g, n + k, none⟩ (.int .u8 ((y ^^^ byteOf x k).toNat : Int))).drew := (hbel.setCell hg3 _).drew
      have cb2 : (wr.setCell ⟨g, n + k, none⟩ (.int .u8 ((y ^^^ byteOf x k).toNat : Int))).drew.cell? (ad0.add (n + k)) = some (vB y) := by
        have hblk : (ad0.add (n + k)).block < w1.heap.size := Nat.lt_of_lt_of_le (by
          rcases Nat.lt_or_ge (ad0.add (n + k)).block w.heap.size with hh | hh
          · exact hh
          · exact absurd rfl (Nat.ne_of_lt (Nat.lt_of_lt_of_le (H0.blockC (by omega)) (by rw [← block_add ad0 (n + k)]; exact hh)))) hsz
        rw [hbel2.cell hblk, ← hbel.cell hblk]
        exact cb
      have b1 : decide ((n : Int) + (k : Int) < (l.length : Int)) = true := by simp; omega
      have b2 : (0 : Int) ≤ (n : Int) + (k : Int) := by omega
      have b3 : ((n : Int) + (k : Int)).toNat = n + k := by omega
      have b5 : (n : Int) + (k : Int) < (l.length : Int) := by omega
      have b8 : (k : Int) < 4 := by omega
      obtain ⟨b4, b4'⟩ := wrap_small ((n : Int) + (k : Int)) b2 (by omega)
      obtain ⟨b6, b6'⟩ := wrap_small (8 * (k : Int)) (by omega) (by omega)
      unfold vB at cb cd hst cb2
      generalize (y ^^^ byteOf x k).toNat = zn at *
      generalize y.toNat = yn at *
      generalize (byteOf x k).toNat = dn at *
      generalize (byteOf x k == 0) = bb at *
      have e5 : ((zn : Int) == (yn : Int)) = bb := by
        rw [← e3, Bool.eq_iff_iff, beq_iff_eq, beq_iff_eq]
        omega
      have HST := Lib.hid hst
      have E4 := Lib.hid e4
      have C2 := Lib.hid c2
      have CB2 := Lib.hid cb2
      clear hst hx hown e3 e4 c2 cb2 hbel
      go_wp2_with fail
      go_region
      have c2 := C2.out
      have cb2 := CB2.out
      have hst2 : OB (wr.setCell ⟨g, n + k, none⟩ (.int .u8 (zn : Int))).drew w1.heap.size (.slice (some ⟨g, 0, none⟩) l.length cap) (turnC l n x (k + 1)) := HST.out
      have HST2 := Lib.hid hst2
      clear C2 CB2 HST hst2 cd cb fd
      generalize (wr.setCell ⟨g, n + k, none⟩ (.int .u8 (zn : Int))).drew = W2 at *
      cases hs : sameC x k
      · have hs1 : sameC x (k + 1) = false := by rw [E4.out, hs]; rfl
        have HS := Lib.hid hs1
        clear hs hs1
        go_wp2_with fail
        go_quiet (fail)
        go_wp2
        clear b7 b6 b6' b4 b4' b3 e1
        exact ⟨⟨k + 1, hk4, hnk4, by go_num, by rw [HS.out], HST2.out, ⟨hbel2.os, hbel2.tape, hbel2.output, hbel2.size, hbel2.block⟩⟩, by simp [intOf]; omega⟩
      · have hs1 : sameC x (k + 1) = bb := by rw [E4.out, hs]; rfl
        have HS := Lib.hid hs1
        clear hs hs1
        go_wp2_with fail
        go_quiet (fail)
        go_wp2
        clear b7 b6 b6' b4 b4' b3 e1
        exact ⟨⟨k + 1, hk4, hnk4, by go_num, by rw [HS.out], HST2.out, ⟨hbel2.os, hbel2.tape, hbel2.output, hbel2.size, hbel2.block⟩⟩, by simp [intOf]; omega⟩
    · have hend : k = 4 ∨ (k < 4 ∧ n + k = l.length) := by omega
      have hiff := turned_iff l n x k hk hnk
      have hbs : BS wr wr.heap.size (.slice (some ⟨g, 0, none⟩) l.length cap) (turnC l n x k) := by
        have h := hown
        exact h.bs
      have hbw : Below w.heap.size w wr := hb1.trans (hbel.mono hsz)
      have hb : BS wr wr.heap.size (.slice a0 l.length cap0) l := (h0.below hbw).more hbw.size
      have N0 : l.length ≤ 1099511627776 := by omega
      have N1 : (turnC l n x k).length ≤ 1099511627776 := by rw [turnC_len]; omega
      have hb0 : Below wr.heap.size wr wr := Below.refl _ _
      have hsw := hbw.size
      obtain ⟨r0, e0⟩ : ∃ r, moreC 0 l = r := ⟨_, rfl⟩
      obtain ⟨r1, e1⟩ : ∃ r, moreC 0 (turnC l n x k) = r := ⟨_, rfl⟩
      rw [e0, e1] at hiff
      have ef := ef_of r1 r0 (sameC x k) hiff
      have E0 := Lib.hid e0
      have E1 := Lib.hid e1
      generalize sameC x k = sm at *
      clear e0 e1 hiff hown hlt h0 H0 hb1 hbel
      rcases hend with rfl | ⟨hk4, hnk4⟩
      · go_wp2_with fail
        refine (sum_in (W := wr) hb0 hbs N1 E1.out).mono ?_
        rintro e w3 ⟨rfl, hb3⟩
        go_wp2_with fail
        refine (sum_in (W := wr) hb3 hb N0 E0.out).mono ?_
        rintro e w4 ⟨rfl, hb4⟩
        go_wp2
        go_ret
        exact ⟨rfl, hbw.trans (hb4.mono hsw)⟩
      · have b1 : decide ((n : Int) + (k : Int) < (l.length : Int)) = false := by simp; omega
        clear hnk4
        go_wp2_with fail
        refine (sum_in (W := wr) hb0 hbs N1 E1.out).mono ?_
        rintro e w3 ⟨rfl, hb3⟩
        go_wp2_with fail
        refine (sum_in (W := wr) hb3 hb N0 E0.out).mono ?_
        rintro e w4 ⟨rfl, hb4⟩
        go_wp2
        go_ret
        exact ⟨rfl, hbw.trans (hb4.mono hsw)⟩
end Go.Proofs.Ytaiclombimdkmaa
