/- What is proved here: the law LebShort, called with any uint64 number and any two bytes, returns true and leaves alone whatever memory was there. -/
import Derived.Test.YtgnonicglkoikaaLebKnown
import Derived.Test.YtgnonicglkoikaaLebEdge
namespace Go.Proofs.Ytgnonicglkoikaa
open Go.RowKit
set_option linter.unusedVariables false

/-- A beginning of a row of the call's own. -/
theorem OB.cutH {w : World} {base : Nat} {A : Option Addr} {n c : Nat} {l : List UInt8} (h : OB w base (.slice A n c) l) (m : Nat) (hm : m ≤ l.length) : OB w base (.slice A m c) (l.take m) := by
  unfold OB at h ⊢
  have hlen : (l.take m).length = m := by simp; omega
  rw [hlen]
  refine ⟨by simp [vBs]; omega, ?_⟩
  rcases h.2 with ⟨hv, hn⟩ | ⟨g, cap, cur, hv, hbg, hg, hnc, hcm, hcs, htake⟩
  · simp only [Value.slice.injEq] at hv
    obtain ⟨rfl, _, rfl⟩ := hv
    have : m = 0 := by omega
    subst this
    exact Or.inl ⟨rfl, rfl⟩
  · simp only [Value.slice.injEq] at hv
    obtain ⟨rfl, rfl, rfl⟩ := hv
    refine Or.inr ⟨g, _, cur, rfl, hbg, hg, by omega, hcm, hcs, ?_⟩
    have e : vBs (l.take m) = (vBs l).take m := by simp [vBs, List.map_take]
    rw [e, ← htake, List.take_take]
    congr 1
    omega

def nines : List UInt8 := [0, 0, 0, 0, 0, 0, 0, 0, 0]
theorem putB_nines : putB nines = [9, 0, 0, 0, 0, 0, 0, 0, 0, 0] := by decide
theorem short_iff : ∀ i : Nat, i ≤ 9 → (readB ((putB nines).take (i + 1)) 9).2.2 = if i < 9 then 22 else 0 := by decide

set_option maxHeartbeats 400000 in
theorem lebShort_walk (n k cut : Int) (wn : (Lit.int .u64 n).wf = true) (wk : (Lit.int .u8 k).wf = true) (wc : (Lit.int .u8 cut).wf = true) (w : World) :
    Calls Try.prog 6 #[.int .u64 n, .int .u8 k, .int .u8 cut] w fun e w' => e = .returned (.bool true) ∧ Below w.heap.size w w' := by
  obtain ⟨n0, n1⟩ := bounds_u64 wn
  obtain ⟨k0, k1⟩ := bounds_u8 wk
  obtain ⟨c0, c1⟩ := bounds_u8 wc
  clear wn wk wc
  have hmk : ∀ W : World, (Instr.makeSlice 23 (.int .i64 9) (.int .i64 9)).run Try.prog W = .ok (.slice (some ⟨W.heap.size, 0, none⟩) 9 9)
    (W.alloc (.cells #[.int .u8 0, .int .u8 0, .int .u8 0, .int .u8 0, .int .u8 0, .int .u8 0, .int .u8 0, .int .u8 0, .int .u8 0] 5)) := fun _ => by kernel_rfl
  go_enter Try.func6, Try.ntmps6
  go_wp2_with fail
  refine (known_any _).mono ?_
  rintro e w1 ⟨rfl, hb1⟩
  go_wp2_with fail
  refine (edge_any n k n0 (by omega) k0 (by omega) _).mono ?_
  rintro e w2 ⟨x, x0, x1, rfl, hb⟩
  have hb2 := hb1.trans (hb.mono hb1.size)
  clear hb hb1 n0 n1 k0 k1
  go_wp2_with fail
  refine (put_any x x0 x1 _).mono ?_
  rintro e w4 ⟨p, rfl, hp, hb⟩
  have hb4 := hb2.trans (hb.mono hb2.size)
  have hbs := hp.bs
  have hshort := readL_short x.toNat
  obtain ⟨m1, m2⟩ := lebP_length x.toNat
  generalize lebP x.toNat = l at *
  obtain ⟨P, pc, rfl, hpc, _⟩ := hp.bs
  have HS := Lib.hid hshort
  clear hshort hp hb hb2
  generalize hm : l.length = m at *
  have HM := Lib.hid hm
  clear hm
  have d0 : 0 ≤ cut % (m : Int) := Int.emod_nonneg _ (by omega)
  have d1 : cut % (m : Int) < (m : Int) := Int.emod_lt_of_pos _ (by omega)
  go_wp2_with fail
  generalize cut % (m : Int) = i at *
  obtain ⟨j, rfl⟩ := Int.eq_ofNat_of_zero_le d0
  simp only [Int.toNat_natCast]
  have j1 : j < m := by omega
  have hbs2 : BS w4 w4.heap.size (.slice P j pc) (l.take j) := hbs.cutH j j (by have := HM.out; omega) rfl
  have hlt : (l.take j).length ≤ 10 := by simp; omega
  refine (read_at hbs2 (by omega) (x := 0) (k := 0) (er := 22) (by omega) (HS.out j j1)).mono ?_
  rintro e w5 ⟨rfl, rfl⟩
  clear hbs hbs2 HS HM d0 d1
  have hz := hb4.size
  go_wp2_with fail
  refine (putbytes_any _ nines _ (BS.more (BS.lit w4 nines 9 _ _ rfl (by simp [nines, vBs, vB]) (by simp [nines])) (by simp)) (by simp [nines])).mono ?_
  rintro e w5 ⟨v, rfl, hv, hb⟩
  have hb5 : Below w.heap.size w w5 := (hb4.alloc hz _).trans (hb.mono (by simp; omega))
  have hv' : OB w5 w.heap.size v (putB nines) := by
    refine ⟨hv.1, ?_⟩
    rcases hv.2 with h | ⟨g, cap, cur, h1, h2, h3⟩
    · exact Or.inl h
    · exact Or.inr ⟨g, cap, cur, h1, by simp at h2; omega, h3⟩
  obtain ⟨A, c, rfl, hc, _⟩ := hv'.bs
  have hl10 : (putB nines).length = 10 := by decide
  rw [hl10] at hv' hc ⊢
  have hcut := hv'.cutH (1 + j) (by omega)
  have hlen : ((putB nines).take (1 + j)).length = 1 + j := by simp; omega
  have htk : ((putB nines).take (1 + j) ++ [UInt8.ofNat (0 : Int).toNat]).take (1 + j) = (putB nines).take (j + 1) := by
    rw [List.take_append_of_le_length (by omega), List.take_take, Nat.min_self, Nat.add_comm]
  have HLEN := Lib.hid hlen
  have HTK := Lib.hid htk
  clear hv hb hb4 hmk hl10 hv' hlen htk
  have hz5 := hb5.size
  have hone := BS.one' w5 0 (by omega) (by omega) 5
  go_wp2_with (at_builtin; refine wpl_app _ rfl (.tmp 39) (.tmp 40) rfl w.heap.size _ _ _ _ _ rfl rfl (hcut.alloc _) hone (by rw [HLEN.out]; simp; omega) (by simp; omega) ?_; intro v2 w6 hown2 _ hbel2 _; have hb6 := hown2.bs; have hbb := hb6; obtain ⟨A2, c2, rfl, hc2, _⟩ := hbb; rw [List.length_append, HLEN.out, List.length_singleton] at hc2)
  have hrd := hb6.cutH (1 + j) (1 + j) (by rw [List.length_append, HLEN.out]; omega) rfl
  rw [HTK.out] at hrd
  have hb7 : Below w.heap.size w w6 := (hb5.alloc hz5 _).trans hbel2
  have hs := short_iff j (by omega)
  have hln : ((putB nines).take (j + 1)).length ≤ 1048576 := by simp; omega
  generalize (putB nines).take (j + 1) = q at *
  clear hb6 hown2 hbel2 hb5 hcut hone HTK HLEN
  refine (readbytes_any _ q 9 _ hrd hln (by omega) (by omega)).mono ?_
  rintro e w8 ⟨u, rfl, hu, hb⟩
  have hb8 := hb7.trans (hb.mono hb7.size)
  rw [hs]
  generalize (readB q 9).2.1 = r1
  clear hu hb hb7 hrd hs hln
  by_cases h9 : j < 9
  · rw [if_pos h9]
    have d9 : decide ((j : Int) < 9) = true := by simp; omega
    go_wp2
    go_ret
    exact ⟨rfl, hb8⟩
  · rw [if_neg h9]
    have d9 : decide ((j : Int) < 9) = false := by simp; omega
    go_wp2
    go_ret
    exact ⟨rfl, hb8⟩
end Go.Proofs.Ytgnonicglkoikaa
