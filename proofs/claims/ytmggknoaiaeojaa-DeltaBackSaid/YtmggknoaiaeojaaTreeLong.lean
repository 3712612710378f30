/- What is proved here: a contract of the program's function that looks up the longest match in a suffix tree. -/
import Derived.Test.YtmggknoaiaeojaaTreeFind
namespace Go.Proofs.Ytmggknoaiaeojaa
open Go.RowKit
set_option linter.unusedVariables false

theorem alike_cut (T b : List UInt8) (s e d C : Nat) (hs : s ≤ e) (he : e ≤ T.length) (hd : d ≤ b.length) (hC : commonL ((T.drop s).take (e - s)) (b.drop d) = C) :
    s + C ≤ e ∧ d + C ≤ b.length ∧ (∀ x, x < C → chL T (s + x) = chL b (d + x)) ∧ (s + C = e ∨ d + C = b.length ∨ chL T (s + C) ≠ chL b (d + C)) := by
  have hle := common_le ((T.drop s).take (e - s)) (b.drop d)
  rw [hC] at hle
  simp only [List.length_take, List.length_drop] at hle
  refine ⟨by omega, by omega, fun x hx => ?_, ?_⟩
  · obtain ⟨x1, x2, x3⟩ := common_at ((T.drop s).take (e - s)) (b.drop d) x (by omega)
    rw [List.getElem_take, List.getElem_drop, List.getElem_drop] at x3
    rw [chL_at T _ (by omega), chL_at b _ (by omega)]
    exact x3
  · have hh := common_halt ((T.drop s).take (e - s)) (b.drop d)
    simp only [hC] at hh
    rcases hh with h | h | ⟨h1, h2, h3⟩
    · simp only [List.length_take, List.length_drop] at h
      exact .inl (by omega)
    · simp only [List.length_drop] at h
      exact .inr (.inl (by omega))
    · simp only [List.length_take, List.length_drop] at h1 h2
      rw [List.getElem_take, List.getElem_drop, List.getElem_drop] at h3
      rw [chL_at T _ (by omega), chL_at b _ (by omega)]
      exact .inr (.inr h3)
def LoRel (T b : List UInt8) (w0 : World) (t : Tr) (pv zv uv : Value) (wr : World) : Prop :=
  ∃ u place : Nat, FOk (chL T) (chL b) b.length t u place ∧ pv = .int .i64 (place : Int) ∧ zv = .int .i64 (t.dep u : Int) ∧ uv = .int .i64 (u : Int) ∧ Below w0.heap.size w0 wr
def PostLong (T b : List UInt8) (w : World) (e : Ending) (w' : World) : Prop := e = .returned (.tuple #[.int .i64 ((longL T b).2 : Int), .int .i64 ((longL T b).1 : Int)]) ∧ Below w.heap.size w w'
theorem post_long {T b : List UInt8} {w w' : World} {place size : Nat} (h : Best (chL T) (chL b) T.length b.length place size) (hb : Below w.heap.size w w') : PostLong T b w (.returned (.tuple #[.int .i64 (place : Int), .int .i64 (size : Int)])) w' := by
  refine ⟨?_, hb⟩
  rw [best_long T b place size h]

set_option maxHeartbeats 4000000 in
set_option maxRecDepth 100000 in
theorem longest_any {T : List UInt8} {sv : Value} {base tb : Nat} {w : World} (hG : Grown T sv base tb w) (bv : Value) (b : List UInt8) (h2 : BS w w.heap.size bv b) (hT : T.length ≤ 1048576) (hl2 : b.length ≤ 1048576) :
    Calls Try.prog 14 #[.pointer (some ⟨tb, 0, none⟩), bv] w (PostLong T b w) := by
  obtain ⟨mb, nv, t, n, k0, u0, htt, hgo⟩ := hG
  obtain ⟨A1, c1, rfl, g1, g2, -⟩ := htt.bs.at_
  obtain ⟨A2, c2, rfl, g3, g4, -⟩ := h2.at_
  unfold maxLen at g2 g4
  have hmm := hgo.many
  have hk0 := hgo.kp
  have HT := Lib.hid htt
  have HGO := Lib.hid hgo
  have HB := Lib.hid h2
  obtain ⟨G, kk, cur, rfl, q1, q2, q3, q4, q5⟩ := htt.row.open_ (by rw [nodesOf_len]; exact hgo.tok.pos)
  rw [nodesOf_len] at q3
  clear htt hgo h2 q5
  go_enter Try.func14, Try.ntmps14
  go_wp2
  go_loopw [4, 5, 6] (fun pv zv uv wr => LoRel T b w t pv zv uv wr) (fun _ zv _ _ => b.length - (intOf zv).toNat)
  case atStart => exact ⟨0, 0, FOk.start HGO.out.tok, rfl, by rw [HGO.out.tok.root]; rfl, rfl, Below.refl _ _⟩
  case round =>
    obtain ⟨u, place, hF, rfl, rfl, rfl, hbel⟩ := hrel
    have hul := hF.lt
    have hdle := hF.le
    have HF := Lib.hid hF
    have HBE := Lib.hid hbel
    have hszr := hbel.size
    clear hF hbel
    obtain ⟨d, hd⟩ : ∃ d, t.dep u = d := ⟨_, rfl⟩
    rw [hd] at hdle ⊢
    have HD := Lib.hid hd
    clear hd
    by_cases hlt : d < b.length
    rotate_left
    · obtain rfl : d = b.length := by omega
      go_wp2
      go_ret2
      have := HF.out.ends HGO.out.tok (.inl HD.out)
      rw [HD.out] at this
      exact post_long this HBE.out
    have HTR := Lib.hid (HT.out.below HBE.out)
    obtain ⟨⟨c0, cc1, cc2⟩, -⟩ := HTR.out.cells
    obtain ⟨ad2, rfl, hc⟩ := (HB.out.below HBE.out).cellC d hlt
    have c2' : wr.drew.cell? ⟨tb, 2, none⟩ = _ := cc2
    have hc' : wr.drew.cell? (ad2.add d) = _ := hc
    have hbr := branch_any u (b[d]) wr.drew (by omega)
    have hchb : chL b d = b[d] := chL_at b d hlt
    rcases hbl : t.bl u (b[d]) with _ | v
    · have hrun := HTR.out.drew.map.look_none (u := u) (c := b[d]) (by omega) hbl
      have HBL := Lib.hid hbl
      clear hbl
      go_wp2
      refine wp_region_still_lit (by kernel_rfl) (by kernel_rfl) ?_
      repeat still_step
      still_call hbr
      repeat still_step
      refine wpStill_nil ?_
      change Exit.then _ _ _ _ wr.drew
      clear c2' hc' hbr hrun
      go_wp2
      go_ret2
      have := HF.out.stops HGO.out.tok HGO.out.pres (by rw [HD.out, hchb]; exact HBL.out)
      rw [HD.out] at this
      exact post_long this HBE.out.drew
    · have hrun := HTR.out.drew.map.look_some (u := u) (v := v) (c := b[d]) (by omega) hbl
      obtain ⟨b1, b2, b3, b4⟩ := HGO.out.tok.back _ _ _ hbl
      have hdv := HGO.out.tok.dep_lt v b1 b2
      rw [b3, HD.out] at hdv
      have hfv := HGO.out.tok.fits v b1 b2
      have hnode : nodeOf t v = (t.fst v + d, t.fst v + t.dep v, t.lk v) := by unfold nodeOf; rw [b3, HD.out]
      have HBL := Lib.hid hbl
      have HND := Lib.hid hnode
      clear hbl hnode b3 b4
      go_wp2
      refine wp_region_still_lit (by kernel_rfl) (by kernel_rfl) ?_
      repeat still_step
      still_call hbr
      repeat still_step
      refine wpStill_nil ?_
      change Exit.then _ _ _ _ wr.drew
      clear c2' hc' hbr hrun c0 cc1 cc2 hc
      have HTD := Lib.hid HTR.out.drew
      have HBD := Lib.hid HBE.out.drew
      generalize wr.drew = D at HTD HBD ⊢
      obtain ⟨⟨c0, cc1, cc2⟩, -⟩ := HTD.out.cells
      obtain ⟨c3, c4, c5⟩ := HTD.out.row.threeAt v _ (nodesOf_get t v b2)
      rw [HND.out] at c3 c4 c5
      rw [nodesOf_len] at cc1
      obtain ⟨s, hs⟩ : ∃ s, t.fst v + d = s := ⟨_, rfl⟩
      obtain ⟨e, he⟩ : ∃ e, t.fst v + t.dep v = e := ⟨_, rfl⟩
      simp only [hs, he] at c3 c4 c5
      have ltb := lt_of_heap HTD.out.blk
      have lg := HTD.out.row.open_ (by rw [nodesOf_len]; omega)
      have hszD : w.heap.size ≤ D.heap.size := HBD.out.size
      go_wp2
      have HSE := Lib.hid hs
      have HEE := Lib.hid he
      have hse : s < e := by omega
      have heT : e ≤ T.length := by omega
      have hsd : (s : Int) - (d : Int) = (t.fst v : Int) := by omega
      clear hs he c0 cc1 cc2 c3 c4 c5 lg
      have HTW := Lib.hid (HTD.out.alloc (.cells #[.int .i64 (s : Int), .int .i64 (e : Int), .int .i64 (t.lk v : Int)] 56))
      have HBW := Lib.hid (HBD.out.alloc hszD (.cells #[.int .i64 (s : Int), .int .i64 (e : Int), .int .i64 (t.lk v : Int)] 56))
      have hnb : (D.alloc (.cells #[.int .i64 (s : Int), .int .i64 (e : Int), .int .i64 (t.lk v : Int)] 56)).heap[D.heap.size]? = some (.cells #[.int .i64 (s : Int), .int .i64 (e : Int), .int .i64 (t.lk v : Int)] 56) := by
        show (D.heap.push _)[D.heap.size]? = _
        simp
      generalize World.alloc D _ = W at HTW HBW hnb ⊢
      have n0 : W.cell? ⟨D.heap.size, 0, none⟩ = some (.int .i64 (s : Int)) := by rw [cell_of_row W _ 0 _ _ _ hnb]; rfl
      have n1 : W.cell? ⟨D.heap.size, 1, none⟩ = some (.int .i64 (e : Int)) := by rw [cell_of_row W _ 1 _ _ _ hnb]; rfl
      clear hnb
      obtain ⟨⟨c0, -, -⟩, -⟩ := HTW.out.cells
      obtain ⟨ad1, rfl, -⟩ := HTW.out.bs.cellC s (by omega)
      have hcs : ¬ c1 = s := by omega
      have hcd : ¬ c2 = d := by omega
      obtain ⟨C, hC⟩ : ∃ C, commonL ((T.drop s).take (e - s)) (b.drop d) = C := ⟨_, rfl⟩
      have hal : ∀ m, Calls Try.prog 24 #[.slice (some (ad1.add s)) (e - s) (c1 - s), .slice (some (ad2.add d)) (b.length - d) (c2 - d)] (W.drewN m) fun e w' => e = .returned (.int .i64 (C : Int)) ∧ ∃ m', w' = (W.drewN m).drewN m' := by
        intro m
        rw [← hC]
        have x1 := (HTW.out.bs.below (below_drewN (Below.refl _ _) m)).cut s (e - s) (e - s) (by omega) rfl
        rw [if_neg hcs] at x1
        have x2 := ((HB.out.below HBW.out).below (below_drewN (Below.refl _ _) m)).cut d (b.length - d) (b.length - d) (by omega) rfl
        rw [if_neg hcd, List.take_of_length_le (by simp)] at x2
        have hmx : base ≤ W.heap.size := HTW.out.size
        have hmy : w.heap.size ≤ W.heap.size := HBW.out.size
        exact alike_any _ _ _ _ _ W.heap.size (x1.more hmx) (x2.more hmy) (by simp; omega) (by simp; omega)
      obtain ⟨a1, a2, a3, a4⟩ := alike_cut T b s e d C (by omega) heT (by omega) hC
      have HGS := Lib.hid (HF.out.goes HGO.out.tok HGO.out.pres (same := C) (v := v) (by rw [HD.out]; exact hlt) (by rw [HD.out, hchb]; exact HBL.out)
        (by have := HSE.out; have := HEE.out; rw [HD.out]; omega) (by rw [HD.out]; exact a2)
        (by rw [HD.out, HSE.out]; exact a3)
        (by rw [HD.out, HSE.out]; rcases a4 with a4 | a4 | a4
            · exact .inl (by have := HSE.out; have := HEE.out; omega)
            · exact .inr (.inl a4)
            · exact .inr (.inr a4)))
      clear a3 a4 hC
      have s1 : e - s ≤ e := by omega
      go_quiet (first
        | (go_at_call 24; exact Calls.quiet_of (hal _)))
      by_cases hCe : s + C < e
      · have dd : decide ((C : Int) < (e : Int) - (s : Int)) = true := by simp; omega
        go_wp2
        go_ret2
        have h1 := HGS.out.2.1 (by have := HSE.out; have := HEE.out; rw [HD.out]; omega)
        rw [HD.out] at h1
        have h2 := post_long h1 (below_drewN HBW.out nq)
        rw [show ((d + C : Nat) : Int) = (d : Int) + (C : Int) by omega, ← hsd] at h2
        exact h2
      · have dd : decide ((C : Int) < (e : Int) - (s : Int)) = false := by simp; omega
        go_wp2
        go_roundw
        case rel =>
          refine ⟨v, t.fst v, HGS.out.1 (by have := HSE.out; have := HEE.out; rw [HD.out]; omega), by rw [hsd], ?_, rfl, below_drewN HBW.out nq⟩
          have := HSE.out
          have := HEE.out
          have e1 : (t.dep v : Int) = (d : Int) + (C : Int) := by omega
          rw [e1]
        case measure =>
          have := HGS.out.2.2
          simp [intOf]
          omega
end Go.Proofs.Ytmggknoaiaeojaa
