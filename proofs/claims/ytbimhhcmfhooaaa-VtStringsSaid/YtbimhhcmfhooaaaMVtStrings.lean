/- What is proved here: the law VtStrings, called with any bytes, any number and any bool, returns true and leaves alone whatever memory was there; for every input the law VtStrings answers true (of a string nothing is printed up to its end, and what ends it); no condition. -/
import Derived.Test.YtbimhhcmfhooaaaM11
import Derived.Laws.IdiomStrings
import Derived.Test.YtbimhhcmfhooaaaRows
import Derived.WalkKit
import Derived.ProofKit
import Derived.OpenShut
import Derived.ShutString
import Derived.ChangeOld
import Derived.Below
namespace Go.Proofs.Ytbimhhcmfhooaaa
open Go.RowKit
set_option linter.unusedVariables false
set_option linter.unusedSimpArgs false

/-- A string's bytes in new memory. -/
theorem run_strB (w : World) (s : ByteArray) (hs : s.size ≤ 1048576) : ∃ A c w', (convert 9 22 (.string s)).run Try.prog w = .ok (.slice (some A) s.size c) w' ∧ BS w' w'.heap.size (.slice (some A) s.size c) s.data.toList ∧ Below w.heap.size w w' := by
  refine ⟨_, _, _, run_bytes_of_string (P := Try.prog) w 9 22 5 s Try.underlying9 Try.underlying22 Try.underlying5, ?_, (Below.drew (Below.refl _ _)).alloc (Nat.le_refl _) _⟩
  have hl : s.data.toList.length = s.size := by
    show s.data.toList.length = s.data.size
    exact Array.length_toList
  refine ⟨_, _, by rw [hl], by rw [hl]; exact grownCap_ge _ _ _ _, grownCap_le_maxLen _ _ _ _ (by unfold maxLen; omega), fun h0 => ⟨_, rfl, by simp, fun j b hj => ?_⟩⟩
  have hj1 : j < s.data.size := by
    have := (List.getElem?_eq_some_iff.1 hj).1
    simpa using this
  refine World.news_of_block (heap_alloc_new _ _) j _ ?_
  have e := bytesRow_at s (grownCap w s.size 0 5) j hj1
  have hb : s.data[j] = b := by
    have := (List.getElem?_eq_some_iff.1 hj).2
    simpa using this
  rw [hb] at e
  simpa [vB] using e
def keepB (b : UInt8) : Bool := decide (b.toNat ≠ 24) && decide (b.toNat ≠ 26) && decide (b.toNat ≠ 27) && decide (b.toNat ≠ 7)
def FilRel (l : List UInt8) (w : World) (o i : Value) (wr : World) : Prop := ∃ k : Nat, k ≤ l.length ∧ i = .int .i64 (k : Int) ∧ OB wr w.heap.size o ((l.take k).filter keepB) ∧ Below w.heap.size w wr
theorem fil_next (l : List UInt8) (k : Nat) (hk : k < l.length) : (l.take (k + 1)).filter keepB = (l.take k).filter keepB ++ (if keepB l[k] = true then [l[k]] else []) := by
  rw [List.take_succ_eq_append_getElem hk, List.filter_append]
  congr 1
  by_cases h : keepB l[k] = true
  · rw [if_pos h, List.filter_cons_of_pos h]; rfl
  · rw [if_neg h, List.filter_cons_of_neg h]; rfl
theorem fil_len (l : List UInt8) : (l.filter keepB).length ≤ l.length := List.length_filter_le _ _
theorem OB.lit7 (w : World) (l : List UInt8) (cs : Array Value) (n : Nat) (hn : n = l.length) (hcs : cs = (vBs l).toArray) (hm : l.length ≤ 1048576) : OB (w.alloc (.cells cs 5)) w.heap.size (.slice (some ⟨w.heap.size, 0, none⟩) n n) l := by
  subst hn
  subst hcs
  have := World.ownsRow_lit (base := w.heap.size) (e := 5) (size := 1) w (vBs l).toArray l.length (Nat.le_refl _) (by simp [maxLen]; omega) (by simp [vBs])
  unfold OB
  exact this
/-- From the string's end on. -/
def TailPost (w : World) (e : Ending) (w' : World) : Prop := e = .returned (.bool true) ∧ Below w.heap.size w w'
set_option maxHeartbeats 4000000 in
set_option maxRecDepth 100000 in
theorem vtStrings_walk (a0 : Option Addr) (len0 cap0 : Nat) (z0 : List UInt8) (a1 : Int) (a2 : Bool) (w : World) (w0 : BS w w.heap.size (.slice a0 len0 cap0) z0) (w1 : (Lit.int .u8 a1).wf = true) :
    Calls Try.prog 7 #[.slice a0 len0 cap0, .int .u8 a1, .bool a2] w fun e w' => e = .returned (.bool true) ∧ Below w.heap.size w w' := by
  obtain ⟨_, _, hv0, -⟩ := w0.at_
  simp only [Value.slice.injEq] at hv0
  obtain ⟨-, rfl, -⟩ := hv0
  have W0 := Lib.hid w0
  obtain ⟨k0, k1⟩ := bounds_u8 w1
  clear w0 w1
  have hk := knownV_any w
  by_cases t0 : 60 < (z0.length : Int)
  · go_enter Try.func7, Try.ntmps7
    go_wp2_with (go_at_call 8; refine hk.mono ?_; rintro e wk ⟨rfl, hbk⟩)
    go_ret
    exact ⟨rfl, hbk⟩
  have t0' : decide (60 < (z0.length : Int)) = false := by simp; omega
  go_enter Try.func7, Try.ntmps7
  go_wp2_with fail
  refine hk.mono ?_
  rintro e w1 ⟨rfl, hb1⟩
  have HB1 := Lib.hid hb1
  have hz1 := hb1.size
  clear hk hb1
  go_wp2
  go_loopw [7, 8] (fun o i wr => FilRel z0 w1 o i wr) (fun _ i _ => z0.length - (intOf i).toNat)
  case atStart => exact ⟨0, Nat.zero_le _, rfl, by simpa using OB.nil _ _, Below.refl _ _⟩
  case round =>
    obtain ⟨i, hi, rfl, ho, hbel⟩ := hrel
    have HOO := Lib.hid ho
    have HBE := Lib.hid hbel
    have hle := hbel.size
    have hii : (i : Int) ≤ 60 := by omega
    clear ho hbel
    by_cases hlt : i < z0.length
    · obtain ⟨ad, hA, hc⟩ := ((W0.out.below HB1.out).below (HBE.out.mono hz1)).cellC i hlt
      subst hA
      have hfn := fil_next z0 i hlt
      have hfl := fil_len (z0.take i)
      rw [List.length_take] at hfl
      unfold vB at hc
      obtain ⟨x, hx⟩ : ∃ x : UInt8, z0[i] = x := ⟨_, rfl⟩
      rw [hx] at hc hfn
      have hx8 := x.toNat_lt
      by_cases hkp : keepB x = true
      · rw [if_pos hkp] at hfn
        have HFN := Lib.hid hfn
        unfold keepB at hkp
        simp only [Bool.and_eq_true, decide_eq_true_eq] at hkp
        have b1 : (((x.toNat : Nat) : Int) != 24) = true := by simp; omega
        have b2 : (((x.toNat : Nat) : Int) != 26) = true := by simp; omega
        have b3 : (((x.toNat : Nat) : Int) != 27) = true := by simp; omega
        have b4 : (((x.toNat : Nat) : Int) != 7) = true := by simp; omega
        clear hfn hkp hx
        go_wp2_with (first
          | (at_builtin; refine wpl_app _ rfl (.tmp 53) (.tmp 58) rfl w1.heap.size _ _ _ ((z0.take i).filter keepB) [x] rfl rfl (HOO.out.alloc _) (BS.one wr x _) (by simp; omega) (by simp; omega) ?_; intro v3 w3 ho3 hg3 hb3 _))
        go_roundw
        case rel => exact ⟨i + 1, hlt, by go_num, by rw [HFN.out]; exact ho3, (HBE.out.alloc hle _).trans hb3⟩
        case measure => simp [intOf]; omega
      · rw [if_neg hkp, List.append_nil] at hfn
        have HFN := Lib.hid hfn
        have hkk : x.toNat = 24 ∨ x.toNat = 26 ∨ x.toNat = 27 ∨ x.toNat = 7 := by
          unfold keepB at hkp
          simp only [Bool.and_eq_true, decide_eq_true_eq] at hkp
          omega
        clear hfn hkp hx
        rcases hkk with h | h | h | h
        all_goals
          rw [h] at hc
          clear h hx8
          go_wp2
          go_roundw
          case rel => exact ⟨i + 1, hlt, by go_num, by rw [HFN.out]; exact HOO.out, HBE.out⟩
          case measure => simp [intOf]; omega
    · obtain rfl : i = z0.length := by omega
      rw [List.take_length] at HOO
      have hfl := fil_len z0
      have hkeep : ∀ c ∈ z0.filter keepB, c.toNat ≠ 24 ∧ c.toNat ≠ 26 ∧ c.toNat ≠ 27 ∧ c.toNat ≠ 7 := by
        intro c hc
        have := (List.mem_filter.1 hc).2
        unfold keepB at this
        simp only [Bool.and_eq_true, decide_eq_true_eq] at this
        omega
      have HKE := Lib.hid hkeep
      clear hkeep
      generalize z0.filter keepB = F at *
      obtain ⟨j, hj⟩ : ∃ j : Nat, a1 % 5 = (j : Int) := ⟨(a1 % 5).toNat, by omega⟩
      have hj5 : j = 0 ∨ j = 1 ∨ j = 2 ∨ j = 3 ∨ j = 4 := by omega
      have hF := HOO.out.bs
      obtain ⟨AF, cF, rfl, f1, f2, -⟩ := hF.at_
      have HF := Lib.hid hF
      have hs7 := run_strB
      have HS7 := Lib.hid hs7
      clear hF hs7
      have hend : ∃ kb : UInt8, (kb = 93 ∨ kb = 80 ∨ kb = 88 ∨ kb = 94 ∨ kb = 95) ∧ ∀ (h : j < (⟨#[93, 80, 88, 94, 95]⟩ : ByteArray).size), (⟨#[93, 80, 88, 94, 95]⟩ : ByteArray)[j] = kb := by
        rcases hj5 with rfl | rfl | rfl | rfl | rfl
        · exact ⟨93, .inl rfl, fun _ => rfl⟩
        · exact ⟨80, .inr (.inl rfl), fun _ => rfl⟩
        · exact ⟨88, .inr (.inr (.inl rfl)), fun _ => rfl⟩
        · exact ⟨94, .inr (.inr (.inr (.inl rfl))), fun _ => rfl⟩
        · exact ⟨95, .inr (.inr (.inr (.inr rfl))), fun _ => rfl⟩
      obtain ⟨kb, hkb, hget⟩ := hend
      have hj5l : j < 5 := by omega
      have hget2 := hget hj5l
      clear hj5 hget
      go_wp2_with (first
        | (at_builtin; refine wpl_app _ rfl (.tmp 63) (.tmp 64) rfl wr.heap.size _ _ _ [27, kb] F rfl rfl (OB.lit7 wr [27, kb] _ 2 rfl rfl (by simp)) (HF.out.alloc (Nat.le_refl _) _) (by simp; omega) (by simp) ?_; intro v3 w3 ho3 hg3 hb3 _))
      have hal := allw_any (PW.zero w3) (prM_ok 0 (by omega) (by omega) (by omega)) ho3.bs (by simp; omega)
      rw [show [27, kb] ++ F = 27 :: kb :: F from rfl, vt_string kb hkb F HKE.out] at hal
      have HB3 := Lib.hid ((HB1.out.trans (HBE.out.mono hz1)).trans (((Below.refl wr.heap.size wr).alloc (Nat.le_refl _) _).trans hb3 |>.mono (Nat.le_trans hz1 hle)))
      clear hg3 hb3 ho3 hget2 hj hkb
      refine hal.mono ?_
      rintro e w4 ⟨m, pv, Ap, np, cp, Ai, ni, ci, Au, nu, cu, Aa, na, ca, rfl, ⟨hm, hpv, hnp, hni, hnu, hna, x1, x2⟩, hpw, haw, hb4⟩
      obtain rfl : m = 7 := hm
      obtain rfl : pv = 0 := hpv
      obtain rfl : np = 0 := hnp
      obtain rfl : ni = 0 := hni
      obtain rfl : nu = 0 := hnu
      obtain rfl : na = 0 := hna
      have HB4 := Lib.hid (HB3.out.trans (hb4.mono HB3.out.size))
      have HPB := Lib.hid (PB.laid hpw)
      have HBW := Lib.hid (HB4.out.alloc HB4.out.size (.cells (v5 7 0 Ap 0 cp Ai 0 ci Au 0 cu) 25))
      clear hal hpw haw hb4
      go_upto_region 13 with fail
      generalize World.alloc w4 _ = W at HPB HBW ⊢
      generalize w4.heap.size = g at *
      obtain ⟨c0, c1, c2, c3, c4⟩ := HPB.out.cells
      cases a2
      · have hcv := HS7.out W ⟨#[27, 92]⟩ (by decide)
        obtain ⟨A, c, W2, hrun, hbs, hbw⟩ := hcv
        have hrun' : (convert 9 22 (.string ⟨#[27, 92]⟩)).run Try.prog W = .ok (.slice (some A) 2 c) W2 := hrun
        have hbs' : BS W2 W2.heap.size (.slice (some A) 2 c) [27, 92] := hbs
        have hal2 := allw_any (HPB.out.below hbw).2 (prM_ok 7 (by omega) (by omega) (by omega)) hbs' (by simp)
        rw [vt_end1] at hal2
        have HB5 := Lib.hid (HBW.out.trans (hbw.mono HBW.out.size))
        clear hrun hbs hbs' hbw
        go_wp2_with fail
        refine hal2.mono ?_
        rintro e w6 ⟨m, pv, Ap, np, cp, Ai, ni, ci, Au, nu, cu, Aa, na, ca, rfl, ⟨hm, hpv, hnp, hni, hnu, hna, x1, x2⟩, hpw, haw, hb6⟩
        obtain rfl : m = 0 := hm
        obtain rfl : pv = 0 := hpv
        obtain rfl : np = 0 := hnp
        obtain rfl : ni = 0 := hni
        obtain rfl : nu = 0 := hnu
        obtain rfl : na = 1 := hna
        have HB6 := Lib.hid (HB5.out.trans (hb6.mono HB5.out.size))
        have HPB2 := Lib.hid (PB.laid hpw)
        have HAW2 := Lib.hid (haw.below ((Below.refl _ _).alloc (Nat.le_refl _) (.cells (v5 0 0 Ap 0 cp Ai 0 ci Au 0 cu) 25)))
        have HBW2 := Lib.hid (HB6.out.alloc HB6.out.size (.cells (v5 0 0 Ap 0 cp Ai 0 ci Au 0 cu) 25))
        clear hal2 hrun' hpw haw hb6 c0 c1 c2 c3 c4
        go_upto_region 19 with fail
        generalize World.alloc w6 _ = W3 at HPB2 HAW2 HBW2 ⊢
        generalize w6.heap.size = g2 at *
        obtain ⟨c0, c1, c2, c3, c4⟩ := HPB2.out.cells
        obtain ⟨ad, cc, vps, hAd, y1, y2, hps, s0, s1, s2, s3, s4⟩ := HAW2.out.at0
        simp only [Value.slice.injEq] at hAd
        obtain ⟨rfl, -, rfl⟩ := hAd
        have u0 : W3.cell? ad = some (.int .i64 2) := s0
        have u2 : W3.cell? ⟨ad.block, ad.off + 2, none⟩ = some (.int .u8 92) := s2
        clear s0 s1 s2 s3 s4 hps
        go_wp2
        go_ret
        exact ⟨rfl, HBW2.out⟩
      · have hcv := HS7.out W ⟨#[7]⟩ (by decide)
        obtain ⟨A, c, W2, hrun, hbs, hbw⟩ := hcv
        have hrun' : (convert 9 22 (.string ⟨#[7]⟩)).run Try.prog W = .ok (.slice (some A) 1 c) W2 := hrun
        have hbs' : BS W2 W2.heap.size (.slice (some A) 1 c) [7] := hbs
        have hal2 := allw_any (HPB.out.below hbw).2 (prM_ok 7 (by omega) (by omega) (by omega)) hbs' (by simp)
        rw [vt_end0] at hal2
        have HB5 := Lib.hid (HBW.out.trans (hbw.mono HBW.out.size))
        clear hrun hbs hbs' hbw
        go_wp2_with fail
        refine hal2.mono ?_
        rintro e w6 ⟨m, pv, Ap, np, cp, Ai, ni, ci, Au, nu, cu, Aa, na, ca, rfl, ⟨hm, hpv, hnp, hni, hnu, hna, x1, x2⟩, hpw, haw, hb6⟩
        obtain rfl : m = 0 := hm
        obtain rfl : pv = 0 := hpv
        obtain rfl : np = 0 := hnp
        obtain rfl : ni = 0 := hni
        obtain rfl : nu = 0 := hnu
        obtain rfl : na = 0 := hna
        have HB6 := Lib.hid (HB5.out.trans (hb6.mono HB5.out.size))
        have HPB2 := Lib.hid (PB.laid hpw)
        have HAW2 := Lib.hid (haw.below ((Below.refl _ _).alloc (Nat.le_refl _) (.cells (v5 0 0 Ap 0 cp Ai 0 ci Au 0 cu) 25)))
        have HBW2 := Lib.hid (HB6.out.alloc HB6.out.size (.cells (v5 0 0 Ap 0 cp Ai 0 ci Au 0 cu) 25))
        clear hal2 hrun' hpw haw hb6 c0 c1 c2 c3 c4
        go_upto_region 19 with fail
        generalize World.alloc w6 _ = W3 at HPB2 HAW2 HBW2 ⊢
        generalize w6.heap.size = g2 at *
        obtain ⟨c0, c1, c2, c3, c4⟩ := HPB2.out.cells
        go_wp2
        go_ret
        exact ⟨rfl, HBW2.out⟩
end Go.Proofs.Ytbimhhcmfhooaaa

namespace Go.Proofs.Ytbimhhcmfhooaaa
open Go.ChangeShapes Go.WideShapes Go.ChangeAt Go.RowKit
open Go.ChangeMaps (open_string shut_string)
set_option linter.unusedVariables false

theorem vtStrings_own : ownKnob Try.prog.godebug = none := by kernel_rfl
theorem vtStrings_laidOut : laidOutB Try.prog = true := by kernel_rfl

set_option maxRecDepth 100000 in
theorem vtStrings_lifted (os : Os) (started : os.Started) (H : Type) (enc : TypeId × Value → H) :
    ReturnsInHanded {} Try.checked os 7 .any (Rows.vtStringsSpec.pre6 enc Try.prog Try.f7 Rows.vtStringsRow.domain false) (Rows.vtStringsSpec.post enc Try.prog Try.f7 false true false false) := by
  refine returnsInHanded_of_change (C := Try.checked) vtStrings_own started (by kernel_rfl) Try.func7
    (ChangeSpec.witness6 (enc := enc) (C := Try.checked) false ⟨#[], #[.slice none 0 0, .int .u8 0, .bool false], []⟩ 8 (by kernel_rfl) (by kernel_rfl) (by kernel_rfl) (by kernel_rfl)) ?_
  intro W base args ds gs before hval0 hW hcnd _
  have hval : ∀ (j : Nat) t v, Try.f7.params[j]? = some t → args[j]? = some v → Value.okWide Try.prog W .any base t v := hval0
  have hW' := hW
  obtain ⟨p, q, hA0, hV, rfl, hfz, hnd⟩ := hW
  have hA : DataW.TrodAll enc Try.prog W 0 (fun _ => true) true Try.f7.params.toList args.toList ds p := hA0
  rw [Try.params7] at hA hval
  obtain ⟨v0, vs0, d0, ds0, p0, q0, hargs, rfl, rfl, h0, r0⟩ := trodAll_cons hA
  obtain ⟨v1, vs1, d1, ds1, p1, q1, rfl, rfl, rfl, h1, r1⟩ := trodAll_cons r0
  obtain ⟨v2, vs2, d2, ds2, p2, q2, rfl, rfl, rfl, h2, r2⟩ := trodAll_cons r1
  obtain ⟨rfl, rfl, rfl⟩ := trodAll_nil r2
  obtain rfl : args = #[v0, v1, v2] := by cases args; simp_all
  obtain ⟨rfl, rfl⟩ := trodVars_none hV
  obtain ⟨a0, len0, cap0, rfl⟩ := okWide_slice Try.underlying22 (hval 0 22 v0 rfl rfl)
  have k0 := h0
  have lt0 : ∀ x ∈ p0, x.block < W.heap.size := by obtain ⟨m, hm⟩ := k0; exact DataW.trod_lt m _ _ _ hm
  obtain ⟨z0, w0⟩ : ∃ l, BS W W.heap.size (.slice a0 len0 cap0) l := by
    obtain ⟨fuel, hf⟩ := h0
    rcases open_ints Try.underlying22 Try.underlying5 (by kernel_rfl) hf with ⟨hcs, _⟩ | ⟨x, l, c, zs, hcs, _, hl, hm, hz, _, hcell, hwz⟩
    · simp [Value.cells] at hcs
      obtain ⟨rfl, rfl, rfl⟩ := hcs
      exact ⟨[], BS.nil _ _⟩
    · simp [Value.cells] at hcs
      obtain ⟨rfl, rfl, rfl⟩ := hcs
      exact bs_row hl hm (by simpa using hz) hcell hwz
  obtain ⟨a1, rfl, rfl, rfl, w1⟩ := open_int Try.underlying5 (hval 1 5 v1 rfl rfl) h1
  obtain ⟨a2, rfl, rfl, rfl⟩ := open_bool Try.underlying4 (hval 2 4 v2 rfl rfl) h2
  clear hA0 hval0
  refine (vtStrings_walk a0 len0 cap0 z0 a1 a2 W w0 w1).mono fun e W' ⟨he, bel⟩ => ?_
  subst he
  exact ⟨_, rfl, _, _, _, [], _, [], hW', trodAll_mk1 (shut_bool Try.underlying4 _), (trodAll_cons_mk (Below.trod vtStrings_laidOut (by kernel_rfl) (of_decide_eq_true (by kernel_rfl)) k0 bel lt0) (trodAll_cons_mk (shut_int Try.underlying5 w1) (trodAll_cons_mk (shut_bool Try.underlying4 _) trodAll_mk0))), rfl, bel.frame _, fun h => by cases h⟩

theorem vtStrings_over : Rows.vtStringsRow.holds Try.pinned (OpenSpec.ofChange Rows.vtStringsSpec) :=
  OpenClaim.holds_of_wide 7 Try.f7 rfl rfl rfl rfl rfl rfl rfl ⟨rfl, rfl, rfl, rfl, rfl⟩ rfl rfl rfl rfl rfl (by kernel_rfl) Try.func7 (by kernel_rfl)
    (of_decide_eq_true (by kernel_rfl)) (by unfold Func.isWrapper; first | (rw [if_pos (by decide +kernel)]; kernel_rfl) | (rw [if_neg (by decide +kernel)]; exact ⟨rfl, rfl⟩))
    (fun os started H enc _ => vtStrings_lifted os started H enc)

theorem vtStrings_holds : Rows.VtStringsSaid := vtStrings_over
#print axioms vtStrings_holds
end Go.Proofs.Ytbimhhcmfhooaaa
