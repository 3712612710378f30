/- What is proved here: a contract of the document's function that turns cells into bytes: in new memory; contracts of the program's words on which cells may be: of a rune, of attributes, of a cell. -/
import Derived.Test.YtklbfeemnekclaaM1
import Derived.Test.YtklbfeemnekclaaM2
import Derived.BigQuiet
import Derived.Deep.QuietTactic
import Derived.Deep.RegionHeld3
import Derived.Deep.RegionLaw
namespace Go.Proofs.Ytklbfeemnekclaa
open Go.RowKit
set_option linter.unusedVariables false
set_option linter.unusedSimpArgs false

/-- A cell whose values fit their types. -/
def FitC (x : Cl) : Prop := -2147483648 ≤ x.r ∧ x.r ≤ 2147483647 ∧ x.a < 65536 ∧ x.h < 256
def PutCPost (l : List Cl) (w : World) (e : Ending) (w' : World) : Prop := ∃ u, e = .returned (.tuple #[u, .int .i64 ((putCL l).2 : Int)]) ∧ OB w' w.heap.size u (putCL l).1 ∧ Below w.heap.size w w'
def PcRel (l : List Cl) (w0 : World) (o i : Value) (wr : World) : Prop :=
  ∃ (j : Nat) (lo : List UInt8), j ≤ l.length ∧ i = .int .i64 (j : Int) ∧ OB wr w0.heap.size o lo ∧ Below w0.heap.size w0 wr ∧ lo.length ≤ 30 * j ∧ (∀ x ∈ l.take j, cellB x = true) ∧ lo ++ bytL (l.drop j) = bytL l
def RunRel (j N : Nat) (w1 : World) (k : Value) (wr : World) : Prop := ∃ m : Nat, m ≤ N ∧ k = .int .i64 ((j + m : Nat) : Int) ∧ ∃ q, wr = w1.drewN q
theorem below_drewP {B : Nat} {w w' : World} (h : Below B w w') (n : Nat) : Below B w (w'.drewN n) := ⟨h.os, h.tape, h.output, h.size, h.block⟩
theorem bytL_drop (l : List Cl) (j N : Nat) (c : Cl) (hc : l[j]? = some c) (hN : sameN c (l.drop j) = N) : 1 ≤ N ∧ j + N ≤ l.length ∧ bytL (l.drop j) = runB N c ++ bytL (l.drop (j + N)) := by
  have hj : j < l.length := (List.getElem?_eq_some_iff.1 hc).1
  have hd : l.drop j = c :: l.drop (j + 1) := by
    rw [List.drop_eq_getElem_cons hj]
    congr 1
    exact (List.getElem?_eq_some_iff.1 hc).2
  have hle := sameN_le c (l.drop j)
  rw [hN, List.length_drop] at hle
  rw [hd] at hN
  unfold sameN at hN
  rw [if_pos rfl] at hN
  refine ⟨by omega, by omega, ?_⟩
  rw [hd, bytL_cons, hN, List.drop_drop, show j + 1 + sameN c (l.drop (j + 1)) = j + N by omega]
theorem step_appP {ops : Array Oper} {o : Oper} {a : Act} {w : World} {K : Act → World → Prop} {Q : Exit → Act → World → Prop} {E : Prop} (hgd : o.guard = none) (s x : Operand)
    (ho : o.op = .call { callee := .builtin .append, args := #[s, x], argTypes := #[23, 23] })
    (base B : Nat) (v u : Value) (l m : List UInt8) (hs : a.eval s = v) (hx : a.eval x = u) (hown : OB w base v l) (hr : BS w B u m) (hlen : l.length + m.length ≤ 1099511627776) (hbase : base ≤ w.heap.size)
    (h : ∀ v' w', OB w' base v' (l ++ m) → w.grownBy w' v.ownBlock → Below base w w' → K (a.put o.dst v') w') :
    if Region.wanted o (yielded ops a.tmps) = true then Oper.wp Try.prog o a w K Q else E := by
  have hw : Region.wanted o (yielded ops a.tmps) = true := by simp [Region.wanted, hgd]
  rw [if_pos hw]
  obtain ⟨v', w', hrun, h2, h3, h4, h5⟩ := run_app w o.type hown hr hlen hbase
  unfold Oper.wp execOp
  simp only [ho, resolve, invoke, builtin, Sem.run_bind, Sem.run_pure, Result.andThen_ok, List.map_toArray, List.map_cons, List.map_nil, hs, hx, hrun]
  exact h v' w' h2 h3 h4
theorem pc_next {l : List Cl} {w wf : World} {vf : Value} {j N K : Nat} {lo : List UInt8} {c : Cl} (hj : j < l.length) (hK : K = j + N) (hN : sameN c (l.drop j) = N) (n2 : j + N ≤ l.length) (n1 : 1 ≤ N) (hbd : bytL (l.drop j) = runB N c ++ bytL (l.drop (j + N))) (hby : lo ++ bytL (l.drop j) = bytL l) (hcb : cellB c = true) (hall : ∀ x ∈ l.take j, cellB x = true) (hlo : lo.length ≤ 30 * j)
    (ho : OB wf w.heap.size vf (lo ++ lebP N ++ lebP c.r.toNat ++ lebP (4 * c.a + c.h))) (hb : Below w.heap.size w wf) : PcRel l w vf (.int .i64 (K : Int)) wf ∧ l.length - (intOf (Value.int .i64 (K : Int))).toNat < l.length - (intOf (Value.int .i64 (j : Int))).toNat := by
  subst hK
  refine ⟨⟨j + N, _, n2, rfl, ho, hb, ?_, ?_, ?_⟩, ?_⟩
  · have h1 := (lebP_length N).2
    have h2 := (lebP_length c.r.toNat).2
    have h3 := (lebP_length (4 * c.a + c.h)).2
    simp only [List.length_append]
    omega
  · intro x hx
    have e : l.take (j + N) = l.take j ++ (l.drop j).take N := by rw [List.take_add]
    rw [e, List.mem_append] at hx
    rcases hx with hx | hx
    · exact hall x hx
    · have := sameN_take c (l.drop j)
      rw [hN] at this
      rw [this] at hx
      rw [List.eq_of_mem_replicate hx]
      exact hcb
  · rw [← hby, hbd]
    unfold runB
    simp only [List.append_assoc]
  · simp [intOf]
    omega
set_option maxHeartbeats 2000000 in
set_option maxRecDepth 100000 in
theorem putCr_any (v : Value) (l : List Cl) (w : World) (h : CS w w.heap.size v l) (hl : l.length ≤ 1048576) (hf : ∀ x ∈ l, FitC x) : Calls Try.prog 9 #[v] w (PutCPost l w) := by
  have HC := Lib.hid h
  obtain ⟨A, cp, rfl, g1, g2⟩ := h.form
  have HF := Lib.hid hf
  clear h hf
  go_enter Try.func9, Try.ntmps9
  go_wp2
  go_loopw [4, 5] (fun o i wr => PcRel l w o i wr) (fun _ i _ => l.length - (intOf i).toNat)
  case atStart => exact ⟨0, [], Nat.zero_le _, rfl, OB.nil _ _, Below.refl _ _, by simp, by simp, rfl⟩
  case round =>
    obtain ⟨j, lo, hj, rfl, ho, hbel, hlo, hall, hby⟩ := hrel
    by_cases hlt : j < l.length
    · obtain ⟨c, hc⟩ : ∃ c, l[j]? = some c := ⟨_, List.getElem?_eq_getElem hlt⟩
      have hmem : c ∈ l := List.mem_of_getElem? hc
      obtain ⟨f1, f2, f3, f4⟩ := HF.out c hmem
      obtain ⟨ad, hAd, hadb, t0, t1, t2⟩ := (HC.out.below hbel).get j c hc
      subst hAd
      have hcr := cellr_any c f1 f2 f4 wr
      unfold aC at hcr
      by_cases hcb : cellB c = false
      · have HPN := Lib.hid (putCL_no hmem hcb)
        rw [hcb] at hcr
        have HBE := Lib.hid hbel
        clear hc hby hall hbel ho
        go_wp2_with (first
          | (go_at_call 11; refine hcr.mono ?_; rintro e w1 ⟨rfl, b1⟩))
        go_ret2
        exact ⟨_, by rw [HPN.out]; rfl, by rw [HPN.out]; exact OB.nil _ _, HBE.out.trans (b1.mono HBE.out.size)⟩
      · have hcb : cellB c = true := by simpa using hcb
        rw [hcb] at hcr
        obtain ⟨r0, r1, a1, h1⟩ := cellB_bd hcb
        obtain ⟨N, hN⟩ : ∃ N, sameN c (l.drop j) = N := ⟨_, rfl⟩
        obtain ⟨n1, n2, hbd⟩ := bytL_drop l j N c hc hN
        have HCB := Lib.hid hcb
        have HNN := Lib.hid hN
        have HBD := Lib.hid hbd
        have HCJ := Lib.hid hc
        have HBY := Lib.hid hby
        have HALL := Lib.hid hall
        have HOO := Lib.hid ho
        have HBE := Lib.hid hbel
        have hle := hbel.size
        clear hcb hN hbd hc hby hall ho hbel
        go_wp2_with (first
          | (go_at_call 11; refine hcr.mono ?_; rintro e w1 ⟨rfl, b1⟩))
        have HB1 := Lib.hid (HBE.out.trans (b1.mono hle))
        have HO1 := Lib.hid (HOO.out.below b1)
        clear b1 t0 t1 t2
        go_loopw [6] (fun k wr => RunRel j N w1 k wr) (fun k _ => j + N - (intOf k).toNat)
        case atStart => exact ⟨0, Nat.zero_le _, rfl, 0, rfl⟩
        case round =>
          obtain ⟨m, hm, rfl, q, rfl⟩ := hrel
          obtain ⟨K, hK⟩ : ∃ K, j + m = K := ⟨_, rfl⟩
          rw [hK]
          obtain ⟨ad2, hAd2, hadb2, t0, t1, t2⟩ := (HC.out.below HB1.out).get j c HCJ.out
          injection hAd2 with hAd2
          subst hAd2
          by_cases hmN : m < N
          · have hKl : K < l.length := by omega
            have hKc : l[K]? = some c := by
              have := sameN_at c (l.drop j) m (by rw [HNN.out]; exact hmN)
              rw [List.getElem?_drop, hK] at this
              exact this
            obtain ⟨ad3, hAd3, hadb3, s0, s1, s2⟩ := (HC.out.below HB1.out).get K c hKc
            injection hAd3 with hAd3
            subst hAd3
            have hKd : decide (K < l.length) = true := by simpa using hKl
            have HK := Lib.hid hK
            clear hKc hK
            go_wp2
            go_quiet (fail)
            go_wp2
            go_roundw
            case rel => exact ⟨m + 1, hmN, by have := HK.out; rw [show ((j + (m + 1) : Nat) : Int) = (K : Int) + 1 by omega], q + nq, by first | rfl | rw [World.drewN_drewN]⟩
            case measure => have := HK.out; simp [intOf]; omega
          · have hKE := Lib.hid (show K = j + N by omega)
            by_cases hKl : K < l.length
            · obtain ⟨c2, hc2⟩ : ∃ c2, l[K]? = some c2 := ⟨_, List.getElem?_eq_getElem hKl⟩
              have hne : c2 ≠ c := by
                intro e
                have h := sameN_stop c (l.drop j) (by rw [HNN.out, List.length_drop]; have := hKE.out; omega)
                rw [HNN.out, List.getElem?_drop, ← hKE.out, hc2, e] at h
                exact h rfl
              obtain ⟨ad3, hAd3, hadb3, s0, s1, s2⟩ := (HC.out.below HB1.out).get K c2 hc2
              injection hAd3 with hAd3
              subst hAd3
              have hKd : decide (K < l.length) = true := by simpa using hKl
              clear hc2
              by_cases hr : c2.r = c.r
              · rw [hr] at s0
                by_cases ha : c2.a = c.a
                · rw [ha] at s1
                  have hh : ¬ c2.h = c.h := fun e => hne (by cases c2; cases c; simp only at hr ha e; rw [hr, ha, e])
                  have hb : ((c2.h : Int) == (c.h : Int)) = false := beq_eq_false_iff_ne.2 (by omega)
                  clear hne hh hr ha
                  go_wp2
                  go_quiet (fail)
                  have HOD := Lib.hid (HO1.out.below (below_drewP (below_drewP (Below.refl _ _) q) nq))
                  have HBQ := Lib.hid (below_drewP (below_drewP HB1.out q) nq)
                  try rw [World.drewN_drewN] at HOD HBQ
                  try simp only [World.drewN_drewN] at HOD HBQ ⊢
                  generalize World.drewN w1 _ = D at HOD HBQ ⊢
                  clear t0 t1 t2
                  go_wp2
                  have hS : ∀ x : World, Below w.heap.size w x → x.cell? (ad.add (j * 3)) = some (.int .i32 c.r) ∧ x.cell? ⟨(ad.add (j * 3)).block, (ad.add (j * 3)).off + 1, none⟩ = some (.int .u16 (c.a : Int)) ∧ x.cell? ⟨(ad.add (j * 3)).block, (ad.add (j * 3)).off + 2, none⟩ = some (.int .u8 (c.h : Int)) := fun x hx => by
                    obtain ⟨ad4, hAd4, hadb4, y0, y1, y2⟩ := (HC.out.below hx).get j c HCJ.out
                    injection hAd4 with hAd4
                    subst hAd4
                    exact ⟨y0, y1, y2⟩
                  have HS := Lib.hid hS
                  have cD : Below w.heap.size w D.drew := HBQ.out.drew
                  have oD : OB D.drew w.heap.size _ lo := HOD.out
                  have hz0 : w.heap.size ≤ D.drew.heap.size := cD.size
                  have hl1 := (lebP_length N).2
                  have hl2 := (lebP_length c.r.toNat).2
                  have hl3 := (lebP_length (4 * c.a + c.h)).2
                  have hKE2 := hKE.out
                  have i1 : IntKind.i64.wrap (N : Int) = (N : Int) := by rw [IntKind.wrap_i64]; omega
                  have i2 : IntKind.u64.wrap (N : Int) = (N : Int) := by rw [IntKind.wrap_u64]; omega
                  have i3 : IntKind.u64.wrap c.r = c.r := by rw [IntKind.wrap_u64]; omega
                  have i4 : IntKind.u64.wrap (c.a : Int) = (c.a : Int) := by rw [IntKind.wrap_u64]; omega
                  have i5 : IntKind.u64.wrap (4 * (c.a : Int)) = 4 * (c.a : Int) := by rw [IntKind.wrap_u64]; omega
                  have i6 : IntKind.u64.wrap (c.h : Int) = (c.h : Int) := by rw [IntKind.wrap_u64]; omega
                  have i7 : IntKind.u64.wrap (4 * (c.a : Int) + (c.h : Int)) = 4 * (c.a : Int) + (c.h : Int) := by rw [IntKind.wrap_u64]; omega
                  have hKj : (K : Int) - (j : Int) = (N : Int) := by omega
                  clear hS hK hKE2
                  go_region_held3 (fun x : World => x.cell? (ad.add (j * 3)) = some (.int .i32 c.r) ∧ x.cell? ⟨(ad.add (j * 3)).block, (ad.add (j * 3)).off + 1, none⟩ = some (.int .u16 (c.a : Int)) ∧ x.cell? ⟨(ad.add (j * 3)).block, (ad.add (j * 3)).off + 2, none⟩ = some (.int .u8 (c.h : Int))) (exact HS.out _ (by assumption))
                    (first
                      | (go_at_call 20; (with_reducible refine (putr_any (N : Int) (by omega) (by omega) _).mono ?_); rintro e wa ⟨va, rfl, ha, ba⟩; rw [show ((N : Int)).toNat = N by omega] at ha; have ca : Below w.heap.size w wa := cD.trans (ba.mono hz0); have oa := oD.below ba; have hza : w.heap.size ≤ wa.heap.size := ca.size)
                      | (refine step_appP rfl (.tmp 35) (.tmp 40) rfl w.heap.size _ _ _ lo (lebP N) (by rfl) (by rfl) oa ha.bs (by omega) hza ?_; intro vb wb hb gb bb; have cb : Below w.heap.size w wb := ca.trans bb; have hzb : w.heap.size ≤ wb.heap.size := cb.size)
                      | (go_at_call 20; (with_reducible refine (putr_any c.r (by omega) (by omega) _).mono ?_); rintro e wc ⟨vc, rfl, hc2, bc⟩; have cc : Below w.heap.size w wc := cb.trans (bc.mono hzb); have oc := hb.below bc; have hzc : w.heap.size ≤ wc.heap.size := cc.size)
                      | (refine step_appP rfl (.tmp 41) (.tmp 48) rfl w.heap.size _ _ _ (lo ++ lebP N) (lebP c.r.toNat) (by rfl) (by rfl) oc hc2.bs (by simp only [List.length_append]; omega) hzc ?_; intro vd wd hd gd bd; have cd : Below w.heap.size w wd := cc.trans bd; have hzd : w.heap.size ≤ wd.heap.size := cd.size)
                      | (go_at_call 20; (with_reducible refine (putr_any (4 * (c.a : Int) + (c.h : Int)) (by omega) (by omega) _).mono ?_); rintro e we ⟨ve, rfl, he, be⟩; rw [show (4 * (c.a : Int) + (c.h : Int)).toNat = 4 * c.a + c.h by omega] at he; have ce : Below w.heap.size w we := cd.trans (be.mono hzd); have oe := hd.below be; have hze : w.heap.size ≤ we.heap.size := ce.size)
                      | (refine step_appP rfl (.tmp 49) (.tmp 64) rfl w.heap.size _ _ _ (lo ++ lebP N ++ lebP c.r.toNat) (lebP (4 * c.a + c.h)) (by rfl) (by rfl) oe he.bs (by simp only [List.length_append]; omega) hze ?_; intro vf wf hf gf bf; have cf : Below w.heap.size w wf := ce.trans bf))
                  go_wp2
                  exact pc_next hlt hKE.out HNN.out n2 n1 HBD.out HBY.out HCB.out HALL.out hlo hf cf
                · have hb : ((c2.a : Int) == (c.a : Int)) = false := beq_eq_false_iff_ne.2 (by omega)
                  clear hne hr ha
                  go_wp2
                  go_quiet (fail)
                  have HOD := Lib.hid (HO1.out.below (below_drewP (below_drewP (Below.refl _ _) q) nq))
                  have HBQ := Lib.hid (below_drewP (below_drewP HB1.out q) nq)
                  try rw [World.drewN_drewN] at HOD HBQ
                  try simp only [World.drewN_drewN] at HOD HBQ ⊢
                  generalize World.drewN w1 _ = D at HOD HBQ ⊢
                  clear t0 t1 t2
                  go_wp2
                  have hS : ∀ x : World, Below w.heap.size w x → x.cell? (ad.add (j * 3)) = some (.int .i32 c.r) ∧ x.cell? ⟨(ad.add (j * 3)).block, (ad.add (j * 3)).off + 1, none⟩ = some (.int .u16 (c.a : Int)) ∧ x.cell? ⟨(ad.add (j * 3)).block, (ad.add (j * 3)).off + 2, none⟩ = some (.int .u8 (c.h : Int)) := fun x hx => by
                    obtain ⟨ad4, hAd4, hadb4, y0, y1, y2⟩ := (HC.out.below hx).get j c HCJ.out
                    injection hAd4 with hAd4
                    subst hAd4
                    exact ⟨y0, y1, y2⟩
                  have HS := Lib.hid hS
                  have cD : Below w.heap.size w D.drew := HBQ.out.drew
                  have oD : OB D.drew w.heap.size _ lo := HOD.out
                  have hz0 : w.heap.size ≤ D.drew.heap.size := cD.size
                  have hl1 := (lebP_length N).2
                  have hl2 := (lebP_length c.r.toNat).2
                  have hl3 := (lebP_length (4 * c.a + c.h)).2
                  have hKE2 := hKE.out
                  have i1 : IntKind.i64.wrap (N : Int) = (N : Int) := by rw [IntKind.wrap_i64]; omega
                  have i2 : IntKind.u64.wrap (N : Int) = (N : Int) := by rw [IntKind.wrap_u64]; omega
                  have i3 : IntKind.u64.wrap c.r = c.r := by rw [IntKind.wrap_u64]; omega
                  have i4 : IntKind.u64.wrap (c.a : Int) = (c.a : Int) := by rw [IntKind.wrap_u64]; omega
                  have i5 : IntKind.u64.wrap (4 * (c.a : Int)) = 4 * (c.a : Int) := by rw [IntKind.wrap_u64]; omega
                  have i6 : IntKind.u64.wrap (c.h : Int) = (c.h : Int) := by rw [IntKind.wrap_u64]; omega
                  have i7 : IntKind.u64.wrap (4 * (c.a : Int) + (c.h : Int)) = 4 * (c.a : Int) + (c.h : Int) := by rw [IntKind.wrap_u64]; omega
                  have hKj : (K : Int) - (j : Int) = (N : Int) := by omega
                  clear hS hK hKE2
                  go_region_held3 (fun x : World => x.cell? (ad.add (j * 3)) = some (.int .i32 c.r) ∧ x.cell? ⟨(ad.add (j * 3)).block, (ad.add (j * 3)).off + 1, none⟩ = some (.int .u16 (c.a : Int)) ∧ x.cell? ⟨(ad.add (j * 3)).block, (ad.add (j * 3)).off + 2, none⟩ = some (.int .u8 (c.h : Int))) (exact HS.out _ (by assumption))
                    (first
                      | (go_at_call 20; (with_reducible refine (putr_any (N : Int) (by omega) (by omega) _).mono ?_); rintro e wa ⟨va, rfl, ha, ba⟩; rw [show ((N : Int)).toNat = N by omega] at ha; have ca : Below w.heap.size w wa := cD.trans (ba.mono hz0); have oa := oD.below ba; have hza : w.heap.size ≤ wa.heap.size := ca.size)
                      | (refine step_appP rfl (.tmp 35) (.tmp 40) rfl w.heap.size _ _ _ lo (lebP N) (by rfl) (by rfl) oa ha.bs (by omega) hza ?_; intro vb wb hb gb bb; have cb : Below w.heap.size w wb := ca.trans bb; have hzb : w.heap.size ≤ wb.heap.size := cb.size)
                      | (go_at_call 20; (with_reducible refine (putr_any c.r (by omega) (by omega) _).mono ?_); rintro e wc ⟨vc, rfl, hc2, bc⟩; have cc : Below w.heap.size w wc := cb.trans (bc.mono hzb); have oc := hb.below bc; have hzc : w.heap.size ≤ wc.heap.size := cc.size)
                      | (refine step_appP rfl (.tmp 41) (.tmp 48) rfl w.heap.size _ _ _ (lo ++ lebP N) (lebP c.r.toNat) (by rfl) (by rfl) oc hc2.bs (by simp only [List.length_append]; omega) hzc ?_; intro vd wd hd gd bd; have cd : Below w.heap.size w wd := cc.trans bd; have hzd : w.heap.size ≤ wd.heap.size := cd.size)
                      | (go_at_call 20; (with_reducible refine (putr_any (4 * (c.a : Int) + (c.h : Int)) (by omega) (by omega) _).mono ?_); rintro e we ⟨ve, rfl, he, be⟩; rw [show (4 * (c.a : Int) + (c.h : Int)).toNat = 4 * c.a + c.h by omega] at he; have ce : Below w.heap.size w we := cd.trans (be.mono hzd); have oe := hd.below be; have hze : w.heap.size ≤ we.heap.size := ce.size)
                      | (refine step_appP rfl (.tmp 49) (.tmp 64) rfl w.heap.size _ _ _ (lo ++ lebP N ++ lebP c.r.toNat) (lebP (4 * c.a + c.h)) (by rfl) (by rfl) oe he.bs (by simp only [List.length_append]; omega) hze ?_; intro vf wf hf gf bf; have cf : Below w.heap.size w wf := ce.trans bf))
                  go_wp2
                  exact pc_next hlt hKE.out HNN.out n2 n1 HBD.out HBY.out HCB.out HALL.out hlo hf cf
              · have hb : (c2.r == c.r) = false := beq_eq_false_iff_ne.2 hr
                clear hne hr
                go_wp2
                go_quiet (fail)
                have HOD := Lib.hid (HO1.out.below (below_drewP (below_drewP (Below.refl _ _) q) nq))
                have HBQ := Lib.hid (below_drewP (below_drewP HB1.out q) nq)
                try rw [World.drewN_drewN] at HOD HBQ
                try simp only [World.drewN_drewN] at HOD HBQ ⊢
                generalize World.drewN w1 _ = D at HOD HBQ ⊢
                clear t0 t1 t2
                go_wp2
                have hS : ∀ x : World, Below w.heap.size w x → x.cell? (ad.add (j * 3)) = some (.int .i32 c.r) ∧ x.cell? ⟨(ad.add (j * 3)).block, (ad.add (j * 3)).off + 1, none⟩ = some (.int .u16 (c.a : Int)) ∧ x.cell? ⟨(ad.add (j * 3)).block, (ad.add (j * 3)).off + 2, none⟩ = some (.int .u8 (c.h : Int)) := fun x hx => by
                  obtain ⟨ad4, hAd4, hadb4, y0, y1, y2⟩ := (HC.out.below hx).get j c HCJ.out
                  injection hAd4 with hAd4
                  subst hAd4
                  exact ⟨y0, y1, y2⟩
                have HS := Lib.hid hS
                have cD : Below w.heap.size w D.drew := HBQ.out.drew
                have oD : OB D.drew w.heap.size _ lo := HOD.out
                have hz0 : w.heap.size ≤ D.drew.heap.size := cD.size
                have hl1 := (lebP_length N).2
                have hl2 := (lebP_length c.r.toNat).2
                have hl3 := (lebP_length (4 * c.a + c.h)).2
                have hKE2 := hKE.out
                have i1 : IntKind.i64.wrap (N : Int) = (N : Int) := by rw [IntKind.wrap_i64]; omega
                have i2 : IntKind.u64.wrap (N : Int) = (N : Int) := by rw [IntKind.wrap_u64]; omega
                have i3 : IntKind.u64.wrap c.r = c.r := by rw [IntKind.wrap_u64]; omega
                have i4 : IntKind.u64.wrap (c.a : Int) = (c.a : Int) := by rw [IntKind.wrap_u64]; omega
                have i5 : IntKind.u64.wrap (4 * (c.a : Int)) = 4 * (c.a : Int) := by rw [IntKind.wrap_u64]; omega
                have i6 : IntKind.u64.wrap (c.h : Int) = (c.h : Int) := by rw [IntKind.wrap_u64]; omega
                have i7 : IntKind.u64.wrap (4 * (c.a : Int) + (c.h : Int)) = 4 * (c.a : Int) + (c.h : Int) := by rw [IntKind.wrap_u64]; omega
                have hKj : (K : Int) - (j : Int) = (N : Int) := by omega
                clear hS hK hKE2
                go_region_held3 (fun x : World => x.cell? (ad.add (j * 3)) = some (.int .i32 c.r) ∧ x.cell? ⟨(ad.add (j * 3)).block, (ad.add (j * 3)).off + 1, none⟩ = some (.int .u16 (c.a : Int)) ∧ x.cell? ⟨(ad.add (j * 3)).block, (ad.add (j * 3)).off + 2, none⟩ = some (.int .u8 (c.h : Int))) (exact HS.out _ (by assumption))
                  (first
                    | (go_at_call 20; (with_reducible refine (putr_any (N : Int) (by omega) (by omega) _).mono ?_); rintro e wa ⟨va, rfl, ha, ba⟩; rw [show ((N : Int)).toNat = N by omega] at ha; have ca : Below w.heap.size w wa := cD.trans (ba.mono hz0); have oa := oD.below ba; have hza : w.heap.size ≤ wa.heap.size := ca.size)
                    | (refine step_appP rfl (.tmp 35) (.tmp 40) rfl w.heap.size _ _ _ lo (lebP N) (by rfl) (by rfl) oa ha.bs (by omega) hza ?_; intro vb wb hb gb bb; have cb : Below w.heap.size w wb := ca.trans bb; have hzb : w.heap.size ≤ wb.heap.size := cb.size)
                    | (go_at_call 20; (with_reducible refine (putr_any c.r (by omega) (by omega) _).mono ?_); rintro e wc ⟨vc, rfl, hc2, bc⟩; have cc : Below w.heap.size w wc := cb.trans (bc.mono hzb); have oc := hb.below bc; have hzc : w.heap.size ≤ wc.heap.size := cc.size)
                    | (refine step_appP rfl (.tmp 41) (.tmp 48) rfl w.heap.size _ _ _ (lo ++ lebP N) (lebP c.r.toNat) (by rfl) (by rfl) oc hc2.bs (by simp only [List.length_append]; omega) hzc ?_; intro vd wd hd gd bd; have cd : Below w.heap.size w wd := cc.trans bd; have hzd : w.heap.size ≤ wd.heap.size := cd.size)
                    | (go_at_call 20; (with_reducible refine (putr_any (4 * (c.a : Int) + (c.h : Int)) (by omega) (by omega) _).mono ?_); rintro e we ⟨ve, rfl, he, be⟩; rw [show (4 * (c.a : Int) + (c.h : Int)).toNat = 4 * c.a + c.h by omega] at he; have ce : Below w.heap.size w we := cd.trans (be.mono hzd); have oe := hd.below be; have hze : w.heap.size ≤ we.heap.size := ce.size)
                    | (refine step_appP rfl (.tmp 49) (.tmp 64) rfl w.heap.size _ _ _ (lo ++ lebP N ++ lebP c.r.toNat) (lebP (4 * c.a + c.h)) (by rfl) (by rfl) oe he.bs (by simp only [List.length_append]; omega) hze ?_; intro vf wf hf gf bf; have cf : Below w.heap.size w wf := ce.trans bf))
                go_wp2
                exact pc_next hlt hKE.out HNN.out n2 n1 HBD.out HBY.out HCB.out HALL.out hlo hf cf
            · have hKd : decide (K < l.length) = false := by simpa using hKl
              go_wp2
              go_quiet (fail)
              have HOD := Lib.hid (HO1.out.below (below_drewP (below_drewP (Below.refl _ _) q) nq))
              have HBQ := Lib.hid (below_drewP (below_drewP HB1.out q) nq)
              try rw [World.drewN_drewN] at HOD HBQ
              try simp only [World.drewN_drewN] at HOD HBQ ⊢
              generalize World.drewN w1 _ = D at HOD HBQ ⊢
              clear t0 t1 t2
              go_wp2
              have hS : ∀ x : World, Below w.heap.size w x → x.cell? (ad.add (j * 3)) = some (.int .i32 c.r) ∧ x.cell? ⟨(ad.add (j * 3)).block, (ad.add (j * 3)).off + 1, none⟩ = some (.int .u16 (c.a : Int)) ∧ x.cell? ⟨(ad.add (j * 3)).block, (ad.add (j * 3)).off + 2, none⟩ = some (.int .u8 (c.h : Int)) := fun x hx => by
                obtain ⟨ad4, hAd4, hadb4, y0, y1, y2⟩ := (HC.out.below hx).get j c HCJ.out
                injection hAd4 with hAd4
                subst hAd4
                exact ⟨y0, y1, y2⟩
              have HS := Lib.hid hS
              have cD : Below w.heap.size w D.drew := HBQ.out.drew
              have oD : OB D.drew w.heap.size _ lo := HOD.out
              have hz0 : w.heap.size ≤ D.drew.heap.size := cD.size
              have hl1 := (lebP_length N).2
              have hl2 := (lebP_length c.r.toNat).2
              have hl3 := (lebP_length (4 * c.a + c.h)).2
              have hKE2 := hKE.out
              have i1 : IntKind.i64.wrap (N : Int) = (N : Int) := by rw [IntKind.wrap_i64]; omega
              have i2 : IntKind.u64.wrap (N : Int) = (N : Int) := by rw [IntKind.wrap_u64]; omega
              have i3 : IntKind.u64.wrap c.r = c.r := by rw [IntKind.wrap_u64]; omega
              have i4 : IntKind.u64.wrap (c.a : Int) = (c.a : Int) := by rw [IntKind.wrap_u64]; omega
              have i5 : IntKind.u64.wrap (4 * (c.a : Int)) = 4 * (c.a : Int) := by rw [IntKind.wrap_u64]; omega
              have i6 : IntKind.u64.wrap (c.h : Int) = (c.h : Int) := by rw [IntKind.wrap_u64]; omega
              have i7 : IntKind.u64.wrap (4 * (c.a : Int) + (c.h : Int)) = 4 * (c.a : Int) + (c.h : Int) := by rw [IntKind.wrap_u64]; omega
              have hKj : (K : Int) - (j : Int) = (N : Int) := by omega
              clear hS hK hKE2
              go_region_held3 (fun x : World => x.cell? (ad.add (j * 3)) = some (.int .i32 c.r) ∧ x.cell? ⟨(ad.add (j * 3)).block, (ad.add (j * 3)).off + 1, none⟩ = some (.int .u16 (c.a : Int)) ∧ x.cell? ⟨(ad.add (j * 3)).block, (ad.add (j * 3)).off + 2, none⟩ = some (.int .u8 (c.h : Int))) (exact HS.out _ (by assumption))
                (first
                  | (go_at_call 20; (with_reducible refine (putr_any (N : Int) (by omega) (by omega) _).mono ?_); rintro e wa ⟨va, rfl, ha, ba⟩; rw [show ((N : Int)).toNat = N by omega] at ha; have ca : Below w.heap.size w wa := cD.trans (ba.mono hz0); have oa := oD.below ba; have hza : w.heap.size ≤ wa.heap.size := ca.size)
                  | (refine step_appP rfl (.tmp 35) (.tmp 40) rfl w.heap.size _ _ _ lo (lebP N) (by rfl) (by rfl) oa ha.bs (by omega) hza ?_; intro vb wb hb gb bb; have cb : Below w.heap.size w wb := ca.trans bb; have hzb : w.heap.size ≤ wb.heap.size := cb.size)
                  | (go_at_call 20; (with_reducible refine (putr_any c.r (by omega) (by omega) _).mono ?_); rintro e wc ⟨vc, rfl, hc2, bc⟩; have cc : Below w.heap.size w wc := cb.trans (bc.mono hzb); have oc := hb.below bc; have hzc : w.heap.size ≤ wc.heap.size := cc.size)
                  | (refine step_appP rfl (.tmp 41) (.tmp 48) rfl w.heap.size _ _ _ (lo ++ lebP N) (lebP c.r.toNat) (by rfl) (by rfl) oc hc2.bs (by simp only [List.length_append]; omega) hzc ?_; intro vd wd hd gd bd; have cd : Below w.heap.size w wd := cc.trans bd; have hzd : w.heap.size ≤ wd.heap.size := cd.size)
                  | (go_at_call 20; (with_reducible refine (putr_any (4 * (c.a : Int) + (c.h : Int)) (by omega) (by omega) _).mono ?_); rintro e we ⟨ve, rfl, he, be⟩; rw [show (4 * (c.a : Int) + (c.h : Int)).toNat = 4 * c.a + c.h by omega] at he; have ce : Below w.heap.size w we := cd.trans (be.mono hzd); have oe := hd.below be; have hze : w.heap.size ≤ we.heap.size := ce.size)
                  | (refine step_appP rfl (.tmp 49) (.tmp 64) rfl w.heap.size _ _ _ (lo ++ lebP N ++ lebP c.r.toNat) (lebP (4 * c.a + c.h)) (by rfl) (by rfl) oe he.bs (by simp only [List.length_append]; omega) hze ?_; intro vf wf hf gf bf; have cf : Below w.heap.size w wf := ce.trans bf))
              go_wp2
              exact pc_next hlt hKE.out HNN.out n2 n1 HBD.out HBY.out HCB.out HALL.out hlo hf cf
    · obtain rfl : j = l.length := by omega
      rw [List.drop_length] at hby
      have HBY := Lib.hid hby
      have HPY := Lib.hid (putCL_yes (l := l) (by rw [List.take_length] at hall; exact hall))
      clear hall hby
      go_wp2
      go_ret2
      refine ⟨_, by rw [HPY.out]; rfl, ?_, hbel⟩
      rw [HPY.out]
      have e : lo = bytL l := by rw [← HBY.out]; simp [bytL, bytF]
      rw [← e]
      exact ho
end Go.Proofs.Ytklbfeemnekclaa

namespace Go.Proofs.Ytklbfeemnekclaa
open Go.RowKit
set_option linter.unusedVariables false
set_option linter.unusedSimpArgs false

theorem rrune_any (r : Int) (h0 : -2147483648 ≤ r) (h1 : r ≤ 2147483647) (w : World) : Calls Try.prog 21 #[.int .i32 r] w fun e w' => e = .returned (.bool (mayR r)) ∧ w = w' := by
  by_cases a1 : 0 ≤ r
  · by_cases a2 : r ≤ 1114111
    · by_cases a3 : r < 55296
      · rw [mayR_true a1 a2 (.inl a3)]
        go_enter Try.func21, Try.ntmps21
        go_wp2
        go_ret
        exact ⟨rfl, rfl⟩
      · have d3 : decide (r < 55296) = false := by simp; omega
        by_cases a4 : 57343 < r
        · rw [mayR_true a1 a2 (.inr a4)]
          go_enter Try.func21, Try.ntmps21
          go_wp2
          go_ret
          exact ⟨rfl, rfl⟩
        · have d4 : decide (57343 < r) = false := by simp; omega
          rw [mayR_false (.inr (.inr ⟨by omega, by omega⟩))]
          go_enter Try.func21, Try.ntmps21
          go_wp2
          go_ret
          exact ⟨rfl, rfl⟩
    · have d2 : decide (r ≤ 1114111) = false := by simp; omega
      rw [mayR_false (.inr (.inl (by omega)))]
      go_enter Try.func21, Try.ntmps21
      go_wp2
      go_ret
      exact ⟨rfl, rfl⟩
  · have d1 : decide (0 ≤ r) = false := by simp; omega
    rw [mayR_false (.inl (by omega))]
    go_enter Try.func21, Try.ntmps21
    go_wp2
    go_ret
    exact ⟨rfl, rfl⟩
theorem rattr_any (a : Nat) (w : World) : Calls Try.prog 22 #[.int .u16 (a : Int)] w fun e w' => e = .returned (.bool (attrB a)) ∧ w = w' := by
  by_cases ha : a < 4096
  · have hai : (a : Int) < 4096 := by omega
    have h8 := eq_of_beq (andU andT8 a ha)
    have h4 := eq_of_beq (andU andT4 a ha)
    have h2 := eq_of_beq (andU andT2 a ha)
    by_cases b1 : a / 8 % 2 = 0
    · rw [show (a / 8 % 2 * 8 : Nat) = 0 by omega] at h8
      by_cases b2 : a / 16 % 16 ≤ 8
      · have b2' : decide (((a / 16 % 16 : Nat) : Int) ≤ 8) = true := by simp; omega
        by_cases b3 : a / 256 % 16 ≤ 8
        · have b3' : decide (((a / 256 % 16 : Nat) : Int) ≤ 8) = true := by simp; omega
          rw [show attrB a = true by simp [attrB, ha, b1, b2, b3]]
          generalize ((a / 16 % 16 : Nat) : Int) = x4 at *
          generalize ((a / 256 % 16 : Nat) : Int) = x2 at *
          clear b1 b2 b3
          go_enter Try.func22, Try.ntmps22
          go_wp2
          go_ret
          exact ⟨rfl, rfl⟩
        · have b3' : decide (((a / 256 % 16 : Nat) : Int) ≤ 8) = false := by simp; omega
          rw [show attrB a = false by simp [attrB]; omega]
          generalize ((a / 16 % 16 : Nat) : Int) = x4 at *
          generalize ((a / 256 % 16 : Nat) : Int) = x2 at *
          clear b1 b2 b3
          go_enter Try.func22, Try.ntmps22
          go_wp2
          go_ret
          exact ⟨rfl, rfl⟩
      · have b2' : decide (((a / 16 % 16 : Nat) : Int) ≤ 8) = false := by simp; omega
        rw [show attrB a = false by simp [attrB]; omega]
        generalize ((a / 16 % 16 : Nat) : Int) = x4 at *
        clear b1 b2
        go_enter Try.func22, Try.ntmps22
        go_wp2
        go_ret
        exact ⟨rfl, rfl⟩
    · rw [show (a / 8 % 2 * 8 : Nat) = 8 by omega] at h8
      rw [show attrB a = false by simp [attrB]; omega]
      clear b1
      go_enter Try.func22, Try.ntmps22
      go_wp2
      go_ret
      exact ⟨rfl, rfl⟩
  · have hai : decide ((a : Int) < 4096) = false := by simp; omega
    rw [show attrB a = false by simp [attrB, ha]]
    go_enter Try.func22, Try.ntmps22
    go_wp2
    go_ret
    exact ⟨rfl, rfl⟩
set_option maxHeartbeats 1000000 in
theorem right_any (c : Cl) (hc : FitC c) (w : World) : Calls Try.prog 10 #[aC c] w fun e w' => e = .returned (.bool (cellB c)) ∧ Below w.heap.size w w' := by
  obtain ⟨r0, r1, ha, hh⟩ := hc
  unfold aC
  have hr (w : World) := rrune_any c.r r0 r1 w
  have ht (w : World) := rattr_any c.a w
  cases hm : mayR c.r with
  | false =>
    rw [show cellB c = false by simp [cellB, hm]]
    rw [hm] at hr
    go_enter Try.func10, Try.ntmps10
    go_wp2_with (first | (go_at_call 21; refine (hr _).mono ?_; rintro e w' ⟨rfl, rfl⟩))
    go_ret
    exact ⟨rfl, (Below.refl _ _).alloc (Nat.le_refl _) _⟩
  | true =>
    rw [hm] at hr
    cases ht2 : attrB c.a with
    | false =>
      rw [show cellB c = false by simp [cellB, hm, ht2]]
      rw [ht2] at ht
      go_enter Try.func10, Try.ntmps10
      go_wp2_with (first | (go_at_call 21; refine (hr _).mono ?_; rintro e w' ⟨rfl, rfl⟩) | (go_at_call 22; refine (ht _).mono ?_; rintro e w' ⟨rfl, rfl⟩))
      go_ret
      exact ⟨rfl, (Below.refl _ _).alloc (Nat.le_refl _) _⟩
    | true =>
      rw [ht2] at ht
      have hX : cellB c = (decide (c.h ≤ 2) && (decide (c.r = 0) == decide (c.h = 2))) := by simp [cellB, hm, ht2]
      rw [hX]
      clear hX
      go_enter Try.func10, Try.ntmps10
      go_wp2_with (first | (go_at_call 21; refine (hr _).mono ?_; rintro e w' ⟨rfl, rfl⟩) | (go_at_call 22; refine (ht _).mono ?_; rintro e w' ⟨rfl, rfl⟩))
      all_goals
        go_ret
        refine ⟨congrArg (fun b => Ending.returned (.bool b)) ?_, (Below.refl _ _).alloc (Nat.le_refl _) _⟩
        rw [Bool.eq_iff_iff]
        simp
        first | omega | (rw [Bool.eq_iff_iff, beq_iff_eq, beq_iff_eq]; omega)
end Go.Proofs.Ytklbfeemnekclaa
