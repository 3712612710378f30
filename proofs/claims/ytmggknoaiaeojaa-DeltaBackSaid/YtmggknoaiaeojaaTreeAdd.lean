/- What is proved here: a contract of the program's function that adds a byte to a suffix tree. -/
import Derived.Test.YtmggknoaiaeojaaTreeNodes
import Derived.Test.YtmggknoaiaeojaaDeltaLong
namespace Go.Proofs.Ytmggknoaiaeojaa
open Go.RowKit
set_option linter.unusedVariables false

/-- The tree and its grower in memory, and what holds of them. -/
structure GSt (T : List UInt8) (sv : Value) (base : Nat) (w0 w : World) (tb mb gb : Nat) (t : Tr) (k q u pd : Nat) (nv : Value) (n : Nat) (wt ed sz : Int) : Prop where
  gok : GOk (chL T) T.length t k q u pd
  tt : TT T sv base w tb mb nv (nodesOf t) t.bl n
  gv : GV w gb wt (u : Int) ed sz
  bel : Below base w0 w
  sz_eq : sz = (q : Int) - (k : Int) - (t.dep u : Int)
  ed_eq : 0 < sz → ed = (q : Int) - sz
  ed0 : 0 ≤ ed
  ed1 : ed ≤ (T.length : Int)
  cnt : n ≤ 3 * k
/-- Ahead of the byte at p. -/
def AtP (T : List UInt8) (sv : Value) (base : Nat) (w0 : World) (tb mb gb p : Nat) (w : World) : Prop := ∃ t k u nv n ed sz, GSt T sv base w0 w tb mb gb t k p u 0 nv n ((p : Int) - (k : Int)) ed sz
def AddRel (T : List UInt8) (sv : Value) (base : Nat) (w0 : World) (tb mb gb p : Nat) (uv : Value) (w : World) : Prop :=
  ∃ t k q u pd nv n wt ed sz, GSt T sv base w0 w tb mb gb t k q u pd nv n wt ed sz ∧ uv = .int .i64 (pd : Int) ∧ ((k ≤ p ∧ q = p ∧ wt = (p : Int) + 1 - (k : Int)) ∨ (k = p + 1 ∧ q = p + 1 ∧ wt = 0 ∧ pd = 0))
def addM (gb : Nat) (w : World) : Nat := match w.cell? ⟨gb, 0, none⟩, w.cell? ⟨gb, 3, none⟩ with
  | some (.int _ a), some (.int _ d) => a.toNat * 4194304 + d.toNat
  | _, _ => 0
theorem addM_eq {gb : Nat} {w : World} {a b c d : Int} (h : GV w gb a b c d) : addM gb w = a.toNat * 4194304 + d.toNat := by
  obtain ⟨⟨e0, _, _, e3⟩, _⟩ := h.cells
  unfold addM
  rw [e0, e3]

section
variable {T : List UInt8} {sv nv' : Value} {base tb mb gb n' : Nat} {w0 w' : World} {t t' : Tr} {k q u pd a : Nat} {wt ed sz : Int}
theorem add_next (hg : GOk (chL T) T.length t k q u pd) (hp : q < T.length) (g : Hung (chL T) T.length t t' k q u pd a) (htt : TT T sv base w' tb mb nv' (nodesOf t') t'.bl n') (hbel : Below base w0 w')
    (hsh : ((u : Int) = 0 ∧ 0 < sz ∧ GV w' gb (wt - 1) (u : Int) ((q : Int) - (wt - 1) + 1) (sz - 1)) ∨ (¬ ((u : Int) = 0 ∧ 0 < sz) ∧ GV w' gb (wt - 1) (t'.lk u : Int) ed sz))
    (hsz : sz = (q : Int) - (k : Int) - (t.dep u : Int)) (hed : 0 < sz → ed = (q : Int) - sz) (he0 : 0 ≤ ed) (he1 : ed ≤ (T.length : Int)) (hwt : wt = (q : Int) + 1 - (k : Int)) (hn : n' ≤ 3 * (k + 1)) (hT : T.length ≤ 1048576) :
    AddRel T sv base w0 tb mb gb q (.int .i64 (a : Int)) w' ∧ addM gb w' < wt.toNat * 4194304 + sz.toNat := by
  have hkq := hg.kp
  have hdl := hg.dep_le
  have hlk0 : t'.lk 0 = 0 := by
    rw [(g.old 0 hg.tok.pos).2.2 (by omega)]
    exact hg.link0
  have hq' : ∃ q', (k < q ∧ q' = q) ∨ (k = q ∧ q' = q + 1) := by
    rcases Nat.lt_or_ge k q with c | c
    · exact ⟨q, .inl ⟨c, rfl⟩⟩
    · exact ⟨q + 1, .inr ⟨by omega, rfl⟩⟩
  obtain ⟨q', hq'⟩ := hq'
  have hroot : t'.dep 0 = 0 := g.tok.root
  have hru : u = 0 → t.dep u = 0 := fun e => by rw [e]; exact hg.tok.root
  rcases hsh with ⟨h0, h1, hgv⟩ | ⟨h0, hgv⟩
  · have hu0 : u = 0 := by omega
    obtain ⟨n1, n2, n3⟩ := hg.next hp g hq' (u' := 0) (.inl ⟨hu0, rfl⟩)
    have hd := hru hu0
    refine ⟨⟨t', k + 1, q', 0, a, nv', n', _, _, _, ⟨n1, htt, by rw [hu0] at hgv; exact hgv, hbel, ?_, ?_, ?_, ?_, hn⟩, rfl, ?_⟩, ?_⟩
    · rw [hroot]; omega
    · omega
    · omega
    · omega
    · omega
    · rw [addM_eq hgv]; omega
  · obtain ⟨n1, n2, n3⟩ := hg.next hp g hq' (u' := t'.lk u) (by
      by_cases e : u = 0
      · exact .inl ⟨e, by rw [e]; exact hlk0⟩
      · exact .inr ⟨e, rfl⟩)
    have hdu : (u = 0 ∧ t'.dep (t'.lk u) = 0) ∨ (u ≠ 0 ∧ t'.dep (t'.lk u) + 1 = t.dep u) := by
      by_cases e : u = 0
      · exact .inl ⟨e, by rw [e, hlk0]; exact hroot⟩
      · exact .inr ⟨e, n3 e⟩
    refine ⟨⟨t', k + 1, q', t'.lk u, a, nv', n', _, _, _, ⟨n1, htt, hgv, hbel, ?_, ?_, he0, he1, hn⟩, rfl, ?_⟩, ?_⟩
    · omega
    · omega
    · omega
    · rw [addM_eq hgv]; omega
theorem add_stay {v : Nat} (hg : GOk (chL T) T.length t k q u pd) (hp : q < T.length) (hb : t.bl u (chL T (k + t.dep u)) = some v) (hlt : q < k + t.dep v) (hch : chL T (t.fst v + (q - k)) = chL T q)
    (htt : TT T sv base w' tb mb nv' (nodesOf (t.link pd u)) (t.link pd u).bl n') (hbel : Below base w0 w') (hgv : GV w' gb wt (u : Int) ed (sz + 1)) (hsz : sz = (q : Int) - (k : Int) - (t.dep u : Int)) (hed : ed = (q : Int) - sz) (he0 : 0 ≤ ed) (he1 : ed ≤ (T.length : Int)) (hwt : wt = (q : Int) + 1 - (k : Int)) (hn : n' ≤ 3 * k) :
    AtP T sv base w0 tb mb gb (q + 1) w' := by
  have hs := hg.stay hp hb hlt hch
  refine ⟨_, k, u, nv', n', ed, sz + 1, ⟨hs, htt, ?_, hbel, ?_, ?_, he0, he1, hn⟩⟩
  · rw [show ((q + 1 : Nat) : Int) - (k : Int) = wt by omega]; exact hgv
  · show sz + 1 = ((q + 1 : Nat) : Int) - (k : Int) - (t.dep u : Int)
    omega
  · omega
end

set_option maxHeartbeats 4000000 in
set_option maxRecDepth 100000 in
theorem add_any {T : List UInt8} {sv : Value} {base tb mb gb p : Nat} {w0 w : World} (h : AtP T sv base w0 tb mb gb p w) (hT : T.length ≤ 1048576) (hp : p < T.length) (hgb : base ≤ gb) :
    Calls Try.prog 22 #[.pointer (some ⟨gb, 0, none⟩), .pointer (some ⟨tb, 0, none⟩), .int .i64 (p : Int)] w fun e w' => e = .returned (.tuple #[]) ∧ AtP T sv base w0 tb mb gb (p + 1) w' := by
  obtain ⟨t, k, u, nv, n, ed, sz, h⟩ := h
  have hkp := h.gok.kp
  obtain ⟨A, cA, rfl, g1, g2, -⟩ := h.tt.bs.at_
  unfold maxLen at g2
  obtain ⟨⟨e0, e1, e2, e3⟩, fg⟩ := h.gv.cells
  have f0 := fg 0
  clear fg
  have H := Lib.hid h
  clear h
  have hwt : (p : Int) - (k : Int) + 1 = (p : Int) + 1 - (k : Int) := by omega
  go_enter Try.func22, Try.ntmps22
  go_wp2
  go_loopw [6] (fun uv wr => AddRel T (.slice A T.length cA) base w0 tb mb gb p uv wr) (fun _ wr => addM gb wr)
  case atStart =>
    have g1 := H.out.gv.set0 ((p : Int) + 1 - (k : Int))
    refine ⟨t, k, p, u, 0, nv, n, _, ed, sz, ⟨H.out.gok, H.out.tt.far H.out.gv hgb, g1, H.out.bel.setCell (p := ⟨gb, 0, none⟩) hgb _, H.out.sz_eq, H.out.ed_eq, H.out.ed0, H.out.ed1, H.out.cnt⟩, rfl, .inl ⟨hkp, rfl, rfl⟩⟩
  case round =>
    clear e0 e1 e2 e3 f0 H hkp hwt
    obtain ⟨t, k, q, u, pd, nv, n, wt, ed, sz, h, rfl, hph⟩ := hrel
    have hK := h.gok.kp
    have hN := h.gok.pN
    have hm := h.gok.many
    have hul := h.gok.u_lt
    have hdl := h.gok.dep_le
    have hsz := h.sz_eq
    have hcnt := h.cnt
    have HT := Lib.hid h.tt
    have HG := Lib.hid h.gv
    have HB := Lib.hid h.bel
    have HGO := Lib.hid h.gok
    have hed := h.ed_eq
    obtain ⟨⟨e0, e1, e2, e3⟩, fg⟩ := h.gv.cells
    rcases hph with ⟨hkp, hq, hwt⟩ | ⟨hkp, hq, hwt, hpd⟩
    rotate_left
    · subst hwt hpd
      go_wp2
      go_end0
      exact ⟨rfl, t, k, u, nv, n, ed, sz, by rw [show (((p + 1 : Nat) : Int) - (k : Int)) = 0 by omega, ← hq]; exact h⟩
    subst hq
    have HH := Lib.hid h
    clear h
    have hwpos : 0 < wt := by omega
    have f2 := fg 2
    by_cases hz : sz = 0
    · subst hz
      have HE := Lib.hid (show k + t.dep u = q by omega)
      have HSZ := Lib.hid hsz
      have HWT := Lib.hid hwt
      have hwt1 : wt ≤ 1048577 := by omega
      clear hsz hed hwt
      have hchp : chL T q = T[q] := chL_at T q hp
      have HTW := Lib.hid (HT.out.far (o := 2) (x := .int .i64 (q : Int)) HG.out hgb)
      have HGW := Lib.hid (HG.out.set2 (q : Int))
      have HBW := Lib.hid (HB.out.setCell (p := ⟨gb, 2, none⟩) hgb (.int .i64 (q : Int)))
      go_wp2
      clear e0 e1 e2 e3 fg f2
      generalize World.setCell _ _ _ = W at HTW HGW HBW ⊢
      obtain ⟨⟨e0, e1, e2, e3⟩, fg⟩ := HGW.out.cells
      obtain ⟨⟨c0, c1, c2⟩, -⟩ := HTW.out.cells
      obtain ⟨ad, rfl, hc⟩ := HTW.out.bs.cellC q hp
      have e1' : W.drew.cell? ⟨gb, 1, none⟩ = _ := e1
      have e2' : W.drew.cell? ⟨gb, 2, none⟩ = _ := e2
      have c0' : W.drew.cell? ⟨tb, 0, none⟩ = _ := c0
      have c2' : W.drew.cell? ⟨tb, 2, none⟩ = _ := c2
      have hc' : W.drew.cell? (ad.add q) = _ := hc
      have hbr := branch_any u (T[q]) W.drew (by omega)
      clear e0 e1 e2 e3 fg c0 c1 c2 hc
      rcases hbl : t.bl u (chL T q) with _ | v
      · have hrun := HTW.out.drew.map.look_none (u := u) (c := T[q]) (by omega) (by rw [← hchp]; exact hbl)
        refine wp_region_still_lit (by kernel_rfl) (by kernel_rfl) ?_
        repeat still_step
        still_call hbr
        repeat still_step
        refine wpStill_nil ?_
        clear e1' e2' c0' c2' hc' hbr hrun
        have HTD := Lib.hid HTW.out.drew
        have HGD := Lib.hid (show GV W.drew gb wt (u : Int) (q : Int) 0 from HGW.out)
        have HBD := Lib.hid HBW.out.drew
        change Exit.then _ _ _ _ W.drew
        generalize W.drew = D at HTD HGD HBD ⊢
        obtain ⟨⟨e0, e1, e2, e3⟩, fg⟩ := HGD.out.cells
        obtain ⟨⟨c0, c1, c2⟩, -⟩ := HTD.out.cells
        clear fg
        go_wp2
        go_quiet (fail)
        have HT2 := Lib.hid (HTD.out.below (below_drewN (Below.refl _ _) nq))
        have HG2 := Lib.hid (show GV (D.drewN nq) gb wt (u : Int) (q : Int) 0 from HGD.out)
        have HB2 := Lib.hid (below_drewN HBD.out nq)
        clear e0 e1 e2 e3 c0 c1 c2
        generalize D.drewN nq = D2 at HT2 HG2 HB2 ⊢
        obtain ⟨⟨c0, c1, c2⟩, -⟩ := HT2.out.cells
        obtain ⟨hE1, hHu⟩ := HGO.out.hangs hp (by rw [HE.out]; exact hbl)
        have HHU := Lib.hid hHu
        clear hHu
        have hpdm : pd < t.m := by
          by_cases e : pd = 0
          · rw [e]; exact HGO.out.tok.pos
          · exact (HGO.out.pend e).1
        go_wp2_with (first
          | (go_at_call 32; refine (hang_any HT2.out u q T.length hT hp (by omega) (by omega) (by rw [nodesOf_len]; omega) (by rw [nodesOf_len]; omega) (by omega)).mono ?_
             rintro e w1 ⟨rfl, ⟨nv1, ht1⟩, hb1, hk1⟩
             have ht1' : TT T (.slice (some ad) T.length cA) base w1 tb mb nv1 (nodesOf (t.hang (chL T) u k (T.length - k))) (t.hang (chL T) u k (T.length - k)).bl (n + 1) := by
               rw [nodes_hang (chL T) t u k (T.length - k) hul (HGO.out.tok.pars), hE1, show k + (T.length - k) = T.length by omega]
               show TT T _ base w1 tb mb nv1 _ (updB t.bl u (chL T (k + t.dep u)) t.m) (n + 1)
               rw [hE1, hchp]
               rw [nodesOf_len] at ht1
               exact ht1
             have hg1 := HG2.out.kept hk1)
          | (go_at_call 30; refine (connect_any ht1' pd u (by rw [nodesOf_len]; exact Nat.lt_succ_of_lt hpdm) (by rw [nodesOf_len]; show t.m + 1 ≤ _; omega) (by omega)).mono ?_
             rintro e w2 ⟨rfl, ⟨nv2, ht2⟩, hb2, hk2⟩
             rw [← nodes_link (t.hang (chL T) u k (T.length - k)) pd u (Nat.lt_succ_of_lt hpdm)] at ht2
             have hg2 := hg1.kept hk2)
          | (go_at_call 33; refine (shorten_any ht2 hg2 hgb (nodeOf ((t.hang (chL T) u k (T.length - k)).link pd u) u) (nodesOf_get _ u (Nat.lt_succ_of_lt hul)) (by rw [nodesOf_len]; show t.m + 1 ≤ _; omega) hwpos (by omega) (by omega) (by omega) (by omega) (by omega)).mono ?_
             rintro e w3 ⟨rfl, ht3, hb3, hsh⟩
             obtain ⟨hr1, hr2⟩ := add_next HGO.out hp HHU.out ht3 (((HB2.out.trans hb1).trans hb2).trans hb3) hsh HSZ.out (fun e => by omega) (by omega) (by omega) HWT.out (by omega) hT
             have HR1 := Lib.hid hr1
             have HR2 := Lib.hid hr2
             clear hr1 hr2 hsh))
        go_roundw
        case rel => exact HR1.out
        case measure => rw [addM_eq HG.out]; exact HR2.out
      · obtain ⟨b1, b2, b3, b4⟩ := HGO.out.tok.back _ _ _ hbl
        have hE1 := HE.out
        have hfe : t.fst v + t.dep u = t.fst v + (q - k) := by omega
        have HCH := Lib.hid (show chL T (t.fst v + (q - k)) = chL T q by rw [← hfe]; exact b4)
        have hlt := HGO.out.tok.dep_lt v b1 b2
        rw [b3] at hlt
        have hfv0 := HGO.out.tok.fits v b1 b2
        have HCHT := Lib.hid (show T[t.fst v + (q - k)]'(by omega) = T[q] by rw [← chL_at T _ (by omega), ← chL_at T _ (by omega)]; exact HCH.out)
        clear b1 b2 b3 b4
        obtain ⟨G, kk, cur, rfl, q1, q2, q3, q4, q5⟩ := HT.out.row.open_ (by rw [nodesOf_len]; omega)
        rw [nodesOf_len] at q3
        clear q5
        have s1 : (0 : Int) ≤ (t.fst v : Int) + (t.dep u : Int) := by omega
        have s3 : ((t.fst v : Int) + (t.dep u : Int)).toNat = t.fst v + (q - k) := by omega
        have s4 : (t.fst v : Int) + (t.dep u : Int) < (T.length : Int) := by omega
        have hpdm : pd < t.m := by
          by_cases e : pd = 0
          · rw [e]; exact HGO.out.tok.pos
          · exact (HGO.out.pend e).1
        have hrun := HTW.out.drew.map.look_some (u := u) (v := v) (c := T[q]) (by omega) (by rw [← chL_at T _ (by omega)]; exact hbl)
        obtain ⟨b1, b2, b3, b4⟩ := HGO.out.tok.back _ _ _ hbl
        have hdv := HGO.out.tok.dep_lt v b1 b2
        rw [b3] at hdv
        have hfv := HGO.out.tok.fits v b1 b2
        have hnode : nodeOf t v = (t.fst v + t.dep u, t.fst v + t.dep v, t.lk v) := by unfold nodeOf; rw [b3]
        have HND := Lib.hid hnode
        have HB4 := Lib.hid b4
        have HBL := Lib.hid hbl
        have HPV := Lib.hid b3; clear hnode b3 b4 hbl
        refine wp_region_still_lit (by kernel_rfl) (by kernel_rfl) ?_
        repeat still_step
        still_call hbr
        repeat still_step
        refine wpStill_nil ?_
        clear e1' e2' c0' c2' hc' hbr hrun
        have HTD := Lib.hid HTW.out.drew
        have HGD := Lib.hid (show GV W.drew gb wt (u : Int) (q : Nat) 0 from HGW.out)
        have HBD := Lib.hid HBW.out.drew
        change Exit.then _ _ _ _ W.drew
        generalize W.drew = D at HTD HGD HBD ⊢
        have HDE := Lib.hid (descend_any HTD.out HGD.out hgb v (t.fst v + t.dep u, t.fst v + t.dep v, t.lk v) (by rw [nodesOf_get t v b2, HND.out]) (by rw [nodesOf_len]; omega) (by show t.fst v + t.dep u ≤ _; omega) (by show t.fst v + t.dep v ≤ _; omega) (by omega) (by omega) (by omega) (by omega))
        go_wp2_with (first
          | (go_at_call 29; refine HDE.out.mono ?_
             rintro e w1 ⟨ht1, hb1, hr1⟩
             obtain ⟨rfl, hg1⟩ : e = .returned (.bool false) ∧ GV w1 gb wt (u : Int) (q : Nat) 0 := by
               rcases hr1 with ⟨_, r1, r2⟩ | ⟨r0, _⟩
               · exact ⟨r1, r2⟩
               · exfalso
                 simp only at r0
                 omega
             have HT1 := Lib.hid ht1
             have HG1 := Lib.hid hg1
             have HB1 := Lib.hid (HBD.out.trans hb1)
             obtain ⟨⟨e0, e1, e2, e3⟩, fg⟩ := hg1.cells
             obtain ⟨⟨c0, c1, c2⟩, -⟩ := ht1.cells
             obtain ⟨c3, -, -⟩ := ht1.row.threeAt v _ (nodesOf_get t v b2)
             rw [HND.out] at c3
             rw [nodesOf_len] at c1
             obtain ⟨ad1, hadE, hc1⟩ := ht1.bs.cellC (t.fst v + (q - k)) (by omega)
             injection hadE with hadE
             subst hadE
             obtain ⟨ad1, hadE, hc2⟩ := ht1.bs.cellC q hp
             injection hadE with hadE
             subst hadE
             rw [HCHT.out] at hc1
             unfold vB at hc1 hc2
             clear ht1 hb1 hr1 hg1 fg))
        go_quiet (fail)
        have HT2 := Lib.hid (HT1.out.below (below_drewN (Below.refl _ _) nq))
        have HG2 := Lib.hid (show GV (w1.drewN nq) gb wt (u : Int) (q : Nat) 0 from HG1.out)
        have HB2 := Lib.hid (below_drewN HB1.out nq)
        clear e0 e1 e2 e3 c0 c1 c2 c3 hc1 hc2
        generalize w1.drewN nq = D2 at HT2 HG2 HB2 ⊢
        go_wp2_with (first
          | (go_at_call 30; refine (connect_any HT2.out pd u (by rw [nodesOf_len]; exact hpdm) (by rw [nodesOf_len]; omega) (by omega)).mono ?_
             rintro e w2 ⟨rfl, ⟨nv2, ht2⟩, hb2, hk2⟩
             rw [← nodes_link t pd u hpdm] at ht2
             have hg2 := HG2.out.kept hk2
             have HT3 := Lib.hid ht2
             have HG3 := Lib.hid hg2
             have HB3 := Lib.hid (HB2.out.trans hb2)
             obtain ⟨⟨e0, e1, e2, e3⟩, fg⟩ := hg2.cells
             have f3 := fg 3
             clear ht2 hg2 hb2 hk2 fg))
        (try simp only [Exit.inBlock, Exit.then])
        refine bodyPost_ret (results_none rfl _ _ _) rfl ?_
        have HG4 := HG3.out.set3 (0 + 1)
        refine ⟨rfl, add_stay HGO.out hp (by rw [HE.out]; exact HBL.out) (by omega) HCH.out (HT3.out.far HG3.out hgb) (HB3.out.setCell (p := ⟨gb, 3, none⟩) hgb _) HG4 HSZ.out (by omega) (by omega) (by omega) HWT.out hcnt⟩
    · have hz1 : 0 < sz := by omega
      obtain ⟨S, hSE⟩ : ∃ S : Nat, sz = (S : Int) := ⟨sz.toNat, by omega⟩
      subst hSE
      have HE := Lib.hid (show k + t.dep u + S = q by omega)
      obtain ⟨E, hEE⟩ : ∃ E, k + t.dep u = E := ⟨_, rfl⟩
      have hedE : ed = (E : Int) := by have := hed hz1; omega
      subst hedE
      have hltE : E < q := by omega
      have hElt : E < T.length := by omega
      have hSq : S ≤ q := by omega
      have hS0 : 0 < S := by omega
      have dz : ((S : Int) == 0) = false := beq_eq_false_iff_ne.2 (by omega)
      have HSZ := Lib.hid hsz
      have HWT := Lib.hid hwt
      have hwt1 : wt ≤ 1048577 := by omega
      clear hsz hed hwt hz hz1
      obtain ⟨v, hbl⟩ := HGO.out.found (by omega)
      rw [hEE] at hbl
      have HTW := HT
      have HGW := HG
      have HBW := HB
      go_wp2
      clear e0 e1 e2 e3 fg f2
      obtain ⟨⟨e0, e1, e2, e3⟩, fg⟩ := HGW.out.cells
      obtain ⟨⟨c0, c1, c2⟩, -⟩ := HTW.out.cells
      obtain ⟨ad, rfl, hc⟩ := HTW.out.bs.cellC E (by omega)
      have e1' : wr.drew.cell? ⟨gb, 1, none⟩ = _ := e1
      have e2' : wr.drew.cell? ⟨gb, 2, none⟩ = _ := e2
      have c0' : wr.drew.cell? ⟨tb, 0, none⟩ = _ := c0
      have c2' : wr.drew.cell? ⟨tb, 2, none⟩ = _ := c2
      have hc' : wr.drew.cell? (ad.add E) = _ := hc
      have hbr := branch_any u (T[E]) wr.drew (by omega)
      clear e0 e1 e2 e3 fg c0 c1 c2 hc
      have hpdm : pd < t.m := by
        by_cases e : pd = 0
        · rw [e]; exact HGO.out.tok.pos
        · exact (HGO.out.pend e).1
      have hrun := HTW.out.drew.map.look_some (u := u) (v := v) (c := T[E]) (by omega) (by rw [← chL_at T _ (by omega)]; exact hbl)
      obtain ⟨b1, b2, b3, b4⟩ := HGO.out.tok.back _ _ _ hbl
      have hdv := HGO.out.tok.dep_lt v b1 b2
      rw [b3] at hdv
      have hfv := HGO.out.tok.fits v b1 b2
      have hnode : nodeOf t v = (t.fst v + t.dep u, t.fst v + t.dep v, t.lk v) := by unfold nodeOf; rw [b3]
      have HND := Lib.hid hnode
      have HB4 := Lib.hid b4
      have HBL := Lib.hid hbl
      have HPV := Lib.hid b3; clear hnode b3 b4 hbl
      refine wp_region_still_lit (by kernel_rfl) (by kernel_rfl) ?_
      repeat still_step
      still_call hbr
      repeat still_step
      refine wpStill_nil ?_
      clear e1' e2' c0' c2' hc' hbr hrun
      have HTD := Lib.hid HTW.out.drew
      have HGD := Lib.hid (show GV wr.drew gb wt (u : Int) (E : Nat) (S : Int) from HGW.out)
      have HBD := Lib.hid HBW.out.drew
      change Exit.then _ _ _ _ wr.drew
      generalize wr.drew = D at HTD HGD HBD ⊢
      by_cases hdn : k + t.dep v ≤ q
      · have HDE := Lib.hid (descend_any HTD.out HGD.out hgb v (t.fst v + t.dep u, t.fst v + t.dep v, t.lk v) (by rw [nodesOf_get t v b2, HND.out]) (by rw [nodesOf_len]; omega) (by show t.fst v + t.dep u ≤ _; omega) (by show t.fst v + t.dep v ≤ _; omega) (by omega) (by omega) (by omega) (by omega))
        go_wp2_with (first
          | (go_at_call 29; refine HDE.out.mono ?_
             rintro e w1 ⟨ht1, hb1, hr1⟩
             have hEq := HE.out
             obtain ⟨rfl, hg1⟩ : e = .returned (.bool true) ∧ GV w1 gb wt (v : Int) ((E : Int) + (((t.fst v + t.dep v : Nat) : Int) - ((t.fst v + t.dep u : Nat) : Int))) ((S : Int) - (((t.fst v + t.dep v : Nat) : Int) - ((t.fst v + t.dep u : Nat) : Int))) := by
               rcases hr1 with ⟨r0, _⟩ | ⟨_, r1, r2⟩
               · exfalso
                 simp only at r0
                 omega
               · exact ⟨r1, r2⟩
             have HR1 : Hid (AddRel T (.slice (some ad) T.length cA) base w0 tb mb gb q (.int .i64 (pd : Int)) w1) := ⟨t, k, q, v, pd, _, n, wt, _, _, ⟨HGO.out.down (by rw [hEE]; exact HBL.out) hdn, ht1, hg1, HBD.out.trans hb1, by omega, by omega, by omega, by omega, hcnt⟩, rfl, .inl ⟨hkp, rfl, HWT.out⟩⟩
             have HR2 : Hid (addM gb w1 < addM gb wr) := by
               show addM gb w1 < addM gb wr
               rw [addM_eq hg1, addM_eq HG.out]
               omega
             clear ht1 hb1 hr1 hg1 hEq))
        go_roundw
        case rel => exact HR1.out
        case measure => exact HR2.out
      · obtain ⟨G, kk, cur, rfl, q1, q2, q3, q4, q5⟩ := HT.out.row.open_ (by rw [nodesOf_len]; omega)
        rw [nodesOf_len] at q3
        clear q5
        have hEq := HE.out
        have s1 : (0 : Int) ≤ (t.fst v : Int) + (t.dep u : Int) + (S : Int) := by omega
        have s3 : ((t.fst v : Int) + (t.dep u : Int) + (S : Int)).toNat = t.fst v + (q - k) := by omega
        have s4 : (t.fst v : Int) + (t.dep u : Int) + (S : Int) < (T.length : Int) := by omega
        have s5 : t.fst v + (q - k) < T.length := by omega
        clear hEq
        by_cases hch : chL T (t.fst v + (q - k)) = chL T q
        · have HCH := Lib.hid hch
          have HCHT := Lib.hid (show T[t.fst v + (q - k)]'(by omega) = T[q] by rw [← chL_at T _ (by omega), ← chL_at T _ (by omega)]; exact HCH.out)
          clear hch
          have HDE := Lib.hid (descend_any HTD.out HGD.out hgb v (t.fst v + t.dep u, t.fst v + t.dep v, t.lk v) (by rw [nodesOf_get t v b2, HND.out]) (by rw [nodesOf_len]; omega) (by show t.fst v + t.dep u ≤ _; omega) (by show t.fst v + t.dep v ≤ _; omega) (by omega) (by omega) (by omega) (by omega))
          go_wp2_with (first
            | (go_at_call 29; refine HDE.out.mono ?_
               rintro e w1 ⟨ht1, hb1, hr1⟩
               obtain ⟨rfl, hg1⟩ : e = .returned (.bool false) ∧ GV w1 gb wt (u : Int) (E : Nat) (S : Int) := by
                 rcases hr1 with ⟨_, r1, r2⟩ | ⟨r0, _⟩
                 · exact ⟨r1, r2⟩
                 · exfalso
                   simp only at r0
                   omega
               have HT1 := Lib.hid ht1
               have HG1 := Lib.hid hg1
               have HB1 := Lib.hid (HBD.out.trans hb1)
               obtain ⟨⟨e0, e1, e2, e3⟩, fg⟩ := hg1.cells
               obtain ⟨⟨c0, c1, c2⟩, -⟩ := ht1.cells
               obtain ⟨c3, -, -⟩ := ht1.row.threeAt v _ (nodesOf_get t v b2)
               rw [HND.out] at c3
               rw [nodesOf_len] at c1
               obtain ⟨ad1, hadE, hc1⟩ := ht1.bs.cellC (t.fst v + (q - k)) (by omega)
               injection hadE with hadE
               subst hadE
               obtain ⟨ad1, hadE, hc2⟩ := ht1.bs.cellC q hp
               injection hadE with hadE
               subst hadE
               rw [HCHT.out] at hc1
               unfold vB at hc1 hc2
               clear ht1 hb1 hr1 hg1 fg))
          go_quiet (fail)
          have HT2 := Lib.hid (HT1.out.below (below_drewN (Below.refl _ _) nq))
          have HG2 := Lib.hid (show GV (w1.drewN nq) gb wt (u : Int) (E : Nat) (S : Int) from HG1.out)
          have HB2 := Lib.hid (below_drewN HB1.out nq)
          clear e0 e1 e2 e3 c0 c1 c2 c3 hc1 hc2
          generalize w1.drewN nq = D2 at HT2 HG2 HB2 ⊢
          go_wp2_with (first
            | (go_at_call 30; refine (connect_any HT2.out pd u (by rw [nodesOf_len]; exact hpdm) (by rw [nodesOf_len]; omega) (by omega)).mono ?_
               rintro e w2 ⟨rfl, ⟨nv2, ht2⟩, hb2, hk2⟩
               rw [← nodes_link t pd u hpdm] at ht2
               have hg2 := HG2.out.kept hk2
               have HT3 := Lib.hid ht2
               have HG3 := Lib.hid hg2
               have HB3 := Lib.hid (HB2.out.trans hb2)
               obtain ⟨⟨e0, e1, e2, e3⟩, fg⟩ := hg2.cells
               have f3 := fg 3
               clear ht2 hg2 hb2 hk2 fg))
          (try simp only [Exit.inBlock, Exit.then])
          refine bodyPost_ret (results_none rfl _ _ _) rfl ?_
          have HG4 := HG3.out.set3 ((S : Int) + 1)
          refine ⟨rfl, add_stay HGO.out hp (by rw [hEE]; exact HBL.out) (by omega) HCH.out (HT3.out.far HG3.out hgb) (HB3.out.setCell (p := ⟨gb, 3, none⟩) hgb _) HG4 HSZ.out (by omega) (by omega) (by omega) HWT.out hcnt⟩
        · have hchb : (((T[t.fst v + (q - k)]'s5).toNat : Int) == ((T[q]).toNat : Int)) = false := by
            refine beq_eq_false_iff_ne.2 (fun e => hch ?_)
            rw [chL_at T _ s5, chL_at T _ hp]
            exact UInt8.toNat_inj.1 (by omega)
          have HCHN := Lib.hid hch
          clear hch
          have HDE := Lib.hid (descend_any HTD.out HGD.out hgb v (t.fst v + t.dep u, t.fst v + t.dep v, t.lk v) (by rw [nodesOf_get t v b2, HND.out]) (by rw [nodesOf_len]; omega) (by show t.fst v + t.dep u ≤ _; omega) (by show t.fst v + t.dep v ≤ _; omega) (by omega) (by omega) (by omega) (by omega))
          go_wp2_with (first
            | (go_at_call 29; refine HDE.out.mono ?_
               rintro e w1 ⟨ht1, hb1, hr1⟩
               obtain ⟨rfl, hg1⟩ : e = .returned (.bool false) ∧ GV w1 gb wt (u : Int) (E : Nat) (S : Int) := by
                 have hEq := HE.out
                 rcases hr1 with ⟨_, r1, r2⟩ | ⟨r0, _⟩
                 · exact ⟨r1, r2⟩
                 · exfalso
                   simp only at r0
                   omega
               have HT1 := Lib.hid ht1
               have HG1 := Lib.hid hg1
               have HB1 := Lib.hid (HBD.out.trans hb1)
               obtain ⟨⟨e0, e1, e2, e3⟩, fg⟩ := hg1.cells
               obtain ⟨⟨c0, c1, c2⟩, -⟩ := ht1.cells
               obtain ⟨c3, -, -⟩ := ht1.row.threeAt v _ (nodesOf_get t v b2)
               rw [HND.out] at c3
               rw [nodesOf_len] at c1
               obtain ⟨ad1, hadE, hc1⟩ := ht1.bs.cellC (t.fst v + (q - k)) s5
               injection hadE with hadE
               subst hadE
               obtain ⟨ad1, hadE, hc2⟩ := ht1.bs.cellC q hp
               injection hadE with hadE
               subst hadE
               unfold vB at hc1 hc2
               generalize ((T[t.fst v + (q - k)]'s5).toNat : Int) = X at hc1 hchb
               generalize ((T[q]).toNat : Int) = Y at hc2 hchb
               clear ht1 hb1 hr1 hg1 fg))
          go_quiet (fail)
          have HT2 := Lib.hid (HT1.out.below (below_drewN (Below.refl _ _) nq))
          have HG2 := Lib.hid (show GV (w1.drewN nq) gb wt (u : Int) (E : Nat) (S : Int) from HG1.out)
          have HB2 := Lib.hid (below_drewN HB1.out nq)
          clear e0 e1 e2 e3 c0 c1 c2 c3 hc1 hc2 hchb
          generalize w1.drewN nq = D2 at HT2 HG2 HB2 ⊢
          obtain ⟨⟨e0, e1, e2, e3⟩, fg⟩ := HG2.out.cells
          clear fg
          obtain ⟨hE1, hHu⟩ := HGO.out.parts hp (by rw [hEE]; exact HBL.out) (by omega) HCHN.out
          have HHU := Lib.hid hHu
          have HSP := Lib.hid (nodes_split (chL T) t u v (q - k) hul b2 HGO.out.tok.pars)
          have HPA := Lib.hid (HGO.out.tok.parted hul b1 b2 HPV.out (show t.dep u < q - k by omega) (show q - k < t.dep v by omega))
          clear hHu
          have hsm : (t.split (chL T) u v (q - k)).m = t.m + 1 := rfl
          go_wp2_with (first
            | (go_at_call 31; refine (split_any HT2.out u v S (t.fst v + t.dep u, t.fst v + t.dep v, t.lk v) (by rw [nodesOf_get t v b2, HND.out]) hT (by show t.fst v + t.dep u < _; omega) (by show t.fst v + t.dep u + S < _; have := HE.out; omega) (by omega) (by rw [nodesOf_len]; omega) (by omega)).mono ?_
               rintro e w1 ⟨rfl, ⟨nv1, ht1⟩, hb1, hk1⟩
               have ht1' : TT T (.slice (some ad) T.length cA) base w1 tb mb nv1 (nodesOf (t.split (chL T) u v (q - k))) (t.split (chL T) u v (q - k)).bl (n + 2) := by
                 have hEq := HE.out
                 rw [HSP.out]
                 show TT T _ base w1 tb mb nv1 _ (updB (updB t.bl u (chL T (t.fst v + t.dep u)) t.m) t.m (chL T (t.fst v + (q - k))) v) (n + 2)
                 rw [nodesOf_len] at ht1
                 have e1 : t.fst v + t.dep u + S = t.fst v + (q - k) := by omega
                 rw [chL_at T (t.fst v + t.dep u) (by omega), chL_at T (t.fst v + (q - k)) s5]
                 simp only [e1] at ht1
                 exact ht1
               have hg1 := HG2.out.kept hk1
               rw [nodesOf_len]
               obtain ⟨⟨c0, c1, c2⟩, -⟩ := ht1.cells
               clear ht1)
            | (go_at_call 32; refine (hang_any ht1' t.m q T.length hT hp (by omega) (by omega) (by rw [nodesOf_len, hsm]; omega) (by rw [nodesOf_len, hsm]; omega) (by omega)).mono ?_
               rintro e w2 ⟨rfl, ⟨nv2, ht2⟩, hb2, hk2⟩
               have ht2' : TT T (.slice (some ad) T.length cA) base w2 tb mb nv2 (nodesOf ((t.split (chL T) u v (q - k)).hang (chL T) t.m k (T.length - k))) ((t.split (chL T) u v (q - k)).hang (chL T) t.m k (T.length - k)).bl (n + 2 + 1) := by
                 have hd : (t.split (chL T) u v (q - k)).dep t.m = q - k := upd_same _ _ _
                 rw [nodes_hang (chL T) _ t.m k (T.length - k) (by rw [hsm]; omega) HPA.out.pars, hd, show k + (T.length - k) = T.length by omega, show k + (q - k) = q by omega]
                 show TT T _ base w2 tb mb nv2 _ (updB (t.split (chL T) u v (q - k)).bl t.m (chL T (k + (t.split (chL T) u v (q - k)).dep t.m)) (t.split (chL T) u v (q - k)).m) (n + 2 + 1)
                 rw [hd, show k + (q - k) = q by omega, chL_at T q hp]
                 rw [nodesOf_len] at ht2
                 exact ht2
               have hg2 := hg1.kept hk2
               clear ht2)
            | (go_at_call 30; refine (connect_any ht2' pd t.m (by rw [nodesOf_len]; show pd < t.m + 1 + 1; omega) (by rw [nodesOf_len]; show t.m + 1 + 1 ≤ _; omega) (by omega)).mono ?_
               rintro e w3 ⟨rfl, ⟨nv3, ht3⟩, hb3, hk3⟩
               rw [← nodes_link ((t.split (chL T) u v (q - k)).hang (chL T) t.m k (T.length - k)) pd t.m (show pd < t.m + 1 + 1 by omega)] at ht3
               have hg3 := hg2.kept hk3)
            | (go_at_call 33; refine (shorten_any ht3 hg3 hgb (nodeOf (((t.split (chL T) u v (q - k)).hang (chL T) t.m k (T.length - k)).link pd t.m) u) (nodesOf_get _ u (show u < t.m + 1 + 1 by omega)) (by rw [nodesOf_len]; show t.m + 1 + 1 ≤ _; omega) hwpos (by omega) (by omega) (by omega) (by omega) (by omega)).mono ?_
               rintro e w4 ⟨rfl, ht4, hb4, hsh⟩
               obtain ⟨hr1, hr2⟩ := add_next HGO.out hp HHU.out ht4 ((((HB2.out.trans hb1).trans hb2).trans hb3).trans hb4) hsh HSZ.out (fun _ => by have := HE.out; omega) (by omega) (by omega) HWT.out (by omega) hT
               have HR1 := Lib.hid hr1
               have HR2 := Lib.hid hr2
               clear hr1 hr2 hsh))
          go_roundw
          case rel => exact HR1.out
          case measure => rw [addM_eq HG.out]; exact HR2.out
end Go.Proofs.Ytmggknoaiaeojaa
