/- What is proved here: words for a slice of uint32 and for a row of bytes without room behind it; what append makes of that; the law VtParams, called with any uint32s, any number and any bool, returns true and leaves alone whatever memory was there; for every input the law VtParams answers true (how numbers of a sequence are read, how great, how many there may be); no condition. -/
import Derived.Test.YtbimhhcmfhooaaaM11
import Derived.Laws.Append
import Derived.Laws.AppendOwn
import Derived.Test.YtbimhhcmfhooaaaRows
import Derived.WalkKit
import Derived.ProofKit
import Derived.OpenShut
import Derived.ShutString
import Derived.ChangeOld
import Derived.Below
namespace Go.Proofs.Ytbimhhcmfhooaaa
open Go.RowKit
set_option linter.unusedVariables false
set_option linter.unusedSimpArgs false

def vU4 (b : Int) : Value := .int .u32 b
/-- A slice that reads as the uint32s l; it lies below block B. -/
def US (w : World) (B : Nat) (v : Value) (l : List Int) : Prop := SL vU4 w (fun x => x < B) v l
theorem US.nil (w : World) (B : Nat) : US w B (.slice none 0 0) [] := SL.nil _ _ _
theorem US.below {w w' : World} {B : Nat} {v : Value} {l : List Int} (h : US w B v l) (hb : Below B w w') : US w' B v l := SL.keep h fun _ hp => hb.cell hp
theorem us_row {W : World} {a : Addr} {len cap : Nat} {zs : List Int} (hl : len ≤ cap) (hm : cap ≤ maxLen) (hz : zs.length = cap)
    (hcell : ∀ i, i < zs.length → W.cell? (a.add i) = some (.int .u32 (zs.getD i 0))) (hwz : ∀ n ∈ zs, (Lit.int .u32 n).wf = true) : ∃ l, US W W.heap.size (.slice (some a) len cap) l ∧ ∀ n ∈ l, (Lit.int .u32 n).wf = true := by
  have hlen : (zs.take len).length = len := by simp; omega
  refine ⟨zs.take len, ⟨_, cap, by rw [hlen], by rw [hlen]; exact hl, hm, fun h0 => ⟨a, rfl, ?_, fun j b hj => ?_⟩⟩, fun n hn => hwz n (List.mem_of_mem_take hn)⟩
  · rw [hlen] at h0
    have h := hcell 0 (by omega)
    rw [show a.add 0 = a from by simp [Addr.add]] at h
    rcases Nat.lt_or_ge a.block W.heap.size with hh | hh
    · exact hh
    · simp [World.cell?, Array.getElem?_eq_none hh] at h
  · have hj1 : j < len := by
      rcases Nat.lt_or_ge j len with hh | hh
      · exact hh
      · rw [List.getElem?_eq_none (by rw [hlen]; exact hh)] at hj; cases hj
    have hj2 : j < zs.length := by omega
    rw [hcell j hj2]
    rw [List.getElem?_take, if_pos hj1, List.getElem?_eq_getElem hj2] at hj
    injection hj with hj
    subst hj
    simp [vU4, List.getD, List.getElem?_eq_getElem hj2]

/-- A row of bytes of the call's own, or one that has no room. -/
def GB (w : World) (base : Nat) (v : Value) (l : List UInt8) : Prop := OB w base v l ∨ (∃ ad, v = .slice (some ad) l.length l.length ∧ BS w w.heap.size v l)
section
variable {w w' : World} {base : Nat} {v : Value} {l : List UInt8}
theorem GB.below (h : GB w base v l) (hb : Below w.heap.size w w') : GB w' base v l := by
  rcases h with h | ⟨ad, h1, h2⟩
  · exact .inl (h.below hb)
  · exact .inr ⟨ad, h1, (h2.below hb).more hb.size⟩
theorem GB.bs (h : GB w base v l) : BS w w.heap.size v l := by
  rcases h with h | ⟨ad, h1, h2⟩
  · exact h.bs
  · exact h2
end
theorem run_appG (w : World) (ty : TypeId) {base B : Nat} {v u : Value} {l m : List UInt8} (hv : GB w base v l) (hr : BS w B u m) (hm : 0 < m.length) (hlen : l.length + m.length ≤ 1048576) (hbase : base ≤ w.heap.size) :
    ∃ v' w', (Builtin.append_ #[22, 22] ty #[v, u]).run Try.prog w = .ok v' w' ∧ OB w' base v' (l ++ m) ∧ Below base w w' ∧ ∀ b2 v2 l2, OI w b2 v2 l2 → OI w' b2 v2 l2 := by
  rcases hv with hv | ⟨ad, rfl, hv⟩
  · obtain ⟨v', w', hrun, h2, h3, h4, h5⟩ := run_app w ty hv hr (by omega) hbase
    refine ⟨v', w', hrun, h2, h4, fun b2 v2 l2 hi => own_keep hi (fun g hg => h3.block g (World.ownsRow.lt hi g hg).2 (fun e => own_apart hi hv (by decide) g hg e.symm))⟩
  · obtain ⟨i0, hi0, hz0, hz1, hz2⟩ := info_parts byteInfo
    obtain ⟨A, c, rfl, h1, h2, h3⟩ := hr
    obtain ⟨ad2, rfl, hb, hc⟩ := h3 hm
    obtain ⟨A', c', hv', g1, g2, g3⟩ := hv
    simp only [Value.slice.injEq] at hv'
    obtain ⟨rfl, -, rfl⟩ := hv'
    have holds : ∀ j x, (vBs l)[j]? = some x → w.cell? (ad.add j) = some x := fun j x hj => by
      unfold vBs at hj
      rw [List.getElem?_map] at hj
      cases hl : l[j]? with
      | none => rw [hl] at hj; cases hj
      | some b =>
        rw [hl] at hj
        simp only [Option.map_some, Option.some.injEq] at hj
        subst hj
        obtain ⟨ad3, hA, _, hcc⟩ := g3 (by have := (List.getElem?_eq_some_iff.1 hl).1; omega)
        injection hA with hA
        subst hA
        exact hcc j b hl
    have hnews : ∀ j x, (vBs m)[j]? = some x → w.cell? (ad2.add j) = some x := fun j x hj => by
      unfold vBs at hj
      rw [List.getElem?_map] at hj
      cases hl : m[j]? with
      | none => rw [hl] at hj; cases hj
      | some b =>
        rw [hl] at hj
        simp only [Option.map_some, Option.some.injEq] at hj
        subst hj
        exact hc j b hl
    have hrun := run_append_grow (P := Try.prog) w 22 ty 5 i0 (.int .u8 0) Try.underlying22 hi0 hz0 ad l.length l.length (vBs l) (by simp [vBs, hz1]) holds ad2 m.length c (vBs m) (by simp [vBs, hz1]) hnews (by omega) (by omega) (growslice_fits (by omega) (by rw [hz2]; omega))
    have hge := grownCap_ge w (l.length + m.length) l.length 5
    have hcm := grownCap_le_maxLen w (l.length + m.length) l.length 5 (by unfold maxLen; omega)
    refine ⟨_, _, hrun, ⟨by simp [vBs], .inr ⟨w.heap.size, _, _, by rw [List.length_append], hbase, heap_alloc_new w.drew _, by rw [List.length_append]; exact hge, hcm, ?_, ?_⟩⟩, ((Below.refl _ _).drew).alloc hbase _, fun b2 v2 l2 hi => own_keep hi (fun g hg => Below.heap_alloc w.drew _ _ (World.ownsRow.lt hi g hg).2)⟩
    · simp only [Array.size_append, List.size_toArray, size_zeroCells]
      simp [vBs, Value.cells]
      omega
    · simp only [Array.toList_append, vBs, List.length_append, Nat.mul_one]
      rw [← List.map_append]
      exact List.take_left' (by simp)
theorem wpl_appG (w : World) {ops : Array Oper} {rest : List Oper} {o : Oper} {a : Act} {Q : Exit → Act → World → Prop} (hgd : o.guard = none) (s x : Operand)
    (ho : o.op = .call { callee := .builtin .append, args := #[s, x], argTypes := #[22, 22] })
    (base B : Nat) (v u : Value) (l m : List UInt8) (hs : a.eval s = v) (hx : a.eval x = u) (hown : GB w base v l) (hr : BS w B u m) (hm : 0 < m.length) (hlen : l.length + m.length ≤ 1048576) (hbase : base ≤ w.heap.size)
    (h : ∀ v' w', OB w' base v' (l ++ m) → Below base w w' → (∀ b2 v2 l2, OI w b2 v2 l2 → OI w' b2 v2 l2) → wpList Try.prog ops Q rest (a.put o.dst v') w') :
    wpList Try.prog ops Q (o :: rest) a w := by
  refine wpList_plain hgd fun K hK => ?_
  obtain ⟨v', w', hrun, h2, h3, h4⟩ := run_appG w o.type hown hr hm hlen hbase
  unfold Oper.wp execOp
  simp only [ho, resolve, invoke, builtin, Sem.run_bind, Sem.run_pure, Result.andThen_ok, List.map_toArray, List.map_cons, List.map_nil, hs, hx, hrun]
  exact hK _ _ (h v' w' h2 h3 h4)
end Go.Proofs.Ytbimhhcmfhooaaa

namespace Go.Proofs.Ytbimhhcmfhooaaa
open Go.RowKit
set_option linter.unusedVariables false
set_option linter.unusedSimpArgs false

def modL (z : List Int) : List Nat := z.map fun n => (n % 200000).toNat
def headP (pr : Bool) : List UInt8 := if pr = true then [27, 91, 63] else [27, 91]
theorem modL_len (z : List Int) : (modL z).length = z.length := by simp [modL]
theorem modL_lt (z : List Int) : ∀ v ∈ modL z, v < 200000 := by
  intro v hv
  unfold modL at hv
  rw [List.mem_map] at hv
  obtain ⟨n, _, rfl⟩ := hv
  omega
theorem numsL_snoc (l : List Nat) (v : Nat) : numsL (l ++ [v]) = numsL l ++ (if l.length = 0 then [] else [59]) ++ dig6 v := by
  induction l with
  | nil => rfl
  | cons a l ih =>
    cases l with
    | nil => simp [numsL]
    | cons b r =>
      have e : numsL (a :: b :: r ++ [v]) = dig6 a ++ 59 :: numsL (b :: r ++ [v]) := by simp [numsL]
      have e2 : numsL (a :: b :: r) = dig6 a ++ 59 :: numsL (b :: r) := by simp [numsL]
      rw [e, ih, e2]
      simp
theorem numsL_len (l : List Nat) : (numsL l).length ≤ 7 * l.length := by
  induction l with
  | nil => simp [numsL]
  | cons a l ih =>
    cases l with
    | nil => simp [numsL, dig6]
    | cons b r =>
      have e2 : numsL (a :: b :: r) = dig6 a ++ 59 :: numsL (b :: r) := by simp [numsL]
      rw [e2]
      simp [dig6] at ih ⊢
      omega
theorem capL_snoc (l : List Nat) (v : Nat) : capL (l ++ [v]) = capL l ++ [min (v : Int) 65535] := by simp [capL]
/-- What the whole sequence comes to. -/
theorem par_all (pr : Bool) (l : List Nat) (hl : ∀ v ∈ l, v < 200000) (f : UInt8) (f0 : 64 ≤ f.toNat) (f1 : f.toNat ≤ 126) :
    vtAll (prM 0) (headP pr ++ numsL l ++ [f]) = (prM 0, if l.length ≤ 16 then [⟨3, 0, f.toNat, if pr = true then 63 else 0, capL l, []⟩] else []) := by
  have hh : vtAll (prM 0) (headP pr) = (prC (if pr = true then 63 else 0) [], []) := by
    cases pr
    · rfl
    · rfl
  rw [vtAll_snoc, vtAll_app, hh]
  simp only [List.nil_append]
  rw [vt_nums0 _ l hl]
  simp only
  by_cases h : l.length ≤ 16
  · rw [if_pos h, if_pos h, vt_fin _ _ f f0 f1]
    rfl
  · rw [if_neg h, if_neg h, vt_fin6 f f0 f1]
    rfl
theorem dig_cells {x : Int} {v : Nat} (hv : x % 200000 = (v : Int)) (h : v < 200000) : #[Value.int .u8 (48 + x % 200000 / 100000), .int .u8 (48 + x % 200000 / 10000 % 10), .int .u8 (48 + x % 200000 / 1000 % 10), .int .u8 (48 + x % 200000 / 100 % 10), .int .u8 (48 + x % 200000 / 10 % 10), .int .u8 (48 + x % 10)] = (vBs (dig6 v)).toArray := by
  rw [show x % 10 = (v : Int) % 10 by omega, hv]
  unfold dig6 vBs
  simp only [List.map_cons, List.map_nil]
  rw [vB_nat _ (by omega), vB_nat _ (by omega), vB_nat _ (by omega), vB_nat _ (by omega), vB_nat _ (by omega), vB_nat _ (by omega)]
  rfl
theorem SL.getc {w1 w' : World} {B : Nat} {ad : Addr} {n c k : Nat} {l : List Int} {x : Int} (h : US w1 B (.slice (some ad) n c) l) (hb : Below B w1 w') (hx : l[k]? = some x) : w'.cell? (ad.add k) = some (.int .u32 x) := by
  obtain ⟨ad2, hA, hc⟩ := SL.get (h.below hb) k x hx
  injection hA with hA
  subst hA
  exact hc
theorem ob_keepI {w w' : World} {b1 b2 : Nat} {v1 v2 : Value} {l1 : List UInt8} {l2 : List Int} (h1 : OB w b1 v1 l1) (h2 : OI w b2 v2 l2) (hg : w.grownBy w' v2.ownBlock) : OB w' b1 v1 l1 :=
  own_keep h1 (fun g e => hg.block g (World.ownsRow.lt h1 g e).2 (fun e2 => own_apart h1 h2 (by decide) g e e2.symm))
/-- At the loop's head: so many numbers. -/
def PaRel (l : List Nat) (pr : Bool) (w : World) (o ws i : Value) (wr : World) : Prop :=
  ∃ k : Nat, k ≤ l.length ∧ i = .int .i64 (k : Int) ∧ GB wr w.heap.size o (headP pr ++ numsL (l.take k)) ∧ OI wr w.heap.size ws (capL (l.take k)) ∧ Below w.heap.size w wr
theorem GB.form {w : World} {base : Nat} {v : Value} {l : List UInt8} (h : GB w base v l) : ∃ A c, v = .slice A l.length c ∧ l.length ≤ c ∧ c ≤ 9223372036854775807 := by
  obtain ⟨A, c, hv, h1, h2, -⟩ := h.bs.at_
  unfold maxLen at h2
  exact ⟨A, c, hv, h1, by omega⟩
set_option maxHeartbeats 4000000 in
set_option maxRecDepth 100000 in
theorem vtParams_walk (a0 : Option Addr) (len0 cap0 : Nat) (z0 : List Int) (a1 : Int) (a2 : Bool) (w : World) (w0 : US w w.heap.size (.slice a0 len0 cap0) z0) (f0 : ∀ n ∈ z0, (Lit.int .u32 n).wf = true) (w1 : (Lit.int .u8 a1).wf = true) :
    Calls Try.prog 6 #[.slice a0 len0 cap0, .int .u8 a1, .bool a2] w fun e w' => e = .returned (.bool true) ∧ Below w.heap.size w w' := by
  obtain ⟨_, _, hv0, -⟩ := SL.form w0
  simp only [Value.slice.injEq] at hv0
  obtain ⟨-, rfl, -⟩ := hv0
  have W0 := Lib.hid w0
  have F0 := Lib.hid f0
  obtain ⟨k0, k1⟩ := bounds_u8 w1
  clear w0 w1 f0
  have hk := knownV_any w
  by_cases t0 : 20 < (z0.length : Int)
  · go_enter Try.func6, Try.ntmps6
    go_wp2_with (go_at_call 8; refine hk.mono ?_; rintro e wk ⟨rfl, hbk⟩)
    go_ret
    exact ⟨rfl, hbk⟩
  have t0' : decide (20 < (z0.length : Int)) = false := by simp; omega
  go_enter Try.func6, Try.ntmps6
  go_wp2_with fail
  refine hk.mono ?_
  rintro e w1 ⟨rfl, hb1⟩
  have HB1 := Lib.hid hb1
  have hz1 := hb1.size
  clear hk hb1
  have hcv := Lib.run_convert_bytes_const (P := Try.prog) w1 22 5 #[.int .u8 27, .int .u8 91] 2 2 Try.underlying22 Try.underlying5
  have HG0 : Hid (GB (w1.alloc (.cells #[.int .u8 27, .int .u8 91] 5 (2, 3))) w1.heap.size (.slice (some ⟨w1.heap.size, 0, none⟩) 2 2) (headP false)) := .inr ⟨_, rfl, bsc_lit w1 [27, 91] 2 #[.int .u8 27, .int .u8 91] 5 rfl rfl (by decide) (2, 3)⟩
  have HBA : Hid (Below w1.heap.size w1 (w1.alloc (.cells #[.int .u8 27, .int .u8 91] 5 (2, 3)))) := (Below.refl _ _).alloc (Nat.le_refl _) _
  go_upto_region 6 with fail
  clear hcv
  generalize World.alloc w1 _ = W at HG0 HBA ⊢
  have hz2 := HBA.out.size
  cases a2
  · have HG3 := HG0
    have HB3 := HBA
    go_upto_region 8 with fail
    have hv3 : ∃ v, v = Value.slice (some ⟨w1.heap.size, 0, none⟩) 2 2 := ⟨_, rfl⟩
    clear hv3
    generalize hVV : Value.slice (some ⟨w1.heap.size, 0, none⟩) 2 2 = v3 at HG3 ⊢
    have w3 := W
    clear w3
    have hz3 := HB3.out.size
    have hml := modL_len z0
    have HML := Lib.hid hml
    clear hml
    go_wp2
    go_loopw [7, 8, 9] (fun o ws i wr => PaRel (modL z0) false w1 o ws i wr) (fun _ _ i _ => z0.length - (intOf i).toNat)
    case atStart => exact ⟨0, Nat.zero_le _, rfl, by simpa [numsL] using HG3.out, by simpa [capL] using OI.nil W w1.heap.size, HB3.out⟩
    case round =>
      obtain ⟨k, hk, rfl, hg, hws, hbel⟩ := hrel
      rw [HML.out] at hk
      have hle := hbel.size
      obtain ⟨Ab, cb, rfl, b1, b2⟩ := hg.form
      obtain ⟨Aw, cw, hvw, q1, q2⟩ : ∃ A c, u8 = .slice A (capL ((modL z0).take k)).length c ∧ (capL ((modL z0).take k)).length ≤ c ∧ c ≤ 9223372036854775807 := hws.sl.form
      subst hvw
      have hcl : (capL ((modL z0).take k)).length = k := by simp [capL, HML.out]; omega
      rw [hcl] at hws q1 ⊢
      have HGG := Lib.hid hg
      have HWS := Lib.hid hws
      have HBE := Lib.hid hbel
      have hnl := numsL_len ((modL z0).take k)
      rw [show ((modL z0).take k).length = k by rw [List.length_take, HML.out]; omega] at hnl
      have hhl : (headP false).length ≤ 3 := by simp [headP]
      obtain ⟨nb, hnb⟩ : ∃ nb, (headP false ++ numsL ((modL z0).take k)).length = nb := ⟨_, rfl⟩
      have hnb2 : nb ≤ 3 + 7 * k := by rw [← hnb, List.length_append]; omega
      rw [hnb] at HGG b1 ⊢
      have HNB := Lib.hid hnb
      clear hg hws hbel hcl hnl hhl hnb
      by_cases hlt : k < z0.length
      · obtain ⟨x, hx⟩ : ∃ x, z0[k]? = some x := ⟨_, List.getElem?_eq_getElem hlt⟩
        have hw0 : US wr w.heap.size (.slice a0 z0.length cap0) z0 := (W0.out.below HB1.out).below (HBE.out.mono hz1)
        obtain ⟨ad, hA, hc⟩ := SL.get hw0 k x hx
        subst hA
        unfold vU4 at hc
        have HX := Lib.hid hx
        obtain ⟨x0, x1⟩ := bounds_u32 (F0.out x (List.mem_of_getElem? hx))
        obtain ⟨v, hv⟩ : ∃ v : Nat, x % 200000 = (v : Int) := ⟨(x % 200000).toNat, by omega⟩
        have hmk : (modL z0)[k]? = some v := by
          unfold modL
          rw [List.getElem?_map, hx]
          simp [hv]
        have htk : (modL z0).take (k + 1) = (modL z0).take k ++ [v] := by rw [List.take_add_one, hmk]; rfl
        have hD : ∀ W : World, BS (W.alloc (.cells #[.int .u8 (48 + x % 200000 / 100000), .int .u8 (48 + x % 200000 / 10000 % 10), .int .u8 (48 + x % 200000 / 1000 % 10), .int .u8 (48 + x % 200000 / 100 % 10), .int .u8 (48 + x % 200000 / 10 % 10), .int .u8 (48 + x % 10)] 5)) (W.heap.size + 1) (.slice (some ⟨W.heap.size, 0, none⟩) 6 6) (dig6 v) := fun W => BS.lit W (dig6 v) 6 _ _ rfl (dig_cells hv (by omega)) (by simp [dig6])
        have HD := Lib.hid hD
        have HTK := Lib.hid htk
        obtain ⟨M, hM⟩ : ∃ M, (if 65535 < x % 200000 then 65535 else x % 200000) = M := ⟨_, rfl⟩
        have HMV : Hid (M = min (v : Int) 65535) := by
          rw [← hM, hv]
          show _ = _
          split <;> omega
        clear hx hw0 hv hmk hD htk
        have HI1 : Hid (∀ w5 : World, IS (w5.alloc (.cells #[.int .i64 M] 3)) (w5.heap.size + 1) (.slice (some ⟨w5.heap.size, 0, none⟩) 1 1) [M]) := fun w5 => IS.one w5 M _
        have HLC : Hid ((capL ((modL z0).take k)).length + [M].length ≤ 1099511627776) := by
          show _ ≤ _
          simp [capL]
          omega
        have HSZ : Hid (∀ w5 : World, w5.heap.size ≤ (w5.alloc (.cells #[.int .i64 M] 3)).heap.size) := fun w5 => by simp
        rcases Nat.eq_zero_or_pos k with hk0 | hk0
        · have hkd : decide (0 < k) = false := decide_eq_false (by omega)
          have HK0 := Lib.hid hk0
          clear hk0
          go_wp2_with (first
            | (at_builtin; refine wpl_appG _ rfl (.tmp 73) (.tmp 74) rfl w1.heap.size _ _ _ _ (dig6 v) rfl rfl (HGG.out.below ((Below.refl _ _).alloc (Nat.le_refl _) _)) (HD.out wr) (by simp [dig6]) (by rw [HNB.out]; simp [dig6]; omega) (by simp; omega) ?_; intro v5 w5 ho5 hb5 hk5; have HO5 := Lib.hid ho5; have HW5 := Lib.hid (hk5 _ _ _ (HWS.out.alloc _)); have HB5 := Lib.hid ((HBE.out.alloc hle _).trans hb5); have hz5 := HB5.out.size; clear ho5 hb5 hk5)
            | (at_builtin; refine wpl_appI _ rfl (.tmp 76) (.tmp 79) rfl w1.heap.size (w5.heap.size + 1) (.slice Aw k cw) (.slice (some ⟨w5.heap.size, 0, none⟩) 1 1) (capL ((modL z0).take k)) [M] rfl rfl (HW5.out.alloc _) (HI1.out w5) HLC.out (Nat.le_trans hz5 (HSZ.out w5)) ?_; intro v6 w6 ho6 hg6 hb6 _; have HO6 := Lib.hid ho6; have HB6 := Lib.hid ((HB5.out.alloc hz5 _).trans hb6); have HOB := Lib.hid (ob_keepI (HO5.out.alloc (.cells #[.int .i64 M] 3)) (HW5.out.alloc (.cells #[.int .i64 M] 3)) hg6); clear ho6 hg6 hb6))
          go_roundw
          case rel => exact ⟨k + 1, by rw [HML.out]; omega, by go_num, .inl (by rw [HTK.out, numsL_snoc, if_pos (by rw [HK0.out]; rfl), List.append_nil, ← List.append_assoc]; exact HOB.out), by rw [HTK.out, capL_snoc, ← HMV.out]; exact HO6.out, HB6.out⟩
          case measure => simp [intOf]; omega
        · have HK0 := Lib.hid hk0
          go_wp2_with (first
            | (at_builtin; refine wpl_appG _ rfl (.tmp 35) (.tmp 36) rfl w1.heap.size _ _ _ _ [59] rfl rfl (HGG.out.below ((Below.refl _ _).alloc (Nat.le_refl _) _)) (BS.one wr 59 _) (by simp) (by rw [HNB.out]; simp; omega) (by simp; omega) ?_; intro v4 w4 ho4 hb4 hk4; have HO4 := Lib.hid ho4; have HW4 := Lib.hid (hk4 _ _ _ (HWS.out.alloc _)); have HB4 := Lib.hid ((HBE.out.alloc hle _).trans hb4); have hz4 := HB4.out.size; obtain ⟨hc4, hf4⟩ : w4.cell? (ad.add k) = some (.int .u32 x) ∧ True := ⟨(SL.getc (W0.out.below HB1.out) (HB4.out.mono hz1) HX.out), trivial⟩; clear ho4 hb4 hk4)
            | (at_builtin; refine wpl_appG _ rfl (.tmp 73) (.tmp 74) rfl w1.heap.size _ _ _ _ (dig6 v) rfl rfl (.inl (HO4.out.alloc _)) (HD.out w4) (by simp [dig6]) (by rw [List.length_append, HNB.out]; simp [dig6]; omega) (by simp; omega) ?_; intro v5 w5 ho5 hb5 hk5; have HO5 := Lib.hid ho5; have HW5 := Lib.hid (hk5 _ _ _ (HW4.out.alloc _)); have HB5 := Lib.hid ((HB4.out.alloc hz4 _).trans hb5); have hz5 := HB5.out.size; clear ho5 hb5 hk5)
            | (at_builtin; refine wpl_appI _ rfl (.tmp 76) (.tmp 79) rfl w1.heap.size (w5.heap.size + 1) (.slice Aw k cw) (.slice (some ⟨w5.heap.size, 0, none⟩) 1 1) (capL ((modL z0).take k)) [M] rfl rfl (HW5.out.alloc _) (HI1.out w5) HLC.out (Nat.le_trans hz5 (HSZ.out w5)) ?_; intro v6 w6 ho6 hg6 hb6 _; have HO6 := Lib.hid ho6; have HB6 := Lib.hid ((HB5.out.alloc hz5 _).trans hb6); have HOB := Lib.hid (ob_keepI (HO5.out.alloc (.cells #[.int .i64 M] 3)) (HW5.out.alloc (.cells #[.int .i64 M] 3)) hg6); clear ho6 hg6 hb6))
          go_roundw
          case rel => exact ⟨k + 1, by rw [HML.out]; omega, by go_num, .inl (by rw [HTK.out, numsL_snoc, if_neg (by rw [List.length_take, HML.out]; omega), ← List.append_assoc, ← List.append_assoc]; exact HOB.out), by rw [HTK.out, capL_snoc, ← HMV.out]; exact HO6.out, HB6.out⟩
          case measure => simp [intOf]; omega
      · obtain rfl : k = z0.length := by omega
        have htk : (modL z0).take z0.length = modL z0 := by rw [← HML.out, List.take_length]
        rw [htk] at HGG HWS HNB
        obtain ⟨fn, hfn⟩ : ∃ fn : Nat, 64 + a1 % 63 = (fn : Int) := ⟨(64 + a1 % 63).toNat, by omega⟩
        have hf64 : 64 ≤ fn := by omega
        have hf126 : fn ≤ 126 := by omega
        have hfb : (UInt8.ofNat fn).toNat = fn := by simp; omega
        have HFB : Hid (∀ W : World, BS (W.alloc (.cells #[.int .u8 (64 + a1 % 63)] 5)) (W.heap.size + 1) (.slice (some ⟨W.heap.size, 0, none⟩) 1 1) [UInt8.ofNat fn]) := fun W => by rw [hfn]; exact BS.lit W [UInt8.ofNat fn] 1 _ _ rfl (by rw [show vBs [UInt8.ofNat fn] = [vB (UInt8.ofNat fn)] from rfl, vB_nat fn (by omega)]) (by simp)
        have hpa := par_all false (modL z0) (modL_lt z0) (UInt8.ofNat fn) (by omega) (by omega)
        rw [hfb] at hpa
        have HPA := Lib.hid hpa
        have HFN := Lib.hid hfn
        clear hfb hpa htk hfn
        go_wp2_with (first
          | (at_builtin; refine wpl_appG _ rfl (.tmp 86) (.tmp 88) rfl w1.heap.size _ _ _ _ [UInt8.ofNat fn] rfl rfl (HGG.out.below ((Below.refl _ _).alloc (Nat.le_refl _) _)) (HFB.out wr) (by simp) (by rw [HNB.out]; simp; omega) (by simp; omega) ?_; intro vb5 w5 ho5 hb5 hk5; have HO5 := Lib.hid ho5; have HW5 := Lib.hid (hk5 _ _ _ (HWS.out.alloc _)); have HB5 := Lib.hid ((HBE.out.alloc hle _).trans hb5); clear ho5 hb5 hk5)
          | (go_at_call 17; fail))
        have hz5 := HB5.out.size
        have hal := allw_any (PW.zero w5) (prM_ok 0 (by omega) (by omega) (by omega)) HO5.out.bs (by rw [List.length_append, HNB.out]; simp; omega)
        rw [HPA.out] at hal
        have HWANT := HW5
        have hlen0 : (modL z0).length = z0.length := HML.out
        by_cases h16 : z0.length ≤ 16
        · rw [if_pos (by omega)] at hal
          refine hal.mono ?_
          rintro e w6 ⟨m, pv, Ap, np, cp, Ai, ni, ci, Au, nu, cu, Aa, na, ca, rfl, ⟨hm, hpv, hnp, hni, hnu, hna, x1, x2⟩, hpw, haw, hb6⟩
          obtain rfl : m = 0 := hm
          obtain rfl : pv = 0 := hpv
          obtain rfl : np = 0 := hnp
          obtain rfl : ni = 0 := hni
          obtain rfl : nu = 0 := hnu
          obtain rfl : na = 1 := hna
          have HB6 := Lib.hid ((HB1.out.trans (HB5.out.mono hz1)).trans (hb6.mono (Nat.le_trans hz1 hz5)))
          have HWS6 := Lib.hid (HWANT.out.below hb6)
          have HPB := Lib.hid (PB.laid hpw)
          have HAW := Lib.hid (haw.below ((Below.refl _ _).alloc (Nat.le_refl _) (.cells (v5 0 0 Ap 0 cp Ai 0 ci Au 0 cu) 25)))
          have HBW := Lib.hid (HB6.out.alloc HB6.out.size (.cells (v5 0 0 Ap 0 cp Ai 0 ci Au 0 cu) 25))
          have HW := Lib.hid (HWS6.out.alloc (.cells (v5 0 0 Ap 0 cp Ai 0 ci Au 0 cu) 25))
          clear hal hpw haw hb6
          go_upto_region 20 with fail
          generalize World.alloc w6 _ = W3 at HPB HAW HBW HW ⊢
          generalize w6.heap.size = g3 at *
          obtain ⟨c0, c1, c2, c3, c4⟩ := HPB.out.cells
          obtain ⟨ad, cc, vps, hAd, y1, y2, hps, s0, s1, s2, s3, s4⟩ := HAW.out.at0
          simp only [Value.slice.injEq] at hAd
          obtain ⟨rfl, -, rfl⟩ := hAd
          replace s0 : W3.cell? ad = some (.int .i64 3) := s0
          replace s2 : W3.cell? ⟨ad.block, ad.off + 2, none⟩ = some (.int .u8 (64 + a1 % 63)) := by rw [HFN.out]; exact s2
          replace s3 : W3.cell? ⟨ad.block, ad.off + 3, none⟩ = some (.int .u8 0) := s3
          obtain ⟨Aq, cq, rfl, p1, p2⟩ := hps.form
          have hql : (capL (modL z0)).length = z0.length := by simp [capL, hlen0]
          replace hps : SL vI W3 (Old W3) (.slice Aq (capL (modL z0)).length cq) (capL (modL z0)) := hps
          replace s4 : W3.cell? ⟨ad.block, ad.off + 4, none⟩ = some (.slice Aq (capL (modL z0)).length cq) := s4
          rw [hql] at hps s4
          have HPS := Lib.hid hps
          have HQL := Lib.hid hql
          have hneb : ((z0.length : Int) != (z0.length : Int)) = false := by simp
          have hneb2 : (64 + a1 % 63 != 64 + a1 % 63) = false := by simp
          have d16 : decide ((16 : Int) < (z0.length : Int)) = false := by simp; omega
          clear s1 hps hql p1 p2
          go_wp2
          go_loopw [15] (fun i wr => ∃ j : Nat, j ≤ z0.length ∧ i = .int .i64 (j : Int) ∧ Below W3.heap.size W3 wr) (fun i _ => z0.length - (intOf i).toNat)
          case atStart => exact ⟨0, Nat.zero_le _, rfl, Below.refl _ _⟩
          case round =>
            obtain ⟨j, hj, rfl, hbl⟩ := hrel
            have HBL := Lib.hid hbl
            by_cases hjl : j < z0.length
            · obtain ⟨y, hy⟩ : ∃ y, (capL (modL z0))[j]? = some y := ⟨_, List.getElem?_eq_getElem (by rw [HQL.out]; exact hjl)⟩
              obtain ⟨aq, hAq, e1⟩ := SL.get (HPS.out.keep (fun q hq => hbl.cell hq)) j y hy
              obtain ⟨aw, hAw, e2⟩ := SL.get ((HW.out.below hbl).sl) j y hy
              have e0 : wr.cell? ⟨ad.block, ad.off + 4, none⟩ = some (.slice Aq z0.length cq) := (hbl.cell (p := ⟨ad.block, ad.off + 4, none⟩) (World.block_lt_of_cell? W3 _ s4)).trans s4
              subst hAq
              subst hAw
              unfold vI at e1 e2
              have hyb : ((y : Int) != y) = false := by simp
              have hji : (j : Int) < (z0.length : Int) := by omega
              clear hbl hy c0 c1 c2 c3 c4 s0 s2 s3 s4
              go_wp2
              go_region
              go_wp2
              go_roundw
              case rel => exact ⟨j + 1, hjl, by go_num, HBL.out.drew⟩
              case measure => simp [intOf]; omega
            · obtain rfl : j = z0.length := by omega
              clear hbl c0 c1 c2 c3 c4 s0 s2 s3 s4
              go_wp2
              go_ret
              exact ⟨rfl, HBW.out.trans (HBL.out.mono HBW.out.size)⟩
        · rw [if_neg (by omega)] at hal
          refine hal.mono ?_
          rintro e w6 ⟨m, pv, Ap, np, cp, Ai, ni, ci, Au, nu, cu, Aa, na, ca, rfl, ⟨hm, hpv, hnp, hni, hnu, hna, x1, x2⟩, hpw, haw, hb6⟩
          obtain rfl : m = 0 := hm
          obtain rfl : pv = 0 := hpv
          obtain rfl : np = 0 := hnp
          obtain rfl : ni = 0 := hni
          obtain rfl : nu = 0 := hnu
          obtain rfl : na = 0 := hna
          have HB6 := Lib.hid ((HB1.out.trans (HB5.out.mono hz1)).trans (hb6.mono (Nat.le_trans hz1 hz5)))
          have HPB := Lib.hid (PB.laid hpw)
          have HBW := Lib.hid (HB6.out.alloc HB6.out.size (.cells (v5 0 0 Ap 0 cp Ai 0 ci Au 0 cu) 25))
          clear hal hpw haw hb6
          go_upto_region 20 with fail
          generalize World.alloc w6 _ = W3 at HPB HBW ⊢
          generalize w6.heap.size = g3 at *
          obtain ⟨c0, c1, c2, c3, c4⟩ := HPB.out.cells
          have d16 : (16 : Int) < (z0.length : Int) := by omega
          go_wp2
          go_ret
          exact ⟨rfl, HBW.out⟩
  · go_upto_region 8 with (at_builtin; refine wpl_appG _ rfl (.tmp 24) (.tmp 25) rfl w1.heap.size _ _ _ (headP false) [63] rfl rfl (HG0.out.below ((Below.refl _ _).alloc (Nat.le_refl _) _)) (BS.one _ 63 _) (by simp) (by simp [headP]) (by simp; omega) ?_; intro v3 w3 ho3 hb3 hk3; have HG3 : Hid (GB w3 w1.heap.size v3 (headP true)) := (.inl ho3); have HB3 := Lib.hid ((HBA.out.alloc hz2 _).trans hb3); clear ho3 hb3 hk3)
    have hz3 := HB3.out.size
    have hml := modL_len z0
    have HML := Lib.hid hml
    clear hml
    go_wp2
    go_loopw [7, 8, 9] (fun o ws i wr => PaRel (modL z0) true w1 o ws i wr) (fun _ _ i _ => z0.length - (intOf i).toNat)
    case atStart => exact ⟨0, Nat.zero_le _, rfl, by simpa [numsL] using HG3.out, by simpa [capL] using OI.nil w3 w1.heap.size, HB3.out⟩
    case round =>
      obtain ⟨k, hk, rfl, hg, hws, hbel⟩ := hrel
      rw [HML.out] at hk
      have hle := hbel.size
      obtain ⟨Ab, cb, rfl, b1, b2⟩ := hg.form
      obtain ⟨Aw, cw, hvw, q1, q2⟩ : ∃ A c, u8 = .slice A (capL ((modL z0).take k)).length c ∧ (capL ((modL z0).take k)).length ≤ c ∧ c ≤ 9223372036854775807 := hws.sl.form
      subst hvw
      have hcl : (capL ((modL z0).take k)).length = k := by simp [capL, HML.out]; omega
      rw [hcl] at hws q1 ⊢
      have HGG := Lib.hid hg
      have HWS := Lib.hid hws
      have HBE := Lib.hid hbel
      have hnl := numsL_len ((modL z0).take k)
      rw [show ((modL z0).take k).length = k by rw [List.length_take, HML.out]; omega] at hnl
      have hhl : (headP true).length ≤ 3 := by simp [headP]
      obtain ⟨nb, hnb⟩ : ∃ nb, (headP true ++ numsL ((modL z0).take k)).length = nb := ⟨_, rfl⟩
      have hnb2 : nb ≤ 3 + 7 * k := by rw [← hnb, List.length_append]; omega
      rw [hnb] at HGG b1 ⊢
      have HNB := Lib.hid hnb
      clear hg hws hbel hcl hnl hhl hnb
      by_cases hlt : k < z0.length
      · obtain ⟨x, hx⟩ : ∃ x, z0[k]? = some x := ⟨_, List.getElem?_eq_getElem hlt⟩
        have hw0 : US wr w.heap.size (.slice a0 z0.length cap0) z0 := (W0.out.below HB1.out).below (HBE.out.mono hz1)
        obtain ⟨ad, hA, hc⟩ := SL.get hw0 k x hx
        subst hA
        unfold vU4 at hc
        have HX := Lib.hid hx
        obtain ⟨x0, x1⟩ := bounds_u32 (F0.out x (List.mem_of_getElem? hx))
        obtain ⟨v, hv⟩ : ∃ v : Nat, x % 200000 = (v : Int) := ⟨(x % 200000).toNat, by omega⟩
        have hmk : (modL z0)[k]? = some v := by
          unfold modL
          rw [List.getElem?_map, hx]
          simp [hv]
        have htk : (modL z0).take (k + 1) = (modL z0).take k ++ [v] := by rw [List.take_add_one, hmk]; rfl
        have hD : ∀ W : World, BS (W.alloc (.cells #[.int .u8 (48 + x % 200000 / 100000), .int .u8 (48 + x % 200000 / 10000 % 10), .int .u8 (48 + x % 200000 / 1000 % 10), .int .u8 (48 + x % 200000 / 100 % 10), .int .u8 (48 + x % 200000 / 10 % 10), .int .u8 (48 + x % 10)] 5)) (W.heap.size + 1) (.slice (some ⟨W.heap.size, 0, none⟩) 6 6) (dig6 v) := fun W => BS.lit W (dig6 v) 6 _ _ rfl (dig_cells hv (by omega)) (by simp [dig6])
        have HD := Lib.hid hD
        have HTK := Lib.hid htk
        obtain ⟨M, hM⟩ : ∃ M, (if 65535 < x % 200000 then 65535 else x % 200000) = M := ⟨_, rfl⟩
        have HMV : Hid (M = min (v : Int) 65535) := by
          rw [← hM, hv]
          show _ = _
          split <;> omega
        clear hx hw0 hv hmk hD htk
        have HI1 : Hid (∀ w5 : World, IS (w5.alloc (.cells #[.int .i64 M] 3)) (w5.heap.size + 1) (.slice (some ⟨w5.heap.size, 0, none⟩) 1 1) [M]) := fun w5 => IS.one w5 M _
        have HLC : Hid ((capL ((modL z0).take k)).length + [M].length ≤ 1099511627776) := by
          show _ ≤ _
          simp [capL]
          omega
        have HSZ : Hid (∀ w5 : World, w5.heap.size ≤ (w5.alloc (.cells #[.int .i64 M] 3)).heap.size) := fun w5 => by simp
        rcases Nat.eq_zero_or_pos k with hk0 | hk0
        · have hkd : decide (0 < k) = false := decide_eq_false (by omega)
          have HK0 := Lib.hid hk0
          clear hk0
          go_wp2_with (first
            | (at_builtin; refine wpl_appG _ rfl (.tmp 73) (.tmp 74) rfl w1.heap.size _ _ _ _ (dig6 v) rfl rfl (HGG.out.below ((Below.refl _ _).alloc (Nat.le_refl _) _)) (HD.out wr) (by simp [dig6]) (by rw [HNB.out]; simp [dig6]; omega) (by simp; omega) ?_; intro v5 w5 ho5 hb5 hk5; have HO5 := Lib.hid ho5; have HW5 := Lib.hid (hk5 _ _ _ (HWS.out.alloc _)); have HB5 := Lib.hid ((HBE.out.alloc hle _).trans hb5); have hz5 := HB5.out.size; clear ho5 hb5 hk5)
            | (at_builtin; refine wpl_appI _ rfl (.tmp 76) (.tmp 79) rfl w1.heap.size (w5.heap.size + 1) (.slice Aw k cw) (.slice (some ⟨w5.heap.size, 0, none⟩) 1 1) (capL ((modL z0).take k)) [M] rfl rfl (HW5.out.alloc _) (HI1.out w5) HLC.out (Nat.le_trans hz5 (HSZ.out w5)) ?_; intro v6 w6 ho6 hg6 hb6 _; have HO6 := Lib.hid ho6; have HB6 := Lib.hid ((HB5.out.alloc hz5 _).trans hb6); have HOB := Lib.hid (ob_keepI (HO5.out.alloc (.cells #[.int .i64 M] 3)) (HW5.out.alloc (.cells #[.int .i64 M] 3)) hg6); clear ho6 hg6 hb6))
          go_roundw
          case rel => exact ⟨k + 1, by rw [HML.out]; omega, by go_num, .inl (by rw [HTK.out, numsL_snoc, if_pos (by rw [HK0.out]; rfl), List.append_nil, ← List.append_assoc]; exact HOB.out), by rw [HTK.out, capL_snoc, ← HMV.out]; exact HO6.out, HB6.out⟩
          case measure => simp [intOf]; omega
        · have HK0 := Lib.hid hk0
          go_wp2_with (first
            | (at_builtin; refine wpl_appG _ rfl (.tmp 35) (.tmp 36) rfl w1.heap.size _ _ _ _ [59] rfl rfl (HGG.out.below ((Below.refl _ _).alloc (Nat.le_refl _) _)) (BS.one wr 59 _) (by simp) (by rw [HNB.out]; simp; omega) (by simp; omega) ?_; intro v4 w4 ho4 hb4 hk4; have HO4 := Lib.hid ho4; have HW4 := Lib.hid (hk4 _ _ _ (HWS.out.alloc _)); have HB4 := Lib.hid ((HBE.out.alloc hle _).trans hb4); have hz4 := HB4.out.size; obtain ⟨hc4, hf4⟩ : w4.cell? (ad.add k) = some (.int .u32 x) ∧ True := ⟨(SL.getc (W0.out.below HB1.out) (HB4.out.mono hz1) HX.out), trivial⟩; clear ho4 hb4 hk4)
            | (at_builtin; refine wpl_appG _ rfl (.tmp 73) (.tmp 74) rfl w1.heap.size _ _ _ _ (dig6 v) rfl rfl (.inl (HO4.out.alloc _)) (HD.out w4) (by simp [dig6]) (by rw [List.length_append, HNB.out]; simp [dig6]; omega) (by simp; omega) ?_; intro v5 w5 ho5 hb5 hk5; have HO5 := Lib.hid ho5; have HW5 := Lib.hid (hk5 _ _ _ (HW4.out.alloc _)); have HB5 := Lib.hid ((HB4.out.alloc hz4 _).trans hb5); have hz5 := HB5.out.size; clear ho5 hb5 hk5)
            | (at_builtin; refine wpl_appI _ rfl (.tmp 76) (.tmp 79) rfl w1.heap.size (w5.heap.size + 1) (.slice Aw k cw) (.slice (some ⟨w5.heap.size, 0, none⟩) 1 1) (capL ((modL z0).take k)) [M] rfl rfl (HW5.out.alloc _) (HI1.out w5) HLC.out (Nat.le_trans hz5 (HSZ.out w5)) ?_; intro v6 w6 ho6 hg6 hb6 _; have HO6 := Lib.hid ho6; have HB6 := Lib.hid ((HB5.out.alloc hz5 _).trans hb6); have HOB := Lib.hid (ob_keepI (HO5.out.alloc (.cells #[.int .i64 M] 3)) (HW5.out.alloc (.cells #[.int .i64 M] 3)) hg6); clear ho6 hg6 hb6))
          go_roundw
          case rel => exact ⟨k + 1, by rw [HML.out]; omega, by go_num, .inl (by rw [HTK.out, numsL_snoc, if_neg (by rw [List.length_take, HML.out]; omega), ← List.append_assoc, ← List.append_assoc]; exact HOB.out), by rw [HTK.out, capL_snoc, ← HMV.out]; exact HO6.out, HB6.out⟩
          case measure => simp [intOf]; omega
      · obtain rfl : k = z0.length := by omega
        have htk : (modL z0).take z0.length = modL z0 := by rw [← HML.out, List.take_length]
        rw [htk] at HGG HWS HNB
        obtain ⟨fn, hfn⟩ : ∃ fn : Nat, 64 + a1 % 63 = (fn : Int) := ⟨(64 + a1 % 63).toNat, by omega⟩
        have hf64 : 64 ≤ fn := by omega
        have hf126 : fn ≤ 126 := by omega
        have hfb : (UInt8.ofNat fn).toNat = fn := by simp; omega
        have HFB : Hid (∀ W : World, BS (W.alloc (.cells #[.int .u8 (64 + a1 % 63)] 5)) (W.heap.size + 1) (.slice (some ⟨W.heap.size, 0, none⟩) 1 1) [UInt8.ofNat fn]) := fun W => by rw [hfn]; exact BS.lit W [UInt8.ofNat fn] 1 _ _ rfl (by rw [show vBs [UInt8.ofNat fn] = [vB (UInt8.ofNat fn)] from rfl, vB_nat fn (by omega)]) (by simp)
        have hpa := par_all true (modL z0) (modL_lt z0) (UInt8.ofNat fn) (by omega) (by omega)
        rw [hfb] at hpa
        have HPA := Lib.hid hpa
        have HFN := Lib.hid hfn
        clear hfb hpa htk hfn
        go_wp2_with (first
          | (at_builtin; refine wpl_appG _ rfl (.tmp 86) (.tmp 88) rfl w1.heap.size _ _ _ _ [UInt8.ofNat fn] rfl rfl (HGG.out.below ((Below.refl _ _).alloc (Nat.le_refl _) _)) (HFB.out wr) (by simp) (by rw [HNB.out]; simp; omega) (by simp; omega) ?_; intro vb5 w5 ho5 hb5 hk5; have HO5 := Lib.hid ho5; have HW5 := Lib.hid (hk5 _ _ _ (HWS.out.alloc _)); have HB5 := Lib.hid ((HBE.out.alloc hle _).trans hb5); clear ho5 hb5 hk5)
          | (go_at_call 17; fail))
        have hz5 := HB5.out.size
        have hal := allw_any (PW.zero w5) (prM_ok 0 (by omega) (by omega) (by omega)) HO5.out.bs (by rw [List.length_append, HNB.out]; simp; omega)
        rw [HPA.out] at hal
        have HWANT := HW5
        have hlen0 : (modL z0).length = z0.length := HML.out
        by_cases h16 : z0.length ≤ 16
        · rw [if_pos (by omega)] at hal
          refine hal.mono ?_
          rintro e w6 ⟨m, pv, Ap, np, cp, Ai, ni, ci, Au, nu, cu, Aa, na, ca, rfl, ⟨hm, hpv, hnp, hni, hnu, hna, x1, x2⟩, hpw, haw, hb6⟩
          obtain rfl : m = 0 := hm
          obtain rfl : pv = 0 := hpv
          obtain rfl : np = 0 := hnp
          obtain rfl : ni = 0 := hni
          obtain rfl : nu = 0 := hnu
          obtain rfl : na = 1 := hna
          have HB6 := Lib.hid ((HB1.out.trans (HB5.out.mono hz1)).trans (hb6.mono (Nat.le_trans hz1 hz5)))
          have HWS6 := Lib.hid (HWANT.out.below hb6)
          have HPB := Lib.hid (PB.laid hpw)
          have HAW := Lib.hid (haw.below ((Below.refl _ _).alloc (Nat.le_refl _) (.cells (v5 0 0 Ap 0 cp Ai 0 ci Au 0 cu) 25)))
          have HBW := Lib.hid (HB6.out.alloc HB6.out.size (.cells (v5 0 0 Ap 0 cp Ai 0 ci Au 0 cu) 25))
          have Hw3 := Lib.hid (HWS6.out.alloc (.cells (v5 0 0 Ap 0 cp Ai 0 ci Au 0 cu) 25))
          clear hal hpw haw hb6
          go_upto_region 20 with fail
          generalize World.alloc w6 _ = W3 at HPB HAW HBW Hw3 ⊢
          generalize w6.heap.size = g3 at *
          obtain ⟨c0, c1, c2, c3, c4⟩ := HPB.out.cells
          obtain ⟨ad, cc, vps, hAd, y1, y2, hps, s0, s1, s2, s3, s4⟩ := HAW.out.at0
          simp only [Value.slice.injEq] at hAd
          obtain ⟨rfl, -, rfl⟩ := hAd
          replace s0 : W3.cell? ad = some (.int .i64 3) := s0
          replace s2 : W3.cell? ⟨ad.block, ad.off + 2, none⟩ = some (.int .u8 (64 + a1 % 63)) := by rw [HFN.out]; exact s2
          replace s3 : W3.cell? ⟨ad.block, ad.off + 3, none⟩ = some (.int .u8 63) := s3
          obtain ⟨Aq, cq, rfl, p1, p2⟩ := hps.form
          have hql : (capL (modL z0)).length = z0.length := by simp [capL, hlen0]
          replace hps : SL vI W3 (Old W3) (.slice Aq (capL (modL z0)).length cq) (capL (modL z0)) := hps
          replace s4 : W3.cell? ⟨ad.block, ad.off + 4, none⟩ = some (.slice Aq (capL (modL z0)).length cq) := s4
          rw [hql] at hps s4
          have HPS := Lib.hid hps
          have HQL := Lib.hid hql
          have hneb : ((z0.length : Int) != (z0.length : Int)) = false := by simp
          have hneb2 : (64 + a1 % 63 != 64 + a1 % 63) = false := by simp
          have d16 : decide ((16 : Int) < (z0.length : Int)) = false := by simp; omega
          clear s1 hps hql p1 p2
          go_wp2
          go_loopw [15] (fun i wr => ∃ j : Nat, j ≤ z0.length ∧ i = .int .i64 (j : Int) ∧ Below W3.heap.size W3 wr) (fun i _ => z0.length - (intOf i).toNat)
          case atStart => exact ⟨0, Nat.zero_le _, rfl, Below.refl _ _⟩
          case round =>
            obtain ⟨j, hj, rfl, hbl⟩ := hrel
            have HBL := Lib.hid hbl
            by_cases hjl : j < z0.length
            · obtain ⟨y, hy⟩ : ∃ y, (capL (modL z0))[j]? = some y := ⟨_, List.getElem?_eq_getElem (by rw [HQL.out]; exact hjl)⟩
              obtain ⟨aq, hAq, e1⟩ := SL.get (HPS.out.keep (fun q hq => hbl.cell hq)) j y hy
              obtain ⟨aw, hAw, e2⟩ := SL.get ((Hw3.out.below hbl).sl) j y hy
              have e0 : wr.cell? ⟨ad.block, ad.off + 4, none⟩ = some (.slice Aq z0.length cq) := (hbl.cell (p := ⟨ad.block, ad.off + 4, none⟩) (World.block_lt_of_cell? W3 _ s4)).trans s4
              subst hAq
              subst hAw
              unfold vI at e1 e2
              have hyb : ((y : Int) != y) = false := by simp
              have hji : (j : Int) < (z0.length : Int) := by omega
              clear hbl hy c0 c1 c2 c3 c4 s0 s2 s3 s4
              go_wp2
              go_region
              go_wp2
              go_roundw
              case rel => exact ⟨j + 1, hjl, by go_num, HBL.out.drew⟩
              case measure => simp [intOf]; omega
            · obtain rfl : j = z0.length := by omega
              clear hbl c0 c1 c2 c3 c4 s0 s2 s3 s4
              go_wp2
              go_ret
              exact ⟨rfl, HBW.out.trans (HBL.out.mono HBW.out.size)⟩
        · rw [if_neg (by omega)] at hal
          refine hal.mono ?_
          rintro e w6 ⟨m, pv, Ap, np, cp, Ai, ni, ci, Au, nu, cu, Aa, na, ca, rfl, ⟨hm, hpv, hnp, hni, hnu, hna, x1, x2⟩, hpw, haw, hb6⟩
          obtain rfl : m = 0 := hm
          obtain rfl : pv = 0 := hpv
          obtain rfl : np = 0 := hnp
          obtain rfl : ni = 0 := hni
          obtain rfl : nu = 0 := hnu
          obtain rfl : na = 0 := hna
          have HB6 := Lib.hid ((HB1.out.trans (HB5.out.mono hz1)).trans (hb6.mono (Nat.le_trans hz1 hz5)))
          have HPB := Lib.hid (PB.laid hpw)
          have HBW := Lib.hid (HB6.out.alloc HB6.out.size (.cells (v5 0 0 Ap 0 cp Ai 0 ci Au 0 cu) 25))
          clear hal hpw haw hb6
          go_upto_region 20 with fail
          generalize World.alloc w6 _ = W3 at HPB HBW ⊢
          generalize w6.heap.size = g3 at *
          obtain ⟨c0, c1, c2, c3, c4⟩ := HPB.out.cells
          have d16 : (16 : Int) < (z0.length : Int) := by omega
          go_wp2
          go_ret
          exact ⟨rfl, HBW.out⟩
end Go.Proofs.Ytbimhhcmfhooaaa

namespace Go.Proofs.Ytbimhhcmfhooaaa
open Go.ChangeShapes Go.WideShapes Go.ChangeAt Go.RowKit
open Go.ChangeMaps (open_string shut_string)
set_option linter.unusedVariables false

theorem vtParams_own : ownKnob Try.prog.godebug = none := by kernel_rfl
theorem vtParams_laidOut : laidOutB Try.prog = true := by kernel_rfl

set_option maxRecDepth 100000 in
theorem vtParams_lifted (os : Os) (started : os.Started) (H : Type) (enc : TypeId × Value → H) :
    ReturnsInHanded {} Try.checked os 6 .any (Rows.vtParamsSpec.pre6 enc Try.prog Try.f6 Rows.vtParamsRow.domain false) (Rows.vtParamsSpec.post enc Try.prog Try.f6 false true false false) := by
  refine returnsInHanded_of_change (C := Try.checked) vtParams_own started (by kernel_rfl) Try.func6
    (ChangeSpec.witness6 (enc := enc) (C := Try.checked) false ⟨#[], #[.slice none 0 0, .int .u8 0, .bool false], []⟩ 8 (by kernel_rfl) (by kernel_rfl) (by kernel_rfl) (by kernel_rfl)) ?_
  intro W base args ds gs before hval0 hW hcnd _
  have hval : ∀ (j : Nat) t v, Try.f6.params[j]? = some t → args[j]? = some v → Value.okWide Try.prog W .any base t v := hval0
  have hW' := hW
  obtain ⟨p, q, hA0, hV, rfl, hfz, hnd⟩ := hW
  have hA : DataW.TrodAll enc Try.prog W 0 (fun _ => true) true Try.f6.params.toList args.toList ds p := hA0
  rw [Try.params6] at hA hval
  obtain ⟨v0, vs0, d0, ds0, p0, q0, hargs, rfl, rfl, h0, r0⟩ := trodAll_cons hA
  obtain ⟨v1, vs1, d1, ds1, p1, q1, rfl, rfl, rfl, h1, r1⟩ := trodAll_cons r0
  obtain ⟨v2, vs2, d2, ds2, p2, q2, rfl, rfl, rfl, h2, r2⟩ := trodAll_cons r1
  obtain ⟨rfl, rfl, rfl⟩ := trodAll_nil r2
  obtain rfl : args = #[v0, v1, v2] := by cases args; simp_all
  obtain ⟨rfl, rfl⟩ := trodVars_none hV
  obtain ⟨a0, len0, cap0, rfl⟩ := okWide_slice Try.underlying44 (hval 0 44 v0 rfl rfl)
  have k0 := h0
  have lt0 : ∀ x ∈ p0, x.block < W.heap.size := by obtain ⟨m, hm⟩ := k0; exact DataW.trod_lt m _ _ _ hm
  obtain ⟨z0, w0, f0⟩ : ∃ l, US W W.heap.size (.slice a0 len0 cap0) l ∧ ∀ n ∈ l, (Lit.int .u32 n).wf = true := by
    obtain ⟨fuel, hf⟩ := h0
    rcases open_ints Try.underlying44 Try.underlying45 (by kernel_rfl) hf with ⟨hcs, _⟩ | ⟨x, l, c, zs, hcs, _, hl, hm, hz, _, hcell, hwz⟩
    · simp [Value.cells] at hcs
      obtain ⟨rfl, rfl, rfl⟩ := hcs
      exact ⟨[], US.nil _ _, by simp⟩
    · simp [Value.cells] at hcs
      obtain ⟨rfl, rfl, rfl⟩ := hcs
      exact us_row hl hm (by simpa using hz) hcell hwz
  obtain ⟨a1, rfl, rfl, rfl, w1⟩ := open_int Try.underlying5 (hval 1 5 v1 rfl rfl) h1
  obtain ⟨a2, rfl, rfl, rfl⟩ := open_bool Try.underlying4 (hval 2 4 v2 rfl rfl) h2
  clear hA0 hval0
  refine (vtParams_walk a0 len0 cap0 z0 a1 a2 W w0 f0 w1).mono fun e W' ⟨he, bel⟩ => ?_
  subst he
  exact ⟨_, rfl, _, _, _, [], _, [], hW', trodAll_mk1 (shut_bool Try.underlying4 _), (trodAll_cons_mk (Below.trod vtParams_laidOut (by kernel_rfl) (of_decide_eq_true (by kernel_rfl)) k0 bel lt0) (trodAll_cons_mk (shut_int Try.underlying5 w1) (trodAll_cons_mk (shut_bool Try.underlying4 _) trodAll_mk0))), rfl, bel.frame _, fun h => by cases h⟩

theorem vtParams_over : Rows.vtParamsRow.holds Try.pinned (OpenSpec.ofChange Rows.vtParamsSpec) :=
  OpenClaim.holds_of_wide 6 Try.f6 rfl rfl rfl rfl rfl rfl rfl ⟨rfl, rfl, rfl, rfl, rfl⟩ rfl rfl rfl rfl rfl (by kernel_rfl) Try.func6 (by kernel_rfl)
    (of_decide_eq_true (by kernel_rfl)) (by unfold Func.isWrapper; first | (rw [if_pos (by decide +kernel)]; kernel_rfl) | (rw [if_neg (by decide +kernel)]; exact ⟨rfl, rfl⟩))
    (fun os started H enc _ => vtParams_lifted os started H enc)

theorem vtParams_holds : Rows.VtParamsSaid := vtParams_over
#print axioms vtParams_holds
end Go.Proofs.Ytbimhhcmfhooaaa
