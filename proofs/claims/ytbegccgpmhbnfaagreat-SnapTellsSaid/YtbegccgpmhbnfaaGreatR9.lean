/- What is proved here: parts of the proof of SnapTells. -/
import Derived.Test.YtbegccgpmhbnfaaGreatR8
import Derived.ProofKit
import Derived.ShutString
import Derived.ChangeOld
import Derived.Deep.Slices
import Derived.Laws.OwnMore
import Derived.Deep.OwnRows
import Derived.Deep.QuietTactic
import Derived.BigQuiet
import Derived.Test.YtbegccgpmhbnfaaGreatR7
import Derived.KernelRfl
namespace Go.Proofs.YtbegccgpmhbnfaaGreat
open Go.ChangeShapes Go.WideShapes Go.RowKit
open Go.RowKit
set_option linter.unusedVariables false
set_option linter.unusedSimpArgs false
set_option maxHeartbeats 1000000
set_option maxRecDepth 100000
theorem dv_L (l : List (List DV)) : (DV.L l).rows = l := rfl
theorem dv_R (l : List DV) : (DV.R l).row = l := rfl
def Tab.szd (T : Tab) (t : TypeId) : Option (List CK) → Option (List CK)
 | some l => if T.size t = some l.length then some l else none
 | none => none
theorem szd_some {T : Tab} {t : TypeId} {r : Option (List CK)} {l : List CK} (h : T.szd t r = some l) : r = some l ∧ T.size t = some l.length := by
 unfold Tab.szd at h
 split at h
 ·split at h
  ·cases h; exact ⟨rfl, by assumption⟩
  ·cases h
 ·cases h
def Tab.opN (T : Tab) : Nat → TypeId → Option (List CK)
 | 0, _ => none
 | n + 1, t => T.szd t (match T.und t with
     | some (.int k) => some [CK.int k]
     | some .bool => some [CK.bool]
     | some .string => some [CK.str]
     | some (.slice e) => match T.opN n e with
       | some l => if T.cks e = some l then some [CK.lst e] else none
       | none => none
     | some (.struct fs) => fs.toList.foldlM (fun (acc : List CK) (f : Field) => match T.opN n f.type with
       | some l => if f.offset = acc.length then some (acc ++ l) else none
       | none => none) []
     | some (.array m e) => (T.opN n e).map fun l => (List.replicate m l).flatten
     | _ => none)
def CsRd (T : Tab) (w : World) (S : Nat → Prop) (cks : List CK) (ds : List DV) (cs : List Value) : Prop :=
 cs.length = cks.length ∧ ds.length = cks.length ∧ ∀ (j : Nat) k d v, cks[j]? = some k → ds[j]? = some d → cs[j]? = some v → Rd T w S k d v
section
variable {H : Type} {enc : TypeId × Value → H} {P : Program} {w : World} {base : Nat} {spare : Nat → Bool} {held : Bool} {T : Tab} {S : Nat → Prop}
theorem CsRd.one {k : CK} {d : DV} {v : Value} (h : Rd T w S k d v) : CsRd T w S [k] [d] [v] := ⟨rfl, rfl, fun j k' d' v' h1 h2 h3 => by
  cases j with
  | zero => cases h1; cases h2; cases h3; exact h
  | succ j => cases h1⟩
theorem CsRd.app {a b : List CK} {da db : List DV} {ca cb : List Value} (h : CsRd T w S a da ca) (g : CsRd T w S b db cb) : CsRd T w S (a ++ b) (da ++ db) (ca ++ cb) := by
 obtain ⟨h1, h2, h3⟩ := h
 obtain ⟨g1, g2, g3⟩ := g
 refine ⟨by simp [h1, g1], by simp [h2, g2], fun j k d v e1 e2 e3 => ?_⟩
 by_cases hj : j < a.length
 ·rw [List.getElem?_append_left hj] at e1
  rw [List.getElem?_append_left (by omega)] at e2 e3
  exact h3 j k d v e1 e2 e3
 ·rw [List.getElem?_append_right (by omega)] at e1 e2 e3
  rw [h2] at e2
  rw [h1] at e3
  exact g3 _ k d v e1 e2 e3
theorem cellsOf_of (hT : T.Ok P) {t : TypeId} {n : Nat} (h : T.size t = some n) : P.cellsOf t = n := by
 unfold Program.cellsOf
 rw [hT.size h]
 rfl
theorem opN_size {n : Nat} {t : TypeId} {l : List CK} (h : T.opN n t = some l) : T.size t = some l.length := by
 cases n with
 | zero => cases h
 | succ n => unfold Tab.opN at h; exact (szd_some h).2
theorem open_cells (hT : T.Ok P) : ∀ (n : Nat) (m : Nat) (t : TypeId) (cks : List CK) (cs : List Value) (x : DataW H × List MemPlace), T.opN n t = some cks → DataW.trod enc P w base spare held m t cs = some x → ∃ ds, CsRd T w (fun q => q < w.heap.size) cks ds cs := by
 intro n
 induction n with
 | zero => intro m t cks cs x h; cases h
 | succ n ih =>
  intro m t cks cs x h hx
  have hsz := cellsOf_of hT (opN_size h)
  unfold Tab.opN at h
  have hl := (szd_some h).1
  split at hl
  ·rename_i k hu
   cases hl
   obtain ⟨i, rfl, -, hw⟩ := DataW.trod_int (hT.und hu) hx
   exact ⟨[.I i], .one (Rd.of_wf hw)⟩
  ·rename_i hu
   cases hl
   obtain ⟨b, rfl, -⟩ := DataW.trod_bool (hT.und hu) hx
   exact ⟨[.B b], .one .bool⟩
  ·rename_i hu
   cases hl
   obtain ⟨s, rfl, -, hs⟩ := DataW.trod_string (hT.und hu) hx
   exact ⟨[.S s.data.toList], .one (.str hs)⟩
  ·rename_i e hu
   split at hl
   case h_2 => cases hl
   rename_i le hle
   split at hl
   case isFalse => cases hl
   rename_i hcks
   cases hl
   obtain ⟨hc1, hc2⟩ := Tab.cks_size hcks
   have hce := cellsOf_of hT hc1
   rcases Deep.open_slice (hT.und hu) hx with ⟨rfl, -⟩ | ⟨a, len, cap, m', n', D, Pl, rfl, hb, hlc, hcm, hm', -, hel⟩
   ·exact ⟨[.L []], .one (Rd.lst (rows := []) (a := none) (cap := 0) (cks := le) (q := 0) (o := 0) (fun _ _ => undef) hcks (by simp) (by simp) (fun h => absurd rfl h) (fun r hr => by cases hr) (fun i j hi => absurd hi (by simp)) (fun i j r d k hr => by cases hr))⟩
   ·have hlm : len ≤ m' := by rw [hm']; split <;> omega
    have each : ∀ i, i < len → ∃ p : List DV × List Value, CsRd T w (fun q => q < w.heap.size) le p.1 p.2 ∧ w.cells? base (a.add (i * P.cellsOf e)) (P.cellsOf e) = some p.2 := fun i hi => by
     obtain ⟨cs', h1, h2⟩ := hel i (by omega)
     obtain ⟨ds, h3⟩ := ih _ _ _ _ _ hle h2
     exact ⟨(ds, cs'), h3, h1⟩
    obtain ⟨F, hF⟩ := Deep.choose_lt each
    have hcell : ∀ i j, i < len → j < le.length → w.cell? ((a.add (i * P.cellsOf e)).add j) = (F i).2[j]? := fun i j hi hj => by
     obtain ⟨_, _, h⟩ := World.cells?_some (hF i hi).2
     exact h j (by rw [hce]; exact hj)
    have hspan : 0 < len → ∃ q o, a = ⟨q, o, none⟩ ∧ q < w.heap.size := fun h0 => by
     have h1 := hcell 0 0 h0 hc2
     obtain ⟨q, o, sp⟩ := a
     have hlen := (hF 0 h0).1.1
     rw [List.getElem?_eq_getElem (by omega)] at h1
     have hblk := World.cells?_block (hF 0 h0).2 (by rw [hce]; exact hc2)
     rw [Nat.zero_mul] at h1 hblk
     simp only [Addr.add, if_pos] at h1 hblk
     refine ⟨q, o, ?_, hblk⟩
     simp only [World.cell?] at h1
     split at h1
     ·split at h1
      ·cases h1
      ·rename_i hn
       have : sp = none := by simpa using hn
       rw [this]
     ·cases h1
    have key : ∃ q o, (0 < len → a = ⟨q, o, none⟩ ∧ q < w.heap.size) := by
     by_cases h0 : 0 < len
     ·obtain ⟨q, o, h1, h2⟩ := hspan h0
      exact ⟨q, o, fun _ => ⟨h1, h2⟩⟩
     ·exact ⟨0, 0, fun h => absurd h h0⟩
    obtain ⟨q, o, hqo⟩ := key
    have hrows : ((List.range len).map fun i => (F i).1).length = len := by simp
    have hget : ∀ (i : Nat) r, ((List.range len).map fun i => (F i).1)[i]? = some r → i < len ∧ r = (F i).1 := fun i r hr => by
     have hi := (List.getElem?_eq_some_iff.1 hr).1
     rw [hrows] at hi
     rw [List.getElem?_map, List.getElem?_range hi] at hr
     cases hr
     exact ⟨hi, rfl⟩
    have := Rd.lst (T := T) (w := w) (S := fun q => q < w.heap.size) (e := e) (rows := (List.range len).map fun i => (F i).1) (a := some a) (cap := cap) (cks := le) (q := q) (o := o) (fun i j => (F i).2.getD j undef) hcks
     (by rw [hrows]; exact Nat.le_trans hlc hcm) (by rw [hrows]; exact hlc)
     (fun hne => by
       have h0 : 0 < len := by
         rcases Nat.eq_zero_or_pos len with h | h
         · subst h; exact absurd rfl hne
         · exact h
       obtain ⟨h1, h2⟩ := hqo h0
       exact ⟨by rw [h1], h2⟩)
     (fun r hr => by
       obtain ⟨i, hi, rfl⟩ := List.mem_map.1 hr
       exact (hF i (List.mem_range.1 hi)).1.2.1)
     (fun i j hi hj => by
       rw [hrows] at hi
       have h1 := hcell i j hi hj
       obtain ⟨h2, _⟩ := hqo (by omega)
       have hj2 : j < (F i).2.length := by rw [(hF i hi).1.1]; exact hj
       rw [List.getElem?_eq_getElem hj2] at h1
       rw [List.getD_eq_getElem?_getD, List.getElem?_eq_getElem hj2]
       rw [← Nat.add_assoc]
       subst h2
       rw [hce] at h1
       have e : ∀ (b o i : Nat), (⟨b, o, none⟩ : Addr).add i = ⟨b, o + i, none⟩ := fun b o i => by
         unfold Addr.add
         split
         · rename_i h; subst h; rfl
         · rfl
       rw [e, e] at h1
       exact h1)
     (fun i j r d k hr hd hk => by
       obtain ⟨hi, rfl⟩ := hget i r hr
       have hj := (List.getElem?_eq_some_iff.1 hk).1
       have hj2 : j < (F i).2.length := by rw [(hF i hi).1.1]; exact hj
       refine (hF i hi).1.2.2 j k d _ hk hd ?_
       rw [List.getD_eq_getElem?_getD, List.getElem?_eq_getElem hj2]; rfl)
    rw [hrows] at this
    exact ⟨_, .one this⟩
  ·rename_i fs hu
   obtain ⟨xs, n', -, -, hlen, hxl, hf⟩ := DataW.trod_struct (hT.und hu) hx
   have fold : ∀ (fl : List Field) (acc l' : List CK) (da : List DV), fl.foldlM (fun acc f => match T.opN n f.type with
       | some l => if f.offset = acc.length then some (acc ++ l) else none
       | none => none) acc = some l' → CsRd T w (fun q => q < w.heap.size) acc da (cs.take acc.length) → (∀ f ∈ fl, ∃ y, DataW.trod enc P w base spare held n' f.type ((cs.drop f.offset).take (P.cellsOf f.type)) = some y) → ∃ ds, CsRd T w (fun q => q < w.heap.size) l' ds (cs.take l'.length) := by
    intro fl
    induction fl with
    | nil =>
     intro acc l' da h1 h2 _
     simp only [List.foldlM_nil, Option.pure_def, Option.some.injEq] at h1
     subst h1
     exact ⟨da, h2⟩
    | cons f fl ihf =>
     intro acc l' da h1 h2 h3
     rw [List.foldlM_cons] at h1
     obtain ⟨acc2, h4, h5⟩ := Option.bind_eq_some_iff.1 h1
     split at h4
     case h_2 => cases h4
     rename_i lf hlf
     split at h4
     case isFalse => cases h4
     rename_i hoff
     cases h4
     obtain ⟨y, hy⟩ := h3 f (List.mem_cons_self ..)
     obtain ⟨df, hdf⟩ := ih _ _ _ _ _ hlf hy
     have hcf := cellsOf_of hT (opN_size hlf)
     rw [hcf, hoff] at hdf
     refine ihf _ _ (da ++ df) h5 ?_ (fun g hg => h3 g (List.mem_cons_of_mem _ hg))
     rw [List.length_append, List.take_add]
     exact h2.app hdf
   obtain ⟨ds, hds⟩ := fold fs.toList [] cks [] hl ⟨by simp, rfl, fun j k d v h => by cases h⟩ (fun f hf' => by
     obtain ⟨i, hi⟩ := List.mem_iff_getElem?.1 hf'
     have h1 := hf i f (by simpa using hi)
     have hi2 : i < xs.length := by rw [hxl]; have := (List.getElem?_eq_some_iff.1 hi).1; simpa using this
     rw [List.getElem?_eq_getElem hi2] at h1
     exact ⟨_, h1⟩)
   rw [List.take_of_length_le (by omega)] at hds
   exact ⟨ds, hds⟩
  ·rename_i k e hu
   cases hle : T.opN n e with
   | none => rw [hle] at hl; cases hl
   | some le =>
   rw [hle] at hl
   cases hl
   have hce := cellsOf_of hT (opN_size hle)
   obtain ⟨xs, n', -, -, hlen, hxl, hf⟩ := DataW.trod_array (hT.und hu) hx
   have fold : ∀ j, j ≤ k → ∃ ds, CsRd T w (fun q => q < w.heap.size) (List.replicate j le).flatten ds (cs.take (j * le.length)) := by
    intro j
    induction j with
    | zero => intro _; exact ⟨[], by simp [CsRd]⟩
    | succ j ihj =>
     intro hj
     obtain ⟨ds, hds⟩ := ihj (by omega)
     have h1 := hf j (by omega)
     rw [List.getElem?_eq_getElem (by omega)] at h1
     obtain ⟨df, hdf⟩ := ih _ _ _ _ _ hle h1
     rw [hce] at hdf
     refine ⟨ds ++ df, ?_⟩
     rw [List.replicate_succ', List.flatten_append, Nat.succ_mul, List.take_add]
     simp only [List.flatten_cons, List.flatten_nil, List.append_nil]
     exact hds.app hdf
   obtain ⟨ds, hds⟩ := fold k (Nat.le_refl _)
   have hl2 : (List.replicate k le).flatten.length = k * le.length := by simp
   rw [List.take_of_length_le (by rw [hlen, hsz, hl2]; exact Nat.le_refl _)] at hds
   exact ⟨ds, hds⟩
  ·cases hl
def Tab.parT (T : Tab) (t : TypeId) : Option (Bool × List CK) := match T.opN 8 t with
 | none => none
 | some l => match T.und t with
  | some (.struct _) | some (.array _ _) => some (true, l)
  | some (.int _) | some .bool | some .string | some (.slice _) => some (false, l)
  | _ => none
theorem open_arg (hT : T.Ok P) {t : TypeId} {p : Bool × List CK} {v : Value} {d : DataW H} {ps : List MemPlace} {r : Reach} {b0 : Nat} {w' : World} (hp : T.parT t = some p) (hval : Value.okWide P w' r b0 t v) (h : DataW.Trod enc P w base spare held t v d ps) :
  ∃ ds, ArgR T w (fun q => q < w.heap.size) p ds v ∧ ds.length = p.2.length := by
 obtain ⟨fuel, hf⟩ := h
 unfold Tab.parT at hp
 split at hp
 ·cases hp
 rename_i l hl
 obtain ⟨ds, hcs⟩ := open_cells hT _ _ _ _ _ _ hl hf
 have agg : (∃ cs, v = .agg cs) → ArgR T w (fun q => q < w.heap.size) (true, l) ds v ∧ ds.length = l.length := fun ⟨cs, hv⟩ => by
  subst hv
  have hcs2 : CsRd T w (fun q => q < w.heap.size) l ds cs.toList := by simpa [Value.cells] using hcs
  obtain ⟨h1, h2, h3⟩ := hcs2
  refine ⟨⟨h2, .inl ⟨rfl, cs, rfl, by simpa using h1, fun j k d' hk hd => ?_⟩⟩, h2⟩
  have hj : j < cs.toList.length := by rw [h1]; exact (List.getElem?_eq_some_iff.1 hk).1
  refine ⟨cs.toList[j], ?_, h3 j k d' _ hk hd (List.getElem?_eq_getElem hj)⟩
  rw [← Array.getElem?_toList, List.getElem?_eq_getElem hj]
 have one : v.cells.toList = [v] → l.length = 1 → ArgR T w (fun q => q < w.heap.size) (false, l) ds v ∧ ds.length = l.length := fun hv h1 => by
  rw [hv] at hcs
  obtain ⟨g1, g2, g3⟩ := hcs
  match l, ds, h1, g2 with
  | [k], [d'], _, _ => exact ⟨⟨rfl, .inr ⟨rfl, k, d', rfl, rfl, g3 0 k d' v rfl rfl rfl⟩⟩, rfl⟩
 have hsl : ∀ {k : CK}, T.opN 8 t = some [k] → l.length = 1 := fun h => by rw [hl] at h; cases h; rfl
 split at hp
 ·rename_i fs hu
  cases hp
  obtain ⟨cs, hv, -⟩ := okWide_struct (hT.und hu) hval
  exact ⟨ds, agg ⟨cs, hv⟩⟩
 ·rename_i m e hu
  cases hp
  unfold Value.okWide at hval
  rw [hT.und hu] at hval
  obtain ⟨cs, hv, -⟩ := hval
  exact ⟨ds, agg ⟨cs, hv⟩⟩
 ·rename_i k hu
  cases hp
  obtain ⟨n, rfl⟩ := okWide_int (hT.und hu) hval
  have : l.length = 1 := by
   unfold Tab.opN at hl
   have hl := (szd_some hl).1
   rw [hu] at hl
   cases hl
   rfl
  exact ⟨ds, one rfl this⟩
 ·rename_i hu
  cases hp
  obtain ⟨n, rfl⟩ := okWide_bool (hT.und hu) hval
  have : l.length = 1 := by
   unfold Tab.opN at hl
   have hl := (szd_some hl).1
   rw [hu] at hl
   cases hl
   rfl
  exact ⟨ds, one rfl this⟩
 ·rename_i hu
  cases hp
  obtain ⟨n, rfl⟩ := okWide_string (hT.und hu) hval
  have : l.length = 1 := by
   unfold Tab.opN at hl
   have hl := (szd_some hl).1
   rw [hu] at hl
   cases hl
   rfl
  exact ⟨ds, one rfl this⟩
 ·rename_i e hu
  cases hp
  obtain ⟨a, n, c, rfl⟩ := okWide_slice (hT.und hu) hval
  have : l.length = 1 := by
   unfold Tab.opN at hl
   have hl := (szd_some hl).1
   rw [hu] at hl
   simp only at hl
   split at hl
   ·split at hl
    ·cases hl; rfl
    ·cases hl
   ·cases hl
  exact ⟨ds, one rfl this⟩
 ·cases hp
theorem open_args (hT : T.Ok P) {r : Reach} {b0 : Nat} {w' : World} : ∀ {ts : List TypeId} {ps : List (Bool × List CK)} {vs : List Value} {ds : List (DataW H)} {pl : List MemPlace}, ts.mapM T.parT = some ps → (∀ (j : Nat) t v, ts[j]? = some t → vs[j]? = some v → Value.okWide P w' r b0 t v) →
  DataW.TrodAll enc P w base spare held ts vs ds pl → ∃ das, ArgsR T w (fun q => q < w.heap.size) ps das vs
 | [], ps, vs, ds, pl, hp, hv, h => by
  simp at hp
  subst hp
  obtain ⟨rfl, -, -⟩ := trodAll_nil h
  exact ⟨[], rfl, rfl⟩
 | t :: ts, ps, vs, ds, pl, hp, hv, h => by
  rw [List.mapM_cons] at hp
  obtain ⟨p, h1, h2⟩ := Option.bind_eq_some_iff.1 hp
  obtain ⟨ps', h3, h4⟩ := Option.bind_eq_some_iff.1 h2
  cases h4
  obtain ⟨v, vs', d, ds', q, q', rfl, rfl, rfl, h5, h6⟩ := trodAll_cons h
  obtain ⟨da, h7, h8⟩ := open_arg hT h1 (hv 0 t v rfl rfl) h5
  obtain ⟨das, h9⟩ := open_args hT h3 (fun j t' v' ht hv' => hv (j + 1) t' v' ht hv') h6
  refine ⟨da ++ das, v, vs', rfl, ?_, ?_⟩
  ·rw [List.take_left' h8]; exact h7
  ·rw [List.drop_left' h8]; exact h9
theorem trodAll_len : ∀ {ts : List TypeId} {vs : List Value} {ds : List (DataW H)} {pl : List MemPlace}, DataW.TrodAll enc P w base spare held ts vs ds pl → ds.length = ts.length
 | [], vs, ds, pl, h => by
  obtain ⟨rfl, rfl, rfl⟩ := trodAll_nil h
  rfl
 | t :: ts, vs, ds, pl, h => by
  obtain ⟨v, vs', d, ds', q, q', rfl, rfl, rfl, h5, h6⟩ := trodAll_cons h
  simp [trodAll_len h6]
theorem below_args (hl : laidOutB P = true) {W W' : World} (hb : Below W.heap.size W W') : ∀ {ts : List TypeId} {vs : List Value} {ds : List (DataW H)} {pl : List MemPlace}, (ts.all fun t => P.readableRec t && decide (t < P.types.size)) = true →
  DataW.TrodAll enc P W 0 (fun _ => true) true ts vs ds pl → DataW.TrodAll enc P W' 0 (fun b => decide (b < W.heap.size)) true ts vs ds pl
 | [], vs, ds, pl, hr, h => by
  obtain ⟨rfl, rfl, rfl⟩ := trodAll_nil h
  exact rfl
 | t :: ts, vs, ds, pl, hr, h => by
  simp only [List.all_cons, Bool.and_eq_true, decide_eq_true_eq] at hr
  obtain ⟨v, vs', d, ds', q, q', rfl, rfl, rfl, h5, h6⟩ := trodAll_cons h
  refine trodAll_cons_mk (Below.trod hl hr.1.1 hr.1.2 h5 hb ?_) (below_args hl hb hr.2 h6)
  obtain ⟨m, hm⟩ := h5
  exact DataW.trod_lt m _ _ _ hm
end
structure Cl where
 r : Int
 a : Nat
 h : Nat
deriving DecidableEq
def blankC : Cl := ⟨32, 0, 0⟩
def fillL (l : List Cl) (f : Nat → Cl) (lo hi : Nat) : List Cl := l.mapIdx fun i c => if lo ≤ i ∧ i < hi then f i else c
theorem fillL_len (l : List Cl) (f : Nat → Cl) (lo hi : Nat) : (fillL l f lo hi).length = l.length := by simp [fillL]
theorem fillL_get (l : List Cl) (f : Nat → Cl) (lo hi i : Nat) : (fillL l f lo hi)[i]? = if i < l.length then (if lo ≤ i ∧ i < hi then some (f i) else l[i]?) else none := by
 unfold fillL
 rw [List.getElem?_mapIdx]
 by_cases hi2 : i < l.length
 ·rw [if_pos hi2, List.getElem?_eq_getElem hi2]
  simp only [Option.map_some]
  split <;> rfl
 ·rw [if_neg hi2, List.getElem?_eq_none (by omega)]
  rfl
theorem fillL_none (l : List Cl) (f : Nat → Cl) (lo hi : Nat) (h : hi ≤ lo) : fillL l f lo hi = l := by
 apply List.ext_getElem?
 intro i
 rw [fillL_get]
 split
 ·rw [if_neg (by omega)]
 ·rename_i hh; rw [List.getElem?_eq_none (by omega)]
theorem fillL_set (l : List Cl) (f : Nat → Cl) (lo m : Nat) (c : Cl) (h1 : lo ≤ m) (hc : c = f m) : (fillL l f lo m).set m c = fillL l f lo (m + 1) := by
 subst hc
 apply List.ext_getElem?
 intro i
 rw [List.getElem?_set, fillL_len, fillL_get, fillL_get]
 by_cases e : m = i
 ·subst e
  rw [if_pos rfl]
  by_cases hl : m < l.length
  ·rw [if_pos hl, if_pos hl, if_pos (by omega)]
  ·rw [if_neg hl, if_neg hl]
 ·rw [if_neg e]
  split
  ·by_cases hr : lo ≤ i ∧ i < m
   ·rw [if_pos hr, if_pos (by omega)]
   ·rw [if_neg hr, if_neg (by omega)]
  ·rfl
theorem fillL_skip (l : List Cl) (f : Nat → Cl) (lo m : Nat) (hc : l[m]? = some (f m)) : fillL l f lo m = fillL l f lo (m + 1) := by
 apply List.ext_getElem?
 intro i
 rw [fillL_get, fillL_get]
 split
 ·by_cases hr : lo ≤ i ∧ i < m
  ·rw [if_pos hr, if_pos (by omega)]
  ·by_cases hr2 : lo ≤ i ∧ i < m + 1
   ·have e : i = m := by omega
    rw [if_neg hr, if_pos hr2, e, hc]
   ·rw [if_neg hr, if_neg hr2]
 ·rfl
def gOk (n : Nat) (cols : Int) : Bool := decide (1 ≤ cols ∧ cols ≤ 1000 ∧ (n : Int) % cols = 0 ∧ 1 ≤ (n : Int) / cols ∧ (n : Int) / cols ≤ 1000)
structure GOk (n r c : Nat) : Prop where
 c1 : 1 ≤ c
 c2 : c ≤ 1000
 r1 : 1 ≤ r
 r2 : r ≤ 1000
 n : n = r * c
theorem GOk.quo {n r c : Nat} (h : GOk n r c) : (n : Int) / (c : Int) = r ∧ (n : Int) % (c : Int) = 0 := by
 have h1 := h.c1
 rw [h.n]
 constructor
 ·rw [Int.natCast_mul]
  exact Int.mul_ediv_cancel _ (by omega)
 ·rw [Int.natCast_mul]
  exact Int.mul_emod_left _ _
theorem GOk.ok {n r c : Nat} (h : GOk n r c) : gOk n (c : Int) = true := by
 have h1 := h.c1
 have h2 := h.c2
 have h3 := h.r1
 have h4 := h.r2
 unfold gOk
 rw [h.quo.1, h.quo.2]
 simp
 omega
theorem gOk_of {n : Nat} {cols : Int} (h : gOk n cols = true) : ∃ r c : Nat, cols = c ∧ GOk n r c := by
 unfold gOk at h
 simp only [decide_eq_true_eq] at h
 obtain ⟨h1, h2, h3, h4, h5⟩ := h
 refine ⟨((n : Int) / cols).toNat, cols.toNat, by omega, by omega, by omega, by omega, by omega, ?_⟩
 have e1 : ((((n : Int) / cols).toNat : Nat) : Int) = (n : Int) / cols := by omega
 have e2 : ((cols.toNat : Nat) : Int) = cols := by omega
 have := Int.mul_ediv_add_emod (n : Int) cols
 have h6 : ((((n : Int) / cols).toNat * cols.toNat : Nat) : Int) = (n : Int) := by
  rw [Int.natCast_mul, e1, e2, Int.mul_comm]
  omega
 omega
theorem rc_div (y c x : Nat) (h : x < c) : (y * c + x) / c = y ∧ (y * c + x) % c = x := by
 constructor
 ·rw [Nat.mul_comm, Nat.mul_add_div (by omega), Nat.div_eq_of_lt h, Nat.add_zero]
 ·rw [Nat.mul_comm, Nat.mul_add_mod, Nat.mod_eq_of_lt h]
theorem rc_lt {r c y x : Nat} (hy : y < r) (hx : x < c) : y * c + x < r * c := by
 have : (y + 1) * c ≤ r * c := Nat.mul_le_mul_right _ hy
 have e : (y + 1) * c = y * c + c := by rw [Nat.add_mul, Nat.one_mul]
 omega
theorem rc_le {r c : Nat} (hr : r ≤ 1000) (hc : c ≤ 1000) : r * c ≤ 1000000 := Nat.mul_le_mul hr hc
def getC (l : List Cl) (i : Nat) : Cl := l.getD i blankC
theorem getC_of {l : List Cl} {i : Nat} (h : i < l.length) : l[i]? = some (getC l i) := by
 unfold getC List.getD
 rw [List.getElem?_eq_getElem h]
 rfl
def capN (n : Int) : Nat := (min (max n 0) 1000).toNat
def upF (l : List Cl) (c : Nat) (bottom : Nat) (n : Nat) (i : Nat) : Cl := if i / c + n ≤ bottom then getC l (i + n * c) else blankC
def downF (l : List Cl) (c : Nat) (top : Nat) (n : Nat) (i : Nat) : Cl := if top + n ≤ i / c then getC l (i - n * c) else blankC
def upL (l : List Cl) (cols top bottom n : Int) : List Cl :=
 if gOk l.length cols = true ∧ 0 ≤ top ∧ bottom < (l.length : Int) / cols ∧ top ≤ bottom then fillL l (upF l cols.toNat bottom.toNat (capN n)) (top.toNat * cols.toNat) ((bottom.toNat + 1) * cols.toNat) else l
def downL (l : List Cl) (cols top bottom n : Int) : List Cl :=
 if gOk l.length cols = true ∧ 0 ≤ top ∧ bottom < (l.length : Int) / cols ∧ top ≤ bottom then fillL l (downF l cols.toNat top.toNat (capN n)) (top.toNat * cols.toNat) ((bottom.toNat + 1) * cols.toNat) else l
def gPlace (n : Nat) (cols y x : Int) : Bool := gOk n cols && decide (0 ≤ y ∧ y < (n : Int) / cols ∧ 0 ≤ x ∧ x ≤ cols)
def badH (l : List Cl) (c i x : Nat) : Bool :=
 decide ((getC l i).h = 1) && (decide (x + 1 = c) || decide ((getC l (i + 1)).h ≠ 2)) || decide ((getC l i).h = 2) && (decide (x = 0) || decide ((getC l (i - 1)).h ≠ 1))
def mendF (l : List Cl) (c : Nat) (i : Nat) : Cl := if badH l c i (i % c) = true then blankC else getC l i
def mendL (l : List Cl) (cols y : Int) : List Cl :=
 if gPlace l.length cols y 0 = true then fillL l (mendF l cols.toNat) (y.toNat * cols.toNat) (y.toNat * cols.toNat + cols.toNat) else l
def insF (l : List Cl) (i0 : Nat) (n : Nat) (i : Nat) : Cl := if i0 + n ≤ i then getC l (i - n) else blankC
def delF (l : List Cl) (e : Nat) (n : Nat) (i : Nat) : Cl := if i + n < e then getC l (i + n) else blankC
def insertL (l : List Cl) (cols y x n : Int) : List Cl :=
 if gPlace l.length cols y x = true then mendL (fillL l (insF l (y.toNat * cols.toNat + x.toNat) (capN n)) (y.toNat * cols.toNat + x.toNat) (y.toNat * cols.toNat + cols.toNat)) cols y else l
def deleteL (l : List Cl) (cols y x n : Int) : List Cl :=
 if gPlace l.length cols y x = true then mendL (fillL l (delF l (y.toNat * cols.toNat + cols.toNat) (capN n)) (y.toNat * cols.toNat + x.toNat) (y.toNat * cols.toNat + cols.toNat)) cols y else l
def capC (n cols : Int) : Nat := (min (max n 0) cols).toNat
def eraseL (l : List Cl) (cols y fr til : Int) : List Cl :=
 if gPlace l.length cols y 0 = true then mendL (fillL l (fun _ => blankC) (y.toNat * cols.toNat + capC fr cols) (y.toNat * cols.toNat + capC til cols)) cols y else l
def sizeOk (rows cols : Int) : Bool := decide (1 ≤ rows ∧ rows ≤ 1000 ∧ 1 ≤ cols ∧ cols ≤ 1000)
def blankL (rows cols : Int) : List Cl := if sizeOk rows cols = true then List.replicate (rows.toNat * cols.toNat) blankC else []
theorem mendL_len (l : List Cl) (cols y : Int) : (mendL l cols y).length = l.length := by
 unfold mendL
 split
 ·exact fillL_len _ _ _ _
 ·rfl
theorem upL_len (l : List Cl) (cols top bottom n : Int) : (upL l cols top bottom n).length = l.length := by
 unfold upL
 split
 ·exact fillL_len _ _ _ _
 ·rfl
theorem downL_len (l : List Cl) (cols top bottom n : Int) : (downL l cols top bottom n).length = l.length := by
 unfold downL
 split
 ·exact fillL_len _ _ _ _
 ·rfl
theorem insertL_len (l : List Cl) (cols y x n : Int) : (insertL l cols y x n).length = l.length := by
 unfold insertL
 split
 ·rw [mendL_len, fillL_len]
 ·rfl
theorem deleteL_len (l : List Cl) (cols y x n : Int) : (deleteL l cols y x n).length = l.length := by
 unfold deleteL
 split
 ·rw [mendL_len, fillL_len]
 ·rfl
theorem eraseL_len (l : List Cl) (cols y fr til : Int) : (eraseL l cols y fr til).length = l.length := by
 unfold eraseL
 split
 ·rw [mendL_len, fillL_len]
 ·rfl
theorem gPlace_of {n : Nat} {cols y x : Int} (h : gPlace n cols y x = true) : ∃ r c yy xx : Nat, cols = c ∧ y = yy ∧ x = xx ∧ GOk n r c ∧ yy < r ∧ xx ≤ c := by
 unfold gPlace at h
 rw [Bool.and_eq_true, decide_eq_true_eq] at h
 obtain ⟨h1, h2, h3, h4, h5⟩ := h
 obtain ⟨r, c, rfl, hG⟩ := gOk_of h1
 rw [hG.quo.1] at h3
 exact ⟨r, c, y.toNat, x.toNat, rfl, by omega, by omega, hG, by omega, by omega⟩
theorem gPlace_mk {n r c : Nat} {y x : Int} (h : GOk n r c) (h1 : 0 ≤ y) (h2 : y < r) (h3 : 0 ≤ x) (h4 : x ≤ c) : gPlace n (c : Int) y x = true := by
 unfold gPlace
 rw [h.ok, h.quo.1]
 simp [h1, h2, h3, h4]
section
variable {sp : FuncId → List DV → List DV → Prop} {post : List DV → Prop} {env : List DV} {cx : List (List DV → Prop)}
theorem dneed {e : E} {t : Tree} (h : (e.den env).bool = true) (ht : t.den sp post env cx) : (Tree.need e t).den sp post env cx := ⟨h, ht⟩
theorem dbr {e : E} {a b : Tree} (h1 : (e.den env).bool = true → a.den sp post env cx) (h2 : (e.den env).bool = false → b.den sp post env cx) : (Tree.br e a b).den sp post env cx := ⟨h1, h2⟩
theorem dfit {e : E} {t : Tree} (h1 : -9223372036854775808 ≤ (e.den env).int) (h2 : (e.den env).int ≤ 9223372036854775807) (ht : t.den sp post env cx) : (Tree.need (.U (.fit .i64) e) t).den sp post env cx := ⟨decide_eq_true ⟨h1, h2⟩, ht⟩
theorem dwithin {i n : E} {t : Tree} (h1 : 0 ≤ (i.den env).int) (h2 : (i.den env).int < (n.den env).int) (ht : t.den sp post env cx) : (Tree.need (.O .and (.O .le (.I 0) i) (.O .lt i n)) t).den sp post env cx :=
 ⟨Bool.and_eq_true_iff.2 ⟨decide_eq_true h1, decide_eq_true h2⟩, ht⟩
theorem dlt {a b : E} {x y : Tree} (h1 : (a.den env).int < (b.den env).int → x.den sp post env cx) (h2 : ¬ (a.den env).int < (b.den env).int → y.den sp post env cx) : (Tree.br (.O .lt a b) x y).den sp post env cx := ⟨fun h => h1 (of_decide_eq_true h), fun h => h2 (of_decide_eq_false h)⟩
theorem dle {a b : E} {x y : Tree} (h1 : (a.den env).int ≤ (b.den env).int → x.den sp post env cx) (h2 : ¬ (a.den env).int ≤ (b.den env).int → y.den sp post env cx) : (Tree.br (.O .le a b) x y).den sp post env cx := ⟨fun h => h1 (of_decide_eq_true h), fun h => h2 (of_decide_eq_false h)⟩
theorem deq {a b : E} {x y : Tree} (h1 : (a.den env).int = (b.den env).int → x.den sp post env cx) (h2 : ¬ (a.den env).int = (b.den env).int → y.den sp post env cx) : (Tree.br (.O .eq a b) x y).den sp post env cx := ⟨fun h => h1 (of_decide_eq_true h), fun h => h2 (of_decide_eq_false h)⟩
theorem nlt {a b : E} {t : Tree} (h : (a.den env).int < (b.den env).int) (ht : t.den sp post env cx) : (Tree.need (.O .lt a b) t).den sp post env cx := ⟨decide_eq_true h, ht⟩
theorem nle {a b : E} {t : Tree} (h : (a.den env).int ≤ (b.den env).int) (ht : t.den sp post env cx) : (Tree.need (.O .le a b) t).den sp post env cx := ⟨decide_eq_true h, ht⟩
theorem dret {es : List E} (h : post (es.map (·.den env))) : (Tree.ret es).den sp post env cx := h
theorem dcall {f : FuncId} {sg : Sig} {xs : List E} {n : Nat} {t : Tree} {das rs : List DV} (h : Spn f sg das rs) (hsg : sigs f = some sg) (hx : xs.map (·.den env) = das) (hl : rs.length = n) (ht : t.den SpF1 post (env ++ rs) cx) : (Tree.call f xs n t).den SpF1 post env cx :=
 ⟨rs, hl, ⟨sg, hsg, by rw [hx]; exact h⟩, ht⟩
theorem dloop {α : Type} (D : α → List DV) (I : α → Prop) (μ : α → Nat) (a0 : α) {is : List E} {b : Tree} (h0 : is.map (·.den env) = D a0) (hI : I a0)
  (hb : ∀ a, I a → (D a).length = is.length → b.den sp post (env ++ D a) (cx ++ [fun v => ∃ a', v = D a' ∧ I a' ∧ μ a' < μ a])) : (Tree.loop is b).den sp post env cx := by
 have key : ∀ v, (∃ a, v = D a ∧ I a) → ∃ a, v = D a ∧ I a ∧ ∀ a', v = D a' → I a' → μ a ≤ μ a' := fun v h => by
  have aux : ∀ n a, v = D a → I a → μ a ≤ n → ∃ a, v = D a ∧ I a ∧ ∀ a', v = D a' → I a' → μ a ≤ μ a' := by
   intro n
   induction n with
   | zero => exact fun a h1 h2 h3 => ⟨a, h1, h2, fun _ _ _ => by omega⟩
   | succ n ih =>
    intro a h1 h2 h3
    by_cases hx : ∃ a', v = D a' ∧ I a' ∧ μ a' < μ a
    ·obtain ⟨a', g1, g2, g3⟩ := hx
     exact ih a' g1 g2 (by omega)
    ·exact ⟨a, h1, h2, fun a' g1 g2 => Nat.le_of_not_lt fun g3 => hx ⟨a', g1, g2, g3⟩⟩
  obtain ⟨a, h1, h2⟩ := h
  exact aux _ a h1 h2 (Nat.le_refl _)
 refine ⟨fun v => ∃ a, v = D a ∧ I a, fun v => open Classical in if h : ∃ a, v = D a ∧ I a then μ (key v h).choose else 0, ⟨a0, h0, hI⟩, fun v hl hv => ?_⟩
 have hs := (key v hv).choose_spec
 obtain ⟨s1, s2, s3⟩ := hs
 have := hb _ s2 (by rw [← s1]; exact hl)
 rw [← s1] at this
 refine den_cx b (env ++ v) cx _ _ (fun v' h => ?_) this
 obtain ⟨a', g1, g2, g3⟩ := h
 have hv' : ∃ a, v' = D a ∧ I a := ⟨a', g1, g2⟩
 refine ⟨hv', ?_⟩
 simp only [dif_pos hv', dif_pos hv]
 exact Nat.lt_of_le_of_lt ((key v' hv').choose_spec.2.2 a' g1 g2) g3
theorem dagain {lv : Nat} {es : List E} {p : List DV → Prop} (hp : cx[lv]? = some p) (h : p (es.map (·.den env))) : (Tree.again lv es).den sp post env cx := ⟨p, hp, h⟩
theorem dtrue {e : E} {x y : Tree} (h : (e.den env).bool = true) (hx : x.den sp post env cx) : (Tree.br e x y).den sp post env cx := ⟨fun _ => hx, fun g => (by rw [h] at g; cases g)⟩
theorem dfalse {e : E} {x y : Tree} (h : (e.den env).bool = false) (hy : y.den sp post env cx) : (Tree.br e x y).den sp post env cx := ⟨fun g => (by rw [h] at g; cases g), fun _ => hy⟩
end
def clD (c : Cl) : List DV := [.I c.r, .I c.a, .I c.h]
def cellsD (l : List Cl) : DV := .L (l.map clD)
theorem cells_len (l : List Cl) : ((cellsD l).rows.length : Int) = l.length := by simp [cellsD, DV.rows]
theorem cells_get {l : List Cl} {k : Nat} (h : k < l.length) : (cellsD l).rows.getD k [] = clD (getC l k) := by
 simp [cellsD, DV.rows, List.getD_eq_getElem?_getD, List.getElem?_eq_getElem h, getC]
theorem cellRow {l : List Cl} {k : Nat} (h : k < l.length) : [((cellsD l).rows[k]?.getD [])[0]?.getD (.I 0), ((cellsD l).rows[k]?.getD [])[1]?.getD (.I 0), ((cellsD l).rows[k]?.getD [])[2]?.getD (.I 0)] = clD (getC l k) := by
 simp [cellsD, DV.rows, List.getElem?_eq_getElem h, getC, List.getD_eq_getElem?_getD, clD]
theorem cellH {l : List Cl} {k : Nat} (h : k < l.length) : (((cellsD l).rows[k]?.getD [])[2]?.getD (DV.I 0)).int = (getC l k).h := by
 simp [cellsD, DV.rows, List.getElem?_eq_getElem h, getC, List.getD_eq_getElem?_getD, clD, DV.int]
theorem cells_set (l : List Cl) (k : Nat) (c : Cl) : DV.L ((cellsD l).rows.set k (clD c)) = cellsD (l.set k c) := by
 simp [cellsD, DV.rows, List.map_set]
section
attribute [local simp] E.den O.den U.den vs dv_I dv_B dv_L dv_R DV.row
theorem blank_sp : Spn n_r7_blank sg_r7_blank [] (clD blankC) := rd_r7_blank rfl (dret rfl)
theorem own_sp (l : List Cl) (hl : l.length ≤ 1099511627776) : Spn n_r7_own sg_r7_own [cellsD l] [cellsD l] := by
 refine rd_r7_own rfl (dneed ?_ (dret ?_))
 ·simp [cells_len]; omega
 ·simp [cellsD]
theorem grid_yes {l : List Cl} {r c : Nat} (h : GOk l.length r c) : Spn n_r7_grid sg_r7_grid [cellsD l, .I c] [.I r, .B true] := by
 have h1 := h.c1
 have h2 := h.c2
 have h3 := h.r1
 have h4 := h.r2
 have q := h.quo
 have hm : ((l.length : Int)).tmod c = 0 := by rw [Int.tmod_eq_emod_of_nonneg (by omega)]; exact q.2
 have hd : ((l.length : Int)).tdiv c = r := by rw [Int.tdiv_eq_ediv_of_nonneg (by omega)]; exact q.1
 refine rd_r7_grid rfl (dlt (fun h => ?_) fun _ => dlt (fun h => ?_) fun _ => deq (fun h => dfit ?_ ?_ (dlt (fun h => ?_) fun _ => dlt (fun h => ?_) fun _ => dret ?_)) fun h => ?_)
 ·simp at h; omega
 ·simp at h; omega
 ·simp [cells_len, hd]
 ·simp [cells_len, hd]; omega
 ·simp [cells_len, hd] at h; omega
 ·simp [cells_len, hd] at h; omega
 ·simp [cells_len, hd]
 ·simp [cells_len, hm] at h
theorem grid_no {l : List Cl} {c : Int} (h : gOk l.length c = false) (hl : l.length ≤ 1099511627776) : Spn n_r7_grid sg_r7_grid [cellsD l, .I c] [.I 0, .B false] := by
 unfold gOk at h
 rw [decide_eq_false_iff_not] at h
 refine rd_r7_grid rfl (dlt (fun h => dret rfl) fun h1 => dlt (fun h => dret rfl) fun h2 => ?_)
 simp at h1
 have hd : ((l.length : Int)).tdiv c = (l.length : Int) / c := by rw [Int.tdiv_eq_ediv_of_nonneg (by omega)]
 have hm : ((l.length : Int)).tmod c = (l.length : Int) % c := by rw [Int.tmod_eq_emod_of_nonneg (by omega)]
 have b1 : (l.length : Int) / c ≤ l.length := Int.ediv_le_self _ (by omega)
 have b2 : 0 ≤ (l.length : Int) / c := Int.ediv_nonneg (by omega) (by omega)
 refine deq (fun h3 => dfit (by simp [cells_len, hd]; omega) (by simp [cells_len, hd]; omega) (dlt (fun h => dret rfl) fun h4 => dlt (fun h => dret rfl) fun h5 => ?_)) fun h => dret rfl
 simp [cells_len, hd, hm] at h2 h3 h4 h5
 exact absurd ⟨by omega, by omega, by omega, by omega, by omega⟩ h
theorem place_yes {l : List Cl} {r c : Nat} (h : GOk l.length r c) {y x : Int} (h1 : 0 ≤ y) (h2 : y < r) (h3 : 0 ≤ x) (h4 : x ≤ c) : Spn n_r7_place sg_r7_place [cellsD l, .I c, .I y, .I x] [.B true] := by
 refine rd_r7_place rfl (dcall (grid_yes h) rfl rfl rfl (dtrue rfl (dle (fun _ => dlt (fun _ => dle (fun _ => dret ?_) fun h => ?_) fun h => ?_) fun h => ?_)))
 ·simp; omega
 ·simp at h; omega
 ·simp at h; omega
 ·simp at h; omega
theorem place_no {l : List Cl} {c y x : Int} (h : gPlace l.length c y x = false) (hl : l.length ≤ 1099511627776) : Spn n_r7_place sg_r7_place [cellsD l, .I c, .I y, .I x] [.B false] := by
 cases hg : gOk l.length c with
 | false => exact rd_r7_place rfl (dcall (grid_no hg hl) rfl rfl rfl (dfalse rfl (dret rfl)))
 | true =>
  obtain ⟨r, c, rfl, hG⟩ := gOk_of hg
  refine rd_r7_place rfl (dcall (grid_yes hG) rfl rfl rfl (dtrue rfl (dle (fun h1 => dlt (fun h2 => dle (fun h3 => dret ?_) fun h => dret rfl) fun h => dret rfl) fun h => dret rfl)))
  simp at h1 h2 h3 ⊢
  unfold gPlace at h
  rw [hg, hG.quo.1] at h
  simp at h
  omega
theorem capN_eq (n : Int) : (capN n : Int) = min (max n 0) 1000 := by unfold capN; omega
theorem cap_den (n : Int) : (if 1000 < (if 0 > n then 0 else n) then 1000 else (if 0 > n then 0 else n)) = (capN n : Int) := by
 rw [capN_eq]; split <;> split <;> omega
theorem up_sp (l : List Cl) (cols top bottom n : Int) (hl : l.length ≤ 1099511627776) : Spn n_r7_Up sg_r7_Up [cellsD l, .I cols, .I top, .I bottom, .I n] [cellsD (upL l cols top bottom n)] := by
 refine rd_r7_Up rfl (dcall (own_sp l hl) rfl rfl rfl ?_)
 unfold upL
 cases hg : gOk l.length cols with
 | false => exact dcall (grid_no hg hl) rfl rfl rfl (dfalse rfl (dret (by simp)))
 | true =>
  obtain ⟨r, c, rfl, hG⟩ := gOk_of hg
  have g2 := hG.c2
  have g4 := hG.r2
  rw [hG.quo.1]
  refine dcall (grid_yes hG) rfl rfl rfl (dtrue rfl (dlt (fun h => ?_) fun h1 => dle (fun h => ?_) fun h2 => dlt (fun h => ?_) fun h3 => ?_))
  ·simp at h; rw [if_neg (by omega)]; exact dret rfl
  ·simp at h; rw [if_neg (by omega)]; exact dret rfl
  ·simp at h; rw [if_neg (by omega)]; exact dret rfl
  simp at h1 h2 h3
  rw [if_pos ⟨rfl, h1, h2, h3⟩]
  obtain ⟨t, rfl⟩ : ∃ t : Nat, top = t := ⟨top.toNat, by omega⟩
  obtain ⟨b, rfl⟩ : ∃ b : Nat, bottom = b := ⟨bottom.toNat, by omega⟩
  simp only [Int.toNat_natCast]
  have hcap : capN n ≤ 1000 := by have := capN_eq n; omega
  refine dloop (fun k : Nat => [cellsD (fillL l (upF l c b (capN n)) (t * c) (k * c)), .I k]) (fun k => t ≤ k ∧ k ≤ b + 1) (fun k => b + 1 - k) t (by rw [fillL_none _ _ _ _ (Nat.le_refl _)]; rfl) ⟨Nat.le_refl _, by omega⟩ fun k hk _ => ?_
  refine dle (fun h => ?_) fun h => ?_
  ·simp at h
   refine dloop (fun x : Nat => [cellsD (fillL l (upF l c b (capN n)) (t * c) (k * c + x)), .I x]) (fun x => x ≤ c) (fun x => c - x) 0 rfl (Nat.zero_le _) fun x hx _ => ?_
   refine dlt (fun hc => ?_) fun hc => ?_
   ·simp at hc
    have hin := rc_lt (r := r) (c := c) (y := k) (x := x) (by omega) hc
    have hrl := rc_le hG.r2 hG.c2
    have hlen := hG.n
    have htk : t * c ≤ k * c := Nat.mul_le_mul_right _ hk.1
    have hd := rc_div k c x hc
    have hu : upF l c b (capN n) (k * c + x) = if k + capN n ≤ b then getC l (k * c + x + capN n * c) else blankC := by unfold upF; rw [hd.1]
    have hin2 : k + capN n ≤ b → (k + capN n) * c + x < r * c := fun hi => rc_lt (by omega) hc
    rw [Nat.add_mul] at hin2
    have e1 : (k : Int) * (c : Int) = ((k * c : Nat) : Int) := by push_cast; rfl
    have e2 : ((k : Int) + (capN n : Int)) * (c : Int) = ((k * c : Nat) : Int) + ((capN n * c : Nat) : Int) := by rw [Int.add_mul]; push_cast; rfl
    generalize k * c = K at *
    generalize capN n * c = Nc at *
    have hset : ∀ d, d = upF l c b (capN n) (K + x) → (fillL l (upF l c b (capN n)) (t * c) (K + x)).set (K + x) d = fillL l (upF l c b (capN n)) (t * c) (K + (x + 1)) := fun d hd => fillL_set _ _ _ _ _ (by omega) hd
    refine dcall blank_sp rfl rfl rfl (dfit (by simp [cap_den]; omega) (by simp [cap_den]; omega) (dle (fun hi => ?_) fun hi => ?_))
    ·simp [cap_den] at hi
     have hi2 : k + capN n ≤ b := by omega
     have := hin2 hi2
     refine dfit (by simp [cap_den, e1, e2, cells_len, fillL_len] <;> omega) (by simp [cap_den, e1, e2, cells_len, fillL_len] <;> omega) ?_
     refine dfit (by simp [cap_den, e1, e2, cells_len, fillL_len] <;> omega) (by simp [cap_den, e1, e2, cells_len, fillL_len] <;> omega) ?_
     refine dwithin (by simp [cap_den, e1, e2, cells_len, fillL_len] <;> omega) (by simp [cap_den, e1, e2, cells_len, fillL_len] <;> omega) ?_
     refine dfit (by simp [cap_den, e1, e2, cells_len, fillL_len] <;> omega) (by simp [cap_den, e1, e2, cells_len, fillL_len] <;> omega) ?_
     refine dfit (by simp [cap_den, e1, e2, cells_len, fillL_len] <;> omega) (by simp [cap_den, e1, e2, cells_len, fillL_len] <;> omega) ?_
     refine dwithin (by simp [cap_den, e1, e2, cells_len, fillL_len] <;> omega) (by simp [cap_den, e1, e2, cells_len, fillL_len] <;> omega) ?_
     refine dfit (by simp [cap_den, e1, e2, cells_len, fillL_len] <;> omega) (by simp [cap_den, e1, e2, cells_len, fillL_len] <;> omega) (dagain rfl ⟨x + 1, ?_, by omega, by omega⟩)
     rw [← hset (getC l (K + x + Nc)) (by rw [hu, if_pos hi2]), ← cells_set]
     simp [cap_den, e1, e2]
     rw [show ((K : Int) + Nc + x).toNat = K + x + Nc by omega, show ((K : Int) + x).toNat = K + x by omega, cellRow (by omega)]
    ·simp [cap_den] at hi
     have hi2 : ¬ k + capN n ≤ b := by omega
     refine dfit (by simp [cap_den, e1, e2, cells_len, fillL_len] <;> omega) (by simp [cap_den, e1, e2, cells_len, fillL_len] <;> omega) ?_
     refine dfit (by simp [cap_den, e1, e2, cells_len, fillL_len] <;> omega) (by simp [cap_den, e1, e2, cells_len, fillL_len] <;> omega) ?_
     refine dwithin (by simp [cap_den, e1, e2, cells_len, fillL_len] <;> omega) (by simp [cap_den, e1, e2, cells_len, fillL_len] <;> omega) ?_
     refine dfit (by simp [cap_den, e1, e2, cells_len, fillL_len] <;> omega) (by simp [cap_den, e1, e2, cells_len, fillL_len] <;> omega) (dagain rfl ⟨x + 1, ?_, by omega, by omega⟩)
     rw [← hset blankC (by rw [hu, if_neg hi2]), ← cells_set]
     simp [e1]
     rw [show ((K : Int) + x).toNat = K + x by omega]
     rfl
   ·simp at hc
    have : x = c := by omega
    subst this
    refine dfit (by simp; omega) (by simp; omega) (dagain rfl ⟨k + 1, ?_, ⟨by omega, by omega⟩, by omega⟩)
    simp [Nat.add_mul]
  ·simp at h
   have : k = b + 1 := by omega
   subst this
   exact dret rfl
theorem down_sp (l : List Cl) (cols top bottom n : Int) (hl : l.length ≤ 1099511627776) : Spn n_r7_Down sg_r7_Down [cellsD l, .I cols, .I top, .I bottom, .I n] [cellsD (downL l cols top bottom n)] := by
 refine rd_r7_Down rfl (dcall (own_sp l hl) rfl rfl rfl ?_)
 unfold downL
 cases hg : gOk l.length cols with
 | false => exact dcall (grid_no hg hl) rfl rfl rfl (dfalse rfl (dret (by simp)))
 | true =>
  obtain ⟨r, c, rfl, hG⟩ := gOk_of hg
  have g2 := hG.c2
  have g4 := hG.r2
  rw [hG.quo.1]
  refine dcall (grid_yes hG) rfl rfl rfl (dtrue rfl (dlt (fun h => ?_) fun h1 => dle (fun h => ?_) fun h2 => dlt (fun h => ?_) fun h3 => ?_))
  ·simp at h; rw [if_neg (by omega)]; exact dret rfl
  ·simp at h; rw [if_neg (by omega)]; exact dret rfl
  ·simp at h; rw [if_neg (by omega)]; exact dret rfl
  simp at h1 h2 h3
  rw [if_pos ⟨rfl, h1, h2, h3⟩]
  obtain ⟨t, rfl⟩ : ∃ t : Nat, top = t := ⟨top.toNat, by omega⟩
  obtain ⟨b, rfl⟩ : ∃ b : Nat, bottom = b := ⟨bottom.toNat, by omega⟩
  simp only [Int.toNat_natCast]
  have hcap : capN n ≤ 1000 := by have := capN_eq n; omega
  refine dloop (fun k : Nat => [cellsD (fillL l (downF l c t (capN n)) (t * c) (k * c)), .I k]) (fun k => t ≤ k ∧ k ≤ b + 1) (fun k => b + 1 - k) t (by rw [fillL_none _ _ _ _ (Nat.le_refl _)]; rfl) ⟨Nat.le_refl _, by omega⟩ fun k hk _ => ?_
  refine dle (fun h => ?_) fun h => ?_
  ·simp at h
   refine dloop (fun x : Nat => [cellsD (fillL l (downF l c t (capN n)) (t * c) (k * c + x)), .I x]) (fun x => x ≤ c) (fun x => c - x) 0 rfl (Nat.zero_le _) fun x hx _ => ?_
   refine dlt (fun hc => ?_) fun hc => ?_
   ·simp at hc
    have hin := rc_lt (r := r) (c := c) (y := k) (x := x) (by omega) hc
    have hrl := rc_le hG.r2 hG.c2
    have hlen := hG.n
    have htk : t * c ≤ k * c := Nat.mul_le_mul_right _ hk.1
    have hd := rc_div k c x hc
    have hu : downF l c t (capN n) (k * c + x) = if t + capN n ≤ k then getC l (k * c + x - capN n * c) else blankC := by unfold downF; rw [hd.1]
    have hin2 : t + capN n ≤ k → capN n * c ≤ k * c := fun hi => Nat.mul_le_mul_right _ (by omega)
    have e1 : (k : Int) * (c : Int) = ((k * c : Nat) : Int) := by push_cast; rfl
    have e2 : ((k : Int) - (capN n : Int)) * (c : Int) = ((k * c : Nat) : Int) - ((capN n * c : Nat) : Int) := by rw [Int.sub_mul]; push_cast; rfl
    generalize k * c = K at *
    generalize capN n * c = Nc at *
    have hset : ∀ d, d = downF l c t (capN n) (K + x) → (fillL l (downF l c t (capN n)) (t * c) (K + x)).set (K + x) d = fillL l (downF l c t (capN n)) (t * c) (K + (x + 1)) := fun d hd => fillL_set _ _ _ _ _ (by omega) hd
    refine dcall blank_sp rfl rfl rfl (dfit (by simp [cap_den]; omega) (by simp [cap_den]; omega) (dle (fun hi => ?_) fun hi => ?_))
    ·simp [cap_den] at hi
     have hi2 : t + capN n ≤ k := by omega
     have := hin2 hi2
     refine dfit (by simp [cap_den, e1, e2, cells_len, fillL_len] <;> omega) (by simp [cap_den, e1, e2, cells_len, fillL_len] <;> omega) ?_
     refine dfit (by simp [cap_den, e1, e2, cells_len, fillL_len] <;> omega) (by simp [cap_den, e1, e2, cells_len, fillL_len] <;> omega) ?_
     refine dwithin (by simp [cap_den, e1, e2, cells_len, fillL_len] <;> omega) (by simp [cap_den, e1, e2, cells_len, fillL_len] <;> omega) ?_
     refine dfit (by simp [cap_den, e1, e2, cells_len, fillL_len] <;> omega) (by simp [cap_den, e1, e2, cells_len, fillL_len] <;> omega) ?_
     refine dfit (by simp [cap_den, e1, e2, cells_len, fillL_len] <;> omega) (by simp [cap_den, e1, e2, cells_len, fillL_len] <;> omega) ?_
     refine dwithin (by simp [cap_den, e1, e2, cells_len, fillL_len] <;> omega) (by simp [cap_den, e1, e2, cells_len, fillL_len] <;> omega) ?_
     refine dfit (by simp [cap_den, e1, e2, cells_len, fillL_len] <;> omega) (by simp [cap_den, e1, e2, cells_len, fillL_len] <;> omega) (dagain rfl ⟨x + 1, ?_, by omega, by omega⟩)
     rw [← hset (getC l (K + x - Nc)) (by rw [hu, if_pos hi2]), ← cells_set]
     simp [cap_den, e1, e2]
     rw [show ((K : Int) - Nc + x).toNat = K + x - Nc by omega, show ((K : Int) + x).toNat = K + x by omega, cellRow (by omega)]
    ·simp [cap_den] at hi
     have hi2 : ¬ t + capN n ≤ k := by omega
     refine dfit (by simp [cap_den, e1, e2, cells_len, fillL_len] <;> omega) (by simp [cap_den, e1, e2, cells_len, fillL_len] <;> omega) ?_
     refine dfit (by simp [cap_den, e1, e2, cells_len, fillL_len] <;> omega) (by simp [cap_den, e1, e2, cells_len, fillL_len] <;> omega) ?_
     refine dwithin (by simp [cap_den, e1, e2, cells_len, fillL_len] <;> omega) (by simp [cap_den, e1, e2, cells_len, fillL_len] <;> omega) ?_
     refine dfit (by simp [cap_den, e1, e2, cells_len, fillL_len] <;> omega) (by simp [cap_den, e1, e2, cells_len, fillL_len] <;> omega) (dagain rfl ⟨x + 1, ?_, by omega, by omega⟩)
     rw [← hset blankC (by rw [hu, if_neg hi2]), ← cells_set]
     simp [e1]
     rw [show ((K : Int) + x).toNat = K + x by omega]
     rfl
   ·simp at hc
    have : x = c := by omega
    subst this
    refine dfit (by simp; omega) (by simp; omega) (dagain rfl ⟨k + 1, ?_, ⟨by omega, by omega⟩, by omega⟩)
    simp [Nat.add_mul]
  ·simp at h
   have : k = b + 1 := by omega
   subst this
   exact dret rfl
theorem mend_sp (l : List Cl) (cols y : Int) (hl : l.length ≤ 1099511627776) : Spn n_r7_Mend sg_r7_Mend [cellsD l, .I cols, .I y] [cellsD (mendL l cols y)] := by
 refine rd_r7_Mend rfl (dcall (own_sp l hl) rfl rfl rfl ?_)
 unfold mendL
 cases hg : gPlace l.length cols y 0 with
 | false => exact dcall (place_no hg hl) rfl rfl rfl (dfalse rfl (dret (by simp)))
 | true =>
  obtain ⟨r, c, yy, xx, rfl, rfl, hx0, hG, hy, -⟩ := gPlace_of hg
  have g2 := hG.c2
  have g4 := hG.r2
  refine dcall (place_yes hG (by omega) (by omega) (by omega) (by omega)) rfl rfl rfl (dtrue rfl ?_)
  simp only [Int.toNat_natCast, if_true]
  refine dloop (fun x : Nat => [cellsD (fillL l (mendF l c) (yy * c) (yy * c + x)), .I x]) (fun x => x ≤ c) (fun x => c - x) 0 (by rw [Nat.add_zero, fillL_none _ _ _ _ (Nat.le_refl _)]; rfl) (Nat.zero_le _) fun x hx _ => ?_
  refine dlt (fun hc => ?_) fun hc => ?_
  ·simp at hc
   have hin := rc_lt (r := r) (c := c) (y := yy) (x := x) hy hc
   have hin2 : x + 1 < c → yy * c + (x + 1) < r * c := fun h => rc_lt hy h
   have hrl := rc_le hG.r2 hG.c2
   have hlen := hG.n
   have hd := rc_div yy c x hc
   have hu : mendF l c (yy * c + x) = if badH l c (yy * c + x) x = true then blankC else getC l (yy * c + x) := by unfold mendF; rw [hd.2]
   have e1 : (yy : Int) * (c : Int) = ((yy * c : Nat) : Int) := by push_cast; rfl
   generalize yy * c = K at *
   have bad : badH l c (K + x) x = true → (fillL l (mendF l c) K (K + x)).set (K + x) blankC = fillL l (mendF l c) K (K + (x + 1)) := fun hb => fillL_set _ _ _ _ _ (by omega) (by rw [hu, if_pos hb])
   have good : ¬ badH l c (K + x) x = true → fillL l (mendF l c) K (K + x) = fillL l (mendF l c) K (K + (x + 1)) := fun hb => fillL_skip _ _ _ _ (by rw [hu, if_neg hb]; exact getC_of (by omega))
   unfold badH at bad good
   have i1 : ((K : Int) + x).toNat = K + x := by omega
   have i2 : ((K : Int) + x + 1).toNat = K + x + 1 := by omega
   refine dfit (by simp [e1, cells_len, fillL_len] <;> omega) (by simp [e1, cells_len, fillL_len] <;> omega) ?_
   refine dfit (by simp [e1, cells_len, fillL_len] <;> omega) (by simp [e1, cells_len, fillL_len] <;> omega) ?_
   refine dwithin (by simp [e1, cells_len, fillL_len] <;> omega) (by simp [e1, cells_len, fillL_len] <;> omega) ?_
   refine deq (fun h1 => ?_) fun h1 => ?_
   ·simp [e1, i1] at h1
    rw [cellH (by omega)] at h1
    refine dfit (by simp [e1, cells_len, fillL_len] <;> omega) (by simp [e1, cells_len, fillL_len] <;> omega) ?_
    refine deq (fun h2 => ?_) fun h2 => ?_
    ·simp at h2
     refine dcall blank_sp rfl rfl rfl ?_
     refine nlt (by simp [e1, cells_len, fillL_len] <;> omega) ?_
     refine dfit (by simp [e1, cells_len, fillL_len] <;> omega) (by simp [e1, cells_len, fillL_len] <;> omega) (dagain rfl ⟨x + 1, ?_, by omega, by omega⟩)
     rw [← bad (by simp; omega), ← cells_set]
     simp [e1, i1]
     rfl
    ·simp at h2
     have := hin2 (by omega)
     refine dfit (by simp [e1, cells_len, fillL_len] <;> omega) (by simp [e1, cells_len, fillL_len] <;> omega) ?_
     refine dwithin (by simp [e1, cells_len, fillL_len] <;> omega) (by simp [e1, cells_len, fillL_len] <;> omega) ?_
     refine deq (fun h3 => ?_) fun h3 => ?_
     ·simp [e1, i2] at h3
      rw [cellH (by omega)] at h3
      refine dfit (by simp [e1, cells_len, fillL_len] <;> omega) (by simp [e1, cells_len, fillL_len] <;> omega) (dagain rfl ⟨x + 1, ?_, by omega, by omega⟩)
      rw [← good (by simp; omega)]
      simp
     ·simp [e1, i2] at h3
      rw [cellH (by omega)] at h3
      refine dcall blank_sp rfl rfl rfl ?_
      refine nlt (by simp [e1, cells_len, fillL_len] <;> omega) ?_
      refine dfit (by simp [e1, cells_len, fillL_len] <;> omega) (by simp [e1, cells_len, fillL_len] <;> omega) (dagain rfl ⟨x + 1, ?_, by omega, by omega⟩)
      rw [← bad (by simp; omega), ← cells_set]
      simp [e1, i1]
      rfl
   ·simp [e1, i1] at h1
    rw [cellH (by omega)] at h1
    refine deq (fun h2 => ?_) fun h2 => ?_
    ·simp [e1, i1] at h2
     rw [cellH (by omega)] at h2
     refine deq (fun h3 => ?_) fun h3 => ?_
     ·simp at h3
      refine dcall blank_sp rfl rfl rfl ?_
      refine nlt (by simp [e1, cells_len, fillL_len] <;> omega) ?_
      refine dfit (by simp [e1, cells_len, fillL_len] <;> omega) (by simp [e1, cells_len, fillL_len] <;> omega) (dagain rfl ⟨x + 1, ?_, by omega, by omega⟩)
      rw [← bad (by simp; omega), ← cells_set]
      simp [e1, i1]
      rfl
     ·simp at h3
      have i3 : ((K : Int) + x - 1).toNat = K + x - 1 := by omega
      refine dfit (by simp [e1, cells_len, fillL_len] <;> omega) (by simp [e1, cells_len, fillL_len] <;> omega) ?_
      refine dwithin (by simp [e1, cells_len, fillL_len] <;> omega) (by simp [e1, cells_len, fillL_len] <;> omega) ?_
      refine deq (fun h4 => ?_) fun h4 => ?_
      ·simp [e1, i3] at h4
       rw [cellH (by omega)] at h4
       refine dfit (by simp [e1, cells_len, fillL_len] <;> omega) (by simp [e1, cells_len, fillL_len] <;> omega) (dagain rfl ⟨x + 1, ?_, by omega, by omega⟩)
       rw [← good (by simp; omega)]
       simp
      ·simp [e1, i3] at h4
       rw [cellH (by omega)] at h4
       refine dcall blank_sp rfl rfl rfl ?_
       refine nlt (by simp [e1, cells_len, fillL_len] <;> omega) ?_
       refine dfit (by simp [e1, cells_len, fillL_len] <;> omega) (by simp [e1, cells_len, fillL_len] <;> omega) (dagain rfl ⟨x + 1, ?_, by omega, by omega⟩)
       rw [← bad (by simp; omega), ← cells_set]
       simp [e1, i1]
       rfl
    ·simp [e1, i1] at h2
     rw [cellH (by omega)] at h2
     refine dfit (by simp [e1, cells_len, fillL_len] <;> omega) (by simp [e1, cells_len, fillL_len] <;> omega) (dagain rfl ⟨x + 1, ?_, by omega, by omega⟩)
     rw [← good (by simp; omega)]
     simp
  ·simp at hc
   have : x = c := by omega
   subst this
   exact dret rfl
theorem insert_sp (l : List Cl) (cols y x n : Int) (hl : l.length ≤ 1099511627776) : Spn n_r7_Insert sg_r7_Insert [cellsD l, .I cols, .I y, .I x, .I n] [cellsD (insertL l cols y x n)] := by
 refine rd_r7_Insert rfl (dcall (own_sp l hl) rfl rfl rfl ?_)
 unfold insertL
 cases hg : gPlace l.length cols y x with
 | false => exact dcall (place_no hg hl) rfl rfl rfl (dfalse rfl (dret (by simp)))
 | true =>
  obtain ⟨r, c, yy, xx, rfl, rfl, rfl, hG, hy, hxx⟩ := gPlace_of hg
  have g2 := hG.c2
  have g4 := hG.r2
  refine dcall (place_yes hG (by omega) (by omega) (by omega) (by omega)) rfl rfl rfl (dtrue rfl ?_)
  simp only [Int.toNat_natCast, if_true]
  have hcap : capN n ≤ 1000 := by have := capN_eq n; omega
  refine dloop (fun k : Nat => [cellsD (fillL l (insF l (yy * c + xx) (capN n)) (yy * c + xx) (yy * c + k)), .I k]) (fun k => xx ≤ k ∧ k ≤ c) (fun k => c - k) xx (by rw [fillL_none _ _ _ _ (Nat.le_refl _)]; rfl) ⟨Nat.le_refl _, hxx⟩ fun k hk _ => ?_
  refine dlt (fun hc => ?_) fun hc => ?_
  ·simp at hc
   have hin := rc_lt (r := r) (c := c) (y := yy) (x := k) hy hc
   have hrl := rc_le hG.r2 hG.c2
   have hlen := hG.n
   have e1 : (yy : Int) * (c : Int) = ((yy * c : Nat) : Int) := by push_cast; rfl
   generalize yy * c = K at *
   have hset : ∀ d, d = insF l (K + xx) (capN n) (K + k) → (fillL l (insF l (K + xx) (capN n)) (K + xx) (K + k)).set (K + k) d = fillL l (insF l (K + xx) (capN n)) (K + xx) (K + (k + 1)) := fun d hd => fillL_set _ _ _ _ _ (by omega) hd
   have hu : insF l (K + xx) (capN n) (K + k) = if K + xx + capN n ≤ K + k then getC l (K + k - capN n) else blankC := rfl
   refine dcall blank_sp rfl rfl rfl (dfit (by simp [cap_den, e1, cells_len, fillL_len] <;> omega) (by simp [cap_den, e1, cells_len, fillL_len] <;> omega) (dle (fun hi => ?_) fun hi => ?_))
   ·simp [cap_den] at hi
    refine dfit (by simp [cap_den, e1, cells_len, fillL_len] <;> omega) (by simp [cap_den, e1, cells_len, fillL_len] <;> omega) ?_
    refine dfit (by simp [cap_den, e1, cells_len, fillL_len] <;> omega) (by simp [cap_den, e1, cells_len, fillL_len] <;> omega) ?_
    refine dfit (by simp [cap_den, e1, cells_len, fillL_len] <;> omega) (by simp [cap_den, e1, cells_len, fillL_len] <;> omega) ?_
    refine dwithin (by simp [cap_den, e1, cells_len, fillL_len] <;> omega) (by simp [cap_den, e1, cells_len, fillL_len] <;> omega) ?_
    refine dwithin (by simp [cap_den, e1, cells_len, fillL_len] <;> omega) (by simp [cap_den, e1, cells_len, fillL_len] <;> omega) ?_
    refine dfit (by simp [cap_den, e1, cells_len, fillL_len] <;> omega) (by simp [cap_den, e1, cells_len, fillL_len] <;> omega) (dagain rfl ⟨k + 1, ?_, by omega, by omega⟩)
    rw [← hset (getC l (K + k - capN n)) (by rw [hu, if_pos (by omega)]), ← cells_set]
    simp [cap_den, e1]
    rw [show ((K : Int) + k).toNat = K + k by omega, cellRow (by omega)]
   ·simp [cap_den] at hi
    refine dfit (by simp [cap_den, e1, cells_len, fillL_len] <;> omega) (by simp [cap_den, e1, cells_len, fillL_len] <;> omega) ?_
    refine dfit (by simp [cap_den, e1, cells_len, fillL_len] <;> omega) (by simp [cap_den, e1, cells_len, fillL_len] <;> omega) ?_
    refine dwithin (by simp [cap_den, e1, cells_len, fillL_len] <;> omega) (by simp [cap_den, e1, cells_len, fillL_len] <;> omega) ?_
    refine dfit (by simp [cap_den, e1, cells_len, fillL_len] <;> omega) (by simp [cap_den, e1, cells_len, fillL_len] <;> omega) (dagain rfl ⟨k + 1, ?_, by omega, by omega⟩)
    rw [← hset blankC (by rw [hu, if_neg (by omega)]), ← cells_set]
    simp [e1]
    rw [show ((K : Int) + k).toNat = K + k by omega]
    rfl
  ·simp at hc
   have : k = c := by omega
   subst this
   exact dcall (mend_sp _ _ _ (by rw [fillL_len]; exact hl)) rfl rfl rfl (dret rfl)
theorem delete_sp (l : List Cl) (cols y x n : Int) (hl : l.length ≤ 1099511627776) : Spn n_r7_Delete sg_r7_Delete [cellsD l, .I cols, .I y, .I x, .I n] [cellsD (deleteL l cols y x n)] := by
 refine rd_r7_Delete rfl (dcall (own_sp l hl) rfl rfl rfl ?_)
 unfold deleteL
 cases hg : gPlace l.length cols y x with
 | false => exact dcall (place_no hg hl) rfl rfl rfl (dfalse rfl (dret (by simp)))
 | true =>
  obtain ⟨r, c, yy, xx, rfl, rfl, rfl, hG, hy, hxx⟩ := gPlace_of hg
  have g2 := hG.c2
  have g4 := hG.r2
  refine dcall (place_yes hG (by omega) (by omega) (by omega) (by omega)) rfl rfl rfl (dtrue rfl ?_)
  simp only [Int.toNat_natCast, if_true]
  have hcap : capN n ≤ 1000 := by have := capN_eq n; omega
  refine dloop (fun k : Nat => [cellsD (fillL l (delF l (yy * c + c) (capN n)) (yy * c + xx) (yy * c + k)), .I k]) (fun k => xx ≤ k ∧ k ≤ c) (fun k => c - k) xx (by rw [fillL_none _ _ _ _ (Nat.le_refl _)]; rfl) ⟨Nat.le_refl _, hxx⟩ fun k hk _ => ?_
  refine dlt (fun hc => ?_) fun hc => ?_
  ·simp at hc
   have hin := rc_lt (r := r) (c := c) (y := yy) (x := k) hy hc
   have hin2 : k + capN n < c → yy * c + (k + capN n) < r * c := fun h => rc_lt hy h
   have hrl := rc_le hG.r2 hG.c2
   have hlen := hG.n
   have e1 : (yy : Int) * (c : Int) = ((yy * c : Nat) : Int) := by push_cast; rfl
   generalize yy * c = K at *
   have hset : ∀ d, d = delF l (K + c) (capN n) (K + k) → (fillL l (delF l (K + c) (capN n)) (K + xx) (K + k)).set (K + k) d = fillL l (delF l (K + c) (capN n)) (K + xx) (K + (k + 1)) := fun d hd => fillL_set _ _ _ _ _ (by omega) hd
   have hu : delF l (K + c) (capN n) (K + k) = if K + k + capN n < K + c then getC l (K + k + capN n) else blankC := rfl
   refine dcall blank_sp rfl rfl rfl (dfit (by simp [cap_den, e1, cells_len, fillL_len] <;> omega) (by simp [cap_den, e1, cells_len, fillL_len] <;> omega) (dlt (fun hi => ?_) fun hi => ?_))
   ·simp [cap_den] at hi
    have := hin2 (by omega)
    refine dfit (by simp [cap_den, e1, cells_len, fillL_len] <;> omega) (by simp [cap_den, e1, cells_len, fillL_len] <;> omega) ?_
    refine dfit (by simp [cap_den, e1, cells_len, fillL_len] <;> omega) (by simp [cap_den, e1, cells_len, fillL_len] <;> omega) ?_
    refine dfit (by simp [cap_den, e1, cells_len, fillL_len] <;> omega) (by simp [cap_den, e1, cells_len, fillL_len] <;> omega) ?_
    refine dwithin (by simp [cap_den, e1, cells_len, fillL_len] <;> omega) (by simp [cap_den, e1, cells_len, fillL_len] <;> omega) ?_
    refine dwithin (by simp [cap_den, e1, cells_len, fillL_len] <;> omega) (by simp [cap_den, e1, cells_len, fillL_len] <;> omega) ?_
    refine dfit (by simp [cap_den, e1, cells_len, fillL_len] <;> omega) (by simp [cap_den, e1, cells_len, fillL_len] <;> omega) (dagain rfl ⟨k + 1, ?_, by omega, by omega⟩)
    rw [← hset (getC l (K + k + capN n)) (by rw [hu, if_pos (by omega)]), ← cells_set]
    simp [cap_den, e1]
    rw [show ((K : Int) + k + capN n).toNat = K + k + capN n by omega, show ((K : Int) + k).toNat = K + k by omega, cellRow (by omega)]
   ·simp [cap_den] at hi
    refine dfit (by simp [cap_den, e1, cells_len, fillL_len] <;> omega) (by simp [cap_den, e1, cells_len, fillL_len] <;> omega) ?_
    refine dfit (by simp [cap_den, e1, cells_len, fillL_len] <;> omega) (by simp [cap_den, e1, cells_len, fillL_len] <;> omega) ?_
    refine dwithin (by simp [cap_den, e1, cells_len, fillL_len] <;> omega) (by simp [cap_den, e1, cells_len, fillL_len] <;> omega) ?_
    refine dfit (by simp [cap_den, e1, cells_len, fillL_len] <;> omega) (by simp [cap_den, e1, cells_len, fillL_len] <;> omega) (dagain rfl ⟨k + 1, ?_, by omega, by omega⟩)
    rw [← hset blankC (by rw [hu, if_neg (by omega)]), ← cells_set]
    simp [e1]
    rw [show ((K : Int) + k).toNat = K + k by omega]
    rfl
  ·simp at hc
   have : k = c := by omega
   subst this
   exact dcall (mend_sp _ _ _ (by rw [fillL_len]; exact hl)) rfl rfl rfl (dret rfl)
theorem capC_eq (n : Int) (c : Nat) : (capC n c : Int) = min (max n 0) c := by unfold capC; omega
theorem capc_den (n : Int) (c : Nat) : (if (c : Int) < (if 0 > n then 0 else n) then (c : Int) else (if 0 > n then 0 else n)) = (capC n c : Int) := by
 rw [capC_eq]; split <;> split <;> omega
theorem erase_sp (l : List Cl) (cols y fr til : Int) (hl : l.length ≤ 1099511627776) : Spn n_r7_Erase sg_r7_Erase [cellsD l, .I cols, .I y, .I fr, .I til] [cellsD (eraseL l cols y fr til)] := by
 refine rd_r7_Erase rfl (dcall (own_sp l hl) rfl rfl rfl ?_)
 unfold eraseL
 cases hg : gPlace l.length cols y 0 with
 | false => exact dcall (place_no hg hl) rfl rfl rfl (dfalse rfl (dret (by simp)))
 | true =>
  obtain ⟨r, c, yy, xx, rfl, rfl, hx0, hG, hy, -⟩ := gPlace_of hg
  have g2 := hG.c2
  have g4 := hG.r2
  refine dcall (place_yes hG (by omega) (by omega) (by omega) (by omega)) rfl rfl rfl (dtrue rfl ?_)
  simp only [Int.toNat_natCast, if_true]
  have c1 : capC fr c ≤ c := by have := capC_eq fr c; omega
  have c2 : capC til c ≤ c := by have := capC_eq til c; omega
  refine dloop (fun k : Nat => [cellsD (fillL l (fun _ => blankC) (yy * c + capC fr c) (yy * c + k)), .I k]) (fun k => capC fr c ≤ k ∧ k ≤ c ∧ (k ≤ capC til c ∨ k = capC fr c)) (fun k => c - k) (capC fr c) (by rw [fillL_none _ _ _ _ (Nat.le_refl _)]; simp [capc_den]) ⟨Nat.le_refl _, c1, .inr rfl⟩ fun k hk _ => ?_
  refine dlt (fun hc => ?_) fun hc => ?_
  ·simp [capc_den] at hc
   have hin := rc_lt (r := r) (c := c) (y := yy) (x := k) hy (by omega)
   have hrl := rc_le hG.r2 hG.c2
   have hlen := hG.n
   have e1 : (yy : Int) * (c : Int) = ((yy * c : Nat) : Int) := by push_cast; rfl
   generalize yy * c = K at *
   have hset : (fillL l (fun _ => blankC) (K + capC fr c) (K + k)).set (K + k) blankC = fillL l (fun _ => blankC) (K + capC fr c) (K + (k + 1)) := fillL_set _ _ _ _ _ (by omega) rfl
   refine dfit (by simp [cap_den, e1, cells_len, fillL_len] <;> omega) (by simp [cap_den, e1, cells_len, fillL_len] <;> omega) ?_
   refine dfit (by simp [cap_den, e1, cells_len, fillL_len] <;> omega) (by simp [cap_den, e1, cells_len, fillL_len] <;> omega) ?_
   refine dcall blank_sp rfl rfl rfl ?_
   refine dwithin (by simp [cap_den, e1, cells_len, fillL_len] <;> omega) (by simp [cap_den, e1, cells_len, fillL_len] <;> omega) ?_
   refine dfit (by simp [cap_den, e1, cells_len, fillL_len] <;> omega) (by simp [cap_den, e1, cells_len, fillL_len] <;> omega) (dagain rfl ⟨k + 1, ?_, ⟨by omega, by omega, by omega⟩, by omega⟩)
   rw [← hset, ← cells_set]
   simp [e1]
   rw [show ((K : Int) + k).toNat = K + k by omega]
   rfl
  ·simp [capc_den] at hc
   refine dcall (mend_sp _ _ _ (by rw [fillL_len]; exact hl)) rfl rfl rfl (dret ?_)
   rcases hk.2.2 with h | h
   ·have : k = capC til c := by omega
    rw [this]; rfl
   ·rw [h]
    rw [fillL_none _ _ _ _ (Nat.le_refl _), fillL_none _ _ _ _ (by omega)]; rfl
theorem Blank_sp (rows cols : Int) : Spn n_r7_Blank sg_r7_Blank [.I rows, .I cols] [cellsD (blankL rows cols)] := by
 unfold blankL sizeOk
 refine rd_r7_Blank rfl (dlt (fun h => dret ?_) fun h1 => dlt (fun h => dret ?_) fun h2 => dlt (fun h => dret ?_) fun h3 => dlt (fun h => dret ?_) fun h4 => ?_)
 ·simp at h; rw [if_neg (by simp; omega)]; rfl
 ·simp at h; rw [if_neg (by simp; omega)]; rfl
 ·simp at h; rw [if_neg (by simp; omega)]; rfl
 ·simp at h; rw [if_neg (by simp; omega)]; rfl
 ·simp at h1 h2 h3 h4
  rw [if_pos (by simp; omega)]
  obtain ⟨r, rfl⟩ : ∃ r : Nat, rows = r := ⟨rows.toNat, by omega⟩
  obtain ⟨c, rfl⟩ : ∃ c : Nat, cols = c := ⟨cols.toNat, by omega⟩
  have hrl := rc_le (r := r) (c := c) (by omega) (by omega)
  have e1 : (r : Int) * (c : Int) = ((r * c : Nat) : Int) := by push_cast; rfl
  simp only [Int.toNat_natCast]
  generalize r * c = K at *
  refine dfit (by simp [e1] <;> omega) (by simp [e1] <;> omega) (dneed (by simp [e1] <;> omega) ?_)
  refine dloop (fun k : Nat => [cellsD (List.replicate k blankC ++ List.replicate (K - k) ⟨0, 0, 0⟩), .I k]) (fun k => k ≤ K) (fun k => K - k) 0 (by simp [e1, cellsD, clD]) (Nat.zero_le _) fun k hk _ => ?_
  refine dlt (fun hc => ?_) fun hc => ?_
  ·simp [cells_len] at hc
   refine dcall blank_sp rfl rfl rfl ?_
   refine nle (by simp) ?_
   refine dfit (by simp <;> omega) (by simp <;> omega) (dagain rfl ⟨k + 1, ?_, by omega, by omega⟩)
   have : (List.replicate k blankC ++ List.replicate (K - k) (⟨0, 0, 0⟩ : Cl)).set k blankC = List.replicate (k + 1) blankC ++ List.replicate (K - (k + 1)) ⟨0, 0, 0⟩ := by
    obtain ⟨m, hm⟩ : ∃ m, K - k = m + 1 := ⟨K - k - 1, by omega⟩
    rw [hm, show K - (k + 1) = m by omega, List.replicate_succ, List.set_append_right _ _ (by simp), List.length_replicate, Nat.sub_self, List.set_cons_zero, List.replicate_succ', List.append_assoc]
    rfl
   rw [← this, ← cells_set]
   simp
   rfl
  ·simp [cells_len] at hc
   have : k = K := by omega
   subst this
   exact dret (by simp)
end
def mayR (r : Int) : Bool := decide (0 ≤ r) && decide (r ≤ 1114111) && (decide (r < 55296) || decide (57343 < r))
def contB (b : UInt8) : Bool := decide (128 ≤ b.toNat) && decide (b.toNat < 192)
def loB (a : Nat) : Nat := if a = 224 then 160 else if a = 240 then 144 else 128
def hiB (a : Nat) : Nat := if a = 237 then 159 else if a = 244 then 143 else 191
theorem hiB_le (a : Nat) : hiB a ≤ 191 := by
 unfold hiB
 split
 ·omega
 ·split <;> omega
def secB (a b : UInt8) : Bool := decide (loB a.toNat ≤ b.toNat) && decide (b.toNat ≤ hiB a.toNat)
theorem secB_iff (a b : UInt8) : secB a b = true ↔ loB a.toNat ≤ b.toNat ∧ b.toNat ≤ hiB a.toNat := by simp [secB]
def beginsL : List UInt8 → Bool
 | [a] => decide (194 ≤ a.toNat) && decide (a.toNat ≤ 244)
 | [a, b] => decide (224 ≤ a.toNat) && decide (a.toNat ≤ 244) && secB a b
 | [a, b, c] => decide (240 ≤ a.toNat) && decide (a.toNat ≤ 244) && secB a b && contB c
 | _ => false
def wholeL : List UInt8 → Option Nat
 | [a] => if a.toNat < 128 then some a.toNat else none
 | [a, b] => if (decide (194 ≤ a.toNat) && decide (a.toNat < 224) && contB b) = true then some ((a.toNat - 192) * 64 + (b.toNat - 128)) else none
 | [a, b, c] => if (decide (224 ≤ a.toNat) && decide (a.toNat < 240) && secB a b && contB c) = true then some ((a.toNat - 224) * 4096 + (b.toNat - 128) * 64 + (c.toNat - 128)) else none
 | [a, b, c, d] => if (decide (240 ≤ a.toNat) && decide (a.toNat ≤ 244) && secB a b && contB c && contB d) = true then some ((a.toNat - 240) * 262144 + (b.toNat - 128) * 4096 + (c.toNat - 128) * 64 + (d.toNat - 128)) else none
 | _ => none
def firstL (b : UInt8) (out : List Nat) : List UInt8 × List Nat :=
 if b.toNat < 128 then ([], out ++ [b.toNat]) else if beginsL [b] then ([b], out) else ([], out ++ [65533])
def stepL (p : List UInt8) (b : UInt8) : List UInt8 × List Nat :=
 if beginsL p = true then
  match wholeL (p ++ [b]) with
  | some r => ([], [r])
  | none => if beginsL (p ++ [b]) then (p ++ [b], []) else firstL b [65533]
 else firstL b []
theorem beginsL_len (p : List UInt8) (h : beginsL p = true) : 1 ≤ p.length ∧ p.length ≤ 3 := by
 match p, h with
 | [a], _ => simp
 | [a, b], _ => simp
 | [a, b, c], _ => simp
theorem firstL_pend (b : UInt8) (o : List Nat) : (firstL b o).1 = [] ∨ beginsL (firstL b o).1 = true := by
 unfold firstL
 split
 ·exact .inl rfl
 ·split
  ·exact .inr (by assumption)
  ·exact .inl rfl
theorem stepL_pend (p : List UInt8) (b : UInt8) : (stepL p b).1 = [] ∨ beginsL (stepL p b).1 = true := by
 unfold stepL
 split
 ·split
  ·exact .inl rfl
  ·split
   ·exact .inr (by assumption)
   ·exact firstL_pend _ _
 ·exact firstL_pend _ _
theorem firstL_len (b : UInt8) (o : List Nat) : (firstL b o).1.length ≤ 1 ∧ (firstL b o).2.length ≤ o.length + 1 := by
 unfold firstL
 split
 ·simp
 ·split <;> simp
theorem stepL_len (p : List UInt8) (b : UInt8) : (stepL p b).1.length ≤ 3 ∧ (stepL p b).2.length ≤ 2 := by
 unfold stepL
 split
 ·split
  ·simp
  ·split
   ·rename_i h
    have := beginsL_len _ h
    exact ⟨this.2, by simp⟩
   ·have := firstL_len b [65533]
    simp at this
    omega
 ·have := firstL_len b []
  simp at this
  omega
theorem firstL_lt (b : UInt8) (o : List Nat) (ho : ∀ r ∈ o, r < 1114112) : ∀ r ∈ (firstL b o).2, r < 1114112 := by
 have := b.toNat_lt
 unfold firstL
 split
 ·intro r hr
  rw [List.mem_append, List.mem_singleton] at hr
  rcases hr with hr | hr
  ·exact ho r hr
  ·omega
 ·split
  ·exact ho
  ·intro r hr
   rw [List.mem_append, List.mem_singleton] at hr
   rcases hr with hr | hr
   ·exact ho r hr
   ·omega
theorem wholeL_lt (l : List UInt8) (r : Nat) (h : wholeL l = some r) : r < 1114112 := by
 match l, h with
 | [a], h =>
  have := a.toNat_lt
  simp only [wholeL] at h
  split at h <;> simp at h
  omega
 | [a, b], h =>
  have := a.toNat_lt
  have := b.toNat_lt
  simp only [wholeL] at h
  split at h <;> simp at h
  omega
 | [a, b, c], h =>
  have := a.toNat_lt
  have := b.toNat_lt
  have := c.toNat_lt
  simp only [wholeL] at h
  split at h
  ·rename_i hc
   simp [contB] at hc
   simp at h
   omega
  ·simp at h
 | [a, b, c, d], h =>
  have := b.toNat_lt
  have := c.toNat_lt
  have := d.toNat_lt
  simp only [wholeL] at h
  split at h
  ·rename_i hc
   simp only [Bool.and_eq_true, secB_iff, decide_eq_true_eq, contB] at hc
   simp at h
   have := hiB_le a.toNat
   by_cases h4 : a.toNat = 244
   ·have h5 : hiB a.toNat = 143 := by rw [h4]; rfl
    omega
   ·omega
  ·simp at h
theorem stepL_lt (p : List UInt8) (b : UInt8) : ∀ r ∈ (stepL p b).2, r < 1114112 := by
 unfold stepL
 split
 ·split
  ·rename_i r h
   intro q hq
   simp at hq
   subst hq
   exact wholeL_lt _ _ h
  ·split
   ·simp
   ·exact firstL_lt b _ (by simp)
 ·exact firstL_lt b _ (by simp)
structure Pr where
 mode : Nat
 priv : Nat
 params : List Int
 inter : List UInt8
 utf : List UInt8
structure Ac where
 kind : Nat
 r : Int
 b : Nat
 priv : Nat
 params : List Int
 inter : List UInt8
def prM (m : Nat) : Pr := ⟨m, 0, [], [], []⟩
def acP (r : Int) : Ac := ⟨0, r, 0, 0, [], []⟩
def acC (b : Nat) : Ac := ⟨1, 0, b, 0, [], []⟩
def acE (b : Nat) (i : List UInt8) : Ac := ⟨2, 0, b, 0, [], i⟩
def acS (p : Pr) (b : Nat) : Ac := ⟨3, 0, b, p.priv, p.params, p.inter⟩
def interB (b : UInt8) : Bool := decide (32 ≤ b.toNat) && decide (b.toNat ≤ 47)
def printsL (l : List Nat) : List Ac := l.map fun (r : Nat) => acP (Int.ofNat r)
def oneP (l : List Int) : List Int := if l.length = 0 then [0] else l
def digP (l : List Int) (b : Nat) : List Int := l.set (l.length - 1) (min (10 * l.getD (l.length - 1) 0 + ((b : Int) - 48)) 65535)
def csiL (p : Pr) (b : UInt8) : Pr × List Ac :=
 if 64 ≤ b.toNat then (prM 0, [acS p b.toNat])
 else if interB b = true then (if 2 ≤ p.inter.length then (prM 6, []) else ({ p with mode := 5, inter := p.inter ++ [b] }, []))
 else if p.mode = 5 ∨ b.toNat = 58 then (prM 6, [])
 else if 60 ≤ b.toNat then (if 0 < p.params.length ∨ p.priv ≠ 0 then (prM 6, []) else ({ p with priv := b.toNat }, []))
 else if b.toNat = 59 then (if 16 ≤ (oneP p.params).length then (prM 6, []) else ({ p with params := oneP p.params ++ [0] }, []))
 else ({ p with params := digP (oneP p.params) b.toNat }, [])
def vtM (p : Pr) (b : UInt8) : Pr × List Ac :=
 if p.mode = 1 then
  (if interB b = true then ({ prM 2 with inter := [b] }, [])
   else if b.toNat = 91 then (prM 4, [])
   else if b.toNat = 93 ∨ b.toNat = 80 ∨ b.toNat = 88 ∨ b.toNat = 94 ∨ b.toNat = 95 then (prM 7, [])
   else (prM 0, [acE b.toNat []]))
 else if p.mode = 2 then
  (if interB b = false then (prM 0, [acE b.toNat p.inter])
   else if 2 ≤ p.inter.length then (prM 3, [])
   else ({ prM 2 with inter := p.inter ++ [b] }, []))
 else if p.mode = 3 then (if 48 ≤ b.toNat then (prM 0, []) else (p, []))
 else if p.mode = 6 then (if 64 ≤ b.toNat then (prM 0, []) else (p, []))
 else csiL p b
def vtN (p : Pr) (b : UInt8) : Pr × List Ac :=
 if b.toNat = 24 ∨ b.toNat = 26 then (prM 0, [])
 else if b.toNat = 27 then (prM 1, [])
 else if p.mode = 0 then
  (if b.toNat < 32 then (prM 0, [acC b.toNat])
   else if b.toNat = 127 then (prM 0, [])
   else ({ prM 0 with utf := (stepL [] b).1 }, printsL (stepL [] b).2))
 else if p.mode = 7 then (if b.toNat = 7 then (prM 0, []) else (p, []))
 else if b.toNat < 32 then (p, [acC b.toNat])
 else if b.toNat = 127 then (p, [])
 else if 128 ≤ b.toNat then (prM 0, [])
 else vtM p b
def formedB (p : List UInt8) (b : UInt8) : Bool := p == [239, 191] && b == 189
def goesB (u : List UInt8) (b : UInt8) : Bool :=
 decide (128 ≤ b.toNat) && (decide ((stepL u b).2.length = 0) || decide ((stepL u b).2.getD 0 0 ≠ 65533) || (decide ((stepL u b).2.length = 1) && decide ((stepL u b).1.length = 0) && formedB u b))
def vtL (p : Pr) (b : UInt8) : Pr × List Ac :=
 if p.mode = 0 ∧ 0 < p.utf.length then
  (if goesB p.utf b = true then ({ prM 0 with utf := (stepL p.utf b).1 }, printsL (stepL p.utf b).2)
   else ((vtN { p with utf := [] } b).1, acP 65533 :: (vtN { p with utf := [] } b).2))
 else vtN p b
structure PrOk (p : Pr) : Prop where
 mode : p.mode ≤ 7
 priv : p.priv = 0 ∨ (60 ≤ p.priv ∧ p.priv ≤ 63)
 params : p.params.length ≤ 16
 each : ∀ x ∈ p.params, 0 ≤ x ∧ x ≤ 65535
 inter : p.inter.length ≤ 2
 eachI : ∀ b ∈ p.inter, interB b = true
 utf : p.utf = [] ∨ (p.mode = 0 ∧ beginsL p.utf = true)
 csi : p.mode = 4 ∨ p.mode = 5 ∨ (p.priv = 0 ∧ p.params = [])
 with_ : (p.mode = 2 ∨ p.mode = 5) ↔ 0 < p.inter.length
theorem prM_ok (m : Nat) (h : m ≤ 7) (h2 : m ≠ 2) (h5 : m ≠ 5) : PrOk (prM m) := ⟨h, .inl rfl, by simp [prM], by simp [prM], by simp [prM], by simp [prM], .inl rfl, .inr (.inr ⟨rfl, rfl⟩), by simp [prM]; omega⟩
theorem oneP_len (l : List Int) : 1 ≤ (oneP l).length ∧ ((oneP l).length = l.length ∨ (l.length = 0 ∧ (oneP l).length = 1)) := by
 unfold oneP
 split
 ·rename_i h; simp [h]
 ·rename_i h; exact ⟨by omega, .inl rfl⟩
theorem oneP_each (l : List Int) (h : ∀ x ∈ l, 0 ≤ x ∧ x ≤ 65535) : ∀ x ∈ oneP l, 0 ≤ x ∧ x ≤ 65535 := by
 unfold oneP
 split
 ·simp
 ·exact h
theorem digP_len (l : List Int) (b : Nat) : (digP l b).length = l.length := by simp [digP]
theorem digP_each (l : List Int) (b : Nat) (hb : 48 ≤ b) (hl : 1 ≤ l.length) (h : ∀ x ∈ l, 0 ≤ x ∧ x ≤ 65535) : ∀ x ∈ digP l b, 0 ≤ x ∧ x ≤ 65535 := by
 intro x hx
 unfold digP at hx
 rcases List.mem_or_eq_of_mem_set hx with h1 | h1
 ·exact h x h1
 ·have hlt : l.length - 1 < l.length := by omega
  have hm : 0 ≤ l.getD (l.length - 1) 0 ∧ l.getD (l.length - 1) 0 ≤ 65535 := by
   have := h (l[l.length - 1]) (List.getElem_mem hlt)
   simpa [List.getD, List.getElem?_eq_getElem hlt] using this
  rw [h1]
  omega
theorem csiL_ok (p : Pr) (b : UInt8) (h : PrOk p) (hm : p.mode = 4 ∨ p.mode = 5) (hb : 32 ≤ b.toNat) : PrOk (csiL p b).1 := by
 have hi := h.with_
 unfold csiL
 split
 ·exact prM_ok 0 (by omega) (by omega) (by omega)
 split
 ·rename_i hB
  split
  ·exact prM_ok 6 (by omega) (by omega) (by omega)
  ·rename_i hl
   refine ⟨by show 5 ≤ 7; omega, h.priv, h.params, h.each, by show (p.inter ++ [b]).length ≤ 2; simp; omega, ?_, ?_, .inr (.inl rfl), ?_⟩
   ·intro c hc
    rcases List.mem_append.1 hc with h1 | h1
    ·exact h.eachI c h1
    ·rw [List.mem_singleton.1 h1]; exact hB
   ·rcases h.utf with hu | ⟨hu, _⟩
    ·exact .inl hu
    ·omega
   ·show ((5 : Nat) = 2 ∨ (5 : Nat) = 5) ↔ 0 < (p.inter ++ [b]).length
    simp
 rename_i hnb hB
 split
 ·exact prM_ok 6 (by omega) (by omega) (by omega)
 rename_i hm5
 have hm4 : p.mode = 4 := by omega
 have hu : p.utf = [] := by
  rcases h.utf with hu | ⟨hu, _⟩
  ·exact hu
  ·omega
 split
 ·split
  ·exact prM_ok 6 (by omega) (by omega) (by omega)
  ·rename_i h60 hp
   exact ⟨h.mode, .inr ⟨h60, by show b.toNat ≤ 63; omega⟩, h.params, h.each, h.inter, h.eachI, .inl hu, .inl hm4, h.with_⟩
 rename_i h60
 have hlen := oneP_len p.params
 have hpl := h.params
 split
 ·split
  ·exact prM_ok 6 (by omega) (by omega) (by omega)
  ·rename_i h59 h16
   refine ⟨h.mode, h.priv, by show (oneP p.params ++ [0]).length ≤ 16; simp; omega, ?_, h.inter, h.eachI, .inl hu, .inl hm4, h.with_⟩
   intro x hx
   rcases List.mem_append.1 hx with h1 | h1
   ·exact oneP_each _ h.each x h1
   ·rw [List.mem_singleton.1 h1]; omega
 ·rename_i h59
  have hn : 48 ≤ b.toNat := by
   rcases Nat.lt_or_ge b.toNat 48 with h1 | h1
   ·exact absurd (show interB b = true by simp [interB]; omega) hB
   ·exact h1
  exact ⟨h.mode, h.priv, by show (digP (oneP p.params) b.toNat).length ≤ 16; rw [digP_len]; omega, digP_each _ _ hn hlen.1 (oneP_each _ h.each), h.inter, h.eachI, .inl hu, .inl hm4, h.with_⟩
theorem utf_ok (u : List UInt8) (h : u = [] ∨ beginsL u = true) : PrOk { prM 0 with utf := u } :=
 ⟨by show (0 : Nat) ≤ 7; omega, .inl rfl, by simp [prM], by simp [prM], by simp [prM], by simp [prM], h.elim .inl (fun h => .inr ⟨rfl, h⟩), .inr (.inr ⟨rfl, rfl⟩), by simp [prM]⟩
theorem vtM_ok (p : Pr) (b : UInt8) (h : PrOk p) (h0 : p.mode ≠ 0) (h7 : p.mode ≠ 7) (hb : 32 ≤ b.toNat) : PrOk (vtM p b).1 := by
 have hi := h.with_
 have hmode := h.mode
 unfold vtM
 split
 ·split
  ·rename_i hB
   exact ⟨by show (2 : Nat) ≤ 7; omega, .inl rfl, by simp [prM], by simp [prM], by show [b].length ≤ 2; simp, by intro c hc; rw [List.mem_singleton.1 hc]; exact hB, .inl rfl, .inr (.inr ⟨rfl, rfl⟩), by show ((2 : Nat) = 2 ∨ (2 : Nat) = 5) ↔ 0 < [b].length; simp⟩
  split
  ·exact prM_ok 4 (by omega) (by omega) (by omega)
  split
  ·exact prM_ok 7 (by omega) (by omega) (by omega)
  ·exact prM_ok 0 (by omega) (by omega) (by omega)
 split
 ·split
  ·exact prM_ok 0 (by omega) (by omega) (by omega)
  split
  ·exact prM_ok 3 (by omega) (by omega) (by omega)
  ·rename_i hB hl
   have hB' : interB b = true := by cases hh : interB b <;> simp_all
   refine ⟨by show (2 : Nat) ≤ 7; omega, .inl rfl, by simp [prM], by simp [prM], by show (p.inter ++ [b]).length ≤ 2; simp; omega, ?_, .inl rfl, .inr (.inr ⟨rfl, rfl⟩), by show ((2 : Nat) = 2 ∨ (2 : Nat) = 5) ↔ 0 < (p.inter ++ [b]).length; simp⟩
   intro c hc
   rcases List.mem_append.1 hc with h1 | h1
   ·exact h.eachI c h1
   ·rw [List.mem_singleton.1 h1]; exact hB'
 split
 ·split
  ·exact prM_ok 0 (by omega) (by omega) (by omega)
  ·exact h
 split
 ·split
  ·exact prM_ok 0 (by omega) (by omega) (by omega)
  ·exact h
 ·exact csiL_ok p b h (by omega) (by omega)
theorem vtN_ok (p : Pr) (b : UInt8) (h : PrOk p) : PrOk (vtN p b).1 := by
 have hi := h.with_
 have hmode := h.mode
 unfold vtN
 split
 ·exact prM_ok 0 (by omega) (by omega) (by omega)
 split
 ·exact prM_ok 1 (by omega) (by omega) (by omega)
 split
 ·split
  ·exact prM_ok 0 (by omega) (by omega) (by omega)
  split
  ·exact prM_ok 0 (by omega) (by omega) (by omega)
  ·exact utf_ok _ (stepL_pend [] b)
 split
 ·split
  ·exact prM_ok 0 (by omega) (by omega) (by omega)
  ·exact h
 split
 ·exact h
 split
 ·exact h
 split
 ·exact prM_ok 0 (by omega) (by omega) (by omega)
 ·exact vtM_ok p b h (by omega) (by omega) (by omega)
theorem drop_ok (p : Pr) (h : PrOk p) : PrOk { p with utf := [] } := ⟨h.mode, h.priv, h.params, h.each, h.inter, h.eachI, .inl rfl, h.csi, h.with_⟩
theorem vtL_ok (p : Pr) (b : UInt8) (h : PrOk p) : PrOk (vtL p b).1 := by
 unfold vtL
 split
 ·split
  ·exact utf_ok _ (stepL_pend p.utf b)
  ·exact vtN_ok _ b (drop_ok p h)
 ·exact vtN_ok p b h
theorem lo_other (x : Nat) (h1 : x ≠ 224) (h2 : x ≠ 240) : loB x = 128 := by unfold loB; rw [if_neg h1, if_neg h2]
theorem hi_other (x : Nat) (h1 : x ≠ 237) (h2 : x ≠ 244) : hiB x = 191 := by unfold hiB; rw [if_neg h1, if_neg h2]
theorem beg1_iff (a : UInt8) : beginsL [a] = true ↔ 194 ≤ a.toNat ∧ a.toNat ≤ 244 := by simp [beginsL]
theorem beg2_iff (a b : UInt8) : beginsL [a, b] = true ↔ 224 ≤ a.toNat ∧ a.toNat ≤ 244 ∧ loB a.toNat ≤ b.toNat ∧ b.toNat ≤ hiB a.toNat := by simp [beginsL, secB, and_assoc]
theorem beg3_iff (a b c : UInt8) : beginsL [a, b, c] = true ↔ 240 ≤ a.toNat ∧ a.toNat ≤ 244 ∧ loB a.toNat ≤ b.toNat ∧ b.toNat ≤ hiB a.toNat ∧ contB c = true := by simp [beginsL, secB, and_assoc]
theorem contB_iff (b : UInt8) : contB b = true ↔ 128 ≤ b.toNat ∧ b.toNat < 192 := by simp [contB]
def inB (r a b : Int) : Bool := decide (a ≤ r) && decide (r ≤ b)
def wideT : List Int := [4352, 4447, 11904, 12350, 12353, 13311, 13312, 19903, 19968, 40959, 40960, 42191, 44032, 55203, 63744, 64255, 65072, 65135, 65280, 65376, 65504, 65510, 127744, 128591, 129280, 129535, 131072, 196605, 196608, 262141]
def wideB (r : Int) : Bool := (List.range 15).any fun k => inB r (wideT.getD (2 * k) 0) (wideT.getD (2 * k + 1) 0)
def zeroB (r : Int) : Bool := !mayR r || decide (r < 32) || inB r 127 159 || inB r 768 879 || inB r 8203 8207 || inB r 65024 65039
def widthL (r : Int) : Int := if zeroB r = true then 0 else if wideB r = true then 2 else 1
structure Sc where
 rows : Int
 cols : Int
 cells : List Cl
 y : Int
 x : Int
 wrap : Bool
 attr : Nat
 top : Int
 bottom : Int
 tabs : List Bool
 sy : Int
 sx : Int
 sattr : Nat
 auto : Bool
 shown : Bool
 alt : Bool
 other : List Cl
 oy : Int
 ox : Int
 p : Pr
def newTabs (cols : Nat) : List Bool := (List.range cols).map fun x => decide (x % 8 = 0)
def newS (rows cols : Int) : Sc := ⟨rows, cols, blankL rows cols, 0, 0, false, 0, 0, rows - 1, newTabs cols.toNat, 0, 0, 0, true, true, false, [], 0, 0, prM 0⟩
def downS (s : Sc) : Sc :=
 if s.y = s.bottom then { s with wrap := false, cells := upL s.cells s.cols s.top s.bottom 1 }
 else if s.y < s.rows - 1 then { s with wrap := false, y := s.y + 1 } else { s with wrap := false }
def crS (s : Sc) : Sc := { downS s with x := 0 }
def atS (s : Sc) : Nat := (s.y * s.cols + s.x).toNat
def cells1 (s : Sc) (r : Int) : List Cl := s.cells.set (atS s) ⟨r, s.attr, 0⟩
def cells2 (s : Sc) (r : Int) : List Cl := (s.cells.set (atS s) ⟨r, s.attr, 1⟩).set (atS s + 1) ⟨0, s.attr, 2⟩
def putS (s : Sc) (r : Int) (w : Int) : Sc :=
 if s.cols ≤ s.x + w then { s with cells := mendL (if w = 2 then cells2 s r else cells1 s r) s.cols s.y, x := s.cols - 1, wrap := s.auto }
 else { s with cells := mendL (if w = 2 then cells2 s r else cells1 s r) s.cols s.y, x := s.x + w }
def wrapS (s : Sc) : Sc := if s.wrap = true then crS s else s
def printS (s : Sc) (r : Int) : Sc :=
 if widthL r = 0 then s
 else if widthL r = 2 ∧ (wrapS s).x = (wrapS s).cols - 1 then
  (if (wrapS s).auto = false ∨ (wrapS s).cols = 1 then wrapS s else putS (crS (wrapS s)) r 2)
 else putS (wrapS s) r (widthL r)
def nextTab (tabs : List Bool) : Nat → Nat → Nat
 | 0, x => x
 | n + 1, x => if tabs.getD x true = true then x else nextTab tabs n (x + 1)
def tabX (s : Sc) : Int := min (nextTab s.tabs (s.cols - (s.x + 1)).toNat (s.x + 1).toNat : Int) (s.cols - 1)
def controlS (s : Sc) (b : Nat) : Sc :=
 if b = 8 then { s with x := max (s.x - 1) 0, wrap := false }
 else if b = 9 then { s with wrap := false, x := tabX s }
 else if b = 10 ∨ b = 11 ∨ b = 12 then downS s
 else if b = 13 then { s with x := 0, wrap := false }
 else s
def escapeS (s : Sc) (b : Nat) : Sc :=
 if b = 55 then { s with sy := s.y, sx := s.x, sattr := s.attr }
 else if b = 56 then { s with y := s.sy, x := s.sx, attr := s.sattr, wrap := false }
 else if b = 68 then downS s
 else if b = 69 then crS s
 else if b = 77 then
  (if s.y = s.top then { s with wrap := false, cells := downL s.cells s.cols s.top s.bottom 1 }
   else if 0 < s.y then { s with wrap := false, y := s.y - 1 } else { s with wrap := false })
 else if b = 72 then { s with tabs := s.tabs.set s.x.toNat true }
 else if b = 99 then newS s.rows s.cols
 else s
def modeS (s : Sc) (k : Int) (on : Bool) : Sc :=
 if k = 7 then { s with auto := on }
 else if k = 25 then { s with shown := on }
 else if k = 1049 ∧ on = true ∧ s.alt = false then { s with other := s.cells, oy := s.y, ox := s.x, alt := true, wrap := false, cells := blankL s.rows s.cols }
 else if k = 1049 ∧ on = false ∧ s.alt = true then { s with cells := s.other, y := s.oy, x := s.ox, alt := false, wrap := false, other := [], oy := 0, ox := 0 }
 else s
def paramL (l : List Int) (i : Nat) (usual : Int) : Int := if l.getD i 0 = 0 then usual else l.getD i 0
def toS (s : Sc) (y x : Int) : Sc := { s with y := min (max y 0) (s.rows - 1), x := min (max x 0) (s.cols - 1), wrap := false }
def lookN (a : Nat) (k : Int) : Nat :=
 if k = 0 then 0
 else if k = 1 then (if a % 2 = 0 then a + 1 else a)
 else if k = 4 then (if a / 2 % 2 = 0 then a + 2 else a)
 else if k = 7 then (if a / 4 % 2 = 0 then a + 4 else a)
 else if k = 22 then a - a % 2
 else if k = 24 then a - a / 2 % 2 * 2
 else if k = 27 then a - a / 4 % 2 * 4
 else if 30 ≤ k ∧ k ≤ 37 then a - a / 16 % 16 * 16 + (k - 29).toNat * 16
 else if k = 39 then a - a / 16 % 16 * 16
 else if 40 ≤ k ∧ k ≤ 47 then a - a / 256 % 16 * 256 + (k - 39).toNat * 256
 else if k = 49 then a - a / 256 % 16 * 256
 else a
def eraseS (s : Sc) (row : Bool) (k : Int) : Sc :=
 if 2 < k then { s with wrap := false }
 else { s with wrap := false, cells := mendL (fillL s.cells (fun _ => blankC)
     (if k = 0 then s.y * s.cols + s.x else if row = true then s.y * s.cols else 0).toNat
     (if k = 1 then s.y * s.cols + s.x + 1 else if row = true then (s.y + 1) * s.cols else s.cells.length).toNat) s.cols s.y }
def seqS (s : Sc) (b : Nat) (l : List Int) : Sc :=
 let n := paramL l 0 1
 let m := paramL l 1 1
 let k := paramL l 0 0
 if b = 65 then toS s (s.y - n) s.x
 else if b = 66 then toS s (s.y + n) s.x
 else if b = 67 then toS s s.y (s.x + n)
 else if b = 68 then toS s s.y (s.x - n)
 else if b = 71 ∨ b = 96 then toS s s.y (n - 1)
 else if b = 100 then toS s (n - 1) s.x
 else if b = 72 ∨ b = 102 then toS s (n - 1) (m - 1)
 else if b = 74 then eraseS s false k
 else if b = 75 then eraseS s true k
 else if b = 76 then (if s.top ≤ s.y ∧ s.y ≤ s.bottom then { s with wrap := false, x := 0, cells := downL s.cells s.cols s.y s.bottom n } else { s with wrap := false })
 else if b = 77 then (if s.top ≤ s.y ∧ s.y ≤ s.bottom then { s with wrap := false, x := 0, cells := upL s.cells s.cols s.y s.bottom n } else { s with wrap := false })
 else if b = 64 then { s with cells := insertL s.cells s.cols s.y s.x n, wrap := false }
 else if b = 80 then { s with cells := deleteL s.cells s.cols s.y s.x n, wrap := false }
 else if b = 88 then { s with cells := eraseL s.cells s.cols s.y s.x (s.x + n), wrap := false }
 else if b = 83 then { s with cells := upL s.cells s.cols s.top s.bottom n, wrap := false }
 else if b = 84 then { s with cells := downL s.cells s.cols s.top s.bottom n, wrap := false }
 else if b = 114 then
  (if n - 1 < min (paramL l 1 s.rows) s.rows - 1 then { toS s 0 0 with top := n - 1, bottom := min (paramL l 1 s.rows) s.rows - 1 } else s)
 else if b = 103 then (if k = 0 then { s with tabs := s.tabs.set s.x.toNat false } else if k = 3 then { s with tabs := List.replicate s.cols.toNat false } else s)
 else if b = 109 then { s with attr := if l.length = 0 then 0 else l.foldl lookN s.attr }
 else s
def doS (s : Sc) (a : Ac) : Sc :=
 if a.kind = 0 then printS s a.r
 else if a.kind = 1 then controlS s a.b
 else if a.kind = 2 then (if a.inter.length = 0 then escapeS s a.b else s)
 else if a.kind = 3 then
  (if 0 < a.inter.length then s
   else if a.priv = 63 ∧ (a.b = 104 ∨ a.b = 108) then a.params.foldl (fun s k => modeS s k (decide (a.b = 104))) s
   else if a.priv = 0 then seqS s a.b a.params else s)
 else s
def stepS (s : Sc) (b : UInt8) : Sc := { (vtL s.p b).2.foldl doS s with p := (vtL s.p b).1 }
def feedS (s : Sc) (l : List UInt8) : Sc := l.foldl stepS s
def attrB (a : Nat) : Bool := decide (a < 4096) && decide (a / 8 % 2 = 0) && decide (a / 16 % 16 ≤ 8) && decide (a / 256 % 16 ≤ 8)
def cellB (c : Cl) : Bool := mayR c.r && attrB c.a && decide (c.h ≤ 2) && (decide (c.r = 0) == decide (c.h = 2))
structure ScIn (s : Sc) (r c : Nat) : Prop where
 rows : s.rows = r
 cols : s.cols = c
 g : GOk s.cells.length r c
 cells : ∀ x ∈ s.cells, cellB x = true
 y0 : 0 ≤ s.y
 y1 : s.y < r
 x0 : 0 ≤ s.x
 x1 : s.x < c
 wrap : s.wrap = true → s.x = c - 1
 attr : attrB s.attr = true
 t0 : 0 ≤ s.top
 t1 : s.top ≤ s.bottom
 b1 : s.bottom < r
 tb : s.top < s.bottom ∨ r = 1
 tabs : s.tabs.length = c
 sy0 : 0 ≤ s.sy
 sy1 : s.sy < r
 sx0 : 0 ≤ s.sx
 sx1 : s.sx < c
 sattr : attrB s.sattr = true
 other : s.alt = true → (GOk s.other.length r c ∧ ∀ x ∈ s.other, cellB x = true)
 noAlt : s.alt = false → (s.other = [] ∧ s.oy = 0 ∧ s.ox = 0)
 oy0 : 0 ≤ s.oy
 oy1 : s.oy < r
 ox0 : 0 ≤ s.ox
 ox1 : s.ox < c
 p : PrOk s.p
theorem blankC_ok : cellB blankC = true := by decide
theorem getC_ok {l : List Cl} (h : ∀ x ∈ l, cellB x = true) (i : Nat) : cellB (getC l i) = true := by
 unfold getC List.getD
 cases hx : l[i]? with
 | none => exact blankC_ok
 | some x => exact h x (List.mem_of_getElem? hx)
theorem fill_ok {l : List Cl} {f : Nat → Cl} {lo hi : Nat} (h : ∀ x ∈ l, cellB x = true) (hf : ∀ i, cellB (f i) = true) : ∀ x ∈ fillL l f lo hi, cellB x = true := by
 intro x hx
 obtain ⟨i, hi2⟩ := List.mem_iff_getElem?.1 hx
 rw [fillL_get] at hi2
 split at hi2
 ·split at hi2
  ·injection hi2 with e; rw [← e]; exact hf i
  ·exact h x (List.mem_of_getElem? hi2)
 ·cases hi2
theorem upL_ok {l : List Cl} (h : ∀ x ∈ l, cellB x = true) (cols top bottom n : Int) : ∀ x ∈ upL l cols top bottom n, cellB x = true := by
 unfold upL
 split
 ·refine fill_ok h (fun i => ?_)
  unfold upF
  split
  ·exact getC_ok h _
  ·exact blankC_ok
 ·exact h
theorem downL_ok {l : List Cl} (h : ∀ x ∈ l, cellB x = true) (cols top bottom n : Int) : ∀ x ∈ downL l cols top bottom n, cellB x = true := by
 unfold downL
 split
 ·refine fill_ok h (fun i => ?_)
  unfold downF
  split
  ·exact getC_ok h _
  ·exact blankC_ok
 ·exact h
theorem mendL_ok {l : List Cl} (h : ∀ x ∈ l, cellB x = true) (cols y : Int) : ∀ x ∈ mendL l cols y, cellB x = true := by
 unfold mendL
 split
 ·refine fill_ok h (fun i => ?_)
  unfold mendF
  split
  ·exact blankC_ok
  ·exact getC_ok h _
 ·exact h
theorem insertL_ok {l : List Cl} (h : ∀ x ∈ l, cellB x = true) (cols y x n : Int) : ∀ c ∈ insertL l cols y x n, cellB c = true := by
 unfold insertL
 split
 ·refine mendL_ok (fill_ok h (fun i => ?_)) _ _
  unfold insF
  split
  ·exact getC_ok h _
  ·exact blankC_ok
 ·exact h
theorem deleteL_ok {l : List Cl} (h : ∀ x ∈ l, cellB x = true) (cols y x n : Int) : ∀ c ∈ deleteL l cols y x n, cellB c = true := by
 unfold deleteL
 split
 ·refine mendL_ok (fill_ok h (fun i => ?_)) _ _
  unfold delF
  split
  ·exact getC_ok h _
  ·exact blankC_ok
 ·exact h
theorem eraseL_ok {l : List Cl} (h : ∀ x ∈ l, cellB x = true) (cols y fr til : Int) : ∀ c ∈ eraseL l cols y fr til, cellB c = true := by
 unfold eraseL
 split
 ·exact mendL_ok (fill_ok h (fun i => blankC_ok)) _ _
 ·exact h
theorem blankL_ok (rows cols : Int) : ∀ c ∈ blankL rows cols, cellB c = true := by
 unfold blankL
 split
 ·intro c hc; rw [List.eq_of_mem_replicate hc]; exact blankC_ok
 ·intro c hc; cases hc
theorem ScIn.cells_ {s : Sc} {r c : Nat} (h : ScIn s r c) (l : List Cl) (hl : l.length = s.cells.length) (ho : ∀ x ∈ l, cellB x = true) : ScIn { s with cells := l } r c :=
 { h with g := (by show GOk l.length r c; rw [hl]; exact h.g), cells := ho }
theorem ScIn.noWrap {s : Sc} {r c : Nat} (h : ScIn s r c) : ScIn { s with wrap := false } r c := { h with wrap := (fun e => by cases e) }
theorem ScIn.at_ {s : Sc} {r c : Nat} (h : ScIn s r c) (y x : Int) (y0 : 0 ≤ y) (y1 : y < r) (x0 : 0 ≤ x) (x1 : x < c) : ScIn { s with wrap := false, y := y, x := x } r c :=
 { h with wrap := (fun e => by cases e), y0 := y0, y1 := y1, x0 := x0, x1 := x1 }
theorem downS_in {s : Sc} {r c : Nat} (h : ScIn s r c) : ScIn (downS s) r c := by
 have e1 := h.rows
 have e2 := h.y0
 have e3 := h.y1
 have e4 := h.x0
 have e5 := h.x1
 unfold downS
 split
 ·exact h.noWrap.cells_ _ (upL_len _ _ _ _ _) (upL_ok h.cells _ _ _ _)
 ·split
  ·exact h.at_ (s.y + 1) s.x (by omega) (by omega) e4 e5
  ·exact h.noWrap
theorem crS_in {s : Sc} {r c : Nat} (h : ScIn s r c) : ScIn (crS s) r c := by
 have hd := downS_in h
 have hc := hd.g.c1
 unfold crS
 have hw : (downS s).wrap = false := by
  unfold downS
  split
  ·rfl
  ·split <;> rfl
 exact { hd with wrap := (fun e => by rw [hw] at e; cases e), x0 := (Int.le_refl _), x1 := (by show (0 : Int) < c; omega) }
section
attribute [local simp] E.den O.den U.den vs dv_I dv_B dv_L dv_R DV.row
def boolsD (l : List Bool) : DV := .L (l.map fun b => [.B b])
def intsD (l : List Int) : DV := .L (l.map fun n => [.I n])
def scD (s : Sc) : List DV := [.I s.rows, .I s.cols, cellsD s.cells, .I s.y, .I s.x, .B s.wrap, .I s.attr, .I s.top, .I s.bottom, boolsD s.tabs, .I s.sy, .I s.sx, .I s.sattr, .B s.auto, .B s.shown, .B s.alt, cellsD s.other, .I s.oy, .I s.ox, .I s.p.mode, .I s.p.priv, intsD s.p.params, bytesD s.p.inter, bytesD s.p.utf]
theorem ScIn.len {s : Sc} {r c : Nat} (h : ScIn s r c) : s.cells.length ≤ 1099511627776 := by
 have := h.g.n
 have := rc_le h.g.r2 h.g.c2
 omega
theorem downS_sp {s : Sc} {r c : Nat} (h : ScIn s r c) : Spn n_r7_down sg_r7_down (scD s) (scD (downS s)) := by
 have e := h.rows
 have e1 := h.g.r2
 have e2 := h.g.r1
 have y0 := h.y0
 have y1 := h.y1
 refine rd_r7_down rfl (deq (fun h1 => dcall (up_sp s.cells s.cols s.top s.bottom 1 h.len) rfl rfl rfl (dret ?_)) fun h1 => dfit (by simp [scD]; omega) (by simp [scD]; omega) (dlt (fun h2 => dfit (by simp [scD]; omega) (by simp [scD]; omega) (dret ?_)) fun h2 => dret ?_))
 ·have h1 : s.y = s.bottom := h1
  unfold downS; rw [if_pos h1]; rfl
 ·have h1 : ¬ s.y = s.bottom := h1
  have h2 : s.y < s.rows - 1 := h2
  unfold downS; rw [if_neg h1, if_pos h2]; rfl
 ·have h1 : ¬ s.y = s.bottom := h1
  have h2 : ¬ s.y < s.rows - 1 := h2
  unfold downS; rw [if_neg h1, if_neg h2]; rfl
theorem clampE (n m : Int) : (if m < (if 0 > n then 0 else n) then m else (if 0 > n then 0 else n)) = min (max n 0) m := by
 split <;> split <;> omega
theorem toS_sp {s : Sc} {r c : Nat} (h : ScIn s r c) (y x : Int) : Spn n_r7_to sg_r7_to (scD s ++ [.I y, .I x]) (scD (toS s y x)) := by
 have e := h.rows
 have e1 := h.g.r2
 have e2 := h.g.r1
 have f := h.cols
 have f1 := h.g.c2
 have f2 := h.g.c1
 refine rd_r7_to rfl (dfit (by simp [scD]; omega) (by simp [scD]; omega) (dfit (by simp [scD]; omega) (by simp [scD]; omega) (dret ?_)))
 have := clampE y (s.rows - 1)
 have := clampE x (s.cols - 1)
 simp [scD, toS, clampE]
theorem param_sp (l : List Int) (i : Nat) (u : Int) (hl : l.length ≤ 1048576) : Spn n_r7_param sg_r7_param [intsD l, .I i, .I u] [.I (paramL l i u)] := by
 have hlen : ((intsD l).rows.length : Int) = l.length := by simp [intsD, DV.rows]
 have hget : ∀ h : i < l.length, (((intsD l).rows[i]?.getD [])[0]?.getD (DV.I 0)) = .I (l.getD i 0) := fun h => by
  simp [intsD, DV.rows, List.getElem?_eq_getElem h, List.getD_eq_getElem?_getD]
 unfold paramL
 refine rd_r7_param rfl (dle (fun h1 => dret ?_) fun h1 => dwithin (by simp) (by simp [hlen] at h1 ⊢; omega) (deq (fun h2 => dret ?_) fun h2 => dret ?_))
 ·simp [hlen] at h1
  rw [if_pos (by simp [List.getD_eq_getElem?_getD, List.getElem?_eq_none h1])]; rfl
 ·simp [hlen] at h1
  simp [hget h1] at h2
  rw [if_pos (by simpa [List.getD_eq_getElem?_getD] using h2)]; rfl
 ·simp [hlen] at h1
  simp [hget h1] at h2
  rw [if_neg (by simpa [List.getD_eq_getElem?_getD] using h2)]
  simp [hget h1]
theorem mode_sp {s : Sc} (k : Int) (on : Bool) : Spn n_r7_mode sg_r7_mode (scD s ++ [.I k, .B on]) (scD (modeS s k on)) := by
 unfold modeS
 refine rd_r7_mode rfl (deq (fun h1 => dret ?_) fun h1 => deq (fun h2 => dret ?_) fun h2 => deq (fun h3 => dbr (fun h4 => dbr (fun h5 => dret ?_) fun h5 => dcall (Blank_sp s.rows s.cols) rfl rfl rfl (dret ?_)) fun h4 => dbr (fun h5 => dret ?_) fun h5 => dret ?_) fun h3 => dret ?_)
 ·have h1 : k = 7 := h1
  rw [if_pos h1]; rfl
 ·have h1 : ¬ k = 7 := h1
  have h2 : k = 25 := h2
  rw [if_neg h1, if_pos h2]; rfl
 ·have h1 : ¬ k = 7 := h1
  have h2 : ¬ k = 25 := h2
  have h4 : on = true := h4
  have h5 : s.alt = true := h5
  rw [if_neg h1, if_neg h2, if_neg (by simp [h4, h5]), if_neg (by simp [h4])]; rfl
 ·have h1 : ¬ k = 7 := h1
  have h2 : ¬ k = 25 := h2
  have h3 : k = 1049 := h3
  have h4 : on = true := h4
  have h5 : s.alt = false := h5
  rw [if_neg h1, if_neg h2, if_pos ⟨h3, h4, h5⟩]; rfl
 ·have h1 : ¬ k = 7 := h1
  have h2 : ¬ k = 25 := h2
  have h3 : k = 1049 := h3
  have h4 : on = false := h4
  have h5 : s.alt = true := h5
  rw [if_neg h1, if_neg h2, if_neg (by simp [h4]), if_pos ⟨h3, h4, h5⟩]; rfl
 ·have h1 : ¬ k = 7 := h1
  have h2 : ¬ k = 25 := h2
  have h4 : on = false := h4
  have h5 : s.alt = false := h5
  rw [if_neg h1, if_neg h2, if_neg (by simp [h4]), if_neg (by simp [h5])]; rfl
 ·have h1 : ¬ k = 7 := h1
  have h2 : ¬ k = 25 := h2
  have h3 : ¬ k = 1049 := h3
  rw [if_neg h1, if_neg h2, if_neg (fun h => h3 h.1), if_neg (fun h => h3 h.1)]; rfl
end
section
attribute [local simp] E.den O.den U.den vs dv_I dv_B dv_L dv_R DV.row
theorem bytes_len (l : List UInt8) : ((bytesD l).rows.length : Int) = l.length := by simp [bytesD, DV.rows]
theorem bytes_get {l : List UInt8} {k : Nat} (h : k < l.length) : ((bytesD l).rows[k]?.getD [])[0]?.getD (DV.I 0) = .I (l[k].toNat : Int) := by
 simp [bytesD, DV.rows, List.getElem?_eq_getElem h]
theorem contT : (List.range 256).all (fun n => (decide ((O.den (.band .u8) (.I n) (.I 192)).int = 128)) == (decide (128 ≤ n) && decide (n < 192))) = true := by kernel_rfl
theorem cont_iff (b : UInt8) : (O.den (.band .u8) (.I (b.toNat : Int)) (.I 192)).int = 128 ↔ contB b = true := by
 have := List.all_eq_true.1 contT b.toNat (List.mem_range.2 b.toNat_lt)
 simp only [beq_iff_eq] at this
 unfold contB
 rw [← this, decide_eq_true_eq]
def allC (p : List UInt8) : Prop := ∀ j (h : j < p.length), 1 ≤ j → contB p[j] = true
theorem contLoop {p : List UInt8} {X : Tree} {post : List DV → Prop} (hp : p.length ≤ 1048576) (hne : 1 ≤ p.length) (hno : ¬ allC p → post [.B false]) (hX : allC p → ∀ cx, X.den SpF1 post [bytesD p, .I p.length] cx) :
  (Tree.loop [.I 1] (.br (.O .lt (.V 1) (.U .len (.V 0))) (.need (.O .le (.I 0) (.V 1)) (.br (.O .eq (.O (.band .u8) (.O (.at 0) (.V 0) (.V 1)) (.I 192)) (.I 128)) (.need (.U (.fit .i64) (.O .add (.V 1) (.I 1))) (.again 0 [.O .add (.V 1) (.I 1)])) (.ret [.B false]))) X)).den SpF1 post [bytesD p] [] := by
 refine dloop (fun k : Nat => [.I k]) (fun k => 1 ≤ k ∧ k ≤ p.length ∧ ∀ j (h : j < p.length), 1 ≤ j → j < k → contB p[j] = true) (fun k => p.length - k) 1 rfl ⟨Nat.le_refl _, hne, fun j _ h1 h2 => by omega⟩ fun k hk _ => ?_
 obtain ⟨k1, k2, k3⟩ := hk
 refine dlt (fun h => nle (by simp) ?_) fun h => ?_
 ·simp [bytes_len] at h
  have hb : (E.O (.at 0) (.V 0) (.V 1)).den ([bytesD p] ++ [.I (k : Int)]) = .I (p[k].toNat : Int) := by
   have := bytes_get h
   simpa using this
  have hd : (E.O (.band .u8) (.O (.at 0) (.V 0) (.V 1)) (.I 192)).den ([bytesD p] ++ [.I (k : Int)]) = O.den (.band .u8) (.I (p[k].toNat : Int)) (.I 192) := congrArg (fun d => O.den (.band .u8) d (.I 192)) hb
  refine deq (fun h1 => dfit (by simp; omega) (by simp; omega) (dagain rfl ⟨k + 1, by simp, ⟨by omega, by omega, fun j hj h2 h3 => ?_⟩, by omega⟩)) fun h1 => dret ?_
  ·rw [hd] at h1
   by_cases e : j = k
   ·subst e
    exact (cont_iff _).1 h1
   ·exact k3 j hj h2 (by omega)
  ·rw [hd] at h1
   exact hno fun hall => h1 ((cont_iff _).2 (hall k h k1))
 ·simp [bytes_len] at h
  have : k = p.length := by omega
  subst this
  exact hX (fun j hj h1 => k3 j hj h1 (by omega)) _
theorem begins_cont {p : List UInt8} (h : beginsL p = true) : allC p := by
 have hs : ∀ a b, secB a b = true → contB b = true := fun a b h => by
  obtain ⟨h1, h2⟩ := (secB_iff a b).1 h
  have := hiB_le a.toNat
  have : 128 ≤ loB a.toNat := by unfold loB; split <;> (try split) <;> omega
  simp [contB]; omega
 intro j hj h1
 match p, h with
 | [a], _ => simp at hj; omega
 | [a, b], h =>
  simp [beginsL] at h
  obtain rfl : j = 1 := by simp at hj; omega
  exact hs a b h.2
 | [a, b, c], h =>
  simp [beginsL] at h
  have : j = 1 ∨ j = 2 := by simp at hj; omega
  rcases this with rfl | rfl
  ·exact hs a b h.1.2
  ·exact h.2
theorem begins_false {p : List UInt8} {post : List DV → Prop} (h : post [.B (beginsL p)]) (hn : ¬ allC p) : post [.B false] := by
 have : beginsL p = false := by
  rw [← Bool.not_eq_true]
  exact fun h => hn (begins_cont h)
 rw [this] at h; exact h
theorem b1 (a : UInt8) : beginsL [a] = true ↔ 194 ≤ a.toNat ∧ a.toNat ≤ 244 := by simp [beginsL]
theorem bS (a b : UInt8) : secB a b = true ↔ ((a.toNat = 224 → 160 ≤ b.toNat) ∧ (a.toNat = 240 → 144 ≤ b.toNat) ∧ 128 ≤ b.toNat) ∧ (a.toNat = 237 → b.toNat ≤ 159) ∧ (a.toNat = 244 → b.toNat ≤ 143) ∧ b.toNat ≤ 191 := by
 rw [secB_iff]; unfold loB hiB
 (repeat' split) <;> omega
theorem b2 (a b : UInt8) : beginsL [a, b] = true ↔ (224 ≤ a.toNat ∧ a.toNat ≤ 244) ∧ secB a b = true := by simp [beginsL]
theorem b3 (a b c : UInt8) : beginsL [a, b, c] = true ↔ ((240 ≤ a.toNat ∧ a.toNat ≤ 244) ∧ secB a b = true) ∧ contB c = true := by simp [beginsL]
theorem Begins_sp (p : List UInt8) (hp : p.length ≤ 1048576) : Spn n_r1_Begins sg_r1_Begins [bytesD p] [.B (beginsL p)] := by
 refine rd_r1_Begins rfl (dlt (fun h => dret ?_) fun h0 => dlt (fun h => dret ?_) fun h1 => ?_)
 ·simp [bytes_len] at h
  have : p = [] := List.eq_nil_of_length_eq_zero (by omega)
  subst this; rfl
 ·simp [bytes_len] at h
  match p, h with
  | a :: b :: c :: d :: t, _ => rfl
 ·simp [bytes_len] at h0 h1
  have hsh : (∃ a, p = [a]) ∨ (∃ a b, p = [a, b]) ∨ ∃ a b c, p = [a, b, c] := by
   match p, h0, h1 with
   | [a], _, _ => exact .inl ⟨a, rfl⟩
   | [a, b], _, _ => exact .inr (.inl ⟨a, b, rfl⟩)
   | [a, b, c], _, _ => exact .inr (.inr ⟨a, b, c, rfl⟩)
  have hpost : (fun es => es = [DV.B (beginsL p)]) [DV.B (beginsL p)] := rfl
  have hd1 : 1 ≤ p.length := by rcases hsh with ⟨a, rfl⟩ | ⟨a, b, rfl⟩ | ⟨a, b, c, rfl⟩ <;> simp
  refine dlt (fun h => dret ?_) fun h2 => dlt (fun h => dret ?_) fun h3 => dle (fun h4 => dle (fun h5 => contLoop hp hd1 (fun hn => begins_false (post := fun es => es = [DV.B (beginsL p)]) rfl hn) fun hall cx => ?_) fun h5 => dle (fun h6 => dret ?_) fun h6 => contLoop hp hd1 (fun hn => begins_false (post := fun es => es = [DV.B (beginsL p)]) rfl hn) fun hall cx => ?_) fun h4 => dle (fun h6 => dret ?_) fun h6 => contLoop hp hd1 (fun hn => begins_false (post := fun es => es = [DV.B (beginsL p)]) rfl hn) fun hall cx => ?_
  ·rcases hsh with ⟨a, rfl⟩ | ⟨a, b, rfl⟩ | ⟨a, b, c, rfl⟩ <;> simp [bytesD, DV.rows] at h <;> simp [beginsL] <;> omega
  ·rcases hsh with ⟨a, rfl⟩ | ⟨a, b, rfl⟩ | ⟨a, b, c, rfl⟩ <;> simp [bytesD, DV.rows] at h <;> simp [beginsL] <;> omega
  ·have hall2 : ∀ a b c, p = [a, b, c] → contB c = true := fun a b c e => by subst e; exact hall 2 (by simp) (by omega)
   refine deq (fun q => dret ?_) fun q => deq (fun g1 => nlt ?_ (dle (fun g2 => dret ?_) fun g2 => dret ?_)) fun g1 => deq (fun g2 => nlt ?_ (dle (fun g3 => dret ?_) fun g3 => dret ?_)) fun g2 => nlt ?_ (dle (fun g3 => dret ?_) fun g3 => dret ?_)
   all_goals clear hpost hd1 hp hall
   all_goals (rcases hsh with ⟨a, rfl⟩ | ⟨a, b, rfl⟩ | ⟨a, b, c, rfl⟩)
   all_goals simp [bytesD, DV.rows] at *
   all_goals (try rw [Bool.eq_iff_iff])
   all_goals simp only [b1, b2, b3, bS, decide_eq_true_eq, iff_true, iff_false, Bool.false_eq_true]
   all_goals (try simp only [hall2, and_true])
   all_goals omega
  ·skip
   all_goals clear hpost hd1 hp
   all_goals (rcases hsh with ⟨a, rfl⟩ | ⟨a, b, rfl⟩ | ⟨a, b, c, rfl⟩)
   all_goals simp [bytesD, DV.rows] at *
   all_goals (try rw [Bool.eq_iff_iff])
   all_goals simp only [b1, b2, b3, bS, decide_eq_true_eq, iff_true, iff_false, Bool.false_eq_true]
   all_goals (try simp only [hall2, and_true])
   all_goals omega
  ·have hall2 : ∀ a b c, p = [a, b, c] → contB c = true := fun a b c e => by subst e; exact hall 2 (by simp) (by omega)
   refine deq (fun q => dret ?_) fun q => deq (fun g1 => nlt ?_ (dle (fun g2 => dret ?_) fun g2 => dret ?_)) fun g1 => deq (fun g2 => nlt ?_ (dle (fun g3 => dret ?_) fun g3 => dret ?_)) fun g2 => nlt ?_ (dle (fun g3 => dret ?_) fun g3 => dret ?_)
   all_goals clear hpost hd1 hp hall
   all_goals (rcases hsh with ⟨a, rfl⟩ | ⟨a, b, rfl⟩ | ⟨a, b, c, rfl⟩)
   all_goals simp [bytesD, DV.rows] at *
   all_goals (try rw [Bool.eq_iff_iff])
   all_goals simp only [b1, b2, b3, bS, decide_eq_true_eq, iff_true, iff_false, Bool.false_eq_true]
   all_goals (try simp only [hall2, and_true])
   all_goals omega
  ·skip
   all_goals clear hpost hd1 hp
   all_goals (rcases hsh with ⟨a, rfl⟩ | ⟨a, b, rfl⟩ | ⟨a, b, c, rfl⟩)
   all_goals simp [bytesD, DV.rows] at *
   all_goals (try rw [Bool.eq_iff_iff])
   all_goals simp only [b1, b2, b3, bS, decide_eq_true_eq, iff_true, iff_false, Bool.false_eq_true]
   all_goals (try simp only [hall2, and_true])
   all_goals omega
  ·have hall2 : ∀ a b c, p = [a, b, c] → contB c = true := fun a b c e => by subst e; exact hall 2 (by simp) (by omega)
   refine deq (fun q => dret ?_) fun q => nlt ?_ (dle (fun g3 => dret ?_) fun g3 => dret ?_)
   all_goals clear hpost hd1 hp hall
   all_goals (rcases hsh with ⟨a, rfl⟩ | ⟨a, b, rfl⟩ | ⟨a, b, c, rfl⟩)
   all_goals simp [bytesD, DV.rows] at *
   all_goals (try rw [Bool.eq_iff_iff])
   all_goals simp only [b1, b2, b3, bS, decide_eq_true_eq, iff_true, iff_false, Bool.false_eq_true]
   all_goals (try simp only [hall2, and_true])
   all_goals omega
end
end Go.Proofs.YtbegccgpmhbnfaaGreat
