/- What is proved here: parts of the proof of SnapTells. -/
import Derived.Test.YtbegccgpmhbnfaaGreatR3
import Derived.Laws.BytesArg
import Derived.Laws.Cover3
import Derived.Scope
namespace Go.Proofs.YtbegccgpmhbnfaaGreat
open Go.RowKit
set_option linter.unusedVariables false
set_option linter.unusedSimpArgs false
set_option maxHeartbeats 1000000
def svOf : Value → SV
 | .agg cs => if cs.toList.all (·.oneCell') then .agg (cs.toList.map cvOf) else .one .any
 | v => .one (cvOf v)
def opLook (t : Nat → SV) : Operand → SV
 | .tmp i => t i
 | .const v => svOf v
 | .func f => .one (.fn f)
 | .global _ => .one .any
def symConvB (T : Tab) (h : Nat → Blk) (src dst : TypeId) (c : CV) : Option Out := match T.und src, T.und dst with
 | some (.slice el), some .string => match T.und el, T.cks el with
  | some (.int .u8), some [.int .u8] => do
   let (ns, e, us) ← immE T h (.lst el) c
   some { needs := ns, val := .one (.c .str (.U .toB e)), upd := us }
  | _, _ => none
 | _, _ => none
def symPick : SV → SV → SV → Option SV
 | .one (.c .bool (.B true)), a, _ => some a
 | .one (.c .bool (.B false)), _, b => some b
 | .one (.c .bool e), .one (.c k x), .one (.c k' y) => if k = k' then some (.one (.c k (.C e x y))) else none
 | _, _, _ => none
def symAppend2 (T : Tab) (h : Nat → Blk) (nb : Nat) (st xt : TypeId) (base x : SV) : Option Out :=
 match T.und xt with
 | some (.slice _) => symAppend T h nb st base x
 | some .string => symAppend T h nb st base x
 | _ => none
def nilB (o : BinOp) (isNil : Bool) : Option Bool := match o with
 | .eql => some isNil
 | .neq => some (!isNil)
 | _ => none
def symNilE (T : Tab) (h : Nat → Blk) (o : BinOp) (xt : TypeId) (c : CV) : Option Out := match T.und xt with
 | some (.slice el) => match c with
  | .nl => (nilB o true).map fun b => { val := .one (.c .bool (.B b)) }
  | .c (.lst _) e => (nilB o false).map fun b => { needs := [.O .lt (.I 0) (.U .len e)], val := .one (.c .bool (.B b)) }
  | .own b' _ => match h b' with
   | .arr _ e _ => (nilB o false).map fun b => { needs := [.O .lt (.I 0) (.U .len e)], val := .one (.c .bool (.B b)) }
   | _ => none
  | _ => none
 | _ => none
def symNilC (h : Nat → Blk) : SV → Option Out
 | .one (.rp b o) => match h b with
  | .box _ => some { val := .one (.rp b o) }
  | _ => none
 | .one (.ap b el r o e) => match h b with
  | .arr _ _ _ => some { val := .one (.ap b el r o e) }
  | _ => none
 | .one (.ip el l r o) => some { val := .one (.ip el l r o) }
 | .one (.fn f) => some { val := .one (.fn f) }
 | _ => none
def symop (T : Tab) (sig : FuncId → Option Sig) (op : Op) (t : Operand → SV) (h : Nat → Blk) (nb ne : Nat) : Option Out := match op with
 | .move x => some { val := t x }
 | .assign x => some { val := t x }
 | .pick c a b => (symPick (t c) (t a) (t b)).map fun v => { val := v }
 | .alloc el => (zeroL T el).map fun z => { val := .one (.rp nb 0), upd := [(nb, .box z)] }
 | .box el x => ((t x).cells? h).map fun cs => { val := .one (.rp nb 0), upd := [(nb, .box cs)] }
 | .build ty ps => (buildT T h ty (ps.toList.map fun p => (p.1, t p.2))).map fun cs => { val := .agg cs }
 | .buildSlice ty n ps => symLit T h nb ty n (ps.toList.map fun p => (p.1, t p.2))
 | .load ty a => (symLoad T h ty (t a)).map fun r => { needs := r.1, val := r.2 }
 | .store ty a x => (symStore T h ty (t x) (t a)).map fun r => { needs := r.1, upd := r.2 }
 | .binOp o xt x y _ => match t x, t y with
  | .one a, .one .nl => symNilE T h o xt a
  | .one a, .one b => (symBin T o xt a b).map fun r => { needs := r.1, val := .one (foldC r.2) }
  | .agg a, .agg b => (symEqA T o xt (.agg a) (.agg b)).map fun e => { val := .one (.c .bool e) }
  | _, _ => none
 | .unOp o _ x => match t x with
  | .one a => (symUn o a).map fun r => { needs := r.1, val := .one r.2 }
  | _ => none
 | .convert src dst x => match t x with
  | .one a => match symConv T src dst a with
   | some c => some { val := .one c }
   | none => symConvB T h src dst a
  | _ => none
 | .makeSlice ty l c => symMake T h nb ty (t l) (t c)
 | .slice xt x lo hi none => (symSlice T h xt (t x) (lo.map t) (hi.map t)).map fun r => { needs := r.1, val := r.2 }
 | .fieldAddr xt x f => (symFieldAddr T h xt f (t x)).map fun v => { val := v }
 | .field xt x f => (symField T xt f (t x)).map fun v => { val := v }
 | .indexAddr xt x i => (symIndexAddr T h xt (t x) (t i)).map fun r => { needs := r.1, val := r.2 }
 | .index xt x i => (symIndex T xt (t x) (t i)).map fun r => { needs := r.1, val := r.2 }
 | .extract x i => (symExtract i (t x)).map fun v => { val := v }
 | .panic _ => some { needs := [.B false] }
 | .call { callee := .builtin .len, args := args, argTypes := ts } => match args.toList, ts.toList with
  | [x], [ty] => (symLen h T ty (t x)).map fun e => { val := .one (.c (.int .i64) e) }
  | _, _ => none
 | .call { callee := .builtin .min, args := args, argTypes := _ } => match onesOf (args.toList.map t) with
  | some (c :: cs) => (mmE false c cs).map fun v => { val := .one v }
  | _ => none
 | .call { callee := .builtin .max, args := args, argTypes := _ } => match onesOf (args.toList.map t) with
  | some (c :: cs) => (mmE true c cs).map fun v => { val := .one v }
  | _ => none
 | .call { callee := .builtin .append, args := args, argTypes := ts } => match args.toList, ts.toList with
  | [x, y], [st, xt] => symAppend2 T h nb st xt (t x) (t y)
  | _, _ => none
 | .call { callee := .value g, args := args, argTypes := _ } => match t g with
  | .one (.fn f) => if keyF (pickK sig f (args.toList.map t)) = f then do
    let sg ← sig (pickK sig f (args.toList.map t))
    match sg.pat with
    | none => symCall T h nb ne (pickK sig f (args.toList.map t)) sg (args.toList.map t)
    | some pt => symCallP T h nb ne (pickK sig f (args.toList.map t)) pt (args.toList.map t)
   else none
  | _ => none
 | .nilCheck x => symNilC h (t x)
 | _ => none
section
variable {P : Program} {T : Tab} {m m' : Mem} {w0 : W0} {S0 : Nat → Prop} {w : World}
theorem one_of (v : Value) : SVr T m (.one (cvOf v)) v := cvOf_ok v
theorem svOf_ok (v : Value) : SVr T m (svOf v) v := by
 cases v with
 | agg cs =>
  show SVr T m (if cs.toList.all (·.oneCell') then SV.agg (cs.toList.map cvOf) else .one .any) _
  split
  ·rename_i h
   refine ⟨cs, rfl, by simp, fun j c hj => ?_⟩
   rw [List.getElem?_map] at hj
   cases hv : cs.toList[j]? with
   | none => rw [hv] at hj; cases hj
   | some u =>
    rw [hv] at hj
    cases hj
    exact ⟨u, rfl, List.all_eq_true.1 h u (List.mem_of_getElem? hv), cvOf_ok u⟩
  ·trivial
 | _ => exact one_of _
def Goes (P : Program) (o : Oper) (a : Act) (m : Mem) (R : Value → Mem → Prop) : Prop :=
 (∃ v m', (execOp a.eval o).run P m.w = .ok (.value v) m'.w ∧ R v m') ∨ (∃ m', (execOp a.eval o).run P m.w = .ok .skip m'.w ∧ R undef m') ∨
 (∃ f args, (execOp a.eval o).run P m.w = .ok (.enter f args) m.w ∧ Calls P f args m.w fun e w' => ∃ v m', e = .returned v ∧ m'.w = w' ∧ R v m')
theorem Goes.wp {o : Oper} {a : Act} {R : Value → Mem → Prop} {K : Act → World → Prop} {Q : Exit → Act → World → Prop} (h : Goes P o a m R) (hk : ∀ v m', R v m' → K (a.put o.dst v) m'.w) : o.wp P a m.w K Q := by
 unfold Oper.wp
 rcases h with ⟨v, m', h1, h2⟩ | ⟨m', h1, h2⟩ | ⟨f, args, h1, h2⟩
 ·rw [h1, Oper.upon_value]; exact hk v m' h2
 ·rw [h1, Oper.upon_skip]; exact hk _ m' h2
 ·rw [h1, Oper.upon_enter]
  refine h2.mono ?_
  rintro e w' ⟨v, m', rfl, rfl, h3⟩
  exact hk v m' h3
def isGo (P : Program) (f : Nat) : Bool := match P.funcs[f]? with
 | some fn => !(fn.name == "runtime.NumGoroutine") && fn.body.isSome
 | none => false
theorem run_go {f : Nat} (h : isGo P f = true) (args : Array Value) (w : World) : (callFunc f args).run P w = .ok (.enter f args) w := by
 unfold isGo at h
 cases hf : P.funcs[f]? with
 | none => rw [hf] at h; cases h
 | some fn =>
  rw [hf] at h
  simp only [Bool.and_eq_true, Bool.not_eq_true'] at h
  obtain ⟨h1, h2⟩ := h
  obtain ⟨c, hc⟩ := Option.isSome_iff_exists.1 h2
  unfold callFunc
  have h1' : ¬ fn.name = "runtime.NumGoroutine" := fun e => by rw [e] at h1; exact absurd h1 (by decide)
  simp [hf, h1', hc, go_sem]
theorem same_went (hm : MOk T w0 S0 m) : Went T w0 S0 m [] m := Went.refl hm
theorem pick_sv {c a b v : SV} {vc va vb : Value} (h : symPick c a b = some v) (hc : SVr T m c vc) (ha : SVr T m a va) (hb : SVr T m b vb) : ∃ x, vc = .bool x ∧ SVr T m v (if x then va else vb) := by
 unfold symPick at h
 split at h
 ·cases h
  obtain ⟨x, h1, rfl⟩ := Rd.bool_inv (show CVr T m (.c .bool (.B true)) vc from hc)
  cases h1
  exact ⟨true, rfl, ha⟩
 ·cases h
  obtain ⟨x, h1, rfl⟩ := Rd.bool_inv (show CVr T m (.c .bool (.B false)) vc from hc)
  cases h1
  exact ⟨false, rfl, hb⟩
 ·rename_i e k x k' y _ _
  split at h
  case isFalse => cases h
  rename_i hk
  subst hk
  cases h
  obtain ⟨z, h1, rfl⟩ := Rd.bool_inv (show CVr T m (.c .bool e) vc from hc)
  refine ⟨z, rfl, ?_⟩
  show Rd T m.w m.S k ((E.C e x y).den m.env) _
  have ha' : Rd T m.w m.S k (x.den m.env) va := ha
  have hb' : Rd T m.w m.S k (y.den m.env) vb := hb
  simp only [E.den, h1, DV.bool]
  cases z <;> simpa
 ·cases h
theorem extract_ok {i : Nat} {s val : SV} {v : Value} (h : symExtract i s = some val) (hs : SVr T m s v) : ∃ u, (Instr.extract v i).run P w = .ok u w ∧ SVr T m val u := by
 unfold symExtract at h
 split at h
 ·rename_i l
  obtain ⟨a, rfl, h1, h2⟩ := hs
  cases hp : l[i]? with
  | none => rw [hp] at h; cases h
  | some p =>
  rw [hp] at h
  simp only [Option.bind_eq_bind, Option.bind_some] at h
  obtain ⟨u, hu, hr⟩ := h2 i p hp
  refine ⟨u, by simp [Instr.extract, hu], ?_⟩
  unfold extE at h
  rcases hr with ⟨hp1, a, rfl, hc⟩ | ⟨hp1, c, hc1, hc2⟩
  ·rw [if_pos hp1] at h; cases h; exact ⟨a, rfl, hc⟩
  ·rw [if_neg (by simp [hp1]), hc1] at h; cases h; exact hc2
 ·cases h
theorem convB_ok (hT : T.Ok P) (hm : MOk T w0 S0 m) {src dst : TypeId} {c : CV} {v : Value} {out : Out} (h : symConvB T m.h src dst c = some out) (hc : CVr T m c v) (hn : needsOk m.env out.needs) :
  ∃ u m', (convert src dst v).run P m.w = .ok u m'.w ∧ Went T w0 S0 m out.upd m' ∧ SVr T m' out.val u := by
 unfold symConvB at h
 split at h
 case h_2 => cases h
 rename_i el hu hd
 split at h
 case h_2 => cases h
 rename_i hel hck
 cases hi : immE T m.h (.lst el) c with
 | none => rw [hi] at h; cases h
 | some x =>
 obtain ⟨ns, e, us⟩ := x
 rw [hi] at h
 simp only [Option.bind_eq_bind, Option.bind_some, Option.some.injEq] at h
 subst h
 obtain ⟨m1, f1, hr⟩ := imm_ok hm hc hi hn
 obtain ⟨rows, a, cap, cks, h1, rfl, h2, h3, h4, h5⟩ := Rd.lst_inv hr
 rw [h1] at hr
 obtain ⟨cks', q, o, u, _, hk', _, _, ha, hrl, hmm, hdd⟩ := hr.lst_all
 rw [hck] at hk'
 cases hk'
 have hden : (E.U .toB e).den m.env = .S (toBytes rows) := by simp only [E.den, U.den, h1, DV.rows]
 have key : ∃ s : ByteArray, (convert src dst (.slice a rows.length cap)).run P m.w = .ok (.string s) m.w ∧ s.data.toList = toBytes rows := by
  by_cases hne : rows = []
  ·subst hne
   cases a with
   | none => exact ⟨ByteArray.empty, run_convert_bytes_nil m.w src el (hT.und hu) (hT.und hel) _ _ dst (hT.und hd), rfl⟩
   | some ad =>
    refine ⟨ByteArray.empty, ?_, rfl⟩
    rw [run_convert_bytes_string m.w src dst el _ _ _ (hT.und hu) (hT.und hel) (hT.und hd)]
    simp [Conv.bytesToString, loadCells, loadCellsFrom, Sem.run_pure]
  ·obtain ⟨rfl, _⟩ := ha hne
   have hcell : ∀ i, i < rows.length → ∃ n : Int, u i 0 = .int .u8 n ∧ rows[i]? = some [.I n] := fun i hi => by
    have h6 := hrl rows[i] (List.getElem_mem hi)
    have h7 : rows[i]? = some rows[i] := List.getElem?_eq_getElem hi
    have h8 := hdd i 0 rows[i] (rows[i][0]'(by simp at h6; omega)) (.int .u8) h7 (List.getElem?_eq_getElem (by simp at h6; omega)) rfl
    obtain ⟨n, e1, e2, _⟩ := Rd.int_inv h8
    refine ⟨n, e2, ?_⟩
    rw [h7]
    congr 1
    cases hrow : rows[i] with
    | nil => rw [hrow] at h6; cases h6
    | cons x xs =>
     rw [hrow] at h6
     have : xs = [] := List.eq_nil_of_length_eq_zero (by simpa using h6)
     subst this
     simp [hrow] at e1
     rw [e1]
   have := run_convert_bytes_arg (P := P) m.w src el (hT.und hu) (hT.und hel) q o rows.length cap (rows.map fun r => (r.headD (.I 0)).int) (by simp) (fun i hi => by
     obtain ⟨n, e1, e2⟩ := hcell i hi
     have := hmm i 0 hi (by simp)
     simp only [List.length_cons, List.length_nil, Nat.zero_add, Nat.mul_one, Nat.add_zero] at this
     rw [f1.w] at this
     rw [this, e1]
     simp [List.getD_eq_getElem?_getD, e2, DV.int]) dst (hT.und hd)
   refine ⟨_, this, ?_⟩
   rw [strOfNums_data]
   unfold toBytes
   rw [List.map_map]
   rfl
 obtain ⟨s, k1, k2⟩ := key
 refine ⟨.string s, m1, by rw [f1.w]; exact k1, f1.went, ?_⟩
 show Rd T m1.w m1.S .str ((E.U .toB e).den m1.env) (.string s)
 rw [f1.env, hden, ← k2]
 refine .str ?_
 have : s.data.toList.length = (toBytes rows).length := by rw [k2]
 have h9 : s.data.toList.length = s.size := rfl
 unfold toBytes at this
 simp at this
 omega
theorem resU_mem : ∀ (ks : List (CK × Bool)) (nb ne b : Nat), nb ≤ b → b < nb + freshN ks → ∃ x, (b, x) ∈ resU nb ne ks
 | [], nb, ne, b, h1, h2 => by simp only [freshN] at h2; omega
 | k :: ks, nb, ne, b, h1, h2 => by
  obtain ⟨k1, k2⟩ := k
  by_cases hm : (∃ el, k1 = .lst el) ∧ k2 = true
  ·obtain ⟨⟨el, rfl⟩, rfl⟩ := hm
   by_cases hb : b = nb
   ·subst hb; exact ⟨_, List.mem_cons_self ..⟩
   ·obtain ⟨x, hx⟩ := resU_mem ks (nb + 1) (ne + 1) b (by omega) (by simp only [freshN] at h2; omega)
    exact ⟨x, List.mem_cons_of_mem _ hx⟩
  ·have e : resU nb ne ((k1, k2) :: ks) = resU nb (ne + 1) ks ∧ freshN ((k1, k2) :: ks) = freshN ks := by
    cases k1 <;> cases k2 <;> first | exact ⟨rfl, rfl⟩ | exact absurd ⟨⟨_, rfl⟩, rfl⟩ hm
   rw [e.2] at h2
   rw [e.1]
   exact resU_mem ks nb (ne + 1) b h1 h2
theorem resLU_mem : ∀ (ps : List (Bool × List (CK × Bool))) (nb ne b : Nat), nb ≤ b → b < nb + freshL ps → ∃ x, (b, x) ∈ resLU nb ne ps
 | [], nb, ne, b, h1, h2 => by simp only [freshL] at h2; omega
 | p :: ps, nb, ne, b, h1, h2 => by
  simp only [freshL] at h2
  unfold resLU
  by_cases hb : b < nb + freshN p.2
  ·obtain ⟨x, hx⟩ := resU_mem p.2 nb ne b h1 hb
   exact ⟨x, List.mem_append.2 (.inl hx)⟩
  ·obtain ⟨x, hx⟩ := resLU_mem ps (nb + freshN p.2) (ne + p.2.length) b (by omega) (by omega)
   exact ⟨x, List.mem_append.2 (.inr hx)⟩
theorem call_top {T : Tab} {h : Nat → Blk} {nb ne : Nat} {f : FuncId} {sg : Sig} {args : List SV} {out : Out} (e : symCall T h nb ne f sg args = some out) : nb + freshL sg.results ≤ nextB nb out.upd := by
 unfold symCall at e
 obtain ⟨⟨n2, e2, u2⟩, h3, e⟩ := Option.bind_eq_some_iff.1 e
 cases e
 by_cases h0 : freshL sg.results = 0
 ·rw [h0]; exact (nextB_ge _ _).1
 ·obtain ⟨x, hx⟩ := resLU_mem sg.results nb ne (nb + freshL sg.results - 1) (by omega) (by omega)
  have := (nextB_ge ((if keepS T sg.results then [] else u2) ++ resLU nb ne sg.results) nb).2 _ (List.mem_append.2 (.inr hx))
  dsimp only at this ⊢
  omega
structure StepH (P : Program) (T : Tab) (sig : FuncId → Option Sig) (w0 : W0) (S0 : Nat → Prop) (m : Mem) (out : Out) (nb ne : Nat) (rs : List DV) : Prop where
 hT : T.Ok P
 go : ∀ f sg, sig f = some sg → isGo P (keyF f) = true
 ok : MOk T w0 S0 m
 needs : needsOk m.env out.needs
 sp : ∀ f es n, out.call = some (f, es, n) → ∃ sg, sig f = some sg ∧ Sp P T sg f (es.map (·.den m.env)) rs
 rs : ∀ (j : Nat) d, rs[j]? = some d → m.env.getD (ne + j) (.I 0) = d
 free : ∀ b, nb ≤ b → (b = nb ∨ b < nextB nb out.upd) → m.h b = .no
 old : ∀ b x, (b, x) ∈ out.upd → x.frz = true → b < nb
theorem frz_old {h : Nat → Blk} {nb : Nat} : ∀ (us : List (Nat × Blk)) (h : Nat → Blk), (∀ b x, (b, x) ∈ us → b < nb) → ∀ b, nb ≤ b → upl h us b = h b
 | [], _, _, _, _ => rfl
 | (b', x) :: us, h, hu, b, hb => by
  rw [upl, frz_old (h := h) us _ (fun b x hx => hu b x (List.mem_cons_of_mem _ hx)) b hb]
  exact upf_ne _ _ (by have := hu b' x (List.mem_cons_self ..); omega)
theorem immE_frz {h : Nat → Blk} {k : CK} {c : CV} {ns e us} (hi : immE T h k c = some (ns, e, us)) : ∀ b x, (b, x) ∈ us → x.frz = true := by
 unfold immE at hi
 intro b x hx
 split at hi
 ·split at hi <;> cases hi; cases hx
 ·split at hi <;> cases hi; cases hx
 ·split at hi
  ·split at hi <;> cases hi
   rw [List.mem_singleton] at hx; cases hx; rfl
  ·cases hi
 ·split at hi
  ·split at hi <;> cases hi
   rw [List.mem_singleton] at hx; cases hx; rfl
  ·cases hi
 ·cases hi
theorem immL_frz : ∀ (ks : List CK) (cs : List CV) {h : Nat → Blk} {ns es us}, immL T h ks cs = some (ns, es, us) → ∀ b x, (b, x) ∈ us → x.frz = true
 | [], [], h, ns, es, us, hi, b, x, hx => by cases hi; cases hx
 | [], _ :: _, _, _, _, _, hi, _, _, _ => by cases hi
 | _ :: _, [], _, _, _, _, hi, _, _, _ => by cases hi
 | k :: ks, c :: cs, h, ns, es, us, hi, b, x, hx => by
  unfold immL at hi
  cases h1 : immE T h k c with
  | none => rw [h1] at hi; cases hi
  | some y =>
   obtain ⟨n, e, u⟩ := y
   rw [h1] at hi
   simp only [Option.bind_eq_bind, Option.bind_some] at hi
   cases h2 : immL T (upl h u) ks cs with
   | none => rw [h2] at hi; cases hi
   | some z =>
    obtain ⟨n', e', u'⟩ := z
    rw [h2] at hi
    simp only [Option.bind_some, Option.some.injEq, Prod.mk.injEq] at hi
    obtain ⟨_, _, rfl⟩ := hi
    rcases List.mem_append.1 hx with hx | hx
    ·exact immE_frz h1 b x hx
    ·exact immL_frz ks cs h2 b x hx
theorem argsE_frz : ∀ (ps : List (Bool × List CK)) (ss : List SV) {h : Nat → Blk} {ns es us}, argsE T h ps ss = some (ns, es, us) → ∀ b x, (b, x) ∈ us → x.frz = true
 | [], [], h, ns, es, us, hi, b, x, hx => by cases hi; cases hx
 | [], _ :: _, _, _, _, _, hi, _, _, _ => by simp [argsE] at hi
 | _ :: _, [], _, _, _, _, hi, _, _, _ => by simp [argsE] at hi
 | (q, ks) :: ps, s :: ss, h, ns, es, us, hi, b, x, hx => by
  unfold argsE at hi
  have key : ∀ cs, (immL T h ks cs).bind (fun a => (argsE T (upl h a.2.2) ps ss).bind fun b => some (a.1 ++ b.1, a.2.1 ++ b.2.1, a.2.2 ++ b.2.2)) = some (ns, es, us) → x.frz = true := fun cs hi => by
   cases h1 : immL T h ks cs with
   | none => rw [h1] at hi; cases hi
   | some y =>
    obtain ⟨n, e, u⟩ := y
    rw [h1] at hi
    simp only [Option.bind_some] at hi
    cases h2 : argsE T (upl h u) ps ss with
    | none => rw [h2] at hi; cases hi
    | some z =>
     obtain ⟨n', e', u'⟩ := z
     rw [h2] at hi
     simp only [Option.bind_some, Option.some.injEq, Prod.mk.injEq] at hi
     obtain ⟨_, _, rfl⟩ := hi
     rcases List.mem_append.1 hx with hx | hx
     ·exact immL_frz ks cs h1 b x hx
     ·exact argsE_frz ps ss h2 b x hx
  simp only [Option.bind_eq_bind] at hi
  split at hi
  ·simp only [Option.bind_some] at hi; exact key _ hi
  ·split at hi
   ·simp only [Option.bind_some] at hi; exact key _ hi
   ·cases hi
  ·cases hi
theorem drop_free {us : List (Nat × Blk)} {x : Nat × Blk} {h : Nat → Blk} {nb : Nat} (hu : ∀ b y, (b, y) ∈ us → y.frz = true) (hold : ∀ b y, (b, y) ∈ us ++ [x] → y.frz = true → b < nb) : upl h ((us ++ [x]).dropLast) nb = h nb := by
 rw [List.dropLast_concat]
 exact frz_old (h := h) us h (fun b y hy => hold b y (List.mem_append.2 (.inl hy)) (hu b y hy)) nb (Nat.le_refl _)
theorem lit_free {h : Nat → Blk} {nb n : Nat} {t : TypeId} {ps : List (Nat × SV)} {out : Out} (hs : symLit T h nb t n ps = some out) (hno : h nb = .no) (hold : ∀ b x, (b, x) ∈ out.upd → x.frz = true → b < nb) : upl h (out.upd.dropLast) nb = .no := by
 unfold symLit elemOfT at hs
 split at hs
 case h_2 => cases hs
 simp only [Option.bind_eq_bind, Option.bind_some] at hs
 rename_i el _
 cases hk : T.cks el with
 | none => rw [hk] at hs; cases hs
 | some cks =>
 cases hz : zeroL T el with
 | none => rw [hk, hz] at hs; cases hs
 | some z =>
 rw [hk, hz] at hs
 simp only [Option.bind_some] at hs
 split at hs
 case isTrue => cases hs
 cases hb : symBuild h (fun i => some (i * cks.length, cks.length)) ps ((List.range (n * cks.length)).map fun k => z.getD (k % cks.length) .any) with
 | none => rw [hb] at hs; cases hs
 | some cs =>
 rw [hb] at hs
 simp only [Option.bind_some] at hs
 cases hi : immL T h ((List.range (n * cks.length)).map fun k => cks.getD (k % cks.length) .bool) cs with
 | none => rw [hi] at hs; cases hs
 | some x =>
 obtain ⟨ns, es, us⟩ := x
 rw [hi] at hs
 simp only [Option.bind_some, Option.some.injEq] at hs
 subst hs
 rw [drop_free (immL_frz _ _ hi) hold]; exact hno
theorem make_free {h : Nat → Blk} {nb : Nat} {t : TypeId} {l c : SV} {out : Out} (hs : symMake T h nb t l c = some out) (hno : h nb = .no) (hold : ∀ b x, (b, x) ∈ out.upd → x.frz = true → b < nb) : upl h (out.upd.dropLast) nb = .no := by
 unfold symMake at hs
 split at hs
 case h_2 => cases hs
 unfold elemOfT at hs
 split at hs
 case h_2 => cases hs
 simp only [Option.bind_eq_bind, Option.bind_some] at hs
 rename_i el _
 cases hk : T.cks el with
 | none => rw [hk] at hs; cases hs
 | some cks =>
 cases hz : zeroL T el with
 | none => rw [hk, hz] at hs; cases hs
 | some z =>
 rw [hk, hz] at hs
 simp only [Option.bind_some] at hs
 split at hs
 case isTrue => cases hs
 cases hi : immL T h cks z with
 | none => rw [hi] at hs; cases hs
 | some x =>
 obtain ⟨ns, es, us⟩ := x
 rw [hi] at hs
 simp only [Option.bind_some, Option.some.injEq] at hs
 subst hs
 rw [drop_free (immL_frz _ _ hi) hold]; exact hno
theorem base_ok (hm : MOk T w0 S0 m) {el : TypeId} {s : SV} {v : Value} {be : E} {kill : Option Nat} {ns : List E} (h : baseE m.h el s = some (be, kill, ns)) (hs : SVr T m s v) (hn : needsOk m.env ns) : ∃ rows, be.den m.env = .L rows ∧ BaseR T m el kill rows v := by
 unfold baseE at h
 split at h
 ·cases h
  exact ⟨[], rfl, rfl, hs⟩
 ·rename_i b el'
  split at h
  case h_2 => cases h
  rename_i el'' e hb
  split at h
  case isFalse => cases h
  rename_i he
  obtain ⟨rfl, rfl⟩ := he
  cases h
  rcases hs with hs | ⟨e', fz, rows, cap, h1, h2, h3⟩
  ·rw [hb] at hs; cases hs
  rw [hb] at h1; cases h1
  exact ⟨rows, h2, be, 0, rows.length, cap, rows, hb, h2, by omega, by simp, h3⟩
 ·rename_i b el' off len
  split at h
  case h_2 => cases h
  rename_i el'' e hb
  split at h
  case isFalse => cases h
  rename_i he
  obtain ⟨rfl, rfl⟩ := he
  cases h
  rcases hs with hs | ⟨e', fz, cap, o, l, h1, h2, h3, h4, _⟩
  ·rw [hb] at hs; cases hs
  rw [hb] at h1; cases h1
  obtain ⟨rows, cks, k1, _⟩ := hb ▸ hm.blk b
  have := hn _ (List.mem_singleton.2 rfl)
  simp only [E.den, O.den, U.den, h2, h3, k1, DV.int, DV.rows, DV.bool, decide_eq_true_eq] at this
  exact ⟨(rows.drop o).take l, sub_rows k1 h2 h3, e, o, l, cap, rows, hb, k1, by omega, rfl, h4⟩
 ·cases h
theorem sym_append_ok (hT : T.Ok P) (hm : MOk T w0 S0 m) {st xt ty : TypeId} {nb : Nat} {sb sx : SV} {vb vx : Value} {out : Out} (hno : m.h nb = .no) (h : symAppend2 T m.h nb st xt sb sx = some out) (hb : SVr T m sb vb) (hx : SVr T m sx vx) (hn : needsOk m.env out.needs)
  (hold : ∀ b x, (b, x) ∈ out.upd → x.frz = true → b < nb) : ∃ v m', (Builtin.append_ #[st, xt] ty #[vb, vx]).run P m.w = .ok v m'.w ∧ Went T w0 S0 m out.upd m' ∧ SVr T m' out.val v := by
 have hxt : ∃ d, T.und xt = some d ∧ ∀ k, d ≠ .int k := by
  unfold symAppend2 at h
  split at h
  ·rename_i he; exact ⟨_, he, fun k e => by cases e⟩
  ·rename_i he; exact ⟨_, he, fun k e => by cases e⟩
  ·cases h
 have h' : symAppend T m.h nb st sb sx = some out := by
  unfold symAppend2 at h
  split at h
  ·exact h
  ·exact h
  ·cases h
 clear h
 unfold symAppend elemOfT at h'
 split at h'
 case h_2 => cases h'
 rename_i el hu
 simp only [Option.bind_eq_bind, Option.bind_some] at h'
 cases hk : T.cks el with
 | none => rw [hk] at h'; cases h'
 | some cks =>
 cases hz : zeroL T el with
 | none => rw [hk, hz] at h'; cases h'
 | some z =>
 rw [hk, hz] at h'
 simp only [Option.bind_some] at h'
 split at h'
 case isTrue => cases h'
 rename_i hf
 simp at hf
 obtain ⟨hf, hzl⟩ := hf
 cases hbe : baseE m.h el sb with
 | none => rw [hbe] at h'; cases h'
 | some y =>
 obtain ⟨be, kill, nsub⟩ := y
 rw [hbe] at h'
 simp only [Option.bind_some] at h'
 have hzs : ∀ {w : World}, ∃ zv, (zeroValue el).run P w = .ok zv w ∧ zv.cells.size = cks.length := fun {w} => by
  obtain ⟨zv, h1, h2⟩ := zero_ok (P := P) (w := w) (m := m) hT hz
  exact ⟨zv, h1, by have := h2.1; simp at this; omega⟩
 have fits : ∀ {a b : E} {x y : List (List DV)}, a.den m.env = .I x.length → b.den m.env = .I y.length → needsOk m.env (sumFits a b) → x.length + y.length ≤ 1099511627776 := fun h1 h2 h3 => by
  have := h3 _ (List.mem_singleton.2 rfl)
  simp only [E.den, O.den, h1, h2, DV.int, DV.bool, decide_eq_true_eq] at this
  omega
 split at h'
 ·rename_i s
  split at h'
  case isFalse => cases h'
  rename_i hck
  subst hck
  cases h'
  obtain ⟨rows, hd, hB⟩ := base_ok hm hbe hb hn.left
  obtain ⟨x, h1, rfl, h2⟩ := Rd.str_inv (show CVr T m (.c .str s) vx from hx)
  obtain ⟨zv, hz1, hz2⟩ := hzs (w := m.w)
  have hlen : x.data.toList.length = (ofBytes x.data.toList).length := by simp [ofBytes]
  exact append_ok hT hm hu hk hf hz1 hz2 hxt hno hB src_str (by simp only [E.den, O.den, U.den, hd, h1, DV.rows, DV.str]) (fits (a := .U .len be) (b := .U .slen s) (by simp only [E.den, U.den, hd, DV.rows]) (by simp only [E.den, U.den, h1, DV.str, hlen]) hn.right)
 ·rename_i c _
  cases hi : immE T m.h (.lst el) c with
  | none => rw [hi] at h'; cases h'
  | some y =>
  obtain ⟨ns, e, us⟩ := y
  rw [hi] at h'
  simp only [Option.bind_some] at h'
  split at h'
  case isTrue => cases h'
  rename_i hus
  cases h'
  obtain ⟨rows, hd, hB⟩ := base_ok hm hbe hb hn.left
  obtain ⟨m1, f1, hr⟩ := imm_ok hm hx hi hn.right.left
  obtain ⟨rx, _, _, _, hdx, _⟩ := Rd.lst_inv hr
  rw [hdx] at hr
  obtain ⟨xs, hsrc⟩ := src_list hk hr
  obtain ⟨zv, hz1, hz2⟩ := hzs (w := m1.w)
  have hnot : ∀ b, kill = some b → m1.h b = m.h b := fun b hb' => by
   rw [f1.h]
   refine upl_other us _ ?_
   rw [Bool.eq_false_iff]
   intro hany
   apply hus
   rw [List.any_eq_true] at hany ⊢
   obtain ⟨u, hu1, hu2⟩ := hany
   exact ⟨u, hu1, by simp at hu2; simp [hb', hu2]⟩
  have hB1 : BaseR T m1 el kill rows vb := by
   unfold BaseR at hB ⊢
   cases kill with
   | none => exact hB
   | some b =>
    obtain ⟨e', o, l, cap, rs, g1, g2, g3, g4, g5⟩ := hB
    exact ⟨e', o, l, cap, rs, (hnot b rfl).trans g1, by rw [f1.env]; exact g2, g3, g4, by unfold SlR at g5 ⊢; rw [f1.ρ]; exact g5⟩
  have hno1 : m1.h nb = .no := by
   rw [f1.h, frz_old (h := m.h) us m.h (fun b y hy => hold b y (List.mem_append.2 (.inl hy)) (immE_frz hi b y hy)) nb (Nat.le_refl _)]
   exact hno
  obtain ⟨v, m2, g1, g2, g3⟩ := append_ok (e := .O .app be e) (ty := ty) hT f1.ok hu hk hf hz1 hz2 hxt hno1 hB1 hsrc (by rw [f1.env]; simp only [E.den, O.den, hd, hdx, DV.rows]) (fits (a := .U .len be) (b := .U .len e) (by simp only [E.den, U.den, hd, DV.rows]) (by simp only [E.den, U.den, hdx, DV.rows]) hn.right.right)
  rw [f1.w] at g1
  exact ⟨v, m2, g1, f1.went.trans g2, g3⟩
 ·cases h'
theorem op_sound {sig : FuncId → Option Sig} {o : Oper} {a : Act} {t : Operand → SV} {nb ne : Nat} {out : Out} {rs : List DV} (h : symop T sig o.op t m.h nb ne = some out) (hs : StepH P T sig w0 S0 m out nb ne rs) (hlook : ∀ x ∈ o.op.operands, SVr T m (t x) (a.eval x)) :
  Goes P o a m fun v m' => Went T w0 S0 m out.upd m' ∧ SVr T m' out.val v := by
 obtain ⟨hT, hgo, hm, hn, hsp, hrs, hfree, hold⟩ := hs
 have hno : m.h nb = .no := hfree nb (Nat.le_refl _) (.inl rfl)
 obtain ⟨dst, op, ty, pos, after, guard⟩ := o
 cases op with
 | move x =>
  cases h
  exact .inl ⟨a.eval x, m, rfl, same_went hm, hlook x (by simp [Op.operands])⟩
 | assign x =>
  cases h
  exact .inl ⟨a.eval x, m, rfl, same_went hm, hlook x (by simp [Op.operands])⟩
 | pick c x y =>
  simp only [symop] at h
  cases hp : symPick (t c) (t x) (t y) with
  | none => rw [hp] at h; cases h
  | some v =>
   rw [hp] at h; cases h
   obtain ⟨z, hz, hv⟩ := pick_sv hp (hlook c (by simp [Op.operands])) (hlook x (by simp [Op.operands])) (hlook y (by simp [Op.operands]))
   refine .inl ⟨_, m, ?_, same_went hm, hv⟩
   simp only [execOp, hz, asBool]
   cases z <;> rfl
 | alloc el =>
  simp only [symop] at h
  cases hz : zeroL T el with
  | none => rw [hz] at h; cases h
  | some z =>
   rw [hz] at h; cases h
   obtain ⟨v, m', h1, h2, h3⟩ := alloc_ok (P := P) hT hm hno hz
   exact .inl ⟨v, m', by simp [execOp, h1], h2, h3⟩
 | box el x =>
  simp only [symop] at h
  cases hz : (t x).cells? m.h with
  | none => rw [hz] at h; cases h
  | some z =>
   rw [hz] at h; cases h
   obtain ⟨v, m', h1, h2, h3⟩ := box_ok (P := P) (t := el) hm hno (hlook x (by simp [Op.operands])) hz
   exact .inl ⟨v, m', by simp [execOp, h1], h2, h3⟩
 | build tt ps =>
  simp only [symop] at h
  cases hb : buildT T m.h tt (ps.toList.map fun p => (p.1, t p.2)) with
  | none => rw [hb] at h; cases h
  | some cs =>
   rw [hb] at h; cases h
   obtain ⟨b, h1, h2⟩ := build_ok (P := P) (w := m.w) (vs := ps.map fun (i, x) => (i, a.eval x)) hT hb (by simp) (fun j p q hp hq => by
     rw [List.getElem?_map] at hp
     simp only [Array.toList_map, List.getElem?_map] at hq
     cases hj : ps.toList[j]? with
     | none => rw [hj] at hp; cases hp
     | some y =>
       rw [hj] at hp hq
       cases hp; cases hq
       exact ⟨rfl, hlook y.2 (by
         have := List.mem_of_getElem? hj
         simp [Op.operands]; exact ⟨y.1, by simpa using this⟩)⟩)
   exact .inl ⟨_, m, by simp [execOp, h1], same_went hm, b, rfl, h2⟩
 | buildSlice tt n ps =>
  simp only [symop] at h
  obtain ⟨v, m', h1, h2, h3⟩ := lit_ok (P := P) (vs := ps.map fun (i, x) => (i, a.eval x)) hT hm hno h (by simp) (fun j p q hp hq => by
      rw [List.getElem?_map] at hp
      simp only [Array.toList_map, List.getElem?_map] at hq
      cases hj : ps.toList[j]? with
      | none => rw [hj] at hp; cases hp
      | some y =>
        rw [hj] at hp hq
        cases hp; cases hq
        exact ⟨rfl, hlook y.2 (by
          have := List.mem_of_getElem? hj
          simp [Op.operands]; exact ⟨y.1, by simpa using this⟩)⟩) hn (lit_free h hno hold)
  exact .inl ⟨v, m', by simp [execOp, h1], h2, h3⟩
 | load tt x =>
  simp only [symop] at h
  cases hb : symLoad T m.h tt (t x) with
  | none => rw [hb] at h; cases h
  | some r =>
   obtain ⟨ns, val⟩ := r
   rw [hb] at h; cases h
   obtain ⟨u, h1, h2⟩ := load_ok (P := P) hT hm hb (hlook x (by simp [Op.operands])) hn
   exact .inl ⟨u, m, by simp [execOp, h1], same_went hm, h2⟩
 | store tt x y =>
  simp only [symop] at h
  cases hb : symStore T m.h tt (t y) (t x) with
  | none => rw [hb] at h; cases h
  | some r =>
   obtain ⟨ns, us⟩ := r
   rw [hb] at h; cases h
   obtain ⟨m', h1, h2⟩ := store_ok (P := P) hT hm hb (hlook x (by simp [Op.operands])) (hlook y (by simp [Op.operands])) hn
   exact .inr (.inl ⟨m', by simp [execOp, h1], h2, trivial⟩)
 | binOp bo xt x y yt =>
  simp only [symop] at h
  split at h
  case h_4 => cases h
  case h_1 =>
   rename_i c1 h1 h2
   have s1 := hlook x (by simp [Op.operands]); rw [h1] at s1
   have s2 := hlook y (by simp [Op.operands]); rw [h2] at s2
   have e2 : a.eval y = .slice none 0 0 := s2
   unfold symNilE at h
   split at h
   case h_2 => cases h
   rename_i el hu
   have fin : ∀ (ad : Option Addr) (l c : Nat) (isN b : Bool), a.eval x = .slice ad l c → ad.isNone = isN → nilB bo isN = some b → (do eqGuard bo xt x y (a.eval x) (a.eval y); binOp bo xt (a.eval x) (a.eval y) : Sem Value).run P m.w = .ok (.bool b) m.w := fun ad l c isN b hv hn hb => by
    rw [hv, e2]
    have hg : ∀ (u : Sem Value), (do eqGuard bo xt x y (.slice ad l c) (.slice none 0 0); u : Sem Value).run P m.w = u.run P m.w := fun u => by
     unfold eqGuard; split <;> simp [go_sem]
    rw [hg]
    unfold nilB at hb
    split at hb
    ·cases hb
     simp [binOp, run_equal_slice_nil m.w xt el ad l c (hT.und hu), hn]
    ·cases hb
     rw [run_neq_slice_nil m.w xt el ad l c (hT.und hu), hn]
    ·cases hb
   have out1 : ∀ (isN b : Bool) (ad : Option Addr) (l c : Nat), a.eval x = .slice ad l c → ad.isNone = isN → nilB bo isN = some b → Goes P ⟨dst, .binOp bo xt x y yt, ty, pos, after, guard⟩ a m fun v m' => Went T w0 S0 m [] m' ∧ SVr T m' (.one (.c .bool (.B b))) v := fun isN b ad l c hv hn hb => by
    refine .inl ⟨.bool b, m, ?_, same_went hm, (Rd.bool : Rd T m.w m.S .bool (.B b) (.bool b))⟩
    simp only [execOp]
    rw [Sem.run_bind, fin ad l c isN b hv hn hb]
    rfl
   split at h
   ·obtain ⟨b, hb, rfl⟩ := Option.map_eq_some_iff.1 h
    exact out1 true b none 0 0 s1 rfl hb
   ·rename_i el' e
    obtain ⟨b, hb, rfl⟩ := Option.map_eq_some_iff.1 h
    have hneed := hn _ (List.mem_singleton.2 rfl)
    obtain ⟨rows, ad, cap, cks, hE, hv, _⟩ := Rd.lst_inv (show Rd T m.w m.S (.lst el') (e.den m.env) (a.eval x) from s1)
    obtain ⟨cks', q, o, u, _, hk', hn', hc, ha, _⟩ := (show Rd T m.w m.S (.lst el') (.L rows) (.slice ad rows.length cap) from by rw [← hE, ← hv]; exact s1).lst_all
    simp only [E.den, O.den, U.den, hE, DV.rows, DV.int, DV.bool, decide_eq_true_eq] at hneed
    have hne : rows ≠ [] := fun e => by rw [e] at hneed; simp at hneed
    obtain ⟨rfl, _⟩ := ha hne
    exact out1 false b _ _ _ hv rfl hb
   ·rename_i b' el'
    split at h
    case h_2 => cases h
    rename_i el'' e fz hb'
    obtain ⟨b, hb, rfl⟩ := Option.map_eq_some_iff.1 h
    have hneed := hn _ (List.mem_singleton.2 rfl)
    rcases (show CVr T m (.own b' el') (a.eval x) from s1) with hd | ⟨e', fz', rows, cap, g1, g2, g3⟩
    ·rw [hb'] at hd; cases hd
    rw [hb'] at g1; cases g1
    simp only [E.den, O.den, U.den, g2, DV.rows, DV.int, DV.bool, decide_eq_true_eq] at hneed
    unfold SlR at g3
    split at g3
    ·obtain ⟨_, h0, _⟩ := g3; omega
    ·obtain ⟨sz, ad, _, hv, _⟩ := g3
     exact out1 false b _ _ _ hv rfl hb
   ·cases h
  case h_3 =>
   rename_i c1 c2 h1 h2
   cases hb : symEqA T bo xt (.agg c1) (.agg c2) with
   | none => rw [hb] at h; cases h
   | some e =>
    rw [hb] at h; cases h
    have s1 := hlook x (by simp [Op.operands]); rw [h1] at s1
    have s2 := hlook y (by simp [Op.operands]); rw [h2] at s2
    obtain ⟨u, g1, g2⟩ := eqA_run (P := P) (w := m.w) (x := x) (y := y) hT hb s1 s2
    refine .inl ⟨u, m, ?_, same_went hm, g2⟩
    simp only [execOp]
    rw [Sem.run_bind, g1]
    rfl
  rename_i c1 c2 _ h1 h2
  cases hb : symBin T bo xt c1 c2 with
  | none => rw [hb] at h; cases h
  | some r =>
   obtain ⟨ns, c⟩ := r
   rw [hb] at h; cases h
   have s1 := hlook x (by simp [Op.operands]); rw [h1] at s1
   have s2 := hlook y (by simp [Op.operands]); rw [h2] at s2
   obtain ⟨u, g1, g2⟩ := bin_run (P := P) (w := m.w) (x := x) (y := y) hT hb s1 s2 hn
   refine .inl ⟨u, m, ?_, same_went hm, foldC_ok g2⟩
   simp only [execOp]
   rw [Sem.run_bind, g1]
   rfl
 | unOp uo xt x =>
  simp only [symop] at h
  split at h
  case h_2 => cases h
  rename_i c1 h1
  cases hb : symUn uo c1 with
  | none => rw [hb] at h; cases h
  | some r =>
   obtain ⟨ns, c⟩ := r
   rw [hb] at h; cases h
   have s1 := hlook x (by simp [Op.operands]); rw [h1] at s1
   obtain ⟨u, g1, g2⟩ := un_ok (P := P) (w := m.w) hb s1 hn
   exact .inl ⟨u, m, by simp [execOp, g1], same_went hm, g2⟩
 | convert src dt x =>
  simp only [symop] at h
  split at h
  case h_2 => cases h
  rename_i c1 h1
  have s1 := hlook x (by simp [Op.operands]); rw [h1] at s1
  split at h
  ·rename_i c hc
   cases h
   obtain ⟨u, g1, g2⟩ := conv_ok (P := P) (w := m.w) hT hc s1
   exact .inl ⟨u, m, by simp [execOp, g1], same_went hm, g2⟩
  ·obtain ⟨u, m', g1, g2, g3⟩ := convB_ok (P := P) hT hm h s1 hn
   exact .inl ⟨u, m', by simp [execOp, g1], g2, g3⟩
 | makeSlice tt l c =>
  simp only [symop] at h
  obtain ⟨v, m', g1, g2, g3⟩ := make_ok (P := P) hT hm hno h (hlook l (by simp [Op.operands])) (hlook c (by simp [Op.operands])) hn (make_free h hno hold)
  exact .inl ⟨v, m', by simp [execOp, g1], g2, g3⟩
 | slice xt x lo hi mx =>
  cases mx with
  | some _ => simp [symop] at h
  | none =>
   simp only [symop] at h
   cases hb : symSlice T m.h xt (t x) (lo.map t) (hi.map t) with
   | none => rw [hb] at h; cases h
   | some r =>
    obtain ⟨ns, val⟩ := r
    rw [hb] at h; cases h
    have hopt : ∀ (b : Option Operand), (∀ y, b = some y → y ∈ (Op.slice xt x lo hi none).operands) → OptR T m (b.map t) (b.map a.eval) := fun b hb => by
     cases b with
     | none => trivial
     | some y => exact hlook y (hb y rfl)
    obtain ⟨u, g1, g2⟩ := slice_ok (P := P) (w := m.w) hT hm hb (hlook x (by simp [Op.operands])) (hopt lo (fun y hy => by subst hy; simp [Op.operands])) (hopt hi (fun y hy => by subst hy; simp [Op.operands])) hn
    exact .inl ⟨u, m, by simp [execOp, g1], same_went hm, g2⟩
 | fieldAddr xt x f =>
  simp only [symop] at h
  cases hb : symFieldAddr T m.h xt f (t x) with
  | none => rw [hb] at h; cases h
  | some v =>
   rw [hb] at h; cases h
   obtain ⟨u, g1, g2⟩ := fieldAddr_ok (P := P) (w := m.w) hT hb (hlook x (by simp [Op.operands]))
   exact .inl ⟨u, m, by simp [execOp, g1], same_went hm, g2⟩
 | field xt x f =>
  simp only [symop] at h
  cases hb : symField T xt f (t x) with
  | none => rw [hb] at h; cases h
  | some v =>
   rw [hb] at h; cases h
   obtain ⟨u, g1, g2⟩ := field_ok (P := P) (w := m.w) hT hb (hlook x (by simp [Op.operands]))
   exact .inl ⟨u, m, by simp [execOp, g1], same_went hm, g2⟩
 | indexAddr xt x i =>
  simp only [symop] at h
  cases hb : symIndexAddr T m.h xt (t x) (t i) with
  | none => rw [hb] at h; cases h
  | some r =>
   obtain ⟨ns, val⟩ := r
   rw [hb] at h; cases h
   obtain ⟨u, g1, g2⟩ := indexAddr_ok (P := P) (w := m.w) hT hm hb (hlook x (by simp [Op.operands])) (hlook i (by simp [Op.operands])) hn
   exact .inl ⟨u, m, by simp [execOp, g1], same_went hm, g2⟩
 | index xt x i =>
  simp only [symop] at h
  cases hb : symIndex T xt (t x) (t i) with
  | none => rw [hb] at h; cases h
  | some r =>
   obtain ⟨ns, val⟩ := r
   rw [hb] at h; cases h
   obtain ⟨u, g1, g2⟩ := index_ok (P := P) (w := m.w) hT hb (hlook x (by simp [Op.operands])) (hlook i (by simp [Op.operands])) hn
   exact .inl ⟨u, m, by simp [execOp, g1], same_went hm, g2⟩
 | extract x i =>
  simp only [symop] at h
  cases hb : symExtract i (t x) with
  | none => rw [hb] at h; cases h
  | some v =>
   rw [hb] at h; cases h
   obtain ⟨u, g1, g2⟩ := extract_ok (P := P) (w := m.w) hb (hlook x (by simp [Op.operands]))
   exact .inl ⟨u, m, by simp [execOp, g1], same_went hm, g2⟩
 | nilCheck x =>
  have hv := hlook x (by simp [Op.operands])
  simp only [symop] at h
  unfold symNilC at h
  split at h
  ·rename_i b o hs
   rw [hs] at hv
   split at h
   case h_2 => cases h
   rename_i hb
   cases h
   rcases id hv with hd | ⟨l, q, cs, h1, h2, h3⟩
   ·rw [hb] at hd; cases hd
   ·exact .inl ⟨a.eval x, m, by simp [execOp, h3], same_went hm, hv⟩
  ·rename_i b el r o e hs
   rw [hs] at hv
   split at h
   case h_2 => cases h
   rename_i hb
   cases h
   rcases id hv with hd | ⟨e', fz, rows, sz, q, base, cs, r', h1, h2, h3, h4, h5, h6, h7⟩
   ·rw [hb] at hd; cases hd
   ·exact .inl ⟨a.eval x, m, by simp [execOp, h7], same_went hm, hv⟩
  ·rename_i el l r o hs
   rw [hs] at hv
   cases h
   obtain ⟨rows, cap, cks, q, o', r', h1, h2, h3, h4, h5, h6⟩ := id hv
   exact .inl ⟨a.eval x, m, by simp [execOp, h6], same_went hm, hv⟩
  ·rename_i f hs
   rw [hs] at hv
   cases h
   have h6 : a.eval x = .func (.func f) #[] #[] := hv
   exact .inl ⟨a.eval x, m, by simp [execOp, h6], same_went hm, hv⟩
  ·cases h
 | panic x =>
  cases h
  have := hn _ (List.mem_singleton.2 rfl)
  cases this
 | call c =>
  obtain ⟨callee, args, ts⟩ := c
  have harg : ∀ x ∈ args, SVr T m (t x) (a.eval x) := fun x hx => hlook x (by simp [Op.operands, Call.operands, hx])
  cases callee with
  | invoke r n => simp [symop] at h
  | value g =>
   simp only [symop] at h
   split at h
   case h_2 => cases h
   rename_i f hf
   have hg := hlook g (by cases g <;> simp [Op.operands, Call.operands]); rw [hf] at hg
   have hg' : a.eval g = .func (.func f) #[] #[] := hg
   split at h
   case isFalse => cases h
   rename_i hkey
   generalize pickK sig f (args.toList.map t) = g' at h hkey
   cases hsg : sig g' with
   | none => rw [hsg] at h; cases h
   | some sg =>
   rw [hsg] at h
   simp only [Option.bind_eq_bind, Option.bind_some] at h
   have hvals : ValsR T m (args.toList.map t) (args.toList.map a.eval) := ⟨by simp, fun j s v hs hv => by
     rw [List.getElem?_map] at hs hv
     cases hj : args.toList[j]? with
     | none => rw [hj] at hs; cases hs
     | some x =>
       rw [hj] at hs hv
       cases hs; cases hv
       exact harg x (by have := List.mem_of_getElem? hj; simpa using this)⟩
   have hc : Calls P f (args.toList.map a.eval).toArray m.w fun e w' => ∃ v m', e = .returned v ∧ m'.w = w' ∧ Went T w0 S0 m out.upd m' ∧ SVr T m' out.val v := by
    cases hpat : sg.pat with
    | some pt =>
    rw [hpat] at h
    exact callP_ok (P := P) (g := g') (f := f) (rs := rs) hm h hvals hn (fun es he => by
      obtain ⟨sg', h1, h2⟩ := hsp g' es _ he
      rw [hsg] at h1; cases h1
      unfold Sp at h2
      rw [hpat, hkey] at h2
      exact h2) hrs (fun b hb hb2 => hfree b hb (.inr hb2))
    | none =>
    rw [hpat] at h
    simp only at h
    exact call_ok (P := P) (g := g') (f := f) (vs := args.toList.map a.eval) (rs := rs) hm h hvals.1 hvals.2 hn (fun es he => by
     obtain ⟨sg', h1, h2⟩ := hsp g' es _ he
     rw [hsg] at h1; cases h1
     unfold Sp at h2
     rw [hpat, hkey] at h2
     exact h2) hrs (fun b hb hb2 => hfree b hb (.inr (Nat.lt_of_lt_of_le hb2 (call_top h)))) (fun us hus b hb hb2 => by
    have htop := call_top h
    unfold symCall at h
    cases ha : argsE T m.h sg.params (args.toList.map t) with
    | none => rw [ha] at h; cases h
    | some y =>
      obtain ⟨ns, es, us'⟩ := y
      rw [ha] at h
      simp only [Option.bind_eq_bind, Option.bind_some, Option.some.injEq] at h
      subst h
      have hus2 := List.append_cancel_right hus
      subst hus2
      rw [frz_old (h := m.h) _ m.h (fun b' x hx => by
        split at hx
        · cases hx
        · exact hold b' x (List.mem_append.2 (.inl (by rw [if_neg (by assumption)]; exact hx))) (argsE_frz _ _ ha b' x hx)) b hb]
      exact hfree b hb (.inr (Nat.lt_of_lt_of_le hb2 htop)))
   refine .inr (.inr ⟨f, (args.toList.map a.eval).toArray, ?_, hc⟩)
   have e : args.map a.eval = (args.toList.map a.eval).toArray := by apply Array.ext'; simp
   rw [← e]
   simp only [execOp, resolve, Sem.run_bind, hg', Deferred.ofValue, invoke]
   simp [go_sem]
   exact run_go (by have := hgo g' sg hsg; rw [hkey] at this; exact this) _ m.w
  | builtin b =>
   have hred : ∀ (s : Sem Value) (v : Value) (w' : World), (∀ cs, builtin b ts ty cs (args.map a.eval) = (do pure (.value (← s)))) → s.run P m.w = .ok v w' →
     (execOp a.eval ⟨dst, .call ⟨.builtin b, args, ts⟩, ty, pos, after, guard⟩).run P m.w = .ok (.value v) w' := fun s v w' h1 h2 => by
    simp only [execOp, resolve, Sem.run_bind, Sem.run_pure, Result.andThen_ok, invoke]
    rw [h1]
    simp [h2]
   have hl1 : ∀ x, args.toList = [x] → args = #[x] := fun x hx => by apply Array.ext'; simpa using hx
   have hl2 : ∀ x y, args.toList = [x, y] → args = #[x, y] := fun x y hx => by apply Array.ext'; simpa using hx
   cases b with
   | len =>
    simp only [symop] at h
    split at h
    case h_2 => cases h
    rename_i x tt hx ht
    obtain rfl := hl1 x hx
    cases hb : symLen m.h T tt (t x) with
    | none => rw [hb] at h; cases h
    | some e =>
     rw [hb] at h; cases h
     obtain ⟨u, g1, g2⟩ := len_ok (P := P) (w := m.w) (ty := ty) (ts := ts) hT hm hb (harg x (by simp)) (by rw [← Array.getElem?_toList, ht]; rfl)
     exact .inl ⟨u, m, hred _ u m.w (fun _ => rfl) (by simpa using g1), same_went hm, g2⟩
   | append =>
    simp only [symop] at h
    split at h
    case h_2 => cases h
    rename_i x y st xt hx ht
    obtain rfl := hl2 x y hx
    have hts : ts = #[st, xt] := by apply Array.ext'; simpa using ht
    subst hts
    obtain ⟨u, m', g1, g2, g3⟩ := sym_append_ok (P := P) (ty := ty) hT hm hno h (harg x (by simp)) (harg y (by simp)) hn hold
    exact .inl ⟨u, m', hred _ u m'.w (fun _ => rfl) (by simpa using g1), g2, g3⟩
   | min =>
    simp only [symop] at h
    split at h
    case h_2 => cases h
    rename_i c cs hx
    cases hb : mmE false c cs with
    | none => rw [hb] at h; cases h
    | some v =>
     rw [hb] at h; cases h
     obtain ⟨l1, l2⟩ := onesOf_ok (T := T) (m := m) (vs := args.toList.map a.eval) hx (by simp) (fun j s v hs hv => by
       rw [List.getElem?_map] at hs hv
       cases hj : args.toList[j]? with
       | none => rw [hj] at hs; cases hs
       | some x =>
         rw [hj] at hs hv
         cases hs; cases hv
         exact harg x (by have := List.mem_of_getElem? hj; simpa using this))
     cases hvs : args.toList.map a.eval with
     | nil => rw [hvs] at l1; cases l1
     | cons v0 vs =>
      rw [hvs] at l1 l2
      obtain ⟨u, g1, g2⟩ := mm_ok (P := P) (w := m.w) false hb (l2 0 c v0 rfl rfl) (by simpa using l1) (fun j c' v' hc hv => l2 (j + 1) c' v' hc hv)
      refine .inl ⟨u, m, hred _ u m.w (fun _ => rfl) ?_, same_went hm, g2⟩
      unfold Builtin.min_
      simp only [Array.toList_map, hvs]
      exact g1
   | max =>
    simp only [symop] at h
    split at h
    case h_2 => cases h
    rename_i c cs hx
    cases hb : mmE true c cs with
    | none => rw [hb] at h; cases h
    | some v =>
     rw [hb] at h; cases h
     obtain ⟨l1, l2⟩ := onesOf_ok (T := T) (m := m) (vs := args.toList.map a.eval) hx (by simp) (fun j s v hs hv => by
       rw [List.getElem?_map] at hs hv
       cases hj : args.toList[j]? with
       | none => rw [hj] at hs; cases hs
       | some x =>
         rw [hj] at hs hv
         cases hs; cases hv
         exact harg x (by have := List.mem_of_getElem? hj; simpa using this))
     cases hvs : args.toList.map a.eval with
     | nil => rw [hvs] at l1; cases l1
     | cons v0 vs =>
      rw [hvs] at l1 l2
      obtain ⟨u, g1, g2⟩ := mm_ok (P := P) (w := m.w) true hb (l2 0 c v0 rfl rfl) (by simpa using l1) (fun j c' v' hc hv => l2 (j + 1) c' v' hc hv)
      refine .inl ⟨u, m, hred _ u m.w (fun _ => rfl) ?_, same_went hm, g2⟩
      unfold Builtin.max_
      simp only [Array.toList_map, hvs]
      exact g1
   | _ => simp [symop] at h
 | _ => simp [symop] at h
end
inductive Tree where
 | need (e : E) (t : Tree)
 | br (e : E) (a b : Tree)
 | call (f : FuncId) (xs : List E) (n : Nat) (t : Tree)
 | loop (is : List E) (b : Tree)
 | again (lv : Nat) (es : List E)
 | ret (es : List E)
deriving DecidableEq
def Tree.den (sp : FuncId → List DV → List DV → Prop) (post : List DV → Prop) : Tree → List DV → List (List DV → Prop) → Prop
 | .need e t, env, cx => (e.den env).bool = true ∧ t.den sp post env cx
 | .br e a b, env, cx => ((e.den env).bool = true → a.den sp post env cx) ∧ ((e.den env).bool = false → b.den sp post env cx)
 | .call f xs n t, env, cx => ∃ rs, rs.length = n ∧ sp f (xs.map (·.den env)) rs ∧ t.den sp post (env ++ rs) cx
 | .loop is b, env, cx => ∃ (I : List DV → Prop) (μ : List DV → Nat), I (is.map (·.den env)) ∧ ∀ vs, vs.length = is.length → I vs → b.den sp post (env ++ vs) (cx ++ [fun vs' => I vs' ∧ μ vs' < μ vs])
 | .again lv es, env, cx => ∃ p, cx[lv]? = some p ∧ p (es.map (·.den env))
 | .ret es, env, _ => post (es.map (·.den env))
def CV.bd (n : Nat) : CV → Bool
 | .c _ e => e.bd n
 | .sub _ _ a b => a.bd n && b.bd n
 | .ap _ _ a _ b => a.bd n && b.bd n
 | .ip _ a b _ => a.bd n && b.bd n
 | _ => true
def SV.bd (n : Nat) : SV → Bool
 | .one c => c.bd n
 | .agg l => l.all (·.bd n)
 | .tup l => l.all fun p => p.2.all (·.bd n)
def Blk.bd (n : Nat) : Blk → Bool
 | .box l => l.all (·.bd n)
 | .arr _ e _ => e.bd n
 | _ => true
structure St where
 t : List (Nat × SV)
 h : List (Nat × Blk)
 nb : Nat
 ne : Nat
 lv : Nat
 nt : Nat
deriving DecidableEq
def St.get (st : St) (i : Nat) : SV := (st.t.lookup i).getD (.one .any)
def St.blk (st : St) (b : Nat) : Blk := (st.h.lookup b).getD .no
def St.put (st : St) (d : Option Tmp) (v : SV) : St := match d with
 | some d => { st with t := (d, v) :: st.t }
 | none => st
def Out.n (o : Out) : Nat := match o.call with
 | some (_, _, n) => n
 | none => 0
def okStep (st : St) (o : Oper) (out : Out) : Bool :=
 out.needs.all (·.bd st.ne) && ((match out.call with | some (_, xs, _) => xs.all (·.bd st.ne) | none => true) && (out.val.bd (st.ne + out.n) && (out.upd.all (fun p => p.2.bd (st.ne + out.n)) && (out.upd.all (fun p => !p.2.frz || decide (p.1 < st.nb)) && (match o.dst with | some d => decide (d < st.nt) | none => true)))))
def St.step (T : Tab) (sig : FuncId → Option Sig) (st : St) (o : Oper) : Option (Out × St) := do
 let out ← symop T sig o.op (opLook st.get) st.blk st.nb st.ne
 if okStep st o out then
  some (out, { st with t := (match o.dst with | some d => (d, out.val) :: st.t | none => st.t), h := out.upd.reverse ++ st.h, nb := nextB st.nb out.upd, ne := st.ne + out.n })
 else none
def wrapN : List E → Tree → Tree
 | [], t => t
 | e :: r, t => .need e (wrapN r t)
def wrapC : Option (FuncId × List E × Nat) → Tree → Tree
 | none, t => t
 | some (f, xs, n), t => .call f xs n t
def rex (T : Tab) (sig : FuncId → Option Sig) (ops : Array Oper) : List Oper → St → (St → List (St × Option Out) → Option Tree) → Option Tree
 | [], st, k => k st []
 | o :: r, st, k =>
  let go (st : St) : Option Tree := do
   let (out, st') ← st.step T sig o
   let t ← rex T sig ops r st' fun s l => k s ((st, some out) :: l)
   some (wrapN out.needs (wrapC out.call t))
  let skip (st : St) : Option Tree := match o.dst with
   | some d => if d < st.nt then rex T sig ops r (st.put o.dst (.tup [])) fun s l => k s ((st, none) :: l) else none
   | none => rex T sig ops r st fun s l => k s ((st, none) :: l)
  match o.guard with
  | none => go st
  | some (j, want) => match (ops[j]?).bind (·.dst) with
   | none => none
   | some d => match st.get d with
    | .tup [] => skip st
    | .one (.c .bool (.B b)) => if b = want then go st else skip st
    | .one (.c .bool e) =>
     if e.bd st.ne then do
      let a ← (if want then go else skip) (st.put (some d) (.one (.c .bool (.B true))))
      let b ← (if want then skip else go) (st.put (some d) (.one (.c .bool (.B false))))
      some (.br e a b)
     else none
    | _ => none
inductive Path (T : Tab) (sig : FuncId → Option Sig) (ops : Array Oper) (env : List DV) : List Oper → St → List (St × Option Out) → St → Prop
 | nil (st : St) : Path T sig ops env [] st [] st
 | go {o : Oper} {r : List Oper} {st st1 st2 : St} {out : Out} {l} (hg : o.guard = none ∨ ∃ j want d, o.guard = some (j, want) ∧ (ops[j]?).bind (·.dst) = some d ∧ st.get d = .one (.c .bool (.B want)))
   (hs : st.step T sig o = some (out, st1)) (h : Path T sig ops env r st1 l st2) : Path T sig ops env (o :: r) st ((st, some out) :: l) st2
 | skip {o : Oper} {r : List Oper} {st st2 : St} {l} {j : Nat} {want : Bool} {d : Nat} (hg : o.guard = some (j, want)) (hd : (ops[j]?).bind (·.dst) = some d) (hv : st.get d = .one (.c .bool (.B (!want))) ∨ st.get d = .tup [])
   (hn : ∀ d, o.dst = some d → d < st.nt) (h : Path T sig ops env r (st.put o.dst (.tup [])) l st2) : Path T sig ops env (o :: r) st ((st, none) :: l) st2
 | fork {o : Oper} {r : List Oper} {st st2 : St} {l} {d : Nat} {e : E} {b : Bool} (hv : st.get d = .one (.c .bool e)) (he : (e.den env).bool = b) (h : Path T sig ops env (o :: r) (st.put (some d) (.one (.c .bool (.B b)))) l st2) : Path T sig ops env (o :: r) st l st2
def FactL (P : Program) (T : Tab) (sig : FuncId → Option Sig) (env : List DV) (l : List (St × Option Out)) : Prop :=
 ∀ s out, (s, some out) ∈ l → needsOk env out.needs ∧ ∀ f xs n, out.call = some (f, xs, n) → ∃ rs sg, sig f = some sg ∧ Sp P T sg f (xs.map (·.den env)) rs ∧ ∀ (j : Nat) d, rs[j]? = some d → env.getD (s.ne + j) (.I 0) = d
section
variable {P : Program} {T : Tab} {sig : FuncId → Option Sig} {ops : Array Oper} {post : List DV → Prop}
def SpF (P : Program) (T : Tab) (sig : FuncId → Option Sig) (f : FuncId) (xs rs : List DV) : Prop := ∃ sg, sig f = some sg ∧ Sp P T sg f xs rs
theorem wrapN_den {sp : FuncId → List DV → List DV → Prop} {env : List DV} {cx} : ∀ {l : List E} {t : Tree}, (wrapN l t).den sp post env cx → needsOk env l ∧ t.den sp post env cx
 | [], t, h => ⟨(fun e he => by cases he), h⟩
 | e :: r, t, h => by
  obtain ⟨h1, h2⟩ := h
  obtain ⟨h3, h4⟩ := wrapN_den h2
  exact ⟨fun x hx => by
    rcases List.mem_cons.1 hx with rfl | hx
    · exact h1
    · exact h3 x hx, h4⟩
theorem needs_ext {env t : List DV} {l : List E} {n : Nat} (hn : env.length = n) (hb : l.all (·.bd n) = true) (h : needsOk env l) : needsOk (env ++ t) l := fun e he => by
 subst hn
 rw [E.den_ext env t e (List.all_eq_true.1 hb e he)]
 exact h e he
theorem den_ext_map {env t : List DV} {l : List E} {n : Nat} (hn : env.length = n) (hb : l.all (·.bd n) = true) : l.map (·.den (env ++ t)) = l.map (·.den env) := by
 subst hn
 exact List.map_congr_left fun e he => E.den_ext env t e (List.all_eq_true.1 hb e he)
theorem rex_peel : ∀ (r : List Oper) (st : St) (k : St → List (St × Option Out) → Option Tree) (tree : Tree) (env : List DV) (cx), rex T sig ops r st k = some tree → env.length = st.ne → tree.den (SpF P T sig) post env cx →
  ∃ x l st' tr, Path T sig ops (env ++ x) r st l st' ∧ FactL P T sig (env ++ x) l ∧ (env ++ x).length = st'.ne ∧ st'.lv = st.lv ∧ st'.nt = st.nt ∧ k st' l = some tr ∧ tr.den (SpF P T sig) post (env ++ x) cx
 | [], st, k, tree, env, cx, h, hn, hd => ⟨[], [], st, tree, .nil st, (fun s out hs => by cases hs), by simpa using hn, rfl, rfl, h, by simpa using hd⟩
 | o :: r, st, k, tree, env, cx, h, hn, hd => by
  -- the operation carried out
  have hgo : ∀ (s : St) (tree : Tree), s.ne = st.ne → s.lv = st.lv → s.nt = st.nt → (s.step T sig o).bind (fun p => (rex T sig ops r p.2 fun s' l => k s' ((s, some p.1) :: l)).bind fun t => some (wrapN p.1.needs (wrapC p.1.call t))) = some tree → tree.den (SpF P T sig) post env cx →
    (o.guard = none ∨ ∃ j want d, o.guard = some (j, want) ∧ (ops[j]?).bind (·.dst) = some d ∧ s.get d = .one (.c .bool (.B want))) →
    ∃ x l st' tr, Path T sig ops (env ++ x) (o :: r) s l st' ∧ FactL P T sig (env ++ x) l ∧ (env ++ x).length = st'.ne ∧ st'.lv = st.lv ∧ st'.nt = st.nt ∧ k st' l = some tr ∧ tr.den (SpF P T sig) post (env ++ x) cx := fun s tree e1 e2 e3 h hd hg => by
   cases hs : s.step T sig o with
   | none => rw [hs] at h; cases h
   | some p =>
   obtain ⟨out, s1⟩ := p
   rw [hs] at h
   simp only [Option.bind_some] at h
   cases hr : rex T sig ops r s1 fun s' l => k s' ((s, some out) :: l) with
   | none => rw [hr] at h; cases h
   | some t =>
   rw [hr] at h
   simp only [Option.bind_some, Option.some.injEq] at h
   subst h
   obtain ⟨g1, g2⟩ := wrapN_den hd
   have hs' := hs
   unfold St.step at hs'
   cases ho : symop T sig o.op (opLook s.get) s.blk s.nb s.ne with
   | none => rw [ho] at hs'; cases hs'
   | some out' =>
   rw [ho] at hs'
   simp only [Option.bind_eq_bind, Option.bind_some] at hs'
   split at hs'
   case isFalse => cases hs'
   rename_i hc
   simp only [Option.some.injEq, Prod.mk.injEq] at hs'
   obtain ⟨rfl, rfl⟩ := hs'
   unfold okStep at hc
   simp only [Bool.and_eq_true] at hc
   obtain ⟨c1, c2, c3, c4, c5, c6⟩ := hc
   have hns : env.length = s.ne := by rw [hn, e1]
   cases hcl : out'.call with
   | none =>
    rw [hcl] at g2
    have hn0 : out'.n = 0 := by unfold Out.n; rw [hcl]
    obtain ⟨x, l, st', tr, p1, p2, p3, p4, p5, p6, p7⟩ := rex_peel r _ _ t env cx hr (by simp only [hn0]; omega) g2
    refine ⟨x, _, st', tr, .go hg hs p1, fun s0 out0 hm => ?_, p3, p4.trans e2, p5.trans e3, p6, p7⟩
    rcases List.mem_cons.1 hm with hm | hm
    ·cases hm
     exact ⟨needs_ext hns c1 g1, fun f xs n hf => by rw [hcl] at hf; cases hf⟩
    ·exact p2 s0 out0 hm
   | some y =>
    obtain ⟨f, xs, n⟩ := y
    rw [hcl] at g2 c2
    have hn0 : out'.n = n := by unfold Out.n; rw [hcl]
    obtain ⟨rs, q1, ⟨sg, q2, q3⟩, q4⟩ := g2
    obtain ⟨x, l, st', tr, p1, p2, p3, p4, p5, p6, p7⟩ := rex_peel r _ _ t (env ++ rs) cx hr (by simp only [hn0, List.length_append]; omega) q4
    rw [List.append_assoc] at p1 p2 p3 p7
    refine ⟨rs ++ x, _, st', tr, .go hg hs p1, fun s0 out0 hm => ?_, p3, p4.trans e2, p5.trans e3, p6, p7⟩
    rcases List.mem_cons.1 hm with hm | hm
    ·cases hm
     refine ⟨needs_ext hns c1 g1, fun f' xs' n' hf => ?_⟩
     rw [hcl] at hf; cases hf
     refine ⟨rs, sg, q2, by rw [den_ext_map hns c2]; exact q3, fun j d hj => ?_⟩
     rw [← List.append_assoc, List.getD_eq_getElem?_getD, List.getElem?_append_left (by have := (List.getElem?_eq_some_iff.1 hj).1; simp; omega), List.getElem?_append_right (by omega), show s.ne + j - env.length = j by omega, hj]
     rfl
    ·exact p2 s0 out0 hm
  have hskip : ∀ (s : St) (tree : Tree) (j : Nat) (want : Bool) (d : Nat), s.ne = st.ne → s.lv = st.lv → s.nt = st.nt → (match o.dst with
      | some d => if d < s.nt then rex T sig ops r (s.put o.dst (.tup [])) fun s' l => k s' ((s, none) :: l) else none
      | none => rex T sig ops r s fun s' l => k s' ((s, none) :: l)) = some tree → tree.den (SpF P T sig) post env cx →
    o.guard = some (j, want) → (ops[j]?).bind (·.dst) = some d → (s.get d = .one (.c .bool (.B (!want))) ∨ s.get d = .tup []) →
    ∃ x l st' tr, Path T sig ops (env ++ x) (o :: r) s l st' ∧ FactL P T sig (env ++ x) l ∧ (env ++ x).length = st'.ne ∧ st'.lv = st.lv ∧ st'.nt = st.nt ∧ k st' l = some tr ∧ tr.den (SpF P T sig) post (env ++ x) cx := fun s tree j want d e1 e2 e3 h hd hg hdd hv => by
   have fin : ∀ s1 : St, s1 = s.put o.dst (.tup []) → s1.ne = st.ne → s1.lv = st.lv → s1.nt = st.nt → (∀ d, o.dst = some d → d < s.nt) → (rex T sig ops r s1 fun s' l => k s' ((s, none) :: l)) = some tree →
     ∃ x l st' tr, Path T sig ops (env ++ x) (o :: r) s l st' ∧ FactL P T sig (env ++ x) l ∧ (env ++ x).length = st'.ne ∧ st'.lv = st.lv ∧ st'.nt = st.nt ∧ k st' l = some tr ∧ tr.den (SpF P T sig) post (env ++ x) cx := fun s1 es f1 f2 f3 f4 f5 => by
    obtain ⟨x, l, st', tr, p1, p2, p3, p4, p5, p6, p7⟩ := rex_peel r s1 _ tree env cx f5 (by omega) hd
    refine ⟨x, _, st', tr, .skip hg hdd hv f4 (es ▸ p1), fun s0 out0 hm => ?_, p3, p4.trans f2, p5.trans f3, p6, p7⟩
    rcases List.mem_cons.1 hm with hm | hm
    ·cases hm
    ·exact p2 s0 out0 hm
   split at h
   ·rename_i d' hd'
    split at h
    case isFalse => cases h
    rename_i hlt
    exact fin _ rfl (by rw [hd']; exact e1) (by rw [hd']; exact e2) (by rw [hd']; exact e3) (fun d hd => by rw [hd'] at hd; cases hd; exact hlt) h
   ·rename_i hd'
    exact fin s (by rw [hd']; rfl) e1 e2 e3 (fun d hd => by rw [hd'] at hd; cases hd) h
  unfold rex at h
  cases hg : o.guard with
  | none =>
   rw [hg] at h
   exact hgo st tree rfl rfl rfl h hd (.inl hg)
  | some jw =>
   obtain ⟨j, want⟩ := jw
   rw [hg] at h
   simp only at h
   cases hdd : (ops[j]?).bind (·.dst) with
   | none => rw [hdd] at h; cases h
   | some d =>
   rw [hdd] at h
   simp only at h
   split at h
   ·rename_i hv
    exact hskip st tree j want d rfl rfl rfl h hd hg hdd (.inr hv)
   ·rename_i b hv
    split at h
    ·rename_i hb
     subst hb
     exact hgo st tree rfl rfl rfl h hd (.inr ⟨j, b, d, hg, hdd, hv⟩)
    ·rename_i hb
     exact hskip st tree j want d rfl rfl rfl h hd hg hdd (.inl (by rw [hv]; congr; cases b <;> cases want <;> simp_all))
   ·rename_i e _ hv
    split at h
    case isFalse => cases h
    rename_i hbd
    have get_put : ∀ b, (st.put (some d) (.one (.c .bool (.B b)))).get d = .one (.c .bool (.B b)) := fun b => by simp [St.put, St.get]
    have hden : ∀ x, (e.den (env ++ x)).bool = (e.den env).bool := fun x => by rw [E.den_ext env x e (by rw [hn]; exact hbd)]
    obtain ⟨ta, hta, h2⟩ := Option.bind_eq_some_iff.1 h
    obtain ⟨tb, htb, h3⟩ := Option.bind_eq_some_iff.1 h2
    cases h3
    obtain ⟨d1, d2⟩ := hd
    have lift : ∀ b, (e.den env).bool = b → (∃ x l st' tr, Path T sig ops (env ++ x) (o :: r) (st.put (some d) (.one (.c .bool (.B b)))) l st' ∧ FactL P T sig (env ++ x) l ∧ (env ++ x).length = st'.ne ∧ st'.lv = st.lv ∧ st'.nt = st.nt ∧ k st' l = some tr ∧ tr.den (SpF P T sig) post (env ++ x) cx) →
      ∃ x l st' tr, Path T sig ops (env ++ x) (o :: r) st l st' ∧ FactL P T sig (env ++ x) l ∧ (env ++ x).length = st'.ne ∧ st'.lv = st.lv ∧ st'.nt = st.nt ∧ k st' l = some tr ∧ tr.den (SpF P T sig) post (env ++ x) cx := fun b hb ⟨x, l, st', tr, p1, p2⟩ =>
     ⟨x, l, st', tr, .fork hv ((hden x).trans hb) p1, p2⟩
    cases hb : (e.den env).bool with
    | true =>
     refine lift true hb ?_
     cases want with
     | true => exact hgo _ ta rfl rfl rfl hta (d1 hb) (.inr ⟨j, true, d, hg, hdd, get_put true⟩)
     | false => exact hskip _ ta j false d rfl rfl rfl hta (d1 hb) hg hdd (.inl (get_put true))
    | false =>
     refine lift false hb ?_
     cases want with
     | true => exact hskip _ tb j true d rfl rfl rfl htb (d2 hb) hg hdd (.inl (get_put false))
     | false => exact hgo _ tb rfl rfl rfl htb (d2 hb) (.inr ⟨j, false, d, hg, hdd, get_put false⟩)
   ·cases h
end
structure StR (T : Tab) (w0 : W0) (S0 : Nat → Prop) (st : St) (env : List DV) (a : Act) (m : Mem) : Prop where
 env : m.env = env
 ok : MOk T w0 S0 m
 h : m.h = st.blk
 sl : ∀ i, SVr T m (st.get i) (a.tmps.getD i undef)
 df : a.defers = []
 nt : a.tmps.size = st.nt
 nb : ∀ p ∈ st.h, p.1 < st.nb
 bt : ∀ p ∈ st.t, p.2.bd st.ne = true
 bh : ∀ p ∈ st.h, p.2.bd st.ne = true
section
variable {P : Program} {T : Tab} {sig : FuncId → Option Sig} {ops : Array Oper} {w0 : W0} {S0 : Nat → Prop} {Q : Exit → Act → World → Prop}
theorem all_mono {α : Type} {f g : α → Bool} {l : List α} (h : ∀ x, f x = true → g x = true) (hl : l.all f = true) : l.all g = true := List.all_eq_true.2 fun x hx => h x (List.all_eq_true.1 hl x hx)
theorem CV.bd_mono {m n : Nat} (h : m ≤ n) (c : CV) (hc : c.bd m = true) : c.bd n = true := by
 cases c <;> simp only [CV.bd, Bool.and_eq_true] at hc ⊢ <;> first | exact E.bd_mono h _ hc | exact ⟨E.bd_mono h _ hc.1, E.bd_mono h _ hc.2⟩
theorem SV.bd_mono {m n : Nat} (h : m ≤ n) (s : SV) (hs : s.bd m = true) : s.bd n = true := by
 cases s with
 | one c => exact CV.bd_mono h c hs
 | agg l => exact all_mono (fun c => CV.bd_mono h c) hs
 | tup l => exact all_mono (fun p => all_mono fun c => CV.bd_mono h c) hs
theorem Blk.bd_mono {m n : Nat} (h : m ≤ n) (b : Blk) (hb : b.bd m = true) : b.bd n = true := by
 cases b with
 | box l => exact all_mono (fun c => CV.bd_mono h c) hb
 | arr el e fz => exact E.bd_mono h e hb
 | _ => rfl
section
variable {m : Mem} {env x : List DV} {n : Nat}
theorem cv_ext (he : m.env = env) (hn : n ≤ env.length) (hh : ∀ b, (m.h b).bd n = true) {c : CV} {v : Value} (hb : c.bd n = true) (h : CVr T m c v) : CVr T { m with env := env ++ x } c v := by
 have hE : ∀ {e : E}, e.bd n = true → e.den (env ++ x) = e.den m.env := fun hb => by rw [he]; exact E.den_ext env x _ (E.bd_mono hn _ hb)
 cases c with
 | any => trivial
 | c k e => rw [cvr_c] at h ⊢; simp only; rw [hE hb]; exact h
 | nl => exact h
 | fn f => exact h
 | own b el =>
  rcases h with h | ⟨e, fz, rows, cap, h1, h2, h3⟩
  ·exact .inl h
  ·have := hh b; rw [h1] at this
   exact .inr ⟨e, fz, rows, cap, h1, (hE this).trans h2, h3⟩
 | sub b el off len =>
  simp only [CV.bd, Bool.and_eq_true] at hb
  rcases h with h | ⟨e, fz, cap, o, l, h1, h2, h3, h4⟩
  ·exact .inl h
  ·exact .inr ⟨e, fz, cap, o, l, h1, (hE hb.1).trans h2, (hE hb.2).trans h3, h4⟩
 | rp b off => exact h
 | ap b el row off eb =>
  simp only [CV.bd, Bool.and_eq_true] at hb
  rcases h with h | ⟨e, fz, rows, sz, q, base, cs, r, h1, h2, h3, h4, h5⟩
  ·exact .inl h
  ·exact .inr ⟨e, fz, rows, sz, q, base, cs, r, h1, h2, (hE hb.1).trans h3, (hE hb.2).trans h4, h5⟩
 | ip el l row off =>
  simp only [CV.bd, Bool.and_eq_true] at hb
  obtain ⟨rows, cap, cks, q, o, r, h1, h2, h3, h4⟩ := h
  exact ⟨rows, cap, cks, q, o, r, (hE hb.1).trans h1, h2, (hE hb.2).trans h3, h4⟩
theorem cs_ext (he : m.env = env) (hn : n ≤ env.length) (hh : ∀ b, (m.h b).bd n = true) {l : List CV} {vs : List Value} (hb : l.all (·.bd n) = true) (h : CsR T m l vs) : CsR T { m with env := env ++ x } l vs :=
 ⟨h.1, fun j c hj => let ⟨u, h1, h2, h3⟩ := h.2 j c hj; ⟨u, h1, h2, cv_ext he hn hh (List.all_eq_true.1 hb c (List.mem_of_getElem? hj)) h3⟩⟩
theorem sv_ext (he : m.env = env) (hn : n ≤ env.length) (hh : ∀ b, (m.h b).bd n = true) {s : SV} {v : Value} (hb : s.bd n = true) (h : SVr T m s v) : SVr T { m with env := env ++ x } s v := by
 cases s with
 | one c => exact cv_ext he hn hh hb h
 | agg l => obtain ⟨a, h1, h2⟩ := h; exact ⟨a, h1, cs_ext he hn hh hb h2⟩
 | tup l =>
  obtain ⟨a, h1, h2, h3⟩ := h
  refine ⟨a, h1, h2, fun j p hj => ?_⟩
  obtain ⟨u, h4, h5⟩ := h3 j p hj
  have hp := List.all_eq_true.1 hb p (List.mem_of_getElem? hj)
  refine ⟨u, h4, ?_⟩
  rcases h5 with ⟨h5, a, h6, h7⟩ | ⟨h5, c, h6, h7⟩
  ·exact .inl ⟨h5, a, h6, cs_ext he hn hh hp h7⟩
  ·exact .inr ⟨h5, c, h6, cv_ext he hn hh (by rw [h6] at hp; simpa using hp) h7⟩
theorem mok_ext (he : m.env = env) (hn : n ≤ env.length) (hh : ∀ b, (m.h b).bd n = true) (hm : MOk T w0 S0 m) : MOk T w0 S0 { m with env := env ++ x } := by
 refine ⟨fun b => ?_, hm.inj, hm.new, hm.sz, hm.low, hm.s0, hm.s1, hm.s2, hm.kept⟩
 have hb := hm.blk b
 have hx := hh b
 show BlkR T _ b (m.h b)
 cases hy : m.h b with
 | no => trivial
 | dead => trivial
 | box l =>
  rw [hy] at hb hx
  obtain ⟨q, c, t, h1, h2, h3⟩ := hb
  exact ⟨q, c, t, h1, h2, cs_ext he hn hh hx h3⟩
 | arr el e fz =>
  rw [hy] at hb hx
  obtain ⟨rows, cks, h1, h2⟩ := hb
  refine ⟨rows, cks, ?_, h2⟩
  show e.den (env ++ x) = _
  rw [E.den_ext env x e (E.bd_mono hn e hx), ← he]; exact h1
end
theorem StR.ext {st : St} {env x : List DV} {a : Act} {m : Mem} (h : StR T w0 S0 st env a m) (hn : st.ne ≤ env.length) : StR T w0 S0 st (env ++ x) a { m with env := env ++ x } := by
 have hh : ∀ b, (m.h b).bd st.ne = true := fun b => by
  rw [h.h]
  unfold St.blk
  cases hl : st.h.lookup b with
  | none => rfl
  | some y => exact h.bh (b, y) (lookup_mem hl)
 refine ⟨rfl, mok_ext h.env hn hh h.ok, h.h, fun i => sv_ext h.env hn hh ?_ (h.sl i), h.df, h.nt, h.nb, h.bt, h.bh⟩
 unfold St.get
 cases hl : st.t.lookup i with
 | none => rfl
 | some y => exact h.bt (i, y) (lookup_mem hl)
theorem lookup_lt {l : List (Nat × Blk)} {nb b : Nat} (h : ∀ p ∈ l, p.1 < nb) (hb : nb ≤ b) : l.lookup b = none := by
 induction l with
 | nil => rfl
 | cons p l ih =>
  obtain ⟨k, x⟩ := p
  have h1 := h (k, x) (List.mem_cons_self ..)
  rw [List.lookup_cons, show (b == k) = false by simp at h1 ⊢; omega]
  exact ih (fun p hp => h p (List.mem_cons_of_mem _ hp))
theorem upl_look : ∀ (u : List (Nat × Blk)) (l : List (Nat × Blk)), upl (fun b => (l.lookup b).getD .no) u = fun b => ((u.reverse ++ l).lookup b).getD .no
 | [], l => rfl
 | (k, x) :: u, l => by
  rw [upl]
  have : upf (fun b => (l.lookup b).getD .no) k x = fun b => (((k, x) :: l).lookup b).getD .no := by
   funext b
   unfold upf
   rw [List.lookup_cons]
   by_cases hb : b = k
   ·subst hb; simp
   ·rw [if_neg hb, show (b == k) = false by simpa using hb]
  rw [this, upl_look u]
  simp
theorem eval_look {m : Mem} {st : St} {a : Act} (hs : ∀ i, SVr T m (st.get i) (a.tmps.getD i undef)) (x : Operand) : SVr T m (opLook st.get x) (a.eval x) := by
 cases x with
 | tmp i => exact hs i
 | const v => exact svOf_ok v
 | func f => exact (rfl : Value.func (.func f) #[] #[] = _)
 | global g => trivial
theorem getD_put {a : Act} {d i : Nat} {v : Value} (hd : d < a.tmps.size) : (a.put (some d) v).tmps.getD i undef = if i = d then v else a.tmps.getD i undef := by
 unfold Act.put
 simp only [Array.getD_eq_getD_getElem?, Array.getElem?_setIfInBounds]
 by_cases h : d = i
 ·subst h; simp [hd]
 ·rw [if_neg h, if_neg (Ne.symm h)]
theorem StR.put {st : St} {env : List DV} {a : Act} {m m' : Mem} {d : Option Tmp} {v : Value} {s : SV} (h : StR T w0 S0 st env a m) (hk : Keep T m m') (he : m'.env = env) (hok : MOk T w0 S0 m') (hv : SVr T m' s v) (hd : ∀ x, d = some x → x < st.nt) {st' : St} (h1 : st'.t = (st.put d s).t) (h2 : m'.h = st'.blk) (h3 : st'.nt = st.nt) (h4 : ∀ p ∈ st'.h, p.1 < st'.nb) (h5 : ∀ p ∈ st'.t, p.2.bd st'.ne = true) (h6 : ∀ p ∈ st'.h, p.2.bd st'.ne = true) :
  StR T w0 S0 st' env (a.put d v) m' := by
 refine ⟨he, hok, h2, fun i => ?_, ?_, ?_, h4, h5, h6⟩
 ·cases d with
  | none =>
   have := hk.sv (h.sl i)
   unfold St.get at this ⊢
   rw [h1]
   exact this
  | some x =>
   rw [getD_put (by rw [h.nt]; exact hd x rfl)]
   unfold St.get
   rw [h1]
   simp only [St.put, List.lookup_cons]
   by_cases hx : i = x
   ·subst hx; simpa using hv
   ·rw [if_neg hx, show (i == x) = false by simpa using hx]
    exact hk.sv (h.sl i)
 ·cases d <;> exact h.df
 ·cases d with
  | none => exact h.nt.trans h3.symm
  | some x => unfold Act.put; simp; exact h.nt.trans h3.symm
theorem yields {m : Mem} {st : St} {env : List DV} {a : Act} {j d : Nat} {b : Bool} (h : StR T w0 S0 st env a m) (hd : (ops[j]?).bind (·.dst) = some d) (hv : st.get d = .one (.c .bool (.B b))) : yielded ops a.tmps j = some b := by
 have := h.sl d
 rw [hv] at this
 obtain ⟨x, h1, h2⟩ := Rd.bool_inv (show CVr T m (.c .bool (.B b)) _ from this)
 cases h1
 unfold yielded
 rw [hd]
 simp only [Option.bind_some]
 rw [Array.getD_eq_getD_getElem?] at h2
 cases ht : a.tmps[d]? with
 | none => rw [ht] at h2; cases h2
 | some v => rw [ht] at h2; simp at h2; subst h2; rfl
theorem yields_no {m : Mem} {st : St} {env : List DV} {a : Act} {j d : Nat} (h : StR T w0 S0 st env a m) (hd : (ops[j]?).bind (·.dst) = some d) (hv : st.get d = .tup []) : yielded ops a.tmps j = none := by
 have := h.sl d
 rw [hv] at this
 obtain ⟨x, h1, -⟩ := this
 unfold yielded
 rw [hd]
 simp only [Option.bind_some]
 rw [Array.getD_eq_getD_getElem?] at h1
 cases ht : a.tmps[d]? with
 | none => rfl
 | some v => rw [ht] at h1; simp at h1; subst h1; rfl
theorem step_ok (hT : T.Ok P) (hgo : ∀ f sg, sig f = some sg → isGo P (keyF f) = true) {o : Oper} {st st1 : St} {out : Out} {env : List DV} {a : Act} {m : Mem} (hs : st.step T sig o = some (out, st1)) (hr : StR T w0 S0 st env a m) (hn : needsOk env out.needs)
  (hc : ∀ f xs n, out.call = some (f, xs, n) → ∃ rs sg, sig f = some sg ∧ Sp P T sg f (xs.map (·.den env)) rs ∧ ∀ (j : Nat) d, rs[j]? = some d → env.getD (st.ne + j) (.I 0) = d) :
  Goes P o a m fun v m' => StR T w0 S0 st1 env (a.put o.dst v) m' := by
 unfold St.step at hs
 cases ho : symop T sig o.op (opLook st.get) st.blk st.nb st.ne with
 | none => rw [ho] at hs; cases hs
 | some out' =>
 rw [ho] at hs
 simp only [Option.bind_eq_bind, Option.bind_some] at hs
 split at hs
 case isFalse => cases hs
 rename_i hok
 simp only [Option.some.injEq, Prod.mk.injEq] at hs
 obtain ⟨rfl, rfl⟩ := hs
 unfold okStep at hok
 simp only [Bool.and_eq_true] at hok
 obtain ⟨c1, c2, c3, c4, c5, c6⟩ := hok
 have hfree : ∀ b, st.nb ≤ b → m.h b = .no := fun b hb => by rw [hr.h]; unfold St.blk; rw [lookup_lt hr.nb hb]; rfl
 have hold : ∀ b x, (b, x) ∈ out'.upd → x.frz = true → b < st.nb := fun b x hx hf => by
  have := List.all_eq_true.1 c5 (b, x) hx
  simpa [hf] using this
 have hds : ∀ x, o.dst = some x → x < st.nt := fun x hx => by rw [hx] at c6; simpa using c6
 have hnb := nextB_ge out'.upd st.nb
 have main : ∀ rs : List DV, (∀ f es n, out'.call = some (f, es, n) → ∃ sg, sig f = some sg ∧ Sp P T sg f (es.map (·.den m.env)) rs) → (∀ (j : Nat) d, rs[j]? = some d → m.env.getD (st.ne + j) (.I 0) = d) → Goes P o a m fun v m' => StR T w0 S0 { st with t := (match o.dst with | some d => (d, out'.val) :: st.t | none => st.t), h := out'.upd.reverse ++ st.h, nb := nextB st.nb out'.upd, ne := st.ne + out'.n } env (a.put o.dst v) m' := fun rs g1 g2 => by
  have := op_sound (P := P) (a := a) (rs := rs) (by rw [hr.h]; exact ho) ⟨hT, hgo, hr.ok, by rw [hr.env]; exact hn, g1, g2, fun b hb _ => hfree b hb, hold⟩ (fun x _ => eval_look hr.sl x)
  have conv : ∀ v m', (Went T w0 S0 m out'.upd m' ∧ SVr T m' out'.val v) → StR T w0 S0 { st with t := (match o.dst with | some d => (d, out'.val) :: st.t | none => st.t), h := out'.upd.reverse ++ st.h, nb := nextB st.nb out'.upd, ne := st.ne + out'.n } env (a.put o.dst v) m' := fun v m' ⟨hw, hv⟩ =>
   hr.put hw.keep (hw.env.trans hr.env) hw.ok hv hds (by cases o.dst <;> rfl) (by rw [hw.h, hr.h]; exact upl_look _ _) rfl (fun p hp => by
     rcases List.mem_append.1 hp with hp | hp
     · exact hnb.2 p (List.mem_reverse.1 hp)
     · exact Nat.lt_of_lt_of_le (hr.nb p hp) hnb.1) (fun p hp => by
     have old : p ∈ st.t → p.2.bd (st.ne + out'.n) = true := fun hp => SV.bd_mono (Nat.le_add_right _ _) p.2 (hr.bt p hp)
     dsimp only at hp ⊢
     split at hp
     · rcases List.mem_cons.1 hp with rfl | hp
       · exact c3
       · exact old hp
     · exact old hp) (fun p hp => by
     rcases List.mem_append.1 hp with hp | hp
     · exact List.all_eq_true.1 c4 p (List.mem_reverse.1 hp)
     · exact Blk.bd_mono (Nat.le_add_right _ _) p.2 (hr.bh p hp))
  rcases this with ⟨v, m', h1, h2⟩ | ⟨m', h1, h2⟩ | ⟨f, args, h1, h2⟩
  ·exact .inl ⟨v, m', h1, conv v m' h2⟩
  ·exact .inr (.inl ⟨m', h1, conv _ m' h2⟩)
  ·exact .inr (.inr ⟨f, args, h1, h2.mono fun e w' ⟨v, m', e1, e2, e3⟩ => ⟨v, m', e1, e2, conv v m' e3⟩⟩)
 cases hcl : out'.call with
 | none => exact main [] (fun f es n hf => by rw [hcl] at hf; cases hf) (fun j d hj => by cases hj)
 | some y =>
  obtain ⟨f, xs, n⟩ := y
  obtain ⟨rs, sg, h1, h2, h3⟩ := hc f xs n hcl
  exact main rs (fun f' es' n' hf => by rw [hcl] at hf; cases hf; exact ⟨sg, h1, by rw [hr.env]; exact h2⟩) (fun j d hj => by rw [hr.env]; exact h3 j d hj)
theorem path_seq (hT : T.Ok P) (hgo : ∀ f sg, sig f = some sg → isGo P (keyF f) = true) {env : List DV} : ∀ {r : List Oper} {st st' : St} {l}, Path T sig ops env r st l st' → FactL P T sig env l → ∀ (i : Nat) (a : Act) (m : Mem), ops.toList.drop i = r → StR T w0 S0 st env a m → (∀ a' m', StR T w0 S0 st' env a' m' → Q .normal a' m'.w) →
  wpOps P ops Q (List.range' i r.length) a m.w := by
 intro r st st' l hp
 induction hp with
 | nil st => exact fun _ i a m _ hr hq => hq a m hr
 | @go o r st st1 st2 out l hg hs h ih =>
  intro hf i a m hi hr hq
  have hoi : ops[i]? = some o := by
   rw [← Array.getElem?_toList]
   have := congrArg (fun l => l[0]?) hi
   simpa using this
  have hdrop : ops.toList.drop (i + 1) = r := by
   have := congrArg (List.drop 1) hi
   rw [List.drop_drop] at this
   simpa using this
  have hwant : Region.wanted o (yielded ops a.tmps) = true := by
   rcases hg with hg | ⟨j, want, d, hg, hd, hv⟩
   ·simp [Region.wanted, hg]
   ·simp [Region.wanted, hg, yields hr hd hv]
  rw [List.length_cons, List.range'_succ]
  simp only [wpOps, hoi]
  rw [if_pos hwant]
  left
  obtain ⟨f1, f2⟩ := hf st out (List.mem_cons_self ..)
  exact (step_ok hT hgo hs hr f1 f2).wp fun v m' hr' => ih (fun s o ho => hf s o (List.mem_cons_of_mem _ ho)) (i + 1) _ m' hdrop hr' hq
 | @skip o r st st2 l j want d hg hd hv hn h ih =>
  intro hf i a m hi hr hq
  have hoi : ops[i]? = some o := by
   rw [← Array.getElem?_toList]
   have := congrArg (fun l => l[0]?) hi
   simpa using this
  have hdrop : ops.toList.drop (i + 1) = r := by
   have := congrArg (List.drop 1) hi
   rw [List.drop_drop] at this
   simpa using this
  have hwant : ¬ Region.wanted o (yielded ops a.tmps) = true := by
   rcases hv with hv | hv
   ·simp [Region.wanted, hg, yields hr hd hv]
   ·simp [Region.wanted, hg, yields_no hr hd hv]
  rw [List.length_cons, List.range'_succ]
  simp only [wpOps, hoi]
  rw [if_neg hwant]
  refine ih (fun s o ho => hf s o (List.mem_cons_of_mem _ ho)) (i + 1) _ m hdrop ?_ hq
  exact hr.put (s := .tup []) (v := undef) Keep.refl hr.env hr.ok ⟨#[], rfl, rfl, fun j p hp => by cases hp⟩ hn rfl (by rw [hr.h]; cases o.dst <;> rfl) (by cases o.dst <;> rfl) (by cases o.dst <;> exact hr.nb) (fun p hp => by
    have e : (st.put o.dst (.tup [])).ne = st.ne := by cases o.dst <;> rfl
    rw [e]
    cases hd : o.dst with
    | none => rw [hd] at hp; exact hr.bt p hp
    | some x =>
      rw [hd] at hp
      rcases List.mem_cons.1 hp with rfl | hp
      · rfl
      · exact hr.bt p hp) (by cases o.dst <;> exact hr.bh)
 | @fork o r st st2 l d e b hv he h ih =>
  intro hf i a m hi hr hq
  refine ih hf i a m hi ⟨hr.env, hr.ok, hr.h, fun k => ?_, hr.df, hr.nt, hr.nb, fun p hp => by
    rcases List.mem_cons.1 hp with rfl | hp
    · rfl
    · exact hr.bt p hp, hr.bh⟩ hq
  unfold St.get
  simp only [St.put, List.lookup_cons]
  by_cases hk : k = d
  ·subst hk
   have := hr.sl k
   rw [hv] at this
   obtain ⟨x, h1, h2⟩ := Rd.bool_inv (show CVr T m (.c .bool e) _ from this)
   rw [hr.env] at h1
   rw [h1] at he
   simp only [DV.bool] at he
   subst he
   simp only [beq_self_eq_true, Option.getD_some]
   rw [h2]
   exact Rd.bool
  ·rw [show (k == d) = false by simpa using hk]
   exact hr.sl k
end
def fits (T : Tab) (n : Nat) (es : List E) (β : Ren) (hd st : St) : Bool :=
 decide (hd.nt = st.nt) && (β.inj && (hd.t.all (fun p => okS T n es β hd.blk st.blk (hd.get p.1) (st.get p.1)) && (hd.h.all (fun p => okB T n es β hd.blk st.blk p.1 (hd.blk p.1)) && (hd.h.all (fun p => decide (p.1 < hd.nb)) && (hd.t.all (fun p => p.2.bd hd.ne) && hd.h.all (fun p => p.2.bd hd.ne))))))
section
variable {P : Program} {T : Tab} {w0 : W0} {S0 : Nat → Prop}
variable {m : Mem} {env x : List DV} {es : List E} {n : Nat} {β : Ren} {hd st : St}
def keepsK (kb : Nat) (β : Ren) (hd : St) : Bool := (List.range kb).all fun b => hd.blk b != .no && (!(hd.blk b).live || β.lookup b == some (some b))
theorem fit_ok {a : Act} (hn : env.length = n) (hr : StR T w0 S0 st (env ++ x) a m) (hf : fits T n es β hd st = true) {kb : Nat} (hk : keepsK kb β hd = true) (hkb : ∀ b p, w0.K b = some p → b < kb) : ∃ m', m'.w = m.w ∧ StR T w0 S0 hd (env ++ es.map (·.den (env ++ x))) a m' := by
 unfold fits at hf
 simp only [Bool.and_eq_true, decide_eq_true_eq, List.all_eq_true] at hf
 obtain ⟨f1, f2, f3, f4, f5, f6, f7⟩ := hf
 have hb : ∀ b, okB T n es β hd.blk st.blk b (hd.blk b) = true := fun b => by
  cases hl : hd.h.lookup b with
  | none => unfold St.blk; rw [hl]; rfl
  | some y => exact f4 (b, y) (lookup_mem hl)
 have hm := hr.ok
 have hmin := ren_min hn hr.env hm.min hr.h f2 hb
 refine ⟨renM m (env ++ es.map (·.den (env ++ x))) β hd.blk, rfl, ⟨rfl, ⟨hmin.blk, hmin.inj, fun b q l a => ?_, hm.sz, hm.low, hm.s0, hm.s1, hm.s2, fun b p hp => ?_⟩, rfl, fun i => ?_, hr.df, hr.nt.trans f1.symm, fun p hp => f5 p hp, fun p hp => f6 p hp, fun p hp => f7 p hp⟩⟩
 ·obtain ⟨c, h1, h2⟩ := ren_at a
  obtain ⟨l1, l2⟩ := ren_live (hb b) h1 l
  exact ⟨(hm.new c q (by rw [hr.h]; exact l1) h2).1, hmin.new b q l a⟩
 ·have := List.all_eq_true.1 hk b (List.mem_range.2 (hkb b p hp))
  simp only [Bool.and_eq_true, bne_iff_ne, ne_eq, Bool.or_eq_true, Bool.not_eq_true', beq_iff_eq] at this
  refine ⟨this.1, fun l => ?_⟩
  rcases this.2 with h | h
  ·rw [show (renM m (env ++ es.map (·.den (env ++ x))) β hd.blk).h b = hd.blk b from rfl, h] at l; cases l
  ·show (match β.lookup b with | some (some b') => m.ρ b' | _ => none) = p
   rw [h]
   exact (hm.kept b p hp).2 (by rw [hr.h]; exact (ren_live (hb b) h l).1)
 ·cases hl : hd.t.lookup i with
  | none =>
   unfold St.get; rw [hl]; trivial
  | some y =>
   exact okS_sv hn hr.env hm.blk hr.h hb (f3 (i, y) (lookup_mem hl)) (hr.sl i)
end
inductive AX where
 | normal
 | exit (id : Nat)
 | ret
def AX.is : AX → Exit → Prop
 | .normal, x => x = .normal
 | .exit i, x => x = .exit i
 | .ret, x => x = .ret
section
variable {P : Program} {Q : Exit → Act → World → Prop}
theorem wp_loop_ix {c : Code} (I : Nat → Act → World → Prop) (round : ∀ n a w, I n a w → c.wp P (Exit.then (fun a' w' => ∃ m, m < n ∧ I m a' w') Q) a w) {n : Nat} {a : Act} {w : World} (h0 : I n a w) : (Code.loop c).wp P Q a w := by
 intro b k cs
 have key : ∀ n a w, I n a w → ∃ e a' w', Q e a' w' ∧ Arrives P (lone (b.at a (.code c :: .inLoop c :: k)) cs w) b k cs e a' w' := by
  intro n
  induction n using Nat.strongRecOn with
  | _ n ih =>
   intro a w hI
   obtain ⟨e, a1, w1, hq, har⟩ := round n a w hI b (.inLoop c :: k) cs
   cases e with
   | normal =>
    obtain ⟨m, hm, hI1⟩ := hq
    obtain ⟨e2, a2, w2, hq2, har2⟩ := ih m hm a1 w1 hI1
    exact ⟨e2, a2, w2, hq2, .of_steps (Steps.trans har (.one step_inLoop)) har2⟩
   | exit id => exact ⟨_, a1, w1, hq, .pass (x := .inLoop c) rfl (fun _ _ => .inl (by simp)) har⟩
   | goto l => exact ⟨_, a1, w1, hq, .pass (x := .inLoop c) rfl (fun _ _ => .inl (by simp)) har⟩
   | ret => exact ⟨_, a1, w1, hq, .pass (x := .inLoop c) rfl (fun _ _ => .inl (by simp)) har⟩
   | panic ch => exact ⟨_, a1, w1, hq, .pass (x := .inLoop c) rfl (fun _ _ => .inl (by simp)) har⟩
   | outgrown => exact ⟨_, a1, w1, hq, .pass (x := .inLoop c) rfl (fun _ _ => .inl (by simp)) har⟩
 obtain ⟨e, a', w', hq, har⟩ := key n a w h0
 exact ⟨e, a', w', hq, .of_steps (.one step_loop) har⟩
end
structure Help where
 T : Tab
 sig : FuncId → Option Sig
 head : Code → St → Option St
 uni : St → St → Nat → Option (List E × Ren)
 draws : Array Oper → St → List (St × Option Out) → Bool
 unroll : Code → St → Nat := fun _ _ => 0
 kb : Nat := 0
def fitTo (H : Help) (n : Nat) (hd st : St) : Option (List E) := do
 let (es, β) ← H.uni hd st n
 if fits H.T n es β hd st && (keepsK H.kb β hd && decide (hd.ne = n + es.length)) then some es else none
def iterE (ex : St → (AX → St → Option Tree) → Option Tree) : Nat → St → (AX → St → Option Tree) → Option Tree
 | 0, _, _ => none
 | n + 1, st, k => ex st fun x s => match x with
  | .normal => iterE ex n s k
  | .exit i => k (.exit i) s
  | .ret => k .ret s
def exec (H : Help) : Code → St → (AX → St → Option Tree) → Option Tree
 | .skip, st, k => k .normal st
 | .label _, st, k => k .normal st
 | .region _ ops dr, st, k => rex H.T H.sig ops ops.toList st fun s l => if dr && !H.draws ops st l then none else k .normal s
 | .seq a b, st, k => exec H a st fun x s => match x with
  | .normal => exec H b s k
  | .exit i => k (.exit i) s
  | .ret => k .ret s
 | .cond c x y, st, k => match opLook st.get c with
  | .one (.c .bool (.B true)) => exec H x st k
  | .one (.c .bool (.B false)) => exec H y st k
  | .one (.c .bool e) => do
   let a ← exec H x st k
   let b ← exec H y st k
   some (.br e a b)
  | _ => none
 | .block id c, st, k => exec H c st fun x s => match x with
  | .normal => k .normal s
  | .exit i => if i = id then k .normal s else k (.exit i) s
  | .ret => k .ret s
 | .loop c, st, k => if 0 < H.unroll c st then iterE (exec H c) (H.unroll c st) st k else do
  let hd ← H.head c st
  let is ← fitTo H st.ne hd st
  if hd.lv = st.lv + 1 then
   let b ← exec H c hd fun x s => match x with
    | .normal => (fitTo H st.ne hd s).map fun es => .again st.lv es
    | .exit i => k (.exit i) s
    | .ret => k .ret s
   some (.loop is b)
  else none
 | .scope c, st, k => exec H c st k
 | .exit id, st, k => k (.exit id) st
 | .ret, st, k => k .ret st
 | _, _, _ => none
def DrawsOk (P : Program) (H : Help) : Prop := ∀ (w0 : W0) (S0 : Nat → Prop) (id : Nat) (ops : Array Oper) (st st' : St) (l : List (St × Option Out)) (env : List DV) (a : Act) (m : Mem) (Q : Exit → Act → World → Prop),
 H.draws ops st l = true → Path H.T H.sig ops env ops.toList st l st' → FactL P H.T H.sig env l → StR H.T w0 S0 st env a m → (∀ a' m', StR H.T w0 S0 st' env a' m' → Q .normal a' m'.w) → (Code.region id ops true).wp P Q a m.w
section
variable {P : Program} {H : Help} {w0 : W0} {S0 : Nat → Prop} {post : List DV → Prop}
def PostK (P : Program) (H : Help) (w0 : W0) (S0 : Nat → Prop) (post : List DV → Prop) (k : AX → St → Option Tree) (env : List DV) (cx : List (List DV → Prop)) : Exit → Act → World → Prop := fun x a w =>
 ∃ ax st' tr ex ecx m, AX.is ax x ∧ k ax st' = some tr ∧ tr.den (SpF P H.T H.sig) post (env ++ ex) (cx ++ ecx) ∧ (env ++ ex).length = st'.ne ∧ (cx ++ ecx).length = st'.lv ∧ StR H.T w0 S0 st' (env ++ ex) a m ∧ m.w = w
theorem PostK.ext {k : AX → St → Option Tree} {env ex : List DV} {cx ecx} {x : Exit} {a : Act} {w : World} (h : PostK P H w0 S0 post k (env ++ ex) (cx ++ ecx) x a w) : PostK P H w0 S0 post k env cx x a w := by
 obtain ⟨ax, st', tr, ex2, ecx2, m, h1, h2, h3, h4, h5, h6, h7⟩ := h
 exact ⟨ax, st', tr, ex ++ ex2, ecx ++ ecx2, m, h1, h2, by rw [← List.append_assoc, ← List.append_assoc]; exact h3, by rw [← List.append_assoc]; exact h4, by rw [← List.append_assoc]; exact h5, by rw [← List.append_assoc]; exact h6, h7⟩
theorem fitTo_ok (hkb : ∀ b p, w0.K b = some p → b < H.kb) {n : Nat} {hd st : St} {es : List E} {env x : List DV} {a : Act} {m : Mem} (h : fitTo H n hd st = some es) (hn : env.length = n) (hr : StR H.T w0 S0 st (env ++ x) a m) : hd.ne = n + es.length ∧ ∃ m', m'.w = m.w ∧ StR H.T w0 S0 hd (env ++ es.map (·.den (env ++ x))) a m' := by
 unfold fitTo at h
 cases hu : H.uni hd st n with
 | none => rw [hu] at h; cases h
 | some y =>
 obtain ⟨es', β⟩ := y
 rw [hu] at h
 simp only [Option.bind_eq_bind, Option.bind_some] at h
 split at h
 case isFalse => cases h
 rename_i hc
 cases h
 simp only [Bool.and_eq_true, decide_eq_true_eq] at hc
 exact ⟨hc.2.2, fit_ok hn hr hc.1 hc.2.1 hkb⟩
theorem exec_sound (hT : H.T.Ok P) (hgo : ∀ f sg, H.sig f = some sg → isGo P (keyF f) = true) (hdr : DrawsOk P H) (hkb : ∀ b p, w0.K b = some p → b < H.kb) : ∀ (c : Code) (st : St) (k : AX → St → Option Tree) (tree : Tree) (env : List DV) (cx : List (List DV → Prop)) (a : Act) (m : Mem),
  exec H c st k = some tree → env.length = st.ne → cx.length = st.lv → StR H.T w0 S0 st env a m → tree.den (SpF P H.T H.sig) post env cx → c.wp P (PostK P H w0 S0 post k env cx) a m.w := by
 intro c
 induction c with
 | skip =>
  intro st k tree env cx a m h hn hl hr hd
  exact wp_skip ⟨.normal, st, tree, [], [], m, rfl, h, by simpa using hd, by simpa using hn, by simpa using hl, by simpa using hr, rfl⟩
 | label l =>
  intro st k tree env cx a m h hn hl hr hd
  exact wp_label ⟨.normal, st, tree, [], [], m, rfl, h, by simpa using hd, by simpa using hn, by simpa using hl, by simpa using hr, rfl⟩
 | exit id =>
  intro st k tree env cx a m h hn hl hr hd
  exact wp_exit ⟨.exit id, st, tree, [], [], m, rfl, h, by simpa using hd, by simpa using hn, by simpa using hl, by simpa using hr, rfl⟩
 | ret =>
  intro st k tree env cx a m h hn hl hr hd
  exact wp_ret ⟨.ret, st, tree, [], [], m, rfl, h, by simpa using hd, by simpa using hn, by simpa using hl, by simpa using hr, rfl⟩
 | region id ops dr =>
  intro st k tree env cx a m h hn hl hr hd
  obtain ⟨x, l, st', tr, p1, p2, p3, p4, p5, p6, p7⟩ := rex_peel _ _ _ _ env cx h hn hd
  have hr' := hr.ext (x := x) (Nat.le_of_eq hn.symm)
  have fin : k .normal st' = some tr → ∀ a' m', StR H.T w0 S0 st' (env ++ x) a' m' → PostK P H w0 S0 post k env cx .normal a' m'.w := fun h6 a' m' hs =>
   ⟨.normal, st', tr, x, [], m', rfl, h6, by simpa using p7, p3, by simp [p4, hl], hs, rfl⟩
  cases dr with
  | false =>
   simp only [Bool.false_and, Bool.false_eq_true, if_false] at p6
   have := path_seq (Q := PostK P H w0 S0 post k env cx) hT hgo p1 p2 0 a _ rfl hr' (fin p6)
   refine wp_region ?_
   rw [List.range_eq_range']
   simpa using this
  | true =>
   split at p6
   case isTrue => cases p6
   rename_i hx
   exact hdr w0 S0 id ops st st' l (env ++ x) a { m with env := env ++ x } _ (by simpa using hx) p1 p2 hr' (fin p6)
 | seq x y ihx ihy =>
  intro st k tree env cx a m h hn hl hr hd
  refine wp_seq (wp_mono (ihx st _ tree env cx a m h hn hl hr hd) fun e a' w' hp => ?_)
  obtain ⟨ax, st', tr, ex, ecx, m', h1, h2, h3, h4, h5, h6, rfl⟩ := hp
  cases ax with
  | normal =>
   cases h1
   exact wp_mono (ihy st' k tr (env ++ ex) (cx ++ ecx) a' m' h2 h4 h5 h6 h3) fun e a w hp => hp.ext
  | exit i =>
   cases h1
   exact ⟨.exit i, st', tr, ex, ecx, m', rfl, h2, h3, h4, h5, h6, rfl⟩
  | ret =>
   cases h1
   exact ⟨.ret, st', tr, ex, ecx, m', rfl, h2, h3, h4, h5, h6, rfl⟩
 | cond c x y ihx ihy =>
  intro st k tree env cx a m h hn hl hr hd
  have hc := eval_look hr.sl c
  unfold exec at h
  split at h
  ·rename_i hv
   rw [hv] at hc
   obtain ⟨b, h1, h2⟩ := Rd.bool_inv (show CVr H.T m (.c .bool (.B true)) _ from hc)
   cases h1
   exact wp_cond h2 (by simpa using ihx st k tree env cx a m h hn hl hr hd)
  ·rename_i hv
   rw [hv] at hc
   obtain ⟨b, h1, h2⟩ := Rd.bool_inv (show CVr H.T m (.c .bool (.B false)) _ from hc)
   cases h1
   exact wp_cond h2 (by simpa using ihy st k tree env cx a m h hn hl hr hd)
  ·rename_i e _ _ hv
   rw [hv] at hc
   obtain ⟨b, h1, h2⟩ := Rd.bool_inv (show CVr H.T m (.c .bool e) _ from hc)
   rw [hr.env] at h1
   obtain ⟨ta, hta, h3⟩ := Option.bind_eq_some_iff.1 h
   obtain ⟨tb, htb, h4⟩ := Option.bind_eq_some_iff.1 h3
   cases h4
   obtain ⟨d1, d2⟩ := hd
   refine wp_cond h2 ?_
   cases b with
   | true => simpa using ihx st k ta env cx a m hta hn hl hr (d1 (by rw [h1]; rfl))
   | false => simpa using ihy st k tb env cx a m htb hn hl hr (d2 (by rw [h1]; rfl))
  ·cases h
 | block id c ih =>
  intro st k tree env cx a m h hn hl hr hd
  refine wp_block (wp_mono (ih st _ tree env cx a m h hn hl hr hd) fun e a' w' hp => ?_)
  obtain ⟨ax, st', tr, ex, ecx, m', h1, h2, h3, h4, h5, h6, rfl⟩ := hp
  cases ax with
  | normal =>
   cases h1
   exact ⟨.normal, st', tr, ex, ecx, m', rfl, h2, h3, h4, h5, h6, rfl⟩
  | exit i =>
   cases h1
   simp only at h2
   unfold Exit.inBlock
   simp only
   split at h2
   ·rename_i hi
    rw [if_pos hi]
    exact ⟨.normal, st', tr, ex, ecx, m', rfl, h2, h3, h4, h5, h6, rfl⟩
   ·rename_i hi
    rw [if_neg hi]
    exact ⟨.exit i, st', tr, ex, ecx, m', rfl, h2, h3, h4, h5, h6, rfl⟩
  | ret =>
   cases h1
   exact ⟨.ret, st', tr, ex, ecx, m', rfl, h2, h3, h4, h5, h6, rfl⟩
 | scope c ih =>
  intro st k tree env cx a m h hn hl hr hd
  refine wp_scope_straight (wp_mono (ih st k tree env cx a m h hn hl hr hd) fun e a' w' hp => ?_)
  cases e with
  | goto l =>
   obtain ⟨ax, _, _, _, _, _, h1, _⟩ := hp
   cases ax <;> cases h1
  | _ => exact hp
 | loop c ih =>
  intro st k tree env cx a m h hn hl hr hd
  unfold exec at h
  split at h
  ·refine wp_loop_ix (fun n a w => ∃ st' tr ex ecx m, iterE (exec H c) n st' k = some tr ∧ tr.den (SpF P H.T H.sig) post (env ++ ex) (cx ++ ecx) ∧ (env ++ ex).length = st'.ne ∧ (cx ++ ecx).length = st'.lv ∧ StR H.T w0 S0 st' (env ++ ex) a m ∧ m.w = w) (fun n a w hI => ?_) (n := H.unroll c st) ⟨st, tree, [], [], m, h, by simpa using hd, by simpa using hn, by simpa using hl, by simpa using hr, rfl⟩
   obtain ⟨st1, tr1, ex1, ecx1, m1, g1, g2, g3, g4, g5, rfl⟩ := hI
   cases n with
   | zero => cases g1
   | succ n =>
   refine wp_mono (ih st1 _ tr1 (env ++ ex1) (cx ++ ecx1) a m1 g1 g3 g4 g5 g2) fun e a' w' hp => ?_
   obtain ⟨ax, st', tr, ex, ecx, m', h1, h2, h3, h4, h5, h6, rfl⟩ := hp
   rw [List.append_assoc] at h3 h4 h5 h6
   rw [List.append_assoc] at h3
   cases ax with
   | normal =>
    cases h1
    exact ⟨n, Nat.lt_succ_self n, st', tr, ex1 ++ ex, ecx1 ++ ecx, m', h2, h3, h4, h5, h6, rfl⟩
   | exit i =>
    cases h1
    exact ⟨.exit i, st', tr, ex1 ++ ex, ecx1 ++ ecx, m', rfl, h2, h3, h4, h5, h6, rfl⟩
   | ret =>
    cases h1
    exact ⟨.ret, st', tr, ex1 ++ ex, ecx1 ++ ecx, m', rfl, h2, h3, h4, h5, h6, rfl⟩
  obtain ⟨hdst, hh, h1⟩ := Option.bind_eq_some_iff.1 h
  obtain ⟨is, hi, h2⟩ := Option.bind_eq_some_iff.1 h1
  split at h2
  case isFalse => cases h2
  rename_i hlv
  obtain ⟨body, hbo, h3⟩ := Option.bind_eq_some_iff.1 h2
  cases h3
  obtain ⟨I, μ, i0, hrd⟩ := hd
  obtain ⟨hne, m0, hw0, hr0⟩ := fitTo_ok hkb (x := []) hi hn (by simpa using hr)
  rw [List.append_nil] at hr0
  rw [← hw0]
  refine wp_loop_ix (fun n a w => ∃ vs m, vs.length = is.length ∧ I vs ∧ μ vs = n ∧ StR H.T w0 S0 hdst (env ++ vs) a m ∧ m.w = w) (fun n a w hI => ?_) (n := μ (is.map (·.den env))) ⟨is.map (·.den env), m0, by simp, i0, rfl, hr0, rfl⟩
  obtain ⟨vs, m1, v1, v2, v3, v4, rfl⟩ := hI
  refine wp_mono (ih hdst _ body (env ++ vs) (cx ++ [fun vs' => I vs' ∧ μ vs' < μ vs]) a m1 hbo (by rw [List.length_append]; omega) (by rw [List.length_append, hlv, hl]; rfl) v4 (hrd vs v1 v2)) fun e a' w' hp => ?_
  obtain ⟨ax, st', tr, ex, ecx, m', h1, h2, h3, h4, h5, h6, rfl⟩ := hp
  cases ax with
  | normal =>
   cases h1
   simp only at h2
   cases hf : fitTo H st.ne hdst st' with
   | none => rw [hf] at h2; cases h2
   | some es =>
    rw [hf] at h2
    cases h2
    obtain ⟨p, hp1, hp2⟩ := h3
    have hp3 : p = fun vs' => I vs' ∧ μ vs' < μ vs := by
     rw [List.append_assoc, List.getElem?_append_right (by omega), ← hl] at hp1
     simp at hp1
     exact hp1.symm
    subst hp3
    rw [List.append_assoc] at h6 hp2
    obtain ⟨g1, m2, g2, g3⟩ := fitTo_ok hkb hf hn h6
    exact ⟨_, v3 ▸ hp2.2, es.map (·.den (env ++ (vs ++ ex))), m2, by simp; omega, hp2.1, rfl, g3, g2⟩
  | exit i =>
   cases h1
   exact ⟨.exit i, st', tr, vs ++ ex, (fun vs' => I vs' ∧ μ vs' < μ vs) :: ecx, m', rfl, h2, by rw [← List.append_assoc]; simpa using h3, by rw [← List.append_assoc]; exact h4, by simpa using h5, by rw [← List.append_assoc]; exact h6, rfl⟩
  | ret =>
   cases h1
   exact ⟨.ret, st', tr, vs ++ ex, (fun vs' => I vs' ∧ μ vs' < μ vs) :: ecx, m', rfl, h2, by rw [← List.append_assoc]; simpa using h3, by rw [← List.append_assoc]; exact h4, by simpa using h5, by rw [← List.append_assoc]; exact h6, rfl⟩
 | goto l =>
  intro st k tree env cx a m h
  cases h
 | refuse w =>
  intro st k tree env cx a m h
  cases h
 | rangeFunc f ps x y ih1 ih2 =>
  intro st k tree env cx a m h
  cases h
end
end Go.Proofs.YtbegccgpmhbnfaaGreat
