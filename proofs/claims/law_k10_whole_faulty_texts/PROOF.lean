import PyProof.Rows.All
import Wide.All
import OpenK.AllK
import Wide.FinOn
import HandS.ForMost
import HandS.ForExc
import HandS.Walk
import HandS.Evl
import HandS.TryMany
import HandS.SetKeys
import HandS.DictComp
import HandS.IsInst
import HandS.Wide
import KE.GoesNew
import KE.GoesZip
import KE.GoesMore
import HandS.Strs
import KE.KStrWords
import HandS.TupLe
import HandS.RevRange
import HandS.Conv
import HandS.Deep
import PyProof.ListStr
import PyProof.TupleOfStr
import HandS.ListItems
import HandS.WideBits
import HandS.ExcIs
import HandS.Replace
import HandS.Style
import PyProof.Rows.StrRev
import KE.DataCmp
import KE.SortData
import HandS.Defaults
import HandS.Star
import KE.KIntText
import HandS.OwnEq
import HandS.ExcInit
import KE.KExcIs
import HandS.ExcSuper
import HandS.Nested
import KE.KSuper
import KE.KExcPX
import KE.KExcMake
import PyProof.EqKinds
import PyProof.EnumMake
import KE.KAsSuite
import HandS.SetBool
import KE.KDictDisplayH
import KE.KDictZip
import HandS.Rev
import HandS.NoneIn
import HandS.TupAny
import HandS.ReplaceLit
import HandS.ReplaceDef
import PySem.Challenge.RW_nearwish_k10_whole_faulty_texts
set_option Elab.async false
set_option linter.all false
set_option maxRecDepth 100000
set_option maxHeartbeats 4000000
/-! Own rules over the hand layer: zip of two texts; own errors without arguments. -/
namespace NW
open PySem PySem.Spec PyProof.Rows L2

/-! ### zip(x, y) of two texts -/
def ItzS (x y : Str) : It :=
  ⟨fun i _ => i < min x.cps.size y.cps.size,
   fun i H v H' => ∃ T c d, v = .ref T ∧ H T = none ∧ H' = upd H T (.tup [.str ⟨#[c]⟩, .str ⟨#[d]⟩]) ∧ x.cps[i]? = some c ∧ y.cps[i]? = some d,
   fun i _ => i = min x.cps.size y.cps.size⟩
def tnZ (z TI TO i1 i2 : Addr) (x y : Str) (t u : Tok) (i : Nat) (h : Heap) : Prop :=
  IsZip h z TI TO .none ∧ IsTupOf2 h TI (.ref i1) (.ref i2) ∧ (∃ a1 a2, IsTupOf2 h TO a1 a2) ∧ h.IsStrIter i1 (strIterType x) x t i ∧ h.IsStrIter i2 (strIterType y) y u i
theorem turn_zipS {P : Program} {w : World} {K : PySem.W.Frag} {elts : List Expr} {kk : Nat} {tpos : Pos} {z TI TO i1 i2 : Addr} {x y : Str} {t u : Tok} (S : ZipSep2 z TI TO i1 i2 [i1] [i2]) :
    Turn P w K (.Tuple elts kk tpos) (ItzS x y) (z :: TI :: TO :: ([i1] ++ [i2])) z (tnZ z TI TO i1 i2 x y t u) where
  mem := by simp
  obj := fun i h st c hc => by
    obtain ⟨hz, hTI, ⟨a1, a2, hTO⟩, ⟨o1, e1, _, d1⟩, ⟨o2, e2, _, d2⟩⟩ := st
    have e' : c = z ∨ c = TI ∨ c = TO ∨ c = i1 ∨ c = i2 := by simpa using hc
    rcases e' with q | q | q | q | q
    · rw [q]; exact ⟨_, hz, fun v q => nomatch q⟩
    · rw [q]; exact ⟨_, hTI, fun v q => nomatch q⟩
    · rw [q]; exact ⟨_, hTO, fun v q => nomatch q⟩
    · rw [q]; exact ⟨o1, e1, fun v q => by rw [d1] at q; cases q⟩
    · rw [q]; exact ⟨o2, e2, fun v q => by rw [d2] at q; cases q⟩
  keep := fun i h h' st k => by
    obtain ⟨hz, hTI, ⟨x, y, hTO⟩, ⟨o1, e1, r1⟩, ⟨o2, e2, r2⟩⟩ := st
    exact ⟨k z (by simp) _ hz, k TI (by simp) _ hTI, ⟨x, y, k TO (by simp) _ hTO⟩, ⟨o1, k i1 (by simp) _ e1, r1⟩, ⟨o2, k i2 (by simp) _ e2, r2⟩⟩
  item := by
    intro X hP hw hK hc i pins s σ H E I hf st hg
    subst hP hw hK
    have Gz : GoesN X.prog X.w X.A (.Tuple elts kk tpos) z (z :: TI :: TO :: ([i1] ++ [i2])) [z, TO, i1, i2] (min x.cps.size y.cps.size) _ _ :=
      GoesN.zip2 S (Draws.text (by exact I.ok.hd hc) i1 x t) (Draws.text (by exact I.ok.hd hc) i2 y u)
    refine wpAny_mono (Gz.goes i s (fun v s2 => ∃ x' H', Inv X pins σ H' s2 ∧ RelV x' v ∧ (ItzS x y).yld i H x' H' ∧ tnZ z TI TO i1 i2 x y t u (i + 1) s2.heap ∧ ∀ b ∈ (z :: TI :: TO :: ([i1] ++ [i2])), H' b = none) E hg st (fun v h' tk hY hst hk htk => ?_)) (fun r s1 q => q) fun _ _ e => e
    obtain ⟨T, vx, vy, rfl, hsz, ⟨c, t1, hcx, rfl⟩, ⟨d, t2, hdy, rfl⟩, hT⟩ := hY
    have hTnone : H T = none := I.hok.fresh hsz
    have hsub : ∀ b ∈ ([z, TO, i1, i2] : List Addr), b ∈ (z :: TI :: TO :: ([i1] ++ [i2])) := Gz.sub
    have new : ObjOk X.prog X.w (upd H T (.tup [.str ⟨#[c]⟩, .str ⟨#[d]⟩])) h' T (.tup [.str ⟨#[c]⟩, .str ⟨#[d]⟩]) :=
      ⟨by show 2 ≤ sizeLine; decide, [.str ⟨#[c]⟩ t1, .str ⟨#[d]⟩ t2], .cons ⟨t1, rfl⟩ (.cons ⟨t2, rfl⟩ .nil), hT⟩
    have I1 : Inv X pins σ (upd H T (.tup [.str ⟨#[c]⟩, .str ⟨#[d]⟩])) { s with heap := h', toks := tk } :=
      I.turnedNew (t' := tk) (ch := (z :: TI :: TO :: ([i1] ++ [i2]))) (fun b o hb q => hk b o (fun q' => hb (hsub b q')) q) hf hsz new
    refine ⟨.ref T, _, I1, rfl, ⟨T, c, d, rfl, hTnone, rfl, hcx, hdy⟩, hst, fun b hb => ?_⟩
    have hlt : b < s.heap.objs.size := by
      obtain ⟨hz, hTI, ⟨a1, a2, hTO⟩, ⟨o1, e1, _⟩, ⟨o2, e2, _⟩⟩ := st
      have e' : b = z ∨ b = TI ∨ b = TO ∨ b = i1 ∨ b = i2 := by simpa using hb
      rcases e' with q | q | q | q | q
      · rw [q]; exact Heap.lt_size hz
      · rw [q]; exact Heap.lt_size hTI
      · rw [q]; exact Heap.lt_size hTO
      · rw [q]; exact Heap.lt_size e1
      · rw [q]; exact Heap.lt_size e2
    rw [upd_ne (Nat.ne_of_lt (Nat.lt_of_lt_of_le hlt hsz))]
    exact (hf b hb).1
  done := by
    intro X hP hw hK hc i pins s σ H E I hf st hg
    subst hP hw hK
    have Gz : GoesN X.prog X.w X.A (.Tuple elts kk tpos) z (z :: TI :: TO :: ([i1] ++ [i2])) [z, TO, i1, i2] (min x.cps.size y.cps.size) _ _ :=
      GoesN.zip2 S (Draws.text (by exact I.ok.hd hc) i1 x t) (Draws.text (by exact I.ok.hd hc) i2 y u)
    have hg' : i = min x.cps.size y.cps.size := hg
    subst hg'
    refine Gz.stops s (fun s1 => Inv X pins σ H s1) E st fun h' tk hk _ => ?_
    exact I.turnedL (t' := tk) (ch := (z :: TI :: TO :: ([i1] ++ [i2]))) (fun b o hb q => hk b o (fun q' => hb (Gz.sub b q')) q) hf
  self := fun A i s Q E st h => wpAny_pyIter_zip st.1 h
def iZipS (ta : TA) : TI := fun σ H R => ta σ H fun vs H1 => ∃ x y, vs = [.str x, .str y] ∧ R (ItzS x y) H1
theorem pi_zipS {X : Cx} {e e2 : Expr} {ta : TA} {p pos tpos : Pos} {elts : List Expr} {kk : Nat} (hg : Gl X "zip") (hm : X.mg "zip" = none) (ha : PA X [e, e2] ta)
    (hs : starEach [e, e2] X.env = (false, eval e X.env) :: starEach [e2] X.env := by rfl) (hpl : (backTo pos (starEach [e2] X.env)).any (·.1) = false := by rfl) :
    PI X (.Tuple elts kk tpos) (.Call (.Name "zip" p) [e, e2] [] pos) (iZipS ta) := by
  refine ⟨fun pins s σ H R I h => ?_⟩
  refine Call_ (ld_blt I hg hm PyProof.Rows.boot_zip (PyProof.Rows.callWith_type1 (thn (ha.run pos pins s σ H _ I h) fun us s1 ⟨vs, H1, I1, r1, q1⟩ => ?_) hs hpl))
  obtain ⟨x, y, ex, q⟩ := q1
  subst ex
  cases r1 with
  | cons r rr =>
    cases rr with
    | cons r' rr =>
      cases rr
      obtain ⟨t, rfl⟩ := r
      obtain ⟨u, rfl⟩ := r'
      refine zip_begins2 (begins_text x t) (begins_text y u) trivial trivial fun h' hz hTI hTO h1 h2 hsz hk => wpAny_pyIter_zip hz ?_
      have I2 : Inv X pins σ H1 { s1 with heap := h' } := I1.kept (t' := s1.toks) hk
      have n1 : s1.heap.objs.size + 4 ≠ s1.heap.objs.size := by omega
      have S : ZipSep2 (s1.heap.objs.size + 4) (s1.heap.objs.size + 2) (s1.heap.objs.size + 3) s1.heap.objs.size (s1.heap.objs.size + 1) [s1.heap.objs.size] [s1.heap.objs.size + 1] := by
        constructor <;> (try simp) <;> (try (intro e; have e2 : (s1.heap.objs.size : Nat) = _ := e; omega))
      refine ⟨s1.heap.objs.size + 4, _, tnZ _ _ _ _ _ x y t u, _, H1, rfl, I2, turn_zipS S, ⟨hz, hTI, ⟨_, _, hTO⟩, ⟨_, h1, rfl, rfl⟩, ⟨_, h2, rfl, rfl⟩⟩, fun c hcm => ?_, q⟩
      have e' : c = s1.heap.objs.size + 4 ∨ c = s1.heap.objs.size + 2 ∨ c = s1.heap.objs.size + 3 ∨ c = s1.heap.objs.size ∨ c = s1.heap.objs.size + 1 := by simpa using hcm
      have hle : s1.heap.objs.size ≤ c := by
        rcases e' with z | z | z | z | z
        · rw [z]; exact Nat.le_add_right _ _
        · rw [z]; exact Nat.le_add_right _ _
        · rw [z]; exact Nat.le_add_right _ _
        · rw [z]; exact Nat.le_refl _
        · rw [z]; exact Nat.le_add_right _ _
      exact I1.fpOk hle (I1.hok.fresh hle)
theorem walk_zipS {x y : Str} : Walk (ItzS x y) (min x.cps.size y.cps.size) (fun _ => True)
    (fun i H v H' => ∃ T c d, v = .ref T ∧ H T = none ∧ H' = upd H T (.tup [.str ⟨#[c]⟩, .str ⟨#[d]⟩]) ∧ x.cps[i]? = some c ∧ y.cps[i]? = some d) :=
  ⟨fun _ _ hi _ => hi, fun _ _ => rfl, fun _ _ _ _ _ _ y => y⟩

/-! ### raise X(), X an own exception class without own __init__ -/
section
variable {X : Cx} {C : Addr} {bmB : List Value} {B newId initId : String}
theorem pmk_own0 {x : Str} {p pos : Pos} (F : ExcBaseFacts B newId initId bmB) (q : PySem.W.excIn X.K C bmB newId = true) (gC : X.mg x = some (.ref C)) (kC : PySem.W.keepIn X.K (.ref C) = true) (r : Raises X (.ref C)) (hg : Gl X x)
    (hdb : (x == ("__debug__" : Str)) = false := by decide) : PMk X (.Call (.Name x p) [] [] pos) (fun _ H Q => Q (.ref C) none H) := by
  intro pins s σ H Q I h
  refine wpAny_Call_Name_kw (ld_glob I hg gC ?_ hdb)
  refine PySem.W.callWith_K0 I.kIn kC ?_
  obtain ⟨bm, N, nm, qn, bs, hdct, sn, sub, ab, col, dd, k0, k1, k2, k3, k5, mN, hC, hN, hni, T⟩ := exc_obj I.kIn q
  show wpAny _ _ (call (.ref C) []) _ _ _
  refine wpAny_call_exc_subT F T hC hN hni (fun h' e hm => ?_) (by show 0 ≤ sizeLine; exact Nat.zero_le _)
  exact mk_of I hm r h (I.hok.gone hm.new)
end
end NW

/-! Own rules: len(set(x)), x a text. -/
namespace NW
open PySem PySem.Spec PyProof.Rows L2

/-- how many different signs stand in the first i of xs -/
def dif (f : Nat → Nat) : Nat → Nat
  | 0 => 0
  | i + 1 => if (List.range i).any (fun j => f j == f i) = true then dif f i else dif f i + 1
theorem dif_le (f : Nat → Nat) : ∀ i, dif f i ≤ i
  | 0 => Nat.le_refl _
  | i + 1 => by
    unfold dif
    have h := dif_le f i
    split <;> omega
def sg (c : Nat) : Str := ⟨#[c]⟩
theorem sg_inj {a b : Nat} (h : sg a = sg b) : a = b := by
  unfold sg at h
  injection h with h
  simpa using h
def had (f : Nat → Nat) (i : Nat) (k : Str) : Bool := (List.range i).any fun j => decide (k = sg (f j))
theorem had_sg (f : Nat → Nat) (i c : Nat) : had f i (sg c) = (List.range i).any fun j => f j == c := by
  unfold had
  congr 1
  funext j
  by_cases h : f j = c
  · subst h; simp
  · have h1 : ¬ sg c = sg (f j) := fun e => h (sg_inj e).symm
    rw [decide_eq_false h1]
    exact (beq_eq_false_iff_ne.mpr h).symm
theorem had_succ (f : Nat → Nat) (i : Nat) (k : Str) : had f (i + 1) k = (had f i k || decide (k = sg (f i))) := by
  unfold had
  rw [List.range_succ, List.any_append]
  simp

section
variable {prog : Program} {w : World} {A : Around} {R : Result → Shared → Prop} {I : Addr} {fp wr : List Addr} {G : Array GenState → Array GenState → Prop} {n : Nat} {P : Nat → Value → Prop} {St : Nat → Shared → Prop}
theorem loopSigns (W : WalksS prog w A.in1 I fp wr G n P St) (S : Addr) (hSf : S ∉ fp) (f : Nat → Nat) (hn1 : n < 4000)
    (hval : ∀ i v, P i v → ∃ t, v = .str (sg (f i)) t) :
    ∀ (k i : Nat) (s : Shared), n - i = k → i ≤ n → St i s →
      s.heap.SetOf (PySem.strKind prog w) S (had f i) (dif f i) →
      (∀ s', Moved (S :: wr) G s s' → s'.heap.SetOf (PySem.strKind prog w) S (had f n) (dif f n) → R (.ok (.ret .none)) s') →
      codeAny (model prog w) A (.builtin "set.update.loop" ⟨[.ref S, .ref I], []⟩) R s := by
  have hSw : S ∉ wr := fun h => hSf (W.sub _ h)
  have hsub : ∀ b ∈ wr, b ∈ S :: wr := fun b hb => List.mem_cons_of_mem _ hb
  intro k
  induction k with
  | zero =>
    intro i s hk hi hst hS hR
    obtain rfl : i = n := by omega
    refine codeAny_builtin PyProof.Rows.F.entry_set_update_loop ?_
    rw [Around.under_plainId PyProof.Rows.F.plain_set_update_loop _]
    show wpAny _ A.in1 (pyNext (.ref I) >>= _) _ _ s
    refine wpAny_bind (W.done s _ _ hst fun s' hm => ?_)
    show wpAny _ A.in1 (ret Value.none) _ _ s'
    exact wpAny_pure (hR s' (hm.mono hsub) (by
      obtain ⟨o, es, ep, t, ho, rest⟩ := hS
      exact ⟨o, es, ep, t, hm.heap S _ hSw ho, rest⟩))
  | succ k ih =>
    intro i s hk hi hst hS hR
    have hlt : i < n := by omega
    refine codeAny_builtin PyProof.Rows.F.entry_set_update_loop ?_
    rw [Around.under_plainId PyProof.Rows.F.plain_set_update_loop _]
    show wpAny _ A.in1 (pyNext (.ref I) >>= _) _ _ s
    refine wpAny_bind (W.item i s _ _ hlt hst fun v s' hP hst' hm => ?_)
    obtain ⟨t, rfl⟩ := hval i v hP
    have hS' : s'.heap.SetOf (PySem.strKind prog w) S (had f i) (dif f i) := by
      obtain ⟨o, es, ep, tb, ho, rest⟩ := hS
      exact ⟨o, es, ep, tb, hm.heap S _ hSw ho, rest⟩
    show wpAny _ A.in1 (holding [Value.str (sg (f i)) t] (setAdd S (.str (sg (f i)) t)) >>= _) _ _ s'
    refine wpAny_bind (wpAny_holding ?_)
    unfold setAdd
    refine wpAny_holding ?_
    refine wpAny_bind ((PySem.strKind prog w).pyHash (k := sg (f i)) (strKind_is _ _ _ _) ?_)
    refine wpAny_setAddHashed_of (knd := PySem.strKind prog w) (s := { s' with toks := s'.toks + 1 }) (strKind_is _ _ _ _) rfl hS' (by have := dif_le f i; unfold scanBound; omega) fun h' hsb hS2 => ?_
    have hSi : h'.SetOf (PySem.strKind prog w) S (had f (i + 1)) (dif f (i + 1)) := by
      refine SetOf_congr hS2 (fun k' => (had_succ f i k').symm) ?_
      rw [had_sg]
      rfl
    refine wpAny_pure ⟨plainId_quiet PyProof.Rows.F.plain_set_update_loop _, ih (i + 1) _ (by omega) hlt (W.frame _ s' _ _ hst' (Nat.le_succ _) fun b hb o e => ?_) hSi fun s'' hm'' hS'' => ?_⟩
    · rw [hsb.2 b (fun h : b = S => hSf (by rw [← h]; exact hb))]; exact e
    · refine hR s'' (Moved.trans W.gtrans ((hm.mono hsub).then_heap (Nat.le_succ _) fun b o hb e => ?_) hm'') hS''
      rw [hsb.2 b (fun h : b = S => hb (by rw [h]; exact List.mem_cons_self))]; exact e
end

section
variable {prog : Program} {w : World} {A : Around} {E : Value → Shared → Prop} {s : Shared}
theorem walks_text (hh : A.handled = none) (I : Addr) (x : Str) (t : Tok) :
    Walks prog w A I [I] [I] x.cps.size (SignAt x) (fun i h => h.IsStrIter I (strIterType x) x t i) := by
  cases ha : x.cps.all (· < 128)
  · simp only [strIterType, ha, Bool.false_eq_true, if_false]
    exact .strWide hh I x t
  · simp only [strIterType, ha, if_true]
    exact .strAscii hh I x t
theorem call_set_text {x : Str} {t : Tok} {Q : Value → Shared → Prop}
    (hh : A.handled = none) (hn1 : x.cps.size < 4000)
    (h : ∀ (h' : Heap) (tk : Nat), h'.SetOf (PySem.strKind prog w) s.heap.objs.size (had (fun i => x.cps.getD i 0) x.cps.size) (dif (fun i => x.cps.getD i 0) x.cps.size) →
      (∀ b o, b < s.heap.objs.size → s.heap.get? b = some o → h'.get? b = some o) → Q (.ref s.heap.objs.size) { s with heap := h', toks := tk }) :
    wpAny (model prog w) A (call (.type "set") [.str x t]) Q E s := by
  obtain ⟨c, tl, hmro⟩ := PySem.F.called_set.mro
  have hmade := PySem.F.called_set.made
  have hsub := PySem.F.called_set.sub
  refine wpAny_call (codeAny_of_tree ?_)
  show wpAny _ _ (callAny (.type "set") _) _ _ _
  refine wpAny_pure ⟨Code.quiet_builtin _ (by decide +kernel), codeAny_builtin PySem.F.entry_type_call ?_⟩
  rw [Around.under_plain (weight_type_call_type "set" [.str x t] []) rfl]
  have h1 := PySem.F.called_set.notType
  have h2 := PySem.F.called_set.canCreate
  have hct := PySem.F.typeCall_set_1 (.str x t)
  repeat (any_goals (first | assumption | wp_step))
  refine codeAny_mono (code_set_new_1 (.str x t) (E := E) (Q₁ := fun obj s₁ => ∃ led : Bool, obj = .ref s.heap.objs.size ∧ s₁ = { s with heap := s.heap.push { cls := .type "set", dict := none, data := .set #[] 0 (.fresh 0 0 led) } }) fun led => ⟨led, rfl, rfl⟩) fun r s₁ hr => ?_
  cases r with
  | error e => exact hr
  | ok fl =>
    cases fl with
    | ret obj =>
      obtain ⟨led, rfl, rfl⟩ := hr
      have hS : (s.heap.push { cls := .type "set", dict := none, data := .set #[] 0 (.fresh 0 0 led) }).get? s.heap.objs.size = some { cls := .type "set", dict := none, data := .set #[] 0 (.fresh 0 0 led) } := Heap.get?_push_size _ rfl
      have hT : Shared.TypeIs { s with heap := s.heap.push { cls := .type "set", dict := none, data := .set #[] 0 (.fresh 0 0 led) } } (.ref s.heap.objs.size) "set" := ⟨_, hS, rfl⟩
      have hli := PySem.F.called_set.init.lookup
      have hbi := PySem.F.called_set.init.bind (.ref s.heap.objs.size)
      repeat (any_goals (first | assumption | wp_step))
      refine codeAny_mono (codeAny_call_builtin (R := wants (fun r s₂ => r = .none ∧ ∃ h' tk, s₂ = { s with heap := h', toks := tk } ∧
          h'.SetOf (PySem.strKind prog w) s.heap.objs.size (had (fun i => x.cps.getD i 0) x.cps.size) (dif (fun i => x.cps.getD i 0) x.cps.size) ∧
          (∀ b o, b < s.heap.objs.size → s.heap.get? b = some o → h'.get? b = some o)) E) PySem.F.called_set.init.plain PySem.F.entry_set_init (check_set_init_1 hT ?_)) fun r₂ s₂ hr₂ => ?_
      · have hsls := PySem.F.sub_str_set
        have hslf := PySem.F.sub_str_frozenset
        have hne : (Value.type "str" == Value.type "dict") = false := by decide
        unfold Builtin.«set.__init__» noKeywords Builtin.Frozenset.updateFrom
        generalize hPI : pyIter = PI
        wp_walk
        subst hPI
        refine wpAny_pyIter_strU ?_
        refine wpAny_bind (wpAny_runValue ?_)
        have hh3 : A.in1.in1.in1.handled = none := by simp [hh]
        have hSf : s.heap.objs.size ∉ [(s.heap.push { cls := .type "set", dict := none, data := .set #[] 0 (.fresh 0 0 led) }).objs.size] := by
          rw [Heap.size_push]; simp only [List.mem_cons, List.mem_singleton, List.not_mem_nil, or_false]
          exact Nat.ne_of_lt (Nat.lt_succ_self _)
        have hval : ∀ (i : Nat) (v : Value), SignAt x i v → ∃ t, v = .str (sg (x.cps.getD i 0)) t := fun i v ⟨c, u, hc, hv⟩ => ⟨u, by
          rw [hv]
          have e : x.cps.getD i 0 = c := by simp [Array.getD_eq_getD_getElem?, hc]
          rw [e]
          rfl⟩
        refine loopSigns ((walks_text hh3 _ x t).toS) s.heap.objs.size
          hSf (fun i => x.cps.getD i 0) hn1 hval (x.cps.size - 0) 0 _ (by omega) (Nat.zero_le _)
          ⟨_, Heap.get?_push_size _ rfl, rfl, rfl⟩ ?hS0 ?hR
        case hS0 =>
          have hget : ((s.heap.push { cls := .type "set", dict := none, data := .set #[] 0 (.fresh 0 0 led) }).push { cls := .type (strIterType x), data := .fields #[.str x t, .int 0 0] }).get? s.heap.objs.size
              = some { cls := .type "set", dict := none, data := .set #[] 0 (.fresh 0 0 led) } := Heap.get?_push_of_some _ hS
          exact PyProof.Rows.SetOf_congr ((PyProof.Rows.setObjOf_fresh (knd := PySem.strKind prog w) led).setOf hget (by unfold scanBound; omega)) (fun _ => rfl) rfl
        case hR =>
          intro s' hm hS'
          obtain ⟨h', g', d', tk', os'⟩ := s'
          have eg : g' = s.gens := hm.gens
          have ed : d' = s.drawn := hm.drawn
          have eo : os' = s.os := hm.os
          subst eg; subst ed; subst eo
          show wpAny _ _ _ _ _ _
          refine wpAny_pure ?_
          show wpAny _ _ (ret Value.none) _ _ _
          refine wpAny_pure ⟨rfl, h', tk', rfl, hS', fun b o hb e => ?_⟩
          have hb1 : b ≠ s.heap.objs.size := Nat.ne_of_lt hb
          have hb2 : b ≠ (s.heap.push { cls := .type "set", dict := none, data := .set #[] 0 (.fresh 0 0 led) }).objs.size := by
            rw [Heap.size_push]; exact Nat.ne_of_lt (Nat.lt_succ_of_lt hb)
          exact hm.heap b o (by simp only [List.mem_cons, List.mem_singleton, List.not_mem_nil, or_false, not_or]; exact ⟨hb1, hb2⟩) (Heap.get?_push_of_some _ (Heap.get?_push_of_some _ e))
      · cases r₂ with
        | error e => exact hr₂
        | ok fl₂ =>
          cases fl₂ with
          | ret r =>
            obtain ⟨rfl, h', tk, rfl, hS', hk'⟩ := hr₂
            repeat (any_goals (first | assumption | wp_step))
            exact h _ _ hS' hk'
          | _ => exact hr₂.elim
    | _ => exact hr.elim
end

section
variable {X : Cx}
/-- len(set(x)), x a text -/
def tLenSetT (ta : TE) : TE := fun σ H Q => ta σ H fun v H1 => ∃ x : Str, v = .str x ∧ x.cps.size < 4000 ∧ Q (.int (dif (fun i => x.cps.getD i 0) x.cps.size : Nat)) H1
theorem pe_lenSetT {a : Expr} {ta : TE} {p p2 q pos : Pos} (hc : X.calm = true) (hg : Gl X "len") (hm : X.mg "len" = none) (hg2 : Gl X "set") (hm2 : X.mg "set" = none) (ha : PE X a ta)
    (na : starEach [a] X.env = (false, eval a X.env) :: starEach [] X.env := by rfl) : PE X (.Call (.Name "len" p) [.Call (.Name "set" p2) [a] [] q] [] pos) (tLenSetT ta) := by
  refine ⟨fun pins s σ H Q I h => ?_⟩
  refine Call_ (ld_blt I hg hm boot_len ?_)
  refine PyProof.Rows.callWith_builtin1 (PyProof.Rows.args_cons ?_ rfl) rfl rfl
  refine Call_ (ld_blt I hg2 hm2 boot_set ?_)
  refine PyProof.Rows.callWith_type1 (PyProof.Rows.args_cons (thn (ha.run pins s σ H _ I h) fun v s1 ⟨y, H1, I1, r1, q1⟩ => PyProof.Rows.args_nil ?_) na) na rfl
  obtain ⟨x, rfl, h1, q1⟩ := q1
  obtain ⟨t, rfl⟩ := r1
  refine call_set_text (I1.ok.hd hc) h1 fun h' tk hS hk => ?_
  refine PyProof.Rows.args_nil ?_
  obtain ⟨o, es, ep, t, ho, hex, hd, _, _, _, hf, hn⟩ := hS
  have I2 : Inv X pins σ H1 { s1 with heap := h', toks := tk } := I1.kept fun b o e => hk b o (Heap.lt_size e) e
  have hle := dif_le (fun i => x.cps.getD i 0) x.cps.size
  refine call_len_set ho hex hd hf (by rw [hn]; omega) ⟨.int (dif (fun i => x.cps.getD i 0) x.cps.size : Nat), H1, I2.tok _, ⟨_, by rw [hn]⟩, q1⟩
end
end NW

/-! Own rules: x[lo:hi:2] of a text. -/
namespace NW
open PySem PySem.Spec PyProof.Rows L2

/-- the signs at every second place -/
def stepS (z : Str) (lo hi : Option Int) (c : Int) : Str := ⟨((Builtin.Str.strSliceIndices lo hi c z.length).filterMap (z.cps[·]?)).toArray⟩
def tStepS (te : TE) (tl th : TO) (c : Int) : TE := fun σ H Q => te σ H fun v H1 => tl σ H1 fun lo H2 => th σ H2 fun hi H3 => ∃ z : Str, v = .str z ∧ (stepS z lo hi c).length ≤ sizeLine ∧ Q (.str (stepS z lo hi c)) H3
section
variable {X : Cx} {e : Expr} {te : TE} {lo hi : Option Expr} {tl th : TO}
theorem pe_stepS {c : Int} {k : Nat} {p1 p2 pos : Pos} (hc : 2 ≤ c) (he : PE X e te) (hl : PO X lo tl) (hu : PO X hi th) :
    PE X (.Subscript e (.Slice lo hi (some (.Constant (.int c) k p1)) p2) pos) (tStepS te tl th c) := by
  refine ⟨fun pins s σ H Q I h => ?_⟩
  refine Subscript_ (thn (he.run pins s σ H _ I h) fun v s1 ⟨x, H1, I1, r1, q1⟩ => ?_)
  have hst : PO X (some (.Constant (.int c) k p1)) (tPart (tC (.int c))) := po_some pe_int
  refine wpAny_Slice (thn (hl.run pins s1 σ H1 _ I1 q1) fun vl s2 ⟨l, H2, I2, pl, q2⟩ => thn (hu.run pins s2 σ H2 _ I2 q2) fun vu s3 ⟨u, H3, I3, pu, q3⟩ => ?_)
  refine thn (hst.run pins s3 σ H3 (fun o H4 => o = some c ∧ H4 = H3) I3 ⟨c, rfl, rfl, rfl⟩) fun vs s4 ⟨o, H4, I4, ps, eo, e4⟩ => ?_
  subst eo e4
  obtain ⟨z, rfl, hz, q⟩ := q3
  obtain ⟨t, rfl⟩ := r1
  obtain ⟨l, rfl, rfl⟩ := IsPart.raw pl
  obtain ⟨u, rfl, rfl⟩ := IsPart.raw pu
  obtain ⟨w', rfl, hw⟩ := IsPart.raw ps
  have I5 : Inv X pins σ H4 { s4 with heap := s4.heap.push { cls := .type "slice", data := .fields #[partValue l, partValue u, partValue w'] } } := I4.kept (t' := s4.toks) fun b ob q => Heap.get?_push_of_some _ q
  show wpAny (model X.prog X.w) X.A (subscriptTail e (.Slice lo hi (some (.Constant (.int c) k p1)) p2) (.str z t) (.ref s4.heap.objs.size)) (EP X pins σ Q) X.xe { s4 with heap := s4.heap.push { cls := .type "slice", data := .fields #[partValue l, partValue u, partValue w'] } }
  have hstep : (w'.map (·.1)).getD 1 = c := by rw [hw]; rfl
  refine tail_any (ops := [.ref s4.heap.objs.size, .str z t]) (typeIs_str _ _ _) PySem.F.slot_str_getitem.lookup ?_ (by with_unfolding_all rfl)
  refine wpAny_getItem_str_slice (l := l) (u := u) (st := w') ⟨_, Heap.get?_push_size _ rfl, rfl, rfl⟩ (by rw [hstep]; exact beq_eq_false_iff_ne.mpr (by omega)) ?_
  have e0 : sliceMade z t l u w' = Made.str (stepS z (l.map (·.1)) (u.map (·.1)) c) := by
    unfold sliceMade
    rw [if_neg]
    · unfold slicePicked stepS
      rw [hstep]
    · rw [hstep, Bool.and_eq_true, not_and]
      intro h
      exact absurd (beq_iff_eq.mp h) (by omega)
  rw [e0]
  exact ⟨hz, .str _, H4, I5.tok _, ⟨_, rfl⟩, q⟩
end
theorem ix_even : Builtin.Str.strSliceIndices none none 2 4 = [0, 2] := by decide +kernel
theorem ix_odd : Builtin.Str.strSliceIndices (some 1) none 2 4 = [1, 3] := by decide +kernel
theorem stepS_even {a b c d : Nat} : stepS ⟨#[a, b, c, d]⟩ none none 2 = ⟨#[a, c]⟩ := by
  show (⟨((Builtin.Str.strSliceIndices none none 2 4).filterMap ((#[a, b, c, d] : Array Nat)[·]?)).toArray⟩ : Str) = _
  rw [ix_even]
  rfl
theorem stepS_odd {a b c d : Nat} : stepS ⟨#[a, b, c, d]⟩ (some 1) none 2 = ⟨#[b, d]⟩ := by
  show (⟨((Builtin.Str.strSliceIndices (some 1) none 2 4).filterMap ((#[a, b, c, d] : Array Nat)[·]?)).toArray⟩ : Str) = _
  rw [ix_odd]
  rfl
end NW

/-! Texts as lists of signs; readings one rule at a time; heaps. -/
namespace NW
open PySem PySem.Spec PyProof.Rows L2

/-! ### texts -/
def tx (l : List Nat) : Str := ⟨l.toArray⟩
theorem tx_append (l m : List Nat) : tx l ++ tx m = tx (l ++ m) := by
  show (⟨l.toArray ++ m.toArray⟩ : Str) = ⟨(l ++ m).toArray⟩
  simp
theorem tx_length (l : List Nat) : (tx l).length = l.length := by
  show l.toArray.size = _
  simp
theorem tx_size (l : List Nat) : (tx l).cps.size = l.length := tx_length l
theorem tx_list (l : List Nat) : (tx l).cps.toList = l := rfl
theorem tx_get (l : List Nat) (i : Nat) : (tx l).cps[i]? = l[i]? := by
  show l.toArray[i]? = l[i]?
  simp
theorem tx_inj {l m : List Nat} (h : tx l = tx m) : l = m := by
  have := congrArg (fun s => s.cps.toList) h
  simpa [tx_list] using this
theorem tx_eq {l m : List Nat} : tx l = tx m ↔ l = m := ⟨tx_inj, fun h => by rw [h]⟩
theorem tx_of (s : Str) : s = tx s.cps.toList := by
  show s = ⟨s.cps.toList.toArray⟩
  simp
theorem sg_tx (c : Nat) : sg c = tx [c] := rfl
theorem one_tx (c : Nat) : (⟨#[c]⟩ : Str) = tx [c] := rfl
theorem empty_tx : ("" : Str) = tx [] := by decide +kernel

/-! ### rules by values in one -/
section
variable {X : Cx}
def rAddA : R2 := fun x y H Q => rI0 (fun i j => .int (i + j)) x y H Q ∨ (∃ i j, x = .str i ∧ y = .str j ∧ i.length + j.length ≤ sizeLine ∧ Q (.str (i ++ j)) H) ∨ rCat x y H Q
theorem op_addA : OpR X (binaryOp .Add) rAddA := op_add.or (op_add_str.or op_cat)
def rSlA2 (K : PySem.W.Frag) : V → Option Int → Option Int → Hp → VK → Prop := fun x lo hi H Q => rSlL K x lo hi H Q ∨ rSlS x lo hi H Q
theorem sl_any : SlR X (rSlA2 X.K) := SlR.or sl_list sl_str
def rLenA (K : PySem.W.Frag) : List V → Hp → VK → Prop := fun xs H Q => ∃ x n, xs = [x] ∧ LenV K x H n ∧ Q (.int (n : Nat)) H
theorem call_lenA : CallR X (.builtin "len") (rLenA X.K) := call_len
def rAbs : List V → Hp → VK → Prop := fun xs H Q => ∃ i, xs = [.int i] ∧ Q (.int (if i < 0 then -i else i)) H
theorem call_absA : CallR X (.builtin "abs") rAbs := call_abs
def rInt : List V → Hp → VK → Prop := fun xs H Q => (∃ i, xs = [.int i] ∧ Q (.int i) H) ∨ ∃ k, xs = [.bl k] ∧ Q (.int (if k then 1 else 0)) H
theorem call_intA : CallR X (.type "int") rInt := call_int1
def rInSg : R2 := fun x y H Q => ∃ (c : Nat) (z : Str), x = .str ⟨#[c]⟩ ∧ y = .str z ∧ Q (.bl (decide (c ∈ z.cps.toList))) H
theorem op_inSg : OpR X (compareOp .In) rInSg := op_in_sign
def rNotInSg : R2 := fun x y H Q => ∃ (c : Nat) (z : Str), x = .str ⟨#[c]⟩ ∧ y = .str z ∧ Q (.bl (!decide (c ∈ z.cps.toList))) H
theorem op_notInSg : OpR X (compareOp .NotIn) rNotInSg := op_notIn_sign
def rListA (K : PySem.W.Frag) : List V → Hp → VK → Prop := fun xs H Q => ∃ p ys, xs = [.ref p] ∧ (SqL K H p ys ∨ SqT K H p ys) ∧ ∀ l, H l = none → Q (.ref l) (upd H l (.lst ys))
theorem call_listA : CallR X (.type "list") (rListA X.K) := call_list_of
/-! the same with the written part told -/
section
variable {K : PySem.W.Frag}
theorem ix_seqK (h : X.K = K) : IxR X (rIx K) := h ▸ ix_seq
theorem sl_anyK (h : X.K = K) : SlR X (rSlA2 K) := h ▸ sl_any
theorem call_lenK (h : X.K = K) : CallR X (.builtin "len") (rLenA K) := h ▸ call_lenA
theorem call_isiK1 (h : X.K = K) : CallR X (.builtin "isinstance") (rIsi K) := h ▸ call_isi
theorem cr_allK (h : X.K = K) (hc : X.calm = true) : CallR X (.builtin "all") (rAll K) := h ▸ cr_all hc
theorem cr_anyK (h : X.K = K) (hc : X.calm = true) : CallR X (.builtin "any") (rAny K) := h ▸ cr_any hc
theorem cr_sumK (h : X.K = K) (hc : X.calm = true) : CallR X (.builtin "sum") (rSum K) := h ▸ cr_sum hc
theorem call_listK (h : X.K = K) : CallR X (.type "list") (rListA K) := h ▸ call_listA
theorem op_eqDK (h : X.K = K) (hu : X.A.units + 64 < cLine) : OpR X (compareOp .Eq) (rEqD K) := h ▸ op_eqD hu
theorem op_neDK (h : X.K = K) (hu : X.A.units + 64 < cLine) : OpR X (compareOp .NotEq) (rNeD K) := h ▸ op_neD hu
theorem op_in_seqK (h : X.K = K) : OpR X (compareOp .In) (rIn K false) := h ▸ op_in_seq
theorem op_notIn_seqK (h : X.K = K) : OpR X (compareOp .NotIn) (rIn K true) := h ▸ op_notIn_seq
theorem pe_fldK {e : Expr} {ta : TE} {f : Str} {pos : Pos} (h : X.K = K) (he : PE X e ta) (hb : attributeBase e f X.env (eval e X.env) = eval e X.env) : PE X (.Attribute e f pos) (tFld K ta f) := h ▸ pe_fld he hb
theorem pi_listK {tg l : Expr} {tl : TE} (h : X.K = K) (hl : PE X l tl) : PI X tg l (iList K tl) := h ▸ pi_list hl
theorem pi_tupK {tg l : Expr} {tl : TE} (h : X.K = K) (hl : PE X l tl) : PI X tg l (iTup K tl) := h ▸ pi_tup hl
theorem pg_tupK {es : List Expr} {k : Nat} {pos : Pos} {t : TGs} {n : Nat} (h : X.K = K) (hc : X.calm = true) (hg : PGs X es t)
    (hn : (assignEach es X.env).length = n := by rfl) (hst : (assignEach es X.env).findIdx? (·.1) = none := by rfl) : PG X (.Tuple es k pos) (gTup K n t) := h ▸ pg_tup hc hg hn hst
theorem pe_bmK {T name : String} {id : String} {r : V → List V → Hp → VK → Prop} {o e : Expr} {es : List Expr} {to : TE} {t : TA} {nm : Str} {apos cpos : Pos}
    (h : X.K = K) (p : PE X (.Call (.Attribute o nm apos) (e :: es) [] cpos) (tBM X.K T r to t)) : PE X (.Call (.Attribute o nm apos) (e :: es) [] cpos) (tBM K T r to t) := h ▸ p
theorem pe_bm0K {T : String} {r : V → List V → Hp → VK → Prop} {o : Expr} {to : TE} {nm : Str} {apos cpos : Pos}
    (h : X.K = K) (p : PE X (.Call (.Attribute o nm apos) [] [] cpos) (tBM0 X.K T r to)) : PE X (.Call (.Attribute o nm apos) [] [] cpos) (tBM0 K T r to) := h ▸ p
end
theorem hu64 {A : Around} {k : Nat} (hr : Room k A) : A.units + 64 < cLine := by have := hr.un; omega
theorem hu65 {A : Around} {k : Nat} (hr : Room k A) : A.units + 65 < cLine := by have := hr.un; omega
end

/-! ### readings, one rule at a time -/
section
variable {σ : L2.St} {H : Hp} {Q : VK} {D : Ends} {ta tb te tc : TE} {t u : TT} {tA : TA} {ts tu tw : TS} {g : TG} {QT : Bool → Hp → Prop} {QA : List V → Hp → Prop} {QO : Option Int → Hp → Prop}
theorem rd_seq (h : ts { D with nx := tu D } σ H) : tSeq ts tu D σ H := h
theorem rd_asg (h : te σ H fun x H1 => g x σ H1 D.nx) : tAsg te g D σ H := h
theorem rd_name {i : Nat} {v : V} {q : L2.St → Hp → Prop} (h : q (σ.set i (some v)) H) : gName i v σ H q := h
theorem rd_ret (h : te σ H D.rt) : tRet te D σ H := h
theorem rd_drop (h : te σ H fun _ H1 => D.nx σ H1) : tDrop te D σ H := h
theorem rd_next (h : D.nx σ H) : tNext D σ H := h
theorem rd_ifS (h : t σ H fun b H1 => if b = true then ts D σ H1 else tu D σ H1) : tIfS t ts tu D σ H := h
theorem rd_var {i : Nat} {v : V} (e : σ[i]? = some (some v)) (h : Q v H) : tVar i σ H Q := ⟨v, e, h⟩
theorem rd_c {v : V} (h : Q v H) : tC v σ H Q := h
theorem rd_op {r : R2} (h : ta σ H fun x H1 => tb σ H1 fun y H2 => r x y H2 Q) : tOp r ta tb σ H Q := h
theorem rd_un {r : V → Hp → VK → Prop} (h : ta σ H fun x H1 => r x H1 Q) : tUn r ta σ H Q := h
theorem rd_test (h : te σ H fun x H1 => ∃ k, x = .bl k ∧ QT k H1) : tTest te σ H QT := h
theorem rd_B (h : te σ H fun x H1 => ∃ k, x = .bl k ∧ QT k H1) : tB te σ H QT := h
theorem rd_bl {b : Bool} (h : QT b H) : ∃ k, (V.bl b) = .bl k ∧ QT k H := ⟨b, rfl, h⟩
theorem rd_not (h : t σ H fun c H1 => QT (!c) H1) : tNot t σ H QT := h
theorem rd_and (h : t σ H fun c H1 => if c = true then u σ H1 QT else QT false H1) : tAnd t u σ H QT := h
theorem rd_or (h : t σ H fun c H1 => if c = true then QT true H1 else u σ H1 QT) : tOr t u σ H QT := h
theorem rd_andV (h : ta σ H fun x H1 => ∃ c, x = .bl c ∧ if c = true then tb σ H1 Q else Q (.bl false) H1) : tAndV ta tb σ H Q := h
theorem rd_orV (h : ta σ H fun x H1 => ∃ c, x = .bl c ∧ if c = true then Q (.bl true) H1 else tb σ H1 Q) : tOrV ta tb σ H Q := h
theorem rd_notV (h : ta σ H fun x H1 => ∃ c, x = .bl c ∧ Q (.bl (!c)) H1) : tNotV ta σ H Q := h
theorem rd_blI {b : Bool} {P : Bool → Prop} (h : P b) : ∃ k, (V.bl b) = .bl k ∧ P k := ⟨b, rfl, h⟩
theorem rd_if (h : t σ H fun c H1 => if c = true then ta σ H1 Q else tb σ H1 Q) : tIf t ta tb σ H Q := h
theorem rd_nil (h : QA [] H) : tNil σ H QA := h
theorem rd_cons (h : te σ H fun x H1 => tA σ H1 fun xs H2 => QA (x :: xs) H2) : tCons te tA σ H QA := h
theorem rd_cb {r : List V → Hp → VK → Prop} (h : tA σ H fun vs H1 => r vs H1 Q) : tCB r tA σ H Q := h
theorem rd_tup (h : tA σ H fun xs H1 => xs.length ≤ sizeLine ∧ ∀ p, H1 p = none → Q (.ref p) (upd H1 p (.tup xs))) : tTup tA σ H Q := h
theorem rd_lst (h : tA σ H fun xs H1 => xs.length ≤ sizeLine ∧ ∀ p, H1 p = none → Q (.ref p) (upd H1 p (.lst xs))) : tLst tA σ H Q := h
theorem rd_sl {r : V → Option Int → Option Int → Hp → VK → Prop} {tl th : TO} (h : te σ H fun x H1 => tl σ H1 fun l H2 => th σ H2 fun v H3 => r x l v H3 Q) : tSl r te tl th σ H Q := h
theorem rd_none (h : QO none H) : tNoPart σ H QO := h
theorem rd_some (h : te σ H fun x H1 => ∃ i, x = .int i ∧ QO (some i) H1) : tPart te σ H QO := h
theorem rd_int {i : Int} {P : Int → Prop} (h : P i) : ∃ k, (V.int i) = .int k ∧ P k := ⟨i, rfl, h⟩
theorem rd_callS {sp : Sp} {E : L2.St → XK} (h : tA σ H fun vs H1 => sp vs H1 Q (E σ)) : tCallS sp E tA σ H Q := h
theorem rd_call {sp : Sp} {dvs : List V} {E : XK} (h : tA σ H fun vs H1 => sp (vs ++ dvs) H1 Q E) : tCall sp dvs E tA σ H Q := h
theorem rd_fld {K : PySem.W.Frag} {f : Str} (h : te σ H fun x H1 => ∃ a C dx fs v, x = .ref a ∧ H1 a = some (.ins C dx fs) ∧ Cls K C ∧ NoAttr K C f ∧ fs.lookup f = some v ∧ Q v H1) : tFld K te f σ H Q := h
theorem rd_meth {C : Addr} {m : Str} {sp : Sp} {dvs : List V} {E : XK} (h : te σ H fun x H1 => ∃ a dx fs, x = .ref a ∧ H1 a = some (.ins C dx fs) ∧ fs.lookup m = none ∧ tA σ H1 fun vs H2 => sp (x :: (vs ++ dvs)) H2 Q E) : tMeth C m sp dvs E te tA σ H Q := h
theorem rd_din {td ty : TE} (h : ty σ H fun y H1 => td σ H1 fun x H2 => ∃ a o, x = .ref a ∧ DGet H2 a y o ∧ Q (.bl o.isSome) H2) : tDIn ty td σ H Q := h
theorem rd_dnotin {td ty : TE} (h : ty σ H fun y H1 => td σ H1 fun x H2 => ∃ a o, x = .ref a ∧ DGet H2 a y o ∧ Q (.bl (!o.isSome)) H2) : tDNotIn ty td σ H Q := h
theorem rd_dget {td ty : TE} (h : td σ H fun x H1 => ty σ H1 fun y H2 => ∃ a v, x = .ref a ∧ DGet H2 a y (some v) ∧ Q v H2) : tDGet td ty σ H Q := h
theorem rd_dput {td ty tv : TE} (h : tv σ H fun v H1 => td σ H1 fun x H2 => ty σ H2 fun y H3 => ∃ a H4, x = .ref a ∧ DPut H3 a y v H4 ∧ D.nx σ H4) : sDPut td ty tv D σ H := h
theorem rd_sfld {K : PySem.W.Frag} {f : Str} {tv : TE} (h : tv σ H fun y H1 => ta σ H1 fun x H2 => ∃ a C dx fs, x = .ref a ∧ H2 a = some (.ins C dx fs) ∧ Cls K C ∧ NoAttr K C f ∧ fs.length < 1000 ∧
  D.nx σ (upd H2 a (.ins C dx (putF f y fs)))) : sFld K ta tv f D σ H := h
theorem rd_make {C : Addr} {sp : Sp} {dvs : List V} {E : XK} (h : tA σ H fun vs H1 => ∀ x dx, H1 x = none → H1 dx = none → dx ≠ x →
  sp (.ref x :: (vs ++ dvs)) (upd (upd H1 dx (.own x)) x (.ins C dx [])) (fun v H2 => v = .non ∧ Q (.ref x) H2) E) : tMake C sp dvs E tA σ H Q := h
theorem rd_chain {r r' : R2} {tc : TE} (h : ta σ H fun x H1 => tb σ H1 fun y H2 => r x y H2 fun z H3 => ∃ k, z = .bl k ∧ (if k = true then tc σ H3 fun w' H4 => r' y w' H4 Q else Q (.bl false) H3)) : tChain r r' ta tb tc σ H Q := h
theorem rd_step {tl th : TO} {c : Int} (h : te σ H fun v H1 => tl σ H1 fun lo H2 => th σ H2 fun hi H3 => ∃ z : Str, v = .str z ∧ (stepS z lo hi c).length ≤ sizeLine ∧ Q (.str (stepS z lo hi c)) H3) : tStepS te tl th c σ H Q := h
theorem rd_setl (h : te σ H fun v H1 => ∃ x : Str, v = .str x ∧ x.cps.size < 4000 ∧ Q (.int (dif (fun i => x.cps.getD i 0) x.cps.size : Nat)) H1) : tLenSetT te σ H Q := h
theorem rd_sub {to ti : TE} {ts : TSet} {v : V} {q : L2.St → Hp → Prop} (h : to σ H fun o H1 => ti σ H1 fun i H2 => ts o i v H2 fun H3 => q σ H3) : gSub to ti ts v σ H q := h
theorem rd_bm {K : PySem.W.Frag} {T : String} {r : V → List V → Hp → VK → Prop} (h : te σ H fun x H1 => tyV K T x H1 ∧ tA σ H1 fun xs H2 => r x xs H2 Q) : tBM K T r te tA σ H Q := h
theorem rd_bm0 {K : PySem.W.Frag} {T : String} {r : V → List V → Hp → VK → Prop} (h : te σ H fun x H1 => tyV K T x H1 ∧ r x [] H1 Q) : tBM0 K T r te σ H Q := h
/-! by values -/
theorem rI0_i {g : Int → Int → V} {i j : Int} (h : Q (g i j) H) : rI0 g (.int i) (.int j) H Q := ⟨i, j, rfl, rfl, h⟩
theorem rI_i {C : Int → Int → Prop} {g : Int → Int → V} {i j : Int} (c : C i j) (h : Q (g i j) H) : rI C g (.int i) (.int j) H Q := ⟨i, j, rfl, rfl, c, h⟩
theorem rAdd_i {i j : Int} (h : Q (.int (i + j)) H) : rAddA (.int i) (.int j) H Q := .inl ⟨i, j, rfl, rfl, h⟩
theorem rAdd_s {l m : List Nat} (z : l.length + m.length ≤ 100000) (h : Q (.str (tx (l ++ m))) H) : rAddA (.str (tx l)) (.str (tx m)) H Q :=
  .inr (.inl ⟨tx l, tx m, rfl, rfl, by rw [tx_length, tx_length]; exact Nat.le_trans z (by decide), by rw [tx_append]; exact h⟩)
theorem rAdd_l {a b : Addr} {xs ys : List V} (ha : H a = some (.lst xs)) (hb : H b = some (.lst ys)) (z : xs.length + ys.length ≤ 100000) (h : ∀ p, H p = none → Q (.ref p) (upd H p (.lst (xs ++ ys)))) : rAddA (.ref a) (.ref b) H Q :=
  .inr (.inr ⟨a, b, xs, ys, rfl, rfl, ha, hb, Nat.le_trans z (by decide), h⟩)
theorem rEq_v {x y : V} (e : scal x y = true) (h : Q (.bl (decide (x = y))) H) : rEq x y H Q := ⟨e, h⟩
theorem rNe_v {x y : V} (e : scal x y = true) (h : Q (.bl (!decide (x = y))) H) : rNe x y H Q := ⟨e, h⟩
theorem rU_i {g : Int → V} {i : Int} (h : Q (g i) H) : rU g (.int i) H Q := ⟨i, rfl, h⟩
theorem rIx_l {K : PySem.W.Frag} {p : Addr} {xs : List V} {i : Int} {v : V} (hs : SqL K H p xs) (e : atI xs i = some v) (h : Q v H) : rIx K (.ref p) (.int i) H Q := .inl ⟨p, xs, i, v, rfl, rfl, hs, e, h⟩
theorem rIx_t {K : PySem.W.Frag} {p : Addr} {xs : List V} {i : Int} {v : V} (hs : SqT K H p xs) (e : atI xs i = some v) (h : Q v H) : rIx K (.ref p) (.int i) H Q := .inr (.inl ⟨p, xs, i, v, rfl, rfl, hs, e, h⟩)
theorem rIx_s {K : PySem.W.Frag} {l : List Nat} {i : Int} {c : Nat} (z : l.length ≤ 100000) (e : atI l i = some c) (h : Q (.str (tx [c])) H) : rIx K (.str (tx l)) (.int i) H Q :=
  .inr (.inr ⟨tx l, i, c, rfl, rfl, by rw [tx_length]; exact Nat.le_trans z (by decide), e, h⟩)
theorem len_s {K : PySem.W.Frag} {l : List Nat} (z : l.length ≤ 100000) (h : Q (.int (l.length : Nat)) H) : rLenA K [V.str (tx l)] H Q :=
  ⟨_, l.length, rfl, ⟨by rw [tx_length]; exact Nat.le_trans z (by decide), (tx_length l).symm⟩, h⟩
theorem len_l {K : PySem.W.Frag} {p : Addr} {xs : List V} (hs : SqL K H p xs) (h : Q (.int (xs.length : Nat)) H) : rLenA K [V.ref p] H Q := ⟨_, xs.length, rfl, .inl ⟨xs, hs, rfl⟩, h⟩
theorem len_t {K : PySem.W.Frag} {p : Addr} {xs : List V} (hs : SqT K H p xs) (h : Q (.int (xs.length : Nat)) H) : rLenA K [V.ref p] H Q := ⟨_, xs.length, rfl, .inr ⟨xs, hs, rfl⟩, h⟩
theorem in_sg {c : Nat} {l : List Nat} (h : Q (.bl (decide (c ∈ l))) H) : rInSg (V.str (tx [c])) (V.str (tx l)) H Q := ⟨c, tx l, rfl, rfl, h⟩
theorem notin_sg {c : Nat} {l : List Nat} (h : Q (.bl (!decide (c ∈ l))) H) : rNotInSg (V.str (tx [c])) (V.str (tx l)) H Q := ⟨c, tx l, rfl, rfl, h⟩
theorem abs_i {i : Int} (h : Q (.int (if i < 0 then -i else i)) H) : rAbs [.int i] H Q := ⟨i, rfl, h⟩
theorem int_i {i : Int} (h : Q (.int i) H) : rInt [.int i] H Q := .inl ⟨i, rfl, h⟩
theorem int_b {b : Bool} (h : Q (.int (if b then 1 else 0)) H) : rInt [.bl b] H Q := .inr ⟨b, rfl, h⟩
theorem list_l {K : PySem.W.Frag} {p : Addr} {ys : List V} (hs : SqL K H p ys) (h : ∀ l, H l = none → Q (.ref l) (upd H l (.lst ys))) : rListA K [.ref p] H Q := ⟨p, ys, rfl, .inl hs, h⟩
end

/-! ### heaps -/
theorem Same.get {H H1 : Hp} {a : Addr} {o : HO} (s : Same H H1) (h : H a = some o) : H1 a = some o := s a o h
theorem upd_keep {H : Hp} {a p : Addr} {o u : HO} (n : H p = none) (h : H a = some o) : upd H p u a = some o := by rw [upd_ne (ne_of_none h n)]; exact h
theorem upd_oth {H : Hp} {a p : Addr} {o u : HO} (n : a ≠ p) (h : H a = some o) : upd H p u a = some o := by rw [upd_ne n]; exact h
theorem Same.new {H : Hp} {p : Addr} {o : HO} (n : H p = none) : Same H (upd H p o) := fun _ _ h => upd_keep n h
theorem Same.mut {H H' : Hp} {p : Addr} {o : HO} (s : Same H H') (n : H p = none) : Same H (upd H' p o) := fun a u h => by rw [upd_ne (ne_of_none h n)]; exact s a u h
theorem Same.seqT {K : PySem.W.Frag} {H H' : Hp} {a : Addr} {xs : List V} (e : Same H H') (h : SqT K H a xs) : SqT K H' a xs := Evl.ex_t e h
theorem scal_str {x y : Str} : scal (.str x) (.str y) = true := rfl
theorem decide_str {l m : List Nat} : decide (V.str (tx l) = V.str (tx m)) = decide (l = m) := by
  by_cases h : l = m
  · subst h; simp
  · have h1 : ¬ (V.str (tx l) = V.str (tx m)) := fun e => h (tx_inj (V.str.inj e))
    rw [decide_eq_false h, decide_eq_false h1]
theorem decide_int {i j : Int} : decide (V.int i = V.int j) = decide (i = j) := by
  by_cases h : i = j
  · subst h; simp
  · have h1 : ¬ (V.int i = V.int j) := fun e => h (V.int.inj e)
    rw [decide_eq_false h, decide_eq_false h1]
end NW

/-! Comprehensions over texts, and over two texts at once, by what their parts evaluate to. -/
namespace NW
open PySem PySem.Spec PyProof.Rows L2 Evl

theorem range_getD {α : Type} (d : α) (l : List α) : (List.range l.length).map (fun i => l.getD i d) = l := by
  apply List.ext_getElem?
  intro i
  rw [List.getElem?_map]
  by_cases h : i < l.length
  · rw [List.getElem?_range h, List.getElem?_eq_getElem h]
    simp [List.getD, List.getElem?_eq_getElem h]
  · have h1 : l.length ≤ i := Nat.le_of_not_lt h
    rw [List.getElem?_eq_none h1, List.getElem?_eq_none (by simpa using h1)]
    rfl
theorem given_getD {α : Type} (d : α) (l : List α) (p : α → Bool) (v : α → V) : given l.length (fun i => p (l.getD i d)) (fun i => v (l.getD i d)) = (l.filter p).map v := by
  unfold given
  conv => rhs; rw [← range_getD d l]
  rw [List.filter_map, List.map_map]
  rfl
section
variable {K : PySem.W.Frag} {σ : L2.St} {H H' : Hp} {ta tb te tl : TE} {t : TT} {x y z v : V} {g : TG}
theorem rd_L {xs : List V} {Q : VK} (h : EvL te σ H xs) (k : ∀ p H1, H p = none → Same H H1 → H1 p = some (.lst xs) → Q (.ref p) H1) : te σ H Q := h H (Ex.refl H) Q k
theorem rd_E {v : V} {Q : VK} (h : Ev te σ H v) (k : ∀ H1, Same H H1 → Q v H1) : te σ H Q := h H (Ex.refl H) Q k
theorem ev_yes : EvT tYes σ H true := fun H1 _ Q q => q H1 (Ex.refl H1)
/-- [te for j in text if t] -/
theorem el_lcS {l : List Nat} {j : Nat} {vs : List Nat} (p : Nat → Bool) (v : Nat → V) (h : Ev tl σ H (.str (tx l))) (hz : l.length ≤ 40000) (hw : ∀ x, wipe ((wipe σ vs).set j (some x)) vs = wipe σ vs)
    (ht : ∀ c ∈ l, ∀ H1, Ex H H1 → EvT t ((wipe σ vs).set j (some (.str (tx [c])))) H1 (p c)) (he : ∀ c ∈ l, ∀ H1, Ex H H1 → p c = true → Ev te ((wipe σ vs).set j (some (.str (tx [c])))) H1 (v c)) :
    EvL (tLc (iStr tl) (gName j) t te vs) σ H ((l.filter p).map v) := fun H0 e Q q => h H0 e _ fun H1 e1 => ⟨tx l, rfl, fun Dl hD => by
  have hn : (tx l).cps.size = l.length := tx_size l
  refine lc_it (G := fun _ => True) (walk_str (z := tx l)) (Cw H1 (fun i => p (l.getD i 0)) (fun i => v (l.getD i 0)) Dl) ⟨hD, Ex.new hD, upd_same⟩ (fun _ _ _ _ => trivial) (fun i x H' H'' hi pv hy => ?_) (fun H' pv => ?_)
  · obtain ⟨rfl, c, hc, rfl⟩ := hy
    rw [tx_get] at hc
    have hm : c ∈ l := List.mem_of_getElem? hc
    have hd : l.getD i 0 = c := by simp [List.getD, hc]
    refine ⟨hw _, ?_⟩
    have hi' : i < 50000 := by rw [hn] at hi; omega
    refine cw_turn pv hi' ?_ ?_
    · show EvT t _ H1 (p (l.getD i 0))
      rw [hd]
      exact ht c hm H1 (e.trans e1)
    · intro hf
      have hf' : p (l.getD i 0) = true := hf
      rw [hd] at hf'
      show Ev te _ H1 (v (l.getD i 0))
      rw [hd]
      exact he c hm H1 (e.trans e1) hf'
  · obtain ⟨p1, p2, p3⟩ := pv
    rw [hn, given_getD] at p3
    exact q Dl H' (fresh_back e1 p1) (e1.trans p2) p3⟩
/-- [te for a, b in zip(text, text)] -/
theorem el_lcZ {l m : List Nat} {a b : Nat} {vs : List Nat} {tz : TA} (v : Nat → Nat → V) (h : EvA tz σ H [.str (tx l), .str (tx m)]) (hlm : l.length = m.length) (hz : l.length ≤ 40000)
    (hw : ∀ x y, wipe (((wipe σ vs).set a (some x)).set b (some y)) vs = wipe σ vs)
    (hg : ∀ x y T σ' H' (R : L2.St → Hp → Prop), H' T = some (.tup [x, y]) → R ((σ'.set a (some x)).set b (some y)) H' → g (.ref T) σ' H' R)
    (he : ∀ c d H1, Ex H H1 → Ev te (((wipe σ vs).set a (some (.str (tx [c])))).set b (some (.str (tx [d])))) H1 (v c d)) :
    EvL (tLc (iZipS tz) g tYes te vs) σ H ((l.zip m).map fun p => v p.1 p.2) := fun H0 e Q q => h H0 e _ fun H1 e1 => ⟨tx l, tx m, rfl, fun Dl hD => by
  have hn : min (tx l).cps.size (tx m).cps.size = l.length := by rw [tx_size, tx_size]; omega
  have key : ((l.zip m).map fun p => v p.1 p.2) = given l.length (fun _ => true) (fun i => v (l.getD i 0) (m.getD i 0)) := by
    unfold given
    rw [List.filter_eq_self.mpr (fun _ _ => rfl)]
    apply List.ext_getElem?
    intro i
    rw [List.getElem?_map, List.getElem?_map]
    by_cases hi : i < l.length
    · have hi2 : i < m.length := by omega
      rw [List.getElem?_range hi]
      have : (l.zip m)[i]? = some (l[i], m[i]) := by
        rw [List.getElem?_zip_eq_some]
        exact ⟨List.getElem?_eq_getElem hi, List.getElem?_eq_getElem hi2⟩
      rw [this]
      simp [List.getD, List.getElem?_eq_getElem hi, List.getElem?_eq_getElem hi2]
    · have h1 : (l.zip m).length ≤ i := by rw [List.length_zip]; omega
      rw [List.getElem?_eq_none h1, List.getElem?_eq_none (by simpa using hi)]
      rfl
  refine lc_it (G := fun _ => True) (walk_zipS (x := tx l) (y := tx m)) (Cw H1 (fun _ => true) (fun i => v (l.getD i 0) (m.getD i 0)) Dl) ⟨hD, Ex.new hD, upd_same⟩ (fun _ _ _ _ => trivial) (fun i x H' H'' hi pv hy => ?_) (fun H' pv => ?_)
  · obtain ⟨T, c, d, rfl, hT, rfl, hc, hd⟩ := hy
    rw [tx_get] at hc hd
    have hc' : l.getD i 0 = c := by simp [List.getD, hc]
    have hd' : m.getD i 0 = d := by simp [List.getD, hd]
    refine hg _ _ T _ _ _ upd_same ⟨hw _ _, ?_⟩
    have hi' : i < 50000 := by rw [hn] at hi; omega
    obtain ⟨p1, p2, p3⟩ := pv
    have pv' : Cw H1 (fun _ => true) (fun i => v (l.getD i 0) (m.getD i 0)) Dl i (upd H' T (.tup [.str ⟨#[c]⟩, .str ⟨#[d]⟩])) := ⟨p1, p2.trans (Ex.new hT), by rw [upd_ne (ne_of_none p3 hT)]; exact p3⟩
    refine cw_turn pv' hi' ev_yes fun _ => ?_
    show Ev te _ H1 (v (l.getD i 0) (m.getD i 0))
    rw [hc', hd']
    exact he c d H1 (e.trans e1)
  · obtain ⟨p1, p2, p3⟩ := pv
    rw [key] at q
    rw [hn] at p3
    exact q Dl H' (fresh_back e1 p1) (e1.trans p2) p3⟩
end
end NW
namespace NW
open PySem PySem.Spec PyProof.Rows L2 Evl
theorem cut_from1 (xs : List V) : cutV xs (some 1) none = xs.drop 1 := by
  unfold cutV HT.sIx
  cases xs with
  | nil => rfl
  | cons x r =>
    simp
theorem cut_to1 (xs : List V) : cutV xs none (some 1) = xs.take 1 := by
  unfold cutV HT.sIx
  cases xs with
  | nil => rfl
  | cons x r =>
    simp
end NW

/-! Data: lists of ints and of texts, as == sees them. -/
namespace NW
open PySem PySem.Spec PyProof.Rows L2

def dInt (k : Nat) : PyData := .int (k : Nat)
def dTx (l : List Nat) : PyData := .str (tx l)
/-- kinds of items that == tells apart just as = does -/
structure Item {α : Type} (f : α → PyData) (n : Nat) (ok : α → Prop) : Prop where
  lay : ∀ a, ok a → (f a).canLay0 = true
  dep : ∀ a, (f a).depth ≤ n
  eqv : ∀ a b, PyData.eqv (f a) (f b) = true ↔ a = b
section
variable {α : Type} {f : α → PyData} {n : Nat} {ok : α → Prop}
theorem layAll (I : Item f n ok) : ∀ xs : List α, (∀ a ∈ xs, ok a) → PyData.canLayAll0 (xs.map f) = true
  | [], _ => by simp [PyData.canLayAll0]
  | a :: r, h => by simp [PyData.canLayAll0, I.lay a (h a List.mem_cons_self), layAll I r (fun b hb => h b (List.mem_cons_of_mem _ hb))]
theorem depAll (I : Item f n ok) : ∀ xs : List α, PyData.depthAll (xs.map f) ≤ n
  | [] => by simp [PyData.depthAll]
  | a :: r => by
    have h1 := I.dep a
    have h2 := depAll I r
    simp only [List.map_cons, PyData.depthAll]
    omega
theorem eqvAll_iff (I : Item f n ok) : ∀ xs ys : List α, PyData.eqvAll (xs.map f) (ys.map f) = true ↔ xs = ys
  | [], [] => by simp [PyData.eqvAll]
  | [], b :: r => by simp [PyData.eqvAll]
  | a :: r, [] => by simp [PyData.eqvAll]
  | a :: r, b :: q => by
    simp only [List.map_cons, PyData.eqvAll, Bool.and_eq_true, I.eqv, eqvAll_iff I r q, List.cons.injEq]
end
def dList {α : Type} (f : α → PyData) (xs : List α) : PyData := .list (xs.map f)
def dTup {α : Type} (f : α → PyData) (xs : List α) : PyData := .tuple (xs.map f)
def okInt : Nat → Prop := fun _ => True
def okTx : List Nat → Prop := fun l => PyData.strOk (tx l) = true
def okAll {α : Type} (ok : α → Prop) : List α → Prop := fun xs => ∀ a ∈ xs, ok a
theorem item_int : Item dInt 1 okInt := by
  refine ⟨fun a _ => by simp [dInt, PyData.canLay0], fun a => by simp [dInt, PyData.depth], fun a b => ?_⟩
  unfold dInt
  simp only [PyData.eqv, beq_iff_eq]
  omega
theorem item_tx : Item dTx 1 okTx := by
  refine ⟨fun a h => by simp only [dTx, PyData.canLay0]; exact h, fun a => by simp [dTx, PyData.depth], fun a b => ?_⟩
  unfold dTx
  simp only [PyData.eqv, beq_iff_eq]
  exact tx_eq
section
variable {α : Type} {f : α → PyData} {n : Nat} {ok : α → Prop}
theorem item_list (I : Item f n ok) : Item (dList f) (n + 1) (okAll ok) := by
  refine ⟨fun a h => ?_, fun a => ?_, fun a b => ?_⟩
  · simp only [dList, PyData.canLay0]; exact layAll I a h
  · have := depAll I a
    simp only [dList, PyData.depth]; omega
  · simp only [dList, PyData.eqv]; exact eqvAll_iff I a b
theorem item_tup (I : Item f n ok) : Item (dTup f) (n + 1) (okAll ok) := by
  refine ⟨fun a h => ?_, fun a => ?_, fun a b => ?_⟩
  · simp only [dTup, PyData.canLay0]; exact layAll I a h
  · have := depAll I a
    simp only [dTup, PyData.depth]; omega
  · simp only [dTup, PyData.eqv]; exact eqvAll_iff I a b
theorem Item.shaped (I : Item f n ok) (h : n ≤ 64) (a : α) (o : ok a) : SeqAt.shaped (f a) = true := by
  show ((f a).canLay0 && decide ((f a).depth ≤ 64)) = true
  rw [Bool.and_eq_true]
  exact ⟨I.lay a o, decide_eq_true (Nat.le_trans (I.dep a) h)⟩
theorem Item.eqd [DecidableEq α] (I : Item f n ok) (a b : α) : PyData.eqv (f a) (f b) = decide (a = b) := by
  by_cases h : a = b
  · rw [decide_eq_true h, (I.eqv a b).mpr h]
  · rw [decide_eq_false h, Bool.eq_false_iff]
    exact fun e => h ((I.eqv a b).mp e)
end
theorem ok_ints (ns : List Nat) : okAll okInt ns := fun _ _ => trivial
def vInts (ns : List Nat) : List V := ns.map fun k => .int (k : Nat)
def vTxs (cs : List (List Nat)) : List V := cs.map fun c => .str (tx c)
theorem dpAll_ints {K : PySem.W.Frag} {H : Hp} : ∀ ns : List Nat, DpAll K H (vInts ns) (ns.map dInt)
  | [] => .nil
  | n :: r => .cons (.int _) (dpAll_ints r)
theorem dpAll_txs {K : PySem.W.Frag} {H : Hp} : ∀ cs : List (List Nat), DpAll K H (vTxs cs) (cs.map dTx)
  | [] => .nil
  | n :: r => .cons (.str _) (dpAll_txs r)
theorem dp_ints {K : PySem.W.Frag} {H : Hp} {a : Addr} {ns : List Nat} (h : SqL K H a (vInts ns)) : Dp K H (.ref a) (dList dInt ns) := .lst h (dpAll_ints ns)
theorem dp_txs {K : PySem.W.Frag} {H : Hp} {a : Addr} {cs : List (List Nat)} (h : SqL K H a (vTxs cs)) : Dp K H (.ref a) (dList dTx cs) := .lst h (dpAll_txs cs)
section
variable {K : PySem.W.Frag} {H : Hp} {Q : VK}
theorem eqD_of {α : Type} [DecidableEq α] {f : α → PyData} {n : Nat} {ok : α → Prop} (I : Item f n ok) (hn : n ≤ 64) {x y : V} {a b : α} (oa : ok a) (ob : ok b) (hx : Dp K H x (f a)) (hy : Dp K H y (f b)) (h : Q (.bl (decide (a = b))) H) : rEqD K x y H Q :=
  ⟨f a, f b, hx, hy, I.shaped hn a oa, I.shaped hn b ob, by rw [I.eqd]; exact h⟩
theorem neD_of {α : Type} [DecidableEq α] {f : α → PyData} {n : Nat} {ok : α → Prop} (I : Item f n ok) (hn : n ≤ 64) {x y : V} {a b : α} (oa : ok a) (ob : ok b) (hx : Dp K H x (f a)) (hy : Dp K H y (f b)) (h : Q (.bl (!decide (a = b))) H) : rNeD K x y H Q :=
  ⟨f a, f b, hx, hy, I.shaped hn a oa, I.shaped hn b ob, by rw [I.eqd]; exact h⟩
end
theorem vTxs_get {cs : List (List Nat)} {i : Nat} (h : i < cs.length) : (vTxs cs)[i]? = some (.str (tx (cs.getD i []))) := by
  unfold vTxs
  rw [List.getElem?_map, List.getElem?_eq_getElem h]
  simp [List.getD, List.getElem?_eq_getElem h]
theorem vTxs_len (cs : List (List Nat)) : (vTxs cs).length = cs.length := by unfold vTxs; rw [List.length_map]
theorem vInts_len (ns : List Nat) : (vInts ns).length = ns.length := by unfold vInts; rw [List.length_map]
theorem vTxs_app (a b : List (List Nat)) : vTxs a ++ vTxs b = vTxs (a ++ b) := by unfold vTxs; rw [List.map_append]
theorem getD_mem {α : Type} {xs : List α} {i : Nat} {d : α} (h : i < xs.length) : xs.getD i d ∈ xs := by
  simp [List.getD, List.getElem?_eq_getElem h]
end NW

/-! Comprehensions with two fors, dict comprehensions, loops over texts; sets. -/
namespace NW
open PySem PySem.Spec PyProof.Rows L2 Evl

theorem rd_yes {σ : L2.St} {H : Hp} {Q : Bool → Hp → Prop} (h : Q true H) : tYes σ H Q := h
def vSgs (l : List Nat) : List V := l.map fun c => .str (tx [c])
theorem vSgs_len (l : List Nat) : (vSgs l).length = l.length := by unfold vSgs; rw [List.length_map]
theorem vSgs_get {l : List Nat} {i c : Nat} (h : l[i]? = some c) : (vSgs l)[i]? = some (.str (tx [c])) := by unfold vSgs; rw [List.getElem?_map, h]; rfl
theorem walk_sgs (l : List Nat) : Walk (Its (tx l)) (vSgs l).length (fun _ => True) (YAt (vSgs l)) := by
  have e : (vSgs l).length = (tx l).cps.size := by rw [vSgs_len, tx_size]
  rw [e]
  refine (walk_str (z := tx l)).mono (fun _ h => h) (fun i H x H' _ _ hy => ?_)
  obtain ⟨h1, c, hc, rfl⟩ := hy
  rw [tx_get] at hc
  exact ⟨h1, vSgs_get hc⟩
/-- what is walked: wi comes to J, of the items xs -/
structure Wk (wi : TI) (σ : L2.St) (H : Hp) (J : It) (G : Hp → Prop) (xs : List V) : Prop where
  walk : Walk J xs.length G (YAt xs)
  all : ∀ H2, Ex H H2 → G H2
  go : ∀ H1, Ex H H1 → ∀ R : It → Hp → Prop, (∀ H2, Ex H1 H2 → R J H2) → wi σ H1 R
section
variable {K : PySem.W.Frag} {σ : L2.St} {H H' : Hp} {ta tb te tl tk tv : TE} {t t1 : TT} {v : V} {wi wi1 : TI} {J J1 : It} {G G1 : Hp → Prop} {xs ys : List V}
theorem wk_str {l : List Nat} (h : Ev tl σ H (.str (tx l))) : Wk (iStr tl) σ H (Its (tx l)) (fun _ => True) (vSgs l) :=
  ⟨walk_sgs l, fun _ _ => trivial, fun H1 e R r => h H1 e _ fun H2 e2 => ⟨tx l, rfl, r H2 e2⟩⟩
theorem wk_list {a : Addr} (h : Ev tl σ H (.ref a)) (hs : SqL K H a xs) : Wk (iList K tl) σ H (Itl K a) (fun H => SqL K H a xs) xs :=
  ⟨walk_list, fun _ e => ex_l e hs, fun H1 e R r => h H1 e _ fun H2 e2 => ⟨a, rfl, ⟨xs, ex_l (e.trans e2) hs⟩, r H2 e2⟩⟩
theorem Wk.mono (h : Wk wi σ H J G xs) (e : Ex H H') : Wk wi σ H' J G xs := ⟨h.walk, fun H2 e2 => h.all H2 (e.trans e2), fun H1 e1 R r => h.go H1 (e.trans e1) R r⟩
/-- [te for j in .. if t] -/
theorem el_lc {j : Nat} {vs : List Nat} (hwk : Wk wi σ H J G xs) (p : V → Bool) (v : V → V) (hz : xs.length ≤ 40000) (hw : ∀ x, wipe ((wipe σ vs).set j (some x)) vs = wipe σ vs)
    (ht : ∀ x ∈ xs, ∀ H1, Ex H H1 → EvT t ((wipe σ vs).set j (some x)) H1 (p x)) (he : ∀ x ∈ xs, ∀ H1, Ex H H1 → p x = true → Ev te ((wipe σ vs).set j (some x)) H1 (v x)) :
    EvL (tLc wi (gName j) t te vs) σ H ((xs.filter p).map v) := fun H0 e Q q => hwk.go H0 e _ fun H1 e1 Dl hD => by
  refine lc_it (G := G) hwk.walk (Cw H1 (fun i => p (xs.getD i .non)) (fun i => v (xs.getD i .non)) Dl) ⟨hD, Ex.new hD, upd_same⟩ (fun _ _ _ pv => hwk.all _ ((e.trans e1).trans pv.2.1)) (fun i x H' H'' hi pv hy => ?_) (fun H' pv => ?_)
  · obtain ⟨rfl, hx⟩ := hy
    have hm : x ∈ xs := List.mem_of_getElem? hx
    have hd : xs.getD i .non = x := by simp [List.getD, hx]
    refine ⟨hw _, cw_turn pv (by omega) ?_ ?_⟩
    · show EvT t _ H1 (p (xs.getD i .non))
      rw [hd]
      exact ht x hm H1 (e.trans e1)
    · intro hf
      have hf' : p (xs.getD i .non) = true := hf
      rw [hd] at hf'
      show Ev te _ H1 (v (xs.getD i .non))
      rw [hd]
      exact he x hm H1 (e.trans e1) hf'
  · obtain ⟨p1, p2, p3⟩ := pv
    rw [given_getD] at p3
    exact q Dl H' (fresh_back e1 p1) (e1.trans p2) p3
theorem take_succ_get {α : Type} {l : List α} {i : Nat} {x : α} (h : l[i]? = some x) : l.take (i + 1) = l.take i ++ [x] := by
  rw [List.take_succ, h]
  rfl
theorem flat_len {xs : List V} {ys : List V} (p : V → V → Bool) (v : V → V → V) (i : Nat) : ((xs.take i).flatMap fun x => (ys.filter (p x)).map (v x)).length ≤ i * ys.length := by
  have h : ∀ l : List V, (l.flatMap fun x => (ys.filter (p x)).map (v x)).length ≤ l.length * ys.length := by
    intro l
    induction l with
    | nil => simp
    | cons x r ih =>
      have h1 := List.length_filter_le (p x) ys
      rw [List.flatMap_cons, List.length_append, List.length_map, List.length_cons, Nat.succ_mul]
      omega
  refine Nat.le_trans (h _) (Nat.mul_le_mul_right _ ?_)
  rw [List.length_take]
  omega
/-- [te for j in .. for j1 in .. if t1] -/
theorem el_lc2 {j j1 : Nat} {vs vs1 : List Nat} (hwk : Wk wi σ H J G xs) (hwk1 : ∀ x ∈ xs, Wk wi1 ((wipe σ vs).set j (some x)) H J1 G1 ys) (p : V → V → Bool) (v : V → V → V) (hz : xs.length * ys.length ≤ 40000)
    (hw : ∀ x, wipe ((wipe σ vs).set j (some x)) vs = wipe σ vs) (hw1 : ∀ x y, wipe ((wipe ((wipe σ vs).set j (some x)) vs1).set j1 (some y)) vs1 = wipe ((wipe σ vs).set j (some x)) vs1)
    (ht : ∀ x ∈ xs, ∀ y ∈ ys, ∀ H1, Ex H H1 → EvT t1 ((wipe ((wipe σ vs).set j (some x)) vs1).set j1 (some y)) H1 (p x y))
    (he : ∀ x ∈ xs, ∀ y ∈ ys, ∀ H1, Ex H H1 → p x y = true → Ev te ((wipe ((wipe σ vs).set j (some x)) vs1).set j1 (some y)) H1 (v x y)) :
    EvL (tLc2 wi (gName j) tYes wi1 (gName j1) t1 te vs vs1) σ H (xs.flatMap fun x => (ys.filter (p x)).map (v x)) := fun H0 e Q q => hwk.go H0 e _ fun H1 e1 Dl hD => by
  refine ⟨fun i m H' => m = xs.length - i ∧ i ≤ xs.length ∧ Ex H1 H' ∧ H' Dl = some (.lst ((xs.take i).flatMap fun x => (ys.filter (p x)).map (v x))), ⟨xs.length, by omega, Nat.zero_le _, Ex.new hD, by rw [upd_same]; rfl⟩, ?_⟩
  rintro i m H' ⟨rfl, hi, ex, hd⟩
  by_cases hlt : i < xs.length
  · refine .inr ⟨hwk.walk.goes i H' hlt (hwk.all _ ((e.trans e1).trans ex)), fun H2 => Ex H1 H2 ∧ H2 Dl = some (.lst ((xs.take (i + 1)).flatMap fun x => (ys.filter (p x)).map (v x))), fun H2 n => ⟨xs.length - (i + 1), by omega, rfl, hlt, n.1, n.2⟩, fun x H2 hy => ?_⟩
    obtain ⟨rfl, hx⟩ := hwk.walk.yields i H' x H2 hlt (hwk.all _ ((e.trans e1).trans ex)) hy
    have hm : x ∈ xs := List.mem_of_getElem? hx
    have w1 := hwk1 x hm
    refine ⟨hw x, rd_yes (iteT ?_)⟩
    have eH : Ex H H2 := (e.trans e1).trans ex
    refine w1.go H2 eH _ fun H3 e3 => ?_
    refine ⟨fun k m H4 => m = ys.length - k ∧ k ≤ ys.length ∧ Ex H1 H4 ∧ H4 Dl = some (.lst (((xs.take i).flatMap fun x => (ys.filter (p x)).map (v x)) ++ ((ys.take k).filter (p x)).map (v x))), ⟨ys.length, by omega, Nat.zero_le _, ex.trans e3, by rw [e3 _ _ hd]; simp⟩, ?_⟩
    rintro k m H4 ⟨rfl, hk, ex4, hd4⟩
    by_cases hlk : k < ys.length
    · refine .inr ⟨w1.walk.goes k H4 hlk (w1.all _ ((e.trans e1).trans ex4)), fun H5 => Ex H1 H5 ∧ H5 Dl = some (.lst (((xs.take i).flatMap fun x => (ys.filter (p x)).map (v x)) ++ ((ys.take (k + 1)).filter (p x)).map (v x))), fun H5 n => ⟨ys.length - (k + 1), by omega, rfl, hlk, n.1, n.2⟩, fun y H5 hy => ?_⟩
      obtain ⟨rfl, hy2⟩ := w1.walk.yields k H4 y H5 hlk (w1.all _ ((e.trans e1).trans ex4)) hy
      have hmy : y ∈ ys := List.mem_of_getElem? hy2
      refine ⟨hw1 x y, ?_⟩
      have e5 : Ex H H5 := (e.trans e1).trans ex4
      refine ht x hm y hmy H1 (e.trans e1) H5 ex4 _ fun H6 e6 => ?_
      have hd6 := e6 _ _ hd4
      cases hp : p x y with
      | true =>
        refine iteT ?_
        refine he x hm y hmy H1 (e.trans e1) hp H6 (ex4.trans e6) _ fun H7 e7 => ⟨_, e7 _ _ hd6, ?_, ?_⟩
        · have h1 := flat_len (xs := xs) (ys := ys) p v i
          have h2 := List.length_filter_le (p x) (ys.take k)
          rw [List.length_append, List.length_map]
          rw [List.length_take] at h2
          have h3 : (i + 1) * ys.length ≤ xs.length * ys.length := Nat.mul_le_mul_right _ hlt
          rw [Nat.succ_mul] at h3
          exact sz_lt (by omega)
        · have eD : Ex H1 (upd H7 Dl (.lst (((xs.take i).flatMap fun x => (ys.filter (p x)).map (v x)) ++ ((ys.take k).filter (p x)).map (v x) ++ [v x y]))) := Ex.mut ((ex4.trans e6).trans e7) hD
          refine ⟨eD, ?_⟩
          rw [upd_same, take_succ_get hy2, List.filter_append, List.map_append, List.append_assoc]
          simp [hp]
      | false =>
        refine iteF ?_
        refine ⟨ex4.trans e6, ?_⟩
        rw [hd6, take_succ_get hy2, List.filter_append]
        simp [hp]
    · obtain rfl : k = ys.length := by omega
      refine .inl ⟨w1.walk.stops H4 (w1.all _ ((e.trans e1).trans ex4)), ex4, ?_⟩
      rw [hd4, take_succ_get hx, List.flatMap_append, List.take_length]
      simp
  · obtain rfl : i = xs.length := by omega
    refine .inl ⟨hwk.walk.stops H' (hwk.all _ ((e.trans e1).trans ex)), q Dl H' (fresh_back e1 hD) (e1.trans ex) ?_⟩
    rw [hd, List.take_length]
/-- {tk: tv for j in ..} -/
def dcRun (k : V → Key) (v : V → V) (xs : List V) : List (Key × V) := xs.foldl (fun acc x => putK acc (k x) (v x)) []
theorem dcRun_len (k : V → Key) (v : V → V) (xs : List V) : (dcRun k v xs).length ≤ xs.length := by
  have h : ∀ (l : List V) (acc : List (Key × V)), (l.foldl (fun acc x => putK acc (k x) (v x)) acc).length ≤ acc.length + l.length := by
    intro l
    induction l with
    | nil => intro acc; simp
    | cons x r ih =>
      intro acc
      have h1 := ih (putK acc (k x) (v x))
      have h2 := length_putK acc (k x) (v x)
      rw [List.foldl_cons, List.length_cons]
      omega
  have := h xs []
  simpa [dcRun] using this
theorem dcRun_succ {k : V → Key} {v : V → V} {xs : List V} {i : Nat} {x : V} (h : xs[i]? = some x) : dcRun k v (xs.take (i + 1)) = putK (dcRun k v (xs.take i)) (k x) (v x) := by
  unfold dcRun
  rw [take_succ_get h, List.foldl_append]
  rfl
theorem rd_dc {j : Nat} {vs : List Nat} {Q : VK} (hwk : Wk wi σ H J G xs) (k : V → Key) (v : V → V) (hz : xs.length ≤ 40000) (hw : ∀ x, wipe ((wipe σ vs).set j (some x)) vs = wipe σ vs)
    (hk : ∀ x ∈ xs, ∀ H1, Ex H H1 → Ev tk ((wipe σ vs).set j (some x)) H1 (kV (k x))) (he : ∀ x ∈ xs, ∀ H1, Ex H H1 → Ev tv ((wipe σ vs).set j (some x)) H1 (v x))
    (q : ∀ p H1, H p = none → Same H H1 → H1 p = some (.dK (dcRun k v xs)) → Q (.ref p) H1) : tDc wi (gName j) tYes tk tv vs σ H Q := hwk.go H (Ex.refl H) _ fun H1 e1 Dl hD => by
  refine ⟨fun i m H' => m = xs.length - i ∧ i ≤ xs.length ∧ Ex H1 H' ∧ H' Dl = some (.dK (dcRun k v (xs.take i))), ⟨xs.length, by omega, Nat.zero_le _, Ex.new hD, by rw [upd_same]; rfl⟩, ?_⟩
  rintro i m H' ⟨rfl, hi, ex, hd⟩
  by_cases hlt : i < xs.length
  · refine .inr ⟨hwk.walk.goes i H' hlt (hwk.all _ (e1.trans ex)), fun H2 => Ex H1 H2 ∧ H2 Dl = some (.dK (dcRun k v (xs.take (i + 1)))), fun H2 n => ⟨xs.length - (i + 1), by omega, rfl, hlt, n.1, n.2⟩, fun x H2 hy => ?_⟩
    obtain ⟨rfl, hx⟩ := hwk.walk.yields i H' x H2 hlt (hwk.all _ (e1.trans ex)) hy
    have hm : x ∈ xs := List.mem_of_getElem? hx
    refine ⟨hw x, rd_yes (iteT ?_)⟩
    refine hk x hm H1 e1 H2 ex _ fun H3 e3 => he x hm H1 e1 H3 (ex.trans e3) _ fun H4 e4 => ⟨_, k x, rfl, e4 _ _ (e3 _ _ hd), ?_, ?_⟩
    · have h1 := dcRun_len k v (xs.take i)
      rw [List.length_take] at h1
      exact sz_lt (by omega)
    · refine ⟨Ex.mut ((ex.trans e3).trans e4) hD, ?_⟩
      rw [upd_same, dcRun_succ hx]
  · obtain rfl : i = xs.length := by omega
    refine .inl ⟨hwk.walk.stops H' (hwk.all _ (e1.trans ex)), q Dl H' (fresh_back e1 hD) (e1.trans ex) ?_⟩
    rw [hd, List.take_length]
theorem dcRun_nodup {k : V → Key} {v : V → V} : ∀ {xs : List V}, (xs.map k).Nodup → dcRun k v xs = xs.map fun x => (k x, v x) := by
  have key : ∀ (l : List V) (acc : List (Key × V)), (l.map k).Nodup → (∀ x ∈ l, valV acc (k x) = none) → l.foldl (fun acc x => putK acc (k x) (v x)) acc = acc ++ l.map fun x => (k x, v x) := by
    intro l
    induction l with
    | nil => intro acc _ _; simp
    | cons x r ih =>
      intro acc hn hv
      rw [List.map_cons, List.nodup_cons] at hn
      rw [List.foldl_cons, putK_new _ (hv x List.mem_cons_self), ih _ hn.2 (fun y hy => ?_)]
      · simp
      · have hne : ¬ k x = k y := fun e => hn.1 (by rw [e]; exact List.mem_map.mpr ⟨y, hy, rfl⟩)
        have h0 := hv y (List.mem_cons_of_mem _ hy)
        unfold valV at h0 ⊢
        rw [Option.map_eq_none_iff] at h0 ⊢
        rw [List.find?_append, h0]
        simp [hne]
  intro xs h
  have := key xs [] h (fun _ _ => rfl)
  simpa [dcRun] using this
/-- a for loop over such a thing -/
theorem rd_for {g : TG} {tb : TS} {D : Ends} (hwk : Wk wi σ H J G xs) (Pv : Nat → L2.St → Hp → Prop) (h0 : ∀ H1, Same H H1 → Pv 0 σ H1) (hG : ∀ i σ' H', i ≤ xs.length → Pv i σ' H' → G H')
    (hs : ∀ i x σ' H', xs[i]? = some x → Pv i σ' H' → g x σ' H' fun σ2 H2 => tb { D with nx := Pv (i + 1), ct := Pv (i + 1), bk := D.nx } σ2 H2) (hd : ∀ σ' H', Pv xs.length σ' H' → D.nx σ' H') : tFor wi g tb D σ H :=
  hwk.go H (Ex.refl H) _ fun H1 e1 => for_it (G := G) hwk.walk Pv (h0 H1 e1) hG (fun i x σ' H' H'' hi pv hy => by
    obtain ⟨rfl, hx⟩ := hy
    exact hs i x σ' H'' hx pv) hd
theorem rd_sadd {P : Program} {w : World} {to : TE} {tA : TA} {Q : VK} (h : to σ H fun x H1 => (∃ a S n, x = V.ref a ∧ H1 a = some (SetK P w a S n)) ∧ tA σ H1 fun xs H2 => rSAddK P w x xs H2 Q) : tSAddK P w to tA σ H Q := h
theorem rd_forT {g : TG} {tb : TS} {D : Ends} (h : wi σ H fun J H1 => ∃ W : Nat → Nat → L2.St → Hp → Prop, (∃ m, W 0 m σ H1) ∧ ∀ i m σ H, W i m σ H →
  (J.stop i H ∧ D.nx σ H) ∨ (J.go i H ∧ ∃ N : L2.St → Hp → Prop, (∀ σ' H', N σ' H' → ∃ m', m' < m ∧ W (i + 1) m' σ' H') ∧ ∀ x H', J.yld i H x H' → g x σ H' fun σ2 H2 => tb { D with nx := N, ct := N, bk := D.nx } σ2 H2)) : tFor wi g tb D σ H := h
end
end NW

/-! Slices of lists and texts; comprehensions over new lists. -/
namespace NW
open PySem PySem.Spec PyProof.Rows L2 Evl
theorem cutV_to (xs : List V) (k : Nat) : cutV xs none (some (k : Int)) = xs.take k := by
  unfold cutV
  rw [HT.sIx_none, HT.sIx_nat, List.drop_zero, Nat.sub_zero]
  by_cases h : k ≤ xs.length
  · rw [Nat.min_eq_left h]
  · rw [Nat.min_eq_right (by omega), List.take_length, List.take_of_length_le (by omega)]
theorem cutV_from (xs : List V) (k : Nat) : cutV xs (some (k : Int)) none = xs.drop k := by
  unfold cutV
  rw [HT.sIx_none, HT.sIx_nat]
  by_cases h : k ≤ xs.length
  · rw [Nat.min_eq_left h, List.take_of_length_le (by rw [List.length_drop]; omega)]
  · rw [Nat.min_eq_right (by omega), List.drop_length, List.drop_of_length_le (by omega)]
    simp
theorem cutS_to (l : List Nat) (k : Nat) : cutS (tx l) none (some (k : Int)) = tx (l.take k) := by
  unfold cutS tx
  simp only [HT.sIx_none, HT.sIx_nat, Nat.sub_zero]
  show (⟨_⟩ : Str) = _
  congr 1
  simp [Str.length]
theorem cutS_from (l : List Nat) (k : Nat) : cutS (tx l) (some (k : Int)) none = tx (l.drop k) := by
  unfold cutS tx
  simp only [HT.sIx_none, HT.sIx_nat]
  show (⟨_⟩ : Str) = _
  congr 1
  simp [Str.length]
  by_cases h : k ≤ l.length
  · rw [Nat.min_eq_left h, List.take_of_length_le (by rw [List.length_drop]; omega)]
  · rw [Nat.min_eq_right (by omega)]
    simp
    omega
section
variable {K : PySem.W.Frag} {σ : L2.St} {H H' : Hp} {ta tb te tl tk tv : TE} {t t1 : TT} {v : V} {xs ys : List V} {Q : VK}
theorem el_slA {tl th : TO} {a : Addr} {lo hi : Option Int} (h : Ev te σ H (.ref a)) (h1 : EvO tl σ H lo) (h2 : EvO th σ H hi) (hs : SqL K H a xs) : EvL (tSl (rSlA2 K) te tl th) σ H (cutV xs lo hi) := fun H1 e _ q =>
  h H1 e _ fun H2 e2 => h1 H2 (e.trans e2) _ fun H3 e3 => h2 H3 ((e.trans e2).trans e3) _ fun H4 e4 =>
    .inl ⟨a, xs, rfl, ex_l (((e.trans e2).trans e3).trans e4) hs, fun p hp => q p _ (fresh_back ((e2.trans e3).trans e4) hp) (((e2.trans e3).trans e4).trans (Ex.new hp)) upd_same⟩
theorem el_lcN {j : Nat} {vs : List Nat} (p : V → Bool) (v : V → V) (h : EvL tl σ H xs) (hz : xs.length ≤ 40000) (hw : ∀ x, wipe ((wipe σ vs).set j (some x)) vs = wipe σ vs)
    (ht : ∀ x ∈ xs, ∀ H1, Ex H H1 → EvT t ((wipe σ vs).set j (some x)) H1 (p x)) (he : ∀ x ∈ xs, ∀ H1, Ex H H1 → p x = true → Ev te ((wipe σ vs).set j (some x)) H1 (v x)) :
    EvL (tLc (iList K tl) (gName j) t te vs) σ H ((xs.filter p).map v) := by
  rw [← given_getD (d := V.non) xs p v]
  refine el_lcNL _ _ h hz hw (fun i x H1 e hx => ?_) (fun i x H1 e hx hf => ?_)
  · have hd : xs.getD i .non = x := by simp [List.getD, hx]
    show EvT t _ H1 (p (xs.getD i .non))
    rw [hd]
    exact ht x (List.mem_of_getElem? hx) H1 e
  · have hd : xs.getD i .non = x := by simp [List.getD, hx]
    have hf' : p (xs.getD i .non) = true := hf
    rw [hd] at hf'
    show Ev te _ H1 (v (xs.getD i .non))
    rw [hd]
    exact he x (List.mem_of_getElem? hx) H1 e hf'
theorem sl_s {l : List Nat} {lo hi : Option Int} {m : List Nat} (e : cutS (tx l) lo hi = tx m) (z : l.length ≤ 100000) (h : Q (.str (tx m)) H) : rSlA2 K (.str (tx l)) lo hi H Q :=
  .inr ⟨tx l, rfl, by rw [tx_length]; exact Nat.le_trans z (by decide), by rw [e]; exact h⟩
theorem sl_l {a : Addr} {lo hi : Option Int} (hs : SqL K H a xs) (h : ∀ p, H p = none → Q (.ref p) (upd H p (.lst (cutV xs lo hi)))) : rSlA2 K (.ref a) lo hi H Q := .inl ⟨a, xs, rfl, hs, h⟩
/-- for i in range(n) -/
theorem rd_rng {j : Nat} {tb : TS} {D : Ends} {tA : TA} {n : Nat} (hn : n ≤ 100000) (h : EvA tA σ H [.int (n : Nat)]) (Pv : Nat → L2.St → Hp → Prop) (h0 : ∀ H1, Same H H1 → Pv 0 σ H1)
    (hs : ∀ (i : Nat) σ' H', i < n → Pv i σ' H' → tb { D with nx := Pv (i + 1), ct := Pv (i + 1), bk := D.nx } (σ'.set j (some (.int (i : Nat)))) H') (hd : ∀ σ' H', Pv n σ' H' → D.nx σ' H') : tFor (iRng1 tA) (gName j) tb D σ H :=
  s_forR1 h ⟨by omega, by omega⟩ Pv h0 (fun i σ' H' hi p => hs i σ' H' (by omega) p) (fun σ' H' p => hd σ' H' (by simpa using p))
end
end NW

/-! list(text), tuple(text). -/
namespace NW
open PySem PySem.Spec PyProof.Rows L2 Evl
theorem vals_sgs {l : List Nat} {acc : Array Value} (h : ItemsOf (SignAt (tx l)) acc (tx l).cps.size) : Vals (vSgs l) acc.toList := by
  obtain ⟨h1, h2⟩ := h
  rw [tx_size] at h1
  refine vals_of_at (by rw [vSgs_len, ← h1]; exact (Array.length_toList (xs := acc)).symm) fun j x u hx hu => ?_
  obtain ⟨c, t, hc, rfl⟩ := h2 j u (by rw [← hu, Array.getElem?_toList])
  rw [tx_get] at hc
  rw [vSgs_get hc] at hx
  cases hx
  exact ⟨t, rfl⟩
section
variable {X : Cx}
def rListS : List V → Hp → VK → Prop := fun xs H Q => ∃ l : List Nat, xs = [.str (tx l)] ∧ l.length ≤ 100000 ∧ ∀ p, H p = none → Q (.ref p) (upd H p (.lst (vSgs l)))
theorem call_listS (hc : X.calm = true) : CallR X (.type "list") rListS := by
  intro pins s σ H xs us Q I r h
  obtain ⟨l, rfl, hz, q⟩ := h
  obtain ⟨u, rfl, rx⟩ := vals1 r
  obtain ⟨t, rfl⟩ := rx
  have hn : (tx l).cps.size ≤ sizeLine := by rw [tx_size]; exact Nat.le_trans hz (by decide)
  refine call_list_str (I.ok.hd hc) (tx l) t (fun h' tk acc c' hk e hi => ?_) hn
  refine ⟨.ref s.heap.objs.size, _, I.laid (t' := tk) hk (Nat.le_refl _) (show ObjOk X.prog X.w _ _ _ (.lst (vSgs l)) from ⟨?_, acc.toList, c', vals_sgs hi, ?_⟩), rfl, q _ (I.hok.fresh (Nat.le_refl _))⟩
  · rw [vSgs_len, ← tx_size]; exact hn
  · rw [Array.toArray_toList]; exact e
def rTupS : List V → Hp → VK → Prop := fun xs H Q => ∃ l : List Nat, xs = [.str (tx l)] ∧ l.length ≤ 100000 ∧ ∀ p H', H p = none → Same H H' → H' p = some (.tup (vSgs l)) → Q (.ref p) H'
theorem call_tupS (hc : X.calm = true) : CallR X (.type "tuple") rTupS := by
  intro pins s σ H xs us Q I r h
  obtain ⟨l, rfl, hz, q⟩ := h
  obtain ⟨u, rfl, rx⟩ := vals1 r
  obtain ⟨t, rfl⟩ := rx
  have hn : (tx l).cps.size ≤ sizeLine := by rw [tx_size]; exact Nat.le_trans hz (by decide)
  refine call_tuple_str (I.ok.hd hc) (tx l) t (fun h' tk acc hk hi => ?_) hn
  have I2 : Inv X pins σ H { s with heap := h', toks := tk } := I.kept hk
  refine ⟨.ref h'.objs.size, upd H h'.objs.size (.tup (vSgs l)), I2.laid (t' := tk) (fun c o e => Heap.get?_push_of_some _ e) (Nat.le_refl _) (show ObjOk X.prog X.w _ _ _ (.tup (vSgs l)) from ⟨?_, acc.toList, vals_sgs hi, ?_⟩), rfl, q _ _ (I2.hok.fresh (Nat.le_refl _)) (Same.new (I2.hok.fresh (Nat.le_refl _))) upd_same⟩
  · rw [vSgs_len, ← tx_size]; exact hn
  · rw [Array.toArray_toList]; exact IsTup.new _ _
def rListB (K : PySem.W.Frag) : List V → Hp → VK → Prop := fun xs H Q => rListA K xs H Q ∨ rListS xs H Q
theorem call_listB {K : PySem.W.Frag} (h : X.K = K) (hc : X.calm = true) : CallR X (.type "list") (rListB K) := CallR.or (call_listK h) (call_listS hc)
end
section
variable {K : PySem.W.Frag} {H : Hp} {Q : VK}
theorem list_t {l : List Nat} (hz : l.length ≤ 100000) (h : ∀ p, H p = none → Q (.ref p) (upd H p (.lst (vSgs l)))) : rListB K [.str (tx l)] H Q := .inr ⟨l, rfl, hz, h⟩
theorem list_b {p : Addr} {ys : List V} (hs : SqL K H p ys) (h : ∀ l, H l = none → Q (.ref l) (upd H l (.lst ys))) : rListB K [.ref p] H Q := .inl (list_l hs h)
theorem tup_t {l : List Nat} (hz : l.length ≤ 100000) (h : ∀ p H', H p = none → Same H H' → H' p = some (.tup (vSgs l)) → Q (.ref p) H') : rTupS [.str (tx l)] H Q := ⟨l, rfl, hz, h⟩
end
section
variable {σ : L2.St} {H : Hp} {Q : VK} {D : Ends}
theorem rd_dnewK (h : ∀ p, H p = none → Q (.ref p) (upd H p (.dK []))) : tDNewK σ H Q := h
def rFindS : V → List V → Hp → VK → Prop := fun x xs H Q => ∃ a b, x = .str a ∧ xs = [.str b] ∧ Q (.int (Txt.find a b)) H
theorem mt_findA {X : Cx} : MtR X "str.find" rFindS := mt_find
def rUpS : V → List V → Hp → VK → Prop := fun x xs H Q => ∃ a, x = .str a ∧ xs = [] ∧ a.length ≤ 5592405 ∧ Q (.str (Txt.upper a)) H
theorem mt_upperA {X : Cx} : MtR X "str.upper" rUpS := mt_upper
def rLoS : V → List V → Hp → VK → Prop := fun x xs H Q => ∃ a, x = .str a ∧ xs = [] ∧ a.length ≤ 5592405 ∧ Q (.str (Txt.lower a)) H
theorem mt_lowerA {X : Cx} : MtR X "str.lower" rLoS := mt_lower
theorem ty_str {K : PySem.W.Frag} {z : Str} : tyV K "str" (.str z) H := rfl
theorem find_s {x y : Str} (h : Q (.int (Txt.find x y)) H) : rFindS (.str x) [.str y] H Q := ⟨x, y, rfl, rfl, h⟩
theorem put_l {l : Addr} {xs : List V} {y : V} (hl : H l = some (.lst xs)) (z : xs.length ≤ 100000) (h : Q .non (upd H l (.lst (xs ++ [y])))) : rAppend (.ref l) [y] H Q :=
  ⟨l, xs, y, rfl, rfl, hl, Nat.lt_of_le_of_lt z (by decide), h⟩
theorem ty_lst {K : PySem.W.Frag} {l : Addr} {xs : List V} (hl : SqL K H l xs) : tyV K "list" (.ref l) H := .inl ⟨rfl, xs, hl⟩
end
theorem both {c : Bool} {A B : Prop} (h1 : A) (h2 : B) : if c = true then A else B := by cases c <;> simp [h1, h2]
theorem rd_tyS {K : PySem.W.Frag} {z : Str} {H : Hp} {p : Prop} (h : p) : tyV K "str" (.str z) H ∧ p := ⟨rfl, h⟩
theorem atI_end {α : Type} {l : List α} (h : l ≠ []) : ∃ c ∈ l, atI l (-1) = some c ∧ ∃ r, l = r ++ [c] := by
  obtain ⟨r, c, rfl⟩ : ∃ r c, l = r ++ [c] := ⟨l.dropLast, l.getLast h, (List.dropLast_concat_getLast h).symm⟩
  exact ⟨c, by simp, atI_last r c, r, rfl⟩
theorem atI_0 {α : Type} {l : List α} (h : l ≠ []) : ∃ c ∈ l, atI l 0 = some c := by
  match l, h with
  | a :: r, _ => exact ⟨a, List.mem_cons_self, atI_nat (xs := a :: r) (j := 0) rfl⟩
section
variable {X : Cx} {K : PySem.W.Frag}
theorem pe_bmA {T : String} {r : V → List V → Hp → VK → Prop} {o e : Expr} {es : List Expr} {to : TE} {t : TA} {nm : Str} {apos cpos : Pos}
    (h : X.K = K) (p : PE X (.Call (.Attribute o nm apos) (e :: es) [] cpos) (tBM X.K T r to t)) : PE X (.Call (.Attribute o nm apos) (e :: es) [] cpos) (tBM K T r to t) := h ▸ p
end
def dBl (b : Bool) : PyData := .bool b
theorem item_bl : Item dBl 1 (fun _ => True) := by
  refine ⟨fun a _ => by simp [dBl, PyData.canLay0], fun a => by simp [dBl, PyData.depth], fun a b => ?_⟩
  unfold dBl
  simp [PyData.eqv]
def vBls (bs : List Bool) : List V := bs.map V.bl
theorem dpAll_bls {K : PySem.W.Frag} {H : Hp} : ∀ bs : List Bool, DpAll K H (vBls bs) (bs.map dBl)
  | [] => .nil
  | b :: r => .cons (.bl _) (dpAll_bls r)
theorem dp_bls {K : PySem.W.Frag} {H : Hp} {a : Addr} {bs : List Bool} (h : SqL K H a (vBls bs)) : Dp K H (.ref a) (dList dBl bs) := .lst h (dpAll_bls bs)
def rInTD (K : PySem.W.Frag) : R2 := fun x y H Q => ∃ d ds, Dp K H x d ∧ Dp K H y (.tuple ds) ∧ SeqAt.shaped d = true ∧ SeqAt.shaped (.tuple ds) = true ∧ Q (.bl (ds.any fun z => PyData.eqv z d)) H
theorem op_inTD {X : Cx} (hu : X.A.units + 65 < cLine) : OpR X (compareOp .In) (rInTD X.K) := by
  intro pins s σ H x y v u Q I rx ry h
  obtain ⟨d, ds, hd, he, sd, se, q⟩ := h
  obtain ⟨as, r1⟩ := Dp.reads I d x v hd rx
  obtain ⟨bs, r2⟩ := Dp.reads I (.tuple ds) y u he ry
  exact SeqAt.in_tuple_reads r2 r1 (SeqAt.canLay_of_shaped se) (SeqAt.canLay_of_shaped sd) (room_in_shaped sd hu) ⟨.bl _, H, I, rfl, q⟩
theorem op_inTDK {X : Cx} {K : PySem.W.Frag} (h : X.K = K) (hu : X.A.units + 65 < cLine) : OpR X (compareOp .In) (rInTD K) := h ▸ op_inTD hu
theorem vSgs_txs (l : List Nat) : vSgs l = vTxs (l.map fun c => [c]) := by
  unfold vSgs vTxs
  rw [List.map_map]
  rfl
theorem exm_of {K : PySem.W.Frag} {c x : Addr} {b : Bool} (h1 : PySem.W.subIn K (.ref c) (.type "BaseException") = some true) (h2 : PySem.W.isClsIn K c = true) (h3 : PySem.W.typeIn K (.ref c) = some (.type "type"))
    (h4 : PySem.W.subIn K (.ref x) (.ref c) = some b) : PySem.W.exmOne K (.ref x) (.ref c) = some b := by
  have e1 : (PySem.W.subIn K (.ref c) (.type "BaseException") == some true) = true := by rw [h1] <;> rfl
  have e2 : ((PySem.W.clsIn K c).isSome && PySem.W.typeIn K (.ref c) == some (.type "type")) = true := by
    have h2' : (PySem.W.clsIn K c).isSome = true := h2
    rw [h2', h3] <;> rfl
  show (if (PySem.W.subIn K (.ref c) (.type "BaseException") == some true) = true then (if ((PySem.W.clsIn K c).isSome && PySem.W.typeIn K (.ref c) == some (.type "type")) = true then PySem.W.subIn K (.ref x) (.ref c) else none) else none) = some b
  rw [if_pos e1, if_pos e2]
  exact h4
end NW

/-! Comprehensions over a dict's items; what is locked meanwhile. -/
namespace NW
open PySem PySem.Spec PyProof.Rows L2 Evl
section
variable {K : PySem.W.Frag} {σ : L2.St} {H H' : Hp} {td te : TE} {t : TT} {g : TG}
theorem rd_lockE {t : TE} {Q : VK} (d : Addr) (u : HO) (hd : H d = some u) (m : Mut (some u)) (h : ∀ od, t σ (upd H d (.frz od u)) fun v H' => H' d = some (.frz od u) ∧ Q v (upd H' d u)) : tLockE t σ H Q := ⟨d, u, hd, m, h⟩
theorem lock_back {d : Addr} {u x : HO} {H1 : Hp} (hd : H d = some u) (s : Same (upd H d x) H1) : Same H (upd H1 d u) := fun b o e => by
  by_cases hb : b = d
  · rw [hb, upd_same, ← hd, ← hb]
    exact e.symm ▸ rfl
  · rw [upd_ne hb]
    exact s b o (by rw [upd_ne hb]; exact e)
theorem lock_free {d p : Addr} {x : HO} (h : upd H d x p = none) : p ≠ d ∧ H p = none := by
  have n : p ≠ d := fun e => by rw [e, upd_same] at h; cases h
  exact ⟨n, by rwa [upd_ne n] at h⟩
def kv0 : Key × V := (Sum.inl 0, .non)
/-- [te for a, b in d.items() if t] -/
theorem el_lcI {d : Addr} {od : Obj} {kvs : List (Key × V)} {a b : Nat} {vs : List Nat} (p : Key × V → Bool) (v : Key × V → V) (h : Ev td σ H (.ref d)) (hd : H d = some (.frz od (.dK kvs))) (hz : kvs.length ≤ 40000)
    (hw : ∀ x y, wipe (((wipe σ vs).set a (some x)).set b (some y)) vs = wipe σ vs)
    (hg : ∀ x y T σ' H' (R : L2.St → Hp → Prop), H' T = some (.tup [x, y]) → R ((σ'.set a (some x)).set b (some y)) H' → g (.ref T) σ' H' R)
    (ht : ∀ kv ∈ kvs, ∀ H1, Ex H H1 → EvT t (((wipe σ vs).set a (some (kV kv.1))).set b (some kv.2)) H1 (p kv))
    (he : ∀ kv ∈ kvs, ∀ H1, Ex H H1 → p kv = true → Ev te (((wipe σ vs).set a (some (kV kv.1))).set b (some kv.2)) H1 (v kv)) :
    EvL (tLc (iItems td) g t te vs) σ H ((kvs.filter p).map v) := fun H0 e Q q => h H0 e _ fun H1 e1 => ⟨d, od, kvs, rfl, e1 _ _ (e _ _ hd), fun Dl hD => by
  have hd1 : H1 d = some (.frz od (.dK kvs)) := e1 _ _ (e _ _ hd)
  refine lc_it (G := fun H => H d = some (.frz od (.dK kvs))) (walk_items (d := d) (o := od) (kvs := kvs)) (Cw H1 (fun i => p (kvs.getD i kv0)) (fun i => v (kvs.getD i kv0)) Dl) ⟨hD, Ex.new hD, upd_same⟩ (fun _ _ _ pv => pv.2.1 _ _ hd1) (fun i x H' H'' hi pv hy => ?_) (fun H' pv => ?_)
  · obtain ⟨T, k, w, rfl, hT, rfl, hk, hv⟩ := hy
    have hx : kvs[i]? = some (kvs.getD i kv0) := by simp [List.getD, List.getElem?_eq_getElem hi]
    have hk' : (kvs[i]?).map (fun kv => kV kv.1) = some k := hk
    have hv' : (kvs[i]?).map Prod.snd = some w := hv
    rw [hx] at hk' hv'
    cases hk'
    cases hv'
    have hm : kvs.getD i kv0 ∈ kvs := List.mem_of_getElem? hx
    refine hg _ _ T _ _ _ upd_same ⟨hw _ _, ?_⟩
    have hi' : i < 50000 := by omega
    obtain ⟨p1, p2, p3⟩ := pv
    have pv' : Cw H1 (fun i => p (kvs.getD i kv0)) (fun i => v (kvs.getD i kv0)) Dl i (upd H' T (.tup [kV (kvs.getD i kv0).1, (kvs.getD i kv0).2])) := ⟨p1, p2.trans (Ex.new hT), by rw [upd_ne (ne_of_none p3 hT)]; exact p3⟩
    exact cw_turn pv' hi' (ht _ hm H1 (e.trans e1)) fun hf => he _ hm H1 (e.trans e1) hf
  · obtain ⟨p1, p2, p3⟩ := pv
    rw [given_getD] at p3
    exact q Dl H' (fresh_back e1 p1) (e1.trans p2) p3⟩
theorem rd_rev {j n : Nat} {tb : TS} {D : Ends} (hn : n ≤ 100000) (h : Ev te σ H (.int (n : Nat))) (Pv : Nat → L2.St → Hp → Prop) (h0 : ∀ H1, Same H H1 → Pv 0 σ H1)
    (hs : ∀ (i : Nat) σ' H', i < n → Pv i σ' H' → tb { D with nx := Pv (i + 1), ct := Pv (i + 1), bk := D.nx } (σ'.set j (some (.int ((n - 1 - i : Nat) : Int)))) H') (hd : ∀ σ' H', Pv n σ' H' → D.nx σ' H') : tFor (iRevR (tRg1 te)) (gName j) tb D σ H := by
  refine h H (Ex.refl H) _ fun H1 e1 => ⟨(n : Nat), rfl, by omega, by omega, by omega, by omega, ?_⟩
  have e : (((n : Nat) : Int) - 0).toNat = n := by omega
  rw [e]
  refine for_it (G := fun _ => True) walk_rangeC Pv (h0 H1 e1) (fun _ _ _ _ _ => trivial) (fun i x σ' H' H'' hi pv hy => ?_) hd
  obtain ⟨rfl, rfl⟩ := hy
  have e2 : (0 : Int) + ((n : Nat) : Int) - 1 + (i : Nat) * (-1) = ((n - 1 - i : Nat) : Int) := by omega
  show tb _ (σ'.set j (some (.int ((0 : Int) + ((n : Nat) : Int) - 1 + (i : Nat) * (-1))))) _
  rw [e2]
  exact hs i σ' _ hi pv
theorem rd_rv {l : Addr} {xs : List V} {Q : VK} (hl : H l = some (.lst xs)) (h : Q .non (upd H l (.lst xs.reverse))) : rReverse (.ref l) [] H Q := ⟨l, xs, rfl, rfl, hl, h⟩
end
section
variable {X : Cx}
/-- name = {..} by a comprehension, on one line, the name a local -/
theorem ps_setDc {i : Nat} {y : Str} {py : Pos} {kx vx tg iter : Expr} {ifs : List Expr} {scope : Scope} {own : List (Str × Nat)} {pos spos : Pos} {wi : TI} {g : TG} {tt : TT} {tk tv : TE} (hc : X.calm = true) (hN : X.N.Nodup) (hy : X.N[i]? = some y) (hyl : X.env.scope.names.lookup y = some .local)
    (hsw : swapsWith (.DictComp kx vx [⟨tg, iter, ifs, 0⟩] scope pos) (some (.Name y py)) spos.line X.env = pure true) (hi : PI X tg iter wi) (ok : BlkOk X.N X.env.scope scope own)
    (hg : ∀ (s : Shared) (H : Hp) (C : Addr) (cl : List (Str × Addr)) (fp : List Addr), PG (X.blk s H scope (compEnvC scope cl C X.env) fp) tg g) (ht : ∀ (s : Shared) (H : Hp) (C : Addr) (cl : List (Str × Addr)) (fp : List Addr), PTs (X.blk s H scope (compEnvC scope cl C X.env) fp) ifs tt)
    (hk : ∀ (s : Shared) (H : Hp) (C : Addr) (cl : List (Str × Addr)) (fp : List Addr), PE (X.blk s H scope (compEnvC scope cl C X.env) fp) kx tk)
    (he : ∀ (s : Shared) (H : Hp) (C : Addr) (cl : List (Str × Addr)) (fp : List Addr), PE (X.blk s H scope (compEnvC scope cl C X.env) fp) vx tv) (hs : ∀ x, foldedSetIterable iter X.env x = pure x := by intro _; rfl) :
    PS X (.Assign [.Name y py] (.DictComp kx vx [⟨tg, iter, ifs, 0⟩] scope pos) spos) (tAsg (tDc wi g tt tk tv (own.map (·.2))) (gName i)) := by
  refine ⟨fun pins s σ H D I h => ?_⟩
  rw [exec_Assign_Name_used _ _ _ _ hsw]
  refine wpAny_bind (wpAny_standAt (wpAny_bind ?_))
  show wpAny _ X.A (do let _ ← comprehension (.DictComp kx vx [⟨tg, iter, ifs, 0⟩] scope pos) scope X.env (firstIterPos [⟨tg, iter, ifs, 0⟩] pos) newDict false (eval iter X.env) (some (assign (.Name y py) X.env))) _ _ s
  have h : tDc wi g tt tk tv (own.map (·.2)) σ H (fun x H1 => gName i x σ H1 D.nx) := h
  refine wpAny_bind (thn (dc_core (Qf := fun _ s' => SP X pins D .next s') hc hN I hi ok hg ht hk he hs h fun L C s' m H' I' q hn f => ?_) fun _ s' hq => wpAny_pure (wpAny_pure hq))
  show wpAny _ _ (assign (.Name y py) X.env (.ref L)) _ _ _
  refine wpAny_assign_Name (store_ok2 (v := V.ref L) I' hN hy (.inl hyl) rfl (fun s2 I2 ⟨a, sb, ha⟩ => ?_) (.inr hyl))
  obtain ⟨f0, f1, f2, f3, f4, f5⟩ := f
  have haC : C ≠ a := by
    rcases ha with z | z
    · rw [z]; exact f1
    · exact fun e => f4 y a z e.symm
  refine ⟨m, hn.sameBut sb haC, fun h3 sb3 => ?_⟩
  exact ⟨_, H', I2.turned (t' := s2.toks) (fun b o hb e => (sb3.2 b hb).trans e) f0 f1 f3 f4 f5, q⟩
theorem swd_true {kx vx : Expr} {gs : List Comprehension} {scope : Scope} {pos py : Pos} {y : Str} {l : Nat} {env : Env} (hk : env.scope.kind = .function) (hy : env.scope.names.lookup y = some .local) (hl : (py.line == pos.line) = true)
    (ha : (scope.names.any fun (n, k) => n == y && (k == .local || k == .cell)) = false) : swapsWith (.DictComp kx vx gs scope pos) (some (.Name y py)) l env = pure true := by
  have ky : env.kindOf y = some .local := hy
  have hb : env.blockKind = .function := by unfold Env.blockKind; rw [hk]; rfl
  unfold swapsWith
  simp only [hb, ky, ha, Expr.pos, hl]
  rfl
end
end NW

/-! Comprehensions over a dict's items that make new objects. -/
namespace NW
open PySem PySem.Spec PyProof.Rows L2 Evl
def Pairs {α β : Type} (R : α → β → Prop) (xs : List α) (ys : List β) : Prop := xs.length = ys.length ∧ ∀ (i : Nat) (x : α) (y : β), xs[i]? = some x → ys[i]? = some y → R x y
theorem Pairs.nil {α β : Type} {R : α → β → Prop} : Pairs R [] [] := ⟨rfl, fun _ _ _ h => by cases h⟩
theorem Pairs.mono {α β : Type} {R S : α → β → Prop} {xs : List α} {ys : List β} (p : Pairs R xs ys) (h : ∀ x y, R x y → S x y) : Pairs S xs ys := ⟨p.1, fun i x y a b => h x y (p.2 i x y a b)⟩
theorem Pairs.snoc {α β : Type} {R : α → β → Prop} {xs : List α} {ys : List β} {x : α} {y : β} (p : Pairs R xs ys) (h : R x y) : Pairs R (xs ++ [x]) (ys ++ [y]) := by
  obtain ⟨hl, p⟩ := p
  refine ⟨by rw [List.length_append, List.length_append, hl]; rfl, fun i a b ha hb => ?_⟩
  by_cases hi : i < xs.length
  · rw [List.getElem?_append_left hi] at ha
    rw [List.getElem?_append_left (by omega)] at hb
    exact p i a b ha hb
  · rw [List.getElem?_append_right (by omega)] at ha
    rw [List.getElem?_append_right (by omega), ← hl] at hb
    have : i - xs.length = 0 := by
      have := (List.getElem?_eq_some_iff.mp ha).1
      simp at this
      omega
    rw [this] at ha hb
    cases ha
    cases hb
    exact h
section
variable {K : PySem.W.Frag} {σ : L2.St} {H H' : Hp} {td te : TE} {t : TT} {g : TG} {Q : VK}
theorem rd_lcI {d : Addr} {od : Obj} {kvs : List (Key × V)} {a b : Nat} {vs : List Nat} (p : Key × V → Bool) (Rl : Hp → Key × V → V → Prop) (h : Ev td σ H (.ref d)) (hd : H d = some (.frz od (.dK kvs))) (hz : kvs.length ≤ 40000)
    (hw : ∀ x y, wipe (((wipe σ vs).set a (some x)).set b (some y)) vs = wipe σ vs)
    (hg : ∀ x y T σ' H' (R : L2.St → Hp → Prop), H' T = some (.tup [x, y]) → R ((σ'.set a (some x)).set b (some y)) H' → g (.ref T) σ' H' R)
    (ht : ∀ kv ∈ kvs, ∀ H1, Ex H H1 → EvT t (((wipe σ vs).set a (some (kV kv.1))).set b (some kv.2)) H1 (p kv))
    (he : ∀ kv ∈ kvs, ∀ H1, Ex H H1 → p kv = true → ∀ Q' : VK, (∀ v H2, Ex H1 H2 → Rl H2 kv v → Q' v H2) → te (((wipe σ vs).set a (some (kV kv.1))).set b (some kv.2)) H1 Q')
    (hx : ∀ H1 H2 kv v, Ex H1 H2 → Rl H1 kv v → Rl H2 kv v) (hm : ∀ H1 D xs o kv v, H1 D = some (.lst xs) → Rl H1 kv v → Rl (upd H1 D o) kv v)
    (q : ∀ P H1 us, H P = none → Ex H H1 → H1 P = some (.lst us) → Pairs (Rl H1) (kvs.filter p) us → Q (.ref P) H1) : tLc (iItems td) g t te vs σ H Q :=
  h H (Ex.refl H) _ fun H1 e1 => ⟨d, od, kvs, rfl, e1 _ _ hd, fun Dl hD => by
  have hd1 : H1 d = some (.frz od (.dK kvs)) := e1 _ _ hd
  refine lc_it (G := fun H => H d = some (.frz od (.dK kvs))) (walk_items (d := d) (o := od) (kvs := kvs)) (fun i H' => Ex H1 H' ∧ ∃ acc, H' Dl = some (.lst acc) ∧ acc.length ≤ i ∧ Pairs (Rl H') ((kvs.take i).filter p) acc)
    ⟨Ex.new hD, [], upd_same, Nat.le_refl _, Pairs.nil⟩ (fun _ _ _ pv => pv.1 _ _ hd1) (fun i x H' H'' hi pv hy => ?_) (fun H' pv => ?_)
  · obtain ⟨T, k, w, rfl, hT, rfl, hk, hv⟩ := hy
    have hxi : kvs[i]? = some (kvs.getD i kv0) := by simp [List.getD, List.getElem?_eq_getElem hi]
    have hk' : (kvs[i]?).map (fun kv => kV kv.1) = some k := hk
    have hv' : (kvs[i]?).map Prod.snd = some w := hv
    rw [hxi] at hk' hv'
    cases hk'
    cases hv'
    have hmm : kvs.getD i kv0 ∈ kvs := List.mem_of_getElem? hxi
    refine hg _ _ T _ _ _ upd_same ⟨hw _ _, ?_⟩
    obtain ⟨p1, acc, p2, p3, p4⟩ := pv
    have p1' : Ex H1 (upd H' T (.tup [kV (kvs.getD i kv0).1, (kvs.getD i kv0).2])) := p1.trans (Ex.new hT)
    refine ht _ hmm H1 e1 _ p1' _ fun H3 e3 => ?_
    have p2' := e3 _ _ (upd_keep hT p2 : upd H' T (.tup [kV (kvs.getD i kv0).1, (kvs.getD i kv0).2]) Dl = some (.lst acc))
    have p4' : Pairs (Rl H3) ((kvs.take i).filter p) acc := p4.mono fun kv v r => hx _ _ _ _ ((Ex.new hT).trans e3) r
    cases hp : p (kvs.getD i kv0) with
    | false =>
      refine iteF ⟨p1'.trans e3, acc, p2', by omega, ?_⟩
      rw [take_succ_get hxi, List.filter_append]
      have e5 : [kvs.getD i kv0].filter p = [] := by rw [List.filter_cons, hp]; rfl
      rw [e5, List.append_nil]
      exact p4'
    | true =>
      refine iteT (he _ hmm H3 (e1.trans (p1'.trans e3)) hp _ fun v H4 e4 r => ⟨acc, e4 _ _ p2', sz_lt (by omega), (NW.Same.mut ((p1'.trans e3).trans e4) hD : Ex H1 _), acc ++ [v], upd_same, by rw [List.length_append]; exact Nat.add_le_add_right p3 1, ?_⟩)
      rw [take_succ_get hxi, List.filter_append]
      have e5 : [kvs.getD i kv0].filter p = [kvs.getD i kv0] := by rw [List.filter_cons, hp]; rfl
      rw [e5]
      exact ((p4'.mono fun kv u r => hx _ _ _ _ e4 r).snoc r).mono fun kv u r => hm _ _ _ _ _ _ (e4 _ _ p2') r
  · obtain ⟨p1, acc, p2, p3, p4⟩ := pv
    rw [List.take_length] at p4
    exact q Dl H' acc (fresh_back e1 hD) (e1.trans p1) p2 p4⟩
end
def ipA : TIp := fun x y H Q => (∃ i j, x = .int i ∧ y = .int j ∧ Q (.int (i + j)) H) ∨ ∃ i j, x = .str i ∧ y = .str j ∧ i.length + j.length ≤ sizeLine ∧ Q (.str (i ++ j)) H
theorem ip_addA {X : Cx} : PIp X .Add ipA := by
  intro pins s σ H x y v u Q I r1 r2 h
  rcases h with h | h
  · exact ip_add pins s σ H x y v u Q I r1 r2 h
  · exact iop_add_str pins s σ H x y v u Q I r1 r2 h
theorem ipA_s {l m : List Nat} {H : Hp} {Q : VK} (z : l.length + m.length ≤ 100000) (h : Q (.str (tx (l ++ m))) H) : ipA (.str (tx l)) (.str (tx m)) H Q :=
  .inr ⟨tx l, tx m, rfl, rfl, by rw [tx_length, tx_length]; exact Nat.le_trans z (by decide), by rw [tx_append]; exact h⟩
end NW

/-! isinstance of what an except clause holds; numbers: bit_length, ranges of what a call gives, whiles. -/
namespace NW
open PySem PySem.Spec PyProof.Rows L2 Evl
/-- isinstance(e, c), e what the suite holds -/
def rIsEx (K : PySem.W.Frag) (cls : Value) (d : Option Addr) (a : Addr) : List V → Hp → VK → Prop := fun xs H Q => ∃ (D : Addr) (c : V) (cv : Value) (b : Bool), cls = .ref D ∧ d = none ∧ ExcC K D ∧ xs = [.ref a, c] ∧ (∀ u, RelV c u → u = cv) ∧ PySem.W.kitOne K (.ref D) cv = some b ∧ Q (.bl b) H
theorem call_isEx {X : Cx} {K : PySem.W.Frag} (h : X.K = K) {a : Addr} {oe : Obj} {cls : Value} {d : Option Addr} {pn : List (Addr × Obj)} (hz : Zc cls d oe) (hf : ∃ vs, oe.data = .fields vs) : CallR (X.suite a ((a, oe) :: pn)) (.builtin "isinstance") (rIsEx K cls d a) := by
  subst h
  intro pins s σ H xs us Q I r hh
  obtain ⟨D, c, cv, b, rfl, rfl, C, rfl, hcv, e, q⟩ := hh
  exact call_isE C hz hf pins s σ H _ us Q I r ⟨c, cv, b, rfl, hcv, e, q⟩
theorem kit_self {K : PySem.W.Frag} {t : Value} : PySem.W.kitOne K t t = some true := by
  unfold PySem.W.kitOne
  rw [if_pos (by simp)]
theorem kit_own {K : PySem.W.Frag} {x c : Addr} {b : Bool} (h2 : PySem.W.isClsIn K c = true) (h3 : PySem.W.typeIn K (.ref c) = some (.type "type")) (h4 : PySem.W.subIn K (.ref x) (.ref c) = some b) (h5 : x = c → b = true) : PySem.W.kitOne K (.ref x) (.ref c) = some b := by
  have e2 : ((PySem.W.clsIn K c).isSome && PySem.W.typeIn K (.ref c) == some (.type "type")) = true := by
    have h2' : (PySem.W.clsIn K c).isSome = true := h2
    rw [h2', h3] <;> rfl
  unfold PySem.W.kitOne
  by_cases e : x = c
  · subst e
    rw [if_pos (by simp), h5 rfl]
  · rw [if_neg (by simpa using e)]
    show (if ((PySem.W.clsIn K c).isSome && PySem.W.typeIn K (.ref c) == some (.type "type")) = true then PySem.W.subIn K (.ref x) (.ref c) else none) = some b
    rw [if_pos e2]
    exact h4
section
variable {σ : L2.St} {H : Hp} {Q : VK} {D : Ends} {te : TE} {tA : TA} {tu : TS} {t : TT}
theorem rd_bits (h : te σ H fun x H1 => ∃ i, x = .int i ∧ Q (.int (Builtin.Int.intBits i : Nat)) H1) : tBits te σ H Q := h
theorem rd_aug {i : Nat} {ti : TIp} (x : V) (e : σ[i]? = some (some x)) (h : te σ H fun y H1 => ti x y H1 fun z H2 => D.nx (σ.set i (some z)) H2) : tAug i te ti D σ H := ⟨x, e, h⟩
theorem ipA_i {i j : Int} (h : Q (.int (i + j)) H) : ipA (.int i) (.int j) H Q := .inl ⟨i, j, rfl, rfl, h⟩
theorem ipI_i {g : Int → Int → Int} {i j : Int} (h : Q (.int (g i j)) H) : ipI g (.int i) (.int j) H Q := ⟨i, j, rfl, rfl, h⟩
/-- for j in range(what a call gives) -/
theorem rd_rngC {j : Nat} (h : tA σ H fun vs H1 => ∃ n : Nat, vs = [.int (n : Nat)] ∧ n ≤ 100000 ∧ ∃ Pv : Nat → L2.St → Hp → Prop, Pv 0 σ H1 ∧
    (∀ (i : Nat) σ' H', i < n → Pv i σ' H' → tu { D with nx := Pv (i + 1), ct := Pv (i + 1), bk := D.nx } (σ'.set j (some (.int (i : Nat)))) H') ∧ ∀ σ' H', Pv n σ' H' → D.nx σ' H') (mono : ∀ (Q Q' : List V → Hp → Prop), (∀ vs H1, Q vs H1 → Q' vs H1) → tA σ H Q → tA σ H Q') : tFor (iRng1 tA) (gName j) tu D σ H := by
  refine mono _ _ (fun vs H1 hq => ?_) h
  obtain ⟨n, rfl, hn, Pv, h0, hs, hd⟩ := hq
  refine ⟨(n : Nat), rfl, by omega, by omega, for_range (lo := 0) (n := n) Pv h0 (fun i σ' H' hi p => ?_) hd⟩
  have e0 : (0 : Int) + (i : Int) = (i : Int) := Int.zero_add _
  show tu { D with nx := Pv (i + 1), ct := Pv (i + 1), bk := D.nx } (σ'.set j (some (.int ((0 : Int) + (i : Int))))) H'
  rw [e0]
  exact hs i σ' H' hi p
/-- the range's end is told: what stands behind -/
theorem rng_at {H1 : Hp} {j n : Nat} (hn : n ≤ 100000) (Pv : Nat → L2.St → Hp → Prop) (h0 : Pv 0 σ H1)
    (hs : ∀ (i : Nat) σ' H', i < n → Pv i σ' H' → tu { D with nx := Pv (i + 1), ct := Pv (i + 1), bk := D.nx } (σ'.set j (some (.int (i : Nat)))) H') (hd : ∀ σ' H', Pv n σ' H' → D.nx σ' H') :
    ∃ k : Int, [V.int (n : Nat)] = [.int k] ∧ -(2 ^ 62) ≤ k ∧ k < 2 ^ 62 ∧ (∃ W : Nat → Nat → L2.St → Hp → Prop, (∃ m, W 0 m σ H1) ∧ ∀ i m σ H, W i m σ H →
  ((Itr 0 k.toNat).stop i H ∧ D.nx σ H) ∨ ((Itr 0 k.toNat).go i H ∧ ∃ N : L2.St → Hp → Prop, (∀ σ' H', N σ' H' → ∃ m', m' < m ∧ W (i + 1) m' σ' H') ∧ ∀ x H', (Itr 0 k.toNat).yld i H x H' → gName j x σ H' fun σ2 H2 => tu { D with nx := N, ct := N, bk := D.nx } σ2 H2)) := by
  refine ⟨(n : Nat), rfl, by omega, by omega, for_range (lo := 0) (n := n) Pv h0 (fun i σ' H' hi p => ?_) hd⟩
  have e0 : (0 : Int) + (i : Int) = (i : Int) := Int.zero_add _
  show tu { D with nx := Pv (i + 1), ct := Pv (i + 1), bk := D.nx } (σ'.set j (some (.int ((0 : Int) + (i : Int))))) H'
  rw [e0]
  exact hs i σ' H' hi p
theorem rd_for1 {j : Nat} (h : tA σ H fun vs H1 => ∃ k : Int, vs = [.int k] ∧ -(2 ^ 62) ≤ k ∧ k < 2 ^ 62 ∧ (∃ W : Nat → Nat → L2.St → Hp → Prop, (∃ m, W 0 m σ H1) ∧ ∀ i m σ H, W i m σ H →
  ((Itr 0 k.toNat).stop i H ∧ D.nx σ H) ∨ ((Itr 0 k.toNat).go i H ∧ ∃ N : L2.St → Hp → Prop, (∀ σ' H', N σ' H' → ∃ m', m' < m ∧ W (i + 1) m' σ' H') ∧ ∀ x H', (Itr 0 k.toNat).yld i H x H' → gName j x σ H' fun σ2 H2 => tu { D with nx := N, ct := N, bk := D.nx } σ2 H2))) : tFor (iRng1 tA) (gName j) tu D σ H := h
/-- while, by a measure of the state -/
theorem rd_while (Pv : L2.St → Hp → Prop) (μ : L2.St → Nat) (h0 : Pv σ H)
    (hs : ∀ σ' H', Pv σ' H' → ∃ b, EvT t σ' H' b ∧ (b = true → ∀ H1, Ex H' H1 → tu { D with nx := fun σ2 H2 => Pv σ2 H2 ∧ μ σ2 < μ σ', ct := fun σ2 H2 => Pv σ2 H2 ∧ μ σ2 < μ σ', bk := D.nx } σ' H1) ∧ (b = false → ∀ H1, Ex H' H1 → D.nx σ' H1)) : tWhile t tu D σ H := by
  refine s_while (fun m σ' H' => m = μ σ' ∧ Pv σ' H') (μ σ) ⟨rfl, h0⟩ ?_
  rintro m σ' H' ⟨rfl, p⟩
  obtain ⟨b, hb, h1, h2⟩ := hs σ' H' p
  exact ⟨b, hb, fun e H1 x => ⟨_, fun σ2 H2 q => ⟨_, q.2, rfl, q.1⟩, h1 e H1 x⟩, h2⟩
/-- except x as n -/
theorem as_hit {K : PySem.W.Frag} {Wo : WX} {c x : Value} {d : Option Addr} {i : Nat} {ts : Addr → Value → Option Addr → TS}
    (h : PySem.W.exmOne K x c = some true) (k : ∀ a, H a = none → ts a x d { nx := fun σ' H' => D.nx (σ'.set i none) H', rt := D.rt, bk := fun σ' H' => D.bk (σ'.set i none) H', ct := fun σ' H' => D.ct (σ'.set i none) H' } (σ.set i (some (.ref a))) H) : WE (wAs K c i ts Wo D) σ x d H :=
  ⟨true, h, fun _ => k, fun e => (by cases e)⟩
/-- [te for j in range(lo, n) if t] -/
theorem el_lcR2 {j : Nat} {vs : List Nat} {lo n : Int} {te : TE} (f : Nat → Bool) (v : Nat → V) (h : EvA tA σ H [.int lo, .int n]) (hn : 0 ≤ lo ∧ lo ≤ 40000 ∧ -40000 ≤ n ∧ n ≤ 40000) (hw : ∀ x, wipe ((wipe σ vs).set j (some x)) vs = wipe σ vs)
    (ht : ∀ (i : Nat) H1, Ex H H1 → lo + (i : Int) < n → EvT t ((wipe σ vs).set j (some (.int (lo + (i : Int))))) H1 (f i)) (he : ∀ (i : Nat) H1, Ex H H1 → lo + (i : Int) < n → f i = true → Ev te ((wipe σ vs).set j (some (.int (lo + (i : Int))))) H1 (v i)) :
    EvL (tLc (iRng2 tA) (gName j) t te vs) σ H (given (n - lo).toNat f v) := fun H0 e Q q => h H0 e _ fun H1 e1 => ⟨lo, n, rfl, ⟨by omega, by omega, by omega, by omega⟩, fun Dl hD =>
  lc_range (lo := lo) (n := (n - lo).toNat) (Cw H1 f v Dl) ⟨hD, Ex.new hD, upd_same⟩ (fun i H' hi p =>
    ⟨hw _, cw_turn p (by omega) (ht i H1 (e.trans e1) (by omega)) (fun hf => he i H1 (e.trans e1) (by omega) hf)⟩) (fun H' p => q Dl H' (fresh_back e1 p.1) (e1.trans p.2.1) p.2.2)⟩
end
end NW

/-! Comprehensions whose turns change what stands; loops over the list that a call gives. -/
namespace NW
open PySem PySem.Spec PyProof.Rows L2 Evl
section
variable {K : PySem.W.Frag} {σ : L2.St} {H : Hp} {Q : VK} {D : Ends} {te tl : TE} {tA : TA} {tu : TS} {t : TT} {g : TG}
/-- [te for j in range(n)], each turn by a word -/
theorem rd_lcM {j : Nat} {vs : List Nat} {n : Int} (h : EvA tA σ H [.int n]) (hn : 0 ≤ n ∧ n ≤ 40000) (hw : ∀ x, wipe ((wipe σ vs).set j (some x)) vs = wipe σ vs) (Pv : Addr → Nat → List V → Hp → Prop)
    (h0 : ∀ H1 L, Same H H1 → H1 L = none → Pv L 0 [] (upd H1 L (.lst [])))
    (hs : ∀ L (i : Nat) acc H' (Q' : VK), (i : Int) < n → acc.length = i → Pv L i acc H' → H' L = some (.lst acc) → (∀ y H4, H4 L = some (.lst acc) → Pv L (i + 1) (acc ++ [y]) (upd H4 L (.lst (acc ++ [y]))) → Q' y H4) → te ((wipe σ vs).set j (some (.int (i : Int)))) H' Q')
    (hd : ∀ L acc H', acc.length = n.toNat → Pv L n.toNat acc H' → H' L = some (.lst acc) → Q (.ref L) H') : tLc (iRng1 tA) (gName j) tYes te vs σ H Q :=
  h H (Ex.refl H) _ fun H1 e1 => ⟨n, rfl, by omega, by omega, fun L hL =>
  lc_range (lo := 0) (n := n.toNat) (fun i H' => ∃ acc, acc.length = i ∧ Pv L i acc H' ∧ H' L = some (.lst acc)) ⟨[], rfl, h0 H1 L e1 hL, upd_same⟩ (fun i H' hi p => by
    obtain ⟨acc, hl, p, hL'⟩ := p
    have e0 : (0 : Int) + (i : Int) = (i : Int) := Int.zero_add _
    show wipe ((wipe σ vs).set j (some (.int ((0 : Int) + (i : Int))))) vs = wipe σ vs ∧ tYes ((wipe σ vs).set j (some (.int ((0 : Int) + (i : Int))))) H' fun b H3 => if b = true then te ((wipe σ vs).set j (some (.int ((0 : Int) + (i : Int))))) H3 fun y H4 => ∃ acc, H4 L = some (.lst acc) ∧ acc.length < sizeLine ∧ ∃ acc', acc'.length = i + 1 ∧ Pv L (i + 1) acc' (upd H4 L (.lst (acc ++ [y]))) ∧ upd H4 L (.lst (acc ++ [y])) L = some (.lst acc') else ∃ acc', acc'.length = i + 1 ∧ Pv L (i + 1) acc' H3 ∧ H3 L = some (.lst acc')
    rw [e0]
    refine ⟨hw _, rd_yes (iteT ?_)⟩
    refine hs L i acc H' _ (by omega) hl p hL' fun y H4 h4 p4 => ⟨acc, h4, sz_lt (by omega), acc ++ [y], by rw [List.length_append, hl]; rfl, p4, upd_same⟩) (fun H' p => by
      obtain ⟨acc, hl, p, hL'⟩ := p
      exact hd L acc H' hl p hL')⟩
theorem rd_nx {n b c : L2.St → Hp → Prop} {r : VK} {σ : L2.St} {H : Hp} (h : n σ H) : ({ nx := n, rt := r, bk := b, ct := c } : Ends).nx σ H := h
/-- for x in what a call gives -/
theorem rd_forL (h : tl σ H fun x H1 => ∃ a, x = .ref a ∧ (∃ xs, SqL K H1 a xs) ∧ ∃ W : Nat → Nat → L2.St → Hp → Prop, (∃ m, W 0 m σ H1) ∧ ∀ i m σ H, W i m σ H →
  ((Itl K a).stop i H ∧ D.nx σ H) ∨ ((Itl K a).go i H ∧ ∃ N : L2.St → Hp → Prop, (∀ σ' H', N σ' H' → ∃ m', m' < m ∧ W (i + 1) m' σ' H') ∧ ∀ x H', (Itl K a).yld i H x H' → g x σ H' fun σ2 H2 => tu { D with nx := N, ct := N, bk := D.nx } σ2 H2)) : tFor (iList K tl) g tu D σ H := h
theorem lst_at {H1 : Hp} {a : Addr} {xs : List V} (hs : SqL K H1 a xs) (Pv : Nat → L2.St → Hp → Prop) (h0 : Pv 0 σ H1) (hG : ∀ i σ' H', i ≤ xs.length → Pv i σ' H' → SqL K H' a xs)
    (hn : ∀ i x σ' H', xs[i]? = some x → Pv i σ' H' → g x σ' H' fun σ2 H2 => tu { D with nx := Pv (i + 1), ct := Pv (i + 1), bk := D.nx } σ2 H2) (hd : ∀ σ' H', Pv xs.length σ' H' → D.nx σ' H') :
    ∃ a', V.ref a = .ref a' ∧ (∃ xs, SqL K H1 a' xs) ∧ ∃ W : Nat → Nat → L2.St → Hp → Prop, (∃ m, W 0 m σ H1) ∧ ∀ i m σ H, W i m σ H →
  ((Itl K a').stop i H ∧ D.nx σ H) ∨ ((Itl K a').go i H ∧ ∃ N : L2.St → Hp → Prop, (∀ σ' H', N σ' H' → ∃ m', m' < m ∧ W (i + 1) m' σ' H') ∧ ∀ x H', (Itl K a').yld i H x H' → g x σ H' fun σ2 H2 => tu { D with nx := N, ct := N, bk := D.nx } σ2 H2) := by
  refine ⟨a, rfl, ⟨xs, hs⟩, for_it (G := fun H => SqL K H a xs) walk_list Pv h0 hG (fun i x σ' H' H'' hi p hy => ?_) hd⟩
  obtain ⟨rfl, hx⟩ := hy
  exact hn i x σ' _ hx p
end
end NW

/-! Indexes in texts and lists of texts; comprehensions that make new objects, over any walk. -/
namespace NW
open PySem PySem.Spec PyProof.Rows L2 Evl
section
variable {K : PySem.W.Frag} {σ : L2.St} {H : Hp} {Q : VK} {D : Ends} {te tl : TE} {tA : TA} {tu : TS} {t : TT} {g : TG}
def rIdxS : V → List V → Hp → VK → Prop := fun x xs H Q => ∃ a b i rest, x = .str a ∧ xs = [.str b] ∧ Builtin.Str.occurrences a b 0 a.length 1 = i :: rest ∧ Q (.int (i : Nat)) H
theorem mt_sindexA {X : Cx} : MtR X "str.index" rIdxS := mt_sindex
theorem occ_one {l : List Nat} {c j : Nat} (hn : l.Nodup) (hj : l[j]? = some c) : ∃ rest, Builtin.Str.occurrences (tx l) (tx [c]) 0 (tx l).length 1 = j :: rest := by
  have h1 : (!(Builtin.Str.occurrences (tx l) (tx [c]) 0 (tx l).length 1).isEmpty) = true := by
    have := StrLaws.found_one (tx l) c
    rw [show (⟨#[c]⟩ : Str) = tx [c] from rfl] at this
    rw [this]
    exact decide_eq_true (List.mem_of_getElem? hj)
  cases ho : Builtin.Str.occurrences (tx l) (tx [c]) 0 (tx l).length 1 with
  | nil => rw [ho] at h1; cases h1
  | cons i r =>
    have h2 := StrLaws.occ_spec (tx l) (tx [c]) 0 (tx l).length 1 i (by rw [ho]; exact List.mem_cons_self)
    have h3 := (StrLaws.subAt_one (tx l) c i).mp h2
    have h3 : l[i]? = some c := h3
    have hi := (List.getElem?_eq_some_iff.mp h3).1
    have hjl := (List.getElem?_eq_some_iff.mp hj).1
    have e : i = j := (List.getElem?_inj hi hn).mp (h3.trans hj.symm)
    exact ⟨r, by rw [e]⟩
theorem index_s {l : List Nat} {c j : Nat} (hn : l.Nodup) (hj : l[j]? = some c) (h : Q (.int (j : Nat)) H) : rIdxS (.str (tx l)) [.str (tx [c])] H Q := by
  obtain ⟨r, hr⟩ := occ_one hn hj
  exact ⟨tx l, tx [c], j, r, rfl, rfl, hr, h⟩
theorem mt_indexK {X : Cx} (h : X.K = K) : MtR X "list.index" (rIndex K) := h ▸ mt_index
theorem flat_txs : ∀ cs : List (List Nat), (vTxs cs).all flatV = true
  | [] => rfl
  | c :: r => by
    show (flatV (V.str (tx c)) && (vTxs r).all flatV) = true
    rw [flat_txs r]
    rfl
theorem eqV_tx {a b : List Nat} : eqV (.str (tx a)) (.str (tx b)) = decide (a = b) := by
  by_cases h : a = b
  · subst h
    rw [decide_eq_true rfl]
    show decide (tx a = tx a) = true
    simp
  · rw [decide_eq_false h]
    show decide (tx a = tx b) = false
    exact decide_eq_false fun e => h (tx_inj e)
theorem index_l {a : Addr} {cs : List (List Nat)} {m : List Nat} {j : Nat} (hs : SqL K H a (vTxs cs)) (hj : cs[j]? = some m) (hf : ∀ i, i < j → cs[i]? ≠ some m) (h : Q (.int (j : Nat)) H) : rIndex K (.ref a) [.str (tx m)] H Q := by
  refine ⟨a, vTxs cs, .str (tx m), j, .str (tx m), rfl, rfl, hs, rfl, flat_txs cs, ?_, by rw [eqV_tx, decide_eq_true rfl], fun i z hi hz => ?_, h⟩
  · unfold vTxs
    rw [List.getElem?_map, hj]
    rfl
  · unfold vTxs at hz
    rw [List.getElem?_map] at hz
    cases hc : cs[i]? with
    | none => rw [hc] at hz; cases hz
    | some c =>
      rw [hc] at hz
      cases hz
      rw [eqV_tx]
      exact decide_eq_false fun e => hf i hi (by rw [hc, e])
theorem inV_txs (m : List Nat) : ∀ cs : List (List Nat), inV (.str (tx m)) (vTxs cs) = decide (m ∈ cs)
  | [] => rfl
  | c :: r => by
    have ih := inV_txs m r
    have e1 : inV (.str (tx m)) (vTxs (c :: r)) = (eqV (.str (tx c)) (.str (tx m)) || inV (.str (tx m)) (vTxs r)) := rfl
    rw [e1, ih, eqV_tx]
    by_cases h : c = m
    · subst h; simp
    · have h2 : ¬ m = c := fun e => h e.symm
      rw [decide_eq_false h, Bool.false_or]
      simp [h2]
theorem in_txs {a : Addr} {cs : List (List Nat)} {m : List Nat} {neg : Bool} (hs : SqL K H a (vTxs cs)) (h : Q (.bl (if neg then !decide (m ∈ cs) else decide (m ∈ cs))) H) : rIn K neg (.str (tx m)) (.ref a) H Q :=
  ⟨a, vTxs cs, rfl, .inl hs, rfl, flat_txs cs, by rw [inV_txs]; exact h⟩
/-- [te for j in ..], new objects -/
theorem rd_lcR {wi : TI} {J : It} {G : Hp → Prop} {xs : List V} {j : Nat} {vs : List Nat} (hwk : Wk wi σ H J G xs) (Rl : Hp → V → V → Prop) (hz : xs.length ≤ 40000) (hw : ∀ x, wipe ((wipe σ vs).set j (some x)) vs = wipe σ vs)
    (he : ∀ x ∈ xs, ∀ H1, Ex H H1 → ∀ Q' : VK, (∀ v H2, Ex H1 H2 → Rl H2 x v → Q' v H2) → te ((wipe σ vs).set j (some x)) H1 Q')
    (hx : ∀ H1 H2 x v, Ex H1 H2 → Rl H1 x v → Rl H2 x v) (hm : ∀ H1 L xs o x v, H1 L = some (.lst xs) → Rl H1 x v → Rl (upd H1 L o) x v)
    (q : ∀ P H1 us, H P = none → Ex H H1 → H1 P = some (.lst us) → Pairs (Rl H1) xs us → Q (.ref P) H1) : tLc wi (gName j) tYes te vs σ H Q :=
  hwk.go H (Ex.refl H) _ fun H1 e1 Dl hD => by
  refine lc_it (G := G) hwk.walk (fun i H' => Ex H1 H' ∧ ∃ acc, H' Dl = some (.lst acc) ∧ acc.length ≤ i ∧ Pairs (Rl H') (xs.take i) acc)
    ⟨Ex.new hD, [], upd_same, Nat.le_refl _, Pairs.nil⟩ (fun _ _ _ pv => hwk.all _ (e1.trans pv.1)) (fun i x H' H'' hi pv hy => ?_) (fun H' pv => ?_)
  · obtain ⟨rfl, hxi⟩ := hy
    have hmm : x ∈ xs := List.mem_of_getElem? hxi
    obtain ⟨p1, acc, p2, p3, p4⟩ := pv
    refine ⟨hw _, rd_yes (iteT ?_)⟩
    refine he x hmm _ (e1.trans p1) _ fun v H4 e4 r => ⟨acc, e4 _ _ p2, sz_lt (by omega), (NW.Same.mut (p1.trans e4) hD : Ex H1 _), acc ++ [v], upd_same, by rw [List.length_append]; exact Nat.add_le_add_right p3 1, ?_⟩
    rw [take_succ_get hxi]
    exact ((p4.mono fun kv u r => hx _ _ _ _ e4 r).snoc r).mono fun kv u r => hm _ _ _ _ _ _ (e4 _ _ p2) r
  · obtain ⟨p1, acc, p2, p3, p4⟩ := pv
    rw [List.take_length] at p4
    exact q Dl H' acc (fresh_back e1 hD) (e1.trans p1) p2 p4
end
/-! text * number -/
def rRepS : R2 := fun x y H Q => ∃ (l : List Nat) (k : Nat), x = .str (tx l) ∧ y = .int (k : Nat) ∧ l.length * k ≤ 100000 ∧ k ≤ 100000 ∧ Q (.str (tx (List.replicate k l).flatten)) H
theorem fold_tx (l : List Nat) : ∀ (k : Nat) (a : List Nat), (List.replicate k l.toArray).foldl (fun x1 x2 => x1 ++ x2) a.toArray = (a ++ (List.replicate k l).flatten).toArray
  | 0, a => by simp
  | k + 1, a => by
    rw [List.replicate_succ, List.foldl_cons, List.append_toArray, fold_tx l k]
    simp [List.replicate_succ]
theorem mul_tx (l : List Nat) (k : Nat) : Txt.mul (tx l) (k : Nat) = tx (List.replicate k l).flatten := by
  unfold Txt.mul
  by_cases h0 : k = 0
  · subst h0
    rfl
  · rw [if_neg (by omega)]
    by_cases h1 : k = 1
    · subst h1
      simp
    · have e1 : (((k : Nat) : Int) == 1) = false := by simpa using (by omega : ¬ ((k : Nat) : Int) = 1)
      rw [e1, Bool.false_or]
      have e2 : ((tx l).length == 0) = decide (l.length = 0) := by rw [tx_length]; rfl
      rw [e2]
      by_cases hl : l = []
      · subst hl
        rw [if_pos (by simp)]
        simp
      · rw [decide_eq_false (by intro e; exact hl (List.eq_nil_of_length_eq_zero e)), if_neg Bool.false_ne_true]
        have := fold_tx l k []
        show (⟨_⟩ : Str) = ⟨_⟩
        congr 1
theorem op_repS {X : Cx} : OpR X (binaryOp .Mult) rRepS := by
  intro pins s σ H x y v u Q I rx ry h
  obtain ⟨l, k, rfl, rfl, hz, hk, q⟩ := h
  obtain ⟨t, rfl⟩ := rx
  obtain ⟨t', rfl⟩ := ry
  refine SB.mul ⟨?_, fun h1 _ h2 => ?_, fun _ _ => ?_⟩ fun t2 n => ⟨.str _, H, I.tok _, ⟨_, rfl⟩, ?_⟩
  · rw [decide_eq_false (by omega), decide_eq_false (by omega)]
    rfl
  · rw [tx_length] at h2
    have h3 : (((l.length : Nat) : Int)) * ((k : Nat) : Int) ≤ 100000 := by
      have : ((l.length * k : Nat) : Int) ≤ 100000 := by omega
      rwa [Int.natCast_mul] at this
    have h4 : ((l.length : Nat) : Int) ≤ (2 ^ 63 - 1) / ((k : Nat) : Int) := (Int.le_ediv_iff_mul_le (by omega)).mpr (by omega)
    omega
  · rw [tx_length]
    have e : ((k : Nat) : Int).toNat = k := by omega
    rw [e]
    have hs : l.length * k ≤ sizeLine := Nat.le_trans hz (by decide)
    show decide (l.length * k > sizeLine) = false
    exact decide_eq_false (by omega)
  · rw [mul_tx]
    exact q
theorem rep_s {l : List Nat} {k : Nat} {H : Hp} {Q : VK} (hz : l.length * k ≤ 100000) (hk : k ≤ 100000) (h : Q (.str (tx (List.replicate k l).flatten)) H) : rRepS (.str (tx l)) (.int (k : Nat)) H Q := ⟨l, k, rfl, rfl, hz, hk, h⟩
/-! except clauses -/
theorem hd_hit {K : PySem.W.Frag} {W : WX} {D : Ends} {σ : L2.St} {H : Hp} {c x : Value} {d : Option Addr} {ts : Addr → Value → Option Addr → TS} {r : List (Value × (Addr → Value → Option Addr → TS))}
    (h : PySem.W.exmOne K x c = some true) (k : ∀ a, H a = none → ts a x d D σ H) : WE (wMany K W D ((c, ts) :: r)) σ x d H := ⟨true, h, fun _ => k, fun e => by cases e⟩
theorem hd_miss {K : PySem.W.Frag} {W : WX} {D : Ends} {σ : L2.St} {H : Hp} {c x : Value} {d : Option Addr} {ts : Addr → Value → Option Addr → TS} {r : List (Value × (Addr → Value → Option Addr → TS))}
    (h : PySem.W.exmOne K x c = some false) (k : WE (wMany K W D r) σ x d H) : WE (wMany K W D ((c, ts) :: r)) σ x d H := ⟨false, h, fun e => (by cases e), fun _ => k⟩
end NW

/-! Texts and lists backwards; walks over the keys of a dict. -/
namespace NW
open PySem PySem.Spec PyProof.Rows L2 Evl
def tRevT (te : TE) : TE := fun σ H Q => te σ H fun v H1 => ∃ l : List Nat, v = .str (tx l) ∧ l.length ≤ 100000 ∧ Q (.str (tx l.reverse)) H1
theorem stepS_rev (l : List Nat) : stepS (tx l) none none (-1) = tx l.reverse := by
  unfold stepS
  rw [picked_rev, tx_length, List.filterMap_map]
  show (⟨_⟩ : Str) = ⟨_⟩
  congr 2
  apply List.ext_getElem?
  intro i
  have key : ∀ L : List Nat, (∀ k ∈ L, k < l.length) → L.filterMap ((fun i => (tx l).cps[i]?) ∘ fun k => l.length - 1 - k) = L.map fun k => l.getD (l.length - 1 - k) 0 := by
    intro L
    induction L with
    | nil => intro _; rfl
    | cons k r ih =>
      intro hL
      have hk := hL k List.mem_cons_self
      have e1 : ((fun i => (tx l).cps[i]?) ∘ fun k => l.length - 1 - k) k = some (l.getD (l.length - 1 - k) 0) := by
        show (tx l).cps[l.length - 1 - k]? = some (l.getD (l.length - 1 - k) 0)
        rw [tx_get]
        simp [List.getD, List.getElem?_eq_getElem (show l.length - 1 - k < l.length by omega)]
      rw [List.filterMap_cons_some e1, List.map_cons, ih fun x hx => hL x (List.mem_cons_of_mem _ hx)]
  have e := key (List.range l.length) fun k hk => List.mem_range.mp hk
  rw [e, List.getElem?_map]
  by_cases h : i < l.length
  · rw [List.getElem?_range h, List.getElem?_reverse h]
    show some (l.getD (l.length - 1 - i) 0) = _
    simp [List.getD, List.getElem?_eq_getElem (show l.length - 1 - i < l.length by omega)]
  · rw [List.getElem?_eq_none (by simpa using h), List.getElem?_eq_none (by simpa using h)]
    rfl
section
variable {X : Cx} {e : Expr} {te : TE}
theorem pe_revT {k : Nat} {p1 p2 p3 pos : Pos} (he : PE X e te) : PE X (.Subscript e (.Slice none none (some (.UnaryOp .USub (.Constant (.int 1) k p1) p2)) p3) pos) (tRevT te) := by
  refine ⟨fun pins s σ H Q I h => ?_⟩
  refine Subscript_ (thn (he.run pins s σ H _ I h) fun v s1 ⟨x, H1, I1, r1, q1⟩ => ?_)
  have hno : PO X none tNoPart := po_none
  have hst : PO X (some (.UnaryOp .USub (.Constant (.int 1) k p1) p2)) (tPart (tUn (rU fun i => .int (-i)) (tC (.int 1)))) := po_some (pe_un un_neg pe_int)
  obtain ⟨l0, rfl, hz, q⟩ := q1
  refine wpAny_Slice (thn (hno.run pins s1 σ H1 (fun o H2 => o = none ∧ H2 = H1) I1 ⟨rfl, rfl⟩) fun vl s2 ⟨l, H2, I2, pl, e2⟩ => thn (hno.run pins s2 σ H2 (fun o H3 => o = none ∧ H3 = H2) I2 ⟨rfl, rfl⟩) fun vu s3 ⟨u, H3, I3, pu, e3⟩ => ?_)
  refine thn (hst.run pins s3 σ H3 (fun o H4 => o = some (-1) ∧ H4 = H3) I3 ⟨1, rfl, -1, rfl, rfl, rfl⟩) fun vs s4 ⟨o, H4, I4, ps, e4⟩ => ?_
  obtain ⟨rfl, rfl⟩ := e2
  obtain ⟨rfl, rfl⟩ := e3
  obtain ⟨rfl, rfl⟩ := e4
  obtain ⟨t, rfl⟩ := r1
  obtain ⟨l, rfl, hl⟩ := IsPart.raw pl
  obtain ⟨u, rfl, hu⟩ := IsPart.raw pu
  obtain ⟨w', rfl, hw⟩ := IsPart.raw ps
  have I5 : Inv X pins σ H4 { s4 with heap := s4.heap.push { cls := .type "slice", data := .fields #[partValue l, partValue u, partValue w'] } } := I4.kept (t' := s4.toks) fun b ob q => Heap.get?_push_of_some _ q
  show wpAny (model X.prog X.w) X.A (subscriptTail e (.Slice none none (some (.UnaryOp .USub (.Constant (.int 1) k p1) p2)) p3) (.str (tx l0) t) (.ref s4.heap.objs.size)) (EP X pins σ Q) X.xe { s4 with heap := s4.heap.push { cls := .type "slice", data := .fields #[partValue l, partValue u, partValue w'] } }
  have hstep : (w'.map (·.1)).getD 1 = -1 := by rw [hw]; rfl
  refine tail_any (ops := [.ref s4.heap.objs.size, .str (tx l0) t]) (typeIs_str _ _ _) PySem.F.slot_str_getitem.lookup ?_ (by with_unfolding_all rfl)
  refine wpAny_getItem_str_slice (l := l) (u := u) (st := w') ⟨_, Heap.get?_push_size _ rfl, rfl, rfl⟩ (by rw [hstep]; rfl) ?_
  have e0 : sliceMade (tx l0) t l u w' = Made.str (stepS (tx l0) none none (-1)) := by
    unfold sliceMade
    rw [if_neg]
    · unfold slicePicked stepS
      rw [hstep, hl, hu]
    · rw [hstep, Bool.and_eq_true, not_and]
      intro h
      exact absurd (beq_iff_eq.mp h) (by omega)
  rw [e0, stepS_rev]
  have hz' : (tx l0.reverse).length ≤ sizeLine := by rw [tx_length, List.length_reverse]; exact Nat.le_trans hz (by decide)
  exact ⟨hz', .str _, H4, I5.tok _, ⟨_, rfl⟩, q⟩
theorem pe_revLK {K : PySem.W.Frag} (h : X.K = K) {k : Nat} {p1 p2 p3 pos : Pos} (he : PE X e te) : PE X (.Subscript e (.Slice none none (some (.UnaryOp .USub (.Constant (.int 1) k p1) p2)) p3) pos) (tRevL K te) := h ▸ pe_revL he
end
section
variable {K : PySem.W.Frag} {σ : L2.St} {H : Hp} {Q : VK} {te td : TE}
theorem ev_revT {l : List Nat} (h : Ev te σ H (.str (tx l))) (hz : l.length ≤ 100000) : Ev (tRevT te) σ H (.str (tx l.reverse)) := fun H1 e1 Q q => h H1 e1 _ fun H2 e2 => ⟨l, rfl, hz, q H2 e2⟩
theorem rd_revL {a : Addr} {xs : List V} (h : Ev te σ H (.ref a)) (hs : SqL K H a xs) (k : ∀ p H1, H p = none → Same H H1 → H1 p = some (.lst xs.reverse) → Q (.ref p) H1) : tRevL K te σ H Q :=
  h H (Ex.refl H) _ fun H1 e1 => ⟨a, xs, rfl, ex_l e1 hs, fun p hp => k p _ (fresh_back e1 hp) (e1.trans (Ex.new hp)) upd_same⟩
/-- the keys of a dict that is locked -/
def keysV (kvs : List (Key × V)) : List V := kvs.map fun kv => kV kv.1
theorem wk_keys {d : Addr} {od : Obj} {kvs : List (Key × V)} (h : Ev td σ H (.ref d)) (hd : H d = some (.frz od (.dK kvs))) : Wk (iKeys td) σ H (Itk d od kvs) (fun H => H d = some (.frz od (.dK kvs))) (keysV kvs) where
  walk := by
    have e : (keysV kvs).length = kvs.length := by unfold keysV; rw [List.length_map]
    rw [e]
    refine (walk_keys (d := d) (o := od) (kvs := kvs)).mono (fun _ h => h) (fun i H x H' _ _ hy => ?_)
    obtain ⟨h1, k, v, hk, rfl⟩ := hy
    refine ⟨h1, ?_⟩
    unfold keysV
    rw [List.getElem?_map, hk]
    rfl
  all := fun H2 e => e _ _ hd
  go := fun H1 e R r => h H1 e _ fun H2 e2 => ⟨d, od, rfl, .inl ⟨kvs, (e.trans e2) _ _ hd, r H2 e2⟩⟩
theorem DGet.f {H : Hp} {a : Addr} {od : Obj} {kvs : List (Key × V)} {k : Key} (e : H a = some (.frz od (.dK kvs))) : DGet H a (kV k) (valV kvs k) := .inl ⟨kvs, k, .inr ⟨od, e⟩, rfl, rfl⟩
end
end NW

/-! Lists of numbers, one greater than the other. -/
namespace NW
open PySem PySem.Spec PyProof.Rows L2 Evl
def rGtD (K : PySem.W.Frag) : R2 := fun x y H Q => ∃ d e, Dp K H x d ∧ Dp K H y e ∧ PySem.W.alike d e = true ∧ d ≠ .none ∧ min d.depth e.depth ≤ 64 ∧ Q (.bl (PySem.W.dataLt e d)) H
theorem op_gtD {X : Cx} (hu : X.A.units + 65 < cLine) : OpR X (compareOp .Gt) (rGtD X.K) := by
  intro pins s σ H x y v u Q I rx ry h
  obtain ⟨d, e, hd, he, ha, hn, hm, q⟩ := h
  obtain ⟨as, r1⟩ := Dp.reads I d x v hd rx
  obtain ⟨bs, r2⟩ := Dp.reads I e y u he ry
  exact PySem.W.gt_data r1 r2 ha hn (by omega) ⟨.bl _, H, I, rfl, q⟩
theorem op_gtDK {X : Cx} {K : PySem.W.Frag} (h : X.K = K) (hu : X.A.units + 65 < cLine) : OpR X (compareOp .Gt) (rGtD K) := h ▸ op_gtD hu
/-- one list of numbers ahead of another of the same length -/
def ltN : List Nat → List Nat → Bool
  | x :: xs, y :: ys => if x = y then ltN xs ys else decide (x < y)
  | _, _ => false
theorem alike_ints : ∀ a b : List Nat, PySem.W.alikeAll (a.map dInt) (b.map dInt) = true
  | [], _ => by simp [PySem.W.alikeAll]
  | _ :: _, [] => by simp [PySem.W.alikeAll]
  | x :: a, y :: b => by
    simp only [List.map_cons, PySem.W.alikeAll, Bool.and_eq_true]
    exact ⟨rfl, alike_ints a b⟩
theorem lt_ints : ∀ a b : List Nat, a.length = b.length → PySem.W.dataLt (dList dInt a) (dList dInt b) = ltN a b
  | [], [], _ => by
    show PySem.W.dataLt (.list []) (.list []) = false
    rw [PySem.W.dataLt_list]
    decide +kernel
  | x :: a, y :: b, h => by
    have ih := lt_ints a b (by simpa using h)
    have ea : PySem.W.dataLt (dList dInt (x :: a)) (dList dInt (y :: b)) = PyProof.Rows.lexLt itemOrd (PySem.W.keyToksAll (dInt x :: a.map dInt)) (PySem.W.keyToksAll (dInt y :: b.map dInt)) := PySem.W.dataLt_list _ _
    have eb : PySem.W.dataLt (dList dInt a) (dList dInt b) = PyProof.Rows.lexLt itemOrd (PySem.W.keyToksAll (a.map dInt)) (PySem.W.keyToksAll (b.map dInt)) := PySem.W.dataLt_list _ _
    rw [ea]
    show _ = if x = y then ltN a b else decide (x < y)
    by_cases e : x = y
    · subst e
      rw [if_pos rfl, ← ih, eb]
      exact PySem.W.dataLt_all_yes (x := dInt x) (y := dInt x) rfl ((item_int.eqv x x).mpr rfl)
    · rw [if_neg e]
      have he : PyData.eqv (dInt x) (dInt y) = false := by
        rw [Bool.eq_false_iff]
        exact fun q => e ((item_int.eqv x y).mp q)
      rw [PySem.W.dataLt_all_no (x := dInt x) (y := dInt y) rfl he]
      show PySem.W.dataLt (.int (x : Nat)) (.int (y : Nat)) = _
      rw [PySem.W.dataLt_int]
      by_cases q : x < y
      · rw [decide_eq_true q, decide_eq_true (by omega)]
      · rw [decide_eq_false q, decide_eq_false (by omega)]
theorem gt_ints {K : PySem.W.Frag} {H : Hp} {Q : VK} {x y : V} {a b : List Nat} (hx : Dp K H x (dList dInt a)) (hy : Dp K H y (dList dInt b)) (hl : a.length = b.length) (h : Q (.bl (ltN b a)) H) : rGtD K x y H Q := by
  refine ⟨dList dInt a, dList dInt b, hx, hy, alike_ints a b, (fun e => by cases e), ?_, by rw [lt_ints b a hl.symm]; exact h⟩
  have := (item_list item_int).dep a
  omega
theorem ltN_irr : ∀ a : List Nat, ltN a a = false
  | [] => rfl
  | x :: a => by
    show (if x = x then ltN a a else _) = false
    rw [if_pos rfl]
    exact ltN_irr a
theorem ltN_asym : ∀ {a b : List Nat}, ltN a b = true → ltN b a = false
  | [], _, h => by cases h
  | _ :: _, [], h => by cases h
  | x :: a, y :: b, h => by
    have h : (if x = y then ltN a b else decide (x < y)) = true := h
    show (if y = x then ltN b a else decide (y < x)) = false
    by_cases e : x = y
    · subst e
      rw [if_pos rfl] at h ⊢
      exact ltN_asym h
    · rw [if_neg e] at h
      have := of_decide_eq_true h
      rw [if_neg (fun q => e q.symm)]
      exact decide_eq_false (by omega)
/-- text.find of one sign that stands there, no sign twice -/
theorem find_nd {l : List Nat} {c j : Nat} (hn : l.Nodup) (hj : l[j]? = some c) : Txt.find (tx l) (tx [c]) = ((j : Nat) : Int) := by
  obtain ⟨r, hr⟩ := occ_one hn hj
  unfold Txt.find
  rw [hr]
theorem eqV_int {a b : Nat} : eqV (.int (a : Nat)) (.int (b : Nat)) = decide (a = b) := by
  by_cases h : a = b
  · subst h
    rw [decide_eq_true rfl]
    show decide (((a : Nat) : Int) = ((a : Nat) : Int)) = true
    simp
  · rw [decide_eq_false h]
    show decide (((a : Nat) : Int) = ((b : Nat) : Int)) = false
    exact decide_eq_false fun e => h (by omega)
theorem inV_ints (m : Nat) : ∀ cs : List Nat, inV (.int (m : Nat)) (vInts cs) = decide (m ∈ cs)
  | [] => rfl
  | c :: r => by
    have ih := inV_ints m r
    have e1 : inV (.int (m : Nat)) (vInts (c :: r)) = (eqV (.int (c : Nat)) (.int (m : Nat)) || inV (.int (m : Nat)) (vInts r)) := rfl
    rw [e1, ih, eqV_int]
    by_cases h : c = m
    · subst h; simp
    · have h2 : ¬ m = c := fun e => h e.symm
      rw [decide_eq_false h, Bool.false_or]
      simp [h2]
theorem flat_ints : ∀ cs : List Nat, (vInts cs).all flatV = true
  | [] => rfl
  | c :: r => by
    show (flatV (V.int (c : Nat)) && (vInts r).all flatV) = true
    rw [flat_ints r]
    rfl
theorem in_ints {K : PySem.W.Frag} {H : Hp} {Q : VK} {a : Addr} {cs : List Nat} {m : Nat} {neg : Bool} (hs : SqL K H a (vInts cs)) (h : Q (.bl (if neg then !decide (m ∈ cs) else decide (m ∈ cs))) H) : rIn K neg (.int (m : Nat)) (.ref a) H Q :=
  ⟨a, vInts cs, rfl, .inl hs, rfl, flat_ints cs, by rw [inV_ints]; exact h⟩
/-- [te for j in what a call gives, if t] -/
theorem el_lcL {K : PySem.W.Frag} {σ : L2.St} {H : Hp} {te tl : TE} {t : TT} {xs : List V} {j : Nat} {vs : List Nat} (h : EvL tl σ H xs) (p : V → Bool) (v : V → V) (hz : xs.length ≤ 40000) (hw : ∀ x, wipe ((wipe σ vs).set j (some x)) vs = wipe σ vs)
    (ht : ∀ x ∈ xs, ∀ H1, Ex H H1 → EvT t ((wipe σ vs).set j (some x)) H1 (p x)) (he : ∀ x ∈ xs, ∀ H1, Ex H H1 → p x = true → Ev te ((wipe σ vs).set j (some x)) H1 (v x)) :
    EvL (tLc (iList K tl) (gName j) t te vs) σ H ((xs.filter p).map v) := fun H0 e Q q => h H0 e _ fun a H1 ha e1 h1 => ⟨a, rfl, ⟨xs, SqL.of h1⟩, fun Dl hD => by
  refine lc_it (G := fun H => SqL K H a xs) walk_list (Cw H1 (fun i => p (xs.getD i .non)) (fun i => v (xs.getD i .non)) Dl) ⟨hD, Ex.new hD, upd_same⟩ (fun _ _ _ pv => ex_l pv.2.1 (SqL.of h1)) (fun i x H' H'' hi pv hy => ?_) (fun H' pv => ?_)
  · obtain ⟨rfl, hx⟩ := hy
    have hm : x ∈ xs := List.mem_of_getElem? hx
    have hd : xs.getD i .non = x := by simp [List.getD, hx]
    refine ⟨hw _, cw_turn pv (by omega) ?_ ?_⟩
    · show EvT t _ H1 (p (xs.getD i .non))
      rw [hd]
      exact ht x hm H1 (e.trans e1)
    · intro hf
      have hf' : p (xs.getD i .non) = true := hf
      rw [hd] at hf'
      show Ev te _ H1 (v (xs.getD i .non))
      rw [hd]
      exact he x hm H1 (e.trans e1) hf'
  · obtain ⟨p1, p2, p3⟩ := pv
    rw [given_getD] at p3
    exact q Dl H' (fresh_back e1 p1) (e1.trans p2) p3⟩
end NW

/-! sorted of texts, of lists of numbers, of pairs of numbers, however many; list.pop(i). -/
namespace NW
open PySem PySem.Spec PyProof.Rows L2 Evl
theorem vals_each {β : Type} (vf : β → V) : ∀ {bs : List β} {us : List Value}, Vals (bs.map vf) us → PySem.W.EachIs (fun u b => RelV (vf b) u) us bs
  | [], us, h => by
    have h : Vals [] us := h
    cases h
    exact .nil
  | b :: r, us, h => by
    have h : Vals (vf b :: r.map vf) us := h
    cases h with
    | cons h1 h2 => exact .cons h1 (vals_each vf h2)
theorem each_vals {β : Type} (vf : β → V) : ∀ {bs : List β} {us : List Value}, PySem.W.EachIs (fun u b => RelV (vf b) u) us bs → Vals (bs.map vf) us
  | _, _, .nil => .nil
  | _, _, .cons h t => .cons h (each_vals vf t)
theorem each_and {β : Type} {R : Value → β → Prop} {S : Value → β → Prop} : ∀ {us : List Value} {bs : List β}, PySem.W.EachIs R us bs → (∀ u b, b ∈ bs → R u b → S u b) → PySem.W.EachIs S us bs
  | _, _, .nil, _ => .nil
  | _, _, .cons h t, f => .cons (f _ _ List.mem_cons_self h) (each_and t fun u b hb => f u b (List.mem_cons_of_mem _ hb))
/-- sorted(xs), xs any data that can be told apart -/
def rSortD (K : PySem.W.Frag) : List V → Hp → VK → Prop := fun xs H Q => ∃ (a : Addr) (β : Type) (bs : List β) (vf : β → V) (enc : β → PyData), xs = [V.ref a] ∧ SqL K H a (bs.map vf) ∧ (∀ b ∈ bs, Dp K H (vf b) (enc b)) ∧ PySem.W.AllAlike (bs.map enc) ∧ PySem.W.Sortable (bs.map enc) ∧ (∀ b ∈ bs, (enc b).depth ≤ 62) ∧
  ∀ p, H p = none → Q (.ref p) (upd H p (.lst ((bs.mergeSort (PySem.W.dataLe false enc)).map vf)))
theorem cr_sortedD {X : Cx} (hu : X.A.units + 64 < cLine) : CallR X (.builtin "sorted") (rSortD X.K) := by
  intro pins s σ H vs us Q I r h
  obtain ⟨a, β, bs, vf, enc, rfl, hs, hd, hal, hk, hdep, q⟩ := h
  obtain ⟨its, rv, hl, hz⟩ := I.list hs
  rw [Vals.ref1 r]
  have hz' : bs.length ≤ sizeLine := by rw [List.length_map] at hz; exact hz
  have e : PySem.W.EachIs (fun u b => RelV (vf b) u) its bs := vals_each vf rv
  have er : PySem.W.EachIs (fun u b => ∃ as, Reads s.heap u (enc b) as) its bs := each_and e fun u b hb hr => Dp.reads I (enc b) (vf b) u (hd b hb) hr
  refine PySem.W.sorted_data hl.isList e er hal hk hz' (fun b hb => by have := hdep b hb; omega) fun out hlen ho => ?_
  obtain ⟨ep, he'⟩ := PyProof.Rows.sortedAll_at s.heap its out.toArray
  exact ⟨.ref _, upd H (s.heap.objs.size + 1) (.lst ((bs.mergeSort (PySem.W.dataLe false enc)).map vf)), I.laid (t' := s.toks) (fun _ _ => PyProof.Rows.sortedAll_old) (Nat.le_succ _) ⟨by rw [List.length_map, List.length_mergeSort]; exact hz', out, ep, each_vals vf ho, he'⟩, rfl, q _ (I.hok.fresh (Nat.le_succ _))⟩
theorem cr_sortedDK {X : Cx} {K : PySem.W.Frag} (h : X.K = K) (hu : X.A.units + 64 < cLine) : CallR X (.builtin "sorted") (rSortD K) := h ▸ cr_sortedD hu
/-! the orders -/
theorem sort_same {α : Type} {le : α → α → Bool} (tr : ∀ a b c, le a b = true → le b c = true → le a c = true) (to : ∀ a b, (le a b || le b a) = true) (an : ∀ a b, le a b = true → le b a = true → a = b) {xs ys : List α} (h : xs.Perm ys) : xs.mergeSort le = ys.mergeSort le := by
  have p1 := List.pairwise_mergeSort (le := le) tr to xs
  have p2 := List.pairwise_mergeSort (le := le) tr to ys
  have pp : (xs.mergeSort le).Perm (ys.mergeSort le) := (List.mergeSort_perm xs le).trans (h.trans (List.mergeSort_perm ys le).symm)
  exact pp.eq_of_pairwise (fun a b _ _ h1 h2 => an a b h1 h2) p1 p2
theorem le_tx : PySem.W.dataLe false dTx = fun a b : List Nat => decide (a ≤ b) := by
  have h := PySem.W.dataLe_str (β := List Nat) tx
  have e : (fun b : List Nat => PyData.str (tx b)) = dTx := rfl
  rw [e] at h
  rw [h]
  funext a b
  have h1 : ∀ c : List Nat, (tx c).cps.toList = c := fun c => rfl
  rw [h1, h1]
theorem sort_tx {xs ys : List (List Nat)} (h : xs.Perm ys) : xs.mergeSort (PySem.W.dataLe false dTx) = ys.mergeSort (PySem.W.dataLe false dTx) := by
  refine sort_same (fun a b c => ?_) (fun a b => ?_) (fun a b => ?_) h
  · rw [le_tx]
    simp only [decide_eq_true_eq]
    exact fun h1 h2 => List.le_trans h1 h2
  · rw [le_tx]
    simp only [Bool.or_eq_true, decide_eq_true_eq]
    exact List.le_total a b
  · rw [le_tx]
    simp only [decide_eq_true_eq]
    exact fun h1 h2 => List.le_antisymm h1 h2
section
variable {K : PySem.W.Frag} {H : Hp} {Q : VK}
theorem sort_txs {a : Addr} {cs : List (List Nat)} (hs : SqL K H a (vTxs cs)) (h : ∀ p, H p = none → Q (.ref p) (upd H p (.lst (vTxs (cs.mergeSort (PySem.W.dataLe false dTx)))))) : rSortD K [.ref a] H Q :=
  ⟨a, List Nat, cs, fun c => .str (tx c), dTx, rfl, hs, fun b _ => .str _, PySem.W.AllAlike.of fun _ _ => rfl, PySem.W.Sortable.others fun _ => ⟨fun e => (by cases e), fun _ e => (by cases e)⟩, fun b _ => by have := item_tx.dep b; omega, h⟩
theorem pop_at {l : Addr} {xs : List V} {k : Nat} {y : V} (hl : H l = some (.lst xs)) (hz : xs.length ≤ 100000) (hy : xs[k]? = some y) (h : Q y (upd H l (.lst (xs.eraseIdx k)))) : rPopAt (.ref l) [.int (k : Nat)] H Q := by
  have hk := (List.getElem?_eq_some_iff.mp hy).1
  refine ⟨l, xs, (k : Nat), k, y, rfl, rfl, hl, by omega, by omega, ?_, hy, h⟩
  have h1 : ¬ (((k : Nat) : Int) < 0) := by omega
  unfold seqIndex?
  rw [if_neg h1]
  show (if (decide (0 ≤ ((k : Nat) : Int)) && decide (((k : Nat) : Int) < ((xs.length : Nat) : Int))) = true then some (((k : Nat) : Int)).toNat else none) = some k
  rw [decide_eq_true (by omega), decide_eq_true (by omega)]
  rfl
end
def rJoinK (K : PySem.W.Frag) : V → List V → Hp → VK → Prop := fun x xs H Q => ∃ a p, ∃ ys : List Str, x = .str a ∧ xs = [.ref p] ∧ (SqL K H p (ys.map V.str) ∨ SqT K H p (ys.map V.str)) ∧ (ys.map (·.length)).sum + ys.length * a.length ≤ 16777216 ∧ Q (.str (Txt.join a ys)) H
theorem mt_joinK {K : PySem.W.Frag} {X : Cx} (h : X.K = K) : MtR X "str.join" (rJoinK K) := h ▸ mt_join
theorem joinL_sgs : ∀ cs : List Nat, TL.joinL [] (cs.map fun c => [c]) = cs
  | [] => rfl
  | [_] => rfl
  | c :: d :: r => by
    show [c] ++ ([] ++ TL.joinL [] ((d :: r).map fun c => [c])) = _
    rw [joinL_sgs (d :: r)]
    rfl
theorem join_sgs (cs : List Nat) : Txt.join (tx []) (cs.map fun c => tx [c]) = tx cs := by
  refine TL.ext_tl ?_
  rw [TL.join_eq, TL.tl_join, List.map_map]
  exact joinL_sgs cs
section
variable {K : PySem.W.Frag} {H : Hp} {Q : VK}
theorem join_l {p : Addr} {cs : List Nat} (hs : SqL K H p (vSgs cs)) (hz : cs.length ≤ 100000) (h : Q (.str (tx cs)) H) : rJoinK K (.str (tx [])) [.ref p] H Q := by
  have e : vSgs cs = (cs.map fun c => tx [c]).map V.str := by
    unfold vSgs
    rw [List.map_map]
    rfl
  refine ⟨tx [], p, cs.map fun c => tx [c], rfl, rfl, .inl (by rw [← e]; exact hs), ?_, by rw [join_sgs]; exact h⟩
  have h1 : ∀ l : List Nat, ((l.map fun c => tx [c]).map (·.length)).sum = l.length := by
    intro l
    induction l with
    | nil => rfl
    | cons a r ih =>
      rw [List.map_cons, List.map_cons, List.sum_cons, ih, List.length_cons]
      have : (tx [a]).length = 1 := tx_length [a]
      rw [this]
      omega
  rw [h1, tx_length]
  simp
  omega
end
end NW

/-! Calls of a def whose last parameters have defaults; x[i] |= e of lists of numbers. -/
namespace NW
open PySem PySem.Spec PyProof.Rows L2

section
variable {X : Cx} {CX : CXT} {k : Nat} {f C : Addr} {fd : FuncData} {ps : List Str} {sp : Sp} {E : L2.St → XK} {x m : Str} {p pos apos : Pos} {e o : Expr} {es : List Expr} {ta : TE} {t : TA} {dvs : List V} {ds : List Value}
theorem run_fnSD {pins : List (Addr × Obj)} {σ : L2.St} {H : Hp} {s : Shared} {Q : VK} {us : List Value} {vs : List V} (F : FnOk X.prog X.w X.K X.mg X.base CX k f fd ps sp) (hr : Room k X.A) (hb : Binds X.K fd ps ds) (hd : Vals dvs ds) (hx : PassesAt CX X σ (E σ))
    (I : Inv X pins σ H s) (r : Vals vs us) (h : sp (vs ++ dvs) H Q (E σ)) : wpAny (model X.prog X.w) X.A (call (.ref f) us) (EP X pins σ Q) X.xe s := by
  have r2 : Vals (vs ++ dvs) (us ++ ds) := r.append hd
  have hl : (us ++ ds).length = ps.length := by rw [← r2.length]; exact F.len _ _ _ _ h
  refine wpAny_call (codeAny_mono (F.run X.A X.stack s H ⟨us, []⟩ (us ++ ds) (vs ++ dvs) Q (E σ) hr I.env0 (hb s us I.kIn hl) r2 h) fun r s' hq => ?_)
  cases r with
  | error e => exact hx pins H s e s' I hq
  | ok fl =>
    cases fl with
    | ret u => exact I.after hq
    | next => exact False.elim hq
    | brk => exact False.elim hq
    | cont => exact False.elim hq
def tCallSD (sp : Sp) (dvs : List V) (E : L2.St → XK) (t : TA) : TE := fun σ H Q => t σ H fun vs H1 => sp (vs ++ dvs) H1 Q (E σ)
theorem pe_callSD (F : FnOk X.prog X.w X.K X.mg X.base CX k f fd ps sp) (hr : Room k X.A) (hg : Gl X x) (hm : X.mg x = some (.ref f)) (hk : PySem.W.keepIn X.K (.ref f) = true) (hb : ∃ ds, Vals dvs ds ∧ Binds X.K fd ps ds) (hx : ∀ σ, PassesAt CX X σ (E σ))
    (ha : PA X (e :: es) t) (hdb : (x == ("__debug__" : Str)) = false := by decide) (he : starEach (e :: es) X.env = (false, eval e X.env) :: starEach es X.env := by rfl) (hpl : (backTo pos (starEach es X.env)).any (·.1) = false := by rfl) :
    PE X (.Call (.Name x p) (e :: es) [] pos) (tCallSD sp dvs E t) := by
  obtain ⟨ds, hd, hb⟩ := hb
  refine ⟨fun pins s σ H Q I h => ?_⟩
  refine wpAny_Call_Name_kw (ld_glob I hg hm ?_ hdb)
  refine PySem.W.callWith_K (h₀ := X.base) I.ok.mod.kin hk (thn (ha.run pos pins s σ H _ I h) fun us s1 ⟨vs, H1, I1, r, q⟩ => ⟨I1.kIn, ?_⟩) he hpl
  exact run_fnSD F hr hb hd (hx σ) I1 r q
theorem rd_callSD {sp : Sp} {E : L2.St → XK} {tA : TA} {σ : L2.St} {H : Hp} {Q : VK} (h : tA σ H fun vs H1 => sp (vs ++ dvs) H1 Q (E σ)) : tCallSD sp dvs E tA σ H Q := h
end
/-! a def with one default, as it stands behind the top -/
section
variable {K : PySem.W.Frag} {x qual : Str} {st : Stmt} {f : Addr} {fd : FuncData}
abbrev FunO (K : PySem.W.Frag) (x qual : Str) (st : Stmt) (dvs : List V) (f : Addr) (fd : FuncData) : Prop := FunD K x qual (defArgs st) (defBody st) (defScope st) dvs [] f fd
theorem funo_mk {oc oe : Value} {od oo an : Option Addr} {osl ose : Array (Option Value)} {kV doc pm cdv ct : Value} {T : Addr} {its : List Value} {n : Nat} {dvs : List V}
    (l : K.lookup f = some ⟨oc, od, .func (PySem.W.fnOf x qual (defArgs st) (defBody st) (defScope st) (.ref T) kV doc pm an cdv ct), osl⟩)
    (c : PySem.W.codeIn K cdv qual = true) (k : PySem.W.keepIn K (.ref f) = true) (lT : K.lookup T = some ⟨oe, oo, .seq its.toArray n, ose⟩) (hd : dvs ≠ []) (hv : Vals dvs its) :
    FunO K x qual st dvs f (PySem.W.fnOf x qual (defArgs st) (defBody st) (defScope st) (.ref T) kV doc pm an cdv ct) :=
  ⟨⟨oc, od, .ref T, kV, doc, pm, an, cdv, ct, osl, rfl, l, c, .inr ⟨hd, T, _, its, n, rfl, lT, rfl, hv⟩, .inl rfl⟩, k⟩
theorem binds_full {ps : List Str} (h : ∃ ds, Vals [] ds ∧ Binds K fd ps ds) : Binds K fd ps [] := by
  obtain ⟨ds, hd, hb⟩ := h
  cases hd
  exact hb
end
/-! x[i] |= e of lists -/
section
variable {X : Cx} {K : PySem.W.Frag} {H : Hp} {σ : L2.St} {D : Ends}
def rGetL (K : PySem.W.Frag) : V → V → Hp → VK → Prop := fun o i H Q => ∃ p xs, ∃ k : Nat, ∃ v, o = .ref p ∧ i = .int (k : Nat) ∧ SqL K H p xs ∧ xs[k]? = some v ∧ Q v H
theorem get_list0 (h : X.K = K) : PGet X (rGetL K) := by
  subst h
  intro pins s σ H o i ov iv Q I ro ri h
  obtain ⟨p, xs, k, v, rfl, rfl, hq, he, q⟩ := h
  cases ro
  obtain ⟨t, rfl⟩ := ri
  obtain ⟨its, r, pl, hz⟩ := I.list hq
  obtain ⟨w, ew, rw'⟩ := r.get he
  have hl := r.length
  have hn := line63
  have hk := (List.getElem?_eq_some_iff.mp he).1
  exact wpAny_getItem_list pl.isList (by omega) (by omega) (by rw [Int.toNat_natCast]; simpa using ew) ⟨v, H, I, rw', q⟩
theorem rd_augS {to ti te : TE} {tget : V → V → Hp → VK → Prop} {tip : TIp} {tset : TSet}
    (h : to σ H fun o H1 => ti σ H1 fun i H2 => tget o i H2 fun x H3 => te σ H3 fun y H4 => tip x y H4 fun z H5 => tset o i z H5 fun H6 => D.nx σ H6) : tAugS to ti te tget tip tset D σ H := h
theorem get_l {p : Addr} {xs : List V} {k : Nat} {v : V} {Q : VK} (hq : SqL K H p xs) (he : xs[k]? = some v) (h : Q v H) : rGetL K (.ref p) (.int (k : Nat)) H Q := ⟨p, xs, k, v, rfl, rfl, hq, he, h⟩
theorem set_l {p : Addr} {xs : List V} {k : Nat} {v : V} {Q : Hp → Prop} (hp : H p = some (.lst xs)) (hk : k < xs.length) (h : Q (upd H p (.lst (xs.set k v)))) : rSetL (.ref p) (.int (k : Nat)) v H Q := by
  refine ⟨p, xs, k, k, rfl, rfl, hp, ?_, h⟩
  unfold ixN
  simp [hk]
theorem pi_enumK {e : Expr} {ta : TA} {p pos tpos : Pos} {elts : List Expr} {kk : Nat} (h : X.K = K) (hg : Gl X "enumerate") (hm : X.mg "enumerate" = none) (ha : PA X [e] ta) (hs : starEach [e] X.env = [(false, eval e X.env)] := by rfl) :
    PI X (.Tuple elts kk tpos) (.Call (.Name "enumerate" p) [e] [] pos) (iEnum K ta) := h ▸ pi_enum hg hm ha hs
def rTupL (K : PySem.W.Frag) : List V → Hp → VK → Prop := fun xs H Q => ∃ p ys, xs = [.ref p] ∧ ((SqL K H p ys ∧ ∀ l, H l = none → Q (.ref l) (upd H l (.tup ys))) ∨ (SqT K H p ys ∧ Q (.ref p) H))
theorem call_tupLK (h : X.K = K) : CallR X (.type "tuple") (rTupL K) := h ▸ call_tuple_of
theorem tup_l {p : Addr} {ys : List V} {Q : VK} (hs : SqL K H p ys) (h : ∀ l, H l = none → Q (.ref l) (upd H l (.tup ys))) : rTupL K [.ref p] H Q := ⟨p, ys, rfl, .inl ⟨hs, h⟩⟩
end
/-! {tk: tv for a, b in enumerate(xs)} -/
section
open Evl
variable {K : PySem.W.Frag} {σ : L2.St} {H : Hp} {tk tv : TE} {ta : TA} {g : TG}
theorem rd_dcE {a b : Nat} {vs : List Nat} {p : Addr} {xs : List V} {Q : VK} (h : EvA ta σ H [.ref p]) (hs : SqL K H p xs) (kf : Nat → Key) (vf : Nat → V) (hz : xs.length ≤ 40000)
    (hinj : ∀ i j, i < xs.length → j < xs.length → kf i = kf j → i = j)
    (hw : ∀ x y, wipe (((wipe σ vs).set a (some x)).set b (some y)) vs = wipe σ vs)
    (hg : ∀ x y T σ' H' (R : L2.St → Hp → Prop), H' T = some (.tup [x, y]) → R ((σ'.set a (some x)).set b (some y)) H' → g (.ref T) σ' H' R)
    (hk : ∀ i x, xs[i]? = some x → ∀ H1, Ex H H1 → Ev tk (((wipe σ vs).set a (some (.int (i : Nat)))).set b (some x)) H1 (kV (kf i)))
    (he : ∀ i x, xs[i]? = some x → ∀ H1, Ex H H1 → Ev tv (((wipe σ vs).set a (some (.int (i : Nat)))).set b (some x)) H1 (vf i))
    (q : ∀ d H1, H d = none → Same H H1 → H1 d = some (.dK ((List.range xs.length).map fun i => (kf i, vf i))) → Q (.ref d) H1) : tDc (iEnum K ta) g tYes tk tv vs σ H Q := h H (Ex.refl H) _ fun H1 e1 => ⟨p, xs, rfl, ex_l e1 hs, fun Dl hD => by
  have W := walk_enum (K := K) (a := p) (xs := xs)
  refine ⟨fun i m H' => m = xs.length - i ∧ i ≤ xs.length ∧ Ex H1 H' ∧ H' Dl = some (.dK ((List.range i).map fun i => (kf i, vf i))), ⟨xs.length, by omega, Nat.zero_le _, Ex.new hD, by rw [upd_same]; rfl⟩, ?_⟩
  rintro i m H' ⟨rfl, hi, ex, hd⟩
  by_cases hlt : i < xs.length
  · refine .inr ⟨W.goes i H' hlt (ex_l (e1.trans ex) hs), fun H2 => Ex H1 H2 ∧ H2 Dl = some (.dK ((List.range (i + 1)).map fun i => (kf i, vf i))), fun H2 n => ⟨xs.length - (i + 1), by omega, rfl, hlt, n.1, n.2⟩, fun x H2 hy => ?_⟩
    obtain ⟨T, x1, x2, rfl, hT, rfl, h1, h2⟩ := W.yields i H' x H2 hlt (ex_l (e1.trans ex) hs) hy
    cases h1
    refine hg _ _ T _ _ _ upd_same ⟨hw _ _, rd_yes (iteT ?_)⟩
    have exT : Ex H1 (upd H' T (.tup [.int (i : Nat), x2])) := ex.trans (Ex.new hT)
    have hdT : upd H' T (.tup [.int (i : Nat), x2]) Dl = some (.dK ((List.range i).map fun i => (kf i, vf i))) := by rw [upd_ne (ne_of_none hd hT)]; exact hd
    refine hk i x2 h2 H1 e1 _ exT _ fun H3 e3 => he i x2 h2 H1 e1 H3 (exT.trans e3) _ fun H4 e4 => ⟨_, kf i, rfl, e4 _ _ (e3 _ _ hdT), ?_, ?_⟩
    · rw [List.length_map, List.length_range]
      exact sz_lt (by omega)
    · refine ⟨Ex.mut ((exT.trans e3).trans e4) hD, ?_⟩
      rw [upd_same, putK_new, List.range_succ, List.map_append]
      · rfl
      · unfold valV
        rw [Option.map_eq_none_iff, List.find?_eq_none]
        intro z hz
        obtain ⟨j, hj, rfl⟩ := List.mem_map.mp hz
        have hj := List.mem_range.mp hj
        simp only [decide_eq_true_eq]
        intro e
        have := hinj j i (by omega) hlt e
        omega
  · obtain rfl : i = xs.length := by omega
    exact .inl ⟨W.stops H' (ex_l (e1.trans ex) hs), q Dl H' (fresh_back e1 hD) (e1.trans ex) hd⟩⟩
end
end NW

/-! Walks over what a call gives, over ranges and tuples; comprehensions with two fors, the second one over what hangs on the first. -/
namespace NW
open PySem PySem.Spec PyProof.Rows L2 Evl
/-- wi walks over ys, whatever it makes for it -/
def WkX (wi : TI) (σ : L2.St) (H : Hp) (ys : List V) : Prop := ∀ H1, Ex H H1 → ∀ R : It → Hp → Prop, (∀ J H2, Ex H1 H2 → (∃ G, Walk J ys.length G (YAt ys) ∧ ∀ H3, Ex H H3 → (∀ b o, H1 b = none → H2 b = some o → H3 b = some o) → G H3) → R J H2) → wi σ H1 R
section
variable {K : PySem.W.Frag} {σ : L2.St} {H H' : Hp} {ta : TA} {tb te tl tk tv : TE} {t t1 : TT} {wi wi1 : TI} {J J1 : It} {G G1 : Hp → Prop} {xs ys : List V}
theorem WkX.mono (h : WkX wi σ H xs) (e : Ex H H') : WkX wi σ H' xs := fun H1 e1 R r => h H1 (e.trans e1) R fun J H2 e2 ⟨G, W, WG⟩ => r J H2 e2 ⟨G, W, fun H3 e3 kn => WG H3 (e.trans e3) kn⟩
theorem wkx_wk (h : Wk wi σ H J G xs) : WkX wi σ H xs := fun H1 e1 R r => h.go H1 e1 R fun H2 e2 => r J H2 e2 ⟨G, h.walk, fun H3 e3 _ => h.all H3 e3⟩
theorem wkx_L (h : EvL tl σ H xs) : WkX (iList K tl) σ H xs := fun H1 e1 R r => h H1 e1 _ fun p H2 hp e2 h2 => ⟨p, rfl, ⟨xs, SqL.of h2⟩, r _ H2 e2 ⟨_, walk_list, fun H3 _ kn => SqL.of (kn _ _ hp h2)⟩⟩
theorem wk_tup {a : Addr} (h : Ev tl σ H (.ref a)) (hs : SqT K H a xs) : Wk (iTup K tl) σ H (Itt K a) (fun H => SqT K H a xs) xs :=
  ⟨walk_tup, fun _ e => ex_t e hs, fun H1 e R r => h H1 e _ fun H2 e2 => ⟨a, rfl, ⟨xs, ex_t (e.trans e2) hs⟩, r H2 e2⟩⟩
theorem vInts_get {l : List Nat} {i c : Nat} (h : l[i]? = some c) : (vInts l)[i]? = some (.int (c : Nat)) := by unfold vInts; rw [List.getElem?_map, h]; rfl
theorem walk_rng (n : Nat) : Walk (Itr 0 n) (vInts (List.range n)).length (fun _ => True) (YAt (vInts (List.range n))) := by
  have e : (vInts (List.range n)).length = n := by rw [vInts_len, List.length_range]
  rw [e]
  refine (walk_range (lo := 0) (n := n)).mono (fun _ h => h) (fun i H x H' hi _ hy => ?_)
  obtain ⟨h1, rfl⟩ := hy
  refine ⟨h1, ?_⟩
  have e0 : (0 : Int) + (i : Nat) = ((i : Nat) : Int) := Int.zero_add _
  show _ = some (V.int ((0 : Int) + (i : Nat)))
  rw [e0]
  exact vInts_get (by rw [List.getElem?_range hi])
theorem wk_rng1 {n : Nat} (h : EvA ta σ H [.int (n : Nat)]) (hn : n ≤ 100000) : Wk (iRng1 ta) σ H (Itr 0 n) (fun _ => True) (vInts (List.range n)) :=
  ⟨walk_rng n, fun _ _ => trivial, fun H1 e R r => h H1 e _ fun H2 e2 => ⟨(n : Nat), rfl, by omega, by omega, by
    rw [Int.toNat_natCast]
    exact r H2 e2⟩⟩
theorem flatX_len {ys : V → List V} {m : Nat} (p : V → V → Bool) (v : V → V → V) (hy : ∀ x ∈ xs, (ys x).length ≤ m) (i : Nat) : ((xs.take i).flatMap fun x => ((ys x).filter (p x)).map (v x)).length ≤ i * m := by
  have h : ∀ l : List V, (∀ x ∈ l, (ys x).length ≤ m) → (l.flatMap fun x => ((ys x).filter (p x)).map (v x)).length ≤ l.length * m := by
    intro l
    induction l with
    | nil => simp
    | cons x r ih =>
      intro hl
      have h1 := List.length_filter_le (p x) (ys x)
      have h2 := hl x List.mem_cons_self
      have h3 := ih fun y hy => hl y (List.mem_cons_of_mem _ hy)
      rw [List.flatMap_cons, List.length_append, List.length_map, List.length_cons, Nat.succ_mul]
      omega
  refine Nat.le_trans (h _ fun x hx => hy x (List.mem_of_mem_take hx)) (Nat.mul_le_mul_right _ ?_)
  rw [List.length_take]
  omega
/-- [te for j in .. for j1 in .. if t1], the second walk hangs on the first one -/
theorem el_lc2X {j j1 : Nat} {vs vs1 : List Nat} {ys : V → List V} {m : Nat} (hwk : WkX wi σ H xs) (hwk1 : ∀ x ∈ xs, WkX wi1 ((wipe σ vs).set j (some x)) H (ys x)) (p : V → V → Bool) (v : V → V → V)
    (hm : ∀ x ∈ xs, (ys x).length ≤ m) (hz : xs.length * m ≤ 40000)
    (hw : ∀ x, wipe ((wipe σ vs).set j (some x)) vs = wipe σ vs) (hw1 : ∀ x y, wipe ((wipe ((wipe σ vs).set j (some x)) vs1).set j1 (some y)) vs1 = wipe ((wipe σ vs).set j (some x)) vs1)
    (ht : ∀ x ∈ xs, ∀ y ∈ ys x, ∀ H1, Ex H H1 → EvT t1 ((wipe ((wipe σ vs).set j (some x)) vs1).set j1 (some y)) H1 (p x y))
    (he : ∀ x ∈ xs, ∀ y ∈ ys x, ∀ H1, Ex H H1 → p x y = true → Ev te ((wipe ((wipe σ vs).set j (some x)) vs1).set j1 (some y)) H1 (v x y)) :
    EvL (tLc2 wi (gName j) tYes wi1 (gName j1) t1 te vs vs1) σ H (xs.flatMap fun x => ((ys x).filter (p x)).map (v x)) := fun H0 e Q q => hwk H0 e _ fun J H1 e1 ⟨G, W, WG⟩ Dl hD => by
  refine ⟨fun i m H' => m = xs.length - i ∧ i ≤ xs.length ∧ Ex H1 H' ∧ H' Dl = some (.lst ((xs.take i).flatMap fun x => ((ys x).filter (p x)).map (v x))), ⟨xs.length, by omega, Nat.zero_le _, Ex.new hD, by rw [upd_same]; rfl⟩, ?_⟩
  rintro i m' H' ⟨rfl, hi, ex, hd⟩
  by_cases hlt : i < xs.length
  · refine .inr ⟨W.goes i H' hlt (WG _ ((e.trans e1).trans ex) fun b o _ hb => ex _ _ hb), fun H2 => Ex H1 H2 ∧ H2 Dl = some (.lst ((xs.take (i + 1)).flatMap fun x => ((ys x).filter (p x)).map (v x))), fun H2 n => ⟨xs.length - (i + 1), by omega, rfl, hlt, n.1, n.2⟩, fun x H2 hy => ?_⟩
    obtain ⟨rfl, hx⟩ := W.yields i H' x H2 hlt (WG _ ((e.trans e1).trans ex) fun b o _ hb => ex _ _ hb) hy
    have hmx : x ∈ xs := List.mem_of_getElem? hx
    refine ⟨hw x, rd_yes (iteT ?_)⟩
    have eH : Ex H H2 := (e.trans e1).trans ex
    refine hwk1 x hmx H2 eH _ fun J1 H3 e3 ⟨G1, W1, WG1⟩ => ?_
    refine ⟨fun k m H4 => m = (ys x).length - k ∧ k ≤ (ys x).length ∧ (∀ b o, H2 b = none → H3 b = some o → H4 b = some o) ∧ Ex H1 H4 ∧ H4 Dl = some (.lst (((xs.take i).flatMap fun x => ((ys x).filter (p x)).map (v x)) ++ (((ys x).take k).filter (p x)).map (v x))), ⟨(ys x).length, by omega, Nat.zero_le _, fun b o _ h => h, ex.trans e3, by rw [e3 _ _ hd]; simp⟩, ?_⟩
    rintro k m'' H4 ⟨rfl, hk, ex3, ex4, hd4⟩
    by_cases hlk : k < (ys x).length
    · refine .inr ⟨W1.goes k H4 hlk (WG1 _ ((e.trans e1).trans ex4) ex3), fun H5 => ((∀ b o, H2 b = none → H3 b = some o → H5 b = some o) ∧ Ex H1 H5 ∧ H5 Dl = some (.lst (((xs.take i).flatMap fun x => ((ys x).filter (p x)).map (v x)) ++ (((ys x).take (k + 1)).filter (p x)).map (v x)))), fun H5 n => ⟨(ys x).length - (k + 1), by omega, rfl, hlk, n.1, n.2.1, n.2.2⟩, fun y H5 hy => ?_⟩
      obtain ⟨rfl, hy2⟩ := W1.yields k H4 y H5 hlk (WG1 _ ((e.trans e1).trans ex4) ex3) hy
      have hmy : y ∈ ys x := List.mem_of_getElem? hy2
      refine ⟨hw1 x y, ?_⟩
      have e5 : Ex H H5 := (e.trans e1).trans ex4
      refine ht x hmx y hmy H1 (e.trans e1) H5 ex4 _ fun H6 e6 => ?_
      have hd6 := e6 _ _ hd4
      cases hp : p x y with
      | true =>
        refine iteT ?_
        refine he x hmx y hmy H1 (e.trans e1) hp H6 (ex4.trans e6) _ fun H7 e7 => ⟨_, e7 _ _ hd6, ?_, ?_⟩
        · have h1 := flatX_len (xs := xs) (ys := ys) (m := m) p v hm i
          have h2 := List.length_filter_le (p x) ((ys x).take k)
          have h4 := hm x hmx
          rw [List.length_append, List.length_map]
          rw [List.length_take] at h2
          have h3 : (i + 1) * m ≤ xs.length * m := Nat.mul_le_mul_right _ hlt
          rw [Nat.succ_mul] at h3
          exact sz_lt (by omega)
        · refine ⟨?_, ?_, ?_⟩
          · intro b o hn hb
            have hbn : b ≠ Dl := fun z => by rw [z, hd] at hn; cases hn
            rw [upd_ne hbn]
            exact e7 _ _ (e6 _ _ (ex3 _ _ hn hb))
          · exact Ex.mut ((ex4.trans e6).trans e7) hD
          · rw [upd_same, take_succ_get hy2, List.filter_append, List.map_append, List.append_assoc]
            simp [hp]
      | false =>
        refine iteF ?_
        refine ⟨fun b o hn hb => e6 _ _ (ex3 _ _ hn hb), ex4.trans e6, ?_⟩
        rw [hd6, take_succ_get hy2, List.filter_append]
        simp [hp]
    · obtain rfl : k = (ys x).length := by omega
      refine .inl ⟨W1.stops H4 (WG1 _ ((e.trans e1).trans ex4) ex3), ex4, ?_⟩
      rw [hd4, take_succ_get hx, List.flatMap_append, List.take_length]
      simp
  · obtain rfl : i = xs.length := by omega
    refine .inl ⟨W.stops H' (WG _ ((e.trans e1).trans ex) fun b o _ hb => ex _ _ hb), q Dl H' (fresh_back e1 hD) (e1.trans ex) ?_⟩
    rw [hd, List.take_length]
end
end NW

/-! zip(*lists), walked with one name: the iterators one by one, whatever their number (at most four when it begins). -/
namespace NW
open PySem PySem.Spec PyProof.Rows L2
abbrev Ent := Addr × Addr × Array Value
def ZAt (Ls : List Ent) (i : Nat) (h : Heap) : Prop := ∀ x ∈ Ls, h.IsListIter x.1 x.2.1 i ∧ h.IsList x.2.1 x.2.2
structure SepN (z TI TO : Addr) (Ls : List Ent) : Prop where
  TIz : TI ≠ z
  TOz : TO ≠ z
  TITO : TI ≠ TO
  nd : (Ls.map (·.1)).Nodup
  a1 : ∀ x ∈ Ls, x.1 ≠ z ∧ x.1 ≠ TI ∧ x.1 ≠ TO ∧ x.2.1 ≠ z ∧ x.2.1 ≠ TO
  a2 : ∀ x ∈ Ls, ∀ y ∈ Ls, x.1 ≠ y.2.1
def refsN (Ls : List Ent) : Array Value := (Ls.map fun x => Value.ref x.1).toArray
abbrev IsTupN (h : Heap) (T : Addr) (vs : Array Value) : Prop := h.get? T = some { cls := .type "tuple", data := .seq vs }
/-- a zip, whatever tuple it made last -/
abbrev IsZipG (h : Heap) (z TI TO : Addr) (f0 f1 : Value) : Prop := h.get? z = some { cls := .type "zip", data := .fields #[f0, f1, .bool false, .ref TI, .ref TO] }
/-- the first k iterators were asked, the others were not -/
structure ZMid (Ls : List Ent) (i k : Nat) (z TO : Addr) (h0 h : Heap) : Prop where
  at_ : ∀ j x, Ls[j]? = some x → h.IsListIter x.1 x.2.1 (if j < k then i + 1 else i) ∧ h.IsList x.2.1 x.2.2
  sz : h.objs.size = h0.objs.size
  kp : ∀ c o, c ≠ z → c ≠ TO → (∀ x ∈ Ls, c ≠ x.1) → h0.get? c = some o → h.get? c = some o
section
variable {prog : Program} {w : World} {A : Around} {E : Value → Shared → Prop} {z TI TO : Addr} {Ls : List Ent} {n i k : Nat}
theorem ent_ne (S : SepN z TI TO Ls) {j k : Nat} {x y : Ent} (hx : Ls[j]? = some x) (hy : Ls[k]? = some y) (h : j ≠ k) : x.1 ≠ y.1 := fun e => h (by
  have h1 : (Ls.map (·.1))[j]? = some x.1 := by rw [List.getElem?_map, hx]; rfl
  have h2 : (Ls.map (·.1))[k]? = some x.1 := by rw [List.getElem?_map, hy, e]; rfl
  exact (List.getElem?_inj (List.getElem?_eq_some_iff.mp h1).1 S.nd).mp (h1.trans h2.symm))
/-- the k-th iterator is asked -/
theorem ask_item {h0 hp : Heap} {g : Array GenState} {d : Drawn} {tk : Nat} {os : OsState} {x : Ent} {Q : Value → Shared → Prop} (hh : A.handled = none) (S : SepN z TI TO Ls) (hx : Ls[k]? = some x) (hi : i < x.2.2.size) (M : ZMid Ls i k z TO h0 hp)
    (q : ∀ v h' tk', x.2.2[i]? = some v → ZMid Ls i (k + 1) z TO h0 h' → (∀ c o, (∀ y ∈ Ls, c ≠ y.1) → hp.get? c = some o → h'.get? c = some o) → Q v ⟨h', g, d, tk', os⟩) :
    wpAny (model prog w) A (Builtin.SmallTypes.nextOf (.ref x.1)) Q E ⟨hp, g, d, tk, os⟩ := by
  have hm := List.mem_of_getElem? hx
  have st := M.at_ k x hx
  rw [if_neg (Nat.lt_irrefl k)] at st
  have D := Draws.list (prog := prog) (w := w) hh x.1 x.2.1 (fun e => S.a2 x hm x hm e.symm) x.2.2
  refine D.item i _ _ _ hi st fun v h' tk' hv st' sb => ?_
  have sb : Heap.SameBut x.1 hp h' := sb
  refine q v h' tk' hv ⟨fun j y hy => ?_, ?_, fun c o c1 c2 c3 e => ?_⟩ fun c o c3 e => sb.extBut _ _ (c3 x hm) e
  · by_cases e : j = k
    · subst e
      have exy : y = x := Option.some.inj (hy.symm.trans hx)
      subst exy
      rw [if_pos (Nat.lt_succ_self _)]
      exact st'
    · have hym := List.mem_of_getElem? hy
      have e2 : (if j < k + 1 then i + 1 else i) = (if j < k then i + 1 else i) := by
        by_cases h1 : j < k
        · rw [if_pos h1, if_pos (by omega)]
        · rw [if_neg h1, if_neg (by omega)]
      rw [e2]
      have m := M.at_ j y hy
      exact ⟨m.1.at fun o h => sb.extBut _ _ (ent_ne S hy hx e) h, m.2.at fun o h => sb.extBut _ _ (fun z => S.a2 x hm y hym z.symm) h⟩
  · rw [sb.1]; exact M.sz
  · exact sb.extBut _ _ (c3 x hm) (M.kp c o c1 c2 c3 e)
theorem alive_at {M : Model} {s : Shared} {a : Addr} {Q : Option Obj → Shared → Prop} (h : Q (s.heap.get? a) s) : wpAny M A (loadIfAlive a) Q E s := by
  intro Γ p _
  unfold loadIfAlive
  rw [Sem.wp_loadIfAlive]
  simpa using h
theorem ZMid.but (S : SepN z TI TO Ls) {h0 h h' : Heap} (M : ZMid Ls i k z TO h0 h) (sb : Heap.SameBut TO h h') : ZMid Ls i k z TO h0 h' :=
  ⟨fun j x hx => ⟨(M.at_ j x hx).1.at fun o e => sb.extBut _ _ (S.a1 x (List.mem_of_getElem? hx)).2.2.1 e, (M.at_ j x hx).2.at fun o e => sb.extBut _ _ (S.a1 x (List.mem_of_getElem? hx)).2.2.2.2 e⟩, sb.1.trans M.sz, fun c o c1 c2 c3 e => sb.extBut _ _ c2 (M.kp c o c1 c2 c3 e)⟩
theorem ZMid.butz (S : SepN z TI TO Ls) {h0 h h' : Heap} (M : ZMid Ls i k z TO h0 h) (sb : Heap.SameBut z h h') : ZMid Ls i k z TO h0 h' :=
  ⟨fun j x hx => ⟨(M.at_ j x hx).1.at fun o e => sb.extBut _ _ (S.a1 x (List.mem_of_getElem? hx)).1 e, (M.at_ j x hx).2.at fun o e => sb.extBut _ _ (S.a1 x (List.mem_of_getElem? hx)).2.2.2.1 e⟩, sb.1.trans M.sz, fun c o c1 c2 c3 e => sb.extBut _ _ c1 (M.kp c o c1 c2 c3 e)⟩
theorem ZMid.push {h0 h : Heap} {ob : Obj} (M : ZMid Ls i k z TO h0 h) : ∀ j x, Ls[j]? = some x → (h.push ob).IsListIter x.1 x.2.1 (if j < k then i + 1 else i) ∧ (h.push ob).IsList x.2.1 x.2.2 :=
  fun j x hx => ⟨(M.at_ j x hx).1.at fun o e => Heap.get?_push_of_some _ e, (M.at_ j x hx).2.at fun o e => Heap.get?_push_of_some _ e⟩
theorem refs_idx {x : Ent} (hx : Ls[k]? = some x) : (refsN Ls).toList.zipIdx.drop k = (Value.ref x.1, k) :: (refsN Ls).toList.zipIdx.drop (k + 1) := by
  have hk := (List.getElem?_eq_some_iff.mp hx).1
  have hl : k < (refsN Ls).toList.zipIdx.length := by simp [refsN, hk]
  rw [List.drop_eq_getElem_cons hl]
  congr 1
  have : (refsN Ls).toList[k]'(by simpa [refsN] using hk) = Value.ref x.1 := by
    have h2 : Ls[k] = x := (List.getElem?_eq_some_iff.mp hx).2
    simp [refsN, h2]
  simp [this]
theorem zipN_next {hp : Heap} {g : Array GenState} {d : Drawn} {tk0 : Nat} {os : OsState} {f0 : Value} {f1 : Bool} {Q : Value → Shared → Prop} (hh : A.handled = none) (S : SepN z TI TO Ls) (h0 : Ls ≠ []) (hs : ∀ x ∈ Ls, x.2.2.size = n) (hi : i < n) (hn : Ls.length ≤ 1000)
    (hf : f0 = .none ∨ ∃ a, f0 = rawInt a)
    (hz : IsZipG hp z TI TO f0 (.bool f1)) (hTI : IsTupN hp TI (refsN Ls)) (hTO : ∃ vs, IsTupN hp TO vs ∧ vs.size = Ls.length) (st : ZAt Ls i hp)
    (q : ∀ (vs : Array Value) h' tk' a f1', vs.size = Ls.length → (∀ (j : Nat) (x : Ent), Ls[j]? = some x → vs[j]? = x.2.2[i]?) → IsZipG h' z TI TO (rawInt a) (.bool f1') → (∃ vs', IsTupN h' TO vs' ∧ vs'.size = Ls.length) → ZAt Ls (i + 1) h' → IsTupN h' hp.objs.size vs → h'.objs.size = hp.objs.size + 1 →
      (∀ c o, c ≠ z → c ≠ TO → (∀ x ∈ Ls, c ≠ x.1) → hp.get? c = some o → h'.get? c = some o) → Q (.ref hp.objs.size) ⟨h', g, d, tk', os⟩) :
    wpAny (model prog w) A (Builtin.«zip.__next__» ⟨[.ref z], []⟩) (fun fin s' => ∃ v, fin = .done (.ret v) ∧ Q v s') E ⟨hp, g, d, tk0, os⟩ := by
  obtain ⟨vs0, hTO, hsz0⟩ := hTO
  have hMS : ∀ {h : Heap}, ZMid Ls i 0 z TO hp h → ZMid Ls i 0 z TO hp h := fun x => x
  show wpAny _ _ (field (.ref z) 2 >>= _) _ _ _
  refine wpAny_bind (wpAny_field hz rfl (x := .bool false) rfl ?_)
  show wpAny _ _ (field (.ref z) 3 >>= _) _ _ _
  refine wpAny_bind (wpAny_field hz rfl (x := .ref TI) rfl ?_)
  refine wpAny_bind (wpAny_seqItems hTI rfl ?_)
  dsimp only
  have hne : (refsN Ls).isEmpty = false := by
    cases Ls with
    | nil => exact absurd rfl h0
    | cons a r => rfl
  have hlen : (refsN Ls).toList.zipIdx.length = Ls.length := by simp [refsN]
  rw [hne]
  show wpAny _ _ (Builtin.SmallTypes.ownedTupleIsFree (.ref z) >>= _) _ _ _
  have M0 : ∀ (h : Heap), Heap.SameBut z hp h → ZMid Ls i 0 z TO hp h := fun h sb => ⟨fun j x hx => by
    have hm := List.mem_of_getElem? hx
    have s1 := st x hm
    have a1 := S.a1 x hm
    rw [if_neg (Nat.not_lt_zero _)]
    exact ⟨s1.1.at fun o e => sb.extBut _ _ a1.1 e, s1.2.at fun o e => sb.extBut _ _ a1.2.2.2.1 e⟩, sb.1, fun c o c1 _ _ e => sb.extBut _ _ c1 e⟩
  refine wpAny_bind ?_
  refine wpAny_mono (Q := fun r s' => ∃ f0' f1' h, s' = (⟨h, g, d, tk0, os⟩ : Shared) ∧ IsZipG h z TI TO f0' (.bool f1') ∧ Heap.SameBut z hp h ∧ (r = true ∨ ∃ c, f0' = rawInt c)) ?_ (fun a s' hs' => ?_) (fun _ _ x => x)
  · unfold Builtin.SmallTypes.ownedTupleIsFree
    refine wpAny_bind (wpAny_field hz rfl (x := f0) rfl ?_)
    rcases hf with rfl | ⟨a, rfl⟩
    · exact wpAny_pure ⟨_, _, hp, rfl, hz, Heap.SameBut.refl _ _, .inl rfl⟩
    · refine wpAny_bind (alive_at ?_)
      by_cases hal : (hp.get? a.toNat).isNone = true
      · dsimp only
        rw [if_pos hal]
        exact wpAny_pure ⟨_, _, hp, rfl, hz, Heap.SameBut.refl _ _, .inl rfl⟩
      · dsimp only
        rw [if_neg hal]
        refine wpAny_bind (wpAny_field hz rfl (x := .bool f1) rfl ?_)
        cases f1 with
        | true => exact wpAny_pure ⟨_, _, hp, rfl, hz, Heap.SameBut.refl _ _, .inr ⟨a, rfl⟩⟩
        | false =>
          refine wpAny_bind (wpAny_setField_rec hz (by simp) fun g0 hz0 hs0 => ?_)
          exact wpAny_pure ⟨rawInt a, true, g0, rfl, hz0, hs0, .inr ⟨a, rfl⟩⟩
  obtain ⟨f0', f1', h, rfl, hz1, sb1, hfb⟩ := hs'
  have M1 := M0 h sb1
  have hTI1 : IsTupN h TI (refsN Ls) := sb1.extBut _ _ S.TIz hTI
  have hTO1 : IsTupN h TO vs0 := sb1.extBut _ _ S.TOz hTO
  cases a with
  | true =>
    simp only [if_true]
    refine wpAny_bind (wpAny_rule ?_)
    refine wpAny_bind (wpAny_field hz1 rfl (x := .ref TO) rfl ?_)
    refine wpAny_bind (wpAny_setField_rec hz1 (by simp) fun g0 hz0 hs0 => ?_)
    replace hz0 : IsZipG g0 z TI TO .ellipsis (.bool f1') := hz0
    replace hs0 : Heap.SameBut z h g0 := hs0
    refine wpAny_bind (wpAny_mono (wpAny_forIn_list _ (fun rest b s' => b = (none, ()) ∧ ∃ k h' tk' vs, k ≤ Ls.length ∧ rest = (refsN Ls).toList.zipIdx.drop k ∧ s' = (⟨h', g, d, tk', os⟩ : Shared) ∧ ZMid Ls i k z TO hp h' ∧ IsZipG h' z TI TO .ellipsis (.bool f1') ∧ IsTupN h' TO vs ∧ vs.size = Ls.length ∧ (∀ (j : Nat) (x : Ent), j < k → Ls[j]? = some x → vs[j]? = x.2.2[i]?))
      (fun b s' => b = (none, ()) ∧ ∃ h' tk' vs, s' = (⟨h', g, d, tk', os⟩ : Shared) ∧ ZMid Ls i Ls.length z TO hp h' ∧ IsZipG h' z TI TO .ellipsis (.bool f1') ∧ IsTupN h' TO vs ∧ vs.size = Ls.length ∧ (∀ (j : Nat) (x : Ent), Ls[j]? = some x → vs[j]? = x.2.2[i]?)) (fun y rest b s' hI => ?_) (fun b s' hI => ?_) _ _ ?_) (fun b s' hb => ?_) fun _ _ x => x)
    · obtain ⟨rfl, k, h', tk', vs, hk, rfl', rfl, M, hz', hT', hv, hval⟩ := hI
      have hkl : k < Ls.length := by
        refine Nat.lt_of_not_le fun e => ?_
        rw [List.drop_of_length_le (by rw [hlen]; exact e)] at rfl'
        cases rfl'
      have hx : Ls[k]? = some Ls[k] := List.getElem?_eq_getElem hkl
      generalize Ls[k] = x at hx
      rw [refs_idx hx] at rfl'
      injection rfl' with e1 e2
      subst e1 e2
      have hm := List.mem_of_getElem? hx
      have a1 := S.a1 x hm
      refine wpAny_bind (wpAny_onRaise ?_)
      show wpAny _ _ (Builtin.SmallTypes.nextOf (.ref x.1) >>= _) _ _ ⟨h', g, d, tk', os⟩
      refine wpAny_bind (ask_item hh S hx (by rw [hs x hm]; exact hi) M fun v h2 tk2 hv2 M2 kp2 => wpAny_pure ?_)
      have hz2 := kp2 z _ (fun y hy e => (S.a1 y hy).1 e.symm) hz'
      have hT2 := kp2 TO _ (fun y hy e => (S.a1 y hy).2.2.1 e.symm) hT'
      refine wpAny_bind (wpAny_seqItems (s := ⟨h2, g, d, tk2, os⟩) hT2 rfl ?_)
      refine wpAny_bind (wpAny_updateSeq (s := ⟨h2, g, d, tk2, os⟩) hT2 rfl ?_ (by rw [hv]; exact Nat.le_trans hn (by decide)) (by rw [Array.size_setIfInBounds, hv]; exact Nat.le_trans hn (by decide)))
      refine wpAny_bind (wpAny_letGo (wpAny_pure ?_))
      have sbT : Heap.SameBut TO h2 (h2.update TO (Obj.mapSeq (·.setIfInBounds k v))) := Heap.SameBut.update ..
      have hgT : IsTupN (h2.update TO (Obj.mapSeq (·.setIfInBounds k v))) TO (vs.setIfInBounds k v) := by
        show Heap.get? _ _ = _
        rw [Heap.get?_update_self _ hT2 rfl]
        simp [Obj.mapSeq]
      refine ⟨rfl, k + 1, _, tk2, vs.setIfInBounds k v, hkl, rfl, rfl, M2.but S sbT, sbT.extBut _ _ S.TOz.symm hz2, hgT, by rw [Array.size_setIfInBounds, hv], fun j y hj hy => ?_⟩
      by_cases ej : j = k
      · subst ej
        have : y = x := Option.some.inj (hy.symm.trans hx)
        subst this
        rw [hv2, Array.getElem?_setIfInBounds_self_of_lt (by rw [hv]; exact hkl)]
      · rw [Array.getElem?_setIfInBounds_ne (fun e => ej e.symm)]
        exact hval j y (by omega) hy
    · obtain ⟨rfl, k, h', tk', vs, hk, rfl', rfl, M, hz', hT', hv, hval⟩ := hI
      have ek : k = Ls.length := by
        refine Nat.le_antisymm hk (Nat.le_of_not_lt fun e => ?_)
        have := congrArg List.length rfl'
        rw [List.length_drop, hlen] at this
        simp at this
        omega
      subst ek
      exact ⟨rfl, h', tk', vs, rfl, M, hz', hT', hv, fun j y hy => hval j y (List.getElem?_eq_some_iff.mp hy).1 hy⟩
    · exact ⟨rfl, 0, g0, tk0, vs0, Nat.zero_le _, rfl, rfl, M1.butz S hs0, hz0, hs0.extBut _ _ S.TOz hTO1, hsz0, fun j _ hj => absurd hj (Nat.not_lt_zero _)⟩
    · obtain ⟨rfl, h', tk', vs, rfl, M, hz', hT', hv, hval⟩ := hb
      dsimp only
      refine wpAny_bind (wpAny_seqItems (s := ⟨h', g, d, tk', os⟩) hT' rfl ?_)
      refine wpAny_bind (wpAny_newTuple ?_ (by rw [Array.length_toList, hv]; exact Nat.le_trans hn (by decide)))
      have hpu : h'.objs.size = hp.objs.size := M.sz
      have hzlt : z < h'.objs.size := Heap.lt_size hz'
      show wpAny _ _ (Builtin.SmallTypes.ownedTupleHandOut (.ref z) (.ref h'.objs.size) >>= _) _ _ ⟨h'.push { cls := .type "tuple", data := .seq vs.toList.toArray }, g, d, tk', os⟩
      refine wpAny_bind ?_
      unfold Builtin.SmallTypes.ownedTupleHandOut
      have z6 : IsZipG (h'.push { cls := .type "tuple", data := .seq vs.toList.toArray }) z TI TO .ellipsis (.bool f1') := Heap.get?_push_of_some _ hz'
      refine wpAny_bind (wpAny_setField_rec z6 (by simp) fun h7 z7 s7 => ?_)
      replace z7 : IsZipG h7 z TI TO (rawInt h'.objs.size) (.bool f1') := z7
      refine wpAny_setField_rec z7 (by simp) fun h8 z8 s8 => ?_
      replace z8 : IsZipG h8 z TI TO (rawInt h'.objs.size) (.bool false) := z8
      replace s7 : Heap.SameBut z (h'.push { cls := .type "tuple", data := .seq vs.toList.toArray }) h7 := s7
      replace s8 : Heap.SameBut z h7 h8 := s8
      have up : ∀ c o, c ≠ z → h'.get? c = some o → h8.get? c = some o := fun c o c1 e => s8.extBut _ _ c1 (s7.extBut _ _ c1 (Heap.get?_push_of_some _ e))
      refine wpAny_pure ⟨_, rfl, ?_⟩
      show Q (.ref h'.objs.size) ⟨h8, g, d, tk', os⟩
      rw [hpu]
      refine q vs h8 tk' _ false hv hval z8 ⟨vs, up _ _ S.TOz hT', hv⟩ (fun x hx => ?_) ?_ ?_ (fun c o c1 c2 c3 e => up c o c1 (M.kp c o c1 c2 c3 e))
      · obtain ⟨j, hj⟩ := List.mem_iff_getElem?.mp hx
        have m := M.at_ j x hj
        rw [if_pos (List.getElem?_eq_some_iff.mp hj).1] at m
        exact ⟨m.1.at fun o e => up _ _ (S.a1 x hx).1 e, m.2.at fun o e => up _ _ (S.a1 x hx).2.2.2.1 e⟩
      · rw [← hpu]
        have := s8.extBut _ _ (Nat.ne_of_gt hzlt) (s7.extBut _ _ (Nat.ne_of_gt hzlt) (Heap.get?_push_size _ rfl))
        rw [Array.toArray_toList] at this
        exact this
      · rw [s8.1, s7.1, Heap.size_push, hpu]
  | false =>
    rw [if_neg (by decide)]
    rw [← Array.forIn_toList]
    refine wpAny_bind (wpAny_mono (wpAny_forIn_list _ (fun rest b s' => b.1 = none ∧ ∃ k h' tk', k ≤ Ls.length ∧ rest = (refsN Ls).toList.drop k ∧ s' = (⟨h', g, d, tk', os⟩ : Shared) ∧ ZMid Ls i k z TO hp h' ∧ IsZipG h' z TI TO f0' (.bool f1') ∧ IsTupN h' TO vs0 ∧ b.2.size = k ∧ (∀ (j : Nat) (x : Ent), j < k → Ls[j]? = some x → b.2[j]? = x.2.2[i]?))
      (fun b s' => b.1 = none ∧ ∃ h' tk', s' = (⟨h', g, d, tk', os⟩ : Shared) ∧ ZMid Ls i Ls.length z TO hp h' ∧ IsZipG h' z TI TO f0' (.bool f1') ∧ IsTupN h' TO vs0 ∧ b.2.size = Ls.length ∧ (∀ (j : Nat) (x : Ent), Ls[j]? = some x → b.2[j]? = x.2.2[i]?)) (fun y rest b s' hI => ?_) (fun b s' hI => ?_) _ _ ?_) (fun b s' hb => ?_) fun _ _ x => x)
    · obtain ⟨b1, bs⟩ := b
      obtain ⟨rfl, k, h', tk', hk, rfl', rfl, M, hz', hT', hv, hval⟩ := hI
      dsimp only at hv hval
      have hlen2 : (refsN Ls).toList.length = Ls.length := by simp [refsN]
      have hkl : k < Ls.length := by
        refine Nat.lt_of_not_le fun e => ?_
        rw [List.drop_of_length_le (by rw [hlen2]; exact e)] at rfl'
        cases rfl'
      have hx : Ls[k]? = some Ls[k] := List.getElem?_eq_getElem hkl
      have hd : (refsN Ls).toList.drop k = Value.ref (Ls[k]).1 :: (refsN Ls).toList.drop (k + 1) := by
        rw [List.drop_eq_getElem_cons (by rw [hlen2]; exact hkl)]
        simp [refsN]
      generalize Ls[k] = x at hx hd
      rw [hd] at rfl'
      injection rfl' with e1 e2
      subst e1 e2
      have hm := List.mem_of_getElem? hx
      refine wpAny_bind (wpAny_holding ?_)
      show wpAny _ _ (Builtin.SmallTypes.nextOf (.ref x.1) >>= _) _ _ ⟨h', g, d, tk', os⟩
      refine wpAny_bind (ask_item hh S hx (by rw [hs x hm]; exact hi) M fun v h2 tk2 hv2 M2 kp2 => wpAny_pure ?_)
      have hz2 := kp2 z _ (fun y hy e => (S.a1 y hy).1 e.symm) hz'
      have hT2 := kp2 TO _ (fun y hy e => (S.a1 y hy).2.2.1 e.symm) hT'
      refine wpAny_pure ⟨rfl, k + 1, h2, tk2, hkl, rfl, rfl, M2, hz2, hT2, by show (bs.push v).size = k + 1; rw [Array.size_push, hv], fun j y hj hy => ?_⟩
      show (bs.push v)[j]? = _
      by_cases ej : j = k
      · subst ej
        have : y = x := Option.some.inj (hy.symm.trans hx)
        subst this
        rw [hv2, Array.getElem?_push, if_pos hv.symm]
      · rw [Array.getElem?_push, if_neg (by rw [hv]; exact ej)]
        exact hval j y (by omega) hy
    · obtain ⟨hb1, k, h', tk', hk, rfl', rfl, M, hz', hT', hv, hval⟩ := hI
      have hlen2 : (refsN Ls).toList.length = Ls.length := by simp [refsN]
      have ek : k = Ls.length := by
        refine Nat.le_antisymm hk (Nat.le_of_not_lt fun e => ?_)
        have := congrArg List.length rfl'
        rw [List.length_drop, hlen2] at this
        simp at this
        omega
      subst ek
      exact ⟨hb1, h', tk', rfl, M, hz', hT', hv, fun j y hy => hval j y (List.getElem?_eq_some_iff.mp hy).1 hy⟩
    · exact ⟨rfl, 0, h, tk0, Nat.zero_le _, rfl, rfl, M1, hz1, hTO1, rfl, fun j _ hj => absurd hj (Nat.not_lt_zero _)⟩
    · obtain ⟨b1, bs⟩ := b
      obtain ⟨rfl, h', tk', rfl, M, hz', hT', hv, hval⟩ := hb
      dsimp only at hv hval ⊢
      refine wpAny_bind (wpAny_newTuple ?_ (by rw [Array.length_toList, hv]; exact Nat.le_trans hn (by decide)))
      have hpu : h'.objs.size = hp.objs.size := M.sz
      have hzlt : z < h'.objs.size := Heap.lt_size hz'
      obtain ⟨c0, rfl⟩ : ∃ c, f0' = rawInt c := hfb.resolve_left (by decide)
      refine wpAny_pure ⟨_, rfl, ?_⟩
      show Q (.ref h'.objs.size) ⟨h'.push { cls := .type "tuple", data := .seq bs.toList.toArray }, g, d, tk', os⟩
      have up : ∀ c o, h'.get? c = some o → (h'.push { cls := .type "tuple", data := .seq bs.toList.toArray }).get? c = some o := fun c o e => Heap.get?_push_of_some _ e
      rw [Array.toArray_toList] at up ⊢
      rw [hpu]
      refine q bs _ tk' c0 f1' hv hval (up _ _ hz') ⟨vs0, up _ _ hT', hsz0⟩ (fun x hx => ?_) ?_ ?_ (fun c o c1 c2 c3 e => up c o (M.kp c o c1 c2 c3 e))
      · obtain ⟨j, hj⟩ := List.mem_iff_getElem?.mp hx
        have m := M.at_ j x hj
        rw [if_pos (List.getElem?_eq_some_iff.mp hj).1] at m
        exact ⟨m.1.at fun o e => up _ _ e, m.2.at fun o e => up _ _ e⟩
      · rw [← hpu]
        exact Heap.get?_push_size _ rfl
      · rw [Heap.size_push, hpu]
theorem zipN_end {hp : Heap} {g : Array GenState} {d : Drawn} {tk0 : Nat} {os : OsState} {f0 : Value} {f1 : Bool} {Q : Fin → Shared → Prop} (hh : A.handled = none) (S : SepN z TI TO Ls) (h0 : Ls ≠ []) (hs : ∀ (x : Ent), x ∈ Ls → x.2.2.size = n)
    (hf : f0 = .none ∨ ∃ a, f0 = rawInt a)
    (hz : IsZipG hp z TI TO f0 (.bool f1)) (hTI : IsTupN hp TI (refsN Ls)) (st : ZAt Ls n hp)
    (hE : ∀ h' tk' e, (∀ c o, c ≠ z → c ≠ TO → (∀ (x : Ent), x ∈ Ls → c ≠ x.1) → hp.get? c = some o → h'.get? c = some o) → (∃ o, h'.get? e = some o ∧ o.cls = .type "StopIteration") → E (.ref e) ⟨h', g, d, tk', os⟩) :
    wpAny (model prog w) A (Builtin.«zip.__next__» ⟨[.ref z], []⟩) Q E ⟨hp, g, d, tk0, os⟩ := by
  show wpAny _ _ (field (.ref z) 2 >>= _) _ _ _
  refine wpAny_bind (wpAny_field hz rfl (x := .bool false) rfl ?_)
  show wpAny _ _ (field (.ref z) 3 >>= _) _ _ _
  refine wpAny_bind (wpAny_field hz rfl (x := .ref TI) rfl ?_)
  refine wpAny_bind (wpAny_seqItems hTI rfl ?_)
  dsimp only
  have hne : (refsN Ls).isEmpty = false := by
    cases Ls with
    | nil => exact absurd rfl h0
    | cons a r => rfl
  rw [hne]
  obtain ⟨x, r, rfl⟩ := List.exists_cons_of_ne_nil h0
  have hm : x ∈ x :: r := List.mem_cons_self
  have a1 := S.a1 x hm
  show wpAny _ _ (Builtin.SmallTypes.ownedTupleIsFree (.ref z) >>= _) _ _ _
  refine wpAny_bind ?_
  refine wpAny_mono (Q := fun r s' => ∃ f0' f1' h, s' = (⟨h, g, d, tk0, os⟩ : Shared) ∧ IsZipG h z TI TO f0' (.bool f1') ∧ Heap.SameBut z hp h) ?_ (fun a s' hs' => ?_) (fun _ _ x => x)
  · unfold Builtin.SmallTypes.ownedTupleIsFree
    refine wpAny_bind (wpAny_field hz rfl (x := f0) rfl ?_)
    rcases hf with rfl | ⟨a, rfl⟩
    · exact wpAny_pure ⟨_, _, hp, rfl, hz, Heap.SameBut.refl _ _⟩
    · refine wpAny_bind (alive_at ?_)
      by_cases hal : (hp.get? a.toNat).isNone = true
      · dsimp only
        rw [if_pos hal]
        exact wpAny_pure ⟨_, _, hp, rfl, hz, Heap.SameBut.refl _ _⟩
      · dsimp only
        rw [if_neg hal]
        refine wpAny_bind (wpAny_field hz rfl (x := .bool f1) rfl ?_)
        cases f1 with
        | true => exact wpAny_pure ⟨_, _, hp, rfl, hz, Heap.SameBut.refl _ _⟩
        | false =>
          refine wpAny_bind (wpAny_setField_rec hz (by simp) fun g0 hz0 hs0 => ?_)
          exact wpAny_pure ⟨rawInt a, true, g0, rfl, hz0, hs0⟩
  obtain ⟨f0', f1', h, rfl, hz1, sb1⟩ := hs'
  have D := Draws.list (prog := prog) (w := w) hh x.1 x.2.1 (fun e => S.a2 x hm x hm e.symm) x.2.2
  have st1 := st x hm
  rw [← hs x hm] at st1
  cases a with
  | true =>
    simp only [if_true]
    refine wpAny_bind (wpAny_rule ?_)
    refine wpAny_bind (wpAny_field hz1 rfl (x := .ref TO) rfl ?_)
    refine wpAny_bind (wpAny_setField_rec hz1 (by simp) fun g0 hz0 hs0 => ?_)
    replace hz0 : IsZipG g0 z TI TO .ellipsis (.bool f1') := hz0
    replace hs0 : Heap.SameBut z h g0 := hs0
    have ez : (refsN (x :: r)).toList.zipIdx = (Value.ref x.1, 0) :: (refsN r).toList.zipIdx 1 := by simp [refsN]
    rw [ez, List.forIn_cons]
    refine wpAny_bind (wpAny_bind (wpAny_bind (wpAny_onRaise ?_)))
    show wpAny _ _ (Builtin.SmallTypes.nextOf (.ref x.1) >>= _) _ _ ⟨g0, g, d, tk0, os⟩
    refine wpAny_bind (D.done ⟨g0, g, d, tk0, os⟩ _ _ ⟨st1.1.at fun o e => hs0.extBut _ _ a1.1 (sb1.extBut _ _ a1.1 e), st1.2.at fun o e => hs0.extBut _ _ a1.2.2.2.1 (sb1.extBut _ _ a1.2.2.2.1 e)⟩ fun q e hq he => ?_)
    replace hq : Heap.ExtBut x.1 g0 q := hq
    obtain ⟨oe, hoe, hce⟩ := he
    replace hoe : q.get? e = some oe := hoe
    have hzq : IsZipG q z TI TO .ellipsis (.bool f1') := hq _ _ (Ne.symm a1.1) hz0
    have hez : e ≠ z := fun y => by subst y; rw [hzq] at hoe; cases hoe; simp at hce
    refine wpAny_setField_rec (s := ⟨q, g, d, tk0, os⟩) hzq (by simp) fun q' _ hq' => ?_
    replace hq' : Heap.SameBut z q q' := hq'
    exact hE q' tk0 e (fun c o cz cT cx y => hq'.extBut _ _ cz (hq _ _ (cx x hm) (hs0.extBut _ _ cz (sb1.extBut _ _ cz y)))) ⟨oe, hq'.extBut _ _ hez hoe, hce⟩
  | false =>
    rw [if_neg (by decide)]
    rw [← Array.forIn_toList]
    have ez : (refsN (x :: r)).toList = Value.ref x.1 :: (refsN r).toList := by simp [refsN]
    rw [ez, List.forIn_cons]
    refine wpAny_bind (wpAny_bind (wpAny_bind (wpAny_holding ?_)))
    show wpAny _ _ (Builtin.SmallTypes.nextOf (.ref x.1) >>= _) _ _ ⟨h, g, d, tk0, os⟩
    refine wpAny_bind (D.done ⟨h, g, d, tk0, os⟩ _ _ ⟨st1.1.at fun o e => sb1.extBut _ _ a1.1 e, st1.2.at fun o e => sb1.extBut _ _ a1.2.2.2.1 e⟩ fun q e hq he => ?_)
    replace hq : Heap.ExtBut x.1 h q := hq
    exact hE q tk0 e (fun c o cz cT cx y => hq _ _ (cx x hm) (sb1.extBut _ _ cz y)) he
end
section
variable {prog : Program} {w : World} {A : Around} {E : Value → Shared → Prop} {z TI TO : Addr} {Ls : List Ent} {n i k : Nat}
theorem pyNext_zipN {s : Shared} {f0 : Value} {f1 : Bool} {Q : Option Value → Shared → Prop} (hh : A.handled = none) (S : SepN z TI TO Ls) (h0 : Ls ≠ []) (hs : ∀ (x : Ent), x ∈ Ls → x.2.2.size = n) (hi : i < n) (hn : Ls.length ≤ 1000)
    (hf : f0 = .none ∨ ∃ a, f0 = rawInt a)
    (hz : IsZipG s.heap z TI TO f0 (.bool f1)) (hTI : IsTupN s.heap TI (refsN Ls)) (hTO : ∃ vs, IsTupN s.heap TO vs ∧ vs.size = Ls.length) (st : ZAt Ls i s.heap)
    (q : ∀ (vs : Array Value) h' tk' a f1', vs.size = Ls.length → (∀ (j : Nat) (x : Ent), Ls[j]? = some x → vs[j]? = x.2.2[i]?) → IsZipG h' z TI TO (rawInt a) (.bool f1') → (∃ vs', IsTupN h' TO vs' ∧ vs'.size = Ls.length) → ZAt Ls (i + 1) h' → IsTupN h' s.heap.objs.size vs → h'.objs.size = s.heap.objs.size + 1 →
      (∀ c o, c ≠ z → c ≠ TO → (∀ (x : Ent), x ∈ Ls → c ≠ x.1) → s.heap.get? c = some o → h'.get? c = some o) → Q (some (.ref s.heap.objs.size)) { s with heap := h', toks := tk' }) :
    wpAny (model prog w) A (pyNext (.ref z)) Q E s := by
  have hT : s.TypeIs (.ref z) "zip" := ⟨_, hz, rfl⟩
  obtain ⟨hp, g, d, tk0, os⟩ := s
  unfold pyNext
  exact wpAny_bind (wpAny_attempt (wpAny_callSpecial?_slot (name := Str.ofString "__next__") hT F.slot_zip_next
    (wpAny_call_entry F.slot_zip_next hT F.entry_zip_next
      (zipN_next (by simpa using hh) S h0 hs hi hn hf hz hTI hTO st fun vs h' tk' a f1' b1 b2 b3 b4 b5 b6 b7 b8 => wpAny_pure (q vs h' tk' a f1' b1 b2 b3 b4 b5 b6 b7 b8)) (F.args_zip_next_1 _))))
theorem pyNext_zipN_end {s : Shared} {f0 : Value} {f1 : Bool} {Q : Option Value → Shared → Prop} (hh : A.handled = none) (S : SepN z TI TO Ls) (h0 : Ls ≠ []) (hs : ∀ (x : Ent), x ∈ Ls → x.2.2.size = n)
    (hf : f0 = .none ∨ ∃ a, f0 = rawInt a)
    (hz : IsZipG s.heap z TI TO f0 (.bool f1)) (hTI : IsTupN s.heap TI (refsN Ls)) (st : ZAt Ls n s.heap)
    (q : ∀ h' tk', (∀ c o, c ≠ z → c ≠ TO → (∀ (x : Ent), x ∈ Ls → c ≠ x.1) → s.heap.get? c = some o → h'.get? c = some o) → Q none { s with heap := h', toks := tk' }) :
    wpAny (model prog w) A (pyNext (.ref z)) Q E s := by
  have hT : s.TypeIs (.ref z) "zip" := ⟨_, hz, rfl⟩
  obtain ⟨hp, g, d, tk0, os⟩ := s
  unfold pyNext
  refine wpAny_bind (wpAny_attempt (wpAny_callSpecial?_slot (name := Str.ofString "__next__") hT F.slot_zip_next
    (wpAny_call_entry F.slot_zip_next hT F.entry_zip_next (zipN_end (by simpa using hh) S h0 hs hf hz hTI st fun h' tk e hk he => ?_) (F.args_zip_next_1 _))))
  obtain ⟨o, ho, hc⟩ := he
  refine wpAny_bind (wpAny_isInstance (T := "StopIteration") (b := true) ⟨o, ho, hc⟩ isSubtype_stop ?_)
  exact wpAny_pure (q _ _ hk)
/-! zip(*lists) begins -/
def itObj (l : Addr) : Obj := { cls := .type "list_iterator", data := .fields #[.ref l, .int 0 0] }
def pushIts (h : Heap) (ls : List (Addr × Array Value)) : Heap := ls.foldl (fun h l => h.push (itObj l.1)) h
theorem pushIts_size : ∀ (ls : List (Addr × Array Value)) (h : Heap), (pushIts h ls).objs.size = h.objs.size + ls.length
  | [], h => rfl
  | l :: r, h => by
    show (pushIts (h.push (itObj l.1)) r).objs.size = _
    rw [pushIts_size r, Heap.size_push, List.length_cons]
    omega
theorem pushIts_keep : ∀ (ls : List (Addr × Array Value)) (h : Heap) {c : Addr} {o : Obj}, h.get? c = some o → (pushIts h ls).get? c = some o
  | [], h, c, o, e => e
  | l :: r, h, c, o, e => pushIts_keep r _ (Heap.get?_push_of_some _ e)
theorem pushIts_at : ∀ (ls : List (Addr × Array Value)) (h : Heap) (j : Nat) (l : Addr × Array Value), ls[j]? = some l → (pushIts h ls).get? (h.objs.size + j) = some (itObj l.1)
  | [], h, j, l, e => by simp at e
  | a :: r, h, 0, l, e => by
    have : a = l := by simpa using e
    subst this
    exact pushIts_keep r _ (Heap.get?_push_size _ rfl)
  | a :: r, h, j + 1, l, e => by
    have := pushIts_at r (h.push (itObj a.1)) j l (by simpa using e)
    rw [Heap.size_push] at this
    show (pushIts (h.push (itObj a.1)) r).get? (h.objs.size + (j + 1)) = _
    rw [← this]
    congr 1
    show h.objs.size + (j + 1) = h.objs.size + 1 + j
    omega
def entsOf (b : Nat) (ls : List (Addr × Array Value)) : List Ent := ls.zipIdx.map fun x => (b + x.2, x.1.1, x.1.2)
theorem entsOf_get {b : Nat} {ls : List (Addr × Array Value)} {j : Nat} {x : Ent} : (entsOf b ls)[j]? = some x ↔ ∃ l, ls[j]? = some l ∧ x = (b + j, l.1, l.2) := by
  unfold entsOf
  rw [List.getElem?_map, List.getElem?_zipIdx]
  cases ls[j]? with
  | none => simp
  | some l => simp; exact eq_comm
theorem iterAll_lists {g : Array GenState} {d : Drawn} {tk : Nat} {os : OsState} (ls : List (Addr × Array Value)) {hp : Heap} {Q : List Value → Shared → Prop} (hl : ∀ l ∈ ls, hp.IsList l.1 l.2)
    (q : Q ((List.range ls.length).map fun j => .ref (hp.objs.size + j)) ⟨pushIts hp ls, g, d, tk, os⟩) : wpAny (model prog w) A (Builtin.SmallTypes.iterAll (ls.map fun l => .ref l.1)) Q E ⟨hp, g, d, tk, os⟩ := by
  unfold Builtin.SmallTypes.iterAll
  refine wpAny_bind (wpAny_mono (wpAny_forIn_list _ (fun rest b s' => ∃ k, k ≤ ls.length ∧ rest = (ls.map fun l => Value.ref l.1).drop k ∧ s' = (⟨pushIts hp (ls.take k), g, d, tk, os⟩ : Shared) ∧ b.toList = (List.range k).map fun j => .ref (hp.objs.size + j))
    (fun b s' => s' = (⟨pushIts hp ls, g, d, tk, os⟩ : Shared) ∧ b.toList = (List.range ls.length).map fun j => .ref (hp.objs.size + j)) (fun y rest b s' hI => ?_) (fun b s' hI => ?_) _ _ ?_) (fun b s' hb => ?_) fun _ _ x => x)
  · obtain ⟨k, hk, hr, rfl, hb⟩ := hI
    have hkl : k < ls.length := by
      refine Nat.lt_of_not_le fun e => ?_
      rw [List.drop_of_length_le (by rw [List.length_map]; exact e)] at hr
      cases hr
    have hx : ls[k]? = some ls[k] := List.getElem?_eq_getElem hkl
    have hd : (ls.map fun l => Value.ref l.1).drop k = Value.ref (ls[k]).1 :: (ls.map fun l => Value.ref l.1).drop (k + 1) := by
      rw [List.drop_eq_getElem_cons (by rw [List.length_map]; exact hkl)]
      simp
    generalize ls[k] = x at hx hd
    rw [hd] at hr
    injection hr with e1 e2
    subst e1 e2
    refine wpAny_bind (wpAny_holding (wpAny_pyIter_list ((hl x (List.mem_of_getElem? hx)).at fun o e => pushIts_keep _ _ e) (wpAny_pure ?_)))
    have et : pushIts hp (ls.take (k + 1)) = (pushIts hp (ls.take k)).push (itObj x.1) := by
      unfold pushIts
      rw [take_succ_get hx, List.foldl_append]
      rfl
    refine ⟨k + 1, hkl, rfl, ?_, ?_⟩
    · rw [et]; rfl
    · show (b.push _).toList = _
      rw [Array.toList_push, hb, List.range_succ, List.map_append]
      congr 1
      show [Value.ref (pushIts hp (ls.take k)).objs.size] = _
      rw [pushIts_size, List.length_take, Nat.min_eq_left (Nat.le_of_lt hkl)]
      rfl
  · obtain ⟨k, hk, hr, rfl, hb⟩ := hI
    have ek : k = ls.length := by
      refine Nat.le_antisymm hk (Nat.le_of_not_lt fun e => ?_)
      have := congrArg List.length hr
      rw [List.length_drop, List.length_map] at this
      simp at this
      omega
    subst ek
    rw [List.take_length]
    exact ⟨rfl, hb⟩
  · exact ⟨0, Nat.zero_le _, rfl, rfl, rfl⟩
  · obtain ⟨rfl, hb⟩ := hb
    exact wpAny_pure (hb ▸ q)
end
section
variable {prog : Program} {w : World} {A : Around} {E : Value → Shared → Prop}
abbrev gT (h : Heap) (ls : List (Addr × Array Value)) : Heap := (pushIts h ls).push { cls := .type "tuple", data := .seq ((List.range ls.length).map fun j => Value.ref (h.objs.size + j)).toArray }
abbrev gO (h : Heap) (ls : List (Addr × Array Value)) : Heap := (gT h ls).push { cls := .type "tuple", data := .seq (((List.range ls.length).map fun j => Value.ref (h.objs.size + j)).map fun _ => Value.none).toArray }
abbrev gZ (h : Heap) (ls : List (Addr × Array Value)) : Heap := (gO h ls).push { cls := .type "zip", data := .fields #[.none, .bool false, .bool false, .ref (pushIts h ls).objs.size, .ref (gT h ls).objs.size] }
theorem meets_zip_newN (ls : List (Addr × Array Value)) (hn : ls.length ≤ 1000) :
    Meets (Builtin.«zip.__new__» ⟨.type "zip" :: ls.map fun l => .ref l.1, []⟩) (fun _ R s => (∀ l ∈ ls, s.heap.IsList l.1 l.2) ∧
      R (.ok (.ret (.ref (gO s.heap ls).objs.size))) { s with heap := gZ s.heap ls }) :=
  .of_wp fun prog w A R s h => by
    obtain ⟨hp, g, d, tk, os⟩ := s; obtain ⟨h1, h⟩ := h
    have hsub := sub_zip
    have q1 : ∀ {A' : Around} {E : Value → Shared → Prop} {Q : List Value → Shared → Prop}, Q ((List.range ls.length).map fun j => .ref (hp.objs.size + j)) ⟨pushIts hp ls, g, d, tk, os⟩ → wpAny (model prog w) A' (Builtin.SmallTypes.iterAll (ls.map fun l => .ref l.1)) Q E ⟨hp, g, d, tk, os⟩ :=
      fun q => iterAll_lists ls h1 q
    have hz1 : ((List.range ls.length).map fun j => Value.ref (hp.objs.size + j)).length ≤ sizeLine := by rw [List.length_map, List.length_range]; exact Nat.le_trans hn (by decide)
    have hz2 : (((List.range ls.length).map fun j => Value.ref (hp.objs.size + j)).map fun _ => Value.none).length ≤ sizeLine := by rw [List.length_map]; exact hz1
    have q2 : ∀ {A' : Around} {E : Value → Shared → Prop} {Q : Value → Shared → Prop}, Q (.ref (pushIts hp ls).objs.size) ⟨gT hp ls, g, d, tk, os⟩ → wpAny (model prog w) A' (newTuple ((List.range ls.length).map fun j => Value.ref (hp.objs.size + j))) Q E ⟨pushIts hp ls, g, d, tk, os⟩ :=
      fun q => wpAny_newTuple q hz1
    have q3 : ∀ {A' : Around} {E : Value → Shared → Prop} {Q : Value → Shared → Prop}, Q (.ref (gT hp ls).objs.size) ⟨gO hp ls, g, d, tk, os⟩ → wpAny (model prog w) A' (newTuple (((List.range ls.length).map fun j => Value.ref (hp.objs.size + j)).map fun _ => Value.none)) Q E ⟨gT hp ls, g, d, tk, os⟩ :=
      fun q => wpAny_newTuple q hz2
    wp_walk using q1, q2, q3
    exact ⟨_, rfl, h⟩
theorem typeCall_zip (vs : List Value) : checkTypeCall "zip" ⟨vs, []⟩ = pure () := by kernel_rfl
theorem newCall_zip : ∀ (vs : List Value), vs ≠ [] → vs.length ≤ 4 → checkBuiltinCall "zip.__new__" ⟨.type "zip" :: vs, []⟩ = pure ()
  | [a], _, _ => by kernel_rfl
  | [a, b], _, _ => by kernel_rfl
  | [a, b, c], _, _ => by kernel_rfl
  | [a, b, c, d], _, _ => by kernel_rfl
  | [], h, _ => absurd rfl h
  | a :: b :: c :: d :: e :: r, _, h => absurd h (by simp)
theorem objInit_zip (obj : Value) (vs : List Value) : argsOk "object.__init__" ⟨obj :: vs, []⟩ := by unfold argsOk; kernel_rfl
/-- zip(*lists): at most four, as new cells -/
theorem zip_beginsN {s : Shared} {Q : Value → Shared → Prop} (ls : List (Addr × Array Value)) (h0 : ls ≠ []) (hn : ls.length ≤ 4) (hl : ∀ l ∈ ls, s.heap.IsList l.1 l.2)
    (h : ∀ h' b z TI TO, b = s.heap.objs.size → z = b + ls.length + 2 → TI = b + ls.length → TO = b + ls.length + 1 → IsZipG h' z TI TO .none (.bool false) → IsTupN h' TI (refsN (entsOf b ls)) → (∃ vs, IsTupN h' TO vs ∧ vs.size = (entsOf b ls).length) → ZAt (entsOf b ls) 0 h' → h'.objs.size = b + ls.length + 3 →
      (∀ c o, s.heap.get? c = some o → h'.get? c = some o) → Q (.ref z) { s with heap := h' }) :
    wpAny (model prog w) A (call (.type "zip") (ls.map fun l => .ref l.1)) Q E s := by
  refine callType_new F.called_zip (by decide) (typeCall_zip _) (newCall_zip _ (by simpa using h0) (by rw [List.length_map]; exact hn)) (fun obj => objInit_zip obj _) F.entry_zip_new
    (meets_zip_newN ls (by omega)) ⟨hl, ?_⟩
  have zI := pushIts_size ls s.heap
  have zT : (gT s.heap ls).objs.size = s.heap.objs.size + ls.length + 1 := by rw [Heap.size_push, zI]
  have zO : (gO s.heap ls).objs.size = s.heap.objs.size + ls.length + 2 := by rw [Heap.size_push, zT]
  have zZ : (gZ s.heap ls).objs.size = s.heap.objs.size + ls.length + 3 := by rw [Heap.size_push, zO]
  have gz : (gZ s.heap ls).get? (gO s.heap ls).objs.size = some { cls := .type "zip", data := .fields #[.none, .bool false, .bool false, .ref (pushIts s.heap ls).objs.size, .ref (gT s.heap ls).objs.size] } := Heap.get?_push_size _ rfl
  have go : (gZ s.heap ls).get? (gT s.heap ls).objs.size = some { cls := .type "tuple", data := .seq (((List.range ls.length).map fun j => Value.ref (s.heap.objs.size + j)).map fun _ => Value.none).toArray } := Heap.get?_push_of_some _ (Heap.get?_push_size _ rfl)
  have gt : (gZ s.heap ls).get? (pushIts s.heap ls).objs.size = some { cls := .type "tuple", data := .seq ((List.range ls.length).map fun j => Value.ref (s.heap.objs.size + j)).toArray } := Heap.get?_push_of_some _ (Heap.get?_push_of_some _ (Heap.get?_push_size _ rfl))
  have kp : ∀ c o, (pushIts s.heap ls).get? c = some o → (gZ s.heap ls).get? c = some o := fun c o e => Heap.get?_push_of_some _ (Heap.get?_push_of_some _ (Heap.get?_push_of_some _ e))
  rw [zO, zT, zI] at gz
  rw [zT] at go
  rw [zI] at gt
  have el : (entsOf s.heap.objs.size ls).length = ls.length := by unfold entsOf; rw [List.length_map, List.length_zipIdx]
  have er : refsN (entsOf s.heap.objs.size ls) = ((List.range ls.length).map fun j => Value.ref (s.heap.objs.size + j)).toArray := by
    unfold refsN
    congr 1
    refine List.ext_getElem? fun j => ?_
    rw [List.getElem?_map, List.getElem?_map]
    by_cases hj : j < ls.length
    · rw [(entsOf_get (b := s.heap.objs.size) (ls := ls) (j := j) (x := (s.heap.objs.size + j, ls[j].1, ls[j].2))).mpr ⟨ls[j], List.getElem?_eq_getElem hj, rfl⟩, List.getElem?_range hj]
      rfl
    · rw [List.getElem?_eq_none (by rw [el]; omega), List.getElem?_eq_none (by rw [List.length_range]; omega)]
      rfl
  show _ ∧ _
  rw [zO]
  refine ⟨⟨_, gz, rfl⟩, h _ _ _ _ _ rfl rfl rfl rfl gz (by rw [er]; exact gt) ⟨_, go, by rw [el]; simp⟩ (fun x hx => ?_) zZ fun c o e => kp _ _ (pushIts_keep ls _ e)⟩
  obtain ⟨j, hj⟩ := List.mem_iff_getElem?.mp hx
  obtain ⟨l, hl1, rfl⟩ := entsOf_get.mp hj
  exact ⟨⟨_, kp _ _ (pushIts_at ls s.heap j l hl1), rfl, rfl⟩, (hl l (List.mem_of_getElem? hl1)).at fun o e => kp _ _ (pushIts_keep ls _ e)⟩
theorem sep_of {b : Nat} {ls : List (Addr × Array Value)} (hl : ∀ l ∈ ls, @LT.lt Nat _ l.1 b) : SepN (b + ls.length + 2 : Nat) (b + ls.length : Nat) (b + ls.length + 1 : Nat) (entsOf b ls) := by
  refine ⟨?_, ?_, ?_, ?_, fun x hx => ?_, fun x hx y hy => ?_⟩
  · exact fun e => absurd (show @Eq Nat (b + ls.length) (b + ls.length + 2) from e) (by omega)
  · exact fun e => absurd (show @Eq Nat (b + ls.length + 1) (b + ls.length + 2) from e) (by omega)
  · exact fun e => absurd (show @Eq Nat (b + ls.length) (b + ls.length + 1) from e) (by omega)
  · have e : (entsOf b ls).map (·.1) = (List.range ls.length).map fun j => b + j := by
      refine List.ext_getElem? fun j => ?_
      rw [List.getElem?_map, List.getElem?_map]
      by_cases hj : j < ls.length
      · rw [(entsOf_get (b := b) (ls := ls) (j := j) (x := (b + j, ls[j].1, ls[j].2))).mpr ⟨ls[j], List.getElem?_eq_getElem hj, rfl⟩, List.getElem?_range hj]
        rfl
      · have el : (entsOf b ls).length = ls.length := by unfold entsOf; rw [List.length_map, List.length_zipIdx]
        rw [List.getElem?_eq_none (by rw [el]; omega), List.getElem?_eq_none (by rw [List.length_range]; omega)]
        rfl
    rw [e]
    unfold List.Nodup
    rw [List.pairwise_map]
    exact List.pairwise_lt_range.imp fun {x y} h e => absurd (show @Eq Nat (b + x) (b + y) from e) (by omega)
  · obtain ⟨j, hj⟩ := List.mem_iff_getElem?.mp hx
    obtain ⟨l, hl1, rfl⟩ := entsOf_get.mp hj
    have hjl := (List.getElem?_eq_some_iff.mp hl1).1
    have h1 := hl l (List.mem_of_getElem? hl1)
    refine ⟨?_, ?_, ?_, ?_, ?_⟩
    · exact fun e => absurd (show @Eq Nat (b + j) (b + ls.length + 2) from e) (by omega)
    · exact fun e => absurd (show @Eq Nat (b + j) (b + ls.length) from e) (by omega)
    · exact fun e => absurd (show @Eq Nat (b + j) (b + ls.length + 1) from e) (by omega)
    · exact fun e => absurd (show @Eq Nat ((l.1 : Nat)) (b + ls.length + 2) from e) (by omega)
    · exact fun e => absurd (show @Eq Nat ((l.1 : Nat)) (b + ls.length + 1) from e) (by omega)
  · obtain ⟨j, hj⟩ := List.mem_iff_getElem?.mp hx
    obtain ⟨l, hl1, rfl⟩ := entsOf_get.mp hj
    obtain ⟨i, hi⟩ := List.mem_iff_getElem?.mp hy
    obtain ⟨m, hm1, rfl⟩ := entsOf_get.mp hi
    have h1 := hl m (List.mem_of_getElem? hm1)
    exact fun e => absurd (show @Eq Nat (b + j) ((m.1 : Nat)) from e) (by omega)
end
/-! zip(*lists), walked with one name -/
/-- the lists at these addresses, all of one length -/
def LsAt (K : PySem.W.Frag) (H : Hp) (as : List Addr) (xss : List (List V)) (n : Nat) : Prop := as.length = xss.length ∧ ∀ (k : Nat) (a : Addr) (xs : List V), as[k]? = some a → xss[k]? = some xs → SqL K H a xs ∧ xs.length = n
def ItzN (K : PySem.W.Frag) (as : List Addr) (n : Nat) : It :=
  ⟨fun i H => i < n ∧ ∃ xss, LsAt K H as xss n,
   fun i H v H' => ∃ T row, v = .ref T ∧ H T = none ∧ H' = upd H T (.tup row) ∧ ∀ xss, LsAt K H as xss n → row = xss.map fun xs => xs.getD i .non,
   fun i H => i = n ∧ ∃ xss, LsAt K H as xss n⟩
theorem vals_of : ∀ {xs : List V} {us : List Value}, xs.length = us.length → (∀ (j : Nat) x u, xs[j]? = some x → us[j]? = some u → RelV x u) → Vals xs us
  | [], [], _, _ => .nil
  | [], u :: us, h, _ => by cases h
  | x :: xs, [], h, _ => by cases h
  | x :: xs, u :: us, h, r => .cons (r 0 x u rfl rfl) (vals_of (by simpa using h) fun j y w a b => r (j + 1) y w a b)
def refsA (its : List Addr) : Array Value := (its.map fun a => Value.ref a).toArray
def tnN (z TI TO : Addr) (its as : List Addr) (i : Nat) (h : Heap) : Prop :=
  (∃ f0 f1, (f0 = Value.none ∨ ∃ a, f0 = rawInt a) ∧ IsZipG h z TI TO f0 (.bool f1)) ∧ IsTupN h TI (refsA its) ∧ (∃ vs, IsTupN h TO vs ∧ vs.size = its.length) ∧ ∀ (k : Nat) it a, its[k]? = some it → as[k]? = some a → h.IsListIter it a i
/-- what lies apart -/
structure SepA (z TI TO : Addr) (its as : List Addr) : Prop where
  TIz : TI ≠ z
  TOz : TO ≠ z
  TITO : TI ≠ TO
  nd : its.Nodup
  a1 : ∀ x ∈ its, x ≠ z ∧ x ≠ TI ∧ x ≠ TO
  a2 : ∀ y ∈ as, y ≠ z ∧ y ≠ TO
  a3 : ∀ x ∈ its, ∀ y ∈ as, x ≠ y
  len : its.length = as.length
  ne : as ≠ []
  le : as.length ≤ 1000
theorem ents_ex {K : PySem.W.Frag} {X : Cx} {pins : List (Addr × Obj)} {σ : L2.St} {H : Hp} {s : Shared} (hK : X.K = K) (I : Inv X pins σ H s) : ∀ {as its : List Addr} {xss : List (List V)} {n : Nat}, its.length = as.length → LsAt K H as xss n →
    ∃ Ls : List Ent, Ls.map (·.1) = its ∧ Ls.map (fun x => x.2.1) = as ∧ (∀ x ∈ Ls, x.2.2.size = n ∧ s.heap.IsList x.2.1 x.2.2) ∧ ∀ (j : Nat) (x : Ent) (xs : List V), Ls[j]? = some x → xss[j]? = some xs → Vals xs x.2.2.toList
  | [], its, xss, n, h, l => by
    have : its = [] := List.eq_nil_of_length_eq_zero h
    subst this
    exact ⟨[], rfl, rfl, fun x hx => (List.not_mem_nil hx).elim, fun j x xs e => by simp at e⟩
  | a :: as, it :: its, [], n, h, l => by have := l.1; simp at this
  | a :: as, [], xss, n, h, l => by simp at h
  | a :: as, it :: its, xs :: xss, n, h, l => by
    obtain ⟨Ls, h1, h2, h3, h4⟩ := ents_ex hK I (as := as) (its := its) (xss := xss) (n := n) (by simpa using h) ⟨by have := l.1; simpa using this, fun k b ys e1 e2 => l.2 (k + 1) b ys e1 e2⟩
    obtain ⟨hq, hl⟩ := l.2 0 a xs rfl rfl
    subst hK
    obtain ⟨us, r, pl, hz⟩ := I.list hq
    refine ⟨(it, a, us.toArray) :: Ls, by simp [h1], by simp [h2], fun x hx => ?_, fun j x ys e1 e2 => ?_⟩
    · rcases List.mem_cons.mp hx with rfl | hx
      · exact ⟨by show us.toArray.size = n; rw [List.size_toArray, ← r.length, hl], pl.isList⟩
      · exact h3 x hx
    · cases j with
      | zero =>
        have e1 : (it, a, us.toArray) = x := by simpa using e1
        have e2 : xs = ys := by simpa using e2
        subst e1 e2
        simpa using r
      | succ j => exact h4 j x ys (by simpa using e1) (by simpa using e2)
theorem sepN_of {z TI TO : Addr} {Ls : List Ent} (S : SepA z TI TO (Ls.map (·.1)) (Ls.map fun x => x.2.1)) : SepN z TI TO Ls :=
  ⟨S.TIz, S.TOz, S.TITO, S.nd, fun x hx => by
    have a := S.a1 x.1 (List.mem_map.mpr ⟨x, hx, rfl⟩)
    have b := S.a2 x.2.1 (List.mem_map.mpr ⟨x, hx, rfl⟩)
    exact ⟨a.1, a.2.1, a.2.2, b.1, b.2⟩, fun x hx y hy => S.a3 _ (List.mem_map.mpr ⟨x, hx, rfl⟩) _ (List.mem_map.mpr ⟨y, hy, rfl⟩)⟩
theorem letGo_name {M : Model} {A : Around} {E : Value → Shared → Prop} {s : Shared} {x : Str} {p : Pos} {it u : Value} {Q : Unit → Shared → Prop} (h : Q () s) : wpAny M A (letOwnedTupleGo (.Name x p) it u) Q E s := wpAny_pure h
theorem turn_zipN {P : Program} {w : World} {K : PySem.W.Frag} {x : Str} {p : Pos} {z TI TO : Addr} {its as : List Addr} {n : Nat} (S : SepA z TI TO its as) :
    Turn P w K (.Name x p) (ItzN K as n) (z :: TI :: TO :: its) z (tnN z TI TO its as) where
  mem := by simp
  obj := fun i h st b hb => by
    obtain ⟨⟨f0, f1, _, hz⟩, hTI, ⟨vs, hTO, _⟩, hit⟩ := st
    rcases List.mem_cons.mp hb with q | hb
    · rw [q]; exact ⟨_, hz, fun v q => nomatch q⟩
    rcases List.mem_cons.mp hb with q | hb
    · rw [q]; exact ⟨_, hTI, fun v q => nomatch q⟩
    rcases List.mem_cons.mp hb with q | hb
    · rw [q]; exact ⟨_, hTO, fun v q => nomatch q⟩
    obtain ⟨k, hk⟩ := List.mem_iff_getElem?.mp hb
    have hkl := (List.getElem?_eq_some_iff.mp hk).1
    obtain ⟨o, e, c, d⟩ := hit k b _ hk (List.getElem?_eq_getElem (show k < as.length by rw [← S.len]; exact hkl))
    exact ⟨o, e, fun v q => by rw [d] at q; cases q⟩
  keep := fun i h h' st k => by
    obtain ⟨⟨f0, f1, hf, hz⟩, hTI, ⟨vs, hTO, hv⟩, hit⟩ := st
    exact ⟨⟨f0, f1, hf, k z (by simp) _ hz⟩, k TI (by simp) _ hTI, ⟨vs, k TO (by simp) _ hTO, hv⟩, fun j it a e1 e2 => (hit j it a e1 e2).at fun o e => k it (by simp [List.mem_of_getElem? e1]) o e⟩
  item := by
    intro X hP hw hK hc i pins s σ H E I hf st hg
    subst hP hw
    obtain ⟨⟨f0, f1, hf0, hz⟩, hTI, ⟨vs, hTO, hv⟩, hit⟩ := st
    obtain ⟨hi, xss, hl⟩ := hg
    obtain ⟨Ls, e1, e2, h3, h4⟩ := ents_ex hK I S.len hl
    have Sn : SepN z TI TO Ls := sepN_of (by rw [e1, e2]; exact S)
    have hlen : Ls.length = its.length := by rw [← e1, List.length_map]
    have hne : Ls ≠ [] := fun e => by
      rw [e] at e2
      exact S.ne e2.symm
    have er : refsN Ls = refsA its := by unfold refsN refsA; rw [← e1, List.map_map]; rfl
    have hxl : xss.length = Ls.length := by rw [hlen, S.len, hl.1]
    refine pyNext_zipN (f0 := f0) (f1 := f1) (n := n) (i := i) (I.ok.hd hc) Sn hne (fun y hy => (h3 y hy).1) hi (by rw [hlen, S.len]; exact S.le) hf0 hz (by rw [er]; exact hTI) ⟨vs, hTO, by rw [hv, hlen]⟩ (fun y hy => ⟨?_, (h3 y hy).2⟩) fun ws h' tk' a f1' q1 q2 q3 q4 q5 q6 q7 q8 => ⟨.ref s.heap.objs.size, rfl, letGo_name ?_⟩
    · obtain ⟨j, hj⟩ := List.mem_iff_getElem?.mp hy
      refine hit j y.1 y.2.1 (by rw [← e1, List.getElem?_map, hj]; rfl) (by rw [← e2, List.getElem?_map, hj]; rfl)
    · have hTn : H s.heap.objs.size = none := I.hok.fresh (Nat.le_refl _)
      have hrow : Vals (xss.map fun xs => xs.getD i .non) ws.toList := by
        refine vals_of (by rw [List.length_map, hxl]; simp [q1]) fun j v u hv' hu => ?_
        rw [List.getElem?_map] at hv'
        cases hxs : xss[j]? with
        | none => rw [hxs] at hv'; cases hv'
        | some xs =>
          rw [hxs] at hv'
          have hv' := Option.some.inj hv'
          have hjl : j < Ls.length := by rw [← hxl]; exact (List.getElem?_eq_some_iff.mp hxs).1
          have hx : Ls[j]? = some Ls[j] := List.getElem?_eq_getElem hjl
          have hval := h4 j _ xs hx hxs
          have q := q2 j _ hx
          rw [← Array.getElem?_toList, hu] at q
          have hxn : xs.length = n := by
            have := hval.length
            rw [this, Array.length_toList]
            exact (h3 _ (List.mem_of_getElem? hx)).1
          obtain ⟨u', hu', ru⟩ := hval.get (List.getElem?_eq_getElem (show i < xs.length by omega))
          rw [Array.getElem?_toList] at hu'
          rw [hu'] at q
          rw [← Option.some.inj q] at ru
          rw [← hv']
          simp only [List.getD, List.getElem?_eq_getElem (show i < xs.length by omega)]
          exact ru
      have new : ObjOk X.prog X.w (upd H s.heap.objs.size (.tup (xss.map fun xs => xs.getD i .non))) h' s.heap.objs.size (.tup (xss.map fun xs => xs.getD i .non)) :=
        ⟨by rw [List.length_map, hxl, hlen, S.len]; exact Nat.le_trans S.le (by decide), ws.toList, hrow, ⟨_, q6, rfl, 0, by simp⟩⟩
      have I1 : Inv X pins σ (upd H s.heap.objs.size (.tup (xss.map fun xs => xs.getD i .non))) { s with heap := h', toks := tk' } :=
        I.turnedNew (ch := z :: TI :: TO :: its) (fun b o hb e => q8 b o (fun e' => hb (by simp [e'])) (fun e' => hb (by simp [e'])) (fun y hy e' => hb (by
          have : y.1 ∈ its := by rw [← e1]; exact List.mem_map.mpr ⟨y, hy, rfl⟩
          rw [e']
          exact List.mem_cons_of_mem _ (List.mem_cons_of_mem _ (List.mem_cons_of_mem _ this)))) e) hf (Nat.le_refl _) new
      refine ⟨.ref s.heap.objs.size, _, I1, rfl, ⟨_, _, rfl, hTn, rfl, fun yss hy => ?_⟩, ⟨⟨_, f1', .inr ⟨a, rfl⟩, q3⟩, ?_, ?_, fun j it b h5 h6 => ?_⟩, fun b hb => ?_⟩
      · have : xss = yss := by
          refine List.ext_getElem? fun j => ?_
          by_cases hj : j < as.length
          · have ha := List.getElem?_eq_getElem hj
            have g1 : xss[j]? = some (xss[j]'(by rw [← hl.1]; exact hj)) := List.getElem?_eq_getElem _
            have g2 : yss[j]? = some (yss[j]'(by rw [← hy.1]; exact hj)) := List.getElem?_eq_getElem _
            have s1 := (hl.2 j _ _ ha g1).1
            have s2 := (hy.2 j _ _ ha g2).1
            rw [g1, g2]
            subst hK
            rw [I.list_inj s1 s2]
          · rw [List.getElem?_eq_none (by rw [← hl.1]; omega), List.getElem?_eq_none (by rw [← hy.1]; omega)]
        rw [this]
      · refine q8 TI _ S.TIz S.TITO (fun y hy e' => ?_) hTI
        have : y.1 ∈ its := by rw [← e1]; exact List.mem_map.mpr ⟨y, hy, rfl⟩
        exact (S.a1 _ this).2.1 e'.symm
      · obtain ⟨vs', a1, a2⟩ := q4
        exact ⟨vs', a1, by rw [a2, hlen]⟩
      · have hjl := (List.getElem?_eq_some_iff.mp h5).1
        have hx : Ls[j]? = some Ls[j] := List.getElem?_eq_getElem (by rw [hlen]; exact hjl)
        have m := (q5 _ (List.mem_of_getElem? hx)).1
        have e3 : (Ls[j]).1 = it := by
          have : (Ls.map (·.1))[j]? = some (Ls[j]).1 := by rw [List.getElem?_map, hx]; rfl
          rw [e1, h5] at this
          exact (Option.some.inj this).symm
        have e4 : (Ls[j]).2.1 = b := by
          have : (Ls.map fun x => x.2.1)[j]? = some (Ls[j]).2.1 := by rw [List.getElem?_map, hx]; rfl
          rw [e2, h6] at this
          exact (Option.some.inj this).symm
        rw [e3, e4] at m
        exact m
      · have hbn := (hf b hb).1
        have hne2 : b ≠ s.heap.objs.size := by
          obtain ⟨o, ho, _⟩ : ∃ o, s.heap.get? b = some o ∧ True := by
            rcases List.mem_cons.mp hb with q | hb
            · rw [q]; exact ⟨_, hz, trivial⟩
            rcases List.mem_cons.mp hb with q | hb
            · rw [q]; exact ⟨_, hTI, trivial⟩
            rcases List.mem_cons.mp hb with q | hb
            · rw [q]; exact ⟨_, hTO, trivial⟩
            obtain ⟨k, hk⟩ := List.mem_iff_getElem?.mp hb
            have hkl := (List.getElem?_eq_some_iff.mp hk).1
            obtain ⟨o, e, c, d⟩ := hit k b _ hk (List.getElem?_eq_getElem (show k < as.length by rw [← S.len]; exact hkl))
            exact ⟨o, e, trivial⟩
          exact Nat.ne_of_lt (Heap.lt_size ho)
        rw [upd_ne hne2]
        exact hbn
  done := by
    intro X hP hw hK hc i pins s σ H E I hf st hg
    subst hP hw
    obtain ⟨⟨f0, f1, hf0, hz⟩, hTI, ⟨vs, hTO, hv⟩, hit⟩ := st
    obtain ⟨rfl, xss, hl⟩ := hg
    obtain ⟨Ls, e1, e2, h3, h4⟩ := ents_ex hK I S.len hl
    have Sn : SepN z TI TO Ls := sepN_of (by rw [e1, e2]; exact S)
    have hne : Ls ≠ [] := fun e => by
      rw [e] at e2
      exact S.ne e2.symm
    have er : refsN Ls = refsA its := by unfold refsN refsA; rw [← e1, List.map_map]; rfl
    refine pyNext_zipN_end (f0 := f0) (f1 := f1) (I.ok.hd hc) Sn hne (fun y hy => (h3 y hy).1) hf0 hz (by rw [er]; exact hTI) (fun y hy => ⟨?_, (h3 y hy).2⟩) fun h' tk' q => ⟨rfl, ?_⟩
    · obtain ⟨j, hj⟩ := List.mem_iff_getElem?.mp hy
      refine hit j y.1 y.2.1 (by rw [← e1, List.getElem?_map, hj]; rfl) (by rw [← e2, List.getElem?_map, hj]; rfl)
    · exact I.turnedL (t' := tk') (ch := z :: TI :: TO :: its) (fun b o hb e => q b o (fun e' => hb (by simp [e'])) (fun e' => hb (by simp [e'])) (fun y hy e' => hb (by
          have : y.1 ∈ its := by rw [← e1]; exact List.mem_map.mpr ⟨y, hy, rfl⟩
          rw [e']
          exact List.mem_cons_of_mem _ (List.mem_cons_of_mem _ (List.mem_cons_of_mem _ this)))) e) hf
  self := fun A i s Q E st h => by
    obtain ⟨⟨f0, f1, _, hz⟩, _⟩ := st
    have hT : s.TypeIs (.ref z) "zip" := ⟨_, hz, rfl⟩
    exact wpAny_pyIter_slot hT F.slot_zip_iter (wpAny_call_entry F.slot_zip_iter hT F.entry_zip_iter (wpAny_pure ⟨_, rfl, "zip", _, hT, F.slot_zip_next.lookup, h⟩) (F.args_zip_iter_1 _))
section
variable {X : Cx}
/-- for x in zip(*e): e a list of one to four lists of one length -/
def iZipN (K : PySem.W.Frag) (te : TE) : TI := fun σ H R => te σ H fun v H1 => ∃ a as xss, ∃ n : Nat, v = .ref a ∧ SqL K H1 a (as.map V.ref) ∧ LsAt K H1 as xss n ∧ as ≠ [] ∧ as.length ≤ 4 ∧ R (ItzN K as n) H1
theorem keeper_zip {M : Model} {h : Heap} : ∃ k, (k = Keeper.frame ∨ k = Keeper.machine ∨ k = Keeper.boundFrame) ∧ PySem.W.Looks M h (keeperOf (.type "zip")) k :=
  ⟨_, by first | exact .inl rfl | exact .inr (.inl rfl) | exact .inr (.inr rfl), PySem.W.Looks.of_pure rfl⟩
theorem pi_zipN {K : PySem.W.Frag} {e : Expr} {te : TE} {x : Str} {p p2 pos tpos : Pos} (hK : X.K = K) (hg : Gl X "zip") (hm : X.mg "zip" = none) (he : PE X e te)
    (hs : starEach [.Starred e p2] X.env = [(true, eval e X.env)] := by rfl) :
    PI X (.Name x tpos) (.Call (.Name "zip" p) [.Starred e p2] [] pos) (iZipN K te) := by
  subst hK
  refine ⟨fun pins s σ H R I h => ?_⟩
  refine Call_ (ld_blt I hg hm PyProof.Rows.boot_zip ?_)
  rw [hs]
  refine PySem.W.ks_call (P := fun _ => True) rfl (fun _ _ => keeper_zip) (PySem.W.ks_lone (thn (he.run pins s σ H _ I h) fun v s1 ⟨y, H1, I1, ry, q1⟩ => ?_))
  obtain ⟨a, as, xss, n, rfl, hq, hl, hne, hle, q⟩ := q1
  obtain rfl : v = Value.ref a := ry
  refine StX.star_any I1 (.inr hq) fun us s2 I2 rv => ⟨trivial, ?_⟩
  have hus : ∀ {as : List Addr} {us : List Value}, Vals (as.map V.ref) us → us = as.map Value.ref := by
    intro as
    induction as with
    | nil => intro us r; cases r; rfl
    | cons b r ih =>
      intro us rv
      cases rv with
      | cons h1 h2 => rw [List.map_cons, ← ih h2]; congr 1
  rw [hus rv]
  obtain ⟨Ls, e1, e2, h3, _⟩ := ents_ex rfl I2 (its := as) rfl hl
  have hls : (Ls.map fun x => (x.2.1, x.2.2)).map (fun l : Addr × Array Value => Value.ref l.1) = as.map Value.ref := by
    rw [List.map_map, ← e2, List.map_map]
    rfl
  have hlen : (Ls.map fun x => (x.2.1, x.2.2)).length = as.length := by rw [List.length_map, ← e2, List.length_map]
  have hall : ∀ l ∈ Ls.map (fun x => (x.2.1, x.2.2)), s2.heap.IsList l.1 l.2 := fun l hl' => by
    obtain ⟨x, hx, rfl⟩ := List.mem_map.mp hl'
    exact (h3 x hx).2
  show wpAny _ _ (call (.type "zip") (as.map Value.ref)) _ _ s2
  rw [← hls]
  refine zip_beginsN _ (by intro e; rw [e] at hlen; exact hne (List.eq_nil_of_length_eq_zero hlen.symm)) (by rw [hlen]; exact hle) hall fun h' b z TI TO hb hz hTI hTO g1 g2 g3 g4 g5 kp => ?_
  have hmem : ∀ l ∈ Ls.map (fun x => (x.2.1, x.2.2)), @LT.lt Nat _ l.1 b := fun l hl' => by
    obtain ⟨o, ho, _⟩ := hall l hl'
    rw [hb]
    exact Heap.lt_size ho
  have Sn : SepN z TI TO (entsOf b (Ls.map fun x => (x.2.1, x.2.2))) := by
    rw [hz, hTI, hTO]
    exact sep_of hmem
  have hEs : ∀ y ∈ entsOf b (Ls.map fun x => (x.2.1, x.2.2)), @LE.le Nat _ b y.1 := fun y hy => by
    obtain ⟨j, hj⟩ := List.mem_iff_getElem?.mp hy
    obtain ⟨l, _, rfl⟩ := entsOf_get.mp hj
    exact Nat.le_add_right _ _
  have eits : (entsOf b (Ls.map fun x => (x.2.1, x.2.2))).length = as.length := by unfold entsOf; rw [List.length_map, List.length_zipIdx, hlen]
  have eas : (entsOf b (Ls.map fun x => (x.2.1, x.2.2))).map (fun x => x.2.1) = as := by
    rw [← e2]
    refine List.ext_getElem? fun j => ?_
    rw [List.getElem?_map, List.getElem?_map]
    cases hj : Ls[j]? with
    | none =>
      rw [List.getElem?_eq_none (by rw [eits, ← e2, List.length_map]; exact List.getElem?_eq_none_iff.mp hj)]
    | some x =>
      rw [(entsOf_get (b := b) (ls := Ls.map fun x => (x.2.1, x.2.2)) (j := j) (x := (b + j, x.2.1, x.2.2))).mpr ⟨(x.2.1, x.2.2), by rw [List.getElem?_map, hj]; rfl, rfl⟩]
      rfl
  generalize entsOf b (Ls.map fun x => (x.2.1, x.2.2)) = Es at g2 g3 g4 Sn eits eas hEs
  have I3 : Inv X pins σ H1 { s2 with heap := h' } := I2.kept (t' := s2.toks) kp
  have SA : SepA z TI TO (Es.map (·.1)) as := ⟨Sn.TIz, Sn.TOz, Sn.TITO, Sn.nd, fun y hy => by
      obtain ⟨x, hx, rfl⟩ := List.mem_map.mp hy
      exact ⟨(Sn.a1 x hx).1, (Sn.a1 x hx).2.1, (Sn.a1 x hx).2.2.1⟩, fun y hy => by
      rw [← eas] at hy
      obtain ⟨x, hx, rfl⟩ := List.mem_map.mp hy
      exact ⟨(Sn.a1 x hx).2.2.2.1, (Sn.a1 x hx).2.2.2.2⟩, fun u hu v hv => by
      rw [← eas] at hv
      obtain ⟨x, hx, rfl⟩ := List.mem_map.mp hu
      obtain ⟨y, hy, rfl⟩ := List.mem_map.mp hv
      exact Sn.a2 x hx y hy, by rw [List.length_map, eits], hne, by omega⟩
  have st : tnN z TI TO (Es.map (·.1)) as 0 h' := ⟨⟨_, _, .inl rfl, g1⟩, by
      have : refsA (Es.map (·.1)) = refsN Es := by unfold refsA refsN; rw [List.map_map]; rfl
      rw [this]; exact g2, by
      obtain ⟨vs, a1, a2⟩ := g3
      exact ⟨vs, a1, by rw [a2, List.length_map]⟩, fun k it c h1 h2 => by
      rw [← eas] at h2
      rw [List.getElem?_map] at h1 h2
      cases hk : Es[k]? with
      | none => rw [hk] at h1; cases h1
      | some x =>
        rw [hk] at h1 h2
        have h1 := Option.some.inj h1
        have h2 := Option.some.inj h2
        subst h1 h2
        exact (g4 x (List.mem_of_getElem? hk)).1⟩
  have T := turn_zipN (P := X.prog) (w := X.w) (K := X.K) (x := x) (p := tpos) (n := n) SA
  have hself := T.self X.A 0 { s2 with heap := h' }
  refine hself _ _ st ⟨z, _, _, _, H1, rfl, I3, T, st, fun c hc => ?_, q⟩
  have hge : @LE.le Nat _ s2.heap.objs.size c := by
    rw [← hb]
    rcases List.mem_cons.mp hc with e | hc
    · rw [e, hz]; exact Nat.le_trans (Nat.le_add_right _ _) (Nat.le_add_right _ _)
    rcases List.mem_cons.mp hc with e | hc
    · rw [e, hTI]; exact Nat.le_add_right _ _
    rcases List.mem_cons.mp hc with e | hc
    · rw [e, hTO]; exact Nat.le_trans (Nat.le_add_right _ _) (Nat.le_add_right _ _)
    obtain ⟨y, hy, rfl⟩ := List.mem_map.mp hc
    exact hEs y hy
  exact I2.fpOk hge (I2.hok.fresh hge)
end
end NW

/-! Comprehensions over any walk, by the place of the item: values, new objects; items that are new tuples (zip, enumerate, zip(*lists)); a block within a block. -/
namespace NW
open PySem PySem.Spec PyProof.Rows L2 Evl
/-- each item a new tuple -/
def YTup (rows : List (List V)) : Nat → Hp → V → Hp → Prop := fun i H v H' => ∃ T row, rows[i]? = some row ∧ v = .ref T ∧ H T = none ∧ H' = upd H T (.tup row)
def WkT (wi : TI) (σ : L2.St) (H : Hp) (rows : List (List V)) : Prop := ∀ H1, Ex H H1 → ∀ R : It → Hp → Prop, (∀ J H2, Ex H1 H2 → (∃ G, Walk J rows.length G (YTup rows) ∧ ∀ H3, Ex H H3 → (∀ b o, H1 b = none → H2 b = some o → H3 b = some o) → G H3) → R J H2) → wi σ H1 R
section
variable {K : PySem.W.Frag} {σ : L2.St} {H H' : Hp} {ta : TA} {tb te tl tk tv : TE} {t t1 : TT} {wi wi1 : TI} {g : TG} {xs ys : List V} {rows : List (List V)}
theorem range_take {v : Nat → V} {n i : Nat} (h : i < n) : (List.range (i + 1)).map v = (List.range i).map v ++ [v i] := by
  rw [List.range_succ, List.map_append]
  rfl
/-- [te for j in ..], the value by the item's place -/
theorem el_lcX {j : Nat} {vs : List Nat} (h : WkX wi σ H xs) (v : Nat → V) (hz : xs.length ≤ 40000) (hw : ∀ x, wipe ((wipe σ vs).set j (some x)) vs = wipe σ vs)
    (he : ∀ i x, xs[i]? = some x → ∀ H1, Ex H H1 → Ev te ((wipe σ vs).set j (some x)) H1 (v i)) : EvL (tLc wi (gName j) tYes te vs) σ H ((List.range xs.length).map v) := fun H0 e Q q => h H0 e _ fun J H1 e1 ⟨G, W, WG⟩ Dl hD => by
  refine lc_it (G := G) W (fun i H' => Ex H1 H' ∧ H' Dl = some (.lst ((List.range i).map v))) ⟨Ex.new hD, by rw [upd_same]; rfl⟩ (fun _ _ _ pv => WG _ ((e.trans e1).trans pv.1) fun b o _ hb => pv.1 _ _ hb) (fun i x H' H'' hi pv hy => ?_) (fun H' pv => ?_)
  · obtain ⟨rfl, hx⟩ := hy
    refine ⟨hw _, rd_yes (iteT ?_)⟩
    refine he i x hx H1 (e.trans e1) _ pv.1 _ fun H4 e4 => ⟨_, e4 _ _ pv.2, ?_, Ex.mut (pv.1.trans e4) hD, ?_⟩
    · rw [List.length_map, List.length_range]
      exact sz_lt (by omega)
    · rw [upd_same, range_take hi]
  · exact q Dl H' (fresh_back e1 hD) (e1.trans pv.1) pv.2
/-- [te for j in ..], new objects, by the item's place -/
theorem rd_lcXR {j : Nat} {vs : List Nat} {Q : VK} (h : WkX wi σ H xs) (R : Addr → Hp → Nat → V → Prop) (hz : xs.length ≤ 40000) (hw : ∀ x, wipe ((wipe σ vs).set j (some x)) vs = wipe σ vs)
    (he : ∀ i x, xs[i]? = some x → ∀ H1 D acc, Ex H H1 → H1 D = some (.lst acc) → ∀ Q' : VK, (∀ v H2, Ex H1 H2 → R D H2 i v → Q' v H2) → te ((wipe σ vs).set j (some x)) H1 Q')
    (hx : ∀ D H1 H2 i v, Ex H1 H2 → R D H1 i v → R D H2 i v) (hm : ∀ D H1 o i v, R D H1 i v → R D (upd H1 D o) i v)
    (q : ∀ P H1 us, H P = none → Ex H H1 → H1 P = some (.lst us) → us.length = xs.length → (∀ (i : Nat) u, us[i]? = some u → R P H1 i u) → Q (.ref P) H1) : tLc wi (gName j) tYes te vs σ H Q :=
  h H (Ex.refl H) _ fun J H1 e1 ⟨G, W, WG⟩ Dl hD => by
  refine lc_it (G := G) W (fun i H' => Ex H1 H' ∧ ∃ acc, H' Dl = some (.lst acc) ∧ acc.length = i ∧ ∀ (k : Nat) u, acc[k]? = some u → R Dl H' k u) ⟨Ex.new hD, [], upd_same, rfl, fun k u e => by simp at e⟩ (fun _ _ _ pv => WG _ (e1.trans pv.1) fun b o _ hb => pv.1 _ _ hb) (fun i x H' H'' hi pv hy => ?_) (fun H' pv => ?_)
  · obtain ⟨rfl, hxi⟩ := hy
    obtain ⟨p1, acc, p2, p3, p4⟩ := pv
    refine ⟨hw _, rd_yes (iteT ?_)⟩
    refine he i x hxi _ Dl acc (e1.trans p1) p2 _ fun v H4 e4 r => ⟨acc, e4 _ _ p2, sz_lt (by omega), (Ex.mut (p1.trans e4) hD : Ex H1 _), acc ++ [v], upd_same, by rw [List.length_append, p3]; rfl, fun k u hk => ?_⟩
    by_cases hki : k < acc.length
    · rw [List.getElem?_append_left hki] at hk
      exact hm _ _ _ _ _ (hx _ _ _ _ _ e4 (p4 k u hk))
    · rw [List.getElem?_append_right (by omega)] at hk
      have hk0 : k - acc.length = 0 := by
        refine Nat.eq_zero_of_not_pos fun hp => ?_
        rw [List.getElem?_eq_none (by simp; omega)] at hk
        cases hk
      rw [hk0] at hk
      have hk := Option.some.inj hk
      subst hk
      have : k = i := by omega
      subst this
      exact hm _ _ _ _ _ r
  · obtain ⟨p1, acc, p2, p3, p4⟩ := pv
    exact q Dl H' acc (fresh_back e1 hD) (e1.trans p1) p2 p3 p4
/-- [te for j in ..], the items new tuples, new objects -/
theorem rd_lcTR {j : Nat} {vs : List Nat} {Q : VK} (h : WkT wi σ H rows) (R : Addr → Hp → Nat → V → Prop) (hz : rows.length ≤ 40000) (hw : ∀ x, wipe ((wipe σ vs).set j (some x)) vs = wipe σ vs)
    (he : ∀ i row, rows[i]? = some row → ∀ H1 D acc T, Ex H H1 → H1 D = some (.lst acc) → H1 T = some (.tup row) → ∀ Q' : VK, (∀ v H2, Ex H1 H2 → R D H2 i v → Q' v H2) → te ((wipe σ vs).set j (some (.ref T))) H1 Q')
    (hx : ∀ D H1 H2 i v, Ex H1 H2 → R D H1 i v → R D H2 i v) (hm : ∀ D H1 o i v, R D H1 i v → R D (upd H1 D o) i v)
    (q : ∀ P H1 us, H P = none → Ex H H1 → H1 P = some (.lst us) → us.length = rows.length → (∀ (i : Nat) u, us[i]? = some u → R P H1 i u) → Q (.ref P) H1) : tLc wi (gName j) tYes te vs σ H Q :=
  h H (Ex.refl H) _ fun J H1 e1 ⟨G, W, WG⟩ Dl hD => by
  refine lc_it (G := G) W (fun i H' => Ex H1 H' ∧ ∃ acc, H' Dl = some (.lst acc) ∧ acc.length = i ∧ ∀ (k : Nat) u, acc[k]? = some u → R Dl H' k u) ⟨Ex.new hD, [], upd_same, rfl, fun k u e => by simp at e⟩ (fun _ _ _ pv => WG _ (e1.trans pv.1) fun b o _ hb => pv.1 _ _ hb) (fun i x H' H'' hi pv hy => ?_) (fun H' pv => ?_)
  · obtain ⟨T, row, hri, rfl, hT, rfl⟩ := hy
    obtain ⟨p1, acc, p2, p3, p4⟩ := pv
    have eT : Ex H1 (upd H' T (.tup row)) := p1.trans (Ex.new hT)
    have nDT : Dl ≠ T := ne_of_none p2 hT
    refine ⟨hw _, rd_yes (iteT ?_)⟩
    refine he i row hri _ Dl acc T (e1.trans eT) (by rw [upd_ne nDT]; exact p2) upd_same _ fun v H4 e4 r => ⟨acc, e4 _ _ (by rw [upd_ne nDT]; exact p2), sz_lt (by omega), (Ex.mut (eT.trans e4) hD : Ex H1 _), acc ++ [v], upd_same, by rw [List.length_append, p3]; rfl, fun k u hk => ?_⟩
    by_cases hki : k < acc.length
    · rw [List.getElem?_append_left hki] at hk
      exact hm _ _ _ _ _ (hx _ _ _ _ _ e4 (hx _ _ _ _ _ (Ex.new hT) (p4 k u hk)))
    · rw [List.getElem?_append_right (by omega)] at hk
      have hk0 : k - acc.length = 0 := by
        refine Nat.eq_zero_of_not_pos fun hp => ?_
        rw [List.getElem?_eq_none (by simp; omega)] at hk
        cases hk
      rw [hk0] at hk
      have hk := Option.some.inj hk
      subst hk
      have : k = i := by omega
      subst this
      exact hm _ _ _ _ _ r
  · obtain ⟨p1, acc, p2, p3, p4⟩ := pv
    exact q Dl H' acc (fresh_back e1 hD) (e1.trans p1) p2 p3 p4
/-- [te for a, b in ..], the items new pairs, values by the place -/
theorem el_lcT2 {a b : Nat} {vs : List Nat} (h : WkT wi σ H rows) (v : Nat → V) (hz : rows.length ≤ 40000) (h2 : ∀ r ∈ rows, ∃ x y, r = [x, y])
    (hw : ∀ x y, wipe (((wipe σ vs).set a (some x)).set b (some y)) vs = wipe σ vs)
    (hg : ∀ x y T σ' H' (R : L2.St → Hp → Prop), H' T = some (.tup [x, y]) → R ((σ'.set a (some x)).set b (some y)) H' → g (.ref T) σ' H' R)
    (he : ∀ i x y, rows[i]? = some [x, y] → ∀ H1, Ex H H1 → Ev te (((wipe σ vs).set a (some x)).set b (some y)) H1 (v i)) : EvL (tLc wi g tYes te vs) σ H ((List.range rows.length).map v) := fun H0 e Q q => h H0 e _ fun J H1 e1 ⟨G, W, WG⟩ Dl hD => by
  refine lc_it (G := G) W (fun i H' => Ex H1 H' ∧ H' Dl = some (.lst ((List.range i).map v))) ⟨Ex.new hD, by rw [upd_same]; rfl⟩ (fun _ _ _ pv => WG _ ((e.trans e1).trans pv.1) fun b o _ hb => pv.1 _ _ hb) (fun i x H' H'' hi pv hy => ?_) (fun H' pv => ?_)
  · obtain ⟨T, row, hri, rfl, hT, rfl⟩ := hy
    obtain ⟨x, y, rfl⟩ := h2 row (List.mem_of_getElem? hri)
    have eT : Ex H1 (upd H' T (.tup [x, y])) := pv.1.trans (Ex.new hT)
    have nDT : Dl ≠ T := ne_of_none pv.2 hT
    refine hg _ _ T _ _ _ upd_same ⟨hw _ _, rd_yes (iteT ?_)⟩
    refine he i x y hri H1 (e.trans e1) _ eT _ fun H4 e4 => ⟨_, e4 _ _ (by rw [upd_ne nDT]; exact pv.2), ?_, Ex.mut (eT.trans e4) hD, ?_⟩
    · rw [List.length_map, List.length_range]
      exact sz_lt (by omega)
    · rw [upd_same, range_take hi]
  · exact q Dl H' (fresh_back e1 hD) (e1.trans pv.1) pv.2
/-- zip of two lists -/
theorem wkt_zip {a b : Addr} (h : EvA ta σ H [.ref a, .ref b]) (ha : SqL K H a xs) (hb : SqL K H b ys) : WkT (iZip K ta) σ H (List.zipWith (fun x y => [x, y]) xs ys) := fun H1 e1 R r => h H1 e1 _ fun H2 e2 => ⟨a, b, xs, ys, rfl, ex_l (e1.trans e2) ha, ex_l (e1.trans e2) hb, r _ H2 e2 ⟨fun H => SqL K H a xs ∧ SqL K H b ys, by
  have hl : (List.zipWith (fun x y => [x, y]) xs ys).length = min xs.length ys.length := List.length_zipWith
  refine (walk_zip hl).mono (fun _ h => h) fun i H x H' hi _ hy => ?_
  obtain ⟨T, x, y, h1, h2, h3, h4, h5⟩ := hy
  exact ⟨T, [x, y], by have h4 : xs[i]? = some x := h4; have h5 : ys[i]? = some y := h5; rw [List.getElem?_zipWith, h4, h5], h1, h2, h3⟩, fun H3 e3 _ => ⟨ex_l e3 ha, ex_l e3 hb⟩⟩⟩
theorem pi_zipK {X : Cx} {e e2 : Expr} {p pos tpos : Pos} {elts : List Expr} {kk : Nat} (h : X.K = K) (hg : Gl X "zip") (hm : X.mg "zip" = none) (ha : PA X [e, e2] ta)
    (hs : starEach [e, e2] X.env = (false, eval e X.env) :: starEach [e2] X.env := by rfl) (hpl : (backTo pos (starEach [e2] X.env)).any (·.1) = false := by rfl) :
    PI X (.Tuple elts kk tpos) (.Call (.Name "zip" p) [e, e2] [] pos) (iZip K ta) := h ▸ pi_zip hg hm ha hs hpl
/-- zip(*lists) -/
theorem wkt_zipN {a : Addr} {as : List Addr} {xss : List (List V)} {n : Nat} (h : Ev te σ H (.ref a)) (ha : SqL K H a (as.map V.ref)) (hl : LsAt K H as xss n) (hne : as ≠ []) (hle : as.length ≤ 4) :
    WkT (iZipN K te) σ H ((List.range n).map fun i => xss.map fun xs => xs.getD i .non) := fun H1 e1 R r => h H1 e1 _ fun H2 e2 => by
  have mono : ∀ {H3}, Ex H H3 → LsAt K H3 as xss n := fun {H3} e3 => ⟨hl.1, fun k b ys h1 h2 => ⟨ex_l e3 (hl.2 k b ys h1 h2).1, (hl.2 k b ys h1 h2).2⟩⟩
  refine ⟨a, as, xss, n, rfl, ex_l (e1.trans e2) ha, mono (e1.trans e2), hne, hle, r _ H2 e2 ⟨fun H => LsAt K H as xss n, ?_, fun H3 e3 _ => mono e3⟩⟩
  have hlen : ((List.range n).map fun i => xss.map fun xs => xs.getD i .non).length = n := by rw [List.length_map, List.length_range]
  rw [hlen]
  refine ⟨fun i H hi g => ⟨hi, xss, g⟩, fun H g => ⟨rfl, xss, g⟩, fun i H x H' hi g hy => ?_⟩
  obtain ⟨T, row, h1, h2, h3, h4⟩ := hy
  refine ⟨T, row, ?_, h1, h2, h3⟩
  rw [List.getElem?_map, List.getElem?_range hi, h4 xss g]
  rfl
/-- enumerate(list) -/
theorem wkt_enum {a : Addr} (h : EvA ta σ H [.ref a]) (ha : SqL K H a xs) : WkT (iEnum K ta) σ H (xs.mapIdx fun i x => [.int (i : Nat), x]) := fun H1 e1 R r => h H1 e1 _ fun H2 e2 => ⟨a, xs, rfl, ex_l (e1.trans e2) ha, r _ H2 e2 ⟨fun H => SqL K H a xs, by
  have hl : (xs.mapIdx fun i x => [V.int (i : Nat), x]).length = xs.length := List.length_mapIdx
  rw [hl]
  refine (walk_enum (K := K) (a := a) (xs := xs)).mono (fun _ h => h) fun i H x H' hi _ hy => ?_
  obtain ⟨T, x, y, h1, h2, h3, h4, h5⟩ := hy
  cases h4
  exact ⟨T, [.int (i : Nat), y], by have h5 : xs[i]? = some y := h5; rw [List.getElem?_mapIdx, h5]; rfl, h1, h2, h3⟩, fun H3 e3 _ => ex_l e3 ha⟩⟩
end
/-! a block within a block -/
theorem relabel_cf {env : Env} : ∀ {names : List (Str × NameKind)} {x : Str}, (names.lookup x = some .cell ∨ names.lookup x = some .free) →
    ((names.map fun (n, k) => if (k == NameKind.free && env.scope.kind == .function && env.kindOf n == some .cell) then (n, NameKind.cell) else (n, k)).lookup x = some .cell ∨ (names.map fun (n, k) => if (k == NameKind.free && env.scope.kind == .function && env.kindOf n == some .cell) then (n, NameKind.cell) else (n, k)).lookup x = some .free)
  | [], x, h => by rcases h with h | h <;> cases h
  | (n, k) :: r, x, h => by
    rw [List.map_cons]
    by_cases e : x = n
    · subst e
      have h1 : List.lookup x ((x, k) :: r) = some k := by rw [List.lookup_cons, beq_self_eq_true]
      rw [h1] at h
      by_cases c : (k == NameKind.free && env.scope.kind == .function && env.kindOf x == some .cell) = true
      · refine .inl ?_
        show List.lookup x ((if (k == NameKind.free && env.scope.kind == .function && env.kindOf x == some .cell) = true then (x, NameKind.cell) else (x, k)) :: _) = _
        rw [if_pos c, List.lookup_cons, beq_self_eq_true]
      · have h2 : List.lookup x ((if (k == NameKind.free && env.scope.kind == .function && env.kindOf x == some .cell) = true then (x, NameKind.cell) else (x, k)) :: r.map fun (n, k) => if (k == NameKind.free && env.scope.kind == .function && env.kindOf n == some .cell) then (n, NameKind.cell) else (n, k)) = some k := by
          rw [if_neg c, List.lookup_cons, beq_self_eq_true]
        rcases h with h | h
        · exact .inl (h2.trans h)
        · exact .inr (h2.trans h)
    · have hb : (x == n) = false := beq_eq_false_iff_ne.mpr e
      have h1 : List.lookup x ((n, k) :: r) = List.lookup x r := by rw [List.lookup_cons, hb]
      rw [h1] at h
      have ih := relabel_cf (env := env) h
      have h2 : ∀ q : Str × NameKind, q.1 = n → ∀ t : List (Str × NameKind), List.lookup x (q :: t) = List.lookup x t := fun q hq t => by
        obtain ⟨q1, q2⟩ := q
        have hq : q1 = n := hq
        subst hq
        rw [List.lookup_cons, hb]
      have hq : ∀ t : List (Str × NameKind), List.lookup x ((if (k == NameKind.free && env.scope.kind == .function && env.kindOf n == some .cell) = true then (n, NameKind.cell) else (n, k)) :: t) = List.lookup x t := fun t => h2 _ (by split <;> rfl) t
      have h3 := hq (r.map fun (n, k) => if (k == NameKind.free && env.scope.kind == .function && env.kindOf n == some .cell) then (n, NameKind.cell) else (n, k))
      rcases ih with ih | ih
      · exact .inl (h3.trans ih)
      · exact .inr (h3.trans ih)
theorem blkIn {X : Cx} {s0 : Shared} {H0 : Hp} {C0 : Addr} {cl0 : List (Str × Addr)} {fp0 : List Addr} {sc0 scope : Scope} {own : List (Str × Nat)} (h : BlkOk X.N sc0 scope own) :
    BlkOk (X.blk s0 H0 sc0 (compEnvC sc0 cl0 C0 X.env) fp0).N (X.blk s0 H0 sc0 (compEnvC sc0 cl0 C0 X.env) fp0).env.scope scope own :=
  ⟨h.kind, h.uniq, h.ix, fun y hy hf => relabel_cf (h.free y hy hf), h.own⟩
end NW

/-! str(whole number), its figures. -/
namespace NW
open PySem PySem.Spec PyProof.Rows L2 Evl PySem.NumText
def rStrI : List V → Hp → VK → Prop := fun xs H Q => ∃ i, xs = [.int i] ∧ i.natAbs.log2 < 1920 ∧ Q (.str (toString i)) H
theorem call_strI {X : Cx} : CallR X (.type "str") rStrI := call_str_int
def figsN (m : Nat) : List Nat := (Nat.toDigits 10 m).map Char.toNat
theorem str_figs (m : Nat) : (PySem.Str.ofString (toString ((m : Nat) : Int))) = tx (figsN m) := by
  rw [tx_of (PySem.Str.ofString (toString ((m : Nat) : Int)))]
  congr 1
  exact PySem.W.KIN.signs_num m
theorem figs_val (m : Nat) : digitsVal (figsN m) = m := PySem.W.KIN.val_back m
theorem figs_dig {m c : Nat} (h : c ∈ figsN m) : 48 ≤ c ∧ c ≤ 57 := by
  obtain ⟨ch, hch, e⟩ := List.mem_map.mp h
  have r := digit_range (Nat.isDigit_of_mem_toDigits (by decide) (by decide) hch)
  rw [← e]
  exact r
theorem str_i {m : Nat} {H : Hp} {Q : VK} (hz : m.log2 < 1920) (h : Q (.str (tx (figsN m))) H) : rStrI [.int (m : Nat)] H Q :=
  ⟨_, rfl, by rw [Int.natAbs_natCast]; exact hz, by
    show Q (.str (PySem.Str.ofString (toString ((m : Nat) : Int)))) H
    rw [str_figs]
    exact h⟩
end NW

/-! try with several except clauses, some of which name the exception; * of two wide whole numbers. -/
namespace NW
open PySem PySem.Spec PyProof.Rows L2
abbrev Cl := Value × Option Nat × (Addr → Value → Option Addr → TS)
def endsNo (D : Ends) (i : Nat) : Ends := { nx := fun σ' H' => D.nx (σ'.set i none) H', rt := D.rt, bk := fun σ' H' => D.bk (σ'.set i none) H', ct := fun σ' H' => D.ct (σ'.set i none) H' }
/-- what one clause wishes that is hit -/
def wHit (D : Ends) : Option Nat → (Addr → Value → Option Addr → TS) → WX
  | none, ts => fun cls d σ H => ∀ a, H a = none → ts a cls d D σ H
  | some i, ts => fun cls d σ H => ∀ a, H a = none → ts a cls d (endsNo D i) (σ.set i (some (.ref a))) H
def wMix (K : PySem.W.Frag) (Wout : WX) (D : Ends) : List Cl → WX
  | [] => Wout
  | (c, o, ts) :: r => fun cls d σ H => ∃ b, PySem.W.exmOne K cls c = some b ∧ (b = true → wHit D o ts cls d σ H) ∧ (b = false → wMix K Wout D r cls d σ H)
/-- the name that a clause gives, and its place -/
inductive NameOk (X : Cx) : Option Str → Option Nat → Prop
  | no : NameOk X none none
  | as {n : Str} {i : Nat} (hi : X.N[i]? = some n) (hl : X.env.kindOf n = some .local) : NameOk X (some n) (some i)
inductive HdsMix (X : Cx) : List ExceptHandler → List Cl → Prop
  | nil : HdsMix X [] []
  | cons {x : Str} {c : Value} {o : Option Str} {p : Option Nat} {ts : Addr → Value → Option Addr → TS} {b₀ : Stmt} {suite : List Stmt} {np pos' : Pos} {hds : List ExceptHandler} {l : List Cl} (hc : Names X x c) (ho : NameOk X o p)
      (hsu : ∀ (a : Addr) (oe : Obj) (cls : Value) (d : Option Addr) (pn : List (Addr × Obj)), Zc cls d oe → (∃ vs, oe.data = .fields vs) → PSs (X.suite a ((a, oe) :: pn)) (b₀ :: suite) (ts a cls d)) (r : HdsMix X hds l) :
      HdsMix X (.ExceptHandler (some (.Name x np)) o (b₀ :: suite) pos' :: hds) ((c, p, ts) :: l)
section
variable {X : Cx} {body : List Stmt} {h₀ : ExceptHandler} {hds : List ExceptHandler} {l : List Cl} {pos : Pos} {tb : WX → TS} {Wout : WX}
theorem sp_map {Y Z : Cx} {p1 p2 : List (Addr × Obj)} {D : Ends} {f : Flow} {s : Shared} (k : ∀ σ H, L2.Inv Y p1 σ H s → L2.Inv Z p2 σ H s) (h : SP Y p1 D f s) : SP Z p2 D f s := by
  cases f with
  | next => obtain ⟨σ, H, I, q⟩ := h; exact ⟨σ, H, k σ H I, q⟩
  | brk => obtain ⟨σ, H, I, q⟩ := h; exact ⟨σ, H, k σ H I, q⟩
  | cont => obtain ⟨σ, H, I, q⟩ := h; exact ⟨σ, H, k σ H I, q⟩
  | ret u => obtain ⟨v, σ, H, I, r, q⟩ := h; exact ⟨v, σ, H, k σ H I, r, q⟩
theorem ps_try_mix (hs : X.stack = X.env :: X.outer) (hf : X.env.frame = some X.env.locals) (hN : X.N.Nodup) (tk : Takes X Wout)
    (hb : ∀ (W : WX) (pn : List (Addr × Obj)) (xe : Value → Shared → Prop), Takes (X.tr pn xe) W → PassesOwn (model X.prog X.w) X.A X.env xe → PSs (X.tr pn xe) body (tb W))
    (hh : HdsMix X (h₀ :: hds) l) : PS X (.Try body (h₀ :: hds) [] [] pos) (fun D σ H => tb (wMix X.K Wout D l) D σ H) := by
  refine ⟨fun pins s σ H D I h => ?_⟩
  have ok := I.ok
  have hfr : X.A.frames = some (X.env :: X.outer) := by rw [ok.frames, hs]
  refine wpAny_Try_except ?_
  refine wpAny_mono ((hb (wMix X.K Wout D l) (X.pn ++ pins) (fun e s₁ => wpAny (model X.prog X.w) X.A (noteFrame e X.env) (fun _ s₂ => wpAny (model X.prog X.w) X.A (setFlight e none) (fun _ s₃ =>
    wpAny (model X.prog X.w) X.A (handleBy e X.env (h₀ :: hds)) (SP X pins D) X.xe s₃) X.xe s₂) X.xe s₁) (fun u s' xx => ?_) PassesOwn.looking).run [] s σ H D (I.toTry _) h) (fun f s1 hsp => ?_) (fun e s1 he => he)
  rotate_left
  · have hsp' : SP X pins D f s1 := sp_map (fun σ' H' J' => J'.ofTry ok) hsp
    cases f with
    | next => exact wpAny_execs_nil hsp'
    | brk => exact hsp'
    | cont => exact hsp'
    | ret u => exact hsp'
  obtain ⟨a, B, sI, pins', σ', H', cls, d, rfl, J', nb, up, sky, na, os, ag, w⟩ := xx
  have J : Inv X pins σ' H' sI := J'.ofTry ok
  have sky' : Sky B (X.env :: X.outer) a (Zc cls d) X.env.locals s'.heap := by rw [← hs]; exact sky
  show wpAny (model X.prog X.w) X.A (noteFrame (.ref a) X.env) _ _ _
  refine Sky.land Zc.steady hfr hf sky' fun h3 fl3 up3 => ?_
  have up13 := up.trans up3
  have J3 : Inv X pins σ' H' { s' with heap := h3 } := J.landed nb fl3.1 up13 os ag
  obtain ⟨oe3, vs3, he3, hz3, hd3⟩ := fl3.there
  have nfr : a ∉ frs (X.env :: X.outer) := fun hm => by
    obtain ⟨_, o', e', hnf⟩ := fl3.2.2.1.mem hm
    rw [he3] at e'; cases e'
    exact hnf _ hd3
  have nL : a ≠ X.env.locals := fun z => nfr (List.mem_filterMap.mpr ⟨X.env, List.mem_cons_self, by rw [hf, z]⟩)
  have nF : a ∉ X.fs := fun hm => by
    obtain ⟨e, he, q⟩ := List.mem_filterMap.mp hm
    exact nfr (List.mem_filterMap.mpr ⟨e, List.mem_cons_of_mem _ he, q⟩)
  have S3 := J3.suite he3 hd3 na nL nF
  have LT : PySem.W.Looks (model X.prog X.w) h3 (typeOf (.ref a)) cls := fun A Q E s k q => wpAny_typeOf_ref (k _ _ he3) (by rw [hz3.1]; exact q)
  suffices go : ∀ {hs' : List ExceptHandler} {l' : List Cl}, HdsMix X hs' l' → wMix X.K Wout D l' cls d σ' H' → wpAny (model X.prog X.w) X.A (handleBy (.ref a) X.env hs') (SP X pins D) X.xe { s' with heap := h3 } from go hh w
  intro hs' l' hk
  induction hk with
  | nil =>
    intro w
    refine wpAny_handleBy_nil ?_
    obtain ⟨k1, k2, k3, oe, vs, T, oT, ts', he, hz, hd, h1, hr⟩ := id fl3
    unfold PySem.passOn
    refine wpAny_bind (wpAny_field he hd h1 ?_)
    rw [if_neg (show ¬ ((Value.ref T == Value.none) = true) from by simp)]
    have fin : wpAny (model X.prog X.w) X.A (setFlight (.ref a) X.env.frame) (fun _ s4 => wpAny (model X.prog X.w) X.A (throw (.ref a) : Sem Flow) (SP X pins D) X.xe s4) X.xe { s' with heap := h3 } := by
      rw [hf]
      exact HandSPX.setFlight_upZ fl3 fun h4 hh4 up4 => wpAny_throw (tk _ _ ⟨a, B, sI, pins, σ', H', cls, d, rfl, J, nb, up13.trans up4, .inr (.inr (by rw [hs]; exact hh4)), na, os, ag, w⟩)
    first
      | exact wpAny_bind (wpAny_pure (wpAny_bind fin))
      | exact wpAny_bind fin
  | @cons x c o p ts b₀ suite np pos' hds2 l2 hc ho hsu r ih =>
    rintro ⟨b, hb1, hyes, hno⟩
    have LM := PySem.W.exm_one (M := model X.prog X.w) (J3.kIn) LT hb1
    refine wpAny_handleBy_cons (codeAny_handlers_test ?_) (by intro q; cases q)
    have test : ∀ {Q : Value → Shared → Prop} {E : Value → Shared → Prop}, Q c { s' with heap := h3 } → wpAny (model X.prog X.w) (X.A.mark (some (.ref a))) (eval (.Name x np) X.env) Q E { s' with heap := h3 } := fun {Q E} q => by
      obtain ⟨hg, hdbg, hm | ⟨hm, hv, hnn⟩⟩ := hc
      · exact ld_glob (X := X.suite a ((a, oe3) :: (X.pn ++ pins))) S3 hg hm q hdbg
      · exact ld_blt (X := X.suite a ((a, oe3) :: (X.pn ++ pins))) S3 hg hm hv q hnn hdbg
    refine test (LM.here ?_)
    cases b with
    | false => exact ih (hno rfl)
    | true =>
      cases ho with
      | no =>
        refine codeAny_handlers_suite (HandSPX.lands_againZ fl3 fun h4 fl4 up4 => ?_)
        have J4 : Inv X pins σ' H' { s' with heap := h4 } := J.landed nb fl4.1 (up13.trans up4) os ag
        obtain ⟨oe4, vs4, he4, hz4, hd4⟩ := fl4.there
        have S4 := J4.suite he4 hd4 na nL nF
        exact wpAny_mono ((hsu a oe4 cls d (X.pn ++ pins) hz4 ⟨_, hd4⟩).run [] _ _ H' _ S4 (hyes rfl a na)) (fun f s6 hsp => sp_map (fun σ6 H6 S6 => S6.unsuite ok) hsp) (fun _ _ z => False.elim z)
      | @as n i hi hln =>
        refine codeAny_handlers_suite_as (HandSPX.lands_againZ fl3 fun h4 fl4 up4 => ?_)
        have J4 : Inv X pins σ' H' { s' with heap := h4 } := J.landed nb fl4.1 (up13.trans up4) os ag
        obtain ⟨oe4, vs4, he4, hz4, hd4⟩ := fl4.there
        have S4 := J4.suite he4 hd4 na nL nF
        refine store_ok (X := X.suite a ((a, oe4) :: (X.pn ++ pins))) (v := .ref a) S4 hN hi (.inl hln) rfl (fun s5 S5 => ?_) (.inr hln)
        refine wpAny_mono ((hsu a oe4 cls d (X.pn ++ pins) hz4 ⟨_, hd4⟩).run [] s5 _ H' _ S5 (hyes rfl a na)) (fun f s6 hsp => ?_) (fun _ _ z => False.elim z)
        cases f with
        | next =>
          obtain ⟨σ6, H6, S6, q6⟩ := hsp
          exact gone_ok (S6.unsuite ok) hN hi hln fun s7 J7 => ⟨_, _, J7, q6⟩
        | brk =>
          obtain ⟨σ6, H6, S6, q6⟩ := hsp
          exact gone_ok (S6.unsuite ok) hN hi hln fun s7 J7 => ⟨_, _, J7, q6⟩
        | cont =>
          obtain ⟨σ6, H6, S6, q6⟩ := hsp
          exact gone_ok (S6.unsuite ok) hN hi hln fun s7 J7 => ⟨_, _, J7, q6⟩
        | ret u =>
          obtain ⟨v6, σ6, H6, S6, r6, q6⟩ := hsp
          exact gone_ok (S6.unsuite ok) hN hi hln fun s7 J7 => ⟨_, _, _, J7, r6, q6⟩
end
/-- the clause is hit, is not -/
theorem mx_hit {K : PySem.W.Frag} {Wo : WX} {D : Ends} {c x : Value} {d : Option Addr} {o : Option Nat} {ts : Addr → Value → Option Addr → TS} {r : List Cl} {σ : L2.St} {H : Hp} (h : PySem.W.exmOne K x c = some true) (k : wHit D o ts x d σ H) : WE (wMix K Wo D ((c, o, ts) :: r)) σ x d H :=
  ⟨true, h, fun _ => k, fun e => (by cases e)⟩
theorem mx_miss {K : PySem.W.Frag} {Wo : WX} {D : Ends} {c x : Value} {d : Option Addr} {o : Option Nat} {ts : Addr → Value → Option Addr → TS} {r : List Cl} {σ : L2.St} {H : Hp} (h : PySem.W.exmOne K x c = some false) (k : WE (wMix K Wo D r) σ x d H) : WE (wMix K Wo D ((c, o, ts) :: r)) σ x d H :=
  ⟨false, h, fun e => (by cases e), fun _ => k⟩
end NW

/-! x == y and x != y where x is an instance whose class has its own ==; y whatever. -/
namespace NW
open PySem PySem.Spec PyProof.Rows L2
section
variable {X : Cx}
/-- what is known of the class of a value, own exceptions (with a dict) too -/
def TyE (K : PySem.W.Frag) (H : Hp) (v : V) (t : Value) : Prop := TyX K H v t ∨ ∃ (a C d : Addr) (fs : List (Str × V)), v = .ref a ∧ t = .ref C ∧ ExcC K C ∧ H a = some (exo a C (some d)) ∧ H d = some (exd d fs)
theorem kit_ofE {pins : List (Addr × Obj)} {σ : L2.St} {H : Hp} {s : Shared} {x : V} {u t : Value} (I : Inv X pins σ H s) (rx : RelV x u) (ty : TyE X.K H x t) : ∃ P : Heap → Prop, PySem.W.KitX X.K u t P ∧ P s.heap ∧ u ≠ .builtin "__main__.__loader__#opaque" := by
  rcases ty with ty | ⟨a, C, d, fs, rfl, rfl, E, ha, hd⟩
  · exact kit_of I rx ty
  · cases (show u = Value.ref a from rx)
    obtain ⟨t1, he⟩ := exo_at I.hok ha
    obtain ⟨mA, hn, _⟩ := exd_at I.hok hd
    obtain ⟨od, hod⟩ : ∃ od, s.heap.get? d = some od := by
      obtain ⟨oD, esD, epD, hoD, hdD, hcD⟩ := hn
      exact ⟨_, hoD⟩
    have J : PySem.W.InstAt s.heap a _ C (some od) := ⟨he, rfl, rfl, hod⟩
    have hcl : (PySem.W.clsIn X.K C).isSome = true := by
      have h := E.hd
      unfold PySem.W.hasDictIn at h
      cases hc : PySem.W.clsIn X.K C with
      | none => rw [hc] at h; cases h
      | some cd => rfl
    exact ⟨_, PySem.W.kitx_exc hcl E.hg E.hk E.hs E.ha E.hn E.ht E.hm, J, fun z => nomatch z⟩
/-- isinstance(x, c) of such a value -/
def rIsiE (K : PySem.W.Frag) : List V → Hp → VK → Prop := fun xs H Q => ∃ (x c : V) (t u : Value) (b : Bool), xs = [x, c] ∧ ClsV c u ∧ TyE K H x t ∧ PySem.W.kitOne K t u = some b ∧ Q (.bl b) H
theorem call_isiE {K : PySem.W.Frag} (hK : X.K = K) : CallR X (.builtin "isinstance") (rIsiE K) := by
  subst hK
  intro pins s σ H xs us Q I r h
  obtain ⟨x, c, t, u, b, rfl, k, ty, e, q⟩ := h
  obtain ⟨u1, u2, rfl, r1, r2⟩ := vals2 r
  have e2 := k.eq r2
  subst e2
  obtain ⟨P, Z, p, hx⟩ := kit_ofE I r1 ty
  exact PySem.W.kia_one Z I.kIn p e hx fun tk => ⟨.bl b, H, I.tok tk, rfl, q⟩
end
section
variable {X : Cx} {CX : CXT} {n : Nat} {f C : Addr} {fd : FuncData} {ps : List Str} {sp : Sp} {E : XK}
/-- what the own == says -/
def rEqO (K : PySem.W.Frag) (C : Addr) (sp : Sp) (E : XK) : R2 := fun x y H Q => ∃ a dx fs t, x = .ref a ∧ H a = some (.ins C dx fs) ∧ TyE K H y t ∧ PySem.W.notFirst K C t = true ∧ sp [.ref a, y] H (fun v H' => ∃ b, v = .bl b ∧ Q (.bl b) H') E
def rNeO (K : PySem.W.Frag) (C : Addr) (sp : Sp) (E : XK) : R2 := fun x y H Q => ∃ a dx fs t, x = .ref a ∧ H a = some (.ins C dx fs) ∧ TyE K H y t ∧ PySem.W.notFirst K C t = true ∧ sp [.ref a, y] H (fun v H' => ∃ b, v = .bl b ∧ Q (.bl (!b)) H') E
theorem op_eqO (F : FnOk X.prog X.w X.K X.mg X.base CX n f fd ps sp) (hr : Room n X.A) (hs : PySem.W.findIn X.K (.ref C) "__eq__" = some (some (.ref f))) (hf : PySem.W.isFn X.K (.ref f) = true) (hb : Binds X.K fd ps []) (hx : Passes CX X E) :
    OpR X (compareOp .Eq) (rEqO X.K C sp E) := by
  intro pins s σ H x y v u Q I rx ry h
  obtain ⟨a, dx, fs, t, rfl, ha, ty, hn, hsp⟩ := h
  cases rx
  show wpAny (model X.prog X.w) X.A (richCompare .Eq (.ref a) u) (EP X pins σ Q) X.xe s
  obtain ⟨mA, J, _⟩ := ins_get I.hok ha
  obtain ⟨od, J, _⟩ := J.look
  obtain ⟨m, hF⟩ := I.fr
  obtain ⟨P, Z, hP, _⟩ := kit_ofE I ry ty
  refine PySem.W.cmp_K (op := .Eq) (tb := t) hr.units0 hF I.ok.mod.kin J (Z.ty _ _ I.kIn hP) hn hs hf ?_
  refine wpAny_mono (run_fn (vs := [V.ref a, y]) (us := [Value.ref a, u]) (Q := fun v H' => ∃ b, v = V.bl b ∧ Q (.bl b) H') F hr hb (dvs := []) .nil hx I (.cons rfl (.cons ry .nil)) (by rw [List.append_nil]; exact hsp)) (fun v s' hq => ?_) fun _ _ z => z
  obtain ⟨z, H', I', rz, b, rfl, q⟩ := hq
  cases rz
  exact ⟨.bl b, H', I', rfl, q⟩
theorem ne_args (a b : Value) : argsOk "object.__ne__" ⟨[a, b], []⟩ := by unfold argsOk; kernel_rfl
theorem ne_entry : entryFor table "object.__ne__" = some Builtin.«object.__ne__» := entryFor_of_tree (by kernel_rfl)
theorem ne_bind (self : Value) : bindSpecial (.builtin "object.__ne__") self = pure (.builtin "object.__ne__", [self]) :=
  (Slot.of (T := "object") (name := "__ne__") (owner := "object") (n := "__ne__") (by rw [typeLookup_type, builtinLookup_eq_fast]; kernel_rfl) (by decide +kernel) (by decide +kernel) (by decide +kernel)
    (.inl (by decide +kernel)) (by rw [isSubtype_type]; kernel_rfl)).bind self
theorem op_neO (F : FnOk X.prog X.w X.K X.mg X.base CX n f fd ps sp) (hr : Room (n + 1) X.A) (hs : PySem.W.findIn X.K (.ref C) "__eq__" = some (some (.ref f))) (hf : PySem.W.isFn X.K (.ref f) = true)
    (hne : PySem.W.findIn X.K (.ref C) "__ne__" = some (some (.builtin "object.__ne__"))) (ho : PySem.W.subIn X.K (.ref C) (.type "object") = some true) (hb : Binds X.K fd ps []) (hx : Passes CX X E) :
    OpR X (compareOp .NotEq) (rNeO X.K C sp E) := by
  intro pins s σ H x y v u Q I rx ry h
  obtain ⟨a, dx, fs, t, rfl, ha, ty, hn, hsp⟩ := h
  cases rx
  show wpAny (model X.prog X.w) X.A (richCompare .NotEq (.ref a) u) (EP X pins σ Q) X.xe s
  obtain ⟨mA, J, _⟩ := ins_get I.hok ha
  obtain ⟨od, J, _⟩ := J.look
  obtain ⟨m, hF⟩ := I.fr
  obtain ⟨P, Z, hP, _⟩ := kit_ofE I ry ty
  have hbt : PySem.W.Looks (model X.prog X.w) s.heap (typeOf u) t := Z.ty _ _ I.kIn hP
  have hu : X.A.units < cLine := hr.units0
  -- the own == in the builtin's room
  have run : ∀ {R : Value → Shared → Prop}, (∀ b s', EP X pins σ Q (.bool (!b)) s' → R (.bool b) s') → wpAny (model X.prog X.w) X.A.in1 (call (.ref f) [.ref a, u]) R X.xe s := fun {R} hR => by
    have e0 : Env0 X.prog X.w X.K X.mg X.base X.A.in1 X.stack s H := by
      have e := I.env0
      exact ⟨e.frames, e.mod, e.bs, e.bsz, e.funs, e.frf, e.hok, e.bare⟩
    have hl := F.len _ _ _ _ hsp
    have r2 : Vals [V.ref a, y] [Value.ref a, u] := .cons rfl (.cons ry .nil)
    refine wpAny_call (codeAny_mono (F.run X.A.in1 X.stack s H ⟨[.ref a, u], []⟩ [.ref a, u] [.ref a, y] _ E hr.in1 e0 (by
      have := hb s [.ref a, u] I.kIn (by simpa using hl)
      simpa using this) r2 hsp) fun r s' hq => ?_)
    cases r with
    | error e => exact hx pins σ H s e s' I hq
    | ok fl =>
      cases fl with
      | ret w =>
        obtain ⟨z, H', I', rz, b, rfl, q⟩ := I.after hq
        cases rz
        exact hR b s' ⟨.bl (!b), H', I', rfl, q⟩
      | next => exact False.elim hq
      | brk => exact False.elim hq
      | cont => exact False.elim hq
  have XK := I.kIn
  have one : wpAny (model X.prog X.w) X.A (tryCompare (.ref a) (cmpInfo .NotEq).2.1 u) (fun r s' => ∃ v, r = some v ∧ EP X pins σ Q v s') X.xe s := by
    unfold tryCompare
    refine wpAny_bind ?_
    simp only [callSpecialIfBound?, bindSpecialIfBound?]
    refine wpAny_holding (wpAny_bind (wpAny_bind (wpAny_bind (J.type.here ((PySem.W.looks_findIn XK hne).here ?_)))))
    refine wpAny_bind (wpAny_askSetting (wpAny_ite ?_))
    have fin : ∀ {R : Option Value → Shared → Prop}, (∀ b s', EP X pins σ Q (.bool (!b)) s' → R (some (.bool (!b))) s') → wpAny (model X.prog X.w) X.A (call (.builtin "object.__ne__") ([.ref a] ++ [u]) >>= fun v => pure (some v)) R X.xe s := fun {R} hR => by
      refine wpAny_bind (wpAny_call (codeAny_call_builtin (by decide +kernel) ne_entry (PySem.W.check_slot (owner := "object") (n := "__ne__") (by decide +kernel) (by decide +kernel) (J.type.andThen (PySem.W.looks_subIn XK ho)) (ne_args _ _) ?_)))
      unfold Builtin.«object.__ne__»
      repeat (first
        | with_reducible refine wpAny_cRoomFor hr.in1.units0 ?_
        | (refine wpAny_bind (m := callSpecialIfBound? (.ref a) (Str.ofString "__eq__") [u])
            (PySem.W.ifBound_K (A := X.A.in1) XK J hs hf (run fun b s' hq => by
              repeat (first | exact wpAny_pure (hR b s' hq) | exact hR b s' hq | exact wpAny_truthy_bool (hR b s' hq) | (refine wpAny_bind (m := truthy (.bool _)) (wpAny_truthy_bool ?_)) | wp_step))))
        | wp_step)
    have bd : PySem.W.Looks (model X.prog X.w) s.heap (bindSpecial (.builtin "object.__ne__") (.ref a)) (.builtin "object.__ne__", [.ref a]) := PySem.W.Looks.of_pure (ne_bind _)
    split
    · exact wpAny_bind (bd.here (wpAny_pure (by exact fin fun b s' q => wpAny_pure ⟨_, rfl, q⟩)))
    · exact wpAny_tryCatch (wpAny_bind (bd.here (wpAny_pure (by exact fin fun b s' q => wpAny_pure ⟨_, rfl, q⟩))))
  unfold richCompare
  simp only [oneThing_ref]
  refine wpAny_holding (wpAny_bind (wpAny_cRoomFor hu ?_))
  refine wpAny_bind (J.type.here (wpAny_bind (hbt.here ?_)))
  split
  · rename_i q
    have e : PySem.W.subIn X.K t (.ref C) = some false := by
      rcases Bool.or_eq_true_iff.mp hn with e | e
      · rw [beq_iff_eq.mp e] at q; simp at q
      · exact beq_iff_eq.mp e
    refine wpAny_bind ((PySem.W.looks_subIn XK e).here ?_)
    simp only [Bool.false_eq_true, if_false]
    refine wpAny_bind (wpAny_mono one (fun r s' z => ?_) fun _ _ e => e)
    obtain ⟨v, rfl, hq⟩ := z
    exact wpAny_pure hq
  · refine wpAny_bind (wpAny_pure ?_)
    simp only [Bool.false_eq_true, if_false]
    refine wpAny_bind (wpAny_mono one (fun r s' z => ?_) fun _ _ e => e)
    obtain ⟨v, rfl, hq⟩ := z
    exact wpAny_pure hq
end
/-! what is of a built-in type is no instance of an own class -/
theorem sub_bt {K : PySem.W.Frag} {n : String} {C : Addr} (h : (PySem.W.subIn K (.type n) (.ref C)) = some false) : PySem.W.notFirst K C (.type n) = true := by
  unfold PySem.W.notFirst
  rw [h]
  simp
theorem bt_list {K : PySem.W.Frag} {C : Addr} : PySem.W.subIn K (.type "list") (.ref C) = some false := rfl
theorem bt_tuple {K : PySem.W.Frag} {C : Addr} : PySem.W.subIn K (.type "tuple") (.ref C) = some false := rfl
theorem bt_str {K : PySem.W.Frag} {C : Addr} : PySem.W.subIn K (.type "str") (.ref C) = some false := rfl
theorem bt_int {K : PySem.W.Frag} {C : Addr} : PySem.W.subIn K (.type "int") (.ref C) = some false := rfl
theorem bt_bool {K : PySem.W.Frag} {C : Addr} : PySem.W.subIn K (.type "bool") (.ref C) = some false := rfl
theorem bt_none {K : PySem.W.Frag} {C : Addr} : PySem.W.subIn K (.type "NoneType") (.ref C) = some false := rfl
theorem bt_dict {K : PySem.W.Frag} {C : Addr} : PySem.W.subIn K (.type "dict") (.ref C) = some false := rfl
theorem kit_bt {K : PySem.W.Frag} {n : String} {c : Addr} {b : Bool} (h2 : PySem.W.isClsIn K c = true) (h3 : PySem.W.typeIn K (.ref c) = some (.type "type")) (h4 : PySem.W.subIn K (.type n) (.ref c) = some b) : PySem.W.kitOne K (.type n) (.ref c) = some b := by
  have e2 : ((PySem.W.clsIn K c).isSome && PySem.W.typeIn K (.ref c) == some (.type "type")) = true := by
    have h2' : (PySem.W.clsIn K c).isSome = true := h2
    rw [h2', h3] <;> rfl
  unfold PySem.W.kitOne
  rw [if_neg (by simp)]
  show (if ((PySem.W.clsIn K c).isSome && PySem.W.typeIn K (.ref c) == some (.type "type")) = true then PySem.W.subIn K (.type n) (.ref c) else none) = some b
  rw [if_pos e2]
  exact h4
end NW

/-! Comprehensions over any walk with any target, by the place of the item. -/
namespace NW
open PySem PySem.Spec PyProof.Rows L2 Evl
section
variable {σ : L2.St} {H : Hp} {te : TE} {wi : TI} {g : TG} {xs : List V}
theorem el_lcG {vs : List Nat} (h : WkX wi σ H xs) (v : Nat → V) (st : Nat → L2.St) (hz : xs.length ≤ 40000) (hw : ∀ i, wipe (st i) vs = wipe σ vs)
    (hg : ∀ i x, xs[i]? = some x → ∀ H1, Ex H H1 → ∀ R : L2.St → Hp → Prop, R (st i) H1 → g x (wipe σ vs) H1 R)
    (he : ∀ i x, xs[i]? = some x → ∀ H1, Ex H H1 → Ev te (st i) H1 (v i)) : EvL (tLc wi g tYes te vs) σ H ((List.range xs.length).map v) := fun H0 e Q q => h H0 e _ fun J H1 e1 ⟨G, W, WG⟩ Dl hD => by
  refine lc_it (G := G) W (fun i H' => Ex H1 H' ∧ H' Dl = some (.lst ((List.range i).map v))) ⟨Ex.new hD, by rw [upd_same]; rfl⟩ (fun _ _ _ pv => WG _ ((e.trans e1).trans pv.1) fun b o _ hb => pv.1 _ _ hb) (fun i x H' H'' hi pv hy => ?_) (fun H' pv => ?_)
  · obtain ⟨rfl, hx⟩ := hy
    refine hg i x hx _ ((e.trans e1).trans pv.1) _ ⟨hw i, rd_yes (iteT ?_)⟩
    refine he i x hx H1 (e.trans e1) _ pv.1 _ fun H4 e4 => ⟨_, e4 _ _ pv.2, ?_, Ex.mut (pv.1.trans e4) hD, ?_⟩
    · rw [List.length_map, List.length_range]
      exact sz_lt (by omega)
    · rw [upd_same, range_take hi]
  · exact q Dl H' (fresh_back e1 hD) (e1.trans pv.1) pv.2
end
end NW

/-! An own exception with its own __init__, made and kept as a value. -/
namespace NW
open PySem PySem.Spec PyProof.Rows L2
section
variable {X : Cx} {CX : CXT} {x : Str} {C fI : Addr} {k : Nat} {fd : FuncData} {ps : List Str} {sp : Sp} {e : Expr} {es : List Expr} {ta : TA} {p pos : Pos}
/-- C(e, ..), C's own __init__ keeping sp: the exception stays tracked -/
def tOexV (C : Addr) (sp : Sp) (ta : TA) : TE := fun σ H Q => ta σ H fun vs H1 => vs.length ≤ 1000 ∧ ∀ a, H1 a = none → sp (.ref a :: vs) (upd H1 a (exo a C none)) (fun v H2 => v = .non ∧ Q (.ref a) H2) fun _ _ _ => False
theorem pe_oexV (T : OexC X.K C) (iC : PySem.W.findIn X.K (.ref C) "__init__" = some (some (.ref fI))) (tI : PySem.W.typeIn X.K (.ref fI) = some (.type "function"))
    (F1 : FnOk X.prog X.w X.K X.mg X.base CX k fI fd ps sp) (hr : Room (k + 1) X.A) (hb : Binds X.K fd ps []) (hx : Passes CX X (fun _ _ _ => False)) (hg : Gl X x) (hm : X.mg x = some (.ref C)) (ha : PA X (e :: es) ta)
    (hdb : (x == ("__debug__" : Str)) = false := by decide) (he : starEach (e :: es) X.env = (false, eval e X.env) :: starEach es X.env := by rfl) (hpl : (backTo pos (starEach es X.env)).any (·.1) = false := by rfl) :
    PE X (.Call (.Name x p) (e :: es) [] pos) (tOexV C sp ta) := by
  refine ⟨fun pins s σ H Q I h => ?_⟩
  obtain ⟨nm, q, N, bs, bm, sn, sub, ab, col, dd, k0, k1, k2, k3, k5, hC, hbm⟩ := T.cls
  refine wpAny_Call_Name_kw (ld_glob I hg hm ?_ hdb)
  refine PySem.W.callWith_K (h₀ := X.base) I.ok.mod.kin T.kC (thn (ha.run pos pins s σ H _ I h) fun us s1 ⟨vs, H1, I1, r1, hz, q1⟩ => ⟨I1.kIn, ?_⟩) he hpl
  show wpAny _ _ (call (.ref C) us) _ _ _
  obtain ⟨hp, g, dr, tk, os⟩ := s1
  have hsz : hp.objs.size ≤ hp.objs.size + 1 := Nat.le_succ _
  have hn : H1 (hp.objs.size + 1) = none := I1.hok.fresh hsz
  have hq := q1 (hp.objs.size + 1) hn
  have hget : ((hp.push (PySem.W.kdv_tup us)).push (PySem.HandSPX.excO C hp.objs.size)).get? (hp.objs.size + 1) = some (PySem.HandSPX.excO C hp.objs.size) := by heap_get
  have I2 : Inv X pins σ (upd H1 (hp.objs.size + 1) (exo (hp.objs.size + 1) C none)) ⟨(hp.push (PySem.W.kdv_tup us)).push (PySem.HandSPX.excO C hp.objs.size), g, dr, tk, os⟩ :=
    I1.laid (t' := tk) (a := hp.objs.size + 1) (o := exo (hp.objs.size + 1) C none) (h' := (hp.push (PySem.W.kdv_tup us)).push (PySem.HandSPX.excO C hp.objs.size)) (fun b o e => Heap.get?_push_of_some _ (Heap.get?_push_of_some _ e)) hsz (exo_ok hget)
  have r2 : Vals (V.ref (hp.objs.size + 1) :: vs) (Value.ref (hp.objs.size + 1) :: us) := .cons rfl r1
  have hl : (Value.ref (hp.objs.size + 1) :: us).length = ps.length := by
    have e := r2.length
    rw [F1.len _ _ _ _ hq] at e
    exact e.symm
  have hus : us.length ≤ sizeLine := by
    rw [← Paired.length r1, sizeLine_eq]
    omega
  refine wpAny_call (PySem.HandSPX.call_own F.excBase_ValueError (fun Y => PySem.HandSPX.refsVE_contains Y bm hbm) (I1.kIn _ _ hC) (PySem.W.looks_findIn I1.kIn iC) (fun self => PySem.W.bind_fn I1.kIn self tI) hus
    (codeAny_mono (F1.run _ X.stack _ _ ⟨Value.ref (hp.objs.size + 1) :: us, []⟩ (Value.ref (hp.objs.size + 1) :: us) _ _ (fun _ _ _ => False) (hr.make C us []) (I2.env0.make C us []) (by
      have := hb ⟨(hp.push (PySem.W.kdv_tup us)).push (PySem.HandSPX.excO C hp.objs.size), g, dr, tk, os⟩ (Value.ref (hp.objs.size + 1) :: us) I2.kIn (by simpa using hl)
      simpa using this) r2 hq) fun r s' hq' => ?_))
  cases r with
  | error er => exact hx pins σ _ _ er s' I2 hq'
  | ok fl =>
    cases fl with
    | ret u =>
      obtain ⟨v, H2, I3, rv, ev, q2⟩ := I2.after hq'
      subst ev
      exact ⟨rv, ⟨.ref _, H2, I3, rfl, q2⟩⟩
    | next => exact False.elim hq'
    | brk => exact False.elim hq'
    | cont => exact False.elim hq'
end
end NW

/-! super().__init__ that leads to ValueError's, whatever own classes stand between. -/
namespace NW
open PySem PySem.W PySem.Calls PyProof.Rows PySem.HandSPX PySem.ESX PySem.Builtin PySem.Builtin.SmallTypes
/-- ValueError's __init__ bound to x -/
def bwV (x : Addr) : Obj := { cls := .type "method-wrapper", data := .fields #[.builtin "ValueError.__init__", .ref x] }
theorem type_vi : typeOf (.builtin "ValueError.__init__") = pure (.type "wrapper_descriptor") := by show builtinType _ = _; rw [builtinType_eq_fast]; kernel_rfl
theorem nacV : (kfb_private% "nameAndClass") (Value.builtin "ValueError.__init__") = (pure (("__init__" : Str), Value.type "ValueError") : Sem (Str × Value)) := by kernel_rfl
section
variable {prog : Program} {w : World} {M : Model} {A : Around} {E : Value → Shared → Prop} {h : Heap} {g : Array GenState} {d : Drawn} {t : Nat} {os : OsState}
theorem run_wdV {x C : Addr} {P : Fin → Shared → Prop} (hin : W.Looks M h (isInstance (.ref x) (.type "ValueError")) true) (hq : P (.done (.ret (.ref h.objs.size))) ⟨h.push (bwV x), g, d, t, os⟩) :
    wpAny M A (Builtin.«wrapper_descriptor.__get__» ⟨[.builtin "ValueError.__init__", .ref x, .ref C], []⟩) P E ⟨h, g, d, t, os⟩ := by
  unfold Builtin.«wrapper_descriptor.__get__»
  refine wpAny_bind (wpAny_of_eq (a := (.builtin "ValueError.__init__", some (.ref x), some (.ref C))) (by first | rfl | kernel_rfl) ?_)
  show wpAny M A ((kfb_private% "checkInstance") (.builtin "ValueError.__init__") (.ref x) >>= fun _ => newFields "method-wrapper" [.builtin "ValueError.__init__", .ref x] >>= fun r => ret r) P E _
  refine wpAny_bind ?_
  show wpAny M A ((kfb_private% "nameAndClass") (.builtin "ValueError.__init__") >>= _) _ E _
  refine wpAny_bind (wpAny_of_eq nacV ?_)
  show wpAny M A (isInstance (.ref x) (.type "ValueError") >>= _) _ E _
  refine wpAny_bind (hin.at ?_)
  refine KFB.if_not rfl ?_
  refine wpAny_pure ?_
  exact wpAny_bind (wpAny_newObj_type (wpAny_pure hq))
theorem super_gaV {so D x C : Addr} {l₀ l : List Value} {K : Frag} {name : Str} {tk : Tok} {Q : Fin → Shared → Prop}
    (hso : h.get? so = some { cls := .type "super", dict := none, data := .fields #[.ref D, .ref x, .ref C], slots := #[] }) (hno : Looks (model prog w) h (opaqueClassAbove (.ref C)) none)
    (hC : Looks (model prog w) h (mroOf (.ref C)) l₀) (hl : (l₀.dropWhile (· != .ref D)).drop 1 = l) (X : K.In h)
    (hf : alongIn K name l = some (some (.builtin "ValueError.__init__"))) (hxC : x ≠ C) (hn : (name == ("__class__" : Str)) = false) (hin : Looks (model prog w) h (isInstance (.ref x) (.type "ValueError")) true)
    (hq : Q (.done (.ret (.ref h.objs.size))) ⟨h.push (bwV x), g, d, t, os⟩) :
    wpAny (model prog w) A (Builtin.«super.__getattribute__» ⟨[.ref so, .str name tk], []⟩) Q E ⟨h, g, d, t, os⟩ := by
  have hlk := slot_wd.lookup
  have hne : (Value.ref x == Value.ref C) = false := by simp [hxC]
  have hTf := type_vi
  have hTi : Shared.TypeIs ⟨h, g, d, t, os⟩ (.builtin "ValueError.__init__") "wrapper_descriptor" := type_vi
  have hdt : ({ cls := .type "super", dict := none, data := .fields #[.ref D, .ref x, .ref C], slots := #[] } : Obj).data = .fields #[.ref D, .ref x, .ref C] := rfl
  have f0 : (#[.ref D, .ref x, .ref C] : Array Value)[0]? = some (.ref D) := rfl
  have f1 : (#[.ref D, .ref x, .ref C] : Array Value)[1]? = some (.ref x) := rfl
  have f2 : (#[.ref D, .ref x, .ref C] : Array Value)[2]? = some (.ref C) := rfl
  unfold Builtin.«super.__getattribute__»
  repeat (first
    | (with_reducible refine wpAny_field hso hdt f0 ?_) | (with_reducible refine wpAny_field hso hdt f1 ?_) | (with_reducible refine wpAny_field hso hdt f2 ?_)
    | (with_reducible refine ks_wpAny_notOpaque hno ?_)
    | (with_reducible refine Looks.at hC ?_; rw [hl])
    | (refine ks_forIn_along X (fun _ _ => rfl) rfl ?_ hf)
    | (with_reducible refine wpAny_call_entry slot_wd hTi entry_wd ?_ (args_wd _ _ _))
    | (with_reducible refine run_wdV hin ?_)
    | (with_reducible refine ⟨_, rfl, ?_⟩)
    | (simp only [hn, hne, Bool.or_false, Bool.false_eq_true, if_false])
    | wp_step
    | dsimp only)
  all_goals exact hq
theorem getMethod_superV {so D x C : Addr} {l₀ l : List Value} {K : Frag} {name : Str} {pl : Sem Bool} {Q : Value × List Value → Shared → Prop}
    (hso : h.get? so = some { cls := .type "super", dict := none, data := .fields #[.ref D, .ref x, .ref C], slots := #[] }) (hno : Looks (model prog w) h (opaqueClassAbove (.ref C)) none)
    (hC : Looks (model prog w) h (mroOf (.ref C)) l₀) (hl : (l₀.dropWhile (· != .ref D)).drop 1 = l) (X : K.In h)
    (hf : alongIn K name l = some (some (.builtin "ValueError.__init__"))) (hxC : x ≠ C) (hn : (name == ("__class__" : Str)) = false) (hin : Looks (model prog w) h (isInstance (.ref x) (.type "ValueError")) true)
    (hq : Q (.ref h.objs.size, []) ⟨h.push (bwV x), g, d, t + 1, os⟩) :
    wpAny (model prog w) A (getMethod (.ref so) name pl) Q E ⟨h, g, d, t, os⟩ := by
  have hlk := F.ks_slot_super_ga.lookup
  have hcan := F.ks_canon_super_ga
  have hT : ∀ t', (⟨h, g, d, t', os⟩ : Shared).TypeIs (.ref so) "super" := fun _ => ⟨_, hso, rfl⟩
  unfold getMethod
  refine wpAny_bind (wpAny_specialOf (hT _) hlk ?_)
  show wpAny _ _ (if (Manifest.canonical "super.__getattribute__" != "object.__getattribute__") = true then _ else _) _ _ _
  rw [if_pos hcan]
  unfold getAttr getAttrBy
  refine wpAny_bind (wpAny_bind (wpAny_mkText (wpAny_holding (wpAny_bind (wpAny_typeOf (hT _) (wpAny_bind (wpAny_of_eq hlk ?_)))))))
  show wpAny _ _ (getAttrByItsOwn (.ref so) (.str name t) (.type "super") (.builtin "super.__getattribute__") true false) _ _ _
  unfold getAttrByItsOwn hookBefore callGetattribute boundAndCalled
  refine wpAny_bind (wpAny_of_eq (show (if onTheHeap (.type "super") then typeLookup (.type "super") "__getattr__" else pure none) = pure none from rfl) ?_)
  refine wpAny_bind (wpAny_attempt (wpAny_holding ?_))
  show wpAny _ _ (bindSpecial (.builtin "super.__getattribute__") (.ref so) >>= _) _ _ _
  refine wpAny_bind (wpAny_of_eq (F.ks_slot_super_ga.bind _) ?_)
  refine wpAny_mono (Q := fun v s' => v = .ref h.objs.size ∧ s' = ⟨h.push (bwV x), g, d, t + 1, os⟩) (E := fun _ _ => False)
    (wpAny_call_entry F.ks_slot_super_ga (hT _) F.ks_entry_super_ga (super_gaV hso hno hC hl X hf hxC hn hin ⟨_, rfl, rfl, rfl⟩) (F.ks_gaArgs_super _ _)) (fun v s' hv => ?_) fun _ _ z => z.elim
  obtain ⟨rfl, rfl⟩ := hv
  exact wpAny_pure (wpAny_pure hq)
end
section
variable {prog : Program} {w : World} {A : Around} {E : Value → Shared → Prop} {h : Heap} {g : Array GenState} {d : Drawn} {t : Nat} {os : OsState}
variable {nm q : Str} {C N : Addr} {bs bm : List Value} {hdct : Bool} {sn : List Str} {sub : List Value} {ab : Bool} {col : Option Bool} {dd : Option Addr} {k0 k1 k2 k3 k5 : Option Value}
/-- ValueError's __init__, bound: the arguments are kept -/
theorem call_bwV {u e t0 : Addr} {rest : List Value} {Q : Value → Shared → Prop}
    (hC : h.get? C = some (excClassObj nm q C N bs bm hdct sn sub ab col dd k0 k1 k2 k3 k5 "ValueError.__new__")) (he : h.get? e = some (HandSPX.excO C t0)) (hu : h.get? u = some (bwV e)) (hrest : rest.length ≤ sizeLine)
    (hq : ∀ h' t1, (∀ b o, b ≠ e → h.get? b = some o → h'.get? b = some o) → h'.get? e = some (HandSPX.excO C t1) → Q .none ⟨h', g, d, t, os⟩) :
    wpAny (model prog w) A (call (.ref u) rest) Q E ⟨h, g, d, t, os⟩ := by
  refine wpAny_call (codeAny_of_tree ?_)
  show wpAny _ A.in1 (callAny (.ref u) ⟨rest, []⟩) _ _ _
  simp only [callAny]
  refine wpAny_bind (wpAny_load hu ?_)
  simp only [bwV, show (Value.type "method-wrapper" == Value.type "method" || Value.type "method-wrapper" == Value.type "builtin_function_or_method" || Value.type "method-wrapper" == Value.type "method-wrapper") = true by decide, if_true]
  refine W.KFB.if_so (by decide) ?_
  refine wpAny_bind (check_bound F.excBase_ValueError hC he rfl ?_)
  refine wpAny_bind (wpAny_pure (wpAny_pure ?_))
  refine ⟨Code.quiet_builtin _ (by decide +kernel), codeAny_builtin F.excBase_ValueError.initEntry ?_⟩
  rw [Around.under_plainId F.excBase_ValueError.init.plain _]
  wp_walk
  refine hq _ h.objs.size (fun b o hb ho => ?_) ?_
  · rw [Heap.get?_update_other _ _ (Ne.symm hb)]
    exact Heap.get?_push_of_some _ ho
  · rw [Heap.get?_update_self _ (Heap.get?_push_of_some _ he) rfl]
    rfl
end
end NW

/-! An own exception's __init__ that begins with super().__init__('..'), kept as a contract. -/
namespace NW
open PySem PySem.Spec PySem.W PyProof.Rows L2 NdefX
/-- the program's file, and that its top has no name super -/
class SupP (P : Program) : Prop where
  file : ((P.main.file : Str) == ("/claim/cut.py" : Str)) = true
  nosup : (P.main.scope.names.lookup ("super" : Str)).isSome = false
instance supP_cx {CX : CXT} {P : Program} {w : World} {K : PySem.W.Frag} {mg : Str → Option Value} {base : Heap} {N : List Str} {qual : Str} {scope : Scope} {f : Addr} {cd : Value} {A : Around} {outer : List Env} {s : Shared} {H : Hp} {E : XK} [h : SupP P] :
    SupP (cxOf CX P w K mg base N qual scope f cd A outer s H E).prog := h
/-- what the written part says of such a def -/
structure SupC (K : PySem.W.Frag) (name qual : Str) (params : Arguments) (body : List Stmt) (scope : Scope) (C f : Addr) (fd : FuncData) : Prop where
  ex : ∃ (oc dV kV doc pm ct cl ccl : Value) (od cld cdd : Option Addr) (an : Option Addr) (osl csl ccs : Array (Option Value)) (cc cda : Addr) (vs : Array Value) (tf : Tok),
    fd = PySem.W.ksFn name qual params body scope dV kV doc pm an (.ref cda) ct cc ∧ K.lookup f = some ⟨oc, od, .func fd, osl⟩ ∧ PySem.W.codeIn K (.ref cda) qual = true ∧
    K.lookup cda = some ⟨ccl, cdd, .fields vs, ccs⟩ ∧ vs[2]? = some (.str "/claim/cut.py" tf) ∧ K.lookup cc = some ⟨cl, cld, .cell (some (.ref C)), csl⟩
  oex : OexC K C
  nosup : PySem.W.nsIn K mainGlobals "super" = some none
  opq : PySem.W.nsIn K cStatics "thirdparty.any" = some none
  sup : PySem.W.ks_superIn K C C "__init__" = some (some (.builtin "ValueError.__init__"))
  ve : PySem.W.subIn K (.ref C) (.type "ValueError") = some true
  mr : PySem.W.mroIn K C (.ref C) = some true
/-- what it promises: the one field -/
def sp_supinit (C : Addr) (fld : Str) : Sp := fun vs H Q _ => ∃ a v, vs = [.ref a, v] ∧ H a = some (exo a C none) ∧ ∀ d, H d = none → d ≠ a → Q .non (upd (upd H d (exd d [(fld, v)])) a (exo a C (some d)))
section
variable {CX : CXT} {P : Program} {w : World} {K : PySem.W.Frag} {mg : Str → Option Value} {base : Heap} {k : Nat} {f C : Addr} {name qual fld pn text : Str} {params : Arguments} {body : List Stmt} {scope : Scope} {fd : FuncData}
  {p0 p1 p2 p3 p4 p5 q1 q2 q3 q4 : Pos} {kc : Nat} {ar : Arg} {ars : List Arg} {pl : Env → Sem Bool}
theorem callWith_bwV {M : Model} {A : Around} {E : Value → Shared → Prop} {s : Shared} {pos : Pos} {u x : Addr} {args : List (Bool × Sem Value)} {Q : Value → Shared → Prop} (hplain : args.any (·.1) = false)
    (h : wpAny M A (evalArgs (.ref u) true args []) (fun a s₁ => s₁.heap.get? u = some (bwV x) ∧ wpAny M A (call (.ref u) a.pos a.kw) Q E s₁) E s) : wpAny M A (callWith pos (.ref u) [] args []) Q E s := by
  unfold callWith
  refine wpAny_bind (wpAny_holding (wpAny_mono h (fun a s₁ h₁ => wpAny_bind (wpAny_standAt ?_)) fun _ _ x => x))
  obtain ⟨ho, hcall⟩ := h₁
  simp only [hplain, List.any_nil, Bool.or_false]
  refine wpAny_bind (m := keeperOf (.ref u)) ?_
  unfold keeperOf
  refine wpAny_bind (wpAny_load ho ?_)
  simp only [bwV, show (Value.type "method-wrapper" != Value.type "method") = true by decide, show (Value.type "method-wrapper" == Value.type "builtin_function_or_method" || Value.type "method-wrapper" == Value.type "method-wrapper") = true by decide, if_true]
  refine wpAny_pure ?_
  exact wpAny_bind (wpAny_mono hcall (fun r s₂ hr => wpAny_bind (wpAny_holding (wpAny_point (wpAny_pure hr)))) fun _ _ x => x)
/-- the first statement -/
theorem sup_first [SupP P] {A : Around} {outer : List Env} {s0 s : Shared} {H0 H : Hp} {E : XK} {F : NF} {a cc cda : Addr} {N : List Str} {Q : Flow → Shared → Prop}
    {oc dV kV doc pm ct cl ccl : Value} {od cld cdd an : Option Addr} {osl csl ccs : Array (Option Value)} {vs : Array Value} {tf : Tok}
    (hF : F = ⟨name, qual, params, body, scope, [("__class__", cc)], cda⟩)
    (lk : K.lookup f = some ⟨oc, od, .func (PySem.W.ksFn name qual params body scope dV kV doc pm an (.ref cda) ct cc), osl⟩)
    (hcode : K.lookup cda = some ⟨ccl, cdd, .fields vs, ccs⟩) (hvs : vs[2]? = some (.str "/claim/cut.py" tf)) (hcell : K.lookup cc = some ⟨cl, cld, .cell (some (.ref C)), csl⟩)
    (T : OexC K C) (nosup : PySem.W.nsIn K mainGlobals "super" = some none)
    (opq : PySem.W.nsIn K cStatics "thirdparty.any" = some none) (sup : PySem.W.ks_superIn K C C "__init__" = some (some (.builtin "ValueError.__init__")))
    (ve : PySem.W.subIn K (.ref C) (.type "ValueError") = some true) (mr : PySem.W.mroIn K C (.ref C) = some true)
    (hm : ∀ env : Env, eval (.Call (.Attribute (.Call (.Name "super" p0) [] [] p1) "__init__" p2) [.Constant (.str text) kc p3] [] p4) env = (do
      let ov ← attributeBase (.Call (.Name "super" p0) [] [] p1) "__init__" env (eval (.Call (.Name "super" p0) [] [] p1) env)
      standAt p2.atName
      let (f, first) ← holding [ov] (getMethod ov "__init__" (pl env))
      callWith p4 f first (backTo p4 (starEach [.Constant (.str text) kc p3] env)) []))
    (hp : params.posonlyargs ++ params.args = ar :: ars) (hself : ar.arg = "self")
    (hks : scope.names.lookup ("super" : Str) = some .globalImplicit) (hkc : scope.names.lookup ("__class__" : Str) = some .free) (hka : scope.names.lookup ("self" : Str) = some .local) (hk : scope.kind = .function)
    (I : Inv (ncx CX P w K mg base N F f A outer s0 H0 E) [] σ H s) (hN : N[0]? = some ("self" : Str)) (hσ : σ[0]? = some (some (.ref a))) (ha : H a = some (exo a C none))
    (h : ∀ s', Inv (ncx CX P w K mg base N F f A outer s0 H0 E) [] σ H s' → Q .next s') :
    _root_.PySem.wpAt (model P w) (A.deeper (envF F f s0.heap.objs.size)) (.func body (envF F f s0.heap.objs.size)) (exec (.Expr (.Call (.Attribute (.Call (.Name "super" p0) [] [] p1) "__init__" p2) [.Constant (.str text) kc p3] [] p4) p5) (envF F f s0.heap.objs.size)) Q (ncx CX P w K mg base N F f A outer s0 H0 E).xe s := by
  subst hF
  refine ks_wpAt_Expr_any ?_ (show interactive (envF _ f s0.heap.objs.size) = false by unfold interactive; rw [show (envF _ f s0.heap.objs.size).scope.kind = .function from hk]; rfl) rfl
  refine ks_wpAt_MethodCall (pl := pl _) ?_ (hm _)
  have X := I.kIn
  have hcl : ∃ cd, PySem.W.clsIn K C = some cd := by
    unfold PySem.W.ks_superIn at sup
    cases hc : PySem.W.clsIn K C with
    | none => rw [hc] at sup; cases sup
    | some cd => exact ⟨cd, rfl⟩
  obtain ⟨cdD, hcd⟩ := hcl
  obtain ⟨oD, hD1, hD2⟩ : ∃ oD, s.heap.get? C = some oD ∧ oD.data = .cls cdD := by
    unfold PySem.W.clsIn at hcd
    split at hcd
    · rename_i c d cd' sl ho
      cases hcd
      exact ⟨_, X _ _ ho, rfl⟩
    · cases hcd
  obtain ⟨m, hns, hl⟩ := I.loc
  obtain ⟨u, ru, lu⟩ := hl 0 "self" (.ref a) hN hσ (.inl hka)
  obtain rfl : u = Value.ref a := ru
  have hm : m "self" = some (.ref a) := by
    rcases lu with ⟨_, z⟩ | ⟨z, _⟩
    · exact z
    · have z : scope.names.lookup ("self" : Str) = some .cell ∨ scope.names.lookup ("self" : Str) = some .free := z
      rw [hka] at z
      rcases z with z | z <;> cases z
  refine ks_wpAt_super_base (env := envF _ f s0.heap.objs.size) hks hkc rfl rfl (X _ _ lk) rfl (by show (params.posonlyargs ++ params.args).head? = some ar; rw [hp]; rfl) rfl (X _ _ hcode) rfl hvs SupP.file SupP.nosup ?_
  obtain ⟨mb, b1, b2⟩ := I.mod.blt
  refine ks_loadName_global hk hks (Calls.loadGlobal_builtin (env := envF _ f s0.heap.objs.size) (I.mod.glob.keeps I.bk) (mg_none_of I.mod.kin I.mod.glob nosup) (b1.keeps I.bk) ((b2 _ (by decide)).trans PyProof.Rows.Boot.«super») ⟨rfl, ?_⟩)
  refine wpAny_loadName_free hk hkc rfl ⟨_, X _ _ hcell, rfl⟩ ?_
  rw [hself]
  refine wpAny_loadName_local hk hka hns hm ?_
  refine ks_wpAny_isType_cls hD1 hD2 ⟨rfl, ?_⟩
  obtain ⟨t1, ho⟩ := exo_at I.hok ha
  refine ks_wpAny_call_super hD1 hD2 ho rfl (fun c e => by cases e) (looks_mroIn X mr) (fun h' e kp => ?_)
  have I1 : Inv (ncx CX P w K mg base N ⟨name, qual, params, body, scope, [("__class__", cc)], cda⟩ f A outer s0 H0 E) [] σ H { s with heap := h' } := I.kept kp
  have X1 := I1.kIn
  obtain ⟨t2, ho1⟩ := exo_at I1.hok ha
  obtain ⟨nm, qn, Nn, bs, bm, sn, sub, ab, col, dd, k0, k1, k2, k3, k5, hC, hbm⟩ := T.cls
  have hne : a ≠ C := PySem.W.ks_ne (odx := none) X1 ⟨ho1, rfl, rfl, trivial⟩ hcd
  have hin : PySem.W.Looks (model P w) h' (isInstance (.ref a) (.type "ValueError")) true := (show PySem.W.InstAt h' a { cls := .ref C, dict := none, data := .fields #[.ref t2, .none, .none, .none, .bool false, .none] } C none from ⟨ho1, rfl, rfl, trivial⟩).type.andThen (looks_subIn X1 ve)
  obtain ⟨hh, g, d, t, os⟩ := s
  refine getMethod_superV e (looks_opaque X1 opq) (l₀ := cdD.mro) (fun A Q E s k q => wpAny_bind ((looks_clsIn X1 hcd) A _ E s k (wpAny_pure q))) rfl X1 (by unfold PySem.W.ks_superIn at sup; rw [hcd] at sup; exact sup) hne rfl hin ?_
  have I2 : Inv (ncx CX P w K mg base N ⟨name, qual, params, body, scope, [("__class__", cc)], cda⟩ f A outer s0 H0 E) [] σ H ⟨h'.push (bwV a), g, d, t + 1, os⟩ := I1.kept (h' := h'.push (bwV a)) (t' := t + 1) (fun b o z => Heap.get?_push_of_some _ z)
  have hu : (h'.push (bwV a)).get? h'.objs.size = some (bwV a) := Heap.get?_push_at rfl rfl
  refine callWith_bwV (x := a) rfl ?_
  refine Calls.evalArgs_plain (Calls.spliced_cons ?_)
  refine Calls.Constant_str (pos := p3) (k := kc) ?_
  refine Calls.spliced_nil ⟨hu, ?_⟩
  have I3 := I2.tok (t + 1 + 1)
  obtain ⟨t3, ho3⟩ := exo_at I3.hok ha
  refine call_bwV (rest := [_]) (I3.kIn _ _ hC) ho3 hu (by show 1 ≤ sizeLine; decide) fun h4 t4 k4 he4 => ?_
  have J := I3.write (t' := t + 1 + 1) (x := a) (e := a) (o := exo a C none) (by rw [ha]; exact True.intro) (.inl rfl) k4 ⟨_, he4⟩ (exo_ok he4)
  have eu : upd H a (exo a C none) = H := by
    funext b
    by_cases hb : b = a
    · rw [hb, upd_same, ha]
    · rw [upd_ne hb]
  rw [eu] at J
  exact h _ J
/-- the def keeps its promise -/
theorem fn_super [SupP P] (S : SupC K name qual params body scope C f fd) (hbody : body = [.Expr (.Call (.Attribute (.Call (.Name "super" p0) [] [] p1) "__init__" p2) [.Constant (.str text) kc p3] [] p4) p5, .Assign [.Attribute (.Name "self" q1) fld q2] (.Name pn q3) q4])
    (hm : ∀ env : Env, eval (.Call (.Attribute (.Call (.Name "super" p0) [] [] p1) "__init__" p2) [.Constant (.str text) kc p3] [] p4) env = (do
      let ov ← attributeBase (.Call (.Name "super" p0) [] [] p1) "__init__" env (eval (.Call (.Name "super" p0) [] [] p1) env)
      standAt p2.atName
      let (f, first) ← holding [ov] (getMethod ov "__init__" (pl env))
      callWith p4 f first (backTo p4 (starEach [.Constant (.str text) kc p3] env)) []))
    (hp : params.posonlyargs ++ params.args = ar :: ars) (hself : ar.arg = "self") (NS : NScope ["self", pn, "__class__"] ["self", pn] ["__class__"] scope)
    (hks : scope.names.lookup ("super" : Str) = some .globalImplicit) (hfld : PySem.W.findIn K (.ref C) fld = some none) (hpn : (pn == ("__debug__" : Str)) = false := by decide) (hpc : (pn == ("__classdict__" : Str)) = false := by decide) :
    FnOk P w K mg base CX (k + 1) f fd ["self", pn] (sp_supinit C fld) := by
  refine ⟨fun vs H Q E h => by obtain ⟨_, _, rfl, _⟩ := h; rfl, fun A outer s H args us vs Q E hr e0 hb r hsp => ?_⟩
  obtain ⟨oc, dV, kV, doc, pm, ct, cl, ccl, od, cld, cdd, an, osl, csl, ccs, cc, cda, vs0, tf, rfl, lk, hcd, hcode, hvs, hcell⟩ := S.ex
  obtain ⟨a, v, rfl, ha, kq⟩ := hsp
  have KX : K.In s.heap := e0.mod.kin.keeps fun b o e => (e0.bs b o e).1
  have lim : s.heap.NoLimit := e0.mod.nolimit.keeps fun b o e => (e0.bs b o e).1
  refine ks_codeAny_call_defAt (fd := PySem.W.ksFn name qual params body scope dV kV doc pm an (.ref cda) ct cc) (body := body) hr.depth (KX _ _ lk) rfl lim (PySem.W.codeRec_of KX hcd) rfl hb NS.nocell (fun x hx => NS.par x.1 (List.of_mem_zip (a := x.1) (b := x.2) hx).1) (fun h₁ hns hk₁ => ?_) NS.co NS.gen NS.kind
  have CA : CellsAt [("__class__", cc)] ["__class__"] [none] s.heap H := by
    have hb := e0.bs cc _ (e0.mod.kin _ _ hcell)
    have one : ∀ {y : Str} {c : Addr}, ([(("__class__" : Str), cc)] : List (Str × Addr)).lookup y = some c → y = "__class__" ∧ c = cc := fun {y c} z => by
      have := PySem.mem_of_lookup z
      rw [List.mem_singleton] at this
      cases this
      exact ⟨rfl, rfl⟩
    refine ⟨rfl, fun y c z => ?_, fun x y c z1 z2 => (one z1).1.trans (one z2).1.symm, fun i y hi => ?_⟩
    · obtain ⟨_, rfl⟩ := one z
      exact ⟨hb.2, _, _, hb.1, rfl⟩
    · cases i with
      | zero =>
        cases hi
        exact ⟨cc, by rw [List.lookup_cons, beq_self_eq_true], fun v z => by cases z⟩
      | succ i => cases hi
  have I : L2.Inv (ncx CX P w K mg base ["self", pn, "__class__"] ⟨name, qual, params, body, scope, [("__class__", cc)], cda⟩ f A outer s H E) [] (startF ["self", pn, "__class__"] [.ref a, v] [none]) H { s with heap := h₁, toks := s.toks + ((["self", pn] : List Str).zip us).length } :=
    inv_startN (F := ⟨name, qual, params, body, scope, [("__class__", cc)], cda⟩) NS hr.hd e0 rfl r CA hns hk₁
  rw [show execs body = execs [.Expr (.Call (.Attribute (.Call (.Name "super" p0) [] [] p1) "__init__" p2) [.Constant (.str text) kc p3] [] p4) p5, .Assign [.Attribute (.Name "self" q1) fld q2] (.Name pn q3) q4] from congrArg execs hbody]
  refine ks_wpAt_execs_cons (sup_first (σ := startF ["self", pn, "__class__"] [.ref a, v] [none]) rfl lk hcode hvs hcell S.oex S.nosup S.opq S.sup S.ve S.mr hm hp hself hks (NS.frk _ (List.mem_singleton.mpr rfl)) (NS.par _ (List.mem_cons_self ..)) NS.kind I rfl rfl ha fun s' J => ?_)
  refine wpAt_of_wpAny ?_
  have ht : PSs (ncx CX P w K mg base ["self", pn, "__class__"] ⟨name, qual, params, body, scope, [("__class__", cc)], cda⟩ f A outer s H E) [.Assign [.Attribute (.Name "self" q1) fld q2] (.Name pn q3) q4] _ :=
    pss_one (ps_ost (f := fld) (pv 0 rfl (.inl (NS.par _ (List.mem_cons_self ..)))) (pv 1 rfl (.inl (NS.par _ (List.mem_cons_of_mem _ (List.mem_cons_self ..)))) hpn hpc))
  refine wpAny_mono (ht.run [] s' _ H { nx := fun _ H' => Q .non H', rt := Q } J ⟨v, rfl, .ref a, rfl, a, C, rfl, S.oex, hfld, .inl ⟨ha, fun dx hd hne => kq dx hd hne⟩⟩) (fun fl s'' hs => ?_) fun e s'' he => he
  cases fl with
  | ret u =>
    obtain ⟨v, σ', H', J, rv, q⟩ := hs
    exact ⟨v, H', J.os, J.bare, J.base, J.hok, rv, q⟩
  | next =>
    obtain ⟨σ', H', J, q⟩ := hs
    exact ⟨.non, H', J.os, J.bare, J.base, J.hok, rfl, q⟩
  | brk =>
    obtain ⟨_, _, _, q⟩ := hs
    exact False.elim q
  | cont =>
    obtain ⟨_, _, _, q⟩ := hs
    exact False.elim q
end
/-- C(e, ..) as a value, C's own __init__ of that kind: a new exception with its dict -/
theorem rd_sup {C : Addr} {fld : Str} {ta : TA} {σ : L2.St} {H : Hp} {Q : VK} (h : ta σ H fun vs H1 => ∃ v, vs = [v] ∧ ∀ a d H2, H1 a = none → H1 d = none → d ≠ a → Same H1 H2 → H2 a = some (exo a C (some d)) → H2 d = some (exd d [(fld, v)]) → Q (.ref a) H2)
    (mono : ∀ (Q Q' : List V → Hp → Prop), (∀ vs H1, Q vs H1 → Q' vs H1) → ta σ H Q → ta σ H Q') : tOexV C (sp_supinit C fld) ta σ H Q := by
  refine mono _ _ (fun vs H1 hq => ?_) h
  obtain ⟨v, rfl, k⟩ := hq
  refine ⟨by show 1 ≤ 1000; decide, fun a ha => ⟨a, v, rfl, upd_same, fun d hd hne => ⟨rfl, ?_⟩⟩⟩
  have hd' : H1 d = none := by rw [← hd, upd_ne hne]
  refine k a d _ ha hd' hne (fun b o e => ?_) upd_same ?_
  · have n1 : b ≠ a := fun z => by rw [z, ha] at e; cases e
    have n2 : b ≠ d := fun z => by rw [z, hd'] at e; cases e
    rw [upd_ne n1, upd_ne n2, upd_ne n1]
    exact e
  · rw [upd_ne hne]
    exact upd_same
theorem cons1_mono {te : TE} {σ : L2.St} {H : Hp} (m : ∀ (Q Q' : VK), (∀ v H1, Q v H1 → Q' v H1) → te σ H Q → te σ H Q') (Q Q' : List V → Hp → Prop) (h : ∀ vs H1, Q vs H1 → Q' vs H1) : tCons te tNil σ H Q → tCons te tNil σ H Q' := m _ _ fun _ _ z => h _ _ z
theorem tC_mono {v : V} {σ : L2.St} {H : Hp} (Q Q' : VK) (h : ∀ v H1, Q v H1 → Q' v H1) : tC v σ H Q → tC v σ H Q' := h _ _
theorem tVar_mono {i : Nat} {σ : L2.St} {H : Hp} (Q Q' : VK) (h : ∀ v H1, Q v H1 → Q' v H1) : tVar i σ H Q → tVar i σ H Q' := fun ⟨v, e, q⟩ => ⟨v, e, h _ _ q⟩
end NW

/-! Own errors as values: made without arguments, asked for their class, their fields read. -/
namespace NW
open PySem PySem.Spec PyProof.Rows L2
/-- an error of the class at C, with a dict or without one -/
def ErrAt (H : Hp) (a C : Addr) : Prop := H a = some (exo a C none) ∨ ∃ d fs, H a = some (exo a C (some d)) ∧ H d = some (exd d fs)
theorem ErrAt.same {H H' : Hp} {a C : Addr} (h : ErrAt H a C) (s : Same H H') : ErrAt H' a C := by
  rcases h with h | ⟨d, fs, h1, h2⟩
  · exact .inl (s _ _ h)
  · exact .inr ⟨d, fs, s _ _ h1, s _ _ h2⟩
section
variable {X : Cx} {pins : List (Addr × Obj)} {σ : L2.St} {H : Hp} {s : Shared} {K : PySem.W.Frag}
theorem err_inst {a C : Addr} (I : Inv X pins σ H s) (h : ErrAt H a C) : ∃ ox od, PySem.W.InstAt s.heap a ox C od := by
  rcases h with h | ⟨d, fs, h1, h2⟩
  · obtain ⟨t1, he⟩ := exo_at I.hok h
    exact ⟨_, none, he, rfl, rfl, trivial⟩
  · obtain ⟨t1, he⟩ := exo_at I.hok h1
    obtain ⟨mA, hn, _⟩ := exd_at I.hok h2
    obtain ⟨od, hod, _⟩ := lookIn_ns hn
    exact ⟨_, some od, he, rfl, rfl, hod⟩
/-- isinstance(x, c), x an error -/
def rIsiX (K : PySem.W.Frag) : List V → Hp → VK → Prop := fun xs H Q => ∃ (a C : Addr) (c : V) (u : Value) (b : Bool), xs = [.ref a, c] ∧ ClsV c u ∧ ExcC K C ∧ ErrAt H a C ∧ PySem.W.kitOne K (.ref C) u = some b ∧ Q (.bl b) H
theorem call_isiX (hK : X.K = K) : CallR X (.builtin "isinstance") (rIsiX K) := by
  subst hK
  intro pins s σ H xs us Q I r h
  obtain ⟨a, C, c, u, b, rfl, k, E, he, e, q⟩ := h
  obtain ⟨u1, u2, rfl, r1, r2⟩ := vals2 r
  have e2 := k.eq r2
  subst e2
  cases (show u1 = Value.ref a from r1)
  obtain ⟨ox, od, J⟩ := err_inst I he
  have hcl : (PySem.W.clsIn X.K C).isSome = true := by
    have h := E.hd
    unfold PySem.W.hasDictIn at h
    cases hc : PySem.W.clsIn X.K C with
    | none => rw [hc] at h; cases h
    | some cd => rfl
  exact PySem.W.kia_one (PySem.W.kitx_exc hcl E.hg E.hk E.hs E.ha E.hn E.ht E.hm) I.kIn J e (fun z => nomatch z) fun tk => ⟨.bl b, H, I.tok tk, rfl, q⟩
/-- x.f, x an error with the field f -/
def tFldX (K : PySem.W.Frag) (ta : TE) (f : Str) : TE := fun σ H Q => ta σ H fun x H1 => ∃ a C d fs v, x = .ref a ∧ ExcC K C ∧ PySem.W.findIn K (.ref C) f = some none ∧ H1 a = some (exo a C (some d)) ∧ H1 d = some (exd d fs) ∧ fs.lookup f = some v ∧ Q v H1
theorem pe_fldX {e : Expr} {ta : TE} {f : Str} {pos : Pos} (h : X.K = K) (he : PE X e ta) (hb : attributeBase e f X.env (eval e X.env) = eval e X.env) : PE X (.Attribute e f pos) (tFldX K ta f) := by
  subst h
  refine ⟨fun pins s σ H Q I h => ?_⟩
  refine attr_of hb (thn (he.run pins s σ H _ I h) fun u s1 ⟨x, H1, I1, rx, a, C, d, fs, v, ex, E, hf, h1, h2, l, q⟩ => ?_)
  subst ex
  obtain rfl : u = Value.ref a := rx
  obtain ⟨t1, hea⟩ := exo_at I1.hok h1
  obtain ⟨mA, hn, rel⟩ := exd_at I1.hok h2
  obtain ⟨od, hod, look⟩ := lookIn_ns hn
  obtain ⟨u, hu, ru⟩ := RelO.some_of (v := v) (o := mA f) (by rw [← l]; exact rel f)
  refine PySem.PX.exc_get I1.kIn (od := some od) (ox := _) ⟨hea, rfl, rfl, hod⟩ E.hg E.hk E.hs (PySem.W.findObj_own E.hd hf rfl (by rw [look, hu])) (handed_of ru) ⟨v, H1, I1.tok _, ru, q⟩
/-- C(), C without an own __init__ -/
def tOex0 (C : Addr) : TE := fun σ H Q => ∀ a, H a = none → Q (.ref a) (upd H a (exo a C none))
theorem pe_oex0 {x : Str} {C : Addr} {p pos : Pos} (T : OexC X.K C) (iC : PySem.W.findIn X.K (.ref C) "__init__" = some (some (.builtin "ValueError.__init__"))) (hg : Gl X x) (hm : X.mg x = some (.ref C)) (hdb : (x == ("__debug__" : Str)) = false := by decide) :
    PE X (.Call (.Name x p) [] [] pos) (tOex0 C) := by
  refine ⟨fun pins s σ H Q I h => ?_⟩
  obtain ⟨nm, q, N, bs, bm, sn, sub, ab, col, dd, k0, k1, k2, k3, k5, hC, hbm⟩ := T.cls
  refine wpAny_Call_Name_kw (ld_glob I hg hm ?_ hdb)
  refine PySem.W.callWith_K0 I.kIn T.kC ?_
  show wpAny _ _ (call (.ref C) []) _ _ _
  obtain ⟨hp, g, dr, tk, os⟩ := s
  refine PySem.W.call_B F.excBase_ValueError (fun Y => PySem.HandSPX.refsVE_contains Y bm hbm) (I.kIn _ _ hC) (PySem.W.looks_findIn I.kIn iC) (Nat.zero_le _) fun h' k1 e1 e2 => ?_
  exact ⟨.ref (hp.objs.size + 1), _, I.laid (t' := tk) (a := hp.objs.size + 1) (o := exo (hp.objs.size + 1) C none) k1 (Nat.le_succ _) (exo_ok e1), rfl, h _ (I.hok.fresh (Nat.le_succ _))⟩
theorem rd_oex0 {C : Addr} {σ : L2.St} {H : Hp} {Q : VK} (h : ∀ a, H a = none → Q (.ref a) (upd H a (exo a C none))) : tOex0 C σ H Q := h
end
end NW

/-! C(..) whose __init__ may raise, within a try; the classes of own errors told apart from what is written of them. -/
namespace NW
open PySem PySem.Spec PyProof.Rows L2
section
variable {X : Cx} {CX : CXT} {k : Nat} {f C : Addr} {fd : FuncData} {ps : List Str} {sp : Sp} {E : L2.St → XK} {x : Str} {p pos : Pos} {e : Expr} {es : List Expr} {t : TA}
theorem run_makeS {pins : List (Addr × Obj)} {σ : L2.St} {H : Hp} {s : Shared} {Q : VK} {us : List Value} {vs : List V} (M : Mk X.K C f) (F : FnOk X.prog X.w X.K X.mg X.base CX k f fd ps sp) (hr : Room (k + 1) X.A) (hb : Binds X.K fd ps [])
    (hx : PassesAt CX X σ (E σ)) (I : Inv X pins σ H s) (r : Vals vs us)
    (h : ∀ x dx, H x = none → H dx = none → dx ≠ x → sp (.ref x :: vs) (upd (upd H dx (.own x)) x (.ins C dx [])) (fun v H2 => v = .non ∧ Q (.ref x) H2) (E σ)) :
    wpAny (model X.prog X.w) X.A (call (.ref C) us) (EP X pins σ Q) X.xe s := by
  have hq := h (s.heap.objs.size + 1) s.heap.objs.size (I.hok.fresh (Nat.le_succ _)) (I.hok.fresh (Nat.le_refl _)) (Nat.ne_of_lt (Nat.lt_succ_self _))
  have I2 := Inv.made (C := C) I
  have r2 : Vals (V.ref (s.heap.objs.size + 1) :: vs) (Value.ref (s.heap.objs.size + 1) :: us) := .cons rfl r
  have hl : (Value.ref (s.heap.objs.size + 1) :: us).length = ps.length := by
    have e := r2.length
    rw [F.len _ _ _ _ hq] at e
    exact e.symm
  refine wpAny_call (make_map (f := f) I.kIn M.makes M.init (beq_iff_eq.mp M.fn) (codeAny_mono (F.run _ X.stack _ _ ⟨Value.ref (s.heap.objs.size + 1) :: us, []⟩ (Value.ref (s.heap.objs.size + 1) :: us) _ _ (E σ) (hr.make C us [])
    (I2.env0.make C us []) (by
      have := hb _ (Value.ref (s.heap.objs.size + 1) :: us) I2.kIn (by simpa using hl)
      simpa using this) r2 hq) fun r s' hq' => ?_))
  cases r with
  | error e => exact hx pins _ _ e s' I2 hq'
  | ok fl =>
    cases fl with
    | ret u =>
      obtain ⟨v, H', I3, rv, ev, q3⟩ := I2.after hq'
      subst ev
      exact ⟨rv, ⟨V.ref (s.heap.objs.size + 1), H', I3, rfl, q3⟩⟩
    | next => exact False.elim hq'
    | brk => exact False.elim hq'
    | cont => exact False.elim hq'
/-- C(..), an exception of __init__ goes on -/
def tMakeS (C : Addr) (sp : Sp) (E : L2.St → XK) (t : TA) : TE := fun σ H Q => t σ H fun vs H1 => ∀ x dx, H1 x = none → H1 dx = none → dx ≠ x → sp (.ref x :: vs) (upd (upd H1 dx (.own x)) x (.ins C dx [])) (fun v H2 => v = .non ∧ Q (.ref x) H2) (E σ)
theorem pe_makeS (M : Mk X.K C f) (F : FnOk X.prog X.w X.K X.mg X.base CX k f fd ps sp) (hr : Room (k + 1) X.A) (hg : Gl X x) (hm : X.mg x = some (.ref C)) (hb : Binds X.K fd ps []) (hx : ∀ σ, PassesAt CX X σ (E σ))
    (ha : PA X (e :: es) t) (hdb : (x == ("__debug__" : Str)) = false := by decide) (he : starEach (e :: es) X.env = (false, eval e X.env) :: starEach es X.env := by rfl) (hpl : (backTo pos (starEach es X.env)).any (·.1) = false := by rfl) :
    PE X (.Call (.Name x p) (e :: es) [] pos) (tMakeS C sp E t) := by
  refine ⟨fun pins s σ H Q I h => ?_⟩
  refine wpAny_Call_Name_kw (ld_glob I hg hm ?_ hdb)
  refine PySem.W.callWith_K (h₀ := X.base) I.ok.mod.kin M.kp (thn (ha.run pos pins s σ H _ I h) fun us s1 ⟨vs, H1, I1, r, q⟩ => ⟨I1.kIn, ?_⟩) he hpl
  exact run_makeS M F hr hb (hx σ) I1 r q
theorem rd_makeS {σ : L2.St} {H : Hp} {Q : VK} (h : t σ H fun vs H1 => ∀ x dx, H1 x = none → H1 dx = none → dx ≠ x → sp (.ref x :: vs) (upd (upd H1 dx (.own x)) x (.ins C dx [])) (fun v H2 => v = .non ∧ Q (.ref x) H2) (E σ)) : tMakeS C sp E t σ H Q := h
end
/-! classes -/
/-- an own error's class: its chain of bases -/
def ErrL (K : PySem.W.Frag) (NE X : Addr) : Prop := ∃ nm q N bs sn sub ab col dd k0 k1 k2 k3 k5 nid, K.lookup X = some (excClassObj nm q X N bs [.ref NE, .type "ValueError", .type "Exception", .type "BaseException", .type "object"] true sn sub ab col dd k0 k1 k2 k3 k5 nid)
section
variable {K : PySem.W.Frag} {NE X Y : Addr}
theorem ErrL.cls (h : ErrL K NE X) : PySem.W.isClsIn K X = true ∧ PySem.W.typeIn K (.ref X) = some (.type "type") ∧ ∀ b, PySem.W.subIn K (.ref X) b = some ([Value.ref X, .ref NE, .type "ValueError", .type "Exception", .type "BaseException", .type "object"].contains b) := by
  obtain ⟨nm, q, N, bs, sn, sub, ab, col, dd, k0, k1, k2, k3, k5, nid, e⟩ := h
  have hc : ∃ cd : ClassData, PySem.W.clsIn K X = some cd ∧ cd.mro = [Value.ref X, .ref NE, .type "ValueError", .type "Exception", .type "BaseException", .type "object"] := by
    unfold PySem.W.clsIn
    rw [e]
    exact ⟨_, rfl, rfl⟩
  obtain ⟨cd, hc, hm⟩ := hc
  refine ⟨?_, ?_, fun b => ?_⟩
  · unfold PySem.W.isClsIn
    rw [hc]
    rfl
  · show (K.lookup X).map (·.cls) = _
    rw [e]
    rfl
  · show PySem.W.mroIn K X b = _
    unfold PySem.W.mroIn
    rw [hc, Option.bind_some, hm]
    rfl
theorem ErrL.exc (h : ErrL K NE X) : PySem.W.subIn K (.ref X) (.type "BaseException") = some true := by
  rw [h.cls.2.2]
  simp
theorem kit_errs (h1 : ErrL K NE X) (h2 : ErrL K NE Y) (hn : Y ≠ NE) : PySem.W.kitOne K (.ref X) (.ref Y) = some (decide (X = Y)) := by
  by_cases e : X = Y
  · subst e
    rw [kit_self, decide_eq_true rfl]
  · rw [decide_eq_false e]
    refine kit_own h2.cls.1 h2.cls.2.1 ?_ fun z => absurd z e
    rw [h1.cls.2.2]
    have e1 : (Value.ref Y == Value.ref X) = false := by simpa using fun z : Y = X => e z.symm
    have e2 : (Value.ref Y == Value.ref NE) = false := by simpa using hn
    simp only [List.contains_cons, e1, e2, List.contains_nil, Bool.or_false, Bool.false_or]
    rfl
theorem kit_near (h1 : ErrL K NE X) (c1 : PySem.W.isClsIn K NE = true) (c2 : PySem.W.typeIn K (.ref NE) = some (.type "type")) : PySem.W.kitOne K (.ref X) (.ref NE) = some true := by
  by_cases e : X = NE
  · subst e
    exact kit_self
  · refine kit_own c1 c2 ?_ fun z => rfl
    rw [h1.cls.2.2]
    simp
theorem kit_ve (h1 : ErrL K NE X) : PySem.W.kitOne K (.ref X) (.type "ValueError") = some true := by
  unfold PySem.W.kitOne
  rw [if_neg (by simp)]
  show PySem.W.kitCls K (.ref X) (.type "ValueError") = some true
  have e := h1.cls.2.2 (.type "ValueError")
  show (if PySem.W.kitMeta "ValueError" = true then PySem.W.subIn K (.ref X) (.type "ValueError") else none) = some true
  rw [if_pos (by decide +kernel), e]
  simp
end
end NW

/-! What an except suite holds, an error with a dict: isinstance, its fields. -/
namespace NW
open PySem PySem.Spec PyProof.Rows L2
theorem boot_ValueError : bootBuiltins "ValueError" = some (.type "ValueError") := PyProof.Rows.Boot.«ValueError»
section
variable {X : Cx} {K : PySem.W.Frag} {a : Addr} {oe : Obj} {cls : Value} {d : Option Addr} {pn pins : List (Addr × Obj)} {σ : L2.St} {H : Hp} {s : Shared}
theorem suite_inst {D dx : Addr} {fs : List (Str × V)} (hz : Zc cls d oe) (hf : ∃ vs, oe.data = .fields vs) (I : Inv (X.suite a ((a, oe) :: pn)) pins σ H s) (hc : cls = .ref D) (hd : d = some dx) (hx : H dx = some (.xd fs)) :
    ∃ (od : Obj) (mA : Str → Option Value), PySem.W.InstAt s.heap a oe D (some od) ∧ (∀ name, PySem.W.lookIn name od = some (mA name)) ∧ ∀ f, RelO (fs.lookup f) (mA f) := by
  obtain ⟨hget, _⟩ := I.pin (a, oe) (List.mem_append.mpr (.inl List.mem_cons_self))
  obtain ⟨mA, hn, rel⟩ := (show ∃ mA, s.heap.Ns1 dx mA ∧ ∀ f, RelO (fs.lookup f) (mA f) from I.hok dx _ hx)
  obtain ⟨od, hod, look⟩ := lookIn_ns hn
  obtain ⟨vs, hv⟩ := hf
  refine ⟨od, mA, ?_, look, rel⟩
  obtain ⟨oc, od', oda, osl⟩ := oe
  obtain ⟨h1, h2⟩ := hz
  dsimp only at h1 h2 hv
  subst h1 h2 hv hc hd
  exact ⟨hget, rfl, rfl, hod⟩
/-- isinstance(e, c), e what the suite holds, with a dict -/
def rIsEx2 (K : PySem.W.Frag) (cls : Value) (d : Option Addr) (a : Addr) : List V → Hp → VK → Prop := fun xs H Q => ∃ (D dx : Addr) (fs : List (Str × V)) (c : V) (u : Value) (b : Bool), cls = .ref D ∧ d = some dx ∧ H dx = some (.xd fs) ∧ ExcC K D ∧ xs = [.ref a, c] ∧ ClsV c u ∧ PySem.W.kitOne K (.ref D) u = some b ∧ Q (.bl b) H
theorem call_isEx2 (h : X.K = K) (hz : Zc cls d oe) (hf : ∃ vs, oe.data = .fields vs) : CallR (X.suite a ((a, oe) :: pn)) (.builtin "isinstance") (rIsEx2 K cls d a) := by
  subst h
  intro pins s σ H xs us Q I r hh
  obtain ⟨D, dx, fs, c, u, b, hc, hd, hx, C, rfl, k, e, q⟩ := hh
  obtain ⟨u1, u2, rfl, r1, r2⟩ := vals2 r
  have e2 := k.eq r2
  subst e2
  cases (show u1 = Value.ref a from r1)
  obtain ⟨od, mA, J, _, _⟩ := suite_inst hz hf I hc hd hx
  have hcl : (PySem.W.clsIn X.K D).isSome = true := by
    have h := C.hd
    unfold PySem.W.hasDictIn at h
    cases hc : PySem.W.clsIn X.K D with
    | none => rw [hc] at h; cases h
    | some cd => rfl
  exact PySem.W.kia_one (PySem.W.kitx_exc hcl C.hg C.hk C.hs C.ha C.hn C.ht C.hm) I.kIn J e (fun z => nomatch z) fun tk => ⟨.bl b, H, I.kept (t' := tk) fun _ _ z => z, rfl, q⟩
/-- e.f -/
def tByEx (K : PySem.W.Frag) (cls : Value) (d : Option Addr) (a : Addr) (te : TE) (f : Str) : TE := fun σ H Q => te σ H fun x H1 => ∃ (D dx : Addr) (fs : List (Str × V)) (v : V), x = .ref a ∧ cls = .ref D ∧ d = some dx ∧ H1 dx = some (.xd fs) ∧ ExcC K D ∧ PySem.W.findIn K (.ref D) f = some none ∧ fs.lookup f = some v ∧ Q v H1
theorem pe_byEx {e : Expr} {te : TE} {f : Str} {pos : Pos} (h : X.K = K) (hz : Zc cls d oe) (hf : ∃ vs, oe.data = .fields vs) (he : PE (X.suite a ((a, oe) :: pn)) e te)
    (hb : attributeBase e f (X.suite a ((a, oe) :: pn)).env (eval e (X.suite a ((a, oe) :: pn)).env) = eval e (X.suite a ((a, oe) :: pn)).env) : PE (X.suite a ((a, oe) :: pn)) (.Attribute e f pos) (tByEx K cls d a te f) := by
  subst h
  refine ⟨fun pins s σ H Q I h => ?_⟩
  refine attr_of hb (thn (he.run pins s σ H _ I h) fun u s1 ⟨x, H1, I1, rx, D, dx, fs, v, ex, hc, hd, hx, C, hno, l, q⟩ => ?_)
  subst ex
  obtain rfl : u = Value.ref a := rx
  obtain ⟨od, mA, J, look, rel⟩ := suite_inst hz hf I1 hc hd hx
  obtain ⟨u, hu, ru⟩ := RelO.some_of (v := v) (o := mA f) (by rw [← l]; exact rel f)
  exact PySem.PX.exc_get I1.kIn J C.hg C.hk C.hs (PySem.W.findObj_own C.hd hno rfl (by rw [look, hu])) (handed_of ru) ⟨v, H1, I1.tok _, ru, q⟩
end
end NW

/-! list.count of a text among things of any kind; list.extend, list.clear. -/
namespace NW
open PySem PySem.Spec PyProof.Rows L2 SeqAt
theorem dict_eq_declines_str (l : Addr) (o : Obj) (es : Array DictEntry) (n : Nat) (hc : o.cls = .type "dict") (hd : o.data = .dict es n) (b : Str) (u : Tok) :
    Meets (Builtin.«dict.__eq__» ⟨[.ref l, .str b u], []⟩) (fun _ R s => s.heap.get? l = some o ∧ R (.ok (.ret .notImplemented)) s) :=
  .of_wp fun prog w A R s h => by obtain ⟨hp, g, d, tk, os⟩ := s; obtain ⟨hl, h⟩ := h; have f1 := F.sub_str_dict; obtain ⟨cls, dd, data, sl⟩ := o; dsimp only at hc hd; subst hc hd; wp_walk using wpAny_loadPart' hl, wpAny_load hl; exact ⟨_, rfl, h⟩
theorem str_eq_declines_dict (b : Str) (u : Tok) (l : Addr) (o : Obj) (es : Array DictEntry) (n : Nat) (hc : o.cls = .type "dict") (hd : o.data = .dict es n) :
    Meets (Builtin.«str.__eq__» ⟨[.str b u, .ref l], []⟩) (fun _ R s => s.heap.get? l = some o ∧ R (.ok (.ret .notImplemented)) s) :=
  .of_wp fun prog w A R s h => by obtain ⟨hp, g, d, tk, os⟩ := s; obtain ⟨hl, h⟩ := h; obtain ⟨cls, dd, data, sl⟩ := o; dsimp only at hc hd; subst hc hd; wp_walk using wpAny_loadPart' hl, wpAny_load hl; exact ⟨_, rfl, h⟩
theorem eqAt_dict_str {A : Around} {s : Shared} {l : Addr} {o : Obj} {es : Array DictEntry} {n : Nat} (ho : s.heap.get? l = some o) (hc : o.cls = .type "dict") (hd : o.data = .dict es n) (b : Str) (u : Tok) (hu : A.units < cLine) : EqAt A s (.ref l) (.str b u) false := fun prog w E Q h => by
  unfold eqBool
  refine wpAny_holding ?_
  refine wpAny_ite_split (fun hab => absurd (eq_of_beq hab) nofun) (fun _ => ?_)
  refine wpAny_bind ?_
  exact rc_eq_decline_or (k := false) ⟨_, ho, hc⟩ (typeIs_str s b u) (by decide) F.sub_str_dict F.slot_dict_eq F.slot_str_eq_refl
    (fun _ hq => call_meets F.slot_dict_eq ⟨_, ho, hc⟩ F.entry_dict_eq (F.args_dict_eq_2 _ _) (dict_eq_declines_str l o es n hc hd b u) ⟨ho, hq⟩)
    (fun _ hq => call_meets F.slot_str_eq_refl (typeIs_str s b u) F.entry_str_eq (F.args_str_eq_2 _ _) (str_eq_declines_dict b u l o es n hc hd) ⟨ho, hq⟩)
    (fun _ hq => wpAny_of_eq (rfl : isSame (.ref l) (.str b u) = pure false) hq) (.inr hu) (wpAny_truthy_bool h)
/-- a text, or a thing that == tells from every text -/
def MixV (K : PySem.W.Frag) (H : Hp) (v : V) : Prop := (∃ x, v = .str x) ∨ v = .non ∨ (∃ b, v = .bl b) ∨ (∃ i, v = .int i) ∨ (∃ a xs, v = .ref a ∧ (SqL K H a xs ∨ SqT K H a xs)) ∨ ∃ a kvs, v = .ref a ∧ H a = some (.dK kvs)
def isTx (x : Str) : Value → Bool
  | .str y _ => y == x
  | _ => false
theorem isTx_rel {x : Str} {v : V} {u : Value} (r : RelV v u) (m : ∀ b, v ≠ .byt b) : isTx x u = decide (v = .str x) := by
  cases v with
  | str y =>
    obtain ⟨t, rfl⟩ := r
    show (y == x) = _
    by_cases h : y = x
    · subst h; simp
    · rw [decide_eq_false (fun e => h (V.str.inj e))]
      exact beq_eq_false_iff_ne.mpr h
  | non => cases r; rfl
  | bl b => cases r; rfl
  | int i => obtain ⟨t, rfl⟩ := r; rfl
  | byt b => exact absurd rfl (m b)
  | flt b => obtain ⟨t, rfl⟩ := r; rfl
  | ref a => cases r; rfl
  | ty n => cases r; rfl
theorem count_rel {x : Str} : ∀ {vs : List V} {us : List Value}, Vals vs us → (∀ v ∈ vs, ∀ b, v ≠ .byt b) → us.countP (isTx x) = vs.count (.str x)
  | [], _, .nil, _ => rfl
  | v :: vs, _, .cons r t, h => by
    rw [List.countP_cons, List.count_cons, count_rel t (fun w hw => h w (List.mem_cons_of_mem _ hw)), isTx_rel r (h v List.mem_cons_self)]
    by_cases e : v = .str x
    · simp [e]
    · simp [e]
def rCntM (K : PySem.W.Frag) : V → List V → Hp → VK → Prop := fun x xs H Q => ∃ (p : Addr) (ys : List V) (l : Str), x = .ref p ∧ xs = [.str l] ∧ SqL K H p ys ∧ (∀ y ∈ ys, MixV K H y) ∧ Q (.int (ys.count (.str l) : Nat)) H
section
variable {X : Cx} {K : PySem.W.Frag}
theorem mt_countM (hK : X.K = K) (hu : X.A.units + 64 < cLine) : MtR X "list.count" (rCntM K) := by
  subst hK
  intro pins s σ H x xs v us Q I rx rxs h
  obtain ⟨p, ys, l, rfl, rfl, hs, hm, q⟩ := h
  cases rx
  obtain ⟨u, rfl, ru⟩ := rxs.one
  obtain ⟨t, rfl⟩ := ru
  obtain ⟨its, rv, ⟨⟨cls, dd, data, sl⟩, n, ho, hc, hdn, hd⟩, hlen⟩ := I.list hs
  simp only at hc hd
  subst hc hd
  have hin : X.A.in1.units < cLine := by show X.A.units + 1 < cLine; omega
  have hz : ∀ {vs : List V} {us : List Value}, Vals vs us → (∀ y ∈ vs, MixV X.K H y) → ∀ u ∈ us, SeqAt.EqAt X.A.in1 s u (.str l t) (isTx l u) := by
    intro vs us r
    induction r with
    | nil => intro _ u hu; exact (List.not_mem_nil hu).elim
    | @cons v u0 vs us rv _ ih =>
      intro hm u hu
      rcases List.mem_cons.mp hu with rfl | hu
      · rcases hm v List.mem_cons_self with ⟨x, rfl⟩ | rfl | ⟨b, rfl⟩ | ⟨i, rfl⟩ | ⟨a, xs, rfl, hx⟩ | ⟨a, kvs, rfl, hx⟩
        · obtain ⟨t', rfl⟩ := rv
          exact SeqAt.EqAt.str_str x t' l t
        · cases rv
          exact SeqAt.EqAt.none_str l t
        · cases rv
          exact SeqAt.EqAt.bool_str b l t
        · obtain ⟨t', rfl⟩ := rv
          exact SeqAt.EqAt.int_str i t' l t
        · cases rv
          rcases hx with hx | hx
          · obtain ⟨its, _, hl, _⟩ := I.list hx
            exact SeqAt.EqAt.list_str l t hl.isList hin
          · obtain ⟨its, _, hl, _⟩ := I.tuple hx
            exact SeqAt.EqAt.tuple_str l t hl hin
        · cases rv
          obtain ⟨_, _, _, _, o, es, ep, e1, e2, e3, _⟩ := I.hok a _ hx
          exact eqAt_dict_str e1 e2.1 e3 l t hin
      · exact ih (fun y hy => hm y (List.mem_cons_of_mem _ hy)) u hu
  refine call_meets PySem.F.slot_list_count ⟨_, ho, rfl⟩ PySem.F.entry_list_count (PySem.F.args_list_count_2 _ _)
    (SeqAt.list_countAt p its.toArray n dd sl (.str l t) (isTx l)) ⟨ho, fun y hy => hz rv hm y (by simpa using hy), ?_⟩
  have ec : its.toArray.toList.countP (isTx l) = ys.count (.str l) := by
    have : its.toArray.toList = its := by simp
    rw [this]
    refine count_rel rv fun y hy b e => ?_
    rcases hm y hy with ⟨x, h⟩ | h | ⟨c, h⟩ | ⟨i, h⟩ | ⟨a, xs, h, _⟩ | ⟨a, kvs, h, _⟩ <;> rw [e] at h <;> cases h
  refine ⟨.int (ys.count (.str l) : Nat), H, I.tok _, ⟨s.toks, ?_⟩, q⟩
  show Value.int ((its.toArray.toList.countP (isTx l) : Nat) : Int) s.toks = Value.int ((ys.count (.str l) : Nat) : Int) s.toks
  rw [ec]
end
/-! text.count of one sign -/
theorem occ_cnt (l : List Nat) (c : Nat) : ∀ (k i : Nat) (st : Array Nat × Nat), i + k = l.length + 1 → st.2 ≤ i → st.1.size + k ≤ l.length + 1 →
    (forIn (List.range' i k) st (StrLaws.occBody (tx l) (tx [c]) l.length (l.length + 1))).run.fst.size = st.1.size + (l.drop i).count c
  | 0, i, st, h1, h2, h3 => by
    have e : l.drop i = [] := List.drop_eq_nil_of_le (by omega)
    rw [e]
    simp
  | k + 1, i, st, h1, h2, h3 => by
    rw [List.range'_succ, List.forIn_cons]
    unfold StrLaws.occBody
    have hsub : (tx [c]).length = 1 := tx_length [c]
    have hs : (i + (tx [c]).length ≤ (tx l).length ∧ Builtin.Str.subAt (tx l) (tx [c]) i = true) ↔ l[i]? = some c := StrLaws.subAt_one (tx l) c i
    have hl : (tx l).length = l.length := tx_length l
    by_cases hi : i < l.length
    · have hd : l.drop i = l[i] :: l.drop (i + 1) := List.drop_eq_getElem_cons hi
      by_cases hc : l[i] = c
      · have hs' : Builtin.Str.subAt (tx l) (tx [c]) i = true := (hs.mpr (by rw [List.getElem?_eq_getElem hi, hc])).2
        rw [if_pos ⟨⟨⟨by omega, h2⟩, by omega⟩, hs'⟩]
        have ih := occ_cnt l c k (i + 1) (st.1.push i, i + (tx [c]).length) (by omega) (by show i + (tx [c]).length ≤ i + 1; rw [hsub]; exact Nat.le_refl _) (by simp only [Array.size_push]; omega)
        refine Eq.trans ih ?_
        rw [hd, hc]
        simp only [Array.size_push, List.count_cons_self]
        omega
      · have hs' : ¬ Builtin.Str.subAt (tx l) (tx [c]) i = true := fun h => hc (by
          have := hs.mp ⟨by omega, h⟩
          rw [List.getElem?_eq_getElem hi] at this
          exact Option.some.inj this)
        rw [if_neg (fun h => hs' h.2)]
        refine Eq.trans (occ_cnt l c k (i + 1) (st.1, st.2) (by omega) (by show st.2 ≤ i + 1; omega) (by show st.1.size + k ≤ _; omega)) ?_
        rw [hd, List.count_cons_of_ne (fun e => hc e)]
    · rw [if_neg (fun h => by have := h.1.2; omega)]
      refine Eq.trans (occ_cnt l c k (i + 1) (st.1, st.2) (by omega) (by show st.2 ≤ i + 1; omega) (by show st.1.size + k ≤ _; omega)) ?_
      rw [List.drop_eq_nil_of_le (show l.length ≤ i by omega), List.drop_eq_nil_of_le (show l.length ≤ i + 1 by omega)]
theorem count_tx (l : List Nat) (c : Nat) : Txt.count (tx l) (tx [c]) = ((l.count c : Nat) : Int) := by
  unfold Txt.count
  have hl : (tx l).length = l.length := tx_length l
  rw [StrLaws.occ_eq, Array.length_toList, hl]
  have := occ_cnt l c (l.length + 1) 0 (#[], 0) (by omega) (Nat.le_refl _) (by simp)
  rw [Nat.sub_zero, this]
  simp
def rCntS : V → List V → Hp → VK → Prop := fun x xs H Q => ∃ a b, x = .str a ∧ xs = [.str b] ∧ Q (.int (Txt.count a b)) H
theorem mt_countA {X : Cx} : MtR X "str.count" rCntS := mt_count
theorem cnt_s {H : Hp} {Q : VK} {l : List Nat} {c : Nat} (h : Q (.int (l.count c : Nat)) H) : rCntS (.str (tx l)) [.str (tx [c])] H Q := ⟨tx l, tx [c], rfl, rfl, by rw [count_tx]; exact h⟩
theorem clear_l {H : Hp} {Q : VK} {p : Addr} {xs : List V} (h : H p = some (.lst xs)) (q : Q .non (upd H p (.lst []))) : rClear (.ref p) [] H Q := ⟨p, xs, rfl, rfl, h, q⟩
theorem extend_l {H : Hp} {Q : VK} {p b : Addr} {xs zs : List V} (h : H p = some (.lst xs)) (hb : H b = some (.lst zs)) (z : xs.length + zs.length ≤ 100000) (q : Q .non (upd H p (.lst (xs ++ zs)))) : rExtend (.ref p) [.ref b] H Q :=
  ⟨p, b, xs, zs, rfl, rfl, h, hb, Nat.le_trans z (by decide), q⟩
end NW

/-! A comprehension with a test whose values are new objects. -/
namespace NW
open PySem PySem.Spec PyProof.Rows L2 Evl
section
variable {K : PySem.W.Frag} {σ : L2.St} {H : Hp} {te : TE} {t : TT} {wi : TI} {xs : List V}
/-- [te for j in .. if t], new objects: of each item that passes -/
theorem rd_lcFR {j : Nat} {vs : List Nat} {Q : VK} (h : WkX wi σ H xs) (p : V → Bool) (R : Addr → Hp → V → V → Prop) (hz : xs.length ≤ 40000) (hw : ∀ x, wipe ((wipe σ vs).set j (some x)) vs = wipe σ vs)
    (ht : ∀ (i : Nat) x, xs[i]? = some x → ∀ H1, Ex H H1 → ∀ Q' : Bool → Hp → Prop, (∀ H2, Ex H1 H2 → Q' (p x) H2) → t ((wipe σ vs).set j (some x)) H1 Q')
    (he : ∀ (i : Nat) x, xs[i]? = some x → p x = true → ∀ H1 D acc, Ex H H1 → H1 D = some (.lst acc) → ∀ Q' : VK, (∀ v H2, Ex H1 H2 → R D H2 x v → Q' v H2) → te ((wipe σ vs).set j (some x)) H1 Q')
    (hx : ∀ D H1 H2 i v, Ex H1 H2 → R D H1 i v → R D H2 i v) (hm : ∀ D H1 o i v, R D H1 i v → R D (upd H1 D o) i v)
    (q : ∀ P H1 us, H P = none → Ex H H1 → H1 P = some (.lst us) → Pairs (R P H1) (xs.filter p) us → Q (.ref P) H1) : tLc wi (gName j) t te vs σ H Q :=
  h H (Ex.refl H) _ fun J H1 e1 ⟨G, W, WG⟩ Dl hD => by
  have mono : ∀ {D H1 H2 as us}, (∀ i v, R D H1 i v → R D H2 i v) → Pairs (R D H1) as us → Pairs (R D H2) as us := fun f hp => hp.mono f
  have tk : ∀ {i x}, xs[i]? = some x → xs.take (i + 1) = xs.take i ++ [x] := fun h => by rw [List.take_succ, h]; rfl
  refine lc_it (G := G) W (fun i H' => Ex H1 H' ∧ ∃ acc, H' Dl = some (.lst acc) ∧ Pairs (R Dl H') ((xs.take i).filter p) acc) ⟨Ex.new hD, [], upd_same, .nil⟩ (fun _ _ _ pv => WG _ (e1.trans pv.1) fun b o _ hb => pv.1 _ _ hb) (fun i x H' H'' hi pv hy => ?_) (fun H' pv => ?_)
  · obtain ⟨rfl, hxi⟩ := hy
    obtain ⟨p1, acc, p2, p3⟩ := pv
    refine ⟨hw _, ht i x hxi _ (e1.trans p1) _ fun H3 e3 => ?_⟩
    have p2' := e3 _ _ p2
    have p3' := mono (fun _ _ r => hx _ _ _ _ _ e3 r) p3
    cases hpx : p x with
    | false =>
      rw [if_neg (by decide)]
      refine ⟨p1.trans e3, acc, p2', ?_⟩
      rw [tk hxi, List.filter_append, List.filter_cons, if_neg (by rw [hpx]; decide)]
      simpa using p3'
    | true =>
      rw [if_pos rfl]
      have hl := p3.1
      have hl2 := List.length_filter_le p (xs.take i)
      rw [List.length_take] at hl2
      refine he i x hxi hpx _ Dl acc ((e1.trans p1).trans e3) p2' _ fun v H4 e4 r => ⟨acc, e4 _ _ p2', sz_lt (by omega), Ex.mut ((p1.trans e3).trans e4) hD, acc ++ [v], upd_same, ?_⟩
      rw [tk hxi, List.filter_append, List.filter_cons, if_pos hpx]
      exact mono (fun _ _ r => hm _ _ _ _ _ r) (Pairs.snoc (mono (fun _ _ r => hx _ _ _ _ _ e4 r) p3') r)
  · obtain ⟨p1, acc, p2, p3⟩ := pv
    rw [List.take_length] at p3
    exact q Dl H' acc (fresh_back e1 hD) (e1.trans p1) p2 p3
theorem rd_lstRg1 {Q : VK} (h : te σ H fun x H1 => ∃ n, x = .int n ∧ RgOk 0 n ∧ ∀ q, H1 q = none → Q (.ref q) (upd H1 q (.lst (rgV 0 n)))) : tLstRg (tRg1 te) σ H Q := h
end
end NW

/-! enumerate(tuple), enumerate(text): walks and comprehensions. -/
namespace NW
open PySem PySem.Spec PyProof.Rows L2 Evl
theorem meets_enum1 {v : Value} {o : Obj} {H : Heap → Prop} (B : Begins v o H) :
    Meets (Builtin.«enumerate.__new__» ⟨[.type "enumerate", v], []⟩) (fun _ R s => H s.heap ∧
      R (.ok (.ret (.ref (s.heap.push o).objs.size))) { s with heap := (s.heap.push o).push { cls := .type "enumerate", data := .fields #[.none, .bool false, .ref s.heap.objs.size, rawInt 0, .none, .none] } }) :=
  .of_wp fun prog w A R s h => by
    obtain ⟨hp, g, d, tk, os⟩ := s; obtain ⟨h1, h⟩ := h
    have hsub := sub_enumerate
    have q1 : ∀ {A' : Around} {E : Value → Shared → Prop} {Q : Value → Shared → Prop}, Q (.ref hp.objs.size) ⟨hp.push o, g, d, tk, os⟩ → wpAny (model prog w) A' (pyIter v) Q E ⟨hp, g, d, tk, os⟩ :=
      fun q => B.iter prog w _ _ ⟨hp, g, d, tk, os⟩ _ h1 q
    wp_walk using q1
    refine wpAny_stack_any fun st => wpAny_pure ?_
    split
    · rename_i c _ _ _ _ _
      cases (c == Value.type "enumerate")
      · wp_walk using q1
        exact ⟨_, rfl, h⟩
      · wp_walk using q1
        exact ⟨_, rfl, h⟩
    · wp_walk using q1
      exact ⟨_, rfl, h⟩
section
variable {prog : Program} {w : World} {A : Around} {E : Value → Shared → Prop} {s : Shared}
theorem enum_begins1 {v : Value} {o : Obj} {H : Heap → Prop} {Q : Value → Shared → Prop} (B : Begins v o H) (h1 : H s.heap)
    (h : ∀ h', IsEnum h' (s.heap.objs.size + 1) s.heap.objs.size 0 .none → h'.get? s.heap.objs.size = some o → h'.objs.size = s.heap.objs.size + 2 →
      (∀ b o, s.heap.get? b = some o → h'.get? b = some o) → Q (.ref (s.heap.objs.size + 1)) { s with heap := h' }) :
    wpAny (model prog w) A (call (.type "enumerate") [v]) Q E s := by
  refine callType_new F.called_enumerate (by decide) (F.typeCall_enumerate_1 _) (F.newCall_enumerate_1 _) (fun obj => F.args_object_init_2 obj _) F.entry_enumerate_new
    (meets_enum1 B) ⟨h1, ?_⟩
  have hz : (s.heap.push o).objs.size = s.heap.objs.size + 1 := Heap.size_push ..
  show _ ∧ _
  rw [hz]
  have he : IsEnum ((s.heap.push o).push { cls := .type "enumerate", data := .fields #[.none, .bool false, .ref s.heap.objs.size, rawInt 0, .none, .none] }) (s.heap.objs.size + 1) s.heap.objs.size 0 .none := by
    have := Heap.get?_push_size (s.heap.push o) (o := { cls := .type "enumerate", data := .fields #[.none, .bool false, .ref s.heap.objs.size, rawInt 0, .none, .none] }) rfl
    rw [hz] at this; exact this
  refine ⟨⟨_, he, rfl⟩, h _ he (Heap.get?_push_of_some _ (Heap.get?_push_size _ B.free)) (by rw [Heap.size_push, hz]) fun b o x => Heap.get?_push_of_some _ (Heap.get?_push_of_some _ x)⟩
end
/-! ### a tuple -/
def IteT (K : PySem.W.Frag) (a : Addr) : It :=
  ⟨fun i H => ∃ (xs : List V) (x : V), SqT K H a xs ∧ xs[i]? = some x, fun i H v H' => ∃ T x, v = .ref T ∧ H T = none ∧ H' = upd H T (.tup [.int (i : Nat), x]) ∧ ∀ xs, SqT K H a xs → xs[i]? = some x, fun i H => ∃ xs : List V, SqT K H a xs ∧ xs.length = i⟩
theorem int0 (i : Nat) : (0 : Int) + (i : Int) = (i : Int) := by omega
theorem turn_enumT {P : Program} {w : World} {K : PySem.W.Frag} {elts : List Expr} {kk : Nat} {tpos : Pos} (a e it : Addr) (hai : a ≠ it) (hae : a ≠ e) :
    Turn P w K (.Tuple elts kk tpos) (IteT K a) [e, it] e (fun i h => (∃ old, IsEnum h e it ((i : Nat) : Int) old) ∧ h.IsTupleIter it a i ∧ e ≠ it) where
  mem := by simp
  obj := fun i h st b hb => by
    obtain ⟨⟨old, he⟩, ⟨o, ho, hc, hd⟩, _⟩ := st
    have e' : b = e ∨ b = it := by simpa using hb
    rcases e' with z | z
    · rw [z]; exact ⟨_, he, fun v q => nomatch q⟩
    · rw [z]; exact ⟨o, ho, fun v q => by rw [hd] at q; cases q⟩
  keep := fun i h h' st k => let ⟨⟨old, he⟩, hi, hne⟩ := st; ⟨⟨old, k e (by simp) _ he⟩, hi.at fun o q => k it (by simp) o q, hne⟩
  item := by
    intro X hP hw hK hc i pins s σ H E I hf st hg
    subst hP hw hK
    obtain ⟨⟨old, he⟩, hit, hne⟩ := st
    obtain ⟨xs, x, hq, hx⟩ := hg
    obtain ⟨its, rv, p, hz⟩ := I.tuple hq
    obtain ⟨u, hu, ru⟩ := rv.get hx
    have hel : e < s.heap.objs.size := Heap.lt_size he
    have hil : it < s.heap.objs.size := by obtain ⟨_, q, _⟩ := hit; exact Heap.lt_size q
    have hT : s.heap.IsTuple a its.toArray := p
    have hi : i < its.toArray.size := by
      have hu' : its.toArray[i]? = some u := by simpa using hu
      exact (Array.getElem?_eq_some_iff.mp hu').1
    have Gz : GoesN X.prog X.w X.A (.Tuple elts kk tpos) e (e :: [it, a]) [e, it] its.toArray.size _ _ :=
      GoesN.enumFrom 0 (Draws.tuple (by exact I.ok.hd hc) it a hai its.toArray) e hne (by simp [hne, Ne.symm hae]) (by simp)
    refine wpAny_mono (Gz.goes i s (fun v s2 => ∃ x' H', Inv X pins σ H' s2 ∧ RelV x' v ∧ (IteT X.K a).yld i H x' H' ∧ ((∃ old, IsEnum s2.heap e it (((i + 1 : Nat)) : Int) old) ∧ s2.heap.IsTupleIter it a (i + 1) ∧ e ≠ it) ∧ ∀ b ∈ [e, it], H' b = none) E hi ⟨⟨old, by rw [int0]; exact he⟩, hit, hT⟩ (fun v h' tk hY hst hk htk => ?_)) (fun r s1 q => q) fun _ _ e => e
    obtain ⟨T, t, y, rfl, hsz, hy, hTt⟩ := hY
    have hTnone : H T = none := I.hok.fresh hsz
    have hy' : its[i]? = some y := by simpa using hy
    have hyu : y = u := by rw [hu] at hy'; exact (Option.some.inj hy').symm
    subst hyu
    obtain ⟨⟨old2, he2⟩, hit2, _⟩ := hst
    have new : ObjOk X.prog X.w (upd H T (.tup [.int (i : Nat), x])) h' T (.tup [.int (i : Nat), x]) :=
      ⟨by show 2 ≤ sizeLine; decide, [.int (0 + (i : Int)) t, y], .cons ⟨t, by rw [int0]⟩ (.cons ru .nil), hTt⟩
    have I1 : Inv X pins σ (upd H T (.tup [.int (i : Nat), x])) { s with heap := h', toks := tk } :=
      I.turnedNew (t' := tk) (ch := [e, it]) (fun b o hb q => hk b o hb q) hf hsz new
    refine ⟨.ref T, _, I1, rfl, ⟨T, x, rfl, hTnone, rfl, fun ys hy => by rw [I.tuple_inj hy hq]; exact hx⟩, ⟨⟨old2, by rw [int0] at he2; exact he2⟩, hit2, hne⟩, fun b hb => ?_⟩
    have hb' : b < s.heap.objs.size := by
      have e' : b = e ∨ b = it := by simpa using hb
      rcases e' with z | z
      · rw [z]; exact hel
      · rw [z]; exact hil
    rw [upd_ne (Nat.ne_of_lt (Nat.lt_of_lt_of_le hb' hsz))]
    exact (hf b hb).1
  done := by
    intro X hP hw hK hc i pins s σ H E I hf st hg
    subst hP hw hK
    obtain ⟨⟨old, he⟩, hit, hne⟩ := st
    obtain ⟨xs, hq, hx⟩ := hg
    obtain ⟨its, rv, p, hz⟩ := I.tuple hq
    have hT : s.heap.IsTuple a its.toArray := p
    have hl := rv.length
    have hi : i = its.toArray.size := by simp; omega
    subst hi
    have Gz : GoesN X.prog X.w X.A (.Tuple elts kk tpos) e (e :: [it, a]) [e, it] its.toArray.size _ _ :=
      GoesN.enumFrom 0 (Draws.tuple (by exact I.ok.hd hc) it a hai its.toArray) e hne (by simp [hne, Ne.symm hae]) (by simp)
    exact Gz.stops s (fun s1 => Inv X pins σ H s1) E ⟨⟨old, by rw [int0]; exact he⟩, hit, hT⟩ fun h' tk hk _ => I.turnedL (t' := tk) (ch := [e, it]) (fun b o hb q => hk b o hb q) hf
  self := fun A i s Q E st h => let ⟨⟨_, he⟩, _⟩ := st; wpAny_pyIter_enum he h
def iEnumT (K : PySem.W.Frag) (ta : TA) : TI := fun σ H R => ta σ H fun vs H1 => ∃ a xs, vs = [.ref a] ∧ SqT K H1 a xs ∧ R (IteT K a) H1
theorem pi_enumT {X : Cx} {K : PySem.W.Frag} {e : Expr} {ta : TA} {p pos tpos : Pos} {elts : List Expr} {kk : Nat} (hK : X.K = K) (hg : Gl X "enumerate") (hm : X.mg "enumerate" = none) (ha : PA X [e] ta) (hs : starEach [e] X.env = [(false, eval e X.env)] := by rfl) :
    PI X (.Tuple elts kk tpos) (.Call (.Name "enumerate" p) [e] [] pos) (iEnumT K ta) := by
  subst hK
  refine ⟨fun pins s σ H R I h => ?_⟩
  refine Call_ (ld_blt I hg hm boot_enumerate (PyProof.Rows.callWith_type1 (thn (ha.run pos pins s σ H _ I h) fun us s1 ⟨vs, H1, I1, r1, q1⟩ => ?_) hs rfl))
  obtain ⟨a, xs, ex, hq, q⟩ := q1
  subst ex
  cases r1 with
  | cons r rr =>
    cases rr
    cases r
    obtain ⟨its, rv, p', hz⟩ := I1.tuple hq
    have hT : s1.heap.IsTuple a its.toArray := p'
    refine enum_begins1 (begins_tuple a its.toArray) hT fun h' he hit hsz hk => wpAny_pyIter_enum he ?_
    have I2 : Inv X pins σ H1 { s1 with heap := h' } := I1.kept (t' := s1.toks) hk
    have hal : a < s1.heap.objs.size := by obtain ⟨_, y, _⟩ := hT; exact Heap.lt_size y
    refine ⟨s1.heap.objs.size + 1, [s1.heap.objs.size + 1, s1.heap.objs.size], _, _, H1, rfl, I2, turn_enumT a (s1.heap.objs.size + 1) s1.heap.objs.size (Nat.ne_of_lt hal) (Nat.ne_of_lt (Nat.lt_succ_of_lt hal)), ⟨⟨.none, he⟩, ⟨_, hit, rfl, rfl⟩, Nat.succ_ne_self _⟩, fun b hb => ?_, q⟩
    have e' : b = s1.heap.objs.size + 1 ∨ b = s1.heap.objs.size := by simpa using hb
    have hle : s1.heap.objs.size ≤ b := by
      rcases e' with z | z
      · rw [z]; exact Nat.le_add_right _ _
      · rw [z]; exact Nat.le_refl _
    exact I1.fpOk hle (I1.hok.fresh hle)
/-! ### a text -/
def IteS (x : Str) : It :=
  ⟨fun i _ => i < x.cps.size, fun i H v H' => ∃ T c, v = .ref T ∧ H T = none ∧ H' = upd H T (.tup [.int (i : Nat), .str ⟨#[c]⟩]) ∧ x.cps[i]? = some c, fun i _ => i = x.cps.size⟩
theorem turn_enumS {P : Program} {w : World} {K : PySem.W.Frag} {elts : List Expr} {kk : Nat} {tpos : Pos} (x : Str) (t : Tok) (e it : Addr) :
    Turn P w K (.Tuple elts kk tpos) (IteS x) [e, it] e (fun i h => (∃ old, IsEnum h e it ((i : Nat) : Int) old) ∧ h.IsStrIter it (strIterType x) x t i ∧ e ≠ it) where
  mem := by simp
  obj := fun i h st b hb => by
    obtain ⟨⟨old, he⟩, ⟨o, ho, hc, hd⟩, _⟩ := st
    have e' : b = e ∨ b = it := by simpa using hb
    rcases e' with z | z
    · rw [z]; exact ⟨_, he, fun v q => nomatch q⟩
    · rw [z]; exact ⟨o, ho, fun v q => by rw [hd] at q; cases q⟩
  keep := fun i h h' st k => let ⟨⟨old, he⟩, ⟨o, ho, r⟩, hne⟩ := st; ⟨⟨old, k e (by simp) _ he⟩, ⟨o, k it (by simp) _ ho, r⟩, hne⟩
  item := by
    intro X hP hw hK hc i pins s σ H E I hf st hg
    subst hP hw hK
    obtain ⟨⟨old, he⟩, hit, hne⟩ := st
    have hel : e < s.heap.objs.size := Heap.lt_size he
    have hil : it < s.heap.objs.size := by obtain ⟨_, q, _⟩ := hit; exact Heap.lt_size q
    have Gz : GoesN X.prog X.w X.A (.Tuple elts kk tpos) e (e :: [it]) [e, it] x.cps.size _ _ :=
      GoesN.enumFrom 0 (Draws.text (by exact I.ok.hd hc) it x t) e hne (by simp [hne]) (by simp)
    refine wpAny_mono (Gz.goes i s (fun v s2 => ∃ x' H', Inv X pins σ H' s2 ∧ RelV x' v ∧ (IteS x).yld i H x' H' ∧ ((∃ old, IsEnum s2.heap e it (((i + 1 : Nat)) : Int) old) ∧ s2.heap.IsStrIter it (strIterType x) x t (i + 1) ∧ e ≠ it) ∧ ∀ b ∈ [e, it], H' b = none) E hg ⟨⟨old, by rw [int0]; exact he⟩, hit⟩ (fun v h' tk hY hst hk htk => ?_)) (fun r s1 q => q) fun _ _ e => e
    obtain ⟨T, u, y, rfl, hsz, ⟨c, u2, hcx, rfl⟩, hTt⟩ := hY
    have hTnone : H T = none := I.hok.fresh hsz
    obtain ⟨⟨old2, he2⟩, hit2⟩ := hst
    have new : ObjOk X.prog X.w (upd H T (.tup [.int (i : Nat), .str ⟨#[c]⟩])) h' T (.tup [.int (i : Nat), .str ⟨#[c]⟩]) :=
      ⟨by show 2 ≤ sizeLine; decide, [.int (0 + (i : Int)) u, .str ⟨#[c]⟩ u2], .cons ⟨u, by rw [int0]⟩ (.cons ⟨u2, rfl⟩ .nil), hTt⟩
    have I1 : Inv X pins σ (upd H T (.tup [.int (i : Nat), .str ⟨#[c]⟩])) { s with heap := h', toks := tk } :=
      I.turnedNew (t' := tk) (ch := [e, it]) (fun b o hb q => hk b o hb q) hf hsz new
    refine ⟨.ref T, _, I1, rfl, ⟨T, c, rfl, hTnone, rfl, hcx⟩, ⟨⟨old2, by rw [int0] at he2; exact he2⟩, hit2, hne⟩, fun b hb => ?_⟩
    have hb' : b < s.heap.objs.size := by
      have e' : b = e ∨ b = it := by simpa using hb
      rcases e' with z | z
      · rw [z]; exact hel
      · rw [z]; exact hil
    rw [upd_ne (Nat.ne_of_lt (Nat.lt_of_lt_of_le hb' hsz))]
    exact (hf b hb).1
  done := by
    intro X hP hw hK hc i pins s σ H E I hf st hg
    subst hP hw hK
    obtain ⟨⟨old, he⟩, hit, hne⟩ := st
    have hg' : i = x.cps.size := hg
    subst hg'
    have Gz : GoesN X.prog X.w X.A (.Tuple elts kk tpos) e (e :: [it]) [e, it] x.cps.size _ _ :=
      GoesN.enumFrom 0 (Draws.text (by exact I.ok.hd hc) it x t) e hne (by simp [hne]) (by simp)
    exact Gz.stops s (fun s1 => Inv X pins σ H s1) E ⟨⟨old, by rw [int0]; exact he⟩, hit⟩ fun h' tk hk _ => I.turnedL (t' := tk) (ch := [e, it]) (fun b o hb q => hk b o hb q) hf
  self := fun A i s Q E st h => let ⟨⟨_, he⟩, _⟩ := st; wpAny_pyIter_enum he h
def iEnumS (ta : TA) : TI := fun σ H R => ta σ H fun vs H1 => ∃ x, vs = [.str x] ∧ R (IteS x) H1
theorem pi_enumS {X : Cx} {e : Expr} {ta : TA} {p pos tpos : Pos} {elts : List Expr} {kk : Nat} (hg : Gl X "enumerate") (hm : X.mg "enumerate" = none) (ha : PA X [e] ta) (hs : starEach [e] X.env = [(false, eval e X.env)] := by rfl) :
    PI X (.Tuple elts kk tpos) (.Call (.Name "enumerate" p) [e] [] pos) (iEnumS ta) := by
  refine ⟨fun pins s σ H R I h => ?_⟩
  refine Call_ (ld_blt I hg hm boot_enumerate (PyProof.Rows.callWith_type1 (thn (ha.run pos pins s σ H _ I h) fun us s1 ⟨vs, H1, I1, r1, q1⟩ => ?_) hs rfl))
  obtain ⟨x, ex, q⟩ := q1
  subst ex
  cases r1 with
  | cons r rr =>
    cases rr
    obtain ⟨t, rfl⟩ := r
    refine call_enumerate_str fun h' he hit hsz hk => wpAny_pyIter_enum he ?_
    have I2 : Inv X pins σ H1 { s1 with heap := h' } := I1.kept (t' := s1.toks) hk
    refine ⟨s1.heap.objs.size + 1, [s1.heap.objs.size + 1, s1.heap.objs.size], _, _, H1, rfl, I2, turn_enumS x t (s1.heap.objs.size + 1) s1.heap.objs.size, ⟨⟨.none, he⟩, hit, Nat.succ_ne_self _⟩, fun b hb => ?_, q⟩
    have e' : b = s1.heap.objs.size + 1 ∨ b = s1.heap.objs.size := by simpa using hb
    have hle : s1.heap.objs.size ≤ b := by
      rcases e' with z | z
      · rw [z]; exact Nat.le_add_right _ _
      · rw [z]; exact Nat.le_refl _
    exact I1.fpOk hle (I1.hok.fresh hle)
/-! ### in comprehensions -/
section
variable {K : PySem.W.Frag} {σ : L2.St} {H : Hp} {ta : TA} {xs : List V}
theorem wkt_enumT {a : Addr} (h : EvA ta σ H [.ref a]) (ha : SqT K H a xs) : WkT (iEnumT K ta) σ H (xs.mapIdx fun i x => [.int (i : Nat), x]) := fun H1 e1 R r => h H1 e1 _ fun H2 e2 => ⟨a, xs, rfl, ex_t (e1.trans e2) ha, r _ H2 e2 ⟨fun H => SqT K H a xs, by
  have hl : (xs.mapIdx fun i x => [V.int (i : Nat), x]).length = xs.length := List.length_mapIdx
  rw [hl]
  refine ⟨fun i H hi g => ⟨xs, xs[i], g, List.getElem?_eq_getElem hi⟩, fun H g => ⟨xs, g, rfl⟩, fun i H x H' hi g hy => ?_⟩
  obtain ⟨T, y, h1, h2, h3, h4⟩ := hy
  have h5 := h4 xs g
  exact ⟨T, [.int (i : Nat), y], by rw [List.getElem?_mapIdx, h5]; rfl, h1, h2, h3⟩, fun H3 e3 _ => ex_t e3 ha⟩⟩
theorem wkt_enumS {l : List Nat} (h : EvA ta σ H [.str (tx l)]) : WkT (iEnumS ta) σ H (l.mapIdx fun i c => [.int (i : Nat), .str (tx [c])]) := fun H1 e1 R r => h H1 e1 _ fun H2 e2 => ⟨tx l, rfl, r _ H2 e2 ⟨fun _ => True, by
  have hl : (l.mapIdx fun i c => [V.int (i : Nat), V.str (tx [c])]).length = l.length := List.length_mapIdx
  rw [hl]
  have hz : (tx l).cps.size = l.length := tx_size l
  refine ⟨fun i H hi g => ?_, fun H g => ?_, fun i H x H' hi g hy => ?_⟩
  · show i < (tx l).cps.size
    omega
  · show l.length = (tx l).cps.size
    omega
  · obtain ⟨T, c, h1, h2, h3, h4⟩ := hy
    rw [tx_get] at h4
    exact ⟨T, [.int (i : Nat), .str (tx [c])], by rw [List.getElem?_mapIdx, h4]; rfl, h1, h2, h3⟩, fun H3 e3 _ => trivial⟩⟩
end
end NW

/-! while with the measure told by the invariant; dicts with tuples of numbers as keys. -/
namespace NW
open PySem PySem.Spec PyProof.Rows L2 Evl
section
variable {σ : L2.St} {H : Hp} {t : TT} {tu : TS} {D : Ends}
theorem rd_whileN (W : Nat → L2.St → Hp → Prop) (m0 : Nat) (h0 : W m0 σ H)
    (hs : ∀ m σ' H', W m σ' H' → ∃ b, EvT t σ' H' b ∧ (b = true → ∀ H1, Ex H' H1 → tu { D with nx := fun σ2 H2 => ∃ m', m' < m ∧ W m' σ2 H2, ct := fun σ2 H2 => ∃ m', m' < m ∧ W m' σ2 H2, bk := D.nx } σ' H1) ∧ (b = false → ∀ H1, Ex H' H1 → D.nx σ' H1)) : tWhile t tu D σ H :=
  s_while W m0 h0 fun m σ' H' w => let ⟨b, hb, h1, h2⟩ := hs m σ' H' w; ⟨b, hb, fun e H1 x => ⟨_, fun _ _ q => q, h1 e H1 x⟩, h2⟩
end
/-! ### keys -/
def keyN (l : List Nat) : List Key := l.map fun n => .inl ((n : Nat) : Int)
theorem keyN_v (l : List Nat) : (keyN l).map kV = vInts l := by
  unfold keyN vInts
  rw [List.map_map]
  rfl
theorem keyN_inj {l m : List Nat} (h : keyN l = keyN m) : l = m := by
  unfold keyN at h
  exact (List.map_inj_right fun a b e => by have := Sum.inl.inj e; omega).mp h
def keyT (l : List (List Nat)) : List Key := l.map fun n => .inr (tx n)
theorem keyT_v (l : List (List Nat)) : (keyT l).map kV = vTxs l := by
  unfold keyT vTxs
  rw [List.map_map]
  rfl
theorem keyT_inj {l m : List (List Nat)} (h : keyT l = keyT m) : l = m := by
  unfold keyT at h
  exact (List.map_inj_right fun a b e => tx_inj (Sum.inr.inj e)).mp h
section
variable {κ α : Type} [DecidableEq κ]
/-- the dict of the first t things told by f, each with its place -/
def seqD (f : Nat → κ) (t : Nat) : List (κ × V) := (List.range t).map fun i => (f i, .int ((i : Nat) : Int))
theorem seqD_len (f : Nat → κ) (t : Nat) : (seqD f t).length = t := by unfold seqD; rw [List.length_map, List.length_range]
theorem seqD_val (f : Nat → κ) (k : κ) : ∀ t, (valV (seqD f t) k = none ∧ ∀ i, i < t → f i ≠ k) ∨ ∃ u, u < t ∧ f u = k ∧ valV (seqD f t) k = some (.int ((u : Nat) : Int))
  | 0 => .inl ⟨rfl, fun i h => by omega⟩
  | t + 1 => by
    have e : seqD f (t + 1) = seqD f t ++ [(f t, .int ((t : Nat) : Int))] := by
      unfold seqD
      rw [List.range_succ, List.map_append]
      rfl
    rcases seqD_val f k t with ⟨h, hn⟩ | ⟨u, hu, hf, hv⟩
    · by_cases hk : f t = k
      · refine .inr ⟨t, by omega, hk, ?_⟩
        unfold valV at h ⊢
        rw [Option.map_eq_none_iff] at h
        rw [e, List.find?_append, h]
        simp [hk]
      · refine .inl ⟨?_, fun i hi => ?_⟩
        · unfold valV at h ⊢
          rw [Option.map_eq_none_iff] at h
          rw [e, List.find?_append, h]
          simp [hk]
        · by_cases hi2 : i < t
          · exact hn i hi2
          · rw [show i = t by omega]; exact hk
    · refine .inr ⟨u, by omega, hf, ?_⟩
      unfold valV at hv ⊢
      rw [Option.map_eq_some_iff] at hv
      obtain ⟨q, hq, hq2⟩ := hv
      rw [e, List.find?_append, hq]
      simp [hq2]
theorem seqD_put {f : Nat → κ} {t : Nat} (h : ∀ i, i < t → f i ≠ f t) : putK (seqD f t) (f t) (.int ((t : Nat) : Int)) = seqD f (t + 1) := by
  rcases seqD_val f (f t) t with ⟨hv, _⟩ | ⟨u, hu, hf, _⟩
  · rw [putK_new _ hv]
    unfold seqD
    rw [List.range_succ, List.map_append]
    rfl
  · exact absurd hf (h u hu)
end
end NW

/-! the search that finds all that comes of a start by steps, in the order of the words that lead there. -/
namespace NW
open PySem PySem.Spec PyProof.Rows L2 Evl
section
variable {α : Type} [DecidableEq α] (f : α → Nat → α) (a0 : α) (gv : List Nat)
abbrev WA (α : Type) := List (List Nat × α)
def sndL (S : WA α) : List α := S.map (·.2)
def fstL (S : WA α) : List (List Nat) := S.map (·.1)
/-- the k-th with the letter c behind: put at the end if it is new -/
def addC (S : WA α) (k c : Nat) : WA α :=
  match S[k]? with
  | none => S
  | some e => if f e.2 c ∈ sndL S then S else S ++ [(e.1 ++ [c], f e.2 c)]
def rowC (S : WA α) (k : Nat) (cs : List Nat) : WA α := cs.foldl (fun S c => addC f S k c) S
def bfs : Nat → WA α
  | 0 => [([], a0)]
  | k + 1 => rowC f (bfs k) k gv
variable {f a0 gv}
theorem addC_pre {S : WA α} {k c : Nat} : S <+: addC f S k c := by
  unfold addC
  split
  · exact List.prefix_rfl
  · split
    · exact List.prefix_rfl
    · exact List.prefix_append _ _
theorem rowC_pre {k : Nat} : ∀ {cs : List Nat} {S : WA α}, S <+: rowC f S k cs
  | [], S => List.prefix_rfl
  | c :: r, S => (addC_pre (f := f) (k := k) (c := c)).trans (rowC_pre (cs := r) (S := addC f S k c))
theorem bfs_step {k : Nat} : bfs f a0 gv k <+: bfs f a0 gv (k + 1) := rowC_pre
theorem bfs_pre {k j : Nat} (h : k ≤ j) : bfs f a0 gv k <+: bfs f a0 gv j := by
  induction j with
  | zero => rw [Nat.le_zero.mp h]; exact List.prefix_rfl
  | succ j ih =>
    by_cases e : k = j + 1
    · rw [e]; exact List.prefix_rfl
    · exact (ih (by omega)).trans bfs_step
theorem pre_get {β : Type} {S T : List β} (h : S <+: T) {i : Nat} {x : β} (e : S[i]? = some x) : T[i]? = some x := by
  obtain ⟨r, rfl⟩ := h
  rw [List.getElem?_append_left (List.getElem?_eq_some_iff.mp e).1]
  exact e
theorem sndL_get {S : WA α} {i : Nat} {e : List Nat × α} (h : S[i]? = some e) : (sndL S)[i]? = some e.2 := by unfold sndL; rw [List.getElem?_map, h]; rfl
theorem fstL_get {S : WA α} {i : Nat} {e : List Nat × α} (h : S[i]? = some e) : (fstL S)[i]? = some e.1 := by unfold fstL; rw [List.getElem?_map, h]; rfl
theorem sndL_len {S : WA α} : (sndL S).length = S.length := by unfold sndL; rw [List.length_map]
theorem fstL_len {S : WA α} : (fstL S).length = S.length := by unfold fstL; rw [List.length_map]
/-- what holds of each entry -/
structure GoodS (f : α → Nat → α) (a0 : α) (gv : List Nat) (S : WA α) : Prop where
  nd : (sndL S).Nodup
  at_ : ∀ e ∈ S, e.2 = e.1.foldl f a0 ∧ ∀ c ∈ e.1, c ∈ gv
  fst : S[0]? = some ([], a0)
theorem addC_good {S : WA α} {k c : Nat} (h : GoodS f a0 gv S) (hc : c ∈ gv) : GoodS f a0 gv (addC f S k c) := by
  unfold addC
  split
  · exact h
  · rename_i e he
    split
    · exact h
    · rename_i hn
      refine ⟨?_, fun e' he' => ?_, ?_⟩
      · unfold sndL
        rw [List.map_append]
        refine List.nodup_append.mpr ⟨h.nd, by simp, fun a ha b hb => ?_⟩
        rw [List.map_singleton, List.mem_singleton] at hb
        subst hb
        intro e2
        exact hn (by have e3 : a = f e.2 c := e2; rw [← e3]; exact ha)
      · rcases List.mem_append.mp he' with q | q
        · exact h.at_ e' q
        · rw [List.mem_singleton] at q
          subst q
          obtain ⟨h1, h2⟩ := h.at_ e (List.mem_of_getElem? he)
          refine ⟨by rw [List.foldl_append, ← h1]; rfl, fun d hd => ?_⟩
          rcases List.mem_append.mp hd with q | q
          · exact h2 d q
          · rw [List.mem_singleton] at q; rw [q]; exact hc
      · exact pre_get (List.prefix_append _ _) h.fst
theorem rowC_good {k : Nat} : ∀ {cs : List Nat} {S : WA α}, GoodS f a0 gv S → (∀ c ∈ cs, c ∈ gv) → GoodS f a0 gv (rowC f S k cs)
  | [], S, h, _ => h
  | c :: r, S, h, hc => rowC_good (cs := r) (addC_good h (hc c List.mem_cons_self)) fun d hd => hc d (List.mem_cons_of_mem _ hd)
theorem bfs_good : ∀ k, GoodS f a0 gv (bfs f a0 gv k)
  | 0 => ⟨by simp [bfs, sndL], fun e he => by
      rw [bfs, List.mem_singleton] at he
      subst he
      exact ⟨rfl, fun c hc => by simp at hc⟩, rfl⟩
  | k + 1 => rowC_good (bfs_good k) fun _ h => h
theorem addC_has {S : WA α} {k c : Nat} {e : List Nat × α} (h : S[k]? = some e) : f e.2 c ∈ sndL (addC f S k c) := by
  unfold addC
  rw [h]
  show f e.2 c ∈ sndL (if f e.2 c ∈ sndL S then S else S ++ [(e.1 ++ [c], f e.2 c)])
  split
  · assumption
  · unfold sndL
    rw [List.map_append]
    simp
theorem mem_pre {S T : WA α} (h : S <+: T) {a : α} (ha : a ∈ sndL S) : a ∈ sndL T := by
  obtain ⟨r, rfl⟩ := h
  unfold sndL at ha ⊢
  rw [List.map_append]
  exact List.mem_append.mpr (.inl ha)
theorem rowC_has {k : Nat} : ∀ {cs : List Nat} {S : WA α} {e : List Nat × α}, S[k]? = some e → ∀ c ∈ cs, f e.2 c ∈ sndL (rowC f S k cs)
  | [], S, e, _, c, hc => by simp at hc
  | d :: r, S, e, h, c, hc => by
    rcases List.mem_cons.mp hc with rfl | hc
    · exact mem_pre (rowC_pre (cs := r)) (addC_has h)
    · exact rowC_has (cs := r) (S := addC f S k d) (pre_get addC_pre h) c hc
/-- the first k are done -/
theorem bfs_closed {k j : Nat} {e : List Nat × α} (hj : j < k) (h : (bfs f a0 gv k)[j]? = some e) (hl : j < (bfs f a0 gv j).length) {c : Nat} (hc : c ∈ gv) : f e.2 c ∈ sndL (bfs f a0 gv k) := by
  have h1 : (bfs f a0 gv j)[j]? = some e := by
    have h2 : (bfs f a0 gv j)[j]? = some ((bfs f a0 gv j)[j]) := List.getElem?_eq_getElem hl
    have h3 := pre_get (bfs_pre (Nat.le_of_lt hj)) h2
    rw [h3] at h
    rw [h2, h]
  exact mem_pre (bfs_pre (show j + 1 ≤ k by omega)) (rowC_has h1 c hc)
/-- the search has come to its end with N -/
structure Fits (f : α → Nat → α) (a0 : α) (gv : List Nat) (most N : Nat) : Prop where
  len : (bfs f a0 gv N).length = N
  le : N ≤ most
  on : ∀ j, j < N → j < (bfs f a0 gv j).length
/-- it finds more than so many -/
def TooBig (f : α → Nat → α) (a0 : α) (gv : List Nat) (most : Nat) : Prop := ∃ k, (∀ j, j ≤ k → j < (bfs f a0 gv j).length ∧ (bfs f a0 gv j).length ≤ most) ∧ most < (bfs f a0 gv (k + 1)).length
theorem fits_not {most N : Nat} (h : Fits f a0 gv most N) : ¬ TooBig f a0 gv most := by
  rintro ⟨k, h1, h2⟩
  by_cases hk : N ≤ k
  · have := (h1 N hk).1
    rw [h.len] at this
    omega
  · have h3 := (bfs_pre (f := f) (a0 := a0) (gv := gv) (show k + 1 ≤ N by omega)).length_le
    rw [h.len] at h3
    have := h.le
    omega
theorem fits_one {most N M : Nat} (h : Fits f a0 gv most N) (g : Fits f a0 gv most M) : N = M := by
  have one : ∀ {A B : Nat}, Fits f a0 gv most A → Fits f a0 gv most B → ¬ A < B := fun a b l => by
    have := b.on _ l
    rw [a.len] at this
    omega
  have h1 := one h g
  have h2 := one g h
  omega
/-- so far has it come, and not to its end -/
def Going (f : α → Nat → α) (a0 : α) (gv : List Nat) (most k : Nat) : Prop := (∀ j, j < k → j < (bfs f a0 gv j).length ∧ (bfs f a0 gv j).length ≤ most) ∧ (bfs f a0 gv k).length ≤ most ∧ k ≤ (bfs f a0 gv k).length
theorem going0 {most : Nat} (h : 1 ≤ most) : Going f a0 gv most 0 := ⟨fun j hj => by omega, h, Nat.zero_le _⟩
theorem going_fits {most k : Nat} (h : Going f a0 gv most k) (e : ¬ k < (bfs f a0 gv k).length) : Fits f a0 gv most k := by
  obtain ⟨h1, h2, h3⟩ := h
  exact ⟨by omega, by omega, fun j hj => (h1 j hj).1⟩
theorem going_next {most k : Nat} (h : Going f a0 gv most k) (e : k < (bfs f a0 gv k).length) (l : (bfs f a0 gv (k + 1)).length ≤ most) : Going f a0 gv most (k + 1) := by
  obtain ⟨h1, h2, h3⟩ := h
  refine ⟨fun j hj => ?_, l, ?_⟩
  · by_cases q : j < k
    · exact h1 j q
    · rw [show j = k by omega]
      exact ⟨e, h2⟩
  · have := (bfs_step (f := f) (a0 := a0) (gv := gv) (k := k)).length_le
    omega
theorem going_big {most k : Nat} (h : Going f a0 gv most k) (e : k < (bfs f a0 gv k).length) (l : most < (bfs f a0 gv (k + 1)).length) : TooBig f a0 gv most := by
  obtain ⟨h1, h2, h3⟩ := h
  refine ⟨k, fun j hj => ?_, l⟩
  by_cases q : j < k
  · exact h1 j q
  · rw [show j = k by omega]
    exact ⟨e, h2⟩
theorem going_le {most k : Nat} (h : Going f a0 gv most k) : k ≤ most := Nat.le_trans h.2.2 h.2.1
theorem fits_or {most : Nat} (h1 : 1 ≤ most) : (∃ N, Fits f a0 gv most N) ∨ TooBig f a0 gv most := by
  have key : ∀ d k, most - k = d → Going f a0 gv most k → (∃ N, Fits f a0 gv most N) ∨ TooBig f a0 gv most := by
    intro d
    induction d with
    | zero =>
      intro k hd g
      have := g.2.1
      have := g.2.2
      exact .inl ⟨k, going_fits g (by omega)⟩
    | succ d ih =>
      intro k hd g
      by_cases e : k < (bfs f a0 gv k).length
      · by_cases l : (bfs f a0 gv (k + 1)).length ≤ most
        · exact ih (k + 1) (by omega) (going_next g e l)
        · exact .inr (going_big g e (by omega))
      · exact .inl ⟨k, going_fits g e⟩
  exact key _ 0 rfl (going0 h1)
/-- at its end, what any word comes to is found -/
theorem fits_all {most N : Nat} (h : Fits f a0 gv most N) : ∀ (w : List Nat) (a : α), a ∈ sndL (bfs f a0 gv N) → (∀ c ∈ w, c ∈ gv) → w.foldl f a ∈ sndL (bfs f a0 gv N)
  | [], a, ha, _ => ha
  | c :: r, a, ha, hw => by
    rw [List.foldl_cons]
    refine fits_all h r _ ?_ fun d hd => hw d (List.mem_cons_of_mem _ hd)
    unfold sndL at ha
    obtain ⟨e, he, rfl⟩ := List.mem_map.mp ha
    obtain ⟨j, hj⟩ := List.mem_iff_getElem?.mp he
    have hjl := (List.getElem?_eq_some_iff.mp hj).1
    rw [h.len] at hjl
    exact bfs_closed hjl hj (h.on j hjl) (hw c List.mem_cons_self)
theorem fits_word {most N : Nat} (h : Fits f a0 gv most N) {w : List Nat} (hw : ∀ c ∈ w, c ∈ gv) : w.foldl f a0 ∈ sndL (bfs f a0 gv N) := by
  refine fits_all h w a0 ?_ hw
  exact List.mem_of_getElem? (sndL_get (bfs_good N).fst)
theorem fits_pos {most N : Nat} (h : Fits f a0 gv most N) : 0 < N := by
  have := (List.getElem?_eq_some_iff.mp (bfs_good (f := f) (a0 := a0) (gv := gv) N).fst).1
  rwa [h.len] at this
end
end NW

/-! comprehensions whose items may raise; methods that may raise. -/
namespace NW
open PySem PySem.Spec PyProof.Rows L2 Evl
theorem noteFrame_same {e : Value} {a b : Env} (h : a.frame = b.frame) : noteFrame e a = noteFrame e b := by
  unfold noteFrame PySem.frameOf
  rw [h]
section
variable {X : Cx} {pins : List (Addr × Obj)} {σ : L2.St} {H : Hp} {s s' : Shared} {W : WX}
/-- an object that no one knows is hidden -/
theorem inv_hide {C : Addr} (I : Inv X pins σ H s) (f : FpOk X pins H C) : Inv X pins σ H { s with heap := PySem.W.hideAll s.heap [C] } := by
  obtain ⟨f0, f1, f2, f3, f4, f5⟩ := f
  have k : ∀ b o, b ≠ C → s.heap.get? b = some o → (PySem.W.hideAll s.heap [C]).get? b = some o := fun b o n e => PySem.W.hideAll_get _ e (by simp [n])
  refine I.call' (ch := [C]) rfl ⟨fun b o e _ _ hc => k b o (fun z => hc (by simp [z])) e, fun b o e _ _ hc => ⟨o.slots, k b o (fun z => hc (by simp [z])) e⟩, fun _ _ _ n _ => n, fun b o e hc => ⟨o, k b o (fun z => hc (by simp [z])) e⟩, fun _ _ e => e, fun _ _ _ e => e, fun b ps e => ⟨#[], by rw [e]; simp⟩⟩
    (fun a o e => (I.hok a o e).stay (fun b u hb q => k b u (fun z => ?_) q) (fun _ q => q) fun _ _ q => q) I.bare fun b hb => ?_
  · rcases hb with hb | hb
    · rw [hb] at z; rw [z, f0] at e; cases e
    · rw [z, f0] at hb; cases hb
  · have e : b = C := by simpa using hb
    subst e
    exact ⟨f3, f1, f4, f5⟩
/-- an exception that came out of a call, over the block's names at C -/
def FX (X : Cx) (W : WX) (C : Addr) (u : Value) (s' : Shared) : Prop :=
  ∃ (a : Addr) (B : Heap) (sI : Shared) (pins : List (Addr × Obj)) (σ : L2.St) (H : Hp) (cls : Value) (d : Option Addr),
    u = .ref a ∧ Inv X pins σ H sI ∧ (∀ b o, sI.heap.get? b = some o → b ∉ frs X.stack → B.get? b = some o) ∧ sI.heap.UpToSlots s'.heap ∧
      HandSPX.FlyingZ B X.stack a (Zc cls d) s'.heap ∧ H a = none ∧ s'.os = sI.os ∧ AllBare s'.gens ∧ W cls d σ H ∧ FpOk X pins H C ∧ (∃ m, s'.heap.Ns C m) ∧ a ≠ C
theorem FX.of_call {E : XK} {C : Addr} {m : Str → Option Value} (I : Inv X pins σ H s) (hW : ∀ cls d H', E cls d H' → W cls d σ H') (f : FpOk X pins H C) (hn : s.heap.Ns C m) (hst : C ∉ frs X.stack) {u : Value} (c : CX X.prog X.w X.stack H s E u s') : FX X W C u s' := by
  obtain ⟨a, B, H', cls, d, rfl, fl, hok, ub, na, os, ag, hE⟩ := c
  obtain ⟨G, g1, g2⟩ := restrict s'.heap fun b => (B.get? b).isSome || decide (b ∈ frs X.stack)
  have st : B.StaysIn s'.heap := fl.1
  have gB : ∀ b o, B.get? b = some o → G.get? b = some o := fun b o e => by
    rw [g1 b (by simp [e])]
    exact st b o e
  have gF : ∀ b, b ∈ frs X.stack → G.get? b = s'.heap.get? b := fun b hb => g1 b (by simp [hb])
  have og : ∀ b o, G.get? b = some o → s'.heap.get? b = some o ∧ ((B.get? b).isSome = true ∨ b ∈ frs X.stack) := fun b o e => by
    cases q : ((B.get? b).isSome || decide (b ∈ frs X.stack)) with
    | false => rw [g2 b q] at e; cases e
    | true =>
      rw [g1 b q] at e
      exact ⟨e, by simpa [Bool.or_eq_true] using q⟩
  obtain ⟨oC, hC⟩ : ∃ o, s.heap.get? C = some o := by obtain ⟨o, _, _, h, _⟩ := hn; exact ⟨o, h⟩
  have hCB : B.get? C = some oC := ub.keep C oC hC f.1 hst
  refine ⟨a, B, { s with heap := G, gens := s'.gens, drawn := s'.drawn, toks := s'.toks }, pins, σ, H', cls, d, rfl, ?_, fun b o e hb => ?_, Heap.UpToSlots.of_keeps fun b o e => (og b o e).1, fl, na, os, ag, hW _ _ _ hE,
    ⟨ub.free C oC hC f.1, f.2⟩, ⟨m, hn.at fun o e => st C o (ub.keep C o e f.1 hst)⟩, fun z => ?_⟩
  · refine I.call (ch := []) ⟨fun b o e n hb _ => gB b o (ub.keep b o e n hb), fun b o e n hb _ => ?_, fun b o e n _ => ub.free b o e n, fun b o e _ => ?_, ub.tups, ub.frzs, ub.tbls⟩ (hok.kept gB) ag (fun _ z => nomatch z)
    · obtain ⟨sl, q⟩ := ub.slot b o e hb
      exact ⟨sl, by rw [gF b hb]; exact q⟩
    · by_cases hb : b ∈ frs X.stack
      · obtain ⟨sl, q⟩ := ub.slot b o e hb
        exact ⟨_, by rw [gF b hb]; exact q⟩
      · obtain ⟨o', q⟩ := ub.there b o e hb
        exact ⟨o', gB b o' q⟩
  · obtain ⟨e', h⟩ := og b o e
    rcases h with h | h
    · obtain ⟨o', q⟩ := Option.isSome_iff_exists.mp h
      have z := st b o' q
      rw [e'] at z; cases z
      exact q
    · exact absurd h hb
  · rw [z] at fl
    have := fl.2.1
    rw [hCB] at this
    cases this
/-- it is noted by the frame, the block's names go, it goes on -/
theorem FX.done {C : Addr} {ce : Env} (tk : Takes X W) (hs : X.stack = X.env :: X.outer) (hf : X.env.frame = some X.env.locals) (hc : ce.frame = X.env.frame) {u : Value} {E₁ : Value → Shared → Prop} (x : FX X W C u s') :
    wpAny (model X.prog X.w) X.A (noteFrame u ce) (fun _ s1 => ∃ m, s1.heap.Ns C m ∧ ∀ h', Heap.SameBut C s1.heap h' → (∃ m', h'.Ns C m') → wpAny (model X.prog X.w) X.A (PySem.passOn "comprehension.variables-let-go" u ce : Sem Value) (fun _ _ => False) X.xe { s1 with heap := h' }) E₁ s' := by
  obtain ⟨a, B, sI, pins, σ, H, cls, d, rfl, I, nb, up, fl, na, os, ag, w, f, ⟨m, hn⟩, naC⟩ := x
  rw [noteFrame_same hc]
  have hfr : X.A.frames = some (X.env :: X.outer) := by rw [I.ok.frames, hs]
  rw [hs] at fl
  refine HandSPX.looks_onZ Zc.steady hfr hf fl fun h1 hh up1 => ?_
  obtain ⟨oC, esC, epC, hC, hdC, rC⟩ := id hn
  have hCnf : ∀ vs, oC.data ≠ .fields vs := fun vs e => by rw [hdC] at e; cases e
  obtain ⟨sl, hC1⟩ := up1 C oC hC hCnf
  refine ⟨m, ⟨_, esC, epC, hC1, hdC, rC⟩, fun h' sb ⟨m', hn'⟩ => ?_⟩
  obtain ⟨h1s, h1n, h1f, oe, vs, T, oT, ts, he, hz, hd, hv1, hnT, hTe, hT, hdT, h3⟩ := hh
  obtain ⟨oC', esC', epC', hC', hdC', _⟩ := id hn'
  have nTC : T ≠ C := fun e => by
    rw [e] at hT
    rw [hC1] at hT
    have e2 := Option.some.inj hT
    rw [← e2] at hdT
    exact hCnf _ hdT
  have B'of : ∀ b o, (PySem.W.hideAll B [C]).get? b = some o → b ≠ C ∧ B.get? b = some o := fun b o e => ⟨fun z => (by rw [z, PySem.W.hideAll_none _ (by simp)] at e; cases e), PySem.W.of_hideAll _ e⟩
  have B'no : ∀ b, B.get? b = none → (PySem.W.hideAll B [C]).get? b = none := fun b e => by
    cases q : (PySem.W.hideAll B [C]).get? b with
    | none => rfl
    | some o => rw [(B'of b o q).2] at e; cases e
  have st' : (PySem.W.hideAll B [C]).StaysIn h' := fun b o e => by
    obtain ⟨n, e⟩ := B'of b o e
    rw [sb.2 b n]
    exact h1s b o e
  have ff' : h'.FunFrames (PySem.W.hideAll B [C]) (X.env :: X.outer) := by
    refine funFrames_none (Heap.FunFrames.sameBut sb hn' h1f) fun L hL => B'no L ?_
    exact (h1f.mem hL).1
  have tr' : HandSPX.TracedZ h' (PySem.W.hideAll B [C]) a (Zc cls d) (rawInt X.env.locals) :=
    ⟨oe, vs, T, oT, ts, by rw [sb.2 a naC]; exact he, hz, hd, hv1, B'no T hnT, hTe, by rw [sb.2 T nTC]; exact hT, hdT, h3⟩
  unfold PySem.passOn
  refine wpAny_bind (wpAny_field (by rw [sb.2 a naC]; exact he) hd hv1 ?_)
  rw [if_neg (show ¬ ((Value.ref T == Value.none) = true) from by simp)]
  refine wpAny_bind ?_
  rw [hc, hf]
  refine HandSPX.setFlight_anyZ st' ff' tr' fun h2 k1 k2 k3 k4 => ?_
  refine wpAny_throw (tk _ _ ?_)
  refine ⟨a, PySem.W.hideAll B [C], { sI with heap := PySem.W.hideAll sI.heap [C] }, pins, σ, H, cls, d, rfl, inv_hide I f, fun b o e hb => ?_, fun b o e hnf => ?_, .inr (.inr ⟨k1, B'no a h1n, by rw [hs]; exact k2, k3⟩), na, os, ag, w⟩
  · have n : b ≠ C := fun z => by
      have e' : (PySem.W.hideAll sI.heap [C]).get? b = some o := e
      rw [z, PySem.W.hideAll_none _ (by simp)] at e'; cases e'
    exact PySem.W.hideAll_get _ (nb b o (PySem.W.of_hideAll _ e) hb) (by simp [n])
  · have n : b ≠ C := fun z => by
      have e' : (PySem.W.hideAll sI.heap [C]).get? b = some o := e
      rw [z, PySem.W.hideAll_none _ (by simp)] at e'; cases e'
    obtain ⟨sl1, e1⟩ := up b o (PySem.W.of_hideAll _ e) hnf
    obtain ⟨sl2, e2⟩ := up1 b _ e1 hnf
    have e3 : h'.get? b = some { o with slots := sl2 } := by rw [sb.2 b n]; exact e2
    obtain ⟨sl3, e4⟩ := k4 b _ e3 hnf
    exact ⟨sl3, e4⟩
end
section
variable {M : Model} {A : Around} {E : Value → Shared → Prop} {s : Shared} {env : Env}
def compPostX (M : Model) (A : Around) (E : Value → Shared → Prop) (use : Option (Value → Sem Unit)) (Q : Value → Shared → Prop) (acc : Value) (C : Addr) (ce : Env) (r : Result) (s' : Shared) : Prop :=
  match r, use with
  | .ok _, none => ∃ m, s'.heap.Ns C m ∧ ∀ h', Heap.SameBut C s'.heap h' → Q acc { s' with heap := h' }
  | .ok _, some u => wpAny M A (u acc) (fun _ s'' => ∃ m, s''.heap.Ns C m ∧ ∀ h', Heap.SameBut C s''.heap h' → Q .none { s'' with heap := h' }) E s'
  | .error x, _ => ∃ m, s'.heap.Ns C m ∧ ∀ h', Heap.SameBut C s'.heap h' → (∃ m', h'.Ns C m') → wpAny M A (PySem.passOn "comprehension.variables-let-go" x ce : Sem Value) (fun _ _ => False) E { s' with heap := h' }
theorem wpAny_comprehension_X {e : Expr} {scope : Scope} {pos : Pos} {newAcc first : Sem Value} {g : Comprehension} {gs : List Comprehension} {cl : List (Str × Addr)} {use : Option (Value → Sem Unit)}
    {Q : Value → Shared → Prop}
    (hcl : clausesOf e = g :: gs) (hs : ∀ x, foldedSetIterable g.iter env x = pure x) (hclos : closureFor scope env = pure cl)
    (hkind : scope.kind = .function) (hnames : ∀ x ∈ scope.names, x.2 = .local → scope.names.lookup x.1 = some .local)
    (h : wpAny M A first (fun x s₁ => wpAny M A (pyIter x) (fun it s₂ => wpAny M A newAcc (fun acc s₃ =>
      wpAny M A (newFunctionEnv scope env.globals cl [] env.qual none .none (some env)) (fun cenv s₄ =>
        codeAny M A (.compStart e 0 it acc { cenv with scope := relabel scope env }) (compPostX M A E use Q acc cenv.locals { cenv with scope := relabel scope env }) s₄) E s₃) E s₂) E s₁) E s) :
    wpAny M A (comprehension e scope env pos newAcc false first use) Q E s := by
  unfold comprehension
  rw [hclos, hcl]
  refine wpAny_bind (wpAny_mono h (fun x s₁ h₁ => wpAny_bind (wpAny_standAt (wpAny_bind (wpAny_of_eq (hs x) (wpAny_bind (wpAny_holding (wpAny_mono h₁ (fun it s₂ h₂ =>
    wpAny_standIf (wpAny_bind (wpAny_mono h₂ (fun acc s₃ h₃ => wpAny_bind (wpAny_pure (wpAny_bind (wpAny_mono h₃ (fun cenv s₄ h₄ => ?_) fun _ _ h' => h')))) fun _ _ h' => h')))
      fun _ _ h' => h'))))))) fun _ _ h' => h')
  dsimp only
  have hv : ∀ x ∈ (scope.names.filter fun x => (x.2 == .local || x.2 == .cell) && x.1 != (".0" : Str)).reverse, x.2 = .local →
      Env.kindOf { cenv with scope := relabel scope env } x.1 = some .local := fun x hx hl => lookup_relabel_local (hnames x (List.mem_filter.mp (List.mem_reverse.mp hx)).1 hl)
  have hv' : ∀ x ∈ (scope.names.filter fun x => (x.2 == .local || x.2 == .cell) && x.1 != (".0" : Str)).reverse.drop 1 ++ (scope.names.filter fun x => (x.2 == .local || x.2 == .cell) && x.1 != (".0" : Str)).reverse.take 1,
      x.2 = .local → Env.kindOf { cenv with scope := relabel scope env } x.1 = some .local := fun x hx hl => by
    rcases List.mem_append.mp hx with h1 | h1
    · exact hv x (List.mem_of_mem_drop h1) hl
    · exact hv x (List.mem_of_mem_take h1) hl
  refine wpAny_holding (wpAny_bind (wpAny_attempt (wpAny_holding (wpAny_run (codeAny_mono h₄ fun r s' hr => ?_)))))
  cases r with
  | ok f =>
    cases use with
    | none =>
      obtain ⟨m, hn, hr⟩ := hr
      exact wpAny_bind (wpAny_holding (wpAny_comp_letGo (cenv := { cenv with scope := relabel scope env }) hkind _ s' m hv hn fun h' m' _ hs' => wpAny_pure (hr h' hs')))
    | some u =>
      refine wpAny_bind (wpAny_rule (wpAny_bind (wpAny_holding (wpAny_mono hr (fun _ s'' hr' => ?_) fun _ _ h' => h'))))
      obtain ⟨m, hn, hr'⟩ := hr'
      exact wpAny_bind (wpAny_comp_letGo (cenv := { cenv with scope := relabel scope env }) hkind _ s'' m hv' hn fun h' m' _ hs' => wpAny_pure (hr' h' hs'))
  | error x =>
    have hr' : ∃ m, s'.heap.Ns cenv.locals m ∧ ∀ h', Heap.SameBut cenv.locals s'.heap h' → (∃ m', h'.Ns cenv.locals m') → wpAny M A (PySem.passOn "comprehension.variables-let-go" x { cenv with scope := relabel scope env } : Sem Value) (fun _ _ => False) E { s' with heap := h' } := by cases use <;> exact hr
    obtain ⟨m, hn, hr⟩ := hr'
    exact wpAny_bind (wpAny_holding (wpAny_comp_letGo (cenv := { cenv with scope := relabel scope env }) hkind _ s' m hv hn fun h' m' hn' hs' => wpAny_mono (hr h' hs' ⟨m', hn'⟩) (fun _ _ f => f.elim) fun _ _ y => y))
end
abbrev blkE (X : Cx) (s : Shared) (H : Hp) (scope : Scope) (cenv : Env) (fp : List Addr) (xe : Value → Shared → Prop) : Cx := { X.blk s H scope cenv fp with xe := xe }
theorem inv_xe {Y : Cx} {pins : List (Addr × Obj)} {σ : L2.St} {H : Hp} {s : Shared} {xe : Value → Shared → Prop} (I : Inv Y pins σ H s) : Inv { Y with xe := xe } pins σ H s := by
  have ok := I.ok
  exact ⟨⟨ok.mod, ok.kind, ok.glob, ok.blt, ok.above, ok.inj, ok.has, ok.cab, ok.hd, ok.frames, ok.stk, ok.exf, ok.bs, ok.bsz, ok.noex, ok.exfs, ok.funs, ok.frf⟩, I.os, I.bare, I.base, I.loc, I.cell, I.free, I.freeC, I.pin, I.hok, I.len⟩
section
variable {X : Cx} {Wx : WX}
theorem lc_coreX {pins : List (Addr × Obj)} {s : Shared} {σ : L2.St} {H : Hp} {Q : VK} {elt tg iter : Expr} {ifs : List Expr} {scope : Scope} {own : List (Str × Nat)} {pos pos' : Pos} {wi : TI} {g : TG} {tt : TT} {te : TE} {use : Option (Value → Sem Unit)} {Qf : Value → Shared → Prop}
    (hc : X.calm = true) (hN : X.N.Nodup) (tk : Takes X Wx) (hs' : X.stack = X.env :: X.outer) (hf' : X.env.frame = some X.env.locals) (hW : ∀ cls d σ σ' H, Wx cls d σ H → Wx cls d σ' H) (I : Inv X pins σ H s) (hi : PI X tg iter wi) (ok : BlkOk X.N X.env.scope scope own)
    (hg : ∀ (s : Shared) (H : Hp) (C : Addr) (cl : List (Str × Addr)) (fp : List Addr) (xe : Value → Shared → Prop), (∀ σ, PassesAt (L2.CX X.prog X.w) (blkE X s H scope (compEnvC scope cl C X.env) fp xe) σ (WE Wx σ)) → PG (blkE X s H scope (compEnvC scope cl C X.env) fp xe) tg g) (ht : ∀ (s : Shared) (H : Hp) (C : Addr) (cl : List (Str × Addr)) (fp : List Addr) (xe : Value → Shared → Prop), (∀ σ, PassesAt (L2.CX X.prog X.w) (blkE X s H scope (compEnvC scope cl C X.env) fp xe) σ (WE Wx σ)) → PTs (blkE X s H scope (compEnvC scope cl C X.env) fp xe) ifs tt)
    (he : ∀ (s : Shared) (H : Hp) (C : Addr) (cl : List (Str × Addr)) (fp : List Addr) (xe : Value → Shared → Prop), (∀ σ, PassesAt (L2.CX X.prog X.w) (blkE X s H scope (compEnvC scope cl C X.env) fp xe) σ (WE Wx σ)) → PE (blkE X s H scope (compEnvC scope cl C X.env) fp xe) elt te) (hs : ∀ x, foldedSetIterable iter X.env x = pure x)
    (h : tLc wi g tt te (own.map (·.2)) σ H Q)
    (hRR : ∀ (ce0 : Env) D C s' m H', Inv X pins σ H' s' → Q (.ref D) H' → s'.heap.Ns C m → FpOk X pins H' C → compPostX (model X.prog X.w) X.A X.xe use Qf (.ref D) C ce0 (.ok .next) s') :
    wpAny (model X.prog X.w) X.A (comprehension (.ListComp elt [⟨tg, iter, ifs, 0⟩] scope pos) scope X.env pos' (newList []) false (eval iter X.env) use) Qf X.xe s := by
  have hfree : ∀ y ∈ scope.names, y.2 = .free → ∃ c, X.env.cells.lookup y.1 = some c := fun y hy e => by
    rcases ok.free y hy e with k | k
    · exact I.ok.has _ (.inl k)
    · exact I.ok.has _ (.inr k)
  refine wpAny_comprehension_X (use := use) rfl hs (closure_ok hfree) ok.kind (fun y hy e => by rw [ok.uniq y hy, e])
    (thn (hi.run pins s σ H _ I h) fun xv s1 hx => thn hx fun itv s2 h2 => ?_)
  obtain ⟨it, fp, tn, J, H2, e, I2, T, st2, f2, q⟩ := h2
  subst e
  refine wpAny_newObj_type (newEnv_comp ?_) (by show 0 ≤ sizeLine; decide)
  generalize hD : s2.heap.objs.size = D
  have hDn : H2 D = none := I2.hok.fresh (Nat.le_of_eq hD)
  obtain ⟨W, ⟨m0, w0⟩, turn⟩ := q D hDn
  -- the new list
  generalize hs3 : ({ s2 with heap := s2.heap.push { cls := .type "list", data := .seq ([] : List Value).toArray } } : Shared) = s3
  have I3 : Inv X pins σ (upd H2 D (.lst [])) s3 := by
    rw [← hs3]
    refine I2.laid (t' := s2.toks) (fun b o e => Heap.get?_push_of_some _ e) (Nat.le_of_eq hD) ⟨Nat.zero_le _, [], 0, .nil, ?_⟩
    rw [← hD]
    exact Heap.get?_push_size _ rfl
  have h3 : s3.heap = s2.heap.push { cls := .type "list", data := .seq ([] : List Value).toArray } := by rw [← hs3]
  have sz : ∀ b ∈ fp, b < s2.heap.objs.size := fun b hb => by
    obtain ⟨o, e, _⟩ := T.obj _ _ st2 b hb
    exact Heap.lt_size e
  have f3 : ∀ b ∈ fp, FpOk X pins (upd H2 D (.lst [])) b ∧ b < s3.heap.objs.size := fun b hb => by
    have hlt := sz b hb
    refine ⟨⟨?_, (f2 b hb).2⟩, by rw [h3, Heap.size_push]; exact Nat.lt_succ_of_lt hlt⟩
    rw [upd_ne (by rw [← hD]; exact Nat.ne_of_lt hlt)]
    exact (f2 b hb).1
  have st3 : tn 0 s3.heap := T.keep _ _ _ st2 fun b _ o e => by rw [h3]; exact Heap.get?_push_of_some _ e
  have I4 := block_start I3 ok hN f3
  generalize hce : compEnvC scope (cellsFrom (s3.heap.objs.size + 1) scope.names (cloFrom X.env.cells scope.names [])) s3.heap.objs.size X.env = ce at I4
  have hstC : s3.heap.objs.size ∉ frs X.stack := fun hm => by
    obtain ⟨_, o, ho, _⟩ := I3.stack.mem hm
    exact Nat.lt_irrefl _ (Heap.lt_size ho)
  have I4 := inv_xe (xe := FX X Wx s3.heap.objs.size) I4
  have pa : ∀ σb, PassesAt (L2.CX X.prog X.w) (blkE X s3 (upd H2 D (.lst [])) scope ce fp (FX X Wx s3.heap.objs.size)) σb (WE Wx σb) := fun σb pins' H' s' e s'' I' c => by
    have I7 : Inv X pins σ H' s' := I3.call' (ch := fp) I'.os I'.base I'.hok I'.bare fun b hb => ⟨(f3 b hb).1.2.2.2.1, (f3 b hb).1.2.1, (f3 b hb).1.2.2.2.2.1, (f3 b hb).1.2.2.2.2.2⟩
    have cL : ce.locals = s3.heap.objs.size := by subst hce; rfl
    have nC : H' s3.heap.objs.size = none := by
      have z : H' ce.locals = none := I'.free
      rw [cL] at z
      exact z
    obtain ⟨m, hn, _⟩ := I'.loc
    have hn : s'.heap.Ns ce.locals m := hn
    rw [cL] at hn
    exact FX.of_call I7 (fun cls d H' h => hW cls d σb σ H' h) (I3.fpOk (Nat.le_refl _) nC) hn hstC c
  subst hce
  have pg := hg _ _ _ _ _ _ pa
  have pt := ht _ _ _ _ _ _ pa
  have pe := he _ _ _ _ _ _ pa
  show codeAny _ _ (.compStart (.ListComp elt [⟨tg, iter, ifs, 0⟩] scope pos) 0 (.ref it) (.ref D) (compEnvC scope (cellsFrom (s3.heap.objs.size + 1) scope.names (cloFrom X.env.cells scope.names [])) s3.heap.objs.size X.env)) (compPostX (model X.prog X.w) X.A X.xe use Qf (.ref D) s3.heap.objs.size (compEnvC scope (cellsFrom (s3.heap.objs.size + 1) scope.names (cloFrom X.env.cells scope.names [])) s3.heap.objs.size X.env)) { s3 with heap := pushCells (s3.heap.push { cls := .type "dict", data := .dict #[] }) scope.names }
  have nfp : ∀ b ∈ fp, (upd H2 D (.lst [])) b = none := fun b hb => (f3 b hb).1.1
  have cF : (compEnvC scope (cellsFrom (s3.heap.objs.size + 1) scope.names (cloFrom X.env.cells scope.names [])) s3.heap.objs.size X.env).frame = X.env.frame := rfl
  generalize hce : compEnvC scope (cellsFrom (s3.heap.objs.size + 1) scope.names (cloFrom X.env.cells scope.names [])) s3.heap.objs.size X.env = ce at I4 pg pt pe cF ⊢
  have cL : ce.locals = s3.heap.objs.size := by subst hce; rfl
  generalize hH3 : upd H2 D (.lst []) = H3 at I3 I4 pg pt pe w0 nfp f3 pa
  generalize hs4 : ({ s3 with heap := pushCells (s3.heap.push { cls := .type "dict", data := .dict #[] }) scope.names } : Shared) = s4 at I4 ⊢
  have st4 : tn 0 s4.heap := T.keep _ _ _ st3 fun b _ o e => by rw [← hs4]; exact pushCells_keeps _ _ _ _ (Heap.get?_push_of_some _ e)
  have stat : ∀ {σ' : L2.St} {H' : Hp} {s' : Shared}, Inv (blkE X s3 H3 scope ce fp (FX X Wx s3.heap.objs.size)) [] σ' H' s' → (∀ b ∈ fp, H' b = none) → ∀ b ∈ fp, FpOk (blkE X s3 H3 scope ce fp (FX X Wx s3.heap.objs.size)) [] H' b := fun {σ' H' s'} I' hn b hb =>
    ⟨hn b hb, (I'.ok.exf b hb).1, I'.ok.exfs b hb, .inl hb, fun x c e => (I'.ok.exf b hb).2 x c e, fun p hp => absurd (show p ∈ ([] : List (Addr × Obj)) ++ [] from hp) (by simp)⟩
  have loop : codeAny (model X.prog X.w) X.A (.compLoop (.ListComp elt [⟨tg, iter, ifs, 0⟩] scope pos) 0 (.ref it) (.ref D) ce) (compPostX (model X.prog X.w) X.A X.xe use Qf (.ref D) s3.heap.objs.size ce) s4 := by
    have err : ∀ u s', FX X Wx s3.heap.objs.size u s' → notedBy (model X.prog X.w) X.A ce (fun e s' => compPostX (model X.prog X.w) X.A X.xe use Qf (.ref D) s3.heap.objs.size ce (.error e) s') u s' := fun u s' fx => wpAny_mono (FX.done tk hs' hf' cF fx) (fun _ _ q => by cases use <;> exact q) fun _ _ z => z
    refine compLoop_any (fun n s' => ∃ i H', Inv (blkE X s3 H3 scope ce fp (FX X Wx s3.heap.objs.size)) [] (wipe σ (own.map (·.2))) H' s' ∧ tn i s'.heap ∧ (∀ b ∈ fp, H' b = none) ∧ W i n H') ?_ m0 ⟨0, H3, I4, st4, nfp, w0⟩
    rintro n s5 ⟨i, H5, I5, st5, n5, w5⟩
    rcases turn i n H5 w5 with ⟨stop, qq⟩ | ⟨go, Nx, hNx, step⟩
    · have td := T.done (blkE X s3 H3 scope ce fp (FX X Wx s3.heap.objs.size)) rfl rfl rfl hc i [] s5 _ H5 (fun _ _ => False) I5 (stat I5 n5) st5 stop
      refine thnF td fun r s6 ⟨hr, I6⟩ => ?_
      subst hr
      -- back in the def's context
      have I7 : Inv X pins σ H5 s6 := I3.call' (ch := fp) I6.os I6.base I6.hok I6.bare fun b hb => ⟨(f3 b hb).1.2.2.2.1, (f3 b hb).1.2.1, (f3 b hb).1.2.2.2.2.1, (f3 b hb).1.2.2.2.2.2⟩
      have nC : H5 s3.heap.objs.size = none := by
        have z : H5 ce.locals = none := I6.free
        rw [cL] at z
        exact z
      obtain ⟨m, hn, _⟩ := I6.loc
      have hn : s6.heap.Ns ce.locals m := hn
      rw [cL] at hn
      exact hRR ce D s3.heap.objs.size s6 m H5 I7 qq hn (I3.fpOk (Nat.le_refl _) nC)
    · have ti := T.item (blkE X s3 H3 scope ce fp (FX X Wx s3.heap.objs.size)) rfl rfl rfl hc i [] s5 _ H5 (fun _ _ => False) I5 (stat I5 n5) st5 go
      refine thnF ti fun r s6 ⟨u, hr, h6⟩ => ?_
      subst hr
      refine thnF h6 fun _ s7 ⟨x, H7, I7, r7, y7, st7, n7⟩ => ?_
      have I7' := I7.pinned (stat I7 n7) (T.obj _ _ st7)
      refine wpAny_mono (pg.run _ s7 _ H7 x u _ I7' r7 (step x H7 y7)) (fun _ s8 ⟨σ8, H8, I8, hw8, q8⟩ => ?_) err
      refine wpAny_mono (pt.run _ s8 σ8 H8 _ I8 q8) (fun b s9 ⟨H9, I9, q9⟩ => ?_) err
      -- the turn's end
      have fin : ∀ {s' : Shared} {H' : Hp}, Inv (blkE X s3 H3 scope ce fp (FX X Wx s3.heap.objs.size)) ([] ++ pinsAt fp s7.heap) σ8 H' s' → Nx H' → ∃ m, m < n ∧ ∃ i H', Inv (blkE X s3 H3 scope ce fp (FX X Wx s3.heap.objs.size)) [] (wipe σ (own.map (·.2))) H' s' ∧ tn i s'.heap ∧ (∀ b ∈ fp, H' b = none) ∧ W i m H' := fun {s' H'} I' nx => by
        obtain ⟨m', hm, w'⟩ := hNx H' nx
        have pin' : ∀ b ∈ fp, ∀ o, s7.heap.get? b = some o → s'.heap.get? b = some o ∧ H' b = none := fun b hb o e =>
          let z := I'.pin (b, o) (List.mem_append_right _ (List.mem_append_right _ (mem_pinsAt hb e)))
          ⟨z.1, z.2.1⟩
        have hl : (wipe σ (own.map (·.2))).length = σ8.length := by rw [← hw8, wipe_length]
        refine ⟨m', hm, i + 1, H', (I'.unpinned (pins := [])).weak hl (fun j v e => ?_), T.keep _ _ _ st7 fun b hb o e => (pin' b hb o e).1, fun b hb => ?_, w'⟩
        · rw [← hw8] at e
          exact (wipe_some e).1
        · obtain ⟨o, e, _⟩ := T.obj _ _ st7 b hb
          exact (pin' b hb o e).2
      cases b with
      | false =>
        simp only [Bool.false_eq_true, if_false] at q9 ⊢
        exact fin I9 q9
      | true =>
        simp only [if_true] at q9 ⊢
        refine wpAny_mono (pe.run _ s9 σ8 H9 _ I9 q9) (fun z s10 ⟨yv, H10, I10, r10, acc, hD10, hz10, nx⟩ => ?_) err
        exact app_ok (X := blkE X s3 H3 scope ce fp (FX X Wx s3.heap.objs.size)) I10 hD10 hz10 r10 fun s11 I11 => fin I11 nx
  exact codeAny_compStart_list loop (T.self X.A 0 _ _ _ st4 loop)
/-- as a value -/
theorem pe_lcX {elt tg iter : Expr} {ifs : List Expr} {scope : Scope} {own : List (Str × Nat)} {pos : Pos} {wi : TI} {g : TG} {tt : TT} {te : TE} (hc : X.calm = true) (hN : X.N.Nodup) (tk : Takes X Wx) (hs' : X.stack = X.env :: X.outer) (hf' : X.env.frame = some X.env.locals) (hW : ∀ cls d σ σ' H, Wx cls d σ H → Wx cls d σ' H) (hi : PI X tg iter wi) (ok : BlkOk X.N X.env.scope scope own)
    (hg : ∀ (s : Shared) (H : Hp) (C : Addr) (cl : List (Str × Addr)) (fp : List Addr) (xe : Value → Shared → Prop), (∀ σ, PassesAt (L2.CX X.prog X.w) (blkE X s H scope (compEnvC scope cl C X.env) fp xe) σ (WE Wx σ)) → PG (blkE X s H scope (compEnvC scope cl C X.env) fp xe) tg g) (ht : ∀ (s : Shared) (H : Hp) (C : Addr) (cl : List (Str × Addr)) (fp : List Addr) (xe : Value → Shared → Prop), (∀ σ, PassesAt (L2.CX X.prog X.w) (blkE X s H scope (compEnvC scope cl C X.env) fp xe) σ (WE Wx σ)) → PTs (blkE X s H scope (compEnvC scope cl C X.env) fp xe) ifs tt)
    (he : ∀ (s : Shared) (H : Hp) (C : Addr) (cl : List (Str × Addr)) (fp : List Addr) (xe : Value → Shared → Prop), (∀ σ, PassesAt (L2.CX X.prog X.w) (blkE X s H scope (compEnvC scope cl C X.env) fp xe) σ (WE Wx σ)) → PE (blkE X s H scope (compEnvC scope cl C X.env) fp xe) elt te) (hs : ∀ x, foldedSetIterable iter X.env x = pure x := by intro _; rfl) :
    PE X (.ListComp elt [⟨tg, iter, ifs, 0⟩] scope pos) (tLc wi g tt te (own.map (·.2))) := by
  refine ⟨fun pins s σ H Q I h => ?_⟩
  rw [eval_ListComp]
  refine lc_coreX hc hN tk hs' hf' hW I hi ok hg ht he hs h fun _ D C s' m H' I' q hn f => ⟨m, hn, fun h'' sb => ?_⟩
  obtain ⟨f0, f1, f2, f3, f4, f5⟩ := f
  exact ⟨.ref D, H', I'.turned (t' := s'.toks) (fun b o hb e => (sb.2 b hb).trans e) f0 f1 f3 f4 f5, rfl, q⟩
end
end NW

/-! {k for .. for ..} of whole numbers; sorted of such sets. -/
namespace NW
open PySem PySem.Spec PyProof.Rows L2 Evl PpSet
theorem compTurn2_outS (elt t0 i0 t1 i1 : Expr) (ifs0 ifs1 : List Expr) (scope : Scope) (pos : Pos) (it acc : Value) (env : Env) :
    compTurn (.SetComp elt [⟨t0, i0, ifs0, 0⟩, ⟨t1, i1, ifs1, 0⟩] scope pos) 0 it acc env = (do
      standAt i0.pos
      match ← pyNext it with
      | none => pure (.done .next)
      | some v =>
        letOwnedTupleGo t0 it v
        assign t0 env v
        let mut ok := true
        for c in ifs0 do
          if ok then ok ← isTrue c env (eval c env)
        if ok then
          let x ← eval i1 env
          standAt i1.pos
          let x ← foldedSetIterable i1 env x
          let _ ← runOwn (.compStart (.SetComp elt [⟨t0, i0, ifs0, 0⟩, ⟨t1, i1, ifs1, 0⟩] scope pos) 1 (← holding [x] (pyIter x)) acc env) env
        again (.compLoop (.SetComp elt [⟨t0, i0, ifs0, 0⟩, ⟨t1, i1, ifs1, 0⟩] scope pos) 0 it acc env)) := by rfl
theorem compTurn2_inS (elt t0 i0 t1 i1 : Expr) (ifs0 ifs1 : List Expr) (scope : Scope) (pos : Pos) (it acc : Value) (env : Env) :
    compTurn (.SetComp elt [⟨t0, i0, ifs0, 0⟩, ⟨t1, i1, ifs1, 0⟩] scope pos) 1 it acc env = (do
      standAt i1.pos
      match ← pyNext it with
      | none => pure (.done .next)
      | some v =>
        letOwnedTupleGo t1 it v
        assign t1 env v
        let mut ok := true
        for c in ifs1 do
          if ok then ok ← isTrue c env (eval c env)
        if ok then
          (do let v ← eval elt env; standAt elt.pos; let _ ← call (.builtin "set.add") [acc, v])
        again (.compLoop (.SetComp elt [⟨t0, i0, ifs0, 0⟩, ⟨t1, i1, ifs1, 0⟩] scope pos) 1 it acc env)) := by rfl

section
variable {prog : Program} {w : World} {A : Around} {R : Result → Shared → Prop} {s : Shared} {elt t0 i0 t1 i1 : Expr} {ifs0 ifs1 : List Expr} {scope : Scope} {pos : Pos} {it acc : Value} {env : Env}
/-- the loop of the first clause -/
theorem compLoop2_outS (hs : ∀ x, foldedSetIterable i1 env x = pure x) (I : Nat → Shared → Prop)
    (turn : ∀ n s, I n s → wpAny (model prog w) A (pyNext it) (fun r s₁ => match r with
      | none => R (.ok .next) s₁
      | some v => wpAny (model prog w) A (letOwnedTupleGo t0 it v) (fun _ s₁' => wpAny (model prog w) A (assign t0 env v) (fun _ s₂ =>
          wpAny (model prog w) A (forIn ifs0 true fun c r => if r = true then do let ok ← isTrue c env (eval c env); pure (ForInStep.yield ok) else pure (ForInStep.yield r)) (fun ok s₃ =>
            if ok = true then wpAny (model prog w) A (eval i1 env) (fun x s₄ => wpAny (model prog w) A (pyIter x) (fun it1 s₅ =>
              codeAny (model prog w) A (.compStart (.SetComp elt [⟨t0, i0, ifs0, 0⟩, ⟨t1, i1, ifs1, 0⟩] scope pos) 1 it1 acc env) (fun r s' => match r with
                | .ok _ => ∃ m, m < n ∧ I m s'
                | .error _ => False) s₅) (notedBy (model prog w) A env fun e s' => R (.error e) s') s₄) (notedBy (model prog w) A env fun e s' => R (.error e) s') s₃
            else ∃ m, m < n ∧ I m s₃) (notedBy (model prog w) A env fun e s' => R (.error e) s') s₂) (notedBy (model prog w) A env fun e s' => R (.error e) s') s₁') (notedBy (model prog w) A env fun e s' => R (.error e) s') s₁) (notedBy (model prog w) A env fun e s' => R (.error e) s') s)
    (n : Nat) (h : I n s) :
    codeAny (model prog w) A (.compLoop (.SetComp elt [⟨t0, i0, ifs0, 0⟩, ⟨t1, i1, ifs1, 0⟩] scope pos) 0 it acc env) R s := by
  refine codeAny_loop rfl I (fun n s hI => ?_) n h
  show wpAny _ A ((compTurn (.SetComp elt [⟨t0, i0, ifs0, 0⟩, ⟨t1, i1, ifs1, 0⟩] scope pos) 0 it acc env).onRaise (fun x => do noteFrame x env; theTreesLotGoes x)) _ _ s
  refine wpAny_noted ?_
  rw [compTurn2_outS]
  refine wpAny_bind (wpAny_standAt (wpAny_bind (wpAny_mono (turn n s hI) (fun r s₁ h₁ => ?_) fun _ _ h' => h')))
  cases r with
  | none => exact wpAny_pure h₁
  | some v =>
    refine wpAny_bind (wpAny_mono h₁ (fun _ s₁' h₁' => ?_) fun _ _ h' => h')
    refine wpAny_bind (wpAny_mono h₁' (fun _ s₂ h₂ => wpAny_bind (wpAny_mono h₂ (fun ok s₃ h₃ => ?_) fun _ _ h' => h')) fun _ _ h' => h')
    cases ok with
    | false => exact wpAny_pure ⟨rfl, h₃⟩
    | true =>
      refine wpAny_bind (wpAny_mono h₃ (fun x s₄ h₄ => ?_) fun _ _ h' => h')
      refine wpAny_bind (wpAny_standAt (wpAny_bind (wpAny_of_eq (hs x) (wpAny_bind (wpAny_holding (wpAny_mono h₄ (fun it1 s₅ h₅ => ?_) fun _ _ h' => h'))))))
      refine wpAny_bind (wpAny_runOwn ?_)
      rw [Around.mark_none]
      refine codeAny_mono h₅ fun r s' hr => ?_
      cases r with
      | ok f =>
        first
          | exact wpAny_pure ⟨rfl, hr⟩
          | exact wpAny_bind (wpAny_pure (wpAny_pure ⟨rfl, hr⟩))
      | error e => exact hr.elim
/-- the loop of the second -/
theorem compLoop2_inS (I : Nat → Shared → Prop)
    (turn : ∀ n s, I n s → wpAny (model prog w) A (pyNext it) (fun r s₁ => match r with
      | none => R (.ok .next) s₁
      | some v => wpAny (model prog w) A (letOwnedTupleGo t1 it v) (fun _ s₁' => wpAny (model prog w) A (assign t1 env v) (fun _ s₂ =>
          wpAny (model prog w) A (forIn ifs1 true fun c r => if r = true then do let ok ← isTrue c env (eval c env); pure (ForInStep.yield ok) else pure (ForInStep.yield r)) (fun ok s₃ =>
            if ok = true then wpAny (model prog w) A (eval elt env) (fun x s₄ =>
              wpAny (model prog w) A (call (.builtin "set.add") [acc, x]) (fun _ s₅ => ∃ m, m < n ∧ I m s₅) (notedBy (model prog w) A env fun e s' => R (.error e) s') s₄) (notedBy (model prog w) A env fun e s' => R (.error e) s') s₃
            else ∃ m, m < n ∧ I m s₃) (notedBy (model prog w) A env fun e s' => R (.error e) s') s₂) (notedBy (model prog w) A env fun e s' => R (.error e) s') s₁') (notedBy (model prog w) A env fun e s' => R (.error e) s') s₁) (notedBy (model prog w) A env fun e s' => R (.error e) s') s)
    (n : Nat) (h : I n s) :
    codeAny (model prog w) A (.compLoop (.SetComp elt [⟨t0, i0, ifs0, 0⟩, ⟨t1, i1, ifs1, 0⟩] scope pos) 1 it acc env) R s := by
  refine codeAny_loop rfl I (fun n s hI => ?_) n h
  show wpAny _ A ((compTurn (.SetComp elt [⟨t0, i0, ifs0, 0⟩, ⟨t1, i1, ifs1, 0⟩] scope pos) 1 it acc env).onRaise (fun x => do noteFrame x env; theTreesLotGoes x)) _ _ s
  refine wpAny_noted ?_
  rw [compTurn2_inS]
  refine wpAny_bind (wpAny_standAt (wpAny_bind (wpAny_mono (turn n s hI) (fun r s₁ h₁ => ?_) fun _ _ h' => h')))
  cases r with
  | none => exact wpAny_pure h₁
  | some v =>
    refine wpAny_bind (wpAny_mono h₁ (fun _ s₁' h₁' => ?_) fun _ _ h' => h')
    refine wpAny_bind (wpAny_mono h₁' (fun _ s₂ h₂ => wpAny_bind (wpAny_mono h₂ (fun ok s₃ h₃ => ?_) fun _ _ h' => h')) fun _ _ h' => h')
    cases ok with
    | false => exact wpAny_pure ⟨rfl, h₃⟩
    | true =>
      exact wpAny_bind (wpAny_bind (wpAny_mono h₃ (fun x s₄ h₄ => wpAny_bind (wpAny_standAt (wpAny_bind (wpAny_mono h₄ (fun _ s₅ h₅ => wpAny_pure (wpAny_pure ⟨rfl, h₅⟩)) fun _ _ h' => h')))) fun _ _ h' => h'))
/-- the second clause's start -/
theorem compStart1_okS (h0 : codeAny (model prog w) A (.compLoop (.SetComp elt [⟨t0, i0, ifs0, 0⟩, ⟨t1, i1, ifs1, 0⟩] scope pos) 1 it acc env) R s)
    (h : wpAny (model prog w) A (pyIter it) (fun it' s' => codeAny (model prog w) A (.compLoop (.SetComp elt [⟨t0, i0, ifs0, 0⟩, ⟨t1, i1, ifs1, 0⟩] scope pos) 1 it' acc env) R s')
      (notedBy (model prog w) A env fun x s' => R (.error x) s') s) :
    codeAny (model prog w) A (.compStart (.SetComp elt [⟨t0, i0, ifs0, 0⟩, ⟨t1, i1, ifs1, 0⟩] scope pos) 1 it acc env) R s := by
  refine codeAny_of_tree ?_
  show wpAny _ _ ((compStart (.SetComp elt [⟨t0, i0, ifs0, 0⟩, ⟨t1, i1, ifs1, 0⟩] scope pos) 1 it acc env).onRaise (fun x => do noteFrame x env; standAt theWindowsPlace)) _ _ s
  refine wpAny_notedAt ?_
  unfold compStart
  show wpAny _ _ (ask >>= _) _ _ s
  refine wpAny_bind (wpAny_askSetting (wpAny_ite ?_))
  split
  · first
      | exact wpAny_bind (wpAny_pure (wpAny_pure (And.intro rfl h0)))
      | exact wpAny_pure (And.intro rfl h0)
  · first
      | exact wpAny_bind (wpAny_rule (wpAny_bind (wpAny_standAt (wpAny_bind (wpAny_mono h (fun it' s' h' => wpAny_pure (And.intro rfl h')) fun _ _ x => x)))))
      | (refine wpAny_bind (wpAny_rule ?_); show wpAny _ _ (standAt i1.pos >>= _) _ _ s; exact wpAny_bind (wpAny_standAt (wpAny_bind (wpAny_mono h (fun it' s' h' => wpAny_pure (And.intro rfl h')) fun _ _ x => x))))
end

section
variable {X : Cx}
theorem addI_ok {pins : List (Addr × Obj)} {σ : L2.St} {H : Hp} {s : Shared} {E : Value → Shared → Prop} {D : Addr} {S : Int → Bool} {n : Nat} {k : Int} {tk : Tok} {Q : Value → Shared → Prop} (I : Inv X pins σ H s) (ha : H D = some (SetO X.w D S n)) (room : n + 1 < scanBound)
    (h : ∀ s', Inv X pins σ (upd H D (SetO X.w D (fun j => S j || decide (j = k)) (if S k = true then n else n + 1))) s' → Q .none s') : wpAny (model X.prog X.w) X.A (call (.builtin "set.add") [.ref D, .int k tk]) Q E s := by
  have R := setO_get I ha
  refine setR_add R room fun h' sb new => ?_
  have he : ∃ u, h'.get? D = some u := by
    have ⟨o, _, _, _, ho, _⟩ := new
    exact ⟨o, ho⟩
  exact h _ (I.write (e := D) (t' := s.toks + 1) (by rw [ha]; trivial) (.inl rfl) (fun b u hb hu => (sb.2 b hb).trans hu) he (setO_new new))
/-- [elt for tg in iter if .. for tg1 in iter1 if ..]: behind the first clause's store and tests the second source's own loop, from which Nx is reached. vs: the block's names; vs1: those of the second target -/
def tSc2 (w : World) (wi : TI) (g : TG) (tt : TT) (wi1 : TI) (g1 : TG) (tt1 : TT) (te : TE) (vs vs1 : List Nat) : TE := fun σ H Q => wi σ H fun J H1 => ∀ D, H1 D = none → ∃ W : Nat → Nat → Hp → Prop, (∃ m, W 0 m (upd H1 D (SetO w D (fun _ => false) 0))) ∧ ∀ i m H, W i m H →
  (J.stop i H ∧ Q (.ref D) H) ∨ (J.go i H ∧ ∃ Nx : Hp → Prop, (∀ H', Nx H' → ∃ m', m' < m ∧ W (i + 1) m' H') ∧ ∀ x H', J.yld i H x H' → g x (wipe σ vs) H' fun σ2 H2 => wipe σ2 vs = wipe σ vs ∧ tt σ2 H2 fun b H3 =>
    if b = true then wi1 σ2 H3 fun J1 H4 => ∃ W1 : Nat → Nat → Hp → Prop, (∃ m, W1 0 m H4) ∧ ∀ j k H, W1 j k H →
      (J1.stop j H ∧ Nx H) ∨ (J1.go j H ∧ ∃ Nx1 : Hp → Prop, (∀ H', Nx1 H' → ∃ k', k' < k ∧ W1 (j + 1) k' H') ∧ ∀ x H', J1.yld j H x H' → g1 x (wipe σ2 vs1) H' fun σ3 H5 => wipe σ3 vs1 = wipe σ2 vs1 ∧ tt1 σ3 H5 fun b H6 =>
        if b = true then te σ3 H6 fun y H7 => ∃ (k : Int) (S : Int → Bool) (n : Nat), y = .int k ∧ H7 D = some (SetO w D S n) ∧ n + 1 < scanBound ∧ Nx1 (upd H7 D (SetO w D (fun j => S j || decide (j = k)) (if S k = true then n else n + 1))) else Nx1 H6)
    else Nx H3)
theorem sc2_core {pins : List (Addr × Obj)} {s : Shared} {σ : L2.St} {H : Hp} {Q : VK} {elt tg iter tg1 iter1 : Expr} {ifs ifs1 : List Expr} {scope : Scope} {own : List (Str × Nat)} {vs1 : List Nat} {pos pos' : Pos} {wi wi1 : TI} {g g1 : TG} {tt tt1 : TT} {te : TE} {use : Option (Value → Sem Unit)} {Qf : Value → Shared → Prop}
    (hc : X.calm = true) (hN : X.N.Nodup) (I : Inv X pins σ H s) (hi : PI X tg iter wi) (ok : BlkOk X.N X.env.scope scope own) (hv : ∀ i ∈ vs1, i ∈ own.map (·.2))
    (hg : ∀ (s : Shared) (H : Hp) (C : Addr) (cl : List (Str × Addr)) (fp : List Addr), PG (X.blk s H scope (compEnvC scope cl C X.env) fp) tg g) (ht : ∀ (s : Shared) (H : Hp) (C : Addr) (cl : List (Str × Addr)) (fp : List Addr), PTs (X.blk s H scope (compEnvC scope cl C X.env) fp) ifs tt)
    (he : ∀ (s : Shared) (H : Hp) (C : Addr) (cl : List (Str × Addr)) (fp : List Addr), PE (X.blk s H scope (compEnvC scope cl C X.env) fp) elt te) (hs : ∀ x, foldedSetIterable iter X.env x = pure x)
    (hi1 : ∀ (s : Shared) (H : Hp) (C : Addr) (cl : List (Str × Addr)) (fp : List Addr), PI (X.blk s H scope (compEnvC scope cl C X.env) fp) tg1 iter1 wi1)
    (hg1 : ∀ (s : Shared) (H : Hp) (C : Addr) (cl : List (Str × Addr)) (fp : List Addr), PG (X.blk s H scope (compEnvC scope cl C X.env) fp) tg1 g1)
    (ht1 : ∀ (s : Shared) (H : Hp) (C : Addr) (cl : List (Str × Addr)) (fp : List Addr), PTs (X.blk s H scope (compEnvC scope cl C X.env) fp) ifs1 tt1)
    (hs1 : ∀ env x, foldedSetIterable iter1 env x = pure x)
    (h : tSc2 X.w wi g tt wi1 g1 tt1 te (own.map (·.2)) vs1 σ H Q)
    (hRR : ∀ D C s' m H', Inv X pins σ H' s' → Q (.ref D) H' → s'.heap.Ns C m → FpOk X pins H' C → compPost (model X.prog X.w) X.A X.xe use Qf (.ref D) C (.ok .next) s') :
    wpAny (model X.prog X.w) X.A (comprehension (.SetComp elt [⟨tg, iter, ifs, 0⟩, ⟨tg1, iter1, ifs1, 0⟩] scope pos) scope X.env pos' (newSet (.type "set")) false (eval iter X.env) use) Qf X.xe s := by
  have hfree : ∀ y ∈ scope.names, y.2 = .free → ∃ c, X.env.cells.lookup y.1 = some c := fun y hy e => by
    rcases ok.free y hy e with k | k
    · exact I.ok.has _ (.inl k)
    · exact I.ok.has _ (.inr k)
  refine wpAny_comprehension_free (use := use) rfl hs (closure_ok hfree) ok.kind (fun y hy e => by rw [ok.uniq y hy, e])
    (thn (hi.run pins s σ H _ I h) fun xv s1 hx => thn hx fun itv s2 h2 => ?_)
  obtain ⟨it, fp, tn, J, H2, e, I2, T, st2, f2, q⟩ := h2
  subst e
  refine newSet_ok (newEnv_comp ?_)
  generalize hD : s2.heap.objs.size = D
  have hDn : H2 D = none := I2.hok.fresh (Nat.le_of_eq hD)
  obtain ⟨W, ⟨m0, w0⟩, turn⟩ := q D hDn
  -- the new list
  generalize hs3 : ({ s2 with heap := s2.heap.push { cls := .type "set", dict := none, data := .set #[] 0 (.fresh 0 0 (!X.w.params.followText "set-order")) } } : Shared) = s3
  have I3 : Inv X pins σ (upd H2 D (SetO X.w D (fun _ => false) 0)) s3 := by
    rw [← hs3]
    refine I2.laid (t' := s2.toks) (fun b o e => Heap.get?_push_of_some _ e) (Nat.le_of_eq hD) ?_
    rw [← hD]
    exact setO_new (setR_fresh X.w)
  have h3 : s3.heap = s2.heap.push { cls := .type "set", dict := none, data := .set #[] 0 (.fresh 0 0 (!X.w.params.followText "set-order")) } := by rw [← hs3]
  have sz : ∀ b ∈ fp, b < s2.heap.objs.size := fun b hb => by
    obtain ⟨o, e, _⟩ := T.obj _ _ st2 b hb
    exact Heap.lt_size e
  have f3 : ∀ b ∈ fp, FpOk X pins (upd H2 D (SetO X.w D (fun _ => false) 0)) b ∧ b < s3.heap.objs.size := fun b hb => by
    have hlt := sz b hb
    refine ⟨⟨?_, (f2 b hb).2⟩, by rw [h3, Heap.size_push]; exact Nat.lt_succ_of_lt hlt⟩
    rw [upd_ne (by rw [← hD]; exact Nat.ne_of_lt hlt)]
    exact (f2 b hb).1
  have st3 : tn 0 s3.heap := T.keep _ _ _ st2 fun b _ o e => by rw [h3]; exact Heap.get?_push_of_some _ e
  have I4 := block_start I3 ok hN f3
  have pg := hg s3 (upd H2 D (SetO X.w D (fun _ => false) 0)) s3.heap.objs.size (cellsFrom (s3.heap.objs.size + 1) scope.names (cloFrom X.env.cells scope.names [])) fp
  have pt := ht s3 (upd H2 D (SetO X.w D (fun _ => false) 0)) s3.heap.objs.size (cellsFrom (s3.heap.objs.size + 1) scope.names (cloFrom X.env.cells scope.names [])) fp
  have pe := he s3 (upd H2 D (SetO X.w D (fun _ => false) 0)) s3.heap.objs.size (cellsFrom (s3.heap.objs.size + 1) scope.names (cloFrom X.env.cells scope.names [])) fp
  have pi1 := hi1 s3 (upd H2 D (SetO X.w D (fun _ => false) 0)) s3.heap.objs.size (cellsFrom (s3.heap.objs.size + 1) scope.names (cloFrom X.env.cells scope.names [])) fp
  have pg1 := hg1 s3 (upd H2 D (SetO X.w D (fun _ => false) 0)) s3.heap.objs.size (cellsFrom (s3.heap.objs.size + 1) scope.names (cloFrom X.env.cells scope.names [])) fp
  have pt1 := ht1 s3 (upd H2 D (SetO X.w D (fun _ => false) 0)) s3.heap.objs.size (cellsFrom (s3.heap.objs.size + 1) scope.names (cloFrom X.env.cells scope.names [])) fp
  show codeAny _ _ (.compStart (.SetComp elt [⟨tg, iter, ifs, 0⟩, ⟨tg1, iter1, ifs1, 0⟩] scope pos) 0 (.ref it) (.ref D) (compEnvC scope (cellsFrom (s3.heap.objs.size + 1) scope.names (cloFrom X.env.cells scope.names [])) s3.heap.objs.size X.env)) (compPost (model X.prog X.w) X.A X.xe use Qf (.ref D) s3.heap.objs.size) { s3 with heap := pushCells (s3.heap.push { cls := .type "dict", data := .dict #[] }) scope.names }
  have nfp : ∀ b ∈ fp, (upd H2 D (SetO X.w D (fun _ => false) 0)) b = none := fun b hb => (f3 b hb).1.1
  generalize hce : compEnvC scope (cellsFrom (s3.heap.objs.size + 1) scope.names (cloFrom X.env.cells scope.names [])) s3.heap.objs.size X.env = ce at I4 pg pt pe pi1 pg1 pt1 ⊢
  have cL : ce.locals = s3.heap.objs.size := by subst hce; rfl
  generalize hH3 : upd H2 D (SetO X.w D (fun _ => false) 0) = H3 at I3 I4 pg pt pe pi1 pg1 pt1 w0 nfp f3
  generalize hs4 : ({ s3 with heap := pushCells (s3.heap.push { cls := .type "dict", data := .dict #[] }) scope.names } : Shared) = s4 at I4 ⊢
  have st4 : tn 0 s4.heap := T.keep _ _ _ st3 fun b _ o e => by rw [← hs4]; exact pushCells_keeps _ _ _ _ (Heap.get?_push_of_some _ e)
  have stat : ∀ {σ' : L2.St} {H' : Hp} {s' : Shared}, Inv (X.blk s3 H3 scope ce fp) [] σ' H' s' → (∀ b ∈ fp, H' b = none) → ∀ b ∈ fp, FpOk (X.blk s3 H3 scope ce fp) [] H' b := fun {σ' H' s'} I' hn b hb =>
    ⟨hn b hb, (I'.ok.exf b hb).1, I'.ok.exfs b hb, .inl hb, fun x c e => (I'.ok.exf b hb).2 x c e, fun p hp => absurd (show p ∈ ([] : List (Addr × Obj)) ++ [] from hp) (by simp)⟩
  have loop : codeAny (model X.prog X.w) X.A (.compLoop (.SetComp elt [⟨tg, iter, ifs, 0⟩, ⟨tg1, iter1, ifs1, 0⟩] scope pos) 0 (.ref it) (.ref D) ce) (compPost (model X.prog X.w) X.A X.xe use Qf (.ref D) s3.heap.objs.size) s4 := by
    refine compLoop2_outS (hs1 ce) (fun n s' => ∃ i H', Inv (X.blk s3 H3 scope ce fp) [] (wipe σ (own.map (·.2))) H' s' ∧ tn i s'.heap ∧ (∀ b ∈ fp, H' b = none) ∧ W i n H') ?_ m0 ⟨0, H3, I4, st4, nfp, w0⟩
    rintro n s5 ⟨i, H5, I5, st5, n5, w5⟩
    rcases turn i n H5 w5 with ⟨stop, qq⟩ | ⟨go, Nx, hNx, step⟩
    · have td := T.done (X.blk s3 H3 scope ce fp) rfl rfl rfl hc i [] s5 _ H5 (fun _ _ => False) I5 (stat I5 n5) st5 stop
      refine thnF td fun r s6 ⟨hr, I6⟩ => ?_
      subst hr
      -- back in the def's context
      have I7 : Inv X pins σ H5 s6 := I3.call' (ch := fp) I6.os I6.base I6.hok I6.bare fun b hb => ⟨(f3 b hb).1.2.2.2.1, (f3 b hb).1.2.1, (f3 b hb).1.2.2.2.2.1, (f3 b hb).1.2.2.2.2.2⟩
      have nC : H5 s3.heap.objs.size = none := by
        have z : H5 ce.locals = none := I6.free
        rw [cL] at z
        exact z
      obtain ⟨m, hn, _⟩ := I6.loc
      have hn : s6.heap.Ns ce.locals m := hn
      rw [cL] at hn
      exact hRR D s3.heap.objs.size s6 m H5 I7 qq hn (I3.fpOk (Nat.le_refl _) nC)
    · have ti := T.item (X.blk s3 H3 scope ce fp) rfl rfl rfl hc i [] s5 _ H5 (fun _ _ => False) I5 (stat I5 n5) st5 go
      refine thnF ti fun r s6 ⟨u, hr, h6⟩ => ?_
      subst hr
      refine thnF h6 fun _ s7 ⟨x, H7, I7, r7, y7, st7, n7⟩ => ?_
      have I7' := I7.pinned (stat I7 n7) (T.obj _ _ st7)
      refine thnF (pg.run _ s7 _ H7 x u _ I7' r7 (step x H7 y7)) fun _ s8 ⟨σ8, H8, I8, hw8, q8⟩ => ?_
      refine thnF (pt.run _ s8 σ8 H8 _ I8 q8) fun b s9 ⟨H9, I9, q9⟩ => ?_
      -- the turn's end, from any slots that know what the block knew at its start
      have fin : ∀ {σ9 : L2.St} {s' : Shared} {H' : Hp}, Inv (X.blk s3 H3 scope ce fp) ([] ++ pinsAt fp s7.heap) σ9 H' s' → (wipe σ (own.map (·.2))).length = σ9.length → (∀ (j : Nat) v, (wipe σ (own.map (·.2)))[j]? = some (some v) → σ9[j]? = some (some v)) → Nx H' →
          ∃ m, m < n ∧ ∃ i H', Inv (X.blk s3 H3 scope ce fp) [] (wipe σ (own.map (·.2))) H' s' ∧ tn i s'.heap ∧ (∀ b ∈ fp, H' b = none) ∧ W i m H' := fun {σ9 s' H'} I' hl hk nx => by
        obtain ⟨m', hm, w'⟩ := hNx H' nx
        have pin' : ∀ b ∈ fp, ∀ o, s7.heap.get? b = some o → s'.heap.get? b = some o ∧ H' b = none := fun b hb o e =>
          let z := I'.pin (b, o) (List.mem_append_right _ (List.mem_append_right _ (mem_pinsAt hb e)))
          ⟨z.1, z.2.1⟩
        refine ⟨m', hm, i + 1, H', (I'.unpinned (pins := [])).weak hl hk, T.keep _ _ _ st7 fun b hb o e => (pin' b hb o e).1, fun b hb => ?_, w'⟩
        obtain ⟨o, e, _⟩ := T.obj _ _ st7 b hb
        exact (pin' b hb o e).2
      have hl8 : (wipe σ (own.map (·.2))).length = σ8.length := by rw [← hw8, wipe_length]
      have hk8 : ∀ (j : Nat) v, (wipe σ (own.map (·.2)))[j]? = some (some v) → σ8[j]? = some (some v) := fun j v e => by
        rw [← hw8] at e
        exact (wipe_some e).1
      have hk9 : ∀ (j : Nat) v, (wipe σ (own.map (·.2)))[j]? = some (some v) → (wipe σ8 vs1)[j]? = some (some v) := fun j v e => by
        rw [← hw8] at e
        obtain ⟨e1, e2⟩ := wipe_some e
        rw [wipe_out fun z => e2 (hv j z)]
        exact e1
      cases b with
      | false =>
        simp only [Bool.false_eq_true, if_false] at q9 ⊢
        exact fin I9 hl8 hk8 q9
      | true =>
        simp only [if_true] at q9 ⊢
        refine thnF (pi1.run _ s9 σ8 H9 _ I9 q9) fun xv s10 hx => thnF hx fun itv s11 h11 => ?_
        obtain ⟨it1, fp1, tn1, J1, H11, e1, I11, T1, st11, f11, W1, ⟨m1, w1⟩, turn1⟩ := h11
        subst e1
        -- the inner loop
        have stat1 : ∀ {H' : Hp}, (∀ b ∈ fp1, H' b = none) → ∀ b ∈ fp1, FpOk (X.blk s3 H3 scope ce fp) ([] ++ pinsAt fp s7.heap) H' b := fun hn b hb => ⟨hn b hb, (f11 b hb).2⟩
        have loop1 : codeAny (model X.prog X.w) X.A (.compLoop (.SetComp elt [⟨tg, iter, ifs, 0⟩, ⟨tg1, iter1, ifs1, 0⟩] scope pos) 1 (.ref it1) (.ref D) ce)
            (fun r s' => match r with
              | .ok _ => ∃ m, m < n ∧ ∃ i H', Inv (X.blk s3 H3 scope ce fp) [] (wipe σ (own.map (·.2))) H' s' ∧ tn i s'.heap ∧ (∀ b ∈ fp, H' b = none) ∧ W i m H'
              | .error _ => False) s11 := by
          refine compLoop2_inS (fun k s' => ∃ j H', Inv (X.blk s3 H3 scope ce fp) ([] ++ pinsAt fp s7.heap) (wipe σ8 vs1) H' s' ∧ tn1 j s'.heap ∧ (∀ b ∈ fp1, H' b = none) ∧ W1 j k H') ?_ m1 ⟨0, H11, I11.weak (wipe_length _ _) (fun j v e => (wipe_some e).1), st11, fun b hb => (f11 b hb).1, w1⟩
          rintro k s12 ⟨j, H12, I12, st12, n12, w12⟩
          rcases turn1 j k H12 w12 with ⟨stop1, nx1⟩ | ⟨go1, Nx1, hNx1, step1⟩
          · refine thnF (T1.done (X.blk s3 H3 scope ce fp) rfl rfl rfl hc j _ s12 (wipe σ8 vs1) H12 (fun _ _ => False) I12 (stat1 n12) st12 stop1) fun r s13 ⟨hr, I13⟩ => ?_
            subst hr
            exact fin I13 (hl8.trans (wipe_length σ8 vs1).symm) hk9 nx1
          · refine thnF (T1.item (X.blk s3 H3 scope ce fp) rfl rfl rfl hc j _ s12 (wipe σ8 vs1) H12 (fun _ _ => False) I12 (stat1 n12) st12 go1) fun r s13 ⟨u1, hr, h13⟩ => ?_
            subst hr
            refine thnF h13 fun _ s14 ⟨x1, H14, I14, r14, y14, st14, n14⟩ => ?_
            have I14' := I14.pinned (stat1 n14) (T1.obj _ _ st14)
            refine thnF (pg1.run _ s14 (wipe σ8 vs1) H14 x1 u1 _ I14' r14 (step1 x1 H14 y14)) fun _ s15 ⟨σ15, H15, I15, hw15, q15⟩ => ?_
            refine thnF (pt1.run _ s15 σ15 H15 _ I15 q15) fun b1 s16 ⟨H16, I16, q16⟩ => ?_
            have fin1 : ∀ {s' : Shared} {H' : Hp}, Inv (X.blk s3 H3 scope ce fp) (([] ++ pinsAt fp s7.heap) ++ pinsAt fp1 s14.heap) σ15 H' s' → Nx1 H' → ∃ m, m < k ∧ ∃ j H', Inv (X.blk s3 H3 scope ce fp) ([] ++ pinsAt fp s7.heap) (wipe σ8 vs1) H' s' ∧ tn1 j s'.heap ∧ (∀ b ∈ fp1, H' b = none) ∧ W1 j m H' := fun {s' H'} I' nx => by
              obtain ⟨m', hm, w'⟩ := hNx1 H' nx
              have pin' : ∀ b ∈ fp1, ∀ o, s14.heap.get? b = some o → s'.heap.get? b = some o ∧ H' b = none := fun b hb o e =>
                let z := I'.pin (b, o) (List.mem_append_right _ (List.mem_append_right _ (mem_pinsAt hb e)))
                ⟨z.1, z.2.1⟩
              refine ⟨m', hm, j + 1, H', I'.unpinned.weak (by rw [← hw15, wipe_length]) (fun j v e => by rw [← hw15] at e; exact (wipe_some e).1), T1.keep _ _ _ st14 fun b hb o e => (pin' b hb o e).1, fun b hb => ?_, w'⟩
              obtain ⟨o, e, _⟩ := T1.obj _ _ st14 b hb
              exact (pin' b hb o e).2
            cases b1 with
            | false =>
              simp only [Bool.false_eq_true, if_false] at q16 ⊢
              exact fin1 I16 q16
            | true =>
              simp only [if_true] at q16 ⊢
              refine thnF (pe.run _ s16 σ15 H16 _ I16 q16) fun z s17 ⟨yv, H17, I17, r17, kI, S0, n0, ey, hD17, hz17, nx⟩ => ?_
              subst ey
              obtain ⟨tk, rfl⟩ := r17
              exact addI_ok (X := X.blk s3 H3 scope ce fp) I17 hD17 hz17 fun s18 I18 => fin1 I18 nx
        exact compStart1_okS loop1 (T1.self X.A 0 _ _ _ st11 loop1)
  exact codeAny_compStart_set loop (T.self X.A 0 _ _ _ st4 loop)
/-- as a value -/
theorem pe_sc2 {elt tg iter tg1 iter1 : Expr} {ifs ifs1 : List Expr} {scope : Scope} {own : List (Str × Nat)} {vs1 : List Nat} {pos : Pos} {wi wi1 : TI} {g g1 : TG} {tt tt1 : TT} {te : TE} (hc : X.calm = true) (hN : X.N.Nodup) (hi : PI X tg iter wi) (ok : BlkOk X.N X.env.scope scope own) (hv : ∀ i ∈ vs1, i ∈ own.map (·.2))
    (hg : ∀ (s : Shared) (H : Hp) (C : Addr) (cl : List (Str × Addr)) (fp : List Addr), PG (X.blk s H scope (compEnvC scope cl C X.env) fp) tg g) (ht : ∀ (s : Shared) (H : Hp) (C : Addr) (cl : List (Str × Addr)) (fp : List Addr), PTs (X.blk s H scope (compEnvC scope cl C X.env) fp) ifs tt)
    (hi1 : ∀ (s : Shared) (H : Hp) (C : Addr) (cl : List (Str × Addr)) (fp : List Addr), PI (X.blk s H scope (compEnvC scope cl C X.env) fp) tg1 iter1 wi1)
    (hg1 : ∀ (s : Shared) (H : Hp) (C : Addr) (cl : List (Str × Addr)) (fp : List Addr), PG (X.blk s H scope (compEnvC scope cl C X.env) fp) tg1 g1) (ht1 : ∀ (s : Shared) (H : Hp) (C : Addr) (cl : List (Str × Addr)) (fp : List Addr), PTs (X.blk s H scope (compEnvC scope cl C X.env) fp) ifs1 tt1)
    (he : ∀ (s : Shared) (H : Hp) (C : Addr) (cl : List (Str × Addr)) (fp : List Addr), PE (X.blk s H scope (compEnvC scope cl C X.env) fp) elt te) (hs : ∀ x, foldedSetIterable iter X.env x = pure x := by intro _; rfl) (hs1 : ∀ env x, foldedSetIterable iter1 env x = pure x := by intro _ _; rfl) :
    PE X (.SetComp elt [⟨tg, iter, ifs, 0⟩, ⟨tg1, iter1, ifs1, 0⟩] scope pos) (tSc2 X.w wi g tt wi1 g1 tt1 te (own.map (·.2)) vs1) := by
  refine ⟨fun pins s σ H Q I h => ?_⟩
  rw [eval_SetComp]
  refine sc2_core hc hN I hi ok hv hg ht he hs hi1 hg1 ht1 hs1 h fun D C s' m H' I' q hn f => ⟨m, hn, fun h'' sb => ?_⟩
  obtain ⟨f0, f1, f2, f3, f4, f5⟩ := f
  exact ⟨.ref D, H', I'.turned (t' := s'.toks) (fun b o hb e => (sb.2 b hb).trans e) f0 f1 f3 f4 f5, rfl, q⟩
end
/-! ### sorted(a set of whole numbers) -/
section
variable {P : Program} {w : World} {A : Around} {E : Value → Shared → Prop} {s : Shared} {a : Addr}
theorem sorted_setA {S : Int → Bool} {n : Nat} {Q : Value → Shared → Prop} (R : SetR w s.heap a S n) (hh : A.handled = none) (hu : A.units + 64 < cLine)
    (hQ : ∀ s' p (out : Array Value) (c : Nat) (ns : List Int), (∀ b o, s.heap.get? b = some o → s'.heap.get? b = some o) → s'.gens = s.gens → s'.os = s.os → s.heap.objs.size ≤ p →
      s'.heap.get? p = some (seqObj "list" out c) → PySem.W.EachIs (fun v b => ∃ tk, v = .int b tk) out.toList ns → ns.Pairwise (· < ·) → (∀ k, k ∈ ns ↔ S k = true) → ns.length = n → Q (.ref p) s') :
    wpAny (model P w) A (call (.builtin "sorted") [.ref a]) Q E s := by
  obtain ⟨o, es, ep, t, ho, hex, hd, g, nd, hm, hb, hf, hn, hr, hl⟩ := R
  refine Calls.call_function_entry kind_sorted plain_sorted entry_sorted (args_sorted1 _) ?_
  unfold Builtin.«sorted»
  refine wpAny_bind (m := checkCount "sorted" 1 1 _) (wpAny_pure ?_)
  refine wpAny_bind (collect_set (A := A.in1) hh ⟨o, ho, hex.1, hd⟩ hf hb hr hl fun s1 vs k1 hz g1 o1 pm => ?_)
  have hvl : vs.length = n := by rw [pm.length_eq, List.length_map, Array.length_toList]; exact hn
  have hEi : ∀ l : List Value, (∀ v ∈ l, ∃ k tk, v = Value.int k tk) → PySem.W.EachIs (fun v b => ∃ tk, v = .int b tk) l (l.map Builtin.Re.reRawOf) := by
    intro l
    induction l with
    | nil => intro _; exact .nil
    | cons v r ih =>
      intro h
      obtain ⟨k, tk, rfl⟩ := h v List.mem_cons_self
      exact .cons ⟨tk, rfl⟩ (ih fun u hu => h u (List.mem_cons_of_mem _ hu))
  have e0 : PySem.W.EachIs (fun v b => ∃ tk, v = .int b tk) vs (vs.map Builtin.Re.reRawOf) := hEi vs fun v hv => by
    obtain ⟨e, he, q⟩ := List.mem_map.mp (pm.mem_iff.mp hv)
    obtain ⟨k, tk, h1, _⟩ := g e he
    exact ⟨k, tk, by rw [← q]; exact h1⟩
  have pk : (vs.map Builtin.Re.reRawOf).Perm (es.toList.map keyOf) := by
    have q := pm.map Builtin.Re.reRawOf
    rw [List.map_map] at q
    exact q
  have hz2 : (vs.map Builtin.Re.reRawOf).length ≤ sizeLine := by
    rw [List.length_map, hvl, ← hn]
    exact Nat.le_trans (Nat.le_of_lt hb) (by decide)
  refine wpAny_bind (wpAny_newList ?_ (by rw [hvl, ← hn]; exact Nat.le_trans (Nat.le_of_lt hb) (by decide)))
  have hoL : (s1.heap.push (seqObj "list" vs.toArray 0)).get? s1.heap.objs.size = some (seqObj "list" vs.toArray 0) := Heap.get?_push_size _ rfl
  refine wpAny_bind (wpAny_holding (PySem.W.list_sort_data (enc := fun b : Int => PyData.int b) (R := fun v b => ∃ tk, v = .int b tk) (vs := vs) (bs := vs.map Builtin.Re.reRawOf) hoL e0 (e0.mono fun v b ⟨tk, hv⟩ => ⟨[], by rw [hv]; exact .int _ _, by simp⟩) (PySem.W.AllAlike.of fun _ _ => rfl) (PySem.W.Sortable.others fun _ => ⟨fun e => (by cases e), fun _ e => (by cases e)⟩) hz2 (fun b _ => ?_) fun out hol heo => ?_))
  · have h1 : (PyData.int b).depth ≤ 1 := by simp [PyData.depth]
    have h2 : A.in1.units = A.units + 1 := rfl
    rw [h2]
    omega
  · obtain ⟨c, hc⟩ := sortedHeap_at (vs := vs) (out := out.toArray) hoL
    have hle : PySem.W.dataLe false (fun b : Int => PyData.int b) = fun a b : Int => decide (a ≤ b) := PySem.W.dataLe_int fun b : Int => b
    rw [hle] at heo
    have pn : ((vs.map Builtin.Re.reRawOf).mergeSort fun a b : Int => decide (a ≤ b)).Perm (es.toList.map keyOf) := (List.mergeSort_perm _ _).trans pk
    have srt : ((vs.map Builtin.Re.reRawOf).mergeSort fun a b : Int => decide (a ≤ b)).Pairwise (· ≤ ·) := by
      have h0 := List.pairwise_mergeSort (le := fun a b : Int => decide (a ≤ b)) (fun a b c => by simp only [decide_eq_true_eq]; omega) (fun a b => by simp only [Bool.or_eq_true, decide_eq_true_eq]; omega) (vs.map Builtin.Re.reRawOf)
      exact h0.imp fun h => by simpa using h
    refine wpAny_pure ⟨_, rfl, hQ _ s1.heap.objs.size out.toArray c _ (fun b u e => ?_) g1 o1 hz hc heo (lt_of_le_nodup _ srt (pn.nodup_iff.mpr nd)) (fun k => by rw [pn.mem_iff, ← hm k]) ?_⟩
    · have q := k1 b u e
      have hlt := Heap.lt_size q
      show (sortedHeap (s1.heap.push (seqObj "list" vs.toArray 0)) s1.heap.objs.size vs out.toArray).get? b = some u
      rw [sortedHeap_old (Nat.ne_of_lt hlt) (by rw [size_push']; exact Nat.lt_succ_of_lt hlt)]
      exact Heap.get?_push_of_some _ q
    · rw [pn.length_eq, List.length_map, Array.length_toList]; exact hn
end
section
variable {X : Cx}
def rSortSA (w : World) : List V → Hp → VK → Prop := fun vs H Q => ∃ (a : Addr) (S : Int → Bool) (n : Nat), vs = [V.ref a] ∧ H a = some (SetO w a S n) ∧ n ≤ 5000 ∧
  ∀ (ns : List Int) (p : Addr), ns.Pairwise (· < ·) → (∀ k : Int, k ∈ ns ↔ S k = true) → ns.length = n → H p = none → Q (.ref p) (upd H p (.lst (ns.map V.int)))
theorem each_ints : ∀ {l : List Value} {ns : List Int}, PySem.W.EachIs (fun v b => ∃ tk, v = Value.int b tk) l ns → Vals (ns.map V.int) l
  | _, _, .nil => .nil
  | _, _, .cons h t => .cons h (each_ints t)
theorem cr_sortedSA (hc : X.calm = true) (hu : X.A.units + 64 < cLine) : CallR X (.builtin "sorted") (rSortSA X.w) := by
  intro pins s σ H vs us Q I r h
  obtain ⟨a, S, n, rfl, ha, hn5, q⟩ := h
  have R := setO_get I ha
  rw [Vals.ref1 r]
  refine sorted_setA R (I.ok.hd hc) hu fun s' p out c ns k g o hp hg hi hs hm hl => ?_
  have hlen : (ns.map V.int).length ≤ sizeLine := by rw [List.length_map, hl]; exact Nat.le_trans hn5 (by decide)
  have hn : H p = none := I.hok.fresh hp
  have J : Inv X pins σ (upd H p (.lst (ns.map V.int))) { s with heap := s'.heap, gens := s'.gens, drawn := s'.drawn, toks := s'.toks } :=
    I.call (ch := []) (Un.laid k hp hn) (I.hok.laid k hp ⟨hlen, out.toList, c, each_ints hi, hg⟩) (by rw [g]; exact I.bare) (fun _ z => nomatch z)
  have e : s' = { s with heap := s'.heap, gens := s'.gens, drawn := s'.drawn, toks := s'.toks } := by
    cases s'
    cases s
    cases o
    rfl
  rw [e]
  exact ⟨.ref p, _, J, rfl, q ns p hs hm hl hn⟩
end
end NW

/-! methods that may raise; sets of numbers told by two fors, sorted; dict.get. -/
namespace NW
open PySem PySem.Spec PyProof.Rows L2 Evl
section
variable {X : Cx} {CX : CXT} {k : Nat} {f C : Addr} {fd : FuncData} {ps : List Str} {sp : Sp} {E : L2.St → XK} {x m : Str} {p pos apos : Pos} {e o : Expr} {es : List Expr} {ta : TE} {t : TA}
/-- o.m(e, ..), the call may raise -/
def tMethE (C : Addr) (m : Str) (sp : Sp) (E : L2.St → XK) (ta : TE) (t : TA) : TE := fun σ H Q => ta σ H fun x H1 => ∃ a dx fs, x = .ref a ∧ H1 a = some (.ins C dx fs) ∧ fs.lookup m = none ∧ t σ H1 fun vs H2 => sp (x :: vs) H2 Q (E σ)
theorem pe_methE {pl : Sem Bool} (he : PE X o ta) (c : Cls X.K C) (hm : Meth X.K C m f) (F : FnOk X.prog X.w X.K X.mg X.base CX k f fd ps sp) (hr : Room k X.A) (hb : Binds X.K fd ps []) (hx : ∀ σ, PassesAt CX X σ (E σ)) (ha : PA X (e :: es) t)
    (hst : starEach (e :: es) X.env = (false, eval e X.env) :: starEach es X.env := by rfl) (hpl : (backTo pos (starEach es X.env)).any (·.1) = false := by rfl)
    (ht : eval (.Call (.Attribute o m apos) (e :: es) [] pos) X.env = (do
      let ov ← eval o X.env
      standAt apos.atName
      let (f, first) ← holding [ov] (getMethod ov m pl)
      callWith pos f first (backTo pos (starEach (e :: es) X.env)) (backToKw pos (keywordEach [] X.env))) := by rfl) :
    PE X (.Call (.Attribute o m apos) (e :: es) [] pos) (tMethE C m sp E ta t) := by
  refine ⟨fun pins s σ H Q I h => ?_⟩
  refine PySem.W.methodCall_KW (pl := pl) (thn (he.run pins s σ H _ I h) fun u s1 ⟨x, H1, I1, rx, a, dx, fs, ex, ea, l, q⟩ => ?_) ht
  subst ex
  obtain rfl : u = Value.ref a := rx
  refine getmeth_ok I1 ea c hm l ?_
  refine PySem.W.callWith_K (first := [.ref a]) (h₀ := X.base) I.ok.mod.kin hm.kp (thn (ha.run pos pins s1 σ H1 _ I1 q) fun us s2 ⟨vs, H2, I2, r, q2⟩ => ⟨I2.kIn, ?_⟩) hst hpl
  exact run_fnS (us := .ref a :: us) (vs := .ref a :: vs) F hr hb (hx σ) I2 (.cons rfl r) q2
theorem pe_methE0 {pl : Sem Bool} (he : PE X o ta) (c : Cls X.K C) (hm : Meth X.K C m f) (F : FnOk X.prog X.w X.K X.mg X.base CX k f fd ps sp) (hr : Room k X.A) (hb : Binds X.K fd ps []) (hx : ∀ σ, PassesAt CX X σ (E σ))
    (ht : eval (.Call (.Attribute o m apos) [] [] pos) X.env = (do
      let ov ← eval o X.env
      standAt apos.atName
      let (f, first) ← holding [ov] (getMethod ov m pl)
      callWith pos f first (backTo pos (starEach [] X.env)) (backToKw pos (keywordEach [] X.env))) := by rfl) :
    PE X (.Call (.Attribute o m apos) [] [] pos) (tMethE C m sp E ta tNil) := by
  refine ⟨fun pins s σ H Q I h => ?_⟩
  refine PySem.W.methodCall_KW (pl := pl) (thn (he.run pins s σ H _ I h) fun u s1 ⟨x, H1, I1, rx, a, dx, fs, ex, ea, l, q⟩ => ?_) ht
  subst ex
  obtain rfl : u = Value.ref a := rx
  refine getmeth_ok I1 ea c hm l ?_
  exact PySem.W.callWith_K0 (first := [.ref a]) I1.kIn hm.kp (run_fnS (us := [.ref a]) (vs := [.ref a]) F hr hb (hx σ) I1 (.cons rfl .nil) q)
end
section
variable {K : PySem.W.Frag} {σ : L2.St} {H H' : Hp} {ta td ty tx te tl : TE} {tA : TA} {t t1 : TT} {wi wi1 : TI} {g g1 : TG} {Q : VK} {sp : Sp} {E : L2.St → XK} {C : Addr} {m : Str}
theorem rd_methE (h : ta σ H fun x H1 => ∃ a dx fs, x = .ref a ∧ H1 a = some (.ins C dx fs) ∧ fs.lookup m = none ∧ tA σ H1 fun vs H2 => sp (x :: vs) H2 Q (E σ)) : tMethE C m sp E ta tA σ H Q := h
theorem rd_dget1 (h : td σ H fun x H1 => ∃ a, x = .ref a ∧ IsD H1 a ∧ ty σ H1 fun y H2 => ∃ o, DGet H2 a y o ∧ Q (o.getD .non) H2) : tDGet1 td ty σ H Q := h
theorem rd_dget2 (h : td σ H fun x H1 => ∃ a, x = .ref a ∧ IsD H1 a ∧ ty σ H1 fun y H2 => tx σ H2 fun z H3 => ∃ o, DGet H3 a y o ∧ Q (o.getD z) H3) : tDGet2 td ty tx σ H Q := h
/-- the whole numbers in a set told by its members' list -/
def SetOf (S : Int → Bool) (n : Nat) (l : List Nat) : Prop := (∀ k : Int, S k = true ↔ ∃ a ∈ l, k = ((a : Nat) : Int)) ∧ ∃ d : List Nat, d.Nodup ∧ d.length = n ∧ ∀ a, a ∈ d ↔ a ∈ l
theorem SetOf.nil : SetOf (fun _ => false) 0 [] := ⟨fun k => ⟨fun h => (by cases h), fun ⟨a, h, _⟩ => (List.not_mem_nil h).elim⟩, [], by simp, rfl, fun a => by simp⟩
theorem SetOf.add {S : Int → Bool} {n : Nat} {l : List Nat} (h : SetOf S n l) (a : Nat) : SetOf (fun j => S j || decide (j = ((a : Nat) : Int))) (if S ((a : Nat) : Int) = true then n else n + 1) (l ++ [a]) := by
  obtain ⟨h1, d, d1, d2, d3⟩ := h
  refine ⟨fun k => ?_, ?_⟩
  · rw [Bool.or_eq_true, decide_eq_true_eq, h1]
    constructor
    · rintro (⟨b, hb, rfl⟩ | rfl)
      · exact ⟨b, List.mem_append.mpr (.inl hb), rfl⟩
      · exact ⟨a, by simp, rfl⟩
    · rintro ⟨b, hb, rfl⟩
      rcases List.mem_append.mp hb with hb | hb
      · exact .inl ⟨b, hb, rfl⟩
      · rw [List.mem_singleton] at hb
        exact .inr (by rw [hb])
  · by_cases hs : S ((a : Nat) : Int) = true
    · rw [if_pos hs]
      obtain ⟨b, hb, e⟩ := (h1 _).mp hs
      have e2 : a = b := by omega
      refine ⟨d, d1, d2, fun c => ?_⟩
      rw [d3, List.mem_append, List.mem_singleton]
      exact ⟨.inl, fun z => z.elim id fun z => by rw [z, e2]; exact hb⟩
    · rw [if_neg hs]
      have hn : a ∉ d := fun z => hs ((h1 _).mpr ⟨a, (d3 a).mp z, rfl⟩)
      refine ⟨d ++ [a], List.nodup_append.mpr ⟨d1, by simp, fun x hx y hy => ?_⟩, by rw [List.length_append, d2]; rfl, fun c => ?_⟩
      · rw [List.mem_singleton] at hy
        rw [hy]
        exact fun z => hn (z ▸ hx)
      · rw [List.mem_append, List.mem_append, d3]
theorem pigeonN : ∀ (N : Nat) (l : List Nat), l.Nodup → (∀ x ∈ l, x < N) → l.length ≤ N := by
  intro N
  induction N with
  | zero =>
    intro l _ h
    cases l with
    | nil => exact Nat.le_refl _
    | cons a r => exact absurd (h a List.mem_cons_self) (Nat.not_lt_zero _)
  | succ N ih =>
    intro l hn h
    have h1 := ih (l.erase N) (hn.erase N) fun x hx => by
      have h2 := h x (List.mem_of_mem_erase hx)
      have h3 : x ≠ N := fun e => by
        rw [e] at hx
        exact (List.Nodup.not_mem_erase hn) hx
      omega
    have h4 := List.length_erase_le (a := N) (l := l)
    by_cases hm : N ∈ l
    · rw [List.length_erase_of_mem hm] at h1
      omega
    · rw [List.erase_of_not_mem hm] at h1
      omega
theorem SetOf.small {S : Int → Bool} {n N : Nat} {l : List Nat} (h : SetOf S n l) (hl : ∀ a ∈ l, a < N) : n ≤ N := by
  obtain ⟨_, d, d1, d2, d3⟩ := h
  rw [← d2]
  exact pigeonN N d d1 fun a ha => hl a ((d3 a).mp ha)
/-- {k for x in .. for y in ..}, all below N -/
theorem rd_sc2 {w : World} {j j1 : Nat} {vs vs1 : List Nat} {N : Nat} {xs : List V} {ys : Nat → List Nat} (h : WkX wi σ H xs) (hN : N ≤ 4000) (hw : ∀ x, wipe ((wipe σ vs).set j (some x)) vs = wipe σ vs) (hw1 : ∀ x y, wipe ((wipe ((wipe σ vs).set j (some x)) vs1).set j1 (some y)) vs1 = wipe ((wipe σ vs).set j (some x)) vs1)
    (hys : ∀ i, ∀ a ∈ ys i, a < N) (h1 : ∀ i x, xs[i]? = some x → WkX wi1 ((wipe σ vs).set j (some x)) H (vInts (ys i)))
    (he : ∀ i x, xs[i]? = some x → ∀ a ∈ ys i, ∀ H1, Ex H H1 → Ev te ((wipe ((wipe σ vs).set j (some x)) vs1).set j1 (some (.int ((a : Nat) : Int)))) H1 (.int ((a : Nat) : Int)))
    (q : ∀ p H1 S n, H p = none → Same H H1 → H1 p = some (SetO w p S n) → SetOf S n ((List.range xs.length).flatMap ys) → n ≤ N → Q (.ref p) H1) : tSc2 w wi (gName j) tYes wi1 (gName j1) tYes te vs vs1 σ H Q :=
  h H (Ex.refl H) _ fun J H1 e1 ⟨G, W, WG⟩ Dl hD => by
  have sN : ∀ i a, a ∈ (List.range i).flatMap ys → a < N := fun i a ha => by
    obtain ⟨k, _, hk⟩ := List.mem_flatMap.mp ha
    exact hys k a hk
  refine ⟨fun i m H' => m = xs.length - i ∧ i ≤ xs.length ∧ Ex H1 H' ∧ ∃ S n, H' Dl = some (SetO w Dl S n) ∧ SetOf S n ((List.range i).flatMap ys), ⟨xs.length, by omega, Nat.zero_le _, Ex.new hD, _, _, upd_same, SetOf.nil⟩, ?_⟩
  rintro i m H' ⟨rfl, hi, ex, S, n, hd, hS⟩
  by_cases hlt : i < xs.length
  · refine .inr ⟨W.goes i H' hlt (WG _ (e1.trans ex) fun b o _ hb => ex _ _ hb), fun H2 => Ex H1 H2 ∧ ∃ S n, H2 Dl = some (SetO w Dl S n) ∧ SetOf S n ((List.range (i + 1)).flatMap ys), fun H2 nx => ⟨xs.length - (i + 1), by omega, rfl, hlt, nx.1, nx.2⟩, fun x H2 hy => ?_⟩
    obtain ⟨rfl, hx⟩ := W.yields i H' x H2 hlt (WG _ (e1.trans ex) fun b o _ hb => ex _ _ hb) hy
    have w1 := h1 i x hx
    refine ⟨hw x, rd_yes (iteT ?_)⟩
    refine w1 H2 (e1.trans ex) _ fun J1 H3 e3 ⟨G1, W1, WG1⟩ => ?_
    have lz : (vInts (ys i)).length = (ys i).length := vInts_len _
    have nD : ∀ b : Addr, H2 b = none → b ≠ Dl := fun b hb e => by rw [e, hd] at hb; cases hb
    refine ⟨fun k m H4 => m = (ys i).length - k ∧ k ≤ (ys i).length ∧ (Ex H1 H4 ∧ ∀ b o, H2 b = none → H3 b = some o → H4 b = some o) ∧ ∃ S n, H4 Dl = some (SetO w Dl S n) ∧ SetOf S n ((List.range i).flatMap ys ++ (ys i).take k), ⟨(ys i).length, by omega, Nat.zero_le _, ⟨ex.trans e3, fun _ _ _ h => h⟩, S, n, e3 _ _ hd, by simpa using hS⟩, ?_⟩
    rintro k m H4 ⟨rfl, hk, ⟨ex4, kn4⟩, S4, n4, hd4, hS4⟩
    have gG : G1 H4 := WG1 _ (e1.trans ex4) kn4
    by_cases hlk : k < (ys i).length
    · refine .inr ⟨W1.goes k H4 (by rw [lz]; exact hlk) gG, fun H5 => (Ex H1 H5 ∧ ∀ b o, H2 b = none → H3 b = some o → H5 b = some o) ∧ ∃ S n, H5 Dl = some (SetO w Dl S n) ∧ SetOf S n ((List.range i).flatMap ys ++ (ys i).take (k + 1)), fun H5 nx => ⟨(ys i).length - (k + 1), by omega, rfl, hlk, nx.1, nx.2⟩, fun y H5 hy => ?_⟩
      obtain ⟨rfl, hy2⟩ := W1.yields k H4 y H5 (by rw [lz]; exact hlk) gG hy
      have hya : (ys i)[k]? = some (ys i)[k] := List.getElem?_eq_getElem hlk
      have hyv : y = .int (((ys i)[k] : Nat) : Int) := by
        rw [vInts_get hya] at hy2
        exact (Option.some.inj hy2).symm
      subst hyv
      refine ⟨hw1 _ _, rd_yes (iteT ?_)⟩
      refine he i x hx _ (List.getElem_mem hlk) H5 (e1.trans ex4) H5 (Ex.refl _) _ fun H7 e7 => ⟨_, S4, n4, rfl, e7 _ _ hd4, ?_, ?_⟩
      · have h5 := hS4.small (N := N) fun a ha => by
          rcases List.mem_append.mp ha with ha | ha
          · exact sN _ a ha
          · exact hys i a (List.mem_of_mem_take ha)
        exact Nat.lt_of_le_of_lt (show n4 + 1 ≤ 4001 by omega) (by decide)
      · refine ⟨⟨Ex.mut (ex4.trans e7) hD, fun b o hb h3 => by rw [upd_ne (nD b hb)]; exact e7 _ _ (kn4 b o hb h3)⟩, _, _, upd_same, ?_⟩
        rw [take_succ_get hya, ← List.append_assoc]
        exact hS4.add _
    · obtain rfl : k = (ys i).length := by omega
      have hst := W1.stops H4 gG
      rw [lz] at hst
      refine .inl ⟨hst, ex4, S4, n4, hd4, ?_⟩
      rw [List.range_succ, List.flatMap_append, List.flatMap_singleton]
      rw [List.take_length] at hS4
      exact hS4
  · obtain rfl : i = xs.length := by omega
    exact .inl ⟨W.stops H' (WG _ (e1.trans ex) fun b o _ hb => ex _ _ hb), q Dl H' S n (fresh_back e1 hD) (e1.trans ex) hd hS (hS.small (sN _))⟩
end
end NW

/-! sorted of a set told by a list; walks in a finite graph: lengths that come again. -/
namespace NW
open PySem PySem.Spec PyProof.Rows L2 Evl
/-- the members of l below N, ascending -/
def upN (N : Nat) (l : List Nat) : List Nat := (List.range N).filter fun a => decide (a ∈ l)
theorem upN_mem {N : Nat} {l : List Nat} (h : ∀ a ∈ l, a < N) {a : Nat} : a ∈ upN N l ↔ a ∈ l := by
  unfold upN
  rw [List.mem_filter, List.mem_range, decide_eq_true_eq]
  exact ⟨fun z => z.2, fun z => ⟨h a z, z⟩⟩
theorem upN_up (N : Nat) (l : List Nat) : (upN N l).Pairwise (· < ·) := List.Pairwise.filter _ List.pairwise_lt_range
theorem up_extI : ∀ {xs ys : List Int}, xs.Pairwise (· < ·) → ys.Pairwise (· < ·) → (∀ x, x ∈ xs ↔ x ∈ ys) → xs = ys
  | [], [], _, _, _ => rfl
  | [], y :: ys, _, _, h => absurd ((h y).mpr List.mem_cons_self) List.not_mem_nil
  | x :: xs, [], _, _, h => absurd ((h x).mp List.mem_cons_self) List.not_mem_nil
  | x :: xs, y :: ys, h1, h2, h => by
    rw [List.pairwise_cons] at h1 h2
    have e : x = y := by
      have a := (h x).mp List.mem_cons_self
      have b := (h y).mpr List.mem_cons_self
      rcases List.mem_cons.mp a with a | a
      · exact a
      · rcases List.mem_cons.mp b with b | b
        · exact b.symm
        · have := h2.1 x a
          have := h1.1 y b
          omega
    subst e
    congr 1
    refine up_extI h1.2 h2.2 fun z => ?_
    constructor
    · intro hz
      have hlt := h1.1 z hz
      rcases List.mem_cons.mp ((h z).mp (List.mem_cons_of_mem _ hz)) with q | q
      · omega
      · exact q
    · intro hz
      have hlt := h2.1 z hz
      rcases List.mem_cons.mp ((h z).mpr (List.mem_cons_of_mem _ hz)) with q | q
      · omega
      · exact q
theorem sort_set {w : World} {H : Hp} {Q : VK} {p : Addr} {S : Int → Bool} {n N : Nat} {l : List Nat} (hp : H p = some (SetO w p S n)) (hS : SetOf S n l) (hl : ∀ a ∈ l, a < N) (hN : N ≤ 4000)
    (h : ∀ p', H p' = none → Q (.ref p') (upd H p' (.lst (vInts (upN N l))))) : rSortSA w [.ref p] H Q := by
  refine ⟨p, S, n, rfl, hp, Nat.le_trans (hS.small hl) (by omega), fun ns p' h1 h2 h3 hp' => ?_⟩
  have e : ns = (upN N l).map fun a => ((a : Nat) : Int) := by
    refine up_extI h1 ?_ fun x => ?_
    · exact List.pairwise_map.mpr ((upN_up N l).imp fun h => by omega)
    · rw [h2, hS.1, List.mem_map]
      exact ⟨fun ⟨a, ha, e⟩ => ⟨a, (upN_mem hl).mpr ha, e.symm⟩, fun ⟨a, ha, e⟩ => ⟨a, (upN_mem hl).mp ha, e.symm⟩⟩
  have e2 : ns.map V.int = vInts (upN N l) := by
    rw [e, List.map_map]
    rfl
  rw [e2]
  exact h p' hp'
/-! ### walks -/
section
variable {α : Type} {f : α → Nat → α} {gv : List Nat}
/-- by so many steps from s to t -/
def Wlk (f : α → Nat → α) (gv : List Nat) (s t : α) (L : Nat) : Prop := ∃ w : List Nat, w.length = L ∧ (∀ c ∈ w, c ∈ gv) ∧ w.foldl f s = t
theorem Wlk.refl (s : α) : Wlk f gv s s 0 := ⟨[], rfl, fun _ h => (List.not_mem_nil h).elim, rfl⟩
theorem Wlk.trans {s t u : α} {L M : Nat} : Wlk f gv s t L → Wlk f gv t u M → Wlk f gv s u (L + M) := fun ⟨w, h1, h2, h3⟩ ⟨v, g1, g2, g3⟩ =>
  ⟨w ++ v, by rw [List.length_append, h1, g1], fun c hc => (List.mem_append.mp hc).elim (h2 c) (g2 c), by rw [List.foldl_append, h3, g3]⟩
theorem Wlk.rep {s : α} {L : Nat} (h : Wlk f gv s s L) : ∀ k, Wlk f gv s s (k * L)
  | 0 => by rw [Nat.zero_mul]; exact .refl s
  | k + 1 => by rw [Nat.succ_mul]; exact (h.rep k).trans h
theorem Wlk.cut {s t : α} {L i : Nat} (hi : i ≤ L) : Wlk f gv s t L → ∃ u, Wlk f gv s u i ∧ Wlk f gv u t (L - i) := fun ⟨w, h1, h2, h3⟩ =>
  ⟨(w.take i).foldl f s, ⟨w.take i, by rw [List.length_take]; omega, fun c hc => h2 c (List.mem_of_mem_take hc), rfl⟩, ⟨w.drop i, by rw [List.length_drop, h1], fun c hc => h2 c (List.mem_of_mem_drop hc), by rw [← List.foldl_append, List.take_append_drop]; exact h3⟩⟩
/-- two of more than N things below N are one -/
theorem pig {N : Nat} {g : Nat → Nat} (h : ∀ i, i ≤ N → g i < N) : ∃ i j, i < j ∧ j ≤ N ∧ g i = g j := by
  refine Classical.byContradiction fun hn => ?_
  have hnd : ((List.range (N + 1)).map g).Nodup := by
    unfold List.Nodup
    rw [List.pairwise_map]
    refine List.Pairwise.imp_of_mem (fun {a b} ha hb hab e => ?_) (List.pairwise_lt_range (n := N + 1))
    exact hn ⟨a, b, hab, by have := List.mem_range.mp hb; omega, e⟩
  have := pigeonN N _ hnd fun x hx => by
    obtain ⟨i, hi, rfl⟩ := List.mem_map.mp hx
    exact h i (by have := List.mem_range.mp hi; omega)
  rw [List.length_map, List.length_range] at this
  omega
/-- so many things, each walk passes through them: it is made short, its length kept modulo D -/
theorem Wlk.short {code : α → Nat} {n D : Nat} (hD : 0 < D) {s t : α} (hin : ∀ u L, Wlk f gv s u L → code u < n) (hinj : ∀ u v L M, Wlk f gv s u L → Wlk f gv s v M → code u = code v → u = v) :
    ∀ {L : Nat}, Wlk f gv s t L → ∃ L', L' < n * D ∧ L' % D = L % D ∧ Wlk f gv s t L' := by
  intro L
  induction L using Nat.strongRecOn with
  | _ L ih =>
    intro hw
    by_cases hL : L < n * D
    · exact ⟨L, hL, rfl, hw⟩
    · have pt : ∀ i, i ≤ n * D → ∃ u, Wlk f gv s u i ∧ Wlk f gv u t (L - i) := fun i hi => hw.cut (by omega)
      let P : Nat → α := fun i => if hi : i ≤ n * D then (pt i hi).choose else s
      have hP : ∀ i, i ≤ n * D → Wlk f gv s (P i) i ∧ Wlk f gv (P i) t (L - i) := fun i hi => by
        show Wlk f gv s (if hi : i ≤ n * D then (pt i hi).choose else s) i ∧ _
        simp only [P, dif_pos hi]
        exact (pt i hi).choose_spec
      obtain ⟨i, j, hij, hj, e⟩ := pig (N := n * D) (g := fun i => code (P i) * D + i % D) fun i hi => by
        have h1 := hin _ _ (hP i hi).1
        have h2 := Nat.mod_lt i hD
        have h3 : (code (P i) + 1) * D ≤ n * D := Nat.mul_le_mul_right _ h1
        rw [Nat.succ_mul] at h3
        show code (P i) * D + i % D < n * D
        omega
      have e : code (P i) * D + i % D = code (P j) * D + j % D := e
      have hi2 := Nat.mod_lt i hD
      have hj2 := Nat.mod_lt j hD
      have e1 : code (P i) = code (P j) := by
        have a := congrArg (· / D) e
        simp only [Nat.mul_comm _ D, Nat.mul_add_div hD, Nat.div_eq_of_lt hi2, Nat.div_eq_of_lt hj2, Nat.add_zero] at a
        exact a
      have e2 : i % D = j % D := by rw [e1] at e; omega
      have eu : P i = P j := hinj _ _ _ _ (hP i (by omega)).1 (hP j hj).1 e1
      have hw2 : Wlk f gv s t (i + (L - j)) := (hP i (by omega)).1.trans (by rw [eu]; exact (hP j hj).2)
      obtain ⟨L', l1, l2, l3⟩ := ih (i + (L - j)) (by omega) hw2
      refine ⟨L', l1, ?_, l3⟩
      rw [l2]
      have h4 : (i + (L - j)) % D = L % D := by
        have h5 : L = (i + (L - j)) + (j - i) := by omega
        have h6 : (j - i) % D = 0 := by
          have := Nat.sub_mod_eq_zero_of_mod_eq (m := j) (n := i) (k := D) e2.symm
          exact this
        rw [h5, Nat.add_mod (i + (L - j)) (j - i), h6, Nat.add_zero, Nat.mod_mod, ← h5]
      exact h4
end
end NW

/-! a finite monoid of words: which words of so many letters come to what, comes again. -/
namespace NW
open PySem PySem.Spec PyProof.Rows L2 Evl
def repL (u : List Nat) (k : Nat) : List Nat := (List.replicate k u).flatten
theorem repL_add (u : List Nat) (i j : Nat) : repL u (i + j) = repL u i ++ repL u j := by
  unfold repL
  rw [← List.replicate_append_replicate, List.flatten_append]
theorem repL_one (u : List Nat) : repL u 1 = u := by unfold repL; simp [List.replicate]
theorem repL_succ (u : List Nat) (k : Nat) : repL u (k + 1) = repL u k ++ u := by rw [repL_add, repL_one]
theorem repL_succ' (u : List Nat) (k : Nat) : repL u (k + 1) = u ++ repL u k := by rw [Nat.add_comm, repL_add, repL_one]
theorem repL_len (u : List Nat) : ∀ k, (repL u k).length = k * u.length
  | 0 => by rw [Nat.zero_mul]; rfl
  | k + 1 => by rw [repL_succ, List.length_append, repL_len u k, Nat.succ_mul]
section
variable {α : Type} {f : α → Nat → α} {a0 : α} {gv : List Nat} {code : α → Nat} {n : Nat}
def Ov (gv l : List Nat) : Prop := ∀ c ∈ l, c ∈ gv
theorem Ov.app {a b : List Nat} (ha : Ov gv a) (hb : Ov gv b) : Ov gv (a ++ b) := fun c hc => (List.mem_append.mp hc).elim (ha c) (hb c)
theorem Ov.rep {u : List Nat} (h : Ov gv u) : ∀ k, Ov gv (repL u k)
  | 0 => fun _ h => (List.not_mem_nil h).elim
  | k + 1 => by rw [repL_succ]; exact (h.rep k).app h
theorem Ov.take {u : List Nat} (h : Ov gv u) (k : Nat) : Ov gv (u.take k) := fun c hc => h c (List.mem_of_mem_take hc)
theorem Ov.drop {u : List Nat} (h : Ov gv u) (k : Nat) : Ov gv (u.drop k) := fun c hc => h c (List.mem_of_mem_drop hc)
structure Mon (f : α → Nat → α) (a0 : α) (gv : List Nat) (code : α → Nat) (n : Nat) : Prop where
  cg : ∀ z w w', Ov gv z → Ov gv w → Ov gv w' → w.foldl f a0 = w'.foldl f a0 → (z ++ w).foldl f a0 = (z ++ w').foldl f a0
  lt : ∀ w, Ov gv w → code (w.foldl f a0) < n
  inj : ∀ w w', Ov gv w → Ov gv w' → code (w.foldl f a0) = code (w'.foldl f a0) → w.foldl f a0 = w'.foldl f a0
  per : ∀ u i, Ov gv u → 53 ≤ i → (repL u (i + 12)).foldl f a0 = (repL u i).foldl f a0
theorem right_cg {w w' y : List Nat} (h : w.foldl f a0 = w'.foldl f a0) : (w ++ y).foldl f a0 = (w' ++ y).foldl f a0 := by
  rw [List.foldl_append, List.foldl_append, h]
theorem Mon.cg2 (M : Mon f a0 gv code n) {z w w' y : List Nat} (hz : Ov gv z) (hw : Ov gv w) (hw' : Ov gv w') (h : w.foldl f a0 = w'.foldl f a0) : (z ++ w ++ y).foldl f a0 = (z ++ w' ++ y).foldl f a0 := right_cg (M.cg z w w' hz hw hw' h)
theorem Mon.short (M : Mon f a0 gv code n) {D : Nat} (hD : 0 < D) {a : List Nat} (ha : Ov gv a) {t : α} {L : Nat} (h : Wlk f gv (a.foldl f a0) t L) : ∃ L', L' < n * D ∧ L' % D = L % D ∧ Wlk f gv (a.foldl f a0) t L' :=
  Wlk.short (code := code) hD (fun u L ⟨w, _, h2, h3⟩ => by rw [← h3, ← List.foldl_append]; exact M.lt _ (ha.app h2))
    (fun u v L N ⟨w, _, h2, h3⟩ ⟨w', _, g2, g3⟩ e => by
      rw [← h3, ← g3, ← List.foldl_append, ← List.foldl_append] at e ⊢
      exact M.inj _ _ (ha.app h2) (ha.app g2) e) h
/-- a word that is the same twice: it closes at lengths that are 12 b modulo its own, b at most 14 -/
theorem Mon.closes (M : Mon f a0 gv code n) (hn : n ≤ 200) {u : List Nat} (hu : Ov gv u) (hl : 0 < u.length) (h2 : (u ++ u).foldl f a0 = u.foldl f a0) :
    ∃ b lam, 1 ≤ b ∧ b ≤ 14 ∧ lam % u.length = (12 * b) % u.length ∧ Wlk f gv (u.foldl f a0) (u.foldl f a0) lam := by
  have self : Wlk f gv (u.foldl f a0) (u.foldl f a0) u.length := ⟨u, rfl, hu, by rw [← List.foldl_append]; exact h2⟩
  by_cases h14 : u.length ≤ 14
  · exact ⟨u.length, 12 * u.length, hl, h14, rfl, self.rep 12⟩
  · have ov : ∀ i j, Ov gv (u.drop (u.length - j) ++ u ++ u.take i) := fun i j => ((hu.drop _).app hu).app (hu.take _)
    obtain ⟨m, m', hmm, hm', e⟩ := pig (N := n) (g := fun m => code ((u.drop (u.length - m % 15) ++ u ++ u.take (m / 15)).foldl f a0)) fun m _ => M.lt _ (ov _ _)
    have e := M.inj _ _ (ov _ _) (ov _ _) e
    generalize hi : m / 15 = i at e
    generalize hj : m % 15 = j at e
    generalize hi' : m' / 15 = i' at e
    generalize hj' : m' % 15 = j' at e
    have bi : i ≤ i' := by omega
    have bi' : i' ≤ 13 := by omega
    have bj : j ≤ 14 := by omega
    have bj' : j' ≤ 14 := by omega
    have bb : i < i' ∨ (i = i' ∧ j < j') := by omega
    let z := u.take (u.length - j) ++ u.drop (u.length - j')
    let y := u.take i' ++ u.drop i
    have oz : Ov gv z := (hu.take _).app (hu.drop _)
    have oy : Ov gv y := (hu.take _).app (hu.drop _)
    have lz : z.length = u.length - j + j' := by
      show (u.take (u.length - j) ++ u.drop (u.length - j')).length = _
      rw [List.length_append, List.length_take, List.length_drop]
      omega
    have ly : y.length = i' + (u.length - i) := by
      show (u.take i' ++ u.drop i).length = _
      rw [List.length_append, List.length_take, List.length_drop]
      omega
    have star : (z ++ u ++ y).foldl f a0 = u.foldl f a0 := by
      have h3 := M.cg2 (y := u.drop i) (hu.take (u.length - j)) (ov i j) (ov i' j') e
      have l3 : u.take (u.length - j) ++ (u.drop (u.length - j) ++ u ++ u.take i) ++ u.drop i = u ++ u ++ u := by
        rw [List.append_assoc (u.drop (u.length - j)), ← List.append_assoc (u.take (u.length - j)), List.take_append_drop, List.append_assoc, List.append_assoc, List.take_append_drop, List.append_assoc]
      have r3 : u.take (u.length - j) ++ (u.drop (u.length - j') ++ u ++ u.take i') ++ u.drop i = z ++ u ++ y := by
        show _ = (u.take (u.length - j) ++ u.drop (u.length - j')) ++ u ++ (u.take i' ++ u.drop i)
        simp only [List.append_assoc]
      rw [l3, r3] at h3
      rw [← h3, right_cg h2, h2]
    have stark : ∀ k, (repL z k ++ u ++ repL y k).foldl f a0 = u.foldl f a0 := by
      intro k
      induction k with
      | zero => simp [repL]
      | succ k ih =>
        rw [repL_succ', repL_succ]
        have h3 := M.cg2 (y := y) oz (((oz.rep k).app hu).app (oy.rep k)) hu ih
        have l3 : z ++ repL z k ++ u ++ (repL y k ++ y) = z ++ (repL z k ++ u ++ repL y k) ++ y := by simp only [List.append_assoc]
        rw [l3, h3, star]
    have cy : (u ++ repL y 12).foldl f a0 = u.foldl f a0 := by
      have h3 := M.cg (repL z 60 ++ u) (repL y 72) (repL y 60) ((oz.rep 60).app hu) (oy.rep 72) (oy.rep 60) (M.per y 60 oy (by omega))
      rw [stark 60] at h3
      rw [← h3, show (72 : Nat) = 60 + 12 from rfl, repL_add, ← List.append_assoc]
      exact (right_cg (stark 60)).symm
    have cz : (repL z 12 ++ u).foldl f a0 = u.foldl f a0 := by
      have h3 : (repL z 72 ++ (u ++ repL y 60)).foldl f a0 = (repL z 60 ++ (u ++ repL y 60)).foldl f a0 := right_cg (M.per z 60 oz (by omega))
      rw [← List.append_assoc, ← List.append_assoc, stark 60] at h3
      have h4 := M.cg (repL z 12) (repL z 60 ++ u ++ repL y 60) u (oz.rep 12) (((oz.rep 60).app hu).app (oy.rep 60)) hu (stark 60)
      rw [← h4, ← h3, show (72 : Nat) = 12 + 60 from rfl, repL_add]
      simp only [List.append_assoc]
    rcases bb with b1 | ⟨b1, b2⟩
    · refine ⟨i' - i, 12 * (u.length + (i' - i)), by omega, by omega, ?_, repL y 12, ?_, oy.rep 12, ?_⟩
      · rw [Nat.mul_add, Nat.add_comm, Nat.add_mul_mod_self_right]
      · rw [repL_len, ly]
        congr 1
        omega
      · rw [← List.foldl_append]
        exact cy
    · refine ⟨j' - j, 12 * (u.length + (j' - j)) + u.length, by omega, by omega, ?_, repL z 12 ++ u, ?_, (oz.rep 12).app hu, ?_⟩
      · rw [Nat.add_mod_right, Nat.mul_add, Nat.add_comm, Nat.add_mul_mod_self_right]
      · rw [List.length_append, repL_len, lz]
        congr 2
        omega
      · rw [← List.foldl_append, ← h2]
        have h3 := M.cg u (repL z 12 ++ u) u hu ((oz.rep 12).app hu) hu cz
        rw [h3]
/-- and so at all lengths that are multiples of 12 b and not too small -/
theorem Mon.loops (M : Mon f a0 gv code n) {u : List Nat} (hu : Ov gv u) (hl : 0 < u.length) (h2 : (u ++ u).foldl f a0 = u.foldl f a0) {b lam K : Nat} (hlam : lam % u.length = (12 * b) % u.length)
    (hw : Wlk f gv (u.foldl f a0) (u.foldl f a0) lam) (hb : 1 ≤ b) (hK : K % (12 * b) = 0) (hKn : n * u.length ≤ K) : Wlk f gv (u.foldl f a0) (u.foldl f a0) K := by
  have self : Wlk f gv (u.foldl f a0) (u.foldl f a0) u.length := ⟨u, rfl, hu, by rw [← List.foldl_append]; exact h2⟩
  obtain ⟨L', l1, l2, l3⟩ := M.short hl hu (hw.rep (K / (12 * b)))
  have e1 : L' % u.length = K % u.length := by
    rw [l2, Nat.mul_mod, hlam, ← Nat.mul_mod, Nat.div_mul_cancel (Nat.dvd_of_mod_eq_zero hK)]
  have e2 : (K - L') % u.length = 0 := Nat.sub_mod_eq_zero_of_mod_eq e1.symm
  have h3 := l3.trans (self.rep ((K - L') / u.length))
  rw [Nat.div_mul_cancel (Nat.dvd_of_mod_eq_zero e2)] at h3
  rwa [show L' + (K - L') = K by omega] at h3
/-- what words of so many letters come to, words of any number that is the same modulo c come to -/
theorem Mon.again (M : Mon f a0 gv code n) (hn : n ≤ 200) {c k T : Nat} (hc : ∀ b, 1 ≤ b → b ≤ 14 → c % (12 * b) = 0) (hk : 3000000 ≤ k) (hT : 3000000 ≤ T) (hkT : k % c = T % c) {t : α} (h : Wlk f gv a0 t k) : Wlk f gv a0 t T := by
  have n1 : 0 < n := Nat.lt_of_le_of_lt (Nat.zero_le _) (M.lt [] fun _ h => (List.not_mem_nil h).elim)
  obtain ⟨w, w1, w2, w3⟩ := h
  obtain ⟨i, j, hij, hj, e⟩ := pig (N := n) (g := fun i => code ((w.take i).foldl f a0)) fun i _ => M.lt _ (Ov.take w2 i)
  have e : (w.take i).foldl f a0 = (w.take j).foldl f a0 := M.inj _ _ (Ov.take w2 i) (Ov.take w2 j) e
  let a := w.take i
  let v := (w.drop i).take (j - i)
  have oa : Ov gv a := Ov.take w2 i
  have ov : Ov gv v := Ov.take (Ov.drop w2 i) _
  have lv : v.length = j - i := by
    show ((w.drop i).take (j - i)).length = _
    rw [List.length_take, List.length_drop]
    omega
  have lav : a ++ v = w.take j := by
    show w.take i ++ (w.drop i).take (j - i) = _
    rw [← List.drop_take]
    have h1 : (w.take j).take i = w.take i := by rw [List.take_take, Nat.min_eq_left (by omega)]
    rw [← h1, List.take_append_drop]
  have loop1 : (a ++ v).foldl f a0 = a.foldl f a0 := by rw [lav]; exact e.symm
  have loopk : ∀ k, (a ++ repL v k).foldl f a0 = a.foldl f a0 := by
    intro k
    induction k with
    | zero => simp [repL]
    | succ k ih => rw [repL_succ, ← List.append_assoc, right_cg ih, loop1]
  let u := repL v 60
  have ou : Ov gv u := ov.rep 60
  have lu : u.length = 60 * (j - i) := by
    show (repL v 60).length = _
    rw [repL_len, lv]
  have per5 : ∀ q, (repL v (60 + 12 * q)).foldl f a0 = (repL v 60).foldl f a0 := by
    intro q
    induction q with
    | zero => rfl
    | succ q ih => rw [show 60 + 12 * (q + 1) = (60 + 12 * q) + 12 by omega, M.per v _ ov (by omega), ih]
  have hu2 : (u ++ u).foldl f a0 = u.foldl f a0 := by
    show (repL v 60 ++ repL v 60).foldl f a0 = _
    rw [← repL_add]
    exact per5 5
  obtain ⟨b, lam, b1, b14, hlam, hcl⟩ := M.closes hn ou (by omega) hu2
  have hD : 0 < 12 * b := by omega
  -- the rest behind the loop
  have hr : Wlk f gv (a.foldl f a0) t (k - j) := ⟨w.drop j, by rw [List.length_drop, w1], Ov.drop w2 j, by
    have h1 : a.foldl f a0 = (w.take j).foldl f a0 := e
    rw [h1, ← List.foldl_append, List.take_append_drop]
    exact w3⟩
  obtain ⟨L', l1, l2, l3⟩ := M.short hD oa hr
  have hdk : ∀ x : Nat, x % c % (12 * b) = x % (12 * b) := fun x => Nat.mod_mod_of_dvd x (Nat.dvd_of_mod_eq_zero (hc b b1 b14))
  have hkT2 : k % (12 * b) = T % (12 * b) := by rw [← hdk k, ← hdk T, hkT]
  have bL : n * (12 * b) ≤ 200 * 168 := Nat.mul_le_mul hn (by omega)
  have bU : n * u.length ≤ 200 * 12000 := Nat.mul_le_mul hn (by omega)
  have hK : (T - j - L') % (12 * b) = 0 := by
    have h1 : (j + L') % (12 * b) = T % (12 * b) := by
      rw [Nat.add_mod, l2, ← Nat.add_mod, ← hkT2]
      congr 1
      omega
    have h2 := Nat.sub_mod_eq_zero_of_mod_eq h1.symm
    rwa [show T - j - L' = T - (j + L') by omega]
  have hloop := M.loops ou (by omega) hu2 hlam hcl b1 hK (by omega)
  obtain ⟨Y, y1, y2, y3⟩ := hloop
  have y3 : (u ++ Y).foldl f a0 = u.foldl f a0 := by rw [List.foldl_append]; exact y3
  have hs : Wlk f gv (a.foldl f a0) (a.foldl f a0) (T - j - L') := ⟨Y, y1, y2, by
    have h1 := M.cg a (u ++ Y) u oa (ou.app y2) ou y3
    rw [← List.append_assoc, List.foldl_append, loopk 60] at h1
    exact h1⟩
  have hv : Wlk f gv (a.foldl f a0) (a.foldl f a0) (j - i) := ⟨v, lv, ov, by rw [← List.foldl_append]; exact loop1⟩
  have ha : Wlk f gv a0 (a.foldl f a0) i := ⟨a, by show (w.take i).length = i; rw [List.length_take]; omega, oa, rfl⟩
  have h4 := ((ha.trans hv).trans hs).trans l3
  rwa [show i + (j - i) + (T - j - L') + L' = T by omega] at h4
def cAll : Nat := 4324320
theorem cAll_all : ∀ b : Fin 15, 1 ≤ b.val → cAll % (12 * b.val) = 0 := by decide +kernel
theorem cAll_ok : ∀ b, 1 ≤ b → b ≤ 14 → cAll % (12 * b) = 0 := fun b h1 h2 => cAll_all ⟨b, by omega⟩ h1
theorem Mon.repeats (M : Mon f a0 gv code n) (hn : n ≤ 200) (t : α) : Wlk f gv a0 t 3000000 ↔ Wlk f gv a0 t (3000000 + cAll) :=
  ⟨fun h => M.again hn cAll_ok (Nat.le_refl _) (by omega) (Nat.add_mod_right _ _).symm h, fun h => M.again hn cAll_ok (by omega) (Nat.le_refl _) (Nat.add_mod_right _ _) h⟩
end
end NW

/-! relations of words: split, repeated words come again with 12 times more. -/
namespace NW
open PySem PySem.Spec PyProof.Rows L2 Evl
/-! ### walks of any kind made short -/
theorem short_gen {α : Type} {W : α → α → Nat → Prop} (cut : ∀ {s t : α} {L i : Nat}, i ≤ L → W s t L → ∃ u, W s u i ∧ W u t (L - i)) (trans : ∀ {s t u : α} {L M : Nat}, W s t L → W t u M → W s u (L + M))
    {code : α → Nat} {n D : Nat} (hD : 0 < D) {s t : α} (hin : ∀ u L M, W s u L → W u t M → code u < n) (hinj : ∀ u v L M L' M', W s u L → W u t L' → W s v M → W v t M' → code u = code v → u = v) :
    ∀ {L : Nat}, W s t L → ∃ L', L' < n * D ∧ L' % D = L % D ∧ W s t L' := by
  intro L
  induction L using Nat.strongRecOn with
  | _ L ih =>
    intro hw
    by_cases hL : L < n * D
    · exact ⟨L, hL, rfl, hw⟩
    · have pt : ∀ i, i ≤ n * D → ∃ u, W s u i ∧ W u t (L - i) := fun i hi => cut (by omega) hw
      let P : Nat → α := fun i => if hi : i ≤ n * D then (pt i hi).choose else s
      have hP : ∀ i, i ≤ n * D → W s (P i) i ∧ W (P i) t (L - i) := fun i hi => by
        show W s (if hi : i ≤ n * D then (pt i hi).choose else s) i ∧ _
        simp only [P, dif_pos hi]
        exact (pt i hi).choose_spec
      obtain ⟨i, j, hij, hj, e⟩ := pig (N := n * D) (g := fun i => code (P i) * D + i % D) fun i hi => by
        have h1 := hin _ _ _ (hP i hi).1 (hP i hi).2
        have h2 := Nat.mod_lt i hD
        have h3 : (code (P i) + 1) * D ≤ n * D := Nat.mul_le_mul_right _ h1
        rw [Nat.succ_mul] at h3
        show code (P i) * D + i % D < n * D
        omega
      have e : code (P i) * D + i % D = code (P j) * D + j % D := e
      have hi2 := Nat.mod_lt i hD
      have hj2 := Nat.mod_lt j hD
      have e1 : code (P i) = code (P j) := by
        have a := congrArg (· / D) e
        simp only [Nat.mul_comm _ D, Nat.mul_add_div hD, Nat.div_eq_of_lt hi2, Nat.div_eq_of_lt hj2, Nat.add_zero] at a
        exact a
      have e2 : i % D = j % D := by rw [e1] at e; omega
      have eu : P i = P j := hinj _ _ _ _ _ _ (hP i (by omega)).1 (hP i (by omega)).2 (hP j hj).1 (hP j hj).2 e1
      have hw2 : W s t (i + (L - j)) := trans (hP i (by omega)).1 (by rw [eu]; exact (hP j hj).2)
      obtain ⟨L', l1, l2, l3⟩ := ih (i + (L - j)) (by omega) hw2
      refine ⟨L', l1, ?_, l3⟩
      rw [l2]
      have h5 : L = (i + (L - j)) + (j - i) := by omega
      have h6 : (j - i) % D = 0 := Nat.sub_mod_eq_zero_of_mod_eq e2.symm
      rw [h5, Nat.add_mod (i + (L - j)) (j - i), h6, Nat.add_zero, Nat.mod_mod, ← h5]
/-! ### walks by a relation -/
def NWk (One : Nat → Nat → Prop) (s t : Nat) : Nat → Prop
  | 0 => s = t
  | L + 1 => ∃ u, NWk One s u L ∧ One u t
section
variable {One : Nat → Nat → Prop}
theorem NWk.trans {s t : Nat} {L : Nat} (h : NWk One s t L) : ∀ {M : Nat} {u : Nat}, NWk One t u M → NWk One s u (L + M) := by
  intro M
  induction M with
  | zero => intro u g; have e : t = u := g; rw [← e]; exact h
  | succ M ih => intro u g; obtain ⟨v, g1, g2⟩ := g; exact ⟨v, ih g1, g2⟩
theorem NWk.cut {s : Nat} : ∀ {L i : Nat} {t : Nat}, i ≤ L → NWk One s t L → ∃ u, NWk One s u i ∧ NWk One u t (L - i)
  | L, i, t, hi, h => by
    by_cases e : i = L
    · subst e
      exact ⟨t, h, by rw [Nat.sub_self]; rfl⟩
    · obtain ⟨M, rfl⟩ : ∃ M, L = M + 1 := ⟨L - 1, by omega⟩
      obtain ⟨v, h1, h2⟩ := h
      obtain ⟨u, g1, g2⟩ := NWk.cut (L := M) (i := i) (by omega) h1
      exact ⟨u, g1, by rw [show M + 1 - i = (M - i) + 1 by omega]; exact ⟨v, g2, h2⟩⟩
theorem NWk.rep {s : Nat} {L : Nat} (h : NWk One s s L) : ∀ k, NWk One s s (k * L)
  | 0 => by rw [Nat.zero_mul]; rfl
  | k + 1 => by rw [Nat.succ_mul]; exact (NWk.rep h k).trans h
theorem NWk.path {s : Nat} : ∀ {L : Nat} {t : Nat}, NWk One s t L → ∃ P : Nat → Nat, P 0 = s ∧ P L = t ∧ ∀ i, i < L → One (P i) (P (i + 1))
  | 0, t, h => ⟨fun _ => s, rfl, h, fun i hi => by omega⟩
  | L + 1, t, h => by
    obtain ⟨u, h1, h2⟩ := h
    obtain ⟨P, p0, pL, pp⟩ := NWk.path h1
    refine ⟨fun i => if i ≤ L then P i else t, ?_, ?_, fun i hi => ?_⟩
    · dsimp only; rw [if_pos (Nat.zero_le _)]; exact p0
    · dsimp only; rw [if_neg (by omega)]
    · dsimp only
      by_cases e : i < L
      · rw [if_pos (by omega), if_pos (by omega)]
        exact pp i e
      · have e2 : i = L := by omega
        subst e2
        rw [if_pos (Nat.le_refl _), if_neg (by omega), pL]
        exact h2
theorem NWk.of_path {P : Nat → Nat} {a : Nat} : ∀ {d : Nat}, (∀ i, a ≤ i → i < a + d → One (P i) (P (i + 1))) → NWk One (P a) (P (a + d)) d
  | 0, _ => rfl
  | d + 1, h => ⟨P (a + d), NWk.of_path fun i h1 h2 => h i h1 (by omega), h (a + d) (by omega) (by omega)⟩
/-- on at most four places -/
theorem NWk.again {own : List Nat} (h4 : own.length ≤ 4) (hown : ∀ a b, One a b → a ∈ own ∧ b ∈ own) {s t : Nat} (hs : s ∈ own) {k T : Nat} (hk : 52 ≤ k) (hT : 52 ≤ T) (hkT : k % 12 = T % 12) (h : NWk One s t k) : NWk One s t T := by
  have mem : ∀ {u v L}, u ∈ own → NWk One u v L → v ∈ own := fun {u v L} hu h => by
    cases L with
    | zero => have e : u = v := h; rw [← e]; exact hu
    | succ L => obtain ⟨w, _, h2⟩ := h; exact (hown _ _ h2).2
  have inj : ∀ u v, u ∈ own → v ∈ own → own.idxOf u = own.idxOf v → u = v := fun u v hu hv e => by
    have h1 := List.getElem_idxOf (List.idxOf_lt_length_iff.mpr hu)
    have h2 := List.getElem_idxOf (List.idxOf_lt_length_iff.mpr hv)
    rw [← h1, ← h2]
    congr 1
  have lt4 : ∀ u, u ∈ own → own.idxOf u < 4 := fun u hu => Nat.lt_of_lt_of_le (List.idxOf_lt_length_iff.mpr hu) h4
  obtain ⟨P, p0, pk, pp⟩ := h.path
  have hPm : ∀ i, i ≤ k → P i ∈ own := fun i hi => by
    cases i with
    | zero => rw [p0]; exact hs
    | succ i => exact (hown _ _ (pp i (by omega))).2
  obtain ⟨i, j, hij, hj, e⟩ := pig (N := 4) (g := fun i => own.idxOf (P i)) fun i hi => lt4 _ (hPm i (by omega))
  have eu : P i = P j := inj _ _ (hPm i (by omega)) (hPm j (by omega)) e
  have w1 : NWk One s (P j) j := by
    have := NWk.of_path (P := P) (a := 0) (d := j) fun x _ h2 => pp x (by omega)
    rwa [p0, Nat.zero_add] at this
  have loop : NWk One (P j) (P j) (j - i) := by
    have := NWk.of_path (P := P) (a := i) (d := j - i) fun x h1 h2 => pp x (by omega)
    rwa [eu, show i + (j - i) = j by omega] at this
  have rest : NWk One (P j) t (k - j) := by
    have := NWk.of_path (P := P) (a := j) (d := k - j) fun x h1 h2 => pp x (by omega)
    rwa [show j + (k - j) = k by omega, pk] at this
  have hjm := hPm j (by omega)
  obtain ⟨L', l1, l2, l3⟩ := short_gen (W := NWk One) (fun h g => NWk.cut h g) (fun h g => h.trans g) (code := fun u => own.idxOf u) (n := 4) (D := 12) (by decide) (fun u L M hu _ => lt4 _ (mem hjm hu))
    (fun u v L M L' M' hu _ hv _ e => inj _ _ (mem hjm hu) (mem hjm hv) e) rest
  have hq : (T - j - L') % 12 = 0 := by omega
  have hdv : (j - i) = 1 ∨ (j - i) = 2 ∨ (j - i) = 3 ∨ (j - i) = 4 := by omega
  have fill : NWk One (P j) (P j) (T - j - L') := by
    have h1 := loop.rep ((T - j - L') / (j - i))
    have h2 : (T - j - L') / (j - i) * (j - i) = T - j - L' := by
      refine Nat.div_mul_cancel (Nat.dvd_of_mod_eq_zero ?_)
      rcases hdv with e | e | e | e <;> rw [e] <;> omega
    rwa [h2] at h1
  have := (w1.trans fill).trans l3
  rwa [show j + (T - j - L') + L' = T by omega] at this
end
/-! ### relations of words -/
section
variable {n : Nat} {N : Nat → Nat → Bool} {L : Nat → Nat → Bool}
def stepR (n : Nat) (N : Nat → Nat → Bool) (L : Nat → Nat → Bool) (R : Nat → Nat → Bool) (c : Nat) : Nat → Nat → Bool := fun i j => (List.range n).any fun k => R i k && L c k && N k j
def wordR (n : Nat) (N : Nat → Nat → Bool) (L : Nat → Nat → Bool) (w : List Nat) : Nat → Nat → Bool := w.foldl (stepR n N L) N
theorem wordR_snoc {w : List Nat} {c p q : Nat} : wordR n N L (w ++ [c]) p q = true ↔ ∃ k, k < n ∧ wordR n N L w p k = true ∧ L c k = true ∧ N k q = true := by
  unfold wordR
  rw [List.foldl_append]
  show ((List.range n).any fun k => _ && L c k && N k q) = true ↔ _
  rw [List.any_eq_true]
  constructor
  · rintro ⟨k, hk, h⟩
    rw [Bool.and_eq_true, Bool.and_eq_true] at h
    exact ⟨k, List.mem_range.mp hk, h.1.1, h.1.2, h.2⟩
  · rintro ⟨k, hk, h1, h2, h3⟩
    exact ⟨k, List.mem_range.mpr hk, by rw [Bool.and_eq_true, Bool.and_eq_true]; exact ⟨⟨h1, h2⟩, h3⟩⟩
theorem wordR_split {a : List Nat} {c : Nat} {p : Nat} : ∀ {m : Nat} {b : List Nat} {q : Nat}, b.length = m → (wordR n N L (a ++ c :: b) p q = true ↔ ∃ k, k < n ∧ wordR n N L a p k = true ∧ L c k = true ∧ wordR n N L b k q = true) := by
  intro m
  induction m with
  | zero =>
    intro b q hb
    rw [List.length_eq_zero_iff.mp hb]
    exact wordR_snoc
  | succ m ih =>
    intro b q hb
    obtain ⟨b', d, rfl⟩ : ∃ b' d, b = b' ++ [d] := ⟨b.dropLast, b.getLast (by intro e; rw [e] at hb; simp at hb), (List.dropLast_concat_getLast _).symm⟩
    have hb' : b'.length = m := by rw [List.length_append] at hb; simpa using hb
    rw [show a ++ c :: (b' ++ [d]) = (a ++ c :: b') ++ [d] by simp, wordR_snoc]
    constructor
    · rintro ⟨k, hk, h1, h2, h3⟩
      obtain ⟨x, hx, g1, g2, g3⟩ := (ih hb').mp h1
      exact ⟨x, hx, g1, g2, wordR_snoc.mpr ⟨k, hk, g3, h2, h3⟩⟩
    · rintro ⟨x, hx, g1, g2, g3⟩
      obtain ⟨k, hk, h1, h2, h3⟩ := wordR_snoc.mp g3
      exact ⟨k, hk, (ih hb').mpr ⟨x, hx, g1, g2, h1⟩, h2, h3⟩
theorem wordR_cg {z w w' : List Nat} (h : ∀ p q, p < n → q < n → wordR n N L w p q = wordR n N L w' p q) {p q : Nat} (hp : p < n) (hq : q < n) : wordR n N L (z ++ w) p q = wordR n N L (z ++ w') p q := by
  cases hz : z.reverse with
  | nil =>
    have e : z = [] := by simpa using hz
    rw [e]
    exact h p q hp hq
  | cons c r =>
    have e : z = r.reverse ++ [c] := by rw [← List.reverse_reverse z, hz]; simp
    rw [e, List.append_assoc, List.append_assoc, Bool.eq_iff_iff]
    show wordR n N L (r.reverse ++ c :: w) p q = true ↔ wordR n N L (r.reverse ++ c :: w') p q = true
    rw [wordR_split rfl, wordR_split rfl]
    exact ⟨fun ⟨k, hk, h1, h2, h3⟩ => ⟨k, hk, h1, h2, by rw [← h k q hk hq]; exact h3⟩, fun ⟨k, hk, h1, h2, h3⟩ => ⟨k, hk, h1, h2, by rw [h k q hk hq]; exact h3⟩⟩
/-- a word again and again -/
def OneW (n : Nat) (N : Nat → Nat → Bool) (L : Nat → Nat → Bool) (c : Nat) (w : List Nat) (a b : Nat) : Prop := (a < n ∧ L c a = true) ∧ (b < n ∧ L c b = true) ∧ wordR n N L w a b = true
theorem wordR_rep {c : Nat} {w : List Nat} {p : Nat} : ∀ {t q : Nat}, (wordR n N L (repL (c :: w) (t + 1)) p q = true ↔ ∃ x k, (x < n ∧ L c x = true) ∧ N p x = true ∧ NWk (OneW n N L c w) x k t ∧ (k < n ∧ L c k = true) ∧ wordR n N L w k q = true)
  | 0, q => by
    rw [repL_one]
    show wordR n N L ([] ++ c :: w) p q = true ↔ _
    rw [wordR_split rfl]
    constructor
    · rintro ⟨k, hk, h1, h2, h3⟩
      exact ⟨k, k, ⟨hk, h2⟩, h1, rfl, ⟨hk, h2⟩, h3⟩
    · rintro ⟨x, k, ⟨hx, hx2⟩, h1, e, _, h3⟩
      have e : x = k := e
      subst e
      exact ⟨x, hx, h1, hx2, h3⟩
  | t + 1, q => by
    rw [repL_succ, wordR_split rfl]
    constructor
    · rintro ⟨k, hk, h1, h2, h3⟩
      obtain ⟨x, y, hx, hN, hw, hy, hy2⟩ := wordR_rep.mp h1
      exact ⟨x, k, hx, hN, ⟨y, hw, hy, ⟨hk, h2⟩, hy2⟩, ⟨hk, h2⟩, h3⟩
    · rintro ⟨x, k, hx, hN, ⟨y, hw, hy, _, hy2⟩, ⟨hk, h2⟩, h3⟩
      exact ⟨k, hk, wordR_rep.mpr ⟨x, y, hx, hN, hw, hy, hy2⟩, h2, h3⟩
/-- each letter has at most four places: the powers of a word come again -/
theorem wordR_per {own : Nat → List Nat} (h4 : ∀ c, (own c).length ≤ 4) (hown : ∀ c k, k < n → L c k = true → k ∈ own c) {u : List Nat} {i : Nat} (hi : 53 ≤ i) {p q : Nat} : wordR n N L (repL u (i + 12)) p q = wordR n N L (repL u i) p q := by
  cases u with
  | nil =>
    have e : ∀ k, repL [] k = [] := fun k => by unfold repL; simp
    rw [e, e]
  | cons c w =>
    obtain ⟨t, rfl⟩ : ∃ t, i = t + 1 := ⟨i - 1, by omega⟩
    rw [Bool.eq_iff_iff, show t + 1 + 12 = (t + 12) + 1 by omega, wordR_rep, wordR_rep]
    have key : ∀ {x k a b}, (x < n ∧ L c x = true) → 52 ≤ a → 52 ≤ b → a % 12 = b % 12 → NWk (OneW n N L c w) x k a → NWk (OneW n N L c w) x k b := fun {x k a b} hx ha hb hab h =>
      NWk.again (h4 c) (fun a b h => ⟨hown c a h.1.1 h.1.2, hown c b h.2.1.1 h.2.1.2⟩) (hown c x hx.1 hx.2) ha hb hab h
    constructor
    · rintro ⟨x, k, hx, hN, hw, hk, h3⟩
      exact ⟨x, k, hx, hN, key hx (by omega) (by omega) (by omega) hw, hk, h3⟩
    · rintro ⟨x, k, hx, hN, hw, hk, h3⟩
      exact ⟨x, k, hx, hN, key hx (by omega) (by omega) (by omega) hw, hk, h3⟩
end
end NW

/-! dicts with tuple keys: {k: v} with one, {tk: tv for a, b in enumerate(xs)}. -/
namespace NW
open PySem PySem.Spec PySem.Calls PyProof.Rows L2 Evl
/-- d[k] = v by a comprehension, k a tuple -/
theorem d_dictSetT {X : Cx} {pins : List (Addr × Obj)} {σ : L2.St} {H : Hp} {s : Shared} {E : Value → Shared → Prop} {D b : Addr} {kvs : List (List Key × V)} {k : List Key} {v : V} {r : Value} {Q : Unit → Shared → Prop} (hu : X.A.units + 1 < cLine) (I : Inv X pins σ H s) (hD : H D = some (.dT kvs)) (hb : H b = some (.tup (k.map kV))) (hz : kvs.length < sizeLine)
    (rv : RelV v r) (h : ∀ s', Inv X pins σ (upd H D (.dT (putK kvs k v))) s' → Q () s') : wpAny (model X.prog X.w) X.A (dictSet D (.ref b) r) Q E s := by
  obtain ⟨z, hd, xs, rel, dd⟩ := dt_of I.hok hD
  have hzv : xs.length ≤ sizeLine := by rw [← Paired.length rel]; exact z
  have hl : (putK kvs k v).length ≤ sizeLine := by have := length_putK kvs k v; omega
  refine wpAny_dictSet_heap (hsz := hzv) (show (tupleKind (mixKind X.prog X.w)).room X.A from Nat.lt_of_succ_lt hu) (key_of I.hok hb) dd fun h' dd' hs => h _ ?_
  obtain ⟨q, es, ep, hq, h2, h3, h4, _, h5⟩ := dd'
  refine d_write I (by rw [hD]; exact True.intro) hs ⟨q, hq⟩ ⟨hl, hd, _, (rel.put k hb rv).keeps fun c ys ec => ?_, q, es, ep, hq, h2, h3, h4, h5⟩
  rw [upd_ne (ne_of ec hD (fun z => nomatch z))]
  exact ec
section
variable {X : Cx}
/-- as tDc, the keys tuples -/
def tDcT (wi : TI) (g : TG) (tt : TT) (tk tv : TE) (vs : List Nat) : TE := fun σ H Q => wi σ H fun J H1 => ∀ D, H1 D = none → ∃ W : Nat → Nat → Hp → Prop, (∃ m, W 0 m (upd H1 D (.dT []))) ∧ ∀ i m H, W i m H →
  (J.stop i H ∧ Q (.ref D) H) ∨ (J.go i H ∧ ∃ Nx : Hp → Prop, (∀ H', Nx H' → ∃ m', m' < m ∧ W (i + 1) m' H') ∧ ∀ x H', J.yld i H x H' → g x (wipe σ vs) H' fun σ2 H2 => wipe σ2 vs = wipe σ vs ∧ tt σ2 H2 fun b H3 =>
    if b = true then tk σ2 H3 fun y H4 => tv σ2 H4 fun z H5 => ∃ kvs k b, y = .ref b ∧ H5 b = some (.tup (k.map kV)) ∧ H5 D = some (.dT kvs) ∧ kvs.length < sizeLine ∧ Nx (upd H5 D (.dT (putK kvs k z))) else Nx H3)
theorem dcT_core {pins : List (Addr × Obj)} {s : Shared} {σ : L2.St} {H : Hp} {Q : VK} {kx vx tg iter : Expr} {ifs : List Expr} {scope : Scope} {own : List (Str × Nat)} {pos pos' : Pos} {wi : TI} {g : TG} {tt : TT} {tk tv : TE} {use : Option (Value → Sem Unit)} {Qf : Value → Shared → Prop}
    (hc : X.calm = true) (hu : X.A.units + 1 < cLine) (hN : X.N.Nodup) (I : Inv X pins σ H s) (hi : PI X tg iter wi) (ok : BlkOk X.N X.env.scope scope own)
    (hg : ∀ (s : Shared) (H : Hp) (C : Addr) (cl : List (Str × Addr)) (fp : List Addr), PG (X.blk s H scope (compEnvC scope cl C X.env) fp) tg g) (ht : ∀ (s : Shared) (H : Hp) (C : Addr) (cl : List (Str × Addr)) (fp : List Addr), PTs (X.blk s H scope (compEnvC scope cl C X.env) fp) ifs tt)
    (hk : ∀ (s : Shared) (H : Hp) (C : Addr) (cl : List (Str × Addr)) (fp : List Addr), PE (X.blk s H scope (compEnvC scope cl C X.env) fp) kx tk)
    (he : ∀ (s : Shared) (H : Hp) (C : Addr) (cl : List (Str × Addr)) (fp : List Addr), PE (X.blk s H scope (compEnvC scope cl C X.env) fp) vx tv) (hs : ∀ x, foldedSetIterable iter X.env x = pure x)
    (h : tDcT wi g tt tk tv (own.map (·.2)) σ H Q)
    (hRR : ∀ D C s' m H', Inv X pins σ H' s' → Q (.ref D) H' → s'.heap.Ns C m → FpOk X pins H' C → compPost (model X.prog X.w) X.A X.xe use Qf (.ref D) C (.ok .next) s') :
    wpAny (model X.prog X.w) X.A (comprehension (.DictComp kx vx [⟨tg, iter, ifs, 0⟩] scope pos) scope X.env pos' newDict false (eval iter X.env) use) Qf X.xe s := by
  have hfree : ∀ y ∈ scope.names, y.2 = .free → ∃ c, X.env.cells.lookup y.1 = some c := fun y hy e => by
    rcases ok.free y hy e with k | k
    · exact I.ok.has _ (.inl k)
    · exact I.ok.has _ (.inr k)
  refine wpAny_comprehension_free (use := use) rfl hs (closure_ok hfree) ok.kind (fun y hy e => by rw [ok.uniq y hy, e])
    (thn (hi.run pins s σ H _ I h) fun xv s1 hx => thn hx fun itv s2 h2 => ?_)
  obtain ⟨it, fp, tn, J, H2, e, I2, T, st2, f2, q⟩ := h2
  subst e
  refine wpAny_newObj_type (newEnv_comp ?_)
  generalize hD : s2.heap.objs.size = D
  have hDn : H2 D = none := I2.hok.fresh (Nat.le_of_eq hD)
  obtain ⟨W, ⟨m0, w0⟩, turn⟩ := q D hDn
  -- the new list
  generalize hs3 : ({ s2 with heap := s2.heap.push { cls := .type "dict", data := .dict #[] } } : Shared) = s3
  have I3 : Inv X pins σ (upd H2 D (.dT [])) s3 := by
    rw [← hs3]
    refine I2.laid (t' := s2.toks) (fun b o e => Heap.get?_push_of_some _ e) (Nat.le_of_eq hD) ?_
    rw [← hD]
    exact dt_empty s2.heap I2.big
  have h3 : s3.heap = s2.heap.push { cls := .type "dict", data := .dict #[] } := by rw [← hs3]
  have sz : ∀ b ∈ fp, b < s2.heap.objs.size := fun b hb => by
    obtain ⟨o, e, _⟩ := T.obj _ _ st2 b hb
    exact Heap.lt_size e
  have f3 : ∀ b ∈ fp, FpOk X pins (upd H2 D (.dT [])) b ∧ b < s3.heap.objs.size := fun b hb => by
    have hlt := sz b hb
    refine ⟨⟨?_, (f2 b hb).2⟩, by rw [h3, Heap.size_push]; exact Nat.lt_succ_of_lt hlt⟩
    rw [upd_ne (by rw [← hD]; exact Nat.ne_of_lt hlt)]
    exact (f2 b hb).1
  have st3 : tn 0 s3.heap := T.keep _ _ _ st2 fun b _ o e => by rw [h3]; exact Heap.get?_push_of_some _ e
  have I4 := block_start I3 ok hN f3
  have pg := hg s3 (upd H2 D (.dT [])) s3.heap.objs.size (cellsFrom (s3.heap.objs.size + 1) scope.names (cloFrom X.env.cells scope.names [])) fp
  have pt := ht s3 (upd H2 D (.dT [])) s3.heap.objs.size (cellsFrom (s3.heap.objs.size + 1) scope.names (cloFrom X.env.cells scope.names [])) fp
  have pk := hk s3 (upd H2 D (.dT [])) s3.heap.objs.size (cellsFrom (s3.heap.objs.size + 1) scope.names (cloFrom X.env.cells scope.names [])) fp
  have pe := he s3 (upd H2 D (.dT [])) s3.heap.objs.size (cellsFrom (s3.heap.objs.size + 1) scope.names (cloFrom X.env.cells scope.names [])) fp
  show codeAny _ _ (.compStart (.DictComp kx vx [⟨tg, iter, ifs, 0⟩] scope pos) 0 (.ref it) (.ref D) (compEnvC scope (cellsFrom (s3.heap.objs.size + 1) scope.names (cloFrom X.env.cells scope.names [])) s3.heap.objs.size X.env)) (compPost (model X.prog X.w) X.A X.xe use Qf (.ref D) s3.heap.objs.size) { s3 with heap := pushCells (s3.heap.push { cls := .type "dict", data := .dict #[] }) scope.names }
  have nfp : ∀ b ∈ fp, (upd H2 D (.dT [])) b = none := fun b hb => (f3 b hb).1.1
  generalize hce : compEnvC scope (cellsFrom (s3.heap.objs.size + 1) scope.names (cloFrom X.env.cells scope.names [])) s3.heap.objs.size X.env = ce at I4 pg pt pk pe ⊢
  have cL : ce.locals = s3.heap.objs.size := by subst hce; rfl
  generalize hH3 : upd H2 D (.dT []) = H3 at I3 I4 pg pt pk pe w0 nfp f3
  generalize hs4 : ({ s3 with heap := pushCells (s3.heap.push { cls := .type "dict", data := .dict #[] }) scope.names } : Shared) = s4 at I4 ⊢
  have st4 : tn 0 s4.heap := T.keep _ _ _ st3 fun b _ o e => by rw [← hs4]; exact pushCells_keeps _ _ _ _ (Heap.get?_push_of_some _ e)
  have stat : ∀ {σ' : L2.St} {H' : Hp} {s' : Shared}, Inv (X.blk s3 H3 scope ce fp) [] σ' H' s' → (∀ b ∈ fp, H' b = none) → ∀ b ∈ fp, FpOk (X.blk s3 H3 scope ce fp) [] H' b := fun {σ' H' s'} I' hn b hb =>
    ⟨hn b hb, (I'.ok.exf b hb).1, I'.ok.exfs b hb, .inl hb, fun x c e => (I'.ok.exf b hb).2 x c e, fun p hp => absurd (show p ∈ ([] : List (Addr × Obj)) ++ [] from hp) (by simp)⟩
  have loop : codeAny (model X.prog X.w) X.A (.compLoop (.DictComp kx vx [⟨tg, iter, ifs, 0⟩] scope pos) 0 (.ref it) (.ref D) ce) (compPost (model X.prog X.w) X.A X.xe use Qf (.ref D) s3.heap.objs.size) s4 := by
    refine compLoop_anyD (fun n s' => ∃ i H', Inv (X.blk s3 H3 scope ce fp) [] (wipe σ (own.map (·.2))) H' s' ∧ tn i s'.heap ∧ (∀ b ∈ fp, H' b = none) ∧ W i n H') ?_ m0 ⟨0, H3, I4, st4, nfp, w0⟩
    rintro n s5 ⟨i, H5, I5, st5, n5, w5⟩
    rcases turn i n H5 w5 with ⟨stop, qq⟩ | ⟨go, Nx, hNx, step⟩
    · have td := T.done (X.blk s3 H3 scope ce fp) rfl rfl rfl hc i [] s5 _ H5 (fun _ _ => False) I5 (stat I5 n5) st5 stop
      refine thnF td fun r s6 ⟨hr, I6⟩ => ?_
      subst hr
      -- back in the def's context
      have I7 : Inv X pins σ H5 s6 := I3.call' (ch := fp) I6.os I6.base I6.hok I6.bare fun b hb => ⟨(f3 b hb).1.2.2.2.1, (f3 b hb).1.2.1, (f3 b hb).1.2.2.2.2.1, (f3 b hb).1.2.2.2.2.2⟩
      have nC : H5 s3.heap.objs.size = none := by
        have z : H5 ce.locals = none := I6.free
        rw [cL] at z
        exact z
      obtain ⟨m, hn, _⟩ := I6.loc
      have hn : s6.heap.Ns ce.locals m := hn
      rw [cL] at hn
      exact hRR D s3.heap.objs.size s6 m H5 I7 qq hn (I3.fpOk (Nat.le_refl _) nC)
    · have ti := T.item (X.blk s3 H3 scope ce fp) rfl rfl rfl hc i [] s5 _ H5 (fun _ _ => False) I5 (stat I5 n5) st5 go
      refine thnF ti fun r s6 ⟨u, hr, h6⟩ => ?_
      subst hr
      refine thnF h6 fun _ s7 ⟨x, H7, I7, r7, y7, st7, n7⟩ => ?_
      have I7' := I7.pinned (stat I7 n7) (T.obj _ _ st7)
      refine thnF (pg.run _ s7 _ H7 x u _ I7' r7 (step x H7 y7)) fun _ s8 ⟨σ8, H8, I8, hw8, q8⟩ => ?_
      refine thnF (pt.run _ s8 σ8 H8 _ I8 q8) fun b s9 ⟨H9, I9, q9⟩ => ?_
      -- the turn's end
      have fin : ∀ {s' : Shared} {H' : Hp}, Inv (X.blk s3 H3 scope ce fp) ([] ++ pinsAt fp s7.heap) σ8 H' s' → Nx H' → ∃ m, m < n ∧ ∃ i H', Inv (X.blk s3 H3 scope ce fp) [] (wipe σ (own.map (·.2))) H' s' ∧ tn i s'.heap ∧ (∀ b ∈ fp, H' b = none) ∧ W i m H' := fun {s' H'} I' nx => by
        obtain ⟨m', hm, w'⟩ := hNx H' nx
        have pin' : ∀ b ∈ fp, ∀ o, s7.heap.get? b = some o → s'.heap.get? b = some o ∧ H' b = none := fun b hb o e =>
          let z := I'.pin (b, o) (List.mem_append_right _ (List.mem_append_right _ (mem_pinsAt hb e)))
          ⟨z.1, z.2.1⟩
        have hl : (wipe σ (own.map (·.2))).length = σ8.length := by rw [← hw8, wipe_length]
        refine ⟨m', hm, i + 1, H', (I'.unpinned (pins := [])).weak hl (fun j v e => ?_), T.keep _ _ _ st7 fun b hb o e => (pin' b hb o e).1, fun b hb => ?_, w'⟩
        · rw [← hw8] at e
          exact (wipe_some e).1
        · obtain ⟨o, e, _⟩ := T.obj _ _ st7 b hb
          exact (pin' b hb o e).2
      cases b with
      | false =>
        simp only [Bool.false_eq_true, if_false] at q9 ⊢
        exact fin I9 q9
      | true =>
        simp only [if_true] at q9 ⊢
        refine thnF (pk.run _ s9 σ8 H9 _ I9 q9) fun z s10 ⟨yk, H10, I10, r10, q10⟩ => ?_
        refine thnF (pe.run _ s10 σ8 H10 _ I10 q10) fun z2 s11 ⟨yv, H11, I11, r11, kvs, k, bk, ek, hb11, hD11, hz11, nx⟩ => ?_
        subst ek
        obtain rfl : z = Value.ref bk := r10
        exact d_dictSetT (X := X.blk s3 H3 scope ce fp) hu I11 hD11 hb11 hz11 r11 fun s12 I12 => fin I12 nx
  exact codeAny_compStart_dict loop (T.self X.A 0 _ _ _ st4 loop)
/-- as a value -/
theorem pe_dcT {kx vx tg iter : Expr} {ifs : List Expr} {scope : Scope} {own : List (Str × Nat)} {pos : Pos} {wi : TI} {g : TG} {tt : TT} {tk tv : TE} (hc : X.calm = true) (hu : X.A.units + 1 < cLine) (hN : X.N.Nodup) (hi : PI X tg iter wi) (ok : BlkOk X.N X.env.scope scope own)
    (hg : ∀ (s : Shared) (H : Hp) (C : Addr) (cl : List (Str × Addr)) (fp : List Addr), PG (X.blk s H scope (compEnvC scope cl C X.env) fp) tg g) (ht : ∀ (s : Shared) (H : Hp) (C : Addr) (cl : List (Str × Addr)) (fp : List Addr), PTs (X.blk s H scope (compEnvC scope cl C X.env) fp) ifs tt)
    (hk : ∀ (s : Shared) (H : Hp) (C : Addr) (cl : List (Str × Addr)) (fp : List Addr), PE (X.blk s H scope (compEnvC scope cl C X.env) fp) kx tk)
    (he : ∀ (s : Shared) (H : Hp) (C : Addr) (cl : List (Str × Addr)) (fp : List Addr), PE (X.blk s H scope (compEnvC scope cl C X.env) fp) vx tv) (hs : ∀ x, foldedSetIterable iter X.env x = pure x := by intro _; rfl) :
    PE X (.DictComp kx vx [⟨tg, iter, ifs, 0⟩] scope pos) (tDcT wi g tt tk tv (own.map (·.2))) := by
  refine ⟨fun pins s σ H Q I h => ?_⟩
  rw [arm_eval_DictComp]
  refine dcT_core hc hu hN I hi ok hg ht hk he hs h fun D C s' m H' I' q hn f => ⟨m, hn, fun h'' sb => ?_⟩
  obtain ⟨f0, f1, f2, f3, f4, f5⟩ := f
  exact ⟨.ref D, H', I'.turned (t' := s'.toks) (fun b o hb e => (sb.2 b hb).trans e) f0 f1 f3 f4 f5, rfl, q⟩

end
/-! ### a display with one tuple key -/
def tDisp1 (tk tv : TE) : TE := fun σ H Q => ∀ p, H p = none → tk σ (upd H p (.dT [])) fun y H1 => tv σ H1 fun v H2 => H2 p = some (.dT []) ∧ ∃ k b, y = .ref b ∧ H2 b = some (.tup (k.map kV)) ∧ Q (.ref p) (upd H2 p (.dT [(k, v)]))
theorem pe_disp1 {X : Cx} {pos : Pos} {k v : Expr} {tk tv : TE} (hu : X.A.units + 1 < cLine) (hk : PE X k tk) (hv : PE X v tv) : PE X (.Dict [some k] [v] pos) (tDisp1 tk tv) := by
  refine ⟨fun pins s σ H Q I q => ?_⟩
  have hn := I.hok.fresh (Nat.le_refl s.heap.objs.size)
  have I1 := I.laid (a := s.heap.objs.size) (o := .dT []) (h' := s.heap.push { cls := .type "dict", data := .dict #[] }) (t' := s.toks) (fun _ _ q => Heap.get?_push_of_some _ q) (Nat.le_refl _) (dt_empty s.heap I.big)
  rw [PySem.arm_eval_Dict, zip_pairTrees [some k] [v] X.env pos rfl rfl, dictDisplay_pairs (pairTrees [some k] [v] X.env pos) (by intro e; cases e) (by show 1 < 17; omega)]
  refine wpAny_bind (wpAny_standAt (wpAny_bind (wpAny_subDictH (knd := tupleKind (mixKind X.prog X.w)) (show (tupleKind (mixKind X.prog X.w)).room X.A from Nat.lt_of_succ_lt hu) (by show 1 ≤ 15; omega) (pairTrees_cons_walk (thn (hk.run pins _ σ _ _ I1 (q _ hn)) fun kv s1 ⟨y, H1, I2, ry, q1⟩ => thn (hv.run pins s1 σ H1 _ I2 q1) fun vv s2 ⟨z, H2, I3, rz, e, kk, b, ey, hb, q2⟩ => pairTrees_nil_walk ?_)))))
  subst ey
  obtain rfl : kv = Value.ref b := ry
  obtain ⟨z0, hd, vs0, r0, dd⟩ := dt_of I3.hok e
  cases r0
  refine ⟨[(kk, b, vv)], ⟨rfl, rfl, key_of I3.hok hb, trivial⟩, dd, fun h' tk dd' hs => wpAny_pure ⟨.ref s.heap.objs.size, _, ?_, rfl, q2⟩⟩
  obtain ⟨q, es, ep, hq, h2, h3, h4, _, h5⟩ := dd'
  refine d_write I3 (by rw [e]; exact True.intro) hs ⟨q, hq⟩ ⟨(by rw [sizeLine_eq]; show 1 ≤ 16777216; omega), hd, _, (KT.put (H := H2) Paired.nil kk hb rz).keeps fun c ys ec => ?_, q, es, ep, hq, h2, h3, h4, h5⟩
  rw [upd_ne (ne_of ec e (fun z => nomatch z))]
  exact ec
/-! ### readings -/
section
variable {K : PySem.W.Frag} {σ : L2.St} {H : Hp} {tk tv : TE} {ta : TA} {g : TG} {Q : VK}
theorem rd_disp1 (h : ∀ p, H p = none → tk σ (upd H p (.dT [])) fun y H1 => tv σ H1 fun v H2 => H2 p = some (.dT []) ∧ ∃ k b, y = .ref b ∧ H2 b = some (.tup (k.map kV)) ∧ Q (.ref p) (upd H2 p (.dT [(k, v)]))) : tDisp1 tk tv σ H Q := h
/-- {tk: tv for a, b in enumerate(xs)}: the i-th key is a tuple that stands -/
theorem rd_dcET {a b : Nat} {vs : List Nat} {p : Addr} {xs : List V} (h : EvA ta σ H [.ref p]) (hs : SqL K H p xs) (kf : Nat → List Key) (vf : Nat → V) (hz : xs.length ≤ 40000)
    (hinj : ∀ i j, i < xs.length → j < xs.length → kf i = kf j → i = j)
    (hw : ∀ x y, wipe (((wipe σ vs).set a (some x)).set b (some y)) vs = wipe σ vs)
    (hg : ∀ x y T σ' H' (R : L2.St → Hp → Prop), H' T = some (.tup [x, y]) → R ((σ'.set a (some x)).set b (some y)) H' → g (.ref T) σ' H' R)
    (hk : ∀ i x, xs[i]? = some x → ∀ H1, Ex H H1 → ∃ q, H1 q = some (.tup ((kf i).map kV)) ∧ Ev tk (((wipe σ vs).set a (some (.int (i : Nat)))).set b (some x)) H1 (.ref q))
    (he : ∀ i x, xs[i]? = some x → ∀ H1, Ex H H1 → Ev tv (((wipe σ vs).set a (some (.int (i : Nat)))).set b (some x)) H1 (vf i))
    (q : ∀ d H1, H d = none → Same H H1 → H1 d = some (.dT ((List.range xs.length).map fun i => (kf i, vf i))) → Q (.ref d) H1) : tDcT (iEnum K ta) g tYes tk tv vs σ H Q := h H (Ex.refl H) _ fun H1 e1 => ⟨p, xs, rfl, ex_l e1 hs, fun Dl hD => by
  have W := walk_enum (K := K) (a := p) (xs := xs)
  refine ⟨fun i m H' => m = xs.length - i ∧ i ≤ xs.length ∧ Ex H1 H' ∧ H' Dl = some (.dT ((List.range i).map fun i => (kf i, vf i))), ⟨xs.length, by omega, Nat.zero_le _, Ex.new hD, by rw [upd_same]; rfl⟩, ?_⟩
  rintro i m H' ⟨rfl, hi, ex, hd⟩
  by_cases hlt : i < xs.length
  · refine .inr ⟨W.goes i H' hlt (ex_l (e1.trans ex) hs), fun H2 => Ex H1 H2 ∧ H2 Dl = some (.dT ((List.range (i + 1)).map fun i => (kf i, vf i))), fun H2 n => ⟨xs.length - (i + 1), by omega, rfl, hlt, n.1, n.2⟩, fun x H2 hy => ?_⟩
    obtain ⟨T, x1, x2, rfl, hT, rfl, h1, h2⟩ := W.yields i H' x H2 hlt (ex_l (e1.trans ex) hs) hy
    cases h1
    refine hg _ _ T _ _ _ upd_same ⟨hw _ _, rd_yes (iteT ?_)⟩
    have exT : Ex H1 (upd H' T (.tup [.int (i : Nat), x2])) := ex.trans (Ex.new hT)
    have hdT : upd H' T (.tup [.int (i : Nat), x2]) Dl = some (.dT ((List.range i).map fun i => (kf i, vf i))) := by rw [upd_ne (ne_of_none hd hT)]; exact hd
    obtain ⟨kq, hkq, evk⟩ := hk i x2 h2 _ (e1.trans exT)
    refine evk _ (Ex.refl _) _ fun H3 e3 => he i x2 h2 H1 e1 H3 (exT.trans e3) _ fun H4 e4 => ⟨_, kf i, kq, rfl, e4 _ _ (e3 _ _ hkq), e4 _ _ (e3 _ _ hdT), ?_, ?_⟩
    · rw [List.length_map, List.length_range]
      exact sz_lt (by omega)
    · refine ⟨Ex.mut ((exT.trans e3).trans e4) hD, ?_⟩
      rw [upd_same, putK_new, List.range_succ, List.map_append]
      · rfl
      · unfold valV
        rw [Option.map_eq_none_iff, List.find?_eq_none]
        intro z hz
        obtain ⟨j, hj, rfl⟩ := List.mem_map.mp hz
        have hj := List.mem_range.mp hj
        simp only [decide_eq_true_eq]
        intro e
        have := hinj j i (by omega) hlt e
        omega
  · obtain rfl : i = xs.length := by omega
    exact .inl ⟨W.stops H' (ex_l (e1.trans ex) hs), q Dl H' (fresh_back e1 hD) (e1.trans ex) hd⟩⟩
end
end NW

/-! list(zip(a, b)) of two lists of one length: new tuples. -/
namespace NW
open PySem PySem.Spec PySem.Calls PyProof.Rows L2 Evl
theorem zip_no_len : typeLookup (.type "zip") "__len__" = pure none := by rw [typeLookup_type, builtinLookup_eq_fast]; kernel_rfl
theorem zip_no_hint : typeLookup (.type "zip") "__length_hint__" = pure none := by rw [typeLookup_type, builtinLookup_eq_fast]; kernel_rfl
/-- a zip that has given out i pairs, into a list at S -/
structure ZipAt (h : Heap) (z TI TO i1 i2 l1 l2 S : Addr) (xs ys : Array Value) (i : Nat) : Prop where
  ti : IsPair h TI (.ref i1) (.ref i2)
  a1 : h.IsListIter i1 l1 i
  a2 : h.IsListIter i2 l2 i
  b1 : h.IsList l1 xs
  b2 : h.IsList l2 ys
  z : (IsZip h z TI TO .none ∧ ∃ a b, IsPair h TO a b) ∨ ∃ T f oT, IsZipHeld h z TI TO T f ∧ h.get? T = some oT ∧ T ≠ z ∧ T ≠ i1 ∧ T ≠ i2 ∧ T ≠ S
structure ZipMade (xs ys : Array Value) (lo : Addr) (h : Heap) (as : List Addr) : Prop where
  rise : as.Pairwise (· < ·)
  above : ∀ a ∈ as, lo < a
  pairs : ∀ (j : Nat) (a : Addr), as[j]? = some a → ∃ x y, xs[j]? = some x ∧ ys[j]? = some y ∧ h.get? a = some { cls := .type "tuple", data := .seq #[x, y] }
section
variable {prog : Program} {w : World} {A : Around} {E : Value → Shared → Prop} {s : Shared} {z TI TO i1 i2 l1 l2 S : Addr} {xs ys : Array Value}
theorem ZipAt.upd {h h' : Heap} {i : Nat} (Z : ZipAt h z TI TO i1 i2 l1 l2 S xs ys i) (up : ∀ b o, b ≠ S → h.get? b = some o → h'.get? b = some o) (hS : ∀ b ∈ [z, TI, TO, i1, i2, l1, l2], b ≠ S) : ZipAt h' z TI TO i1 i2 l1 l2 S xs ys i := by
  have n : ∀ b, b ∈ [z, TI, TO, i1, i2, l1, l2] → b ≠ S := hS
  refine ⟨up _ _ (n _ (by simp)) Z.ti, Z.a1.at fun o e => up _ o (n _ (by simp)) e, Z.a2.at fun o e => up _ o (n _ (by simp)) e, Z.b1.at fun o e => up _ o (n _ (by simp)) e, Z.b2.at fun o e => up _ o (n _ (by simp)) e, ?_⟩
  rcases Z.z with ⟨hz, a, b, hT⟩ | ⟨T, f, oT, hz, hT, r1, r2, r3, r4⟩
  · exact .inl ⟨up _ _ (n _ (by simp)) hz, a, b, up _ _ (n _ (by simp)) hT⟩
  · exact .inr ⟨T, f, oT, up _ _ (n _ (by simp)) hz, up _ _ r4 hT, r1, r2, r3, r4⟩
theorem ZipAt.item (D : ZipApart z TI TO i1 i2 l1 l2) {i : Nat} {x y : Value} {Q : Option Value → Shared → Prop} (Z : ZipAt s.heap z TI TO i1 i2 l1 l2 S xs ys i) (hS : S < s.heap.objs.size) (ex : xs[i]? = some x) (ey : ys[i]? = some y)
    (hQ : ∀ h', ZipAt h' z TI TO i1 i2 l1 l2 S xs ys (i + 1) → IsPair h' s.heap.objs.size x y → h'.objs.size = s.heap.objs.size + 1 →
      (∀ c o, c ≠ z → c ≠ TO → c ≠ i1 → c ≠ i2 → s.heap.get? c = some o → h'.get? c = some o) → Q (some (.ref s.heap.objs.size)) { s with heap := h' }) : wpAny (model prog w) A (pyNext (.ref z)) Q E s := by
  obtain ⟨hTI, h1, h2, hl1, hl2, hz⟩ := Z
  have lt : ∀ {c o}, s.heap.get? c = some o → s.heap.objs.size ≠ c := fun e => Nat.ne_of_gt (Heap.lt_size e)
  have n1 : s.heap.objs.size ≠ i1 := let ⟨_, e, _⟩ := h1; lt e
  have n2 : s.heap.objs.size ≠ i2 := let ⟨_, e, _⟩ := h2; lt e
  rcases hz with ⟨hz, a, b, hTO⟩ | ⟨T, f, oT, hz, hT, r1, r2, r3, r4⟩
  · refine wpAny_pyNext_zip_item D hz hTI hTO h1 h2 hl1 hl2 ex ey fun h' a1 a2 a3 a4 a5 a6 hk => ?_
    exact hQ h' ⟨hk _ _ D.TIz D.TITO D.TIi1 D.TIi2 hTI, a3, a4, hl1.at fun o e => hk _ o D.l1z D.l1TO D.l1i1 D.l1i2 e, hl2.at fun o e => hk _ o D.l2z D.l2TO D.l2i1 D.l2i2 e,
      .inr ⟨s.heap.objs.size, false, _, a1, a5, lt hz, n1, n2, Nat.ne_of_gt hS⟩⟩ a5 a6 hk
  · refine wpAny_pyNext_zip_item_held D hz hT hTI h1 h2 hl1 hl2 ex ey fun h' a1 a3 a4 a5 a6 hk => ?_
    exact hQ h' ⟨hk _ _ D.TIz D.TIi1 D.TIi2 hTI, a3, a4, hl1.at fun o e => hk _ o D.l1z D.l1i1 D.l1i2 e, hl2.at fun o e => hk _ o D.l2z D.l2i1 D.l2i2 e,
      .inr ⟨T, true, oT, a1, hk _ _ r1 r2 r3 hT, r1, r2, r3, r4⟩⟩ a5 a6 fun c o h1 _ h3 h4 e => hk c o h1 h3 h4 e
theorem ZipAt.fin (hh : A.handled = none) (D : ZipApart z TI TO i1 i2 l1 l2) {i : Nat} {Q : Option Value → Shared → Prop} (Z : ZipAt s.heap z TI TO i1 i2 l1 l2 S xs ys i) (hend : xs.size ≤ i)
    (hQ : ∀ h', (∀ c o, c ≠ z → c ≠ TO → c ≠ i1 → c ≠ i2 → s.heap.get? c = some o → h'.get? c = some o) → Q none { s with heap := h' }) : wpAny (model prog w) A (pyNext (.ref z)) Q E s := by
  obtain ⟨hTI, h1, h2, hl1, hl2, hz⟩ := Z
  have he : xs[i]? = none ∨ ys[i]? = none := .inl (Array.getElem?_eq_none hend)
  rcases hz with ⟨hz, a, b, hTO⟩ | ⟨T, f, oT, hz, hT, r1, r2, r3, r4⟩
  · exact wpAny_pyNext_zip_end hh D hz hTI hTO h1 h2 hl1 hl2 he fun h' hk => hQ h' hk
  · exact wpAny_pyNext_zip_end_held hh D hz hT hTI h1 h2 hl1 hl2 he fun h' hk => hQ h' fun c o h1 _ h3 h4 e => hk c o h1 h3 h4 e
end
section
variable {prog : Program} {w : World} {A : Around} {s : Shared} {R : Result → Shared → Prop} {z TI TO i1 i2 l1 l2 S : Addr} {xs ys : Array Value}
theorem zloop (hh : A.handled = none) (D : ZipApart z TI TO i1 i2 l1 l2) (hlo : ∀ b ∈ [z, TI, TO, i1, i2, l1, l2], b < S) (hn : xs.size ≤ sizeLine) (hxy : xs.size = ys.size) (res : Value) {h₁ : Heap}
    (hR : ∀ h' tk acc c as, (∀ b o, b ≠ S → b ≠ z → b ≠ TO → b ≠ i1 → b ≠ i2 → h₁.get? b = some o → h'.get? b = some o) → h'.get? S = some { cls := .type "list", dict := none, data := .seq acc c, slots := #[] } → as.length = xs.size → ZipMade xs ys S h' as →
      acc.toList = as.map Value.ref → R (.ok (.ret res)) { s with heap := h', toks := tk }) :
    ∀ (k i : Nat) (h : Heap) (tk c : Nat) (acc : Array Value) (as : List Addr), xs.size - i = k → i ≤ xs.size → ZipAt h z TI TO i1 i2 l1 l2 S xs ys i → (∀ b o, b ≠ S → b ≠ z → b ≠ TO → b ≠ i1 → b ≠ i2 → h₁.get? b = some o → h.get? b = some o) →
      h.get? S = some { cls := .type "list", dict := none, data := .seq acc c, slots := #[] } → acc.toList = as.map Value.ref → as.length = i → ZipMade xs ys S h as →
      codeAny (model prog w) A (.builtin "list.extend.loop" ⟨[.ref S, .ref z, res], []⟩) R { s with heap := h, toks := tk } := by
  have nz : ∀ b, b ∈ [z, TI, TO, i1, i2, l1, l2] → b ≠ S := fun b hb => Nat.ne_of_lt (hlo b hb)
  have ab : ∀ b, S < b → b ≠ z ∧ b ≠ TO ∧ b ≠ i1 ∧ b ≠ i2 := fun b hb => by
    have f : ∀ c, c ∈ [z, TI, TO, i1, i2, l1, l2] → b ≠ c := fun c hc => Nat.ne_of_gt (Nat.lt_trans (hlo c hc) hb)
    exact ⟨f _ (by simp), f _ (by simp), f _ (by simp), f _ (by simp)⟩
  intro k
  induction k with
  | zero =>
    intro i h tk c acc as hk hi hst hkeep hS hacc hal hG
    refine codeAny_builtin PySem.F.entry_extend_loop ?_
    rw [Around.under_plainId PySem.F.plain_extend_loop _]
    show wpAny _ A.in1 (pyNext (.ref z) >>= _) _ _ _
    refine wpAny_bind (ZipAt.fin (s := { s with heap := h, toks := tk }) (A := A.in1) hh D hst (by omega) fun h' he => ?_)
    refine wpAny_pure (hR h' tk acc c as (fun b o h1 h2 h3 h4 h5 e => he b o h2 h3 h4 h5 (hkeep b o h1 h2 h3 h4 h5 e)) (he S _ (nz _ (by simp)).symm (nz _ (by simp)).symm (nz _ (by simp)).symm (nz _ (by simp)).symm hS) (by omega) ⟨hG.rise, hG.above, fun j a hj => ?_⟩ hacc)
    obtain ⟨x, y, e1, e2, e3⟩ := hG.pairs j a hj
    obtain ⟨n1, n2, n3, n4⟩ := ab a (hG.above a (List.mem_of_getElem? hj))
    exact ⟨x, y, e1, e2, he a _ n1 n2 n3 n4 e3⟩
  | succ k ih =>
    intro i h tk c acc as hk hi hst hkeep hS hacc hal hG
    have hlt : i < xs.size := by omega
    have hsz : acc.size = i := by rw [← Array.length_toList, hacc, List.length_map, hal]
    have ex := Array.getElem?_eq_getElem hlt
    have ey := Array.getElem?_eq_getElem (show i < ys.size by omega)
    refine codeAny_builtin PySem.F.entry_extend_loop ?_
    rw [Around.under_plainId PySem.F.plain_extend_loop _]
    show wpAny _ A.in1 (pyNext (.ref z) >>= _) _ _ _
    have hSl : S < h.objs.size := Heap.lt_size hS
    refine wpAny_bind (ZipAt.item (s := { s with heap := h, toks := tk }) D hst hSl ex ey fun h' hst' ht hz hkp => ?_)
    dsimp only at ht hz hkp ⊢
    have hS' := hkp S _ (nz _ (by simp)).symm (nz _ (by simp)).symm (nz _ (by simp)).symm (nz _ (by simp)).symm hS
    have up : ∀ b o, b ≠ S → h'.get? b = some o → (h'.update S (Obj.mapSeq (·.push (Value.ref h.objs.size)))).get? b = some o := fun b o hb e => (Heap.get?_update_other _ _ (Ne.symm hb)).trans e
    show wpAny _ A.in1 (updateSeq S (·.push (Value.ref h.objs.size)) >>= _) _ _ _
    refine wpAny_bind ?_
    refine wpAny_updateSeq hS' rfl (wpAny_pure ⟨plainId_quiet PySem.F.plain_extend_loop _, ih (i + 1) _ tk _ (acc.push (Value.ref h.objs.size)) (as ++ [h.objs.size]) (by omega) hlt (hst'.upd up nz)
      (fun b o h1 h2 h3 h4 h5 e => up b o h1 (hkp b o h2 h3 h4 h5 (hkeep b o h1 h2 h3 h4 h5 e))) (Heap.get?_update_self _ hS' rfl) (by rw [Array.toList_push, hacc, List.map_append]; rfl) (by rw [List.length_append, hal]; rfl) ⟨?_, ?_, ?_⟩⟩) (by rw [hsz]; omega) (by show (acc.push (Value.ref h.objs.size)).size ≤ sizeLine + 1; rw [Array.size_push, hsz]; omega)
    · refine List.pairwise_append.mpr ⟨hG.rise, List.pairwise_singleton _ _, fun a ha b hb => ?_⟩
      rw [List.mem_singleton.mp hb]
      obtain ⟨j, hj⟩ := List.mem_iff_getElem?.mp ha
      obtain ⟨_, _, _, _, e⟩ := hG.pairs j a hj
      exact Heap.lt_size e
    · intro a ha
      rcases List.mem_append.mp ha with ha | ha
      · exact hG.above a ha
      · rw [List.mem_singleton.mp ha]; exact hSl
    · intro j b hj
      rcases Nat.lt_trichotomy j as.length with h1 | h1 | h1
      · rw [List.getElem?_append_left h1] at hj
        obtain ⟨x, y, e1, e2, e3⟩ := hG.pairs j b hj
        have hb := hG.above b (List.mem_of_getElem? hj)
        obtain ⟨n1, n2, n3, n4⟩ := ab b hb
        exact ⟨x, y, e1, e2, up b _ (Nat.ne_of_gt hb) (hkp b _ n1 n2 n3 n4 e3)⟩
      · subst h1
        have hb : h.objs.size = b := by simpa using hj
        subst hb
        subst hal
        exact ⟨_, _, ex, ey, up _ _ (Nat.ne_of_gt hSl) ht⟩
      · have hnone : (as ++ [h.objs.size])[j]? = none := List.getElem?_eq_none (by rw [List.length_append, List.length_singleton]; omega)
        rw [hnone] at hj; cases hj
end
section
variable {prog : Program} {w : World} {A : Around} {E : Value → Shared → Prop} {s : Shared} {z TI TO i1 i2 l1 l2 : Addr} {xs ys : Array Value}
theorem zextend {R : Result → Shared → Prop} (hh : A.handled = none) (D : ZipApart z TI TO i1 i2 l1 l2) (S : Addr) (hlo : ∀ b ∈ [z, TI, TO, i1, i2, l1, l2], b < S) (hn : xs.size ≤ sizeLine) (hxy : xs.size = ys.size) (res : Value) (c₀ : Nat)
    (hS : s.heap.get? S = some { cls := .type "list", data := .seq #[] c₀ }) (Z : ZipAt s.heap z TI TO i1 i2 l1 l2 S xs ys 0) (hz : IsZip s.heap z TI TO .none)
    (hR : ∀ h' tk acc c as, (∀ b o, b ≠ S → b ≠ z → b ≠ TO → b ≠ i1 → b ≠ i2 → s.heap.get? b = some o → h'.get? b = some o) → h'.get? S = some { cls := .type "list", dict := none, data := .seq acc c, slots := #[] } → as.length = xs.size → ZipMade xs ys S h' as →
      acc.toList = as.map Value.ref → R (.ok (.ret res)) { s with heap := h', toks := tk }) :
    wpAny (model prog w) A.in1 (Builtin.List.listExtendWith (.ref S) (.ref z) res)
      (fun fin s' => match fin with | .done f => R (.ok f) s' | .again c' => c'.quiet = true ∧ codeAny (model prog w) A c' R s') (fun e s' => R (.error e) s') s := by
  have hT : s.TypeIs (.ref z) "zip" := ⟨_, hz, rfl⟩
  have nz : ∀ b, b ∈ [z, TI, TO, i1, i2, l1, l2] → b ≠ S := fun b hb => Nat.ne_of_lt (hlo b hb)
  have hSz : S ≠ z := (nz z (by simp)).symm
  unfold Builtin.List.listExtendWith
  refine wpAny_bind (wpAny_typeOf (T := "zip") hT ?_)
  have h1 : Builtin.List.listSameRef (.ref S) (.ref z) = false := by simp [Builtin.List.listSameRef, hSz]
  have h2 : (Value.type "zip" == Value.type "list") = false := by decide
  have h3 : (Value.type "zip" == Value.type "tuple") = false := by decide
  simp only [h1, h2, h3, Bool.or_false, Bool.false_eq_true, if_false]
  refine wpAny_bind (wpAny_pyIter_zip hz ?_)
  refine wpAny_bind (wpAny_holding ?_)
  unfold Builtin.List.listLengthHint
  refine wpAny_bind (wpAny_specialOf hT zip_no_len ?_)
  show wpAny _ A.in1 (specialOf (Value.ref z) (Str.ofString "__length_hint__") >>= _) _ _ _
  refine wpAny_bind (wpAny_specialOf hT zip_no_hint ?_)
  refine wpAny_pure ?_
  show wpAny _ A.in1 (rule "list.extend.makes-room" >>= fun _ => Builtin.List.listTouch (.ref S) >>= fun _ =>
    again (.builtin "list.extend.loop" ⟨[.ref S, .ref z, res], []⟩)) _ _ _
  refine wpAny_bind (wpAny_rule ?_)
  refine wpAny_bind ?_
  show wpAny _ A.in1 (updateSeq S (·.push .none) >>= fun _ => updateSeq S (·.pop)) _ _ _
  refine wpAny_bind (wpAny_updateSeq hS rfl ?_)
  have hS₂ := Heap.get?_update_self (Obj.mapSeq (·.push Value.none)) hS rfl
  refine wpAny_updateSeq (hz := by seq_fits) hS₂ rfl ?_
  have hS₃ := Heap.get?_update_self (Obj.mapSeq (·.pop)) hS₂ rfl
  have oth : ∀ b o, b ≠ S → s.heap.get? b = some o → ((s.heap.update S (Obj.mapSeq (·.push Value.none))).update S (Obj.mapSeq (·.pop))).get? b = some o :=
    fun b o hb e => (Heap.get?_update_other _ _ (Ne.symm hb)).trans ((Heap.get?_update_other _ _ (Ne.symm hb)).trans e)
  refine wpAny_pure ⟨plainId_quiet PySem.F.plain_extend_loop _, ?_⟩
  exact zloop (s := s) (h₁ := s.heap) hh D hlo hn hxy res hR xs.size 0 _ s.toks _ #[] [] (Nat.sub_zero _) (Nat.zero_le _) (Z.upd oth nz) (fun b o hb _ _ _ _ e => oth b o hb e) hS₃ rfl rfl ⟨List.Pairwise.nil, (fun _ ha => nomatch ha), (fun j a hj => by simp at hj)⟩
theorem zinit {R : Result → Shared → Prop} (hh : A.handled = none) (D : ZipApart z TI TO i1 i2 l1 l2) (S : Addr) (hlo : ∀ b ∈ [z, TI, TO, i1, i2, l1, l2], b < S) (hn : xs.size ≤ sizeLine) (hxy : xs.size = ys.size)
    (hS : s.heap.get? S = some { cls := .type "list", data := .seq #[] }) (Z : ZipAt s.heap z TI TO i1 i2 l1 l2 S xs ys 0) (hz : IsZip s.heap z TI TO .none)
    (hR : ∀ h' tk acc c as, (∀ b o, b ≠ S → b ≠ z → b ≠ TO → b ≠ i1 → b ≠ i2 → s.heap.get? b = some o → h'.get? b = some o) → h'.get? S = some { cls := .type "list", dict := none, data := .seq acc c, slots := #[] } → as.length = xs.size → ZipMade xs ys S h' as →
      acc.toList = as.map Value.ref → R (.ok (.ret .none)) { s with heap := h', toks := tk }) :
    wpAny (model prog w) A.in1 (Builtin.«list.__init__» ⟨[.ref S, .ref z], []⟩)
      (fun fin s' => match fin with | .done f => R (.ok f) s' | .again c' => c'.quiet = true ∧ codeAny (model prog w) A c' R s') (fun e s' => R (.error e) s') s := by
  have nz : ∀ b, b ∈ [z, TI, TO, i1, i2, l1, l2] → b ≠ S := fun b hb => Nat.ne_of_lt (hlo b hb)
  show wpAny _ _ (do let old ← Builtin.List.listItems (.ref S); Builtin.List.listUpdate (.ref S) (fun _ => #[]); letGo old.toList.reverse; Builtin.List.listExtendWith (.ref S) (.ref z) .none) _ _ s
  refine wpAny_bind ?_
  unfold Builtin.List.listItems
  refine wpAny_bind (wpAny_seqItems hS rfl (wpAny_pure ?_))
  show wpAny _ _ (updateSeq S (fun _ => #[]) >>= fun _ => letGo (#[] : Array Value).toList.reverse >>= fun _ => Builtin.List.listExtendWith (.ref S) (.ref z) .none) _ _ s
  refine wpAny_bind (wpAny_updateSeq hS rfl ?_)
  have hS₂ := Heap.get?_update_self (Obj.mapSeq (fun _ => (#[] : Array Value))) hS rfl
  have oth : ∀ b o, b ≠ S → s.heap.get? b = some o → (s.heap.update S (Obj.mapSeq (fun _ => (#[] : Array Value)))).get? b = some o :=
    fun b o hb e => (Heap.get?_update_other _ _ (Ne.symm hb)).trans e
  refine wpAny_bind (wpAny_letGo ?_)
  refine zextend (s := { s with heap := s.heap.update S (Obj.mapSeq (fun _ => (#[] : Array Value))) }) hh D S hlo hn hxy .none _ hS₂ (Z.upd oth nz) (oth _ _ (nz z (by simp)) hz) (fun h' tk acc c as hk hS' hl hG hacc => ?_)
  exact hR h' tk acc c as (fun b o hb h1 h2 h3 h4 e => hk b o hb h1 h2 h3 h4 (oth b o hb e)) hS' hl hG hacc
theorem zcall {Q : Value → Shared → Prop} (hh : A.handled = none) (D : ZipApart z TI TO i1 i2 l1 l2) (hn : xs.size ≤ sizeLine) (hxy : xs.size = ys.size) (hz : IsZip s.heap z TI TO .none) (hTI : IsPair s.heap TI (.ref i1) (.ref i2)) (hTO : ∃ a b, IsPair s.heap TO a b)
    (h1 : s.heap.IsListIter i1 l1 0) (h2 : s.heap.IsListIter i2 l2 0) (hl1 : s.heap.IsList l1 xs) (hl2 : s.heap.IsList l2 ys)
    (hQ : ∀ h' tk acc c as, (∀ b o, b ≠ z → b ≠ TO → b ≠ i1 → b ≠ i2 → s.heap.get? b = some o → h'.get? b = some o) → h'.get? s.heap.objs.size = some { cls := .type "list", dict := none, data := .seq acc c, slots := #[] } → as.length = xs.size → ZipMade xs ys s.heap.objs.size h' as →
      acc.toList = as.map Value.ref → Q (.ref s.heap.objs.size) { s with heap := h', toks := tk }) :
    wpAny (model prog w) A (call (.type "list") [.ref z]) Q E s := by
  refine callType_codes (Q₁ := fun obj s₁ => obj = .ref s.heap.objs.size ∧ s₁ = { s with heap := s.heap.push { cls := .type "list", data := .seq #[] } }) PySem.F.called_list (PySem.F.typeCall_list_1 _) PySem.F.entry_list_init
    (code_list_new _ ⟨rfl, rfl⟩) fun obj s₁ h₁ => ?_
  obtain ⟨rfl, rfl⟩ := h₁
  have hS : (s.heap.push { cls := .type "list", data := .seq #[] }).get? s.heap.objs.size = some { cls := .type "list", data := .seq #[] } := Heap.get?_push_size _ rfl
  obtain ⟨ta, tb, hT⟩ := hTO
  have up : ∀ b o, s.heap.get? b = some o → (s.heap.push { cls := .type "list", data := .seq #[] }).get? b = some o := fun b o e => Heap.get?_push_of_some _ e
  have lo : ∀ b ∈ [z, TI, TO, i1, i2, l1, l2], b < s.heap.objs.size := fun b hb => by
    obtain ⟨_, g1, _⟩ := h1
    obtain ⟨_, g2, _⟩ := h2
    obtain ⟨_, g3, _⟩ := hl1
    obtain ⟨_, g4, _⟩ := hl2
    simp only [List.mem_cons, List.not_mem_nil, or_false] at hb
    rcases hb with rfl | rfl | rfl | rfl | rfl | rfl | rfl
    all_goals first | exact Heap.lt_size hz | exact Heap.lt_size hTI | exact Heap.lt_size hT | exact Heap.lt_size g1 | exact Heap.lt_size g2 | exact Heap.lt_size g3 | exact Heap.lt_size g4
  refine ⟨⟨_, hS, rfl⟩, PySem.F.args_list_init_2 _ _, zinit (s := { s with heap := s.heap.push { cls := .type "list", data := .seq #[] } }) (A := A.in1) hh D _ lo hn hxy hS
    ⟨up _ _ hTI, h1.at fun o e => up _ o e, h2.at fun o e => up _ o e, hl1.at fun o e => up _ o e, hl2.at fun o e => up _ o e, .inl ⟨up _ _ hz, ta, tb, up _ _ hT⟩⟩ (up _ _ hz) fun h' tk acc c as hk hS' hl hG hacc => ?_⟩
  exact ⟨rfl, hQ h' tk acc c as (fun b o n1 n2 n3 n4 e => hk b o (Nat.ne_of_lt (Heap.lt_size e)) n1 n2 n3 n4 (up b o e)) hS' hl hG hacc⟩
end
/-! ### as an expression -/
/-- the tuples tracked at their addresses -/
def putZ : Hp → List Addr → List (V × V) → Hp
  | H, a :: as, p :: kvs => putZ (upd H a (.tup [p.1, p.2])) as kvs
  | H, _, _ => H
theorem putZ_off {b : Addr} : ∀ (as : List Addr) (kvs : List (V × V)) (H : Hp), b ∉ as → putZ H as kvs b = H b
  | [], _, _, _ => rfl
  | _ :: _, [], _, _ => rfl
  | a :: as, p :: kvs, H, h => by
    show putZ (upd H a (.tup [p.1, p.2])) as kvs b = H b
    rw [putZ_off as kvs _ (fun z => h (List.mem_cons_of_mem _ z)), upd_ne (fun z => h (by rw [z]; exact List.mem_cons_self))]
theorem putZ_at : ∀ (as : List Addr) (kvs : List (V × V)) (H : Hp), as.length = kvs.length → as.Nodup → Paired (fun (t : Addr) (p : V × V) => putZ H as kvs t = some (.tup [p.1, p.2])) as kvs
  | [], [], _, _, _ => .nil
  | [], _ :: _, _, h, _ => by cases h
  | _ :: _, [], _, h, _ => by cases h
  | a :: as, p :: kvs, H, h, hn => by
    have hn' := List.nodup_cons.mp hn
    refine .cons ?_ (putZ_at as kvs (upd H a (.tup [p.1, p.2])) (Nat.succ.inj h) hn'.2)
    show putZ (upd H a (.tup [p.1, p.2])) as kvs a = some (.tup [p.1, p.2])
    rw [putZ_off as kvs _ hn'.1, upd_same]
section
variable {X : Cx} {e e2 : Expr} {ta : TA} {p pz pos cpos : Pos}
theorem zip_laid {pins : List (Addr × Obj)} {σ : L2.St} {H : Hp} {s : Shared} {h' : Heap} {tk : Nat} {kvs : List (V × V)} {acc : Array Value} {c : Nat} {as : List Addr} {S : Addr} {xs ys : Array Value} (I : Inv X pins σ H s) (hz : kvs.length ≤ sizeLine)
    (hk : ∀ b o, s.heap.get? b = some o → h'.get? b = some o) (hlo : s.heap.objs.size ≤ S) (hS : h'.get? S = some { cls := .type "list", dict := none, data := .seq acc c, slots := #[] }) (hl : as.length = kvs.length) (hG : ZipMade xs ys S h' as)
    (hv : ∀ (j : Nat) (q : V × V), kvs[j]? = some q → ∀ x y, xs[j]? = some x → ys[j]? = some y → RelV q.1 x ∧ RelV q.2 y) (hacc : acc.toList = as.map Value.ref) :
    ∃ H' : Hp, Same H H' ∧ H S = none ∧ (∀ t ∈ as, H t = none) ∧ S ∉ as ∧ H' S = some (.lst (as.map V.ref)) ∧ Paired (fun (t : Addr) (q : V × V) => H' t = some (.tup [q.1, q.2])) as kvs ∧ Inv X pins σ H' { s with heap := h', toks := tk } := by
  have hSn : S ∉ as := fun z => Nat.lt_irrefl _ (hG.above _ z)
  have nd : as.Nodup := List.Pairwise.imp (fun {a b} (h : a < b) => Nat.ne_of_lt h) hG.rise
  have new : ∀ t ∈ as, H t = none := fun t ht => I.hok.fresh (Nat.le_of_lt (Nat.lt_of_le_of_lt hlo (hG.above t ht)))
  have newS : H S = none := I.hok.fresh hlo
  have atP := putZ_at as kvs (upd H S (.lst (as.map V.ref))) (by omega) nd
  have off : ∀ b, b ∉ as → b ≠ S → putZ (upd H S (.lst (as.map V.ref))) as kvs b = H b := fun b h1 h2 => by rw [putZ_off as kvs _ h1, upd_ne h2]
  have low : ∀ b o, s.heap.get? b = some o → b ∉ as ∧ b ≠ S := fun b o e => ⟨fun z => absurd (Heap.lt_size e) (Nat.not_lt.mpr (Nat.le_of_lt (Nat.lt_of_le_of_lt hlo (hG.above b z)))), Nat.ne_of_lt (Nat.lt_of_lt_of_le (Heap.lt_size e) hlo)⟩
  have kp : ∀ b u, H b = some u → (putZ (upd H S (.lst (as.map V.ref))) as kvs) b = some u := fun b u e => by
    rw [off b (fun z => by rw [new b z] at e; cases e) (fun z => by rw [z, newS] at e; cases e)]
    exact e
  have eS : putZ (upd H S (.lst (as.map V.ref))) as kvs S = some (.lst (as.map V.ref)) := by rw [putZ_off as kvs _ hSn, upd_same]
  refine ⟨putZ (upd H S (.lst (as.map V.ref))) as kvs, kp, newS, new, hSn, eS, atP, ?_⟩
  refine I.call' (ch := []) rfl ⟨fun b o q _ _ _ => hk b o q, fun b o q _ _ _ => ⟨o.slots, hk b o q⟩, fun b o q n _ => ?_, fun b o q _ => ⟨o, hk b o q⟩, fun b xs q => kp b _ q, fun b o u q => kp b _ q, fun b ps q => ⟨#[], by rw [kp b _ q]; simp⟩⟩ (fun b u q => ?_) I.bare fun b z => by simp at z
  · obtain ⟨z1, z2⟩ := low b o q
    rw [off b z1 z2]
    exact n
  · by_cases hb : b ∈ as
    · obtain ⟨j, pk, e1, e2, e3⟩ := LiI.paired_ix atP hb
      rw [e3] at q
      cases q
      obtain ⟨x, y, f1, f2, f3⟩ := hG.pairs j b e1
      obtain ⟨r1, r2⟩ := hv j pk e2 x y f1 f2
      exact ⟨by show 2 ≤ sizeLine; decide, [x, y], .cons r1 (.cons r2 .nil), ⟨_, f3, rfl, _, rfl⟩⟩
    · by_cases hb2 : b = S
      · rw [hb2] at q ⊢
        rw [eS] at q
        cases q
        refine ⟨by rw [List.length_map]; omega, acc.toList, c, by rw [hacc]; exact LiI.vals_refs as, ?_⟩
        rw [Array.toArray_toList]
        exact hS
      · rw [off b hb hb2] at q
        exact (I.hok b u q).stay (fun d v _ y => hk d v y) (fun d y => kp d _ y) fun d xs y => kp d _ y
/-- two lists of one length; a new list of new tuples -/
def tListZip (K : PySem.W.Frag) (ta : TA) : TE := fun σ H Q => ta σ H fun vs H1 => ∃ a b xs ys, vs = [.ref a, .ref b] ∧ SqL K H1 a xs ∧ SqL K H1 b ys ∧ xs.length = ys.length ∧
  ∀ H' l ts, Same H1 H' → H1 l = none → (∀ t ∈ ts, H1 t = none) → l ∉ ts → H' l = some (.lst (ts.map V.ref)) → Paired (fun (t : Addr) (q : V × V) => H' t = some (.tup [q.1, q.2])) ts (xs.zip ys) → Q (.ref l) H'
theorem rd_listZip {K : PySem.W.Frag} {σ : L2.St} {H : Hp} {Q : VK} (h : ta σ H fun vs H1 => ∃ a b xs ys, vs = [.ref a, .ref b] ∧ SqL K H1 a xs ∧ SqL K H1 b ys ∧ xs.length = ys.length ∧
  ∀ H' l ts, Same H1 H' → H1 l = none → (∀ t ∈ ts, H1 t = none) → l ∉ ts → H' l = some (.lst (ts.map V.ref)) → Paired (fun (t : Addr) (q : V × V) => H' t = some (.tup [q.1, q.2])) ts (xs.zip ys) → Q (.ref l) H') : tListZip K ta σ H Q := h
theorem pe_listZip (hc : X.calm = true) (hg : Gl X "list") (hm : X.mg "list" = none) (hv : bootBuiltins "list" = some (.type "list")) (hgz : Gl X "zip") (hmz : X.mg "zip" = none) (ha : PA X [e, e2] ta)
    (hs2 : starEach [e, e2] X.env = (false, eval e X.env) :: starEach [e2] X.env := by rfl) (hpl : (backTo cpos (starEach [e2] X.env)).any (·.1) = false := by rfl)
    (hs : starEach [.Call (.Name "zip" pz) [e, e2] [] cpos] X.env = (false, eval (.Call (.Name "zip" pz) [e, e2] [] cpos) X.env) :: starEach [] X.env := by rfl) :
    PE X (.Call (.Name "list" p) [.Call (.Name "zip" pz) [e, e2] [] cpos] [] pos) (tListZip X.K ta) := by
  refine ⟨fun pins s σ H Q I hq => ?_⟩
  refine wpAny_Call_Name_kw (ld_blt I hg hm hv ?_)
  refine PyProof.Rows.callWith_type1 ?_ hs rfl
  rw [hs]
  show wpAny _ _ (spliced ((false, eval (.Call (.Name "zip" pz) [e, e2] [] cpos) X.env) :: backTo pos (starEach [] X.env))) _ _ s
  refine Calls.spliced_cons ?_
  refine wpAny_Call_Name_kw (ld_blt I hgz hmz PyProof.Rows.boot_zip (PyProof.Rows.callWith_type1 (thn (ha.run cpos pins s σ H _ I hq) fun us s1 ⟨vs, H1, I1, r1, q1⟩ => ?_) hs2 hpl))
  obtain ⟨a, b, xs, ys, ex, hqx, hqy, hxy, q⟩ := q1
  subst ex
  cases r1 with
  | cons r rr =>
    cases rr with
    | cons r' rr =>
      cases rr
      cases r
      cases r'
      obtain ⟨its, rv, p1, hz1⟩ := I1.list hqx
      obtain ⟨its2, rv2, p2, _⟩ := I1.list hqy
      have la : a < s1.heap.objs.size := p1.lt
      have lb : b < s1.heap.objs.size := p2.lt
      refine call_zip_2 p1.isList p2.isList fun h' hz hTI hTO h1 h2 hsz hk => ?_
      refine Calls.spliced_nil ?_
      have L1 := rv.length
      have L2 := rv2.length
      refine zcall (s := { s1 with heap := h' }) (xs := its.toArray) (ys := its2.toArray) (I1.ok.hd hc) (PySem.W.ktu_apart s1.heap.objs.size a b la lb) (by simp; omega) (by simp; omega) hz hTI ⟨_, _, hTO⟩ h1 h2 (p1.isList.at fun o e => hk _ o e) (p2.isList.at fun o e => hk _ o e) fun h'' tk acc c as hk2 hS hl hG hacc => ?_
      have hlz : (xs.zip ys).length = xs.length := by rw [List.length_zip]; omega
      obtain ⟨H', k1, k2, k3, k4, k5, k6, J⟩ := zip_laid (tk := tk) (kvs := xs.zip ys) I1 (by omega) (fun b o e => hk2 b o (Nat.ne_of_lt (Nat.lt_of_lt_of_le (Heap.lt_size e) (Nat.le_add_right _ _))) (Nat.ne_of_lt (Nat.lt_of_lt_of_le (Heap.lt_size e) (Nat.le_add_right _ _))) (Nat.ne_of_lt (Heap.lt_size e)) (Nat.ne_of_lt (Nat.lt_of_lt_of_le (Heap.lt_size e) (Nat.le_add_right _ _))) (hk b o e)) (by show s1.heap.objs.size ≤ h'.objs.size; omega) hS (by rw [hl, hlz]; simp; omega) hG (fun j q hq x y hx hy => by
        obtain ⟨e1, e2⟩ : xs[j]? = some q.1 ∧ ys[j]? = some q.2 := by
          rw [List.getElem?_zip_eq_some] at hq
          exact hq
        obtain ⟨x', f1, f2⟩ := rv.get e1
        obtain ⟨y', g1, g2⟩ := rv2.get e2
        have hx : its[j]? = some x := by simpa using hx
        have hy : its2[j]? = some y := by simpa using hy
        rw [f1] at hx
        rw [g1] at hy
        cases hx
        cases hy
        exact ⟨f2, g2⟩) hacc
      exact ⟨.ref _, H', J, rfl, q H' _ as k1 k2 k3 k4 k5 k6⟩
end
end NW

/-! Lists of numbers, one less than the other. -/
namespace NW
open PySem PySem.Spec PyProof.Rows L2 Evl
def rLtD (K : PySem.W.Frag) : R2 := fun x y H Q => ∃ d e, Dp K H x d ∧ Dp K H y e ∧ PySem.W.alike d e = true ∧ d ≠ .none ∧ min d.depth e.depth ≤ 64 ∧ Q (.bl (PySem.W.dataLt d e)) H
theorem op_ltD {X : Cx} (hu : X.A.units + 65 < cLine) : OpR X (compareOp .Lt) (rLtD X.K) := by
  intro pins s σ H x y v u Q I rx ry h
  obtain ⟨d, e, hd, he, ha, hn, hm, q⟩ := h
  obtain ⟨as, r1⟩ := Dp.reads I d x v hd rx
  obtain ⟨bs, r2⟩ := Dp.reads I e y u he ry
  exact PySem.W.lt_data r1 r2 ha hn (by omega) ⟨.bl _, H, I, rfl, q⟩
theorem op_ltDK {X : Cx} {K : PySem.W.Frag} (h : X.K = K) (hu : X.A.units + 65 < cLine) : OpR X (compareOp .Lt) (rLtD K) := h ▸ op_ltD hu
/-- whatever their lengths are; told where they are one -/
theorem ltl_ints {K : PySem.W.Frag} {H : Hp} {Q : VK} {x y : V} {a b : List Nat} (hx : Dp K H x (dList dInt a)) (hy : Dp K H y (dList dInt b)) (h : ∀ t, (a.length = b.length → t = ltN a b) → Q (.bl t) H) : rLtD K x y H Q := by
  refine ⟨dList dInt a, dList dInt b, hx, hy, alike_ints a b, (fun e => by cases e), ?_, h _ fun e => lt_ints a b e⟩
  have := (item_list item_int).dep a
  omega
end NW

/-! Pairs as data; lists of pairs of a text and a tuple of texts. -/
namespace NW
open PySem PySem.Spec PyProof.Rows L2 Evl
section
variable {α β : Type} {f : α → PyData} {g : β → PyData} {n m : Nat} {ok : α → Prop} {ok2 : β → Prop}
def dPair (f : α → PyData) (g : β → PyData) (p : α × β) : PyData := .tuple [f p.1, g p.2]
theorem item_pair (I : Item f n ok) (J : Item g m ok2) : Item (dPair f g) (max n m + 1) (fun p => ok p.1 ∧ ok2 p.2) := by
  refine ⟨fun a h => ?_, fun a => ?_, fun a b => ?_⟩
  · simp [dPair, PyData.canLay0, PyData.canLayAll0, I.lay _ h.1, J.lay _ h.2]
  · have h1 := I.dep a.1
    have h2 := J.dep a.2
    simp only [dPair, PyData.depth, PyData.depthAll]
    omega
  · obtain ⟨a1, a2⟩ := a
    obtain ⟨b1, b2⟩ := b
    simp only [dPair, PyData.eqv, PyData.eqvAll, Bool.and_eq_true, I.eqv, J.eqv, Prod.mk.injEq, and_true]
end
theorem dpAll_of {K : PySem.W.Frag} {H : Hp} : ∀ {us : List V} {ds : List PyData}, us.length = ds.length → (∀ (i : Nat) (u : V) (d : PyData), us[i]? = some u → ds[i]? = some d → Dp K H u d) → DpAll K H us ds
  | [], [], _, _ => .nil
  | [], _ :: _, h, _ => by cases h
  | _ :: _, [], h, _ => by cases h
  | u :: us, d :: ds, h, hd => .cons (hd 0 u d rfl rfl) (dpAll_of (by simpa using h) fun i u' d' h1 h2 => hd (i + 1) u' d' h1 h2)
/-- a list of pairs: a text, a tuple of texts -/
def PairsAt (Ok : Addr → Prop) (H : Hp) (l : Addr) (L : List (List Nat × List (List Nat))) : Prop := Ok l ∧ ∃ xs : List Addr, H l = some (.lst (xs.map V.ref)) ∧ xs.length = L.length ∧ ∀ (i : Nat) (a : Addr) (e : List Nat × List (List Nat)), xs[i]? = some a → L[i]? = some e → ∃ b, H a = some (.tup [.str (tx e.1), .ref b]) ∧ H b = some (.tup (vTxs e.2)) ∧ Ok a ∧ Ok b
theorem PairsAt.keep {Ok : Addr → Prop} {H H' : Hp} {l : Addr} {L : List (List Nat × List (List Nat))} (h : PairsAt Ok H l L) (k : ∀ b o, Ok b → H b = some o → H' b = some o) : PairsAt Ok H' l L := by
  obtain ⟨h0, xs, h1, h2, h3⟩ := h
  refine ⟨h0, xs, k _ _ h0 h1, h2, fun i a e ha he => ?_⟩
  obtain ⟨b, b1, b2, b3, b4⟩ := h3 i a e ha he
  exact ⟨b, k _ _ b3 b1, k _ _ b4 b2, b3, b4⟩
theorem PairsAt.imp {Ok Ok' : Addr → Prop} {H : Hp} {l : Addr} {L : List (List Nat × List (List Nat))} (h : PairsAt Ok H l L) (k : ∀ b, Ok b → Ok' b) : PairsAt Ok' H l L := by
  obtain ⟨h0, xs, h1, h2, h3⟩ := h
  refine ⟨k _ h0, xs, h1, h2, fun i a e ha he => ?_⟩
  obtain ⟨b, b1, b2, b3, b4⟩ := h3 i a e ha he
  exact ⟨b, b1, b2, k _ b3, k _ b4⟩
abbrev dPairs : List (List Nat × List (List Nat)) → PyData := dList (dPair dTx (dTup dTx))
theorem item_pairs : Item dPairs 4 (okAll fun p : List Nat × List (List Nat) => okTx p.1 ∧ okAll okTx p.2) := item_list (item_pair item_tx (item_tup item_tx))
theorem PairsAt.dp {K : PySem.W.Frag} {Ok : Addr → Prop} {H : Hp} {l : Addr} {L : List (List Nat × List (List Nat))} (h : PairsAt Ok H l L) : Dp K H (.ref l) (dPairs L) := by
  obtain ⟨_, xs, h1, h2, h3⟩ := h
  refine .lst (SqL.of h1) (dpAll_of (by rw [List.length_map, List.length_map, h2]) fun i u d hu hd => ?_)
  rw [List.getElem?_map] at hu hd
  obtain ⟨a, ha, rfl⟩ := Option.map_eq_some_iff.mp hu
  obtain ⟨e, he, rfl⟩ := Option.map_eq_some_iff.mp hd
  obtain ⟨b, b1, b2, _⟩ := h3 i a e ha he
  exact .tup (SqT.of b1) (.cons (.str _) (.cons (.tup (SqT.of b2) (dpAll_txs e.2)) .nil))
end NW

/-! A walk over what is a list or a tuple. -/
namespace NW
open PySem PySem.Spec PyProof.Rows L2 Evl
def iSeq (K : PySem.W.Frag) (te : TE) : TI := fun σ H R => te σ H fun x H1 => (∃ a, x = .ref a ∧ (∃ xs, SqL K H1 a xs) ∧ R (Itl K a) H1) ∨ ∃ a, x = .ref a ∧ (∃ xs, SqT K H1 a xs) ∧ R (Itt K a) H1
section
variable {X : Cx} {tg l : Expr} {tl : TE}
theorem pi_seq (hl : PE X l tl) : PI X tg l (iSeq X.K tl) := by
  refine ⟨fun pins s σ H R I h => ?_⟩
  refine thn (hl.run pins s σ H _ I h) fun v s1 ⟨x, H1, I1, r1, q1⟩ => ?_
  rcases q1 with ⟨a, e, ⟨xs, hq⟩, q⟩ | ⟨a, e, ⟨xs, hq⟩, q⟩
  · subst e
    cases r1
    obtain ⟨its, rv, p, hz⟩ := I1.list hq
    refine wpAny_pyIter_list p.isList ?_
    refine ⟨s1.heap.objs.size, [s1.heap.objs.size], _, _, H1, rfl, I1.kept (t' := s1.toks) fun b o e => Heap.get?_push_of_some _ e, turn_list a _, ⟨_, Heap.get?_push_size _ rfl, rfl, rfl⟩, fun b hb => ?_, q⟩
    rw [show b = s1.heap.objs.size by simpa using hb]
    exact I1.fpOk (Nat.le_refl _) (I1.hok.fresh (Nat.le_refl _))
  · subst e
    cases r1
    obtain ⟨its, rv, p, hz⟩ := I1.tuple hq
    refine wpAny_pyIter_tuple (show s1.heap.IsTuple a its.toArray from p) ?_
    refine ⟨s1.heap.objs.size, [s1.heap.objs.size], _, _, H1, rfl, I1.kept (t' := s1.toks) fun b o e => Heap.get?_push_of_some _ e, turn_tuple a _, ⟨_, Heap.get?_push_size _ rfl, rfl, rfl⟩, fun b hb => ?_, q⟩
    rw [show b = s1.heap.objs.size by simpa using hb]
    exact I1.fpOk (Nat.le_refl _) (I1.hok.fresh (Nat.le_refl _))
end
theorem pi_seqK {X : Cx} {K : PySem.W.Frag} {tg l : Expr} {tl : TE} (h : X.K = K) (hl : PE X l tl) : PI X tg l (iSeq K tl) := h ▸ pi_seq hl
section
variable {K : PySem.W.Frag} {σ : L2.St} {H : Hp} {tl : TE} {xs : List V}
theorem wk_seqL {a : Addr} (h : Ev tl σ H (.ref a)) (hs : SqL K H a xs) : Wk (iSeq K tl) σ H (Itl K a) (fun H => SqL K H a xs) xs :=
  ⟨walk_list, fun _ e => ex_l e hs, fun H1 e R r => h H1 e _ fun H2 e2 => .inl ⟨a, rfl, ⟨xs, ex_l (e.trans e2) hs⟩, r H2 e2⟩⟩
theorem wk_seqT {a : Addr} (h : Ev tl σ H (.ref a)) (hs : SqT K H a xs) : Wk (iSeq K tl) σ H (Itt K a) (fun H => SqT K H a xs) xs :=
  ⟨walk_tup, fun _ e => ex_t e hs, fun H1 e R r => h H1 e _ fun H2 e2 => .inr ⟨a, rfl, ⟨xs, ex_t (e.trans e2) hs⟩, r H2 e2⟩⟩
end
end NW

/-! for letter in reversed(a text). -/
namespace NW
open PySem PySem.Spec PySem.Calls PyProof.Rows L2 Evl RT
theorem norev_str : typeLookup (.type "str") "__reversed__" = pure none := by rw [typeLookup_type, builtinLookup_eq_fast]; kernel_rfl
theorem get_str : typeLookup (.type "str") "__getitem__" = pure (some (.builtin "str.__getitem__")) := by rw [typeLookup_type, builtinLookup_eq_fast]; kernel_rfl
def rsObj (z : Str) (t : Tok) (i : Int) : Obj := { cls := .type "reversed", data := .fields #[.str z t, rawInt i] }
def IsRs (h : Heap) (a : Addr) (z : Str) (t : Tok) (i : Int) : Prop := ∃ o, h.get? a = some o ∧ o.cls = .type "reversed" ∧ o.data = .fields #[.str z t, rawInt i]
section
variable {prog : Program} {w : World} {A : Around} {E : Value → Shared → Prop} {s : Shared} {z : Str} {t : Tok}
theorem IsRs.typeIs {a : Addr} {i : Int} (x : IsRs s.heap a z t i) : s.TypeIs (.ref a) "reversed" := let ⟨o, ho, hc, _⟩ := x; ⟨o, ho, hc⟩
theorem IsRs.at {h h' : Heap} {a : Addr} {i : Int} (x : IsRs h a z t i) (e : ∀ o, h.get? a = some o → h'.get? a = some o) : IsRs h' a z t i := let ⟨o, ho, r⟩ := x; ⟨o, e _ ho, r⟩
theorem code_reversed_str {Q₁ : Value → Shared → Prop} (hz : ¬ (z.length : Int) ≥ 2 ^ 63)
    (h : Q₁ (.ref s.heap.objs.size) { s with heap := s.heap.push (rsObj z t ((z.length : Int) - 1)), toks := s.toks + 1 + 1 }) :
    codeAny (model prog w) A (.call (.builtin "reversed.__new__") ⟨[.type "reversed", .str z t], []⟩) (wants Q₁ E) s := by
  have hT : s.TypeIs (.str z t) "str" := typeIs_str s z t
  refine codeAny_of_tree ?_
  show wpAny _ A.in1 (do checkBuiltinCall "reversed.__new__" ⟨[.type "reversed", .str z t], []⟩; again (.builtin "reversed.__new__" ⟨[.type "reversed", .str z t], []⟩)) _ _ s
  refine wpAny_bind (wpAny_of_eq (F.newCall_reversed_1 _) (wpAny_pure ⟨plainId_quiet F.plain_reversed_new _, codeAny_builtin F.entry_reversed_new ?_⟩))
  rw [Around.under_plainId F.plain_reversed_new _]
  unfold Builtin.«reversed.__new__»
  refine wpAny_bind (wpAny_of_eq (newClass_reversed _) ?_)
  try dsimp only
  refine wpAny_bind (wpAny_of_eq (a := ()) (by first | rfl | kernel_rfl) ?_)
  try dsimp only
  refine wpAny_bind (wpAny_of_eq (a := ()) (by first | rfl | kernel_rfl) ?_)
  try dsimp only
  refine wpAny_bind (wpAny_specialOf hT norev_str ?_)
  try dsimp only
  refine wpAny_bind ?_
  wp_delta
  refine wpAny_bind (wpAny_isInstance (T := "str") (U := "dict") (b := false) hT PySem.F.sub_str_dict ?_)
  try dsimp only
  try rw [if_neg Bool.false_ne_true]
  try dsimp only
  refine wpAny_bind (wpAny_specialOf hT get_str ?_)
  try dsimp only
  try rw [if_pos (by decide +kernel)]
  refine wpAny_pure ?_
  try dsimp only
  try rw [if_neg (by decide)]
  try dsimp only
  refine wpAny_bind (PyProof.Rows.len_str hz ?_)
  refine wpAny_bind (wpAny_of_eq (a := some ((z.length : Nat) : Int)) rfl ?_)
  try dsimp only
  refine wpAny_bind ?_
  show wpAny _ _ (newObj (.type "reversed") (.fields #[.str z t, rawInt ((z.length : Int) - 1)])) _ _ _
  refine wpAny_newObj_type ?_
  exact wpAny_pure h
theorem call_reversed_str {Q : Value → Shared → Prop} (hz : ¬ (z.length : Int) ≥ 2 ^ 63)
    (h : Q (.ref s.heap.objs.size) { s with heap := s.heap.push (rsObj z t ((z.length : Int) - 1)), toks := s.toks + 1 + 1 }) : wpAny (model prog w) A (call (.type "reversed") [.str z t]) Q E s := by
  refine callType_codes (Q₁ := fun obj s₁ => s₁.TypeIs obj "reversed" ∧ Q obj s₁) called_rt (F.typeCall_reversed_1 _) F.entry_object_init
    (code_reversed_str (A := A.in1) hz ⟨⟨_, Heap.get?_push_size _ rfl, rfl⟩, h⟩) fun obj s₁ h₁ => ?_
  exact ⟨h₁.1, F.args_object_init_2 obj _, object_init_meets called_rt.init.lookup called_rt.made (by decide) prog w A.in1 _ s₁ ⟨h₁.1, rfl, h₁.2⟩⟩
theorem next_rs_item {it : Addr} {i c : Nat} {Q : Option Value → Shared → Prop} (hit : IsRs s.heap it z t (i : Int)) (hx : z.cps[i]? = some c) (hsz : z.length ≤ sizeLine)
    (hQ : ∀ h' u, IsRs h' it z t ((i : Int) - 1) → Heap.SameBut it s.heap h' → Q (some (.str ⟨#[c]⟩ u)) { s with heap := h', toks := s.toks + 1 + 1 }) : wpAny (model prog w) A (pyNext (.ref it)) Q E s := by
  obtain ⟨o, ho, hc, hd⟩ := id hit
  have hi : i < z.length := (Array.getElem?_eq_some_iff.mp hx).1
  have hT : s.TypeIs (.str z t) "str" := typeIs_str s z t
  rw [sizeLine_eq] at hsz
  unfold pyNext
  refine wpAny_bind (wpAny_attempt (wpAny_callSpecial?_slot (name := Str.ofString "__next__") hit.typeIs slot_rt_next
    (wpAny_call_entry slot_rt_next hit.typeIs entry_rt_next ?_ (args_rt_next _))))
  unfold Builtin.«reversed.__next__»
  refine wpAny_bind (wpAny_of_eq (a := (Value.ref it, [])) rfl ?_)
  try dsimp only
  refine wpAny_bind (wpAny_field ho hd (x := .str z t) rfl ?_)
  try dsimp only
  refine wpAny_bind (wpAny_field ho hd (x := rawInt (i : Int)) rfl ?_)
  show wpAny _ _ (if (i : Int) < 0 then _ else _) _ _ s
  rw [if_neg (by omega)]
  try dsimp only
  refine wpAny_bind (wpAny_specialOf hT get_str ?_)
  try dsimp only
  try rw [if_neg (by decide)]
  try dsimp only
  refine wpAny_bind (wpAny_mkInt ?_)
  refine wpAny_bind (wpAny_attempt ?_)
  have fin : (seqIndex? (i : Int) z.length).bind (z.cps[·]?) = some c := by
    rw [seqIndex_of (by omega) (by omega)]
    exact hx
  refine PyProof.Rows.getItem_str (s := { s with toks := s.toks + 1 }) (by simp; omega) fin ?_
  try dsimp only
  refine wpAny_bind (wpAny_field (s := { s with toks := s.toks + 1 + 1 }) ho hd (x := rawInt (i : Int)) rfl ?_)
  try dsimp only
  refine wpAny_bind (wpAny_setField (s := { s with toks := s.toks + 1 + 1 }) ho hd (by simp) ?_)
  first
  | refine wpAny_pure ⟨_, rfl, wpAny_pure (hQ _ _ ?_ (Heap.SameBut.update ..))⟩
  | refine wpAny_bind (wpAny_pure (wpAny_pure ⟨_, rfl, wpAny_pure (hQ _ _ ?_ (Heap.SameBut.update ..))⟩))
  exact ⟨_, Heap.get?_update_self _ ho (Obj.isFreed_of_fields (Obj.data_mapFields hd _)), (Obj.cls_mapFields ..).trans hc, by
    rw [Obj.data_mapFields hd]; simp⟩
theorem next_rs_end {it : Addr} {Q : Option Value → Shared → Prop} (hh : A.handled = none) (hit : IsRs s.heap it z t (-1))
    (hQ : ∀ h', Heap.ExtBut it s.heap h' → Q none { s with heap := h' }) : wpAny (model prog w) A (pyNext (.ref it)) Q E s := by
  obtain ⟨o, ho, hc, hd⟩ := id hit
  unfold pyNext
  refine wpAny_bind (wpAny_attempt (wpAny_callSpecial?_slot (name := Str.ofString "__next__") hit.typeIs slot_rt_next
    (wpAny_call_entry slot_rt_next hit.typeIs entry_rt_next ?_ (args_rt_next _))))
  unfold Builtin.«reversed.__next__»
  refine wpAny_bind (wpAny_of_eq (a := (Value.ref it, [])) rfl ?_)
  try dsimp only
  refine wpAny_bind (wpAny_field ho hd (x := .str z t) rfl ?_)
  try dsimp only
  refine wpAny_bind (wpAny_field ho hd (x := rawInt (-1)) rfl ?_)
  show wpAny _ _ (if (-1 : Int) < 0 then _ else _) _ _ s
  rw [if_pos (by decide)]
  try dsimp only
  refine wpAny_bind (wpAny_rule ?_)
  refine wpAny_bind ?_
  wp_delta
  refine wpAny_bind (wpAny_setField ho hd (by simp) ?_)
  have ho2 := Heap.get?_update_self (Obj.mapFields (·.setIfInBounds 1 (rawInt (-1)))) ho (Obj.isFreed_of_fields (Obj.data_mapFields hd _))
  refine wpAny_setField (s := { s with heap := s.heap.update it (Obj.mapFields (·.setIfInBounds 1 (rawInt (-1)))) }) ho2 (Obj.data_mapFields hd _) (by simp) ?_
  try dsimp only
  first
  | show wpAny _ _ (newExc (.type "StopIteration") [] >>= _) _ _ _
  | (refine wpAny_bind ?_; show wpAny _ _ (newExc (.type "StopIteration") [] >>= _) _ _ _)
  | (refine wpAny_bind ?_; wp_delta; show wpAny _ _ (newExc (.type "StopIteration") [] >>= _) _ _ _)
  refine wpAny_bind ?_
  simp only [newExc, newTuple]
  refine wpAny_bind (wpAny_newObj_type ?_ (by size_fits))
  refine wpAny_bind (m := firstArgMember _ _) (wpAny_of_eq (a := Value.none) (by first | rfl | (simp only [firstArgMember]; rfl)) ?_)
  refine wpAny_newObj_type ?_ (by size_fits)
  simp only [raiseNew]
  refine wpAny_bind (wpAny_handled ?_)
  first | rw [show A.in1.handled = none from hh] | rw [hh]
  refine wpAny_bind (wpAny_pure (wpAny_throw ?_))
  refine wpAny_bind (wpAny_isInstance (T := "StopIteration") (b := true) ⟨_, Heap.get?_push_size _ rfl, rfl⟩ isSubtype_stop ?_)
  refine wpAny_pure (hQ _ ?_)
  refine ((?_ : Heap.ExtBut it s.heap _).push _).push _
  exact fun b ob hb e => (Heap.get?_update_other _ _ (Ne.symm hb)).trans ((Heap.get?_update_other _ _ (Ne.symm hb)).trans e)
theorem iter_rs {it : Addr} {i : Int} {Q : Value → Shared → Prop} (hit : IsRs s.heap it z t i) (h : Q (.ref it) s) : wpAny (model prog w) A (pyIter (.ref it)) Q E s := by
  refine wpAny_pyIter_slot hit.typeIs slot_rt_iter (wpAny_call_entry slot_rt_iter hit.typeIs entry_rt_iter ?_ (args_rt_iter _))
  show wpAny _ _ (ret (.ref it)) _ _ s
  exact wpAny_pure ⟨_, rfl, "reversed", _, hit.typeIs, slot_rt_next.lookup, h⟩
end
/-- the signs of a text, from its end -/
def ItvS (z : Str) : It :=
  ⟨fun i _ => i < z.length, fun i H x H' => H' = H ∧ ∃ c, z.cps[z.length - 1 - i]? = some c ∧ x = .str ⟨#[c]⟩, fun i _ => z.length ≤ i⟩
theorem turn_rs {P : Program} {w : World} {K : PySem.W.Frag} {tg : Expr} (z : Str) (t : Tok) (hz : z.length ≤ sizeLine) (it : Addr) : Turn P w K tg (ItvS z) [it] it (fun i h => i ≤ z.length ∧ IsRs h it z t ((z.length : Int) - 1 - (i : Nat))) where
  mem := by simp
  obj := fun i h st b hb => by
    have e : b = it := by simpa using hb
    subst e
    obtain ⟨_, o, e, c, d⟩ := st
    exact ⟨o, e, fun v z => by rw [d] at z; cases z⟩
  keep := fun i h h' st k => ⟨st.1, st.2.at fun o e => k it (by simp) o e⟩
  item := by
    intro X hP hw hK hc i pins s σ H E I hf st hg
    subst hP hw hK
    have hin : i < z.length := hg
    have hj : z.length - 1 - i < z.cps.size := by show _ < z.length; omega
    have hx : z.cps[z.length - 1 - i]? = some z.cps[z.length - 1 - i] := Array.getElem?_eq_getElem hj
    obtain ⟨f0, f1, f2, f3, f4, f5⟩ := hf it (by simp)
    obtain ⟨_, hit⟩ := st
    have e1 : (z.length : Int) - 1 - ((i : Nat) : Int) = ((z.length - 1 - i : Nat) : Int) := by omega
    rw [e1] at hit
    refine next_rs_item hit hx hz fun h' u st' sb => ?_
    have e2 : ((z.length - 1 - i : Nat) : Int) - 1 = (z.length : Int) - 1 - ((i + 1 : Nat) : Int) := by omega
    rw [e2] at st'
    have I1 : Inv X pins σ H { s with heap := h', toks := s.toks + 1 + 1 } := I.turned (t' := s.toks + 1 + 1) (fun b o hb e => (sb.2 b hb).trans e) f0 f1 f3 f4 f5
    obtain ⟨o, e, c, d⟩ := id st'
    exact ⟨_, rfl, go_of (s := { s with heap := h', toks := s.toks + 1 + 1 }) e c d (by decide) ⟨.str ⟨#[z.cps[z.length - 1 - i]]⟩, H, I1, ⟨_, rfl⟩, ⟨rfl, _, hx, rfl⟩, ⟨hin, st'⟩, fun b hb => (hf b hb).1⟩⟩
  done := by
    intro X hP hw hK hc i pins s σ H E I hf st hg
    subst hP hw hK
    obtain ⟨f0, f1, f2, f3, f4, f5⟩ := hf it (by simp)
    obtain ⟨hin, hit⟩ := st
    have hge : z.length ≤ i := hg
    have e1 : (z.length : Int) - 1 - ((i : Nat) : Int) = -1 := by omega
    rw [e1] at hit
    exact next_rs_end (I.ok.hd hc) hit fun h' eb => ⟨rfl, I.turned (t' := s.toks) (fun b o hb e => eb b o hb e) f0 f1 f3 f4 f5⟩
  self := fun A i s Q E st h => iter_rs st.2 h
def iRevS (te : TE) : TI := fun σ H R => te σ H fun v H1 => ∃ z : Str, v = .str z ∧ z.length ≤ sizeLine ∧ R (ItvS z) H1
section
variable {X : Cx} {tg : Expr}
theorem pi_revS {e : Expr} {te : TE} {p pos : Pos} (hg : Gl X "reversed") (hm : X.mg "reversed" = none) (he : PE X e te) (hs : starEach [e] X.env = (false, eval e X.env) :: starEach [] X.env := by rfl) : PI X tg (.Call (.Name "reversed" p) [e] [] pos) (iRevS te) := by
  refine ⟨fun pins s σ H R I h => ?_⟩
  refine Call_ (ld_blt I hg hm PyProof.Rows.boot_reversed (PyProof.Rows.callWith_type1 (args_cons (thn (he.run pins s σ H _ I h) fun u s1 ⟨v, H1, I1, r1, q1⟩ => args_nil ?_) hs) hs rfl))
  obtain ⟨z, ev, hz, q⟩ := q1
  subst ev
  obtain ⟨t, rfl⟩ := r1
  have hz' := hz
  rw [sizeLine_eq] at hz'
  refine call_reversed_str (by omega) (iter_rs (z := z) (t := t) (i := (z.length : Int) - 1) ⟨_, Heap.get?_push_size _ rfl, rfl, rfl⟩ ?_)
  refine pi_one (tk := s1.toks + 1 + 1) I1 _ (turn_rs z t hz _) ⟨Nat.zero_le _, ?_⟩ q
  have e1 : (z.length : Int) - 1 - ((0 : Nat) : Int) = (z.length : Int) - 1 := by simp
  rw [e1]
  exact ⟨_, Heap.get?_push_size _ rfl, rfl, rfl⟩
end
section
variable {σ : L2.St} {H : Hp} {tl : TE}
theorem walk_rs (l : List Nat) : Walk (ItvS (tx l)) (vSgs l.reverse).length (fun _ => True) (YAt (vSgs l.reverse)) := by
  have el : (tx l).length = l.length := by simp [tx, Str.length]
  have e : (vSgs l.reverse).length = l.length := by rw [vSgs_len, List.length_reverse]
  rw [e]
  refine ⟨fun i H h _ => ?_, fun H _ => ?_, fun i H x H' h _ hy => ?_⟩
  · show i < (tx l).length
    rw [el]; exact h
  · show (tx l).length ≤ l.length
    rw [el]; exact Nat.le_refl _
  · obtain ⟨h1, c, hc, rfl⟩ := hy
    refine ⟨h1, ?_⟩
    rw [el] at hc
    have hc : l[l.length - 1 - i]? = some c := by simpa [tx] using hc
    unfold vSgs
    rw [List.getElem?_map, List.getElem?_reverse h, hc]
    rfl
theorem wk_revS {l : List Nat} (h : Ev tl σ H (.str (tx l))) (hz : l.length ≤ 100000) : Wk (iRevS tl) σ H (ItvS (tx l)) (fun _ => True) (vSgs l.reverse) :=
  ⟨walk_rs l, fun _ _ => trivial, fun H1 e R r => h H1 e _ fun H2 e2 => ⟨tx l, rfl, by rw [show (tx l).length = l.length by simp [tx, Str.length], sizeLine_eq]; omega, r H2 e2⟩⟩
end
end NW

/-! C49: a list unpacked into names (pg_unlK). -/
namespace NW
open PySem PySem.Spec PyProof.Rows L2
theorem pg_unlK {X : Cx} {K : PySem.W.Frag} {es : List Expr} {k : Nat} {pos : Pos} {t : TGs} {n : Nat} (h : X.K = K) (hc : X.calm = true) (hg : PGs X es t)
    (hn : (assignEach es X.env).length = n := by rfl) (hst : (assignEach es X.env).findIdx? (·.1) = none := by rfl) : PG X (.Tuple es k pos) (gUnl K n t) := h ▸ pg_unl hc hg hn hst
end NW

/-! C50: ranges of any length (rd_rngF, rd_rng1B, rd_revB), lists and texts up to sizeLine (put_lB, rAdd_sB), list.index(True) (index_bl), whole numbers in tuples (in_tints). -/
namespace NW
open PySem PySem.Spec PyProof.Rows L2 Evl
section
variable {K : PySem.W.Frag} {σ : L2.St} {H : Hp} {Q : VK} {D : Ends} {te : TE} {ta : TA} {tb : TS}
theorem rd_rngF {j a b : Nat} (hab : a ≤ b) (hb : b < 2 ^ 40) (h : EvA ta σ H [.int (a : Nat), .int (b : Nat)]) (Pv : Nat → L2.St → Hp → Prop) (h0 : ∀ H1, Same H H1 → Pv a σ H1)
    (hs : ∀ (i : Nat) σ' H', a ≤ i → i < b → Pv i σ' H' → tb { D with nx := Pv (i + 1), ct := Pv (i + 1), bk := D.nx } (σ'.set j (some (.int (i : Nat)))) H') (hd : ∀ σ' H', Pv b σ' H' → D.nx σ' H') : tFor (iRng2 ta) (gName j) tb D σ H := by
  refine h H (Ex.refl H) _ fun H1 e1 => ⟨(a : Nat), (b : Nat), rfl, ⟨by omega, by omega, by omega, by omega⟩, ?_⟩
  have e : (((b : Nat) : Int) - ((a : Nat) : Int)).toNat = b - a := by omega
  rw [e]
  refine for_it (G := fun _ => True) walk_range (fun i σ' H' => Pv (a + i) σ' H') (h0 H1 e1) (fun _ _ _ _ _ => trivial) (fun i x σ' H' H'' hi pv hy => ?_) (fun σ' H' pv => hd σ' H' (by
    have e3 : a + (b - a) = b := by omega
    rw [e3] at pv
    exact pv))
  obtain ⟨rfl, rfl⟩ := hy
  have e2 : ((a : Nat) : Int) + (i : Nat) = ((a + i : Nat) : Int) := by omega
  show tb _ (σ'.set j (some (.int (((a : Nat) : Int) + (i : Nat))))) _
  rw [e2]
  exact hs (a + i) σ' _ (by omega) (by omega) pv
theorem rd_rng1B {j n : Nat} (hn : n < 2 ^ 40) (h : EvA ta σ H [.int (n : Nat)]) (Pv : Nat → L2.St → Hp → Prop) (h0 : ∀ H1, Same H H1 → Pv 0 σ H1)
    (hs : ∀ (i : Nat) σ' H', i < n → Pv i σ' H' → tb { D with nx := Pv (i + 1), ct := Pv (i + 1), bk := D.nx } (σ'.set j (some (.int (i : Nat)))) H') (hd : ∀ σ' H', Pv n σ' H' → D.nx σ' H') : tFor (iRng1 ta) (gName j) tb D σ H := by
  refine h H (Ex.refl H) _ fun H1 e1 => ⟨(n : Nat), rfl, by omega, by omega, ?_⟩
  have e : ((n : Nat) : Int).toNat = n := by omega
  rw [e]
  refine for_it (G := fun _ => True) walk_range Pv (h0 H1 e1) (fun _ _ _ _ _ => trivial) (fun i x σ' H' H'' hi pv hy => ?_) hd
  obtain ⟨rfl, rfl⟩ := hy
  have e2 : (0 : Int) + (i : Nat) = ((i : Nat) : Int) := by omega
  show tb _ (σ'.set j (some (.int ((0 : Int) + (i : Nat))))) _
  rw [e2]
  exact hs i σ' _ hi pv
theorem rd_revB {j n : Nat} (hn : n < 2 ^ 40) (h : Ev te σ H (.int (n : Nat))) (Pv : Nat → L2.St → Hp → Prop) (h0 : ∀ H1, Same H H1 → Pv 0 σ H1)
    (hs : ∀ (i : Nat) σ' H', i < n → Pv i σ' H' → tb { D with nx := Pv (i + 1), ct := Pv (i + 1), bk := D.nx } (σ'.set j (some (.int ((n - 1 - i : Nat) : Int)))) H') (hd : ∀ σ' H', Pv n σ' H' → D.nx σ' H') : tFor (iRevR (tRg1 te)) (gName j) tb D σ H := by
  refine h H (Ex.refl H) _ fun H1 e1 => ⟨(n : Nat), rfl, by omega, by omega, by omega, by omega, ?_⟩
  have e : (((n : Nat) : Int) - 0).toNat = n := by omega
  rw [e]
  refine for_it (G := fun _ => True) walk_rangeC Pv (h0 H1 e1) (fun _ _ _ _ _ => trivial) (fun i x σ' H' H'' hi pv hy => ?_) hd
  obtain ⟨rfl, rfl⟩ := hy
  have e2 : (0 : Int) + ((n : Nat) : Int) - 1 + (i : Nat) * (-1) = ((n - 1 - i : Nat) : Int) := by omega
  show tb _ (σ'.set j (some (.int ((0 : Int) + ((n : Nat) : Int) - 1 + (i : Nat) * (-1))))) _
  rw [e2]
  exact hs i σ' _ hi pv
theorem put_lB {l : Addr} {xs : List V} {y : V} (hl : H l = some (.lst xs)) (hz : xs.length < 16777216) (h : Q .non (upd H l (.lst (xs ++ [y])))) : rAppend (.ref l) [y] H Q :=
  ⟨l, xs, y, rfl, rfl, hl, hz, h⟩
theorem rAdd_sB {l m : List Nat} (z : l.length + m.length ≤ 16777216) (h : Q (.str (tx (l ++ m))) H) : rAddA (.str (tx l)) (.str (tx m)) H Q :=
  .inr (.inl ⟨tx l, tx m, rfl, rfl, by rw [tx_length, tx_length]; exact z, by rw [tx_append]; exact h⟩)
theorem in_tints {a : Addr} {cs : List Nat} {m : Nat} {neg : Bool} (hs : SqT K H a (vInts cs)) (h : Q (.bl (if neg then !decide (m ∈ cs) else decide (m ∈ cs))) H) : rIn K neg (.int (m : Nat)) (.ref a) H Q :=
  ⟨a, vInts cs, rfl, .inr hs, rfl, flat_ints cs, by rw [inV_ints]; exact h⟩
theorem flat_bls : ∀ bs : List Bool, (bs.map V.bl).all flatV = true
  | [] => rfl
  | b :: r => by
    show (flatV (V.bl b) && (r.map V.bl).all flatV) = true
    rw [flat_bls r]
    rfl
theorem index_bl {a : Addr} {bs : List Bool} {j : Nat} (hs : SqL K H a (bs.map V.bl)) (hj : bs[j]? = some true) (hf : ∀ i, i < j → bs[i]? = some false) (h : Q (.int (j : Nat)) H) : rIndex K (.ref a) [.bl true] H Q := by
  refine ⟨a, bs.map V.bl, .bl true, j, .bl true, rfl, rfl, hs, rfl, flat_bls bs, by rw [List.getElem?_map, hj]; rfl, rfl, fun i z hi hz => ?_, h⟩
  rw [List.getElem?_map, hf i hi] at hz
  cases hz
  rfl
end
end NW

/-! C51: list.index of lists (mt_indexDK, index_lists), tuples added and cut (op_catAK, sl_tupAK), x in a list of lists (in_lists), sorted of different whole numbers (sort_nds). -/
namespace NW
open PySem PySem.Spec PyProof.Rows L2 Evl
theorem mt_indexDK {X : Cx} {K : PySem.W.Frag} (h : X.K = K) (hu : X.A.units + 65 < cLine) : MtR X "list.index" (rIndexD K) := h ▸ mt_indexD hu
theorem op_catAK {X : Cx} {K : PySem.W.Frag} (h : X.K = K) : OpR X (binaryOp .Add) (rCatA K) := h ▸ op_catA
theorem sl_tupAK {X : Cx} {K : PySem.W.Frag} (h : X.K = K) : SlR X (rSlA K) := h ▸ sl_tupA
theorem op_inDK {X : Cx} {K : PySem.W.Frag} (h : X.K = K) (hu : X.A.units + 65 < cLine) : OpR X (compareOp .In) (rInD K) := h ▸ op_inD hu
theorem op_notInDK {X : Cx} {K : PySem.W.Frag} (h : X.K = K) (hu : X.A.units + 65 < cLine) : OpR X (compareOp .NotIn) (rNotInD K) := h ▸ op_notInD hu
section
variable {K : PySem.W.Frag} {H : Hp} {Q : VK} {α : Type} [DecidableEq α] {f : α → PyData} {n : Nat} {ok : α → Prop}
/-- any of the items is the one -/
theorem any_eqv (I : Item f n ok) (l : List α) (a : α) : ((l.map f).any fun z => z.eqv (f a)) = decide (a ∈ l) := by
  rw [List.any_map, Bool.eq_iff_iff, List.any_eq_true, decide_eq_true_eq]
  constructor
  · rintro ⟨x, hx, e⟩
    rw [← (I.eqv x a).mp e]
    exact hx
  · intro h
    exact ⟨a, h, (I.eqv a a).mpr rfl⟩
theorem inD_of (I : Item f n ok) (hn : n + 1 ≤ 64) {x y : V} {a : α} {l : List α} (oa : ok a) (ol : okAll ok l) (hx : Dp K H x (f a)) (hy : Dp K H y (dList f l)) (h : Q (.bl (decide (a ∈ l))) H) : rInD K x y H Q :=
  ⟨f a, l.map f, hx, hy, I.shaped (by omega) a oa, (item_list I).shaped hn l ol, by rw [any_eqv I]; exact h⟩
theorem notInD_of (I : Item f n ok) (hn : n + 1 ≤ 64) {x y : V} {a : α} {l : List α} (oa : ok a) (ol : okAll ok l) (hx : Dp K H x (f a)) (hy : Dp K H y (dList f l)) (h : Q (.bl (!decide (a ∈ l))) H) : rNotInD K x y H Q :=
  ⟨f a, l.map f, hx, hy, I.shaped (by omega) a oa, (item_list I).shaped hn l ol, by rw [any_eqv I]; exact h⟩
theorem indexD_of (I : Item f n ok) (hn : n + 1 ≤ 64) {b : Addr} {y : V} {a : α} {l : List α} {j : Nat} (oa : ok a) (ol : okAll ok l) (hb : Dp K H (.ref b) (dList f l)) (hy : Dp K H y (f a)) (hj : l[j]? = some a) (hne : ∀ i, i < j → l[i]? ≠ some a) (h : Q (.int (j : Nat)) H) : rIndexD K (.ref b) [y] H Q := by
  refine ⟨b, y, f a, l.map f, j, f a, rfl, rfl, hb, hy, (item_list I).shaped hn l ol, I.shaped (by omega) a oa, by rw [List.getElem?_map, hj]; rfl, (I.eqv a a).mpr rfl, fun m z hm hz => ?_, h⟩
  rw [List.getElem?_map] at hz
  obtain ⟨c, hc, rfl⟩ := Option.map_eq_some_iff.mp hz
  cases e : PyData.eqv (f c) (f a) with
  | false => rfl
  | true =>
    have := (I.eqv c a).mp e
    rw [this] at hc
    exact absurd hc (hne m hm)
/-- sorted of different whole numbers -/
theorem sort_nds {a : Addr} {ns l : List Nat} {N : Nat} (hs : SqL K H a (vInts ns)) (hn : ns.Nodup) (hm : ∀ k, k ∈ ns ↔ k ∈ l) (hl : ∀ k ∈ l, k < N) (h : ∀ p, H p = none → Q (.ref p) (upd H p (.lst (vInts (upN N l))))) : rSortD K [.ref a] H Q := by
  have e : ns.mergeSort (PySem.W.dataLe false dInt) = upN N l := by
    have e1 : PySem.W.dataLe false dInt = fun a b : Nat => decide (((a : Nat) : Int) ≤ ((b : Nat) : Int)) := PySem.W.dataLe_int (β := Nat) fun k => ((k : Nat) : Int)
    rw [e1]
    have p2 : (upN N l).Pairwise (fun a b => a < b) := upN_up N l
    have hp : (ns.mergeSort fun a b : Nat => decide (((a : Nat) : Int) ≤ ((b : Nat) : Int))).Perm (upN N l) := by
      refine (List.mergeSort_perm _ _).trans ((List.perm_ext_iff_of_nodup hn (p2.imp fun h => Nat.ne_of_lt h)).mpr fun k => ?_)
      rw [hm k]
      exact (upN_mem hl).symm
    refine hp.eq_of_pairwise (le := fun a b => a ≤ b) (fun a b _ _ h1 h2 => Nat.le_antisymm h1 h2) ?_ (p2.imp fun h => Nat.le_of_lt h)
    refine (List.pairwise_mergeSort (le := fun a b : Nat => decide (((a : Nat) : Int) ≤ ((b : Nat) : Int))) (fun a b c h1 h2 => ?_) (fun a b => ?_) ns).imp fun {a b} h => ?_
    · have h1 := of_decide_eq_true h1
      have h2 := of_decide_eq_true h2
      exact decide_eq_true (by omega)
    · rcases Nat.le_total a b with h | h
      · rw [decide_eq_true (by omega)]; rfl
      · rw [decide_eq_true (show ((b : Nat) : Int) ≤ ((a : Nat) : Int) by omega)]
        exact Bool.or_true _
    · have := of_decide_eq_true h
      omega
  refine ⟨a, Nat, ns, fun c => .int (c : Nat), dInt, rfl, hs, fun b _ => .int _, PySem.W.AllAlike.of fun _ _ => rfl, PySem.W.Sortable.others fun _ => ⟨fun e => (by cases e), fun _ e => (by cases e)⟩, fun b _ => by have := item_int.dep b; omega, fun p hp => ?_⟩
  rw [e]
  exact h p hp
end
end NW

/-! C52: a tuple backwards (pe_revTuK, rd_revTu). -/
namespace NW
open PySem PySem.Spec PyProof.Rows L2 Evl
section
variable {prog : Program} {w : World} {A : Around} {E : Value → Shared → Prop} {s : Shared}
theorem adjust_rev (n : Nat) : Builtin.Slice.sliceAdjust none none (-1) (n : Int) = ((n : Int) - 1, -1) := by
  unfold Builtin.Slice.sliceAdjust
  simp
theorem places_rev (n : Nat) : Builtin.Slice.slicePlaces ((n : Int) - 1) (-1) (-1) = n := by
  unfold Builtin.Slice.slicePlaces
  have h1 : ¬ ((-1 : Int) > 0) := by omega
  simp only [h1, if_false]
  have h2 : -(-1 : Int) = 1 := rfl
  rw [h2, Int.ediv_one]
  split <;> omega
theorem sliceApplied_rev {sl : Addr} {vs : Value} {n : Nat} {Q : Int × Int × Nat → Shared → Prop} (hs : s.heap.IsSliceOf sl .none .none vs) (ps : IsPart vs (some (-1)))
    (h : Q ((n : Int) - 1, -1, n) s) : wpAny (model prog w) A (Builtin.Slice.sliceApplied (.ref sl) (pure (n : Int))) Q E s := by
  obtain ⟨os, hos, hcs, hds⟩ := id hs
  unfold Builtin.Slice.sliceApplied Builtin.Slice.sliceFields
  refine wpAny_bind (wpAny_bind (wpAny_field hos hds (x := .none) rfl (wpAny_bind (wpAny_field hos hds (x := .none) rfl (wpAny_bind (wpAny_field hos hds (x := vs) rfl (wpAny_pure ?_)))))))
  refine wpAny_bind (HT.slicePart_ ps ?_)
  show wpAny _ _ (if ((-1 : Int) == 0) = true then _ else _) _ _ s
  rw [if_neg (by decide)]
  refine wpAny_bind (HT.slicePart_ .none (wpAny_bind (HT.slicePart_ .none (wpAny_bind (wpAny_pure ?_)))))
  show wpAny _ _ (match Builtin.Slice.sliceAdjust none none (-1) (n : Int) with | (lo, hi) => pure (lo, (-1 : Int), Builtin.Slice.slicePlaces lo hi (-1))) _ _ s
  rw [adjust_rev n]
  show wpAny _ _ (pure ((n : Int) - 1, (-1 : Int), Builtin.Slice.slicePlaces ((n : Int) - 1) (-1) (-1))) _ _ s
  rw [places_rev]
  exact wpAny_pure h
theorem pick_rev' (xs : Array Value) : ((List.range xs.size).filterMap fun (m : Nat) => xs[((xs.size : Int) - 1 + (m : Int) * (-1)).toNat]?).toArray = xs.toList.reverse.toArray := by
  congr 1
  have e : ∀ m ∈ List.range xs.size, xs[((xs.size : Int) - 1 + (m : Int) * (-1)).toNat]? = xs.toList.reverse[m]? := fun m hm => by
    have hm := List.mem_range.mp hm
    rw [List.getElem?_reverse (by rw [Array.length_toList]; exact hm), Array.length_toList, Array.getElem?_toList]
    congr 1
    omega
  have e2 : (List.range xs.size).filterMap (fun (m : Nat) => xs[((xs.size : Int) - 1 + (m : Int) * (-1)).toNat]?) = (List.range xs.size).filterMap fun m => xs.toList.reverse[m]? := by
    have key : ∀ L : List Nat, (∀ m ∈ L, m ∈ List.range xs.size) → L.filterMap (fun (m : Nat) => xs[((xs.size : Int) - 1 + (m : Int) * (-1)).toNat]?) = L.filterMap fun m => xs.toList.reverse[m]? := by
      intro L
      induction L with
      | nil => intro _; rfl
      | cons a r ih =>
        intro h
        rw [List.filterMap_cons, List.filterMap_cons, e a (h a List.mem_cons_self), ih fun m hm => h m (List.mem_cons_of_mem _ hm)]
    exact key _ fun _ h => h
  rw [e2]
  have hl : xs.size = xs.toList.reverse.length := by rw [List.length_reverse, Array.length_toList]
  rw [hl]
  generalize xs.toList.reverse = L
  have key : ∀ L : List Value, (List.range L.length).filterMap (fun m => L[m]?) = L := by
    intro L
    induction L with
    | nil => rfl
    | cons a r ih =>
      rw [List.length_cons, List.range_succ_eq_map, List.filterMap_cons]
      show a :: _ = _
      rw [List.filterMap_map]
      congr 1
  exact key L
theorem getItem_tuple_rev {t sl : Addr} {items : Array Value} {vs : Value} {Q : Value → Shared → Prop} (ht : IsTup s.heap t items) (hs : s.heap.IsSliceOf sl .none .none vs) (ps : IsPart vs (some (-1)))
    (h : Q (.ref s.heap.objs.size) { s with heap := s.heap.push { cls := .type "tuple", data := .seq items.toList.reverse.toArray } })
    (hsz : items.size ≤ sizeLine) : wpAny (model prog w) A (getItem (.ref t) (.ref sl)) Q E s := by
  have htake : sizeOk (.seq items.toList.reverse.toArray) := by
    show items.toList.reverse.toArray.size ≤ sizeLine
    rw [List.size_toArray, List.length_reverse, Array.length_toList]
    omega
  obtain ⟨os, hos, hcs, hds⟩ := id hs
  have hTs : s.TypeIs (.ref sl) "slice" := ⟨os, hos, hcs⟩
  unfold getItem
  try with_reducible refine wpAny_holding ?_
  first | refine wpAny_bind (wpAny_pure ?_) | skip
  refine wpAny_bind (wpAny_sequenceKey ht.typeIs (by decide) ?_)
  refine wpAny_bind (wpAny_callSpecial?_slot (name := Str.ofString "__getitem__") ht.typeIs PyProof.Rows.slot_tuple_getitem
    (wpAny_call_entry PyProof.Rows.slot_tuple_getitem ht.typeIs entry_tuple_getitem ?_ (args_tuple_getitem _ _)))
  show wpAny _ _ (Builtin.Tuple.tupleItemsOf (.ref t) >>= _) _ _ s
  refine wpAny_bind (tupleItemsOf_ ht ?_)
  refine wpAny_bind (wpAny_typeOf hTs ?_)
  rw [if_pos (by decide)]
  refine wpAny_bind (sliceApplied_rev hs ps ?_)
  have hno : ¬ ((((items.size : Nat) : Int) - 1 == 0 && (-1 : Int) == 1 && items.size == items.size) = true) := by
    intro q
    rw [Bool.and_eq_true, Bool.and_eq_true] at q
    have := eq_of_beq q.1.2
    omega
  show wpAny _ _ (if (((items.size : Nat) : Int) - 1 == 0 && (-1 : Int) == 1 && items.size == items.size) = true then _ else _) _ _ s
  rw [if_neg hno, pick_rev']
  first
    | exact wpAny_bind (m := Builtin.Tuple.tupleExact _) (wpAny_newObj_type (wpAny_pure ⟨_, rfl, wpAny_pure h⟩) htake)
    | exact wpAny_bind (m := Builtin.Tuple.tupleExact _) (wpAny_newObj_type (wpAny_bind (wpAny_pure (wpAny_pure ⟨_, rfl, wpAny_pure h⟩))) htake)
    | exact wpAny_bind (wpAny_bind (m := Builtin.Tuple.tupleExact _) (wpAny_newObj_type (wpAny_pure (wpAny_pure ⟨_, rfl, wpAny_pure h⟩)) htake))
    | exact wpAny_bind (wpAny_bind (m := Builtin.Tuple.tupleExact _) (wpAny_newObj_type (wpAny_pure ⟨_, rfl, wpAny_pure h⟩) htake))
end
def tRevTu (K : PySem.W.Frag) (te : TE) : TE := fun σ H Q => te σ H fun x H1 => ∃ a xs, x = .ref a ∧ SqT K H1 a xs ∧ ∀ p, H1 p = none → Q (.ref p) (upd H1 p (.tup xs.reverse))
section
variable {X : Cx}
theorem pe_revTu {e : Expr} {te : TE} {k : Nat} {p1 p2 p3 pos : Pos} (he : PE X e te) : PE X (.Subscript e (.Slice none none (some (.UnaryOp .USub (.Constant (.int 1) k p1) p2)) p3) pos) (tRevTu X.K te) := by
  refine ⟨fun pins s σ H Q I h => ?_⟩
  refine Subscript_ (thn (he.run pins s σ H _ I h) fun v s1 ⟨x, H1, I1, r1, q1⟩ => ?_)
  obtain ⟨a, xs, ex, hx, q⟩ := q1
  subst ex
  cases r1
  have hst : PO X (some (.UnaryOp .USub (.Constant (.int 1) k p1) p2)) (tPart (tUn (rU fun i => .int (-i)) (tC (.int 1)))) := po_some (pe_un un_neg pe_int)
  refine wpAny_Slice (thn (po_none.run pins s1 σ H1 (fun o H2 => o = none ∧ H2 = H1) I1 ⟨rfl, rfl⟩) fun vl s2 ⟨l, H2, I2, pl, el, e2⟩ => ?_)
  subst el e2
  refine thn (po_none.run pins s2 σ H2 (fun o H3 => o = none ∧ H3 = H2) I2 ⟨rfl, rfl⟩) fun vu s3 ⟨u, H3, I3, pu, eu, e3⟩ => ?_
  subst eu e3
  refine thn (hst.run pins s3 σ H3 (fun o H4 => o = some (-1) ∧ H4 = H3) I3 ⟨1, rfl, -1, rfl, rfl, rfl⟩) fun vs s4 ⟨o, H4, I4, ps, eo, e4⟩ => ?_
  subst eo e4
  cases pl
  cases pu
  have I5 : Inv X pins σ H4 { s4 with heap := s4.heap.push { cls := .type "slice", data := .fields #[.none, .none, vs] } } := I4.kept (t' := s4.toks) fun b ob q => Heap.get?_push_of_some _ q
  obtain ⟨its, r, ht, hz⟩ := I5.tuple hx
  have hlen := r.length
  show wpAny (model X.prog X.w) X.A (subscriptTail e (.Slice none none (some (.UnaryOp .USub (.Constant (.int 1) k p1) p2)) p3) (.ref a) (.ref s4.heap.objs.size)) (EP X pins σ Q) X.xe { s4 with heap := s4.heap.push { cls := .type "slice", data := .fields #[.none, .none, vs] } }
  refine tail_any (ops := [.ref a, .ref s4.heap.objs.size]) ht.typeIs (PyProof.Rows.slot_tuple_getitem.lookup) ?_ (by with_unfolding_all rfl)
  refine getItem_tuple_rev ht (Heap.IsSliceOf.new _ .none .none vs) ps ?_ (by rw [List.size_toArray]; omega)
  refine ⟨.ref _, _, I5.laid (t' := s4.toks) (o := .tup xs.reverse) (fun b ob q => Heap.get?_push_of_some _ q) (Nat.le_refl _) ?_, rfl, q _ (I5.hok.fresh (Nat.le_refl _))⟩
  refine ⟨by rw [List.length_reverse]; exact hz, _, r.reverse, ?_⟩
  exact IsTup.new _ _
theorem pe_revTuK {K : PySem.W.Frag} (h : X.K = K) {e : Expr} {te : TE} {k : Nat} {p1 p2 p3 pos : Pos} (he : PE X e te) : PE X (.Subscript e (.Slice none none (some (.UnaryOp .USub (.Constant (.int 1) k p1) p2)) p3) pos) (tRevTu K te) := h ▸ pe_revTu he
end
theorem rd_revTu {K : PySem.W.Frag} {σ : L2.St} {H : Hp} {Q : VK} {te : TE} (h : te σ H fun x H1 => ∃ a xs, x = .ref a ∧ SqT K H1 a xs ∧ ∀ p, H1 p = none → Q (.ref p) (upd H1 p (.tup xs.reverse))) : tRevTu K te σ H Q := h
end NW

/-! C53: comprehensions over items that are new tuples, with a test and new objects (rd_lcTF); with a second for (el_lc2T). -/
namespace NW
open PySem PySem.Spec PyProof.Rows L2 Evl
section
variable {K : PySem.W.Frag} {σ : L2.St} {H : Hp} {te : TE} {t t1 : TT} {wi wi1 : TI} {g : TG} {rows : List (List V)}
theorem rd_lcTF {vs : List Nat} {Q : VK} (h : WkT wi σ H rows) (p : Nat → Bool) (st : Nat → L2.St) (R : Addr → Hp → Nat → V → Prop) (hz : rows.length ≤ 40000) (hst : ∀ i, wipe (st i) vs = wipe σ vs)
    (hg : ∀ (i : Nat) row T H1 (R' : L2.St → Hp → Prop), rows[i]? = some row → Ex H H1 → H1 T = some (.tup row) → R' (st i) H1 → g (.ref T) (wipe σ vs) H1 R')
    (ht : ∀ (i : Nat) row, rows[i]? = some row → ∀ H1, Ex H H1 → ∀ Q' : Bool → Hp → Prop, (∀ H2, Ex H1 H2 → Q' (p i) H2) → t (st i) H1 Q')
    (he : ∀ (i : Nat) row, rows[i]? = some row → p i = true → ∀ H1 D acc, Ex H H1 → H1 D = some (.lst acc) → ∀ Q' : VK, (∀ v H2, Ex H1 H2 → R D H2 i v → Q' v H2) → te (st i) H1 Q')
    (hx : ∀ D H1 H2 i v, Ex H1 H2 → R D H1 i v → R D H2 i v) (hm : ∀ D H1 o i v, R D H1 i v → R D (upd H1 D o) i v)
    (q : ∀ P H1 us, H P = none → Ex H H1 → H1 P = some (.lst us) → Pairs (R P H1) ((List.range rows.length).filter p) us → Q (.ref P) H1) : tLc wi g t te vs σ H Q :=
  h H (Ex.refl H) _ fun J H1 e1 ⟨G, W, WG⟩ Dl hD => by
  have mono : ∀ {D H1 H2 as us}, (∀ i v, R D H1 i v → R D H2 i v) → Pairs (R D H1) as us → Pairs (R D H2) as us := fun f hp => hp.mono f
  refine lc_it (G := G) W (fun i H' => Ex H1 H' ∧ ∃ acc, H' Dl = some (.lst acc) ∧ Pairs (R Dl H') ((List.range i).filter p) acc) ⟨Ex.new hD, [], upd_same, .nil⟩ (fun _ _ _ pv => WG _ (e1.trans pv.1) fun b o _ hb => pv.1 _ _ hb) (fun i x H' H'' hi pv hy => ?_) (fun H' pv => ?_)
  · obtain ⟨T, row, hri, rfl, hT, rfl⟩ := hy
    obtain ⟨p1, acc, p2, p3⟩ := pv
    have eT : Ex H1 (upd H' T (.tup row)) := p1.trans (Ex.new hT)
    have nDT : Dl ≠ T := ne_of_none p2 hT
    refine hg i row T _ _ hri (e1.trans eT) upd_same ⟨hst i, ht i row hri _ (e1.trans eT) _ fun H3 e3 => ?_⟩
    have p2' := e3 _ _ (by rw [upd_ne nDT]; exact p2 : upd H' T (.tup row) Dl = some (.lst acc))
    have p3' := mono (fun _ _ r => hx _ _ _ _ _ ((Ex.new hT).trans e3) r) p3
    cases hpx : p i with
    | false =>
      rw [if_neg (by decide)]
      refine ⟨eT.trans e3, acc, p2', ?_⟩
      rw [List.range_succ, List.filter_append, List.filter_cons, if_neg (by rw [hpx]; decide)]
      simpa using p3'
    | true =>
      rw [if_pos rfl]
      have hl := p3.1
      have hl2 := List.length_filter_le p (List.range i)
      rw [List.length_range] at hl2
      refine he i row hri hpx _ Dl acc ((e1.trans eT).trans e3) p2' _ fun v H4 e4 r => ⟨acc, e4 _ _ p2', sz_lt (by omega), Ex.mut ((eT.trans e3).trans e4) hD, acc ++ [v], upd_same, ?_⟩
      rw [List.range_succ, List.filter_append, List.filter_cons, if_pos hpx]
      exact mono (fun _ _ r => hm _ _ _ _ _ r) (Pairs.snoc (mono (fun _ _ r => hx _ _ _ _ _ e4 r) p3') r)
  · obtain ⟨p1, acc, p2, p3⟩ := pv
    exact q Dl H' acc (fresh_back e1 hD) (e1.trans p1) p2 p3
theorem flatR_len {ys : Nat → List V} {m n : Nat} (p : Nat → V → Bool) (v : Nat → V → V) (hy : ∀ i, i < n → (ys i).length ≤ m) : ∀ i, i ≤ n → ((List.range i).flatMap fun x => ((ys x).filter (p x)).map (v x)).length ≤ i * m
  | 0, _ => by simp
  | i + 1, hi => by
    have h1 := List.length_filter_le (p i) (ys i)
    have h2 := hy i (by omega)
    have h3 := flatR_len p v hy i (by omega)
    rw [List.range_succ, List.flatMap_append, List.length_append, Nat.succ_mul, List.flatMap_cons, List.flatMap_nil, List.append_nil, List.length_map]
    omega
theorem el_lc2T {j1 : Nat} {vs vs1 : List Nat} {st : Nat → L2.St} {ys : Nat → List V} {m : Nat} (h : WkT wi σ H rows) (hst : ∀ i, wipe (st i) vs = wipe σ vs)
    (hg : ∀ (i : Nat) row T H1 (R' : L2.St → Hp → Prop), rows[i]? = some row → Ex H H1 → H1 T = some (.tup row) → R' (st i) H1 → g (.ref T) (wipe σ vs) H1 R')
    (hwk1 : ∀ (i : Nat) row, rows[i]? = some row → WkX wi1 (st i) H (ys i)) (p : Nat → V → Bool) (v : Nat → V → V)
    (hm : ∀ i, i < rows.length → (ys i).length ≤ m) (hz : rows.length * m ≤ 40000) (hw1 : ∀ i y, wipe ((wipe (st i) vs1).set j1 (some y)) vs1 = wipe (st i) vs1)
    (ht : ∀ (i : Nat) row, rows[i]? = some row → ∀ y ∈ ys i, ∀ H1, Ex H H1 → EvT t1 ((wipe (st i) vs1).set j1 (some y)) H1 (p i y))
    (he : ∀ (i : Nat) row, rows[i]? = some row → ∀ y ∈ ys i, ∀ H1, Ex H H1 → p i y = true → Ev te ((wipe (st i) vs1).set j1 (some y)) H1 (v i y)) :
    EvL (tLc2 wi g tYes wi1 (gName j1) t1 te vs vs1) σ H ((List.range rows.length).flatMap fun i => ((ys i).filter (p i)).map (v i)) := fun H0 e Q q => h H0 e _ fun J H1 e1 ⟨G, W, WG⟩ Dl hD => by
  have snoc : ∀ i, ((List.range (i + 1)).flatMap fun x => ((ys x).filter (p x)).map (v x)) = ((List.range i).flatMap fun x => ((ys x).filter (p x)).map (v x)) ++ ((ys i).filter (p i)).map (v i) := fun i => by
    rw [List.range_succ, List.flatMap_append]
    simp
  refine ⟨fun i m H' => m = rows.length - i ∧ i ≤ rows.length ∧ Ex H1 H' ∧ H' Dl = some (.lst ((List.range i).flatMap fun x => ((ys x).filter (p x)).map (v x))), ⟨rows.length, by omega, Nat.zero_le _, Ex.new hD, by rw [upd_same]; rfl⟩, ?_⟩
  rintro i m' H' ⟨rfl, hi, ex0, hd0⟩
  by_cases hlt : i < rows.length
  · refine .inr ⟨W.goes i H' hlt (WG _ ((e.trans e1).trans ex0) fun b o _ hb => ex0 _ _ hb), fun H2 => Ex H1 H2 ∧ H2 Dl = some (.lst ((List.range (i + 1)).flatMap fun x => ((ys x).filter (p x)).map (v x))), fun H2 n => ⟨rows.length - (i + 1), by omega, rfl, hlt, n.1, n.2⟩, fun x H2 hy => ?_⟩
    obtain ⟨T, row, hri, rfl, hT, rfl⟩ := W.yields i H' x H2 hlt (WG _ ((e.trans e1).trans ex0) fun b o _ hb => ex0 _ _ hb) hy
    have ex : Ex H1 (upd H' T (.tup row)) := ex0.trans (Ex.new hT)
    have nDT : Dl ≠ T := ne_of_none hd0 hT
    have hd : upd H' T (.tup row) Dl = some (.lst ((List.range i).flatMap fun x => ((ys x).filter (p x)).map (v x))) := by rw [upd_ne nDT]; exact hd0
    have eH : Ex H (upd H' T (.tup row)) := (e.trans e1).trans ex
    refine hg i row T _ _ hri eH upd_same ⟨hst i, rd_yes (iteT ?_)⟩
    generalize upd H' T (.tup row) = H2 at *
    refine hwk1 i row hri H2 eH _ fun J1 H3 e3 ⟨G1, W1, WG1⟩ => ?_
    refine ⟨fun k m H4 => m = (ys i).length - k ∧ k ≤ (ys i).length ∧ (∀ b o, H2 b = none → H3 b = some o → H4 b = some o) ∧ Ex H1 H4 ∧ H4 Dl = some (.lst (((List.range i).flatMap fun x => ((ys x).filter (p x)).map (v x)) ++ (((ys i).take k).filter (p i)).map (v i))), ⟨(ys i).length, by omega, Nat.zero_le _, fun b o _ h => h, ex.trans e3, by rw [e3 _ _ hd]; simp⟩, ?_⟩
    rintro k m'' H4 ⟨rfl, hk, ex3, ex4, hd4⟩
    by_cases hlk : k < (ys i).length
    · refine .inr ⟨W1.goes k H4 hlk (WG1 _ ((e.trans e1).trans ex4) ex3), fun H5 => ((∀ b o, H2 b = none → H3 b = some o → H5 b = some o) ∧ Ex H1 H5 ∧ H5 Dl = some (.lst (((List.range i).flatMap fun x => ((ys x).filter (p x)).map (v x)) ++ (((ys i).take (k + 1)).filter (p i)).map (v i)))), fun H5 n => ⟨(ys i).length - (k + 1), by omega, rfl, hlk, n.1, n.2.1, n.2.2⟩, fun y H5 hy => ?_⟩
      obtain ⟨rfl, hy2⟩ := W1.yields k H4 y H5 hlk (WG1 _ ((e.trans e1).trans ex4) ex3) hy
      have hmy : y ∈ ys i := List.mem_of_getElem? hy2
      refine ⟨hw1 i y, ?_⟩
      refine ht i row hri y hmy H1 (e.trans e1) H5 ex4 _ fun H6 e6 => ?_
      have hd6 := e6 _ _ hd4
      cases hp : p i y with
      | true =>
        refine iteT ?_
        refine he i row hri y hmy H1 (e.trans e1) hp H6 (ex4.trans e6) _ fun H7 e7 => ⟨_, e7 _ _ hd6, ?_, ?_⟩
        · have h1 := flatR_len (ys := ys) (m := m) (n := rows.length) p v hm i hi
          have h2 := List.length_filter_le (p i) ((ys i).take k)
          have h4 := hm i hlt
          rw [List.length_append, List.length_map]
          rw [List.length_take] at h2
          have h3 : (i + 1) * m ≤ rows.length * m := Nat.mul_le_mul_right _ hlt
          rw [Nat.succ_mul] at h3
          exact sz_lt (by omega)
        · refine ⟨?_, ?_, ?_⟩
          · intro b o hn hb
            have hbn : b ≠ Dl := fun z => by rw [z, hd] at hn; cases hn
            rw [upd_ne hbn]
            exact e7 _ _ (e6 _ _ (ex3 _ _ hn hb))
          · exact Ex.mut ((ex4.trans e6).trans e7) hD
          · rw [upd_same, take_succ_get hy2, List.filter_append, List.map_append, List.append_assoc]
            simp [hp]
      | false =>
        refine iteF ?_
        refine ⟨fun b o hn hb => e6 _ _ (ex3 _ _ hn hb), ex4.trans e6, ?_⟩
        rw [hd6, take_succ_get hy2, List.filter_append]
        simp [hp]
    · obtain rfl : k = (ys i).length := by omega
      refine .inl ⟨W1.stops H4 (WG1 _ ((e.trans e1).trans ex4) ex3), ex4, ?_⟩
      rw [hd4, snoc, List.take_length]
  · obtain rfl : i = rows.length := by omega
    refine .inl ⟨W.stops H' (WG _ ((e.trans e1).trans ex0) fun b o _ hb => ex0 _ _ hb), q Dl H' (fresh_back e1 hD) (e1.trans ex0) ?_⟩
    exact hd0
/-- for k, x in enumerate(list), where other objects may change -/
theorem rd_forE {ta : TA} {tb : TS} {D : Ends} {a : Addr} {xs : List V} (h : EvA ta σ H [.ref a]) (ha : SqL K H a xs) (Pv : Nat → L2.St → Hp → Prop) (h0 : ∀ H1, Same H H1 → Pv 0 σ H1) (hG : ∀ i σ' H', Pv i σ' H' → SqL K H' a xs)
    (hs : ∀ (i : Nat) x σ' H' T, xs[i]? = some x → Pv i σ' H' → H' T = none → g (.ref T) σ' (upd H' T (.tup [.int (i : Nat), x])) fun σ2 H2 => tb { D with nx := Pv (i + 1), ct := Pv (i + 1), bk := D.nx } σ2 H2)
    (hd : ∀ σ' H', Pv xs.length σ' H' → D.nx σ' H') : tFor (iEnum K ta) g tb D σ H :=
  h H (Ex.refl H) _ fun H1 e1 => ⟨a, xs, rfl, ex_l e1 ha, for_it (G := fun H => SqL K H a xs) (walk_enum (K := K) (a := a) (xs := xs)) Pv (h0 H1 e1) (fun i σ' H' _ pv => hG i σ' H' pv) (fun i x σ' H' H'' hi pv hy => by
    obtain ⟨T, y, z, h1, h2, h3, h4, h5⟩ := hy
    subst h1 h3
    cases h4
    exact hs i z σ' H' T h5 pv h2) hd⟩
end
end NW

/-! sorted of tuples among which the empty one may be. -/
namespace PySem.W
open PySem PySem.Calls PySem.SeqAt PyProof.Rows
section
variable {prog : Program} {w : World} {A : Around} {E : Value → Shared → Prop} {s : Shared}
theorem call_tuple_lt {Q : Value → Shared → Prop} {l b : Addr} {items items2 : Array Value} {e r : Nat → Bool} (hl : s.heap.IsTuple l items) (hb : s.heap.IsTuple b items2)
    (he : ∀ j (h1 : j < items.size) (h2 : j < items2.size), EqAt A.in1 s items[j] items2[j] (e j)) (hr : ∀ j (h1 : j < items.size) (h2 : j < items2.size), e j = false → RcLt A.in1 s items[j] items2[j] (r j))
    (h : Q (.bool (firstLt e r (decide (items.size < items2.size)) (List.range (min items.size items2.size)))) s) : wpAny (model prog w) A (call (.builtin "tuple.__lt__") [.ref l, .ref b]) Q E s := by
  obtain ⟨⟨cls, dd, data, sl⟩, ho, hc, n, hd⟩ := id hl
  obtain ⟨⟨cls2, dd2, data2, sl2⟩, ho2, hc2, n2, hd2⟩ := id hb
  simp only at hc hd hc2 hd2
  subst hc hd hc2 hd2
  exact call_meets F.slot_tuple_lt ⟨_, ho, rfl⟩ F.entry_tuple_lt (F.args_tuple_lt_2 _ _) (tuple_ltAt l b items items2 n n2 dd dd2 sl sl2 e r) ⟨ho, ho2, he, hr, h⟩
/-- one tuple against another -/
theorem oneLt_tup {f : Bool} {xs ys : List PyData} {a b : Value} {as bs : List Addr} {Q : Bool → Shared → Prop} (ra : Reads s.heap a (.tuple xs) as) (rb : Reads s.heap b (.tuple ys) bs) (hal : alikeAll xs ys = true)
    (hu : A.units + min (PyData.tuple xs).depth (PyData.tuple ys).depth < cLine) (hq : Q (dataLt (.tuple xs) (.tuple ys)) s) : wpAny (model prog w) A (oneLt' f a b) Q E s := by
  cases f with
  | false => exact oneLt_alike (fun e => by cases e) ra rb (by simpa [alike] using hal) (fun e => by cases e) hu hq
  | true =>
    cases ra with
    | @tuple l o vs n _ as₁ h1 h2 h3 h4 =>
      cases rb with
      | @tuple l' o' vs' n' _ bs₁ k1 k2 k3 k4 =>
        have n1 : vs.size = xs.length := by simpa using ReadsAll.length _ _ _ h4
        have n2 : vs'.size = ys.length := by simpa using ReadsAll.length _ _ _ k4
        rw [dataLt_tuple, ← firstLt_toks xs ys hal, ← n1, ← n2] at hq
        rw [oneLt'_eq]
        simp only [if_true]
        refine wpAny_bind (wpAny_cRoomFor (room_here hu) ?_)
        refine wpAny_bind (wpAny_callSpecialIfBound?_slot (T := "tuple") ⟨_, h1, h2⟩ F.slot_tuple_lt (call_tuple_lt (e := pairEq xs ys) (r := fun j => dataLt (xs.getD j .none) (ys.getD j .none)) ⟨_, h1, h2, _, h3⟩ ⟨_, k1, k2, _, k3⟩ (fun j j1 j2 => ?_) (fun j j1 j2 hj => ?_) ?_))
        · have := eqAt_alikeAll xs ys A.in1 s vs.toList vs'.toList _ _ h4 k4 hal (room_in hu) j (by simpa using j1) (by simpa using j2)
          simpa using this
        · have := rcLt_alikeAll xs ys A.in1 s vs.toList vs'.toList _ _ h4 k4 hal (room_in hu) j (by simpa using j1) (by simpa using j2) hj
          simpa using this
        · exact wpAny_truthy_bool hq
/-- the firsts of tuples, where they have some -/
theorem each_firsts {h : Heap} : ∀ {vs : List Value} {ds : List PyData}, EachIs (fun v d => ∃ as, Reads h v d as) vs ds → (∀ d, d ∈ ds → ∃ xs, d = .tuple xs) → ∃ ofs : List (Option Value), ofs.length = vs.length ∧
    (∀ {M : Model} {A : Around} {E : Value → Shared → Prop} {s : Shared} {Q : List (Option Value) → Shared → Prop}, s.heap = h → Q ofs s → wpAny M A (vs.mapM firstOfTuple') Q E s) ∧ ((ofs.all fun o => o.isSome) = true → ∀ d, d ∈ ds → ∃ x r, d = .tuple (x :: r))
  | _, _, .nil, _ => ⟨[], rfl, fun e h => by rw [List.mapM_nil]; exact wpAny_pure h, fun _ d hd => absurd hd (by simp)⟩
  | _, _, .cons (b := d) ⟨as, r⟩ t, ht => by
    obtain ⟨ofs, h1, h2, h3⟩ := each_firsts t fun d hd => ht d (List.mem_cons_of_mem _ hd)
    obtain ⟨xs, rfl⟩ := ht d (List.mem_cons_self ..)
    cases r with
    | @tuple a o its n _ _ ho hc hd hr =>
      refine ⟨its[0]? :: ofs, by rw [List.length_cons, List.length_cons, h1], fun {M A E s Q} e hq => ?_, fun hall d hd2 => ?_⟩
      · rw [List.mapM_cons]
        refine wpAny_bind ?_
        rw [kas_first_eq]
        refine wpAny_bind (Looks.here (show Looks M s.heap (typeOf (.ref a)) o.cls from (Looks.ld (e ▸ ho)).andThen .now) ?_)
        rw [hc, if_neg (by first | decide | simp)]
        refine wpAny_bind (listItems_at (e ▸ ho) hd (wpAny_pure ?_))
        exact wpAny_bind (h2 (Q := fun bs s' => wpAny M A (pure (its[0]? :: bs)) Q E s') e (wpAny_pure hq))
      · rw [List.all_cons, Bool.and_eq_true] at hall
        rcases List.mem_cons.mp hd2 with rfl | hd2
        · cases q : its.toList with
          | nil =>
            have : its[0]? = none := by rw [← Array.getElem?_toList, q]; rfl
            rw [this] at hall
            exact absurd hall.1 (by simp)
          | cons f fr =>
            rw [q] at hr
            cases hr with
            | cons r1 r2 => exact ⟨_, _, rfl⟩
        · exact h3 hall.2 d hd2
/-- tuples that read as alike data can be sorted -/
theorem SortsAt.tups {vs : List Value} {ds : List PyData} (e : EachIs (fun v d => ∃ as, Reads s.heap v d as) vs ds) (hal : AllAlike ds) (ht : ∀ d, d ∈ ds → ∃ xs, d = .tuple xs) (hu : ∀ d, d ∈ ds → A.units + d.depth < cLine) : SortsAt prog w A s (dataKind s.heap ds) vs := by
  obtain ⟨ofs, hl, hm, hall⟩ := each_firsts e ht
  cases ha : ofs.all fun o => o.isSome with
  | true => exact SortsAt.data e hal (.inl (hall ha)) hu
  | false =>
    have room : ∀ {d d' : PyData}, d ∈ ds → A.units + min d.depth d'.depth < cLine := fun {d d'} hd => Nat.lt_of_le_of_lt (Nat.add_le_add_left (Nat.min_le_left _ _) _) (hu d hd)
    have lt : ∀ (f : Bool) (E : Value → Shared → Prop) (x y : Value) (a b : List (Int ⊕ List Nat)) (Q : Bool → Shared → Prop), (dataKind s.heap ds).keyOf x = some a → (dataKind s.heap ds).keyOf y = some b → Q (PyProof.Rows.lexLt itemOrd a b) s → wpAny (model prog w) A (oneLt' f x y) Q E s := by
      intro f E x y a b Q ha hb hq
      obtain ⟨d, as, hd, ra, rfl⟩ := dataKind_inv ha
      obtain ⟨d', as', hd', rb, rfl⟩ := dataKind_inv hb
      obtain ⟨xs, rfl⟩ := ht d hd
      obtain ⟨ys, rfl⟩ := ht d' hd'
      exact oneLt_tup ra rb (by simpa [alike] using hal _ hd _ hd') (room hd) hq
    have hna : ¬ (ofs.toArray.all fun x => x.isSome) = true := by
      rw [List.all_toArray, ha]
      exact Bool.false_ne_true
    refine ⟨fun v hv => ?_, ?_⟩
    · obtain ⟨d, hd, as, r⟩ := e.left v hv
      exact ⟨_, dataKind_some hal hd r⟩
    · cases hf : (ofs.toArray[0]?.bind id).isSome with
      | true =>
        refine ⟨general', fun E x y a b Q h1 h2 hq => lt false E x y a b Q h1 h2 hq, fun h2 E Q hq => ?_⟩
        rw [kat_kind_eq, List.mapM_toArray, map_eq_pure_bind]
        refine wpAny_bind (wpAny_bind (hm rfl (wpAny_pure ?_)))
        rw [if_neg hna, if_pos hf]
        exact wpAny_pure hq
      | false =>
        refine ⟨oneType', fun E x y a b Q h1 h2 hq => lt true E x y a b Q h1 h2 hq, fun h2 E Q hq => ?_⟩
        rw [kat_kind_eq, List.mapM_toArray, map_eq_pure_bind]
        refine wpAny_bind (wpAny_bind (hm rfl (wpAny_pure ?_)))
        rw [if_neg hna, if_neg (by rw [hf]; exact Bool.false_ne_true)]
        obtain ⟨v₁, rest, rfl⟩ : ∃ v₁ rest, vs = v₁ :: rest := by
          match vs, h2 with
          | [], h2 => simp at h2
          | v₁ :: rest, _ => exact ⟨v₁, rest, rfl⟩
        have hT : ∀ v ∈ v₁ :: rest, Looks (model prog w) s.heap (typeOf v) (Value.type "tuple") := fun v hv => by
          obtain ⟨d, hd, as, r⟩ := e.left v hv
          obtain ⟨xs, rfl⟩ := ht d hd
          exact looks_reads r
        rw [oneTypeOnly'_eq, List.mapM_toArray, map_eq_pure_bind]
        refine wpAny_bind (wpAny_bind (wpAny_bind (kas_mapM (r := Value.type "tuple") _ (fun v hv Q' hq => (hT v hv).here hq) (wpAny_pure ?_))))
        have hall : ((List.map (fun _ => Value.type "tuple") (v₁ :: rest)).toArray.all fun x => x == Value.type "tuple") = true := by
          simp only [List.all_toArray, List.all_map, List.all_eq_true]
          intro _ _
          exact beq_self_eq_true _
        have h0 : (List.map (fun _ => Value.type "tuple") (v₁ :: rest)).toArray[0]? = some (Value.type "tuple") := by simp
        rw [h0]
        simp only [hall, if_true]
        exact wpAny_pure (wpAny_pure hq)
theorem sorted_tups {β : Type} {vs : List Value} {bs : List β} {enc : β → PyData} {R : Value → β → Prop} {l : Addr} {Q : Value → Shared → Prop} (hl : s.heap.IsList l vs.toArray) (e : EachIs R vs bs) (er : EachIs (fun v b => ∃ as, Reads s.heap v (enc b) as) vs bs) (hal : AllAlike (bs.map enc)) (hk : ∀ b, ∃ xs, enc b = .tuple xs) (hL : bs.length ≤ sizeLine)
    (hu : ∀ b, b ∈ bs → A.units + 2 + (enc b).depth < cLine) (h : ∀ out, out.length = bs.length → EachIs R out (bs.mergeSort (dataLe false enc)) → Q (.ref (s.heap.objs.size + 1)) { s with heap := sortedAll s.heap vs (List.toArray out) }) :
    wpAny (model prog w) A (call (.builtin "sorted") [.ref l]) Q E s := by
  have er' : EachIs (fun v b => ∃ as, Reads (sortingHeap (copyHeap s.heap vs) (s.heap.objs.size + 1) vs) v (enc b) as) vs bs := er.mono fun _ _ ⟨as, r⟩ => ⟨as, PyProof.Rows.Reads.keeps (fun _ _ => sorting_copy_old) r⟩
  exact sorted_vals hl (SortsAt.tups (s := { s with heap := sortingHeap (copyHeap s.heap vs) (s.heap.objs.size + 1) vs }) (each_map (R := fun v d => ∃ as, Reads (sortingHeap (copyHeap s.heap vs) (s.heap.objs.size + 1) vs) v d as) enc er') hal (fun d hd => by
    obtain ⟨b, _, rfl⟩ := List.mem_map.mp hd
    exact hk b) (bound_map hu)) (by rw [e.length]; exact hL)
    (h _ (by rw [sortVals_length false rfl]; exact e.length) (sortVals_data false e er' hal))
end
end PySem.W
namespace NW
open PySem PySem.Spec PyProof.Rows L2 Evl
/-- sorted(xs), xs tuples, among them the empty one or not -/
def rSortT (K : PySem.W.Frag) : List V → Hp → VK → Prop := fun xs H Q => ∃ (a : Addr) (β : Type) (bs : List β) (vf : β → V) (enc : β → PyData), xs = [V.ref a] ∧ SqL K H a (bs.map vf) ∧ (∀ b ∈ bs, Dp K H (vf b) (enc b)) ∧ PySem.W.AllAlike (bs.map enc) ∧ (∀ b, ∃ xs, enc b = .tuple xs) ∧ (∀ b ∈ bs, (enc b).depth ≤ 62) ∧
  ∀ p, H p = none → Q (.ref p) (upd H p (.lst ((bs.mergeSort (PySem.W.dataLe false enc)).map vf)))
theorem cr_sortedT {X : Cx} (hu : X.A.units + 64 < cLine) : CallR X (.builtin "sorted") (rSortT X.K) := by
  intro pins s σ H vs us Q I r h
  obtain ⟨a, β, bs, vf, enc, rfl, hs, hd, hal, hk, hdep, q⟩ := h
  obtain ⟨its, rv, hl, hz⟩ := I.list hs
  rw [Vals.ref1 r]
  have hz' : bs.length ≤ sizeLine := by rw [List.length_map] at hz; exact hz
  have e : PySem.W.EachIs (fun u b => RelV (vf b) u) its bs := vals_each vf rv
  have er : PySem.W.EachIs (fun u b => ∃ as, Reads s.heap u (enc b) as) its bs := each_and e fun u b hb hr => Dp.reads I (enc b) (vf b) u (hd b hb) hr
  refine PySem.W.sorted_tups hl.isList e er hal hk hz' (fun b hb => by have := hdep b hb; omega) fun out hlen ho => ?_
  obtain ⟨ep, he'⟩ := PyProof.Rows.sortedAll_at s.heap its out.toArray
  exact ⟨.ref _, upd H (s.heap.objs.size + 1) (.lst ((bs.mergeSort (PySem.W.dataLe false enc)).map vf)), I.laid (t' := s.toks) (fun _ _ => PyProof.Rows.sortedAll_old) (Nat.le_succ _) ⟨by rw [List.length_map, List.length_mergeSort]; exact hz', out, ep, each_vals vf ho, he'⟩, rfl, q _ (I.hok.fresh (Nat.le_succ _))⟩
theorem cr_sortedTK {X : Cx} {K : PySem.W.Frag} (h : X.K = K) (hu : X.A.units + 64 < cLine) : CallR X (.builtin "sorted") (rSortT K) := h ▸ cr_sortedT hu
end NW

/-! C55: texts cut at a sign, signs replaced, joined, what a text begins with; two fors with up to 16,000,000 turns; a def whose first statements want a token. -/
namespace NW
open PySem PySem.Spec PyProof.Rows L2
/-- a text cut at each c -/
def cutL (c : Nat) : List Nat → List (List Nat)
  | [] => [[]]
  | a :: r => if a = c then [] :: cutL c r else (a :: (cutL c r).headD []) :: (cutL c r).tail
theorem cutL_ne (c : Nat) (l : List Nat) : cutL c l ≠ [] := by
  cases l with
  | nil => simp [cutL]
  | cons a r => unfold cutL; split <;> simp
theorem cutL_eta (c : Nat) (l : List Nat) : (cutL c l).headD [] :: (cutL c l).tail = cutL c l := by
  cases h : cutL c l with
  | nil => exact absurd h (cutL_ne c l)
  | cons a r => rfl
theorem spl_cut (c : Nat) : ∀ (l acc : List Nat), TL.spl [c] 0 acc l = (acc ++ (cutL c l).headD []) :: (cutL c l).tail
  | [], acc => by rw [TL.spl_nil]; simp [cutL]
  | a :: r, acc => by
    by_cases h : a = c
    · subst h
      rw [TL.spl_hit (by simp [TL.pre])]
      show acc :: TL.spl [a] 0 [] r = _
      rw [spl_cut a r [], List.nil_append, cutL_eta]
      simp [cutL]
    · rw [TL.spl_miss (by simp [TL.pre, h]), spl_cut c r]
      simp [cutL, h]
theorem split_tx {c : Nat} (hc : c < 256) (l : List Nat) : Txt.split (tx l) (tx [c]) = (cutL c l).map tx := by
  refine TL.map_tl_inj ?_
  rw [TL.split_spl (tx l) (tx [c]) (by show [c] ≠ []; simp) (TL.kind_ok (by show ([c].toArray).all (· < 256) = true; simp [hc])), List.map_map]
  show TL.spl [c] 0 [] l = (cutL c l).map id
  rw [List.map_id, spl_cut, List.nil_append, cutL_eta]
theorem join_tx (S : List Nat) (ps : List (List Nat)) : Txt.join (tx S) (ps.map tx) = tx (TL.joinL S ps) := by
  refine TL.ext_tl ?_
  rw [TL.join_eq, TL.tl_join, List.map_map]
  show TL.joinL S (ps.map id) = TL.joinL S ps
  rw [List.map_id]
theorem joinL_cons {S p : List Nat} {r : List (List Nat)} (h : r ≠ []) : TL.joinL S (p :: r) = p ++ (S ++ TL.joinL S r) := by
  cases r with
  | nil => exact absurd rfl h
  | cons q t => rfl
theorem joinL_hd {S : List Nat} {a : Nat} {p : List Nat} {r : List (List Nat)} : TL.joinL S ((a :: p) :: r) = a :: TL.joinL S (p :: r) := by
  cases r <;> rfl
theorem joinL_cut (c d : Nat) : ∀ l : List Nat, TL.joinL [d] (cutL c l) = l.map fun a => if a = c then d else a
  | [] => rfl
  | a :: r => by
    have ih := joinL_cut c d r
    by_cases h : a = c
    · subst h
      unfold cutL
      rw [if_pos rfl, joinL_cons (cutL_ne a r), ih, List.map_cons, if_pos rfl]
      rfl
    · unfold cutL
      rw [if_neg h, joinL_hd, cutL_eta, ih, List.map_cons, if_neg h]
theorem joinL_back (c : Nat) (l : List Nat) : TL.joinL [c] (cutL c l) = l := by
  rw [joinL_cut]
  have : (fun a => if a = c then c else a) = fun a : Nat => a := by
    funext a
    split
    · rename_i h; exact h.symm
    · rfl
  rw [this, List.map_id']
theorem cut_join {c : Nat} {ps : List (List Nat)} (hn : ps ≠ []) (h : ∀ p ∈ ps, c ∉ p) : cutL c (TL.joinL [c] ps) = ps := by
  have := TL.spl_join (s := c) (S := []) hn h
  rw [spl_cut, List.nil_append, cutL_eta] at this
  exact this
theorem cutL_len (c : Nat) : ∀ l : List Nat, (cutL c l).length = l.count c + 1
  | [] => rfl
  | a :: r => by
    have ih := cutL_len c r
    by_cases h : a = c
    · subst h
      unfold cutL
      rw [if_pos rfl, List.length_cons, ih, List.count_cons_self]
    · unfold cutL
      rw [if_neg h, List.count_cons_of_ne h, ← ih]
      show (cutL c r).tail.length + 1 = _
      rw [List.length_tail]
      have : (cutL c r).length ≠ 0 := fun e => cutL_ne c r (List.length_eq_zero_iff.mp e)
      omega
theorem cutL_free (c : Nat) : ∀ (l : List Nat), ∀ p ∈ cutL c l, c ∉ p
  | [], p, hp => by
    rw [List.mem_singleton.mp (show p ∈ [[]] from hp)]
    exact List.not_mem_nil
  | a :: r, p, hp => by
    have ih := cutL_free c r
    by_cases h : a = c
    · subst h
      unfold cutL at hp
      rw [if_pos rfl] at hp
      rcases List.mem_cons.mp hp with rfl | hp
      · exact List.not_mem_nil
      · exact ih p hp
    · unfold cutL at hp
      rw [if_neg h] at hp
      rcases List.mem_cons.mp hp with rfl | hp
      · intro hc
        rcases List.mem_cons.mp hc with e | hc
        · exact h e.symm
        · exact ih ((cutL c r).headD []) (by rw [← cutL_eta c r]; exact List.mem_cons_self ..) hc
      · exact ih p (List.mem_of_mem_tail hp)
theorem cutL_sub (c : Nat) (l : List Nat) : ∀ p ∈ cutL c l, p.length ≤ l.length := fun p hp => by
  have e := congrArg List.length (joinL_back c l)
  have h : ∀ (ps : List (List Nat)), p ∈ ps → p.length ≤ (TL.joinL [c] ps).length := by
    intro ps
    induction ps with
    | nil => intro h; cases h
    | cons q r ih =>
      intro h
      by_cases hr : r = []
      · subst hr
        rw [List.mem_singleton.mp h]
        exact Nat.le_refl _
      · rw [joinL_cons hr, List.length_append, List.length_append]
        rcases List.mem_cons.mp h with rfl | h
        · omega
        · have := ih h
          omega
  have := h _ hp
  omega
theorem replace_tx {c : Nat} (hc : c < 256) (d : Nat) (l : List Nat) : Txt.replace (tx l) (tx [c]) (tx [d]) = tx (l.map fun a => if a = c then d else a) := by
  have hj : Txt.join (tx [d]) (Txt.split (tx l) (tx [c])) = tx (l.map fun a => if a = c then d else a) := by rw [split_tx hc, join_tx, joinL_cut]
  rw [← hj]
  have hk : ¬ Builtin.Str.strKind (tx l) < Builtin.Str.strKind (tx [c]) := TL.kind_ok (by show ([c].toArray).all (· < 256) = true; simp [hc])
  have one : Txt.join (tx [d]) [tx l] = tx l := by rw [TL.join_eq]; rfl
  unfold Txt.replace Txt.split
  cases ho : (Builtin.Str.occurrences (tx l) (tx [c]) 0 (tx l).length ((tx l).length + 1)).isEmpty with
  | true =>
    rw [if_pos (by simp)]
    split
    · exact one.symm
    · rw [if_pos rfl]; exact one.symm
  | false =>
    have h1 : ((tx [c]).length == 0) = false := rfl
    rw [if_neg (by rw [h1]; simp), if_neg, if_neg (by simp)]
    · rfl
    · simp only [Bool.or_eq_true, decide_eq_true_eq]
      rintro (h | h)
      · have hl : l = [] := by
          have h2 : (tx l).length = l.length := tx_length l
          have h3 : (tx [c]).length = 1 := tx_length [c]
          exact List.length_eq_zero_iff.mp (by omega)
        have hcnt := count_tx l c
        rw [hl] at hcnt ho
        unfold Txt.count at hcnt
        have h4 : (Builtin.Str.occurrences (tx []) (tx [c]) 0 (tx []).length ((tx []).length + 1)).length = 0 := by
          have : ((0 : Nat) : Int) = (([] : List Nat).count c : Nat) := rfl
          rw [← this] at hcnt
          omega
        rw [List.isEmpty_iff.mpr (List.length_eq_zero_iff.mp h4)] at ho
        cases ho
      · exact hk h
theorem starts_tx (l m : List Nat) : Txt.startswith (tx l) (tx m) = decide (l.take m.length = m) := by
  unfold Txt.startswith Builtin.Str.subAt
  have h1 : (tx l).length = l.length := tx_length l
  have h2 : (tx m).length = m.length := tx_length m
  rw [h1, h2, Nat.zero_add, Bool.eq_iff_iff]
  have e : ((tx l).cps.extract 0 m.length == (tx m).cps) = true ↔ l.take m.length = m := by
    rw [beq_iff_eq, ← Array.toList_inj, Array.toList_extract]
    show List.extract l 0 m.length = m ↔ _
    simp [List.extract]
  rw [Bool.and_eq_true, e, decide_eq_true_eq, decide_eq_true_eq]
  refine ⟨fun h => h.2, fun h => ⟨?_, h⟩⟩
  have := congrArg List.length h
  rw [List.length_take] at this
  omega
section
variable {K : PySem.W.Frag} {H : Hp} {Q : VK}
def rSplitS : V → List V → Hp → VK → Prop := fun x xs H Q => ∃ a b, x = .str a ∧ xs = [.str b] ∧ (b.length == 0) = false ∧ a.length + 2 ≤ sizeLine ∧ rNewStrs (Txt.split a b) H Q
theorem mt_splitA {X : Cx} : MtR X "str.split" rSplitS := mt_split
def rStartS : V → List V → Hp → VK → Prop := fun x xs H Q => ∃ a b, x = .str a ∧ xs = [.str b] ∧ Q (.bl (Txt.startswith a b)) H
theorem mt_startswithA {X : Cx} : MtR X "str.startswith" rStartS := mt_startswith
theorem split_s {l : List Nat} {c : Nat} (hc : c < 256) (hz : l.length ≤ 100000) (h : ∀ p, H p = none → Q (.ref p) (upd H p (.lst (vTxs (cutL c l))))) : rSplitS (.str (tx l)) [.str (tx [c])] H Q := by
  have h1 : (tx l).length = l.length := tx_length l
  refine ⟨tx l, tx [c], rfl, rfl, rfl, by unfold sizeLine; omega, fun p hp => ?_⟩
  have := h p hp
  rw [split_tx hc, List.map_map]
  exact this
theorem starts_s {l m : List Nat} (h : Q (.bl (decide (l.take m.length = m))) H) : rStartS (.str (tx l)) [.str (tx m)] H Q := ⟨tx l, tx m, rfl, rfl, by rw [starts_tx]; exact h⟩
theorem sum_len (ps : List (List Nat)) : ((ps.map tx).map (·.length)).sum = (ps.map List.length).sum := by
  rw [List.map_map]
  congr 1
theorem join_m {p : Addr} {S : List Nat} {ps : List (List Nat)} (hs : SqL K H p (vTxs ps)) (hz : (ps.map List.length).sum + ps.length * S.length ≤ 16777216) (h : Q (.str (tx (TL.joinL S ps))) H) : rJoinK K (.str (tx S)) [.ref p] H Q := by
  refine ⟨tx S, p, ps.map tx, rfl, rfl, .inl ?_, ?_, by rw [join_tx]; exact h⟩
  · rw [List.map_map]; exact hs
  · have h2 : (tx S).length = S.length := tx_length S
    rw [sum_len, List.length_map, h2]; exact hz
theorem joinL_len {c : Nat} : ∀ {ps : List (List Nat)}, ps ≠ [] → (TL.joinL [c] ps).length + 1 = (ps.map List.length).sum + ps.length
  | [], h => absurd rfl h
  | [p], _ => by simp [TL.joinL]
  | p :: q :: r, _ => by
    have ih := joinL_len (c := c) (ps := q :: r) (by simp)
    rw [joinL_cons (by simp), List.length_append, List.length_append, List.map_cons, List.sum_cons]
    simp only [List.length_cons, List.length_nil] at ih ⊢
    omega
end
section
open Evl
variable {σ : L2.St} {H : Hp} {te : TE} {t1 : TT} {wi wi1 : TI} {J J1 : It} {G G1 : Hp → Prop} {xs ys : List V}
theorem el_lc2W {j j1 : Nat} {vs vs1 : List Nat} (hwk : Wk wi σ H J G xs) (hwk1 : ∀ x ∈ xs, Wk wi1 ((wipe σ vs).set j (some x)) H J1 G1 ys) (p : V → V → Bool) (v : V → V → V) (hz : xs.length * ys.length ≤ 16000000)
    (hw : ∀ x, wipe ((wipe σ vs).set j (some x)) vs = wipe σ vs) (hw1 : ∀ x y, wipe ((wipe ((wipe σ vs).set j (some x)) vs1).set j1 (some y)) vs1 = wipe ((wipe σ vs).set j (some x)) vs1)
    (ht : ∀ x ∈ xs, ∀ y ∈ ys, ∀ H1, Ex H H1 → EvT t1 ((wipe ((wipe σ vs).set j (some x)) vs1).set j1 (some y)) H1 (p x y))
    (he : ∀ x ∈ xs, ∀ y ∈ ys, ∀ H1, Ex H H1 → p x y = true → Ev te ((wipe ((wipe σ vs).set j (some x)) vs1).set j1 (some y)) H1 (v x y)) :
    EvL (tLc2 wi (gName j) tYes wi1 (gName j1) t1 te vs vs1) σ H (xs.flatMap fun x => (ys.filter (p x)).map (v x)) := fun H0 e Q q => hwk.go H0 e _ fun H1 e1 Dl hD => by
  refine ⟨fun i m H' => m = xs.length - i ∧ i ≤ xs.length ∧ Ex H1 H' ∧ H' Dl = some (.lst ((xs.take i).flatMap fun x => (ys.filter (p x)).map (v x))), ⟨xs.length, by omega, Nat.zero_le _, Ex.new hD, by rw [upd_same]; rfl⟩, ?_⟩
  rintro i m H' ⟨rfl, hi, ex, hd⟩
  by_cases hlt : i < xs.length
  · refine .inr ⟨hwk.walk.goes i H' hlt (hwk.all _ ((e.trans e1).trans ex)), fun H2 => Ex H1 H2 ∧ H2 Dl = some (.lst ((xs.take (i + 1)).flatMap fun x => (ys.filter (p x)).map (v x))), fun H2 n => ⟨xs.length - (i + 1), by omega, rfl, hlt, n.1, n.2⟩, fun x H2 hy => ?_⟩
    obtain ⟨rfl, hx⟩ := hwk.walk.yields i H' x H2 hlt (hwk.all _ ((e.trans e1).trans ex)) hy
    have hm : x ∈ xs := List.mem_of_getElem? hx
    have w1 := hwk1 x hm
    refine ⟨hw x, rd_yes (iteT ?_)⟩
    have eH : Ex H H2 := (e.trans e1).trans ex
    refine w1.go H2 eH _ fun H3 e3 => ?_
    refine ⟨fun k m H4 => m = ys.length - k ∧ k ≤ ys.length ∧ Ex H1 H4 ∧ H4 Dl = some (.lst (((xs.take i).flatMap fun x => (ys.filter (p x)).map (v x)) ++ ((ys.take k).filter (p x)).map (v x))), ⟨ys.length, by omega, Nat.zero_le _, ex.trans e3, by rw [e3 _ _ hd]; simp⟩, ?_⟩
    rintro k m H4 ⟨rfl, hk, ex4, hd4⟩
    by_cases hlk : k < ys.length
    · refine .inr ⟨w1.walk.goes k H4 hlk (w1.all _ ((e.trans e1).trans ex4)), fun H5 => Ex H1 H5 ∧ H5 Dl = some (.lst (((xs.take i).flatMap fun x => (ys.filter (p x)).map (v x)) ++ ((ys.take (k + 1)).filter (p x)).map (v x))), fun H5 n => ⟨ys.length - (k + 1), by omega, rfl, hlk, n.1, n.2⟩, fun y H5 hy => ?_⟩
      obtain ⟨rfl, hy2⟩ := w1.walk.yields k H4 y H5 hlk (w1.all _ ((e.trans e1).trans ex4)) hy
      have hmy : y ∈ ys := List.mem_of_getElem? hy2
      refine ⟨hw1 x y, ?_⟩
      have e5 : Ex H H5 := (e.trans e1).trans ex4
      refine ht x hm y hmy H1 (e.trans e1) H5 ex4 _ fun H6 e6 => ?_
      have hd6 := e6 _ _ hd4
      cases hp : p x y with
      | true =>
        refine iteT ?_
        refine he x hm y hmy H1 (e.trans e1) hp H6 (ex4.trans e6) _ fun H7 e7 => ⟨_, e7 _ _ hd6, ?_, ?_⟩
        · have h1 := flat_len (xs := xs) (ys := ys) p v i
          have h2 := List.length_filter_le (p x) (ys.take k)
          rw [List.length_append, List.length_map]
          rw [List.length_take] at h2
          have h3 : (i + 1) * ys.length ≤ xs.length * ys.length := Nat.mul_le_mul_right _ hlt
          rw [Nat.succ_mul] at h3
          unfold sizeLine; omega
        · have eD : Ex H1 (upd H7 Dl (.lst (((xs.take i).flatMap fun x => (ys.filter (p x)).map (v x)) ++ ((ys.take k).filter (p x)).map (v x) ++ [v x y]))) := Ex.mut ((ex4.trans e6).trans e7) hD
          refine ⟨eD, ?_⟩
          rw [upd_same, take_succ_get hy2, List.filter_append, List.map_append, List.append_assoc]
          simp [hp]
      | false =>
        refine iteF ?_
        refine ⟨ex4.trans e6, ?_⟩
        rw [hd6, take_succ_get hy2, List.filter_append]
        simp [hp]
    · obtain rfl : k = ys.length := by omega
      refine .inl ⟨w1.walk.stops H4 (w1.all _ ((e.trans e1).trans ex4)), ex4, ?_⟩
      rw [hd4, take_succ_get hx, List.flatMap_append, List.take_length]
      simp
  · obtain rfl : i = xs.length := by omega
    refine .inl ⟨hwk.walk.stops H' (hwk.all _ ((e.trans e1).trans ex)), q Dl H' (fresh_back e1 hD) (e1.trans ex) ?_⟩
    rw [hd, List.take_length]
end
theorem rd_par3 {i j l : Nat} {ta : TA} {D : Ends} {σ : L2.St} {H : Hp} (h : ta σ H fun vs H1 => ∃ u v w, vs = [u, v, w] ∧ D.nx (((σ.set i (some u)).set j (some v)).set l (some w)) H1) : tPar3 i j l ta D σ H := h
theorem rd_par {i j : Nat} {ta : TA} {D : Ends} {σ : L2.St} {H : Hp} (h : ta σ H fun vs H1 => ∃ v w, vs = [v, w] ∧ D.nx ((σ.set i (some v)).set j (some w)) H1) : tPar i j ta D σ H := h
section
variable {X : Cx} {o e : Expr} {to te : TE}
theorem pst_set {i : Nat} {x : Str} {pos pos' : Pos} (hN : X.N.Nodup) (hi : X.N[i]? = some x) (hx : Loc X.env.scope x) (he : PET X e te) (hs : swapsWith e (some (.Name x pos')) pos.line X.env = pure false := by rfl) (hf : X.fn x = true ∨ X.env.scope.names.lookup x = some .local := by first | exact .inl rfl | exact .inr rfl | assumption) :
    PST X (.Assign [.Name x pos'] e pos) (tAsg te (gName i)) := by
  intro pins s σ H D h0 I h
  refine wpAny_Assign_Name (thn (he pins s σ H _ h0 I h) fun v s1 ⟨y, H1, I1, r1, q1⟩ => ?_) hs
  exact store_ok I1 hN hi hx r1 (fun s2 I2 => ⟨_, H1, I2, q1⟩) hf
theorem pet_split {apos pos : Pos} (ho : PET X o to) (he : PE X e te)
    (hs : starEach [e] X.env = [(false, eval e X.env)] := by rfl) (hbase : attributeBase o "split" X.env (eval o X.env) = eval o X.env := by rfl) (hline : (apos.endLine == pos.line) = true := by rfl) :
    PET X (.Call (.Attribute o "split" apos) [e] [] pos) (tM1 rSplitS to te) := by
  intro pins s σ H Q h0 I h
  refine PySem.Call_method1 hbase hs hline (thn (ho pins s σ H _ h0 I h) fun v s1 ⟨x, H1, I1, r1, q1⟩ => ?_)
  obtain ⟨⟨a, rfl⟩, q1⟩ := q1
  obtain ⟨t, rfl⟩ := _root_.id r1
  refine ⟨"str", _, PySem.F.plainAttrs_str, PySem.F.slot_str_split, PySem.F.type_str_split, typeIs_str _ _ _, (fun _ e => nomatch e), Calls.callWith_builtin rfl (Calls.evalArgs_plain (Calls.spliced_cons ?_))⟩
  exact thn (he.run pins s1 σ H1 _ I1 q1) fun u s2 ⟨y, H2, I2, r2, q2⟩ => Calls.spliced_nil (mt_splitA pins s2 σ H2 _ [y] _ [u] Q I2 r1 (.cons r2 .nil) q2)
end
section
variable {P : Program} {w : World} {K : PySem.W.Frag} {mg : Str → Option Value} {base : Heap}
/-- as okX, for a def without captured names whose first statements want a token out -/
theorem okT {x qual : Str} {st : Stmt} {f : Addr} {fd : FuncData} {N ps : List Str} {k : Nat} {sp : Sp} (F : Fun K x qual st f fd) (S : FnScope N ps (defScope st)) (hnc : ∀ y ∈ (defScope st).names, y.2 ≠ .cell) (hps : 1 ≤ ps.length) (len : ∀ vs H Q E, sp vs H Q E → vs.length = ps.length)
    (hbody : ∀ (cdv : Value) (A : Around) (outer : List Env) (s : Shared) (H : Hp) (vs : List V) (Q : VK) (E : XK), Room k (A.deeper (envOfC qual (defScope st) s.heap.objs.size f cdv)) → sp vs H Q E →
      ∃ t, PSsT (cxOf (L2.CX P w) P w K mg base N qual (defScope st) f cdv A outer s H E) (defBody st) t ∧ t { nx := fun _ H' => Q .non H', rt := Q } (start N vs) H) : FnOk P w K mg base (L2.CX P w) (k + 1) f fd ps sp := by
  obtain ⟨oc, od, kV, doc, pm, an, cdv, ct, osl, rfl, lk, hcd⟩ := F.ex
  exact fn_ofT lk hcd S hnc hps len fun A outer s H vs Q E hr hsp => hbody cdv A outer s H vs Q E hr hsp
end
end NW

set_option Elab.async false
set_option linter.all false
set_option maxRecDepth 100000
set_option maxHeartbeats 4000000
namespace K10
open PySem PySem.Spec PyProof.Rows L2 NW
local macro_rules | `(tactic| walk_at "hp") => `(tactic| first
  | assumption
  | exact upd_same
  | (refine upd_keep (by assumption) ?_; walk_at "hp")
  | (refine Same.get (by assumption) ?_; walk_at "hp")
  | (refine upd_oth (by first | assumption | (apply Ne.symm; assumption)) ?_; walk_at "hp"))
local macro_rules | `(tactic| walk_at "sq") => `(tactic| first
  | assumption
  | (refine SqL.of ?_; walk_at "hp")
  | (refine SqT.of ?_; walk_at "hp")
  | (refine Same.seq (by assumption) ?_; walk_at "sq")
  | (refine Same.seq (Same.new (by assumption)) ?_; walk_at "sq"))
local macro_rules | `(tactic| walk_at "rd1") => `(tactic| with_reducible first
  | refine rd_seq ?_ | refine rd_asg ?_ | refine rd_name ?_ | refine rd_ret ?_ | refine rd_drop ?_ | refine rd_next ?_ | refine rd_ifS ?_
  | refine rd_c ?_ | refine rd_op ?_ | refine rd_un ?_ | refine rd_test ?_ | refine rd_B ?_ | refine rd_bl ?_
  | refine rd_not ?_ | refine rd_and ?_ | refine rd_or ?_ | refine rd_andV ?_ | refine rd_orV ?_ | refine rd_notV ?_ | refine rd_blI ?_ | refine rd_if ?_
  | refine rd_nil ?_ | refine rd_cons ?_ | refine rd_cb ?_ | refine rd_sl ?_ | refine rd_none ?_ | refine rd_some ?_ | refine rd_int ?_
  | refine rd_callS ?_ | refine rd_callSD ?_ | refine rd_call ?_ | refine rd_fld ?_ | refine rd_meth ?_ | refine rd_din ?_ | refine rd_dnotin ?_ | refine rd_dget ?_ | refine rd_dput ?_ | refine rd_sfld ?_ | refine rd_make ?_ | refine rd_chain ?_
  | refine rd_step ?_ | refine rd_setl ?_ | refine rd_sub ?_ | refine rd_bm ?_ | refine rd_bm0 ?_ | refine rd_sadd ?_ | refine rd_yes ?_
  | refine rd_tyS ?_ | refine find_s ?_
  | refine rd_bits ?_ | refine rI0_i ?_ | refine rAdd_i ?_ | refine rU_i ?_
  | refine in_sg ?_ | refine notin_sg ?_ | refine abs_i ?_ | refine int_i ?_ | refine int_b ?_)
local macro_rules | `(tactic| walk_at "rdv") => `(tactic| ((with_reducible refine' rd_var ?e ?_); (case e => exact rfl)))
local macro_rules | `(tactic| walk_at "rd") => `(tactic| repeat (first | walk_at "rd1" | walk_at "rdv"))

def topS (i : Nat) : Stmt := PySem.Challenge.pw_nearwish_k10_whole_faulty_texts.main.body.getD i (.Pass ⟨0, 0, 0, 0⟩)
abbrev s_are_letters : Stmt := topS 6
abbrev N_are_letters : List Str := ["value", "letters", "letter"]
theorem sc_are_letters : FnScope N_are_letters ["value", "letters"] (defScope s_are_letters) := ⟨rfl, rfl, rfl, by decide +kernel, rfl, by decide +kernel, by decide +kernel⟩

abbrev s_are_different : Stmt := topS 12
abbrev N_are_different : List Str := ["value", "letters", "most"]
theorem sc_are_different : FnScope N_are_different ["value", "letters", "most"] (defScope s_are_different) := ⟨rfl, rfl, rfl, by decide +kernel, rfl, by decide +kernel, by decide +kernel⟩

abbrev s_is_pair : Stmt := topS 13
abbrev N_is_pair : List Str := ["value", "given", "said"]
theorem sc_is_pair : FnScope N_is_pair ["value", "given", "said"] (defScope s_is_pair) := ⟨rfl, rfl, rfl, by decide +kernel, rfl, by decide +kernel, by decide +kernel⟩

abbrev s_are_pairs : Stmt := topS 14
abbrev N_are_pairs : List Str := ["value", "given", "said", "seen", "pair"]
theorem sc_are_pairs : FnScope N_are_pairs ["value", "given", "said"] (defScope s_are_pairs) := ⟨rfl, rfl, rfl, by decide +kernel, rfl, by decide +kernel, by decide +kernel⟩

abbrev s_Wish_init : Stmt := inClass (topS 15) 0
abbrev N_Wish_init : List Str := ["self", "given", "said", "pairs"]
theorem sc_Wish_init : FnScope N_Wish_init ["self", "given", "said", "pairs"] (defScope s_Wish_init) := ⟨rfl, rfl, rfl, by decide +kernel, rfl, by decide +kernel, by decide +kernel⟩

abbrev s_Wishfill : Stmt := inClass (topS 15) 1
abbrev N_Wishfill : List Str := ["self", "given", "said", "pairs", "x", "s", "pair", "p", "q"]
theorem sc_Wishfill : FnScope N_Wishfill ["self", "given", "said", "pairs"] (defScope s_Wishfill) := ⟨rfl, rfl, rfl, by decide +kernel, rfl, by decide +kernel, by decide +kernel⟩

abbrev s_Wish_given : Stmt := inClass (topS 15) 3
abbrev N_Wish_given : List Str := ["self"]
theorem sc_Wish_given : FnScope N_Wish_given ["self"] (defScope s_Wish_given) := ⟨rfl, rfl, rfl, by decide +kernel, rfl, by decide +kernel, by decide +kernel⟩

abbrev s_Wish_said : Stmt := inClass (topS 15) 4
abbrev N_Wish_said : List Str := ["self"]
theorem sc_Wish_said : FnScope N_Wish_said ["self"] (defScope s_Wish_said) := ⟨rfl, rfl, rfl, by decide +kernel, rfl, by decide +kernel, by decide +kernel⟩

abbrev s_Wish_cells : Stmt := inClass (topS 15) 5
abbrev N_Wish_cells : List Str := ["self"]
theorem sc_Wish_cells : FnScope N_Wish_cells ["self"] (defScope s_Wish_cells) := ⟨rfl, rfl, rfl, by decide +kernel, rfl, by decide +kernel, by decide +kernel⟩

abbrev s_Wish_pairs : Stmt := inClass (topS 15) 6
abbrev N_Wish_pairs : List Str := ["self"]
theorem sc_Wish_pairs : FnScope N_Wish_pairs ["self"] (defScope s_Wish_pairs) := ⟨rfl, rfl, rfl, by decide +kernel, rfl, by decide +kernel, by decide +kernel⟩

abbrev s_wide_wish : Stmt := topS 16
abbrev N_wide_wish : List Str := ["given", "said", "pairs", "wish"]
theorem sc_wide_wish : FnScope N_wide_wish ["given", "said", "pairs"] (defScope s_wide_wish) := ⟨rfl, rfl, rfl, by decide +kernel, rfl, by decide +kernel, by decide +kernel⟩

abbrev s_wish_text : Stmt := topS 18
abbrev N_wish_text : List Str := ["wish"]
theorem sc_wish_text : FnScope N_wish_text ["wish"] (defScope s_wish_text) := ⟨rfl, rfl, rfl, by decide +kernel, rfl, by decide +kernel, by decide +kernel⟩

abbrev s_read_wish : Stmt := topS 19
abbrev N_read_wish : List Str := ["text", "parts", "given", "said", "pairs", "wish"]
theorem sc_read_wish : FnScope N_read_wish ["text"] (defScope s_read_wish) := ⟨rfl, rfl, rfl, by decide +kernel, rfl, by decide +kernel, by decide +kernel⟩

abbrev s_Lhand : Stmt := topS 21
abbrev N_Lhand : List Str := ["_law_script", "_law_cells_here", "_law_cell"]
theorem sc_Lhand : FnScope N_Lhand ["_law_script"] (defScope s_Lhand) := ⟨rfl, rfl, rfl, by decide +kernel, rfl, by decide +kernel, by decide +kernel⟩

abbrev s_Ldraw : Stmt := topS 22
abbrev N_Ldraw : List Str := ["_law_hand_here", "_law_many", "_law_cell", "_law_digit", "_law_number"]
theorem sc_Ldraw : FnScope N_Ldraw ["_law_hand_here", "_law_many"] (defScope s_Ldraw) := ⟨rfl, rfl, rfl, by decide +kernel, rfl, by decide +kernel, by decide +kernel⟩

abbrev s_Lletters : Stmt := topS 23
abbrev N_Lletters : List Str := ["_law_hand_here", "_law_signs", "_law_many", "_law_rest", "_law_found", "_law_turn", "_law_at"]
theorem sc_Lletters : FnScope N_Lletters ["_law_hand_here", "_law_signs", "_law_many"] (defScope s_Lletters) := ⟨rfl, rfl, rfl, by decide +kernel, rfl, by decide +kernel, by decide +kernel⟩

abbrev s_Lcells : Stmt := topS 24
abbrev N_Lcells : List Str := ["_law_given", "_law_said", "_law_cells_here", "_law_letter", "_law_word"]
theorem sc_Lcells : FnScope N_Lcells ["_law_given", "_law_said"] (defScope s_Lcells) := ⟨rfl, rfl, rfl, by decide +kernel, rfl, by decide +kernel, by decide +kernel⟩

abbrev s_Lfits : Stmt := topS 25
abbrev N_Lfits : List Str := ["_law_kind", "_law_given", "_law_said", "_law_one", "_law_other", "_law_first", "_law_second", "_law_last", "_law_ends"]
theorem sc_Lfits : FnScope N_Lfits ["_law_kind", "_law_given", "_law_said", "_law_one", "_law_other"] (defScope s_Lfits) := ⟨rfl, rfl, rfl, by decide +kernel, rfl, by decide +kernel, by decide +kernel⟩

abbrev s_Lpairs : Stmt := topS 26
abbrev N_Lpairs : List Str := ["_law_hand_here", "_law_given", "_law_said", "_law_kind", "_law_share", "_law_cells_here", "_law_pairs_here", "_law_one", "_law_other", "_law_fits_here"]
theorem sc_Lpairs : FnScope N_Lpairs ["_law_hand_here", "_law_given", "_law_said"] (defScope s_Lpairs) := ⟨rfl, rfl, rfl, by decide +kernel, rfl, by decide +kernel, by decide +kernel⟩

abbrev s_Lparts : Stmt := topS 27
abbrev N_Lparts : List Str := ["_law_hand_here", "_law_many", "_law_told", "_law_given", "_law_said"]
theorem sc_Lparts : FnScope N_Lparts ["_law_hand_here"] (defScope s_Lparts) := ⟨rfl, rfl, rfl, by decide +kernel, rfl, by decide +kernel, by decide +kernel⟩

abbrev s_Lletters_of : Stmt := topS 28
abbrev N_Lletters_of : List Str := ["_law_line", "_law_word", "_law_signs", "_law_letters_here", "_law_letter"]
theorem sc_Lletters_of : FnScope N_Lletters_of ["_law_line", "_law_word", "_law_signs"] (defScope s_Lletters_of) := ⟨rfl, rfl, rfl, by decide +kernel, rfl, by decide +kernel, by decide +kernel⟩

abbrev s_Ldue : Stmt := topS 29
abbrev N_Ldue : List Str := ["_law_text", "_law_lines", "_law_given", "_law_said", "_law_rest", "_law_pairs_here", "_law_last", "_law_cells_here", "_law_turn", "_law_pair", "_law_place"]
theorem sc_Ldue : FnScope N_Ldue ["_law_text"] (defScope s_Ldue) := ⟨rfl, rfl, rfl, by decide +kernel, rfl, by decide +kernel, by decide +kernel⟩

abbrev s_Llines_changed : Stmt := topS 30
abbrev N_Llines_changed : List Str := ["_law_hand_here", "_law_text", "_law_lines", "_law_one", "_law_other", "_law_kind", "_law_kept", "_law_words"]
theorem sc_Llines_changed : FnScope N_Llines_changed ["_law_hand_here", "_law_text"] (defScope s_Llines_changed) := ⟨rfl, rfl, rfl, by decide +kernel, rfl, by decide +kernel, by decide +kernel⟩

abbrev s_Lwords_changed : Stmt := topS 31
abbrev N_Lwords_changed : List Str := ["_law_hand_here", "_law_text", "_law_words", "_law_one", "_law_other", "_law_kind", "_law_kept"]
theorem sc_Lwords_changed : FnScope N_Lwords_changed ["_law_hand_here", "_law_text"] (defScope s_Lwords_changed) := ⟨rfl, rfl, rfl, by decide +kernel, rfl, by decide +kernel, by decide +kernel⟩

abbrev s_Lchanged : Stmt := topS 32
abbrev N_Lchanged : List Str := ["_law_hand_here", "_law_text", "_law_kind", "_law_at", "_law_sign"]
theorem sc_Lchanged : FnScope N_Lchanged ["_law_hand_here", "_law_text"] (defScope s_Lchanged) := ⟨rfl, rfl, rfl, by decide +kernel, rfl, by decide +kernel, by decide +kernel⟩

abbrev s_Lread : Stmt := topS 33
abbrev N_Lread : List Str := ["_law_text", "_law_found", "e"]
theorem sc_Lread : FnScope N_Lread ["_law_text"] (defScope s_Lread) := ⟨rfl, rfl, rfl, by decide +kernel, rfl, by decide +kernel, by decide +kernel⟩

abbrev s_Lis_right : Stmt := topS 34
abbrev N_Lis_right : List Str := ["_law_text", "_law_due_here", "_law_way", "_law_told"]
theorem sc_Lis_right : FnScope N_Lis_right ["_law_text"] (defScope s_Lis_right) := ⟨rfl, rfl, rfl, by decide +kernel, rfl, by decide +kernel, by decide +kernel⟩

abbrev s_law : Stmt := topS 35
abbrev N_law : List Str := ["_law_script", "_law_hand_here", "_law_given", "_law_said", "_law_pairs_here", "_law_text", "_law_turn", "_law_changed_here", "_law_step", "_law_thing"]
theorem sc_law : FnScope N_law ["_law_script"] (defScope s_law) := ⟨rfl, rfl, rfl, by decide +kernel, rfl, by decide +kernel, by decide +kernel⟩

structure Txt (K : PySem.W.Frag) (mg : Str → Option Value) where
  b_ValueError : mg "ValueError" = none
  b_abs : mg "abs" = none
  b_all : mg "all" = none
  b_int : mg "int" = none
  b_isinstance : mg "isinstance" = none
  b_len : mg "len" = none
  b_list : mg "list" = none
  b_range : mg "range" = none
  b_set : mg "set" = none
  b_str : mg "str" = none
  tk_GIVEN_LETTERS : Tok
  mg_GIVEN_LETTERS : mg "GIVEN_LETTERS" = some (.str "abcdefghijklmnopqrstuvwxyz" tk_GIVEN_LETTERS)
  tk_SAID_LETTERS : Tok
  mg_SAID_LETTERS : mg "SAID_LETTERS" = some (.str "ABCDEFGHIJKLMNOPQRSTUVWXYZ" tk_SAID_LETTERS)
  tk_MOST_GIVEN : Tok
  mg_MOST_GIVEN : mg "MOST_GIVEN" = some (.int 3 tk_MOST_GIVEN)
  tk_MOST_SAID : Tok
  mg_MOST_SAID : mg "MOST_SAID" = some (.int 4 tk_MOST_SAID)
  C_Wish : Addr
  cl_Wish : Cls K C_Wish
  mg_Wish : mg "Wish" = some (.ref C_Wish)
  oq_cl_Wish : PySem.W.findIn K (.ref C_Wish) "__class__" = some (some (.builtin "object.__class__"))
  oq_gt_Wish : PySem.W.specialIn K (.builtin "object.__class__") "__get__" = some (some (.builtin "getset_descriptor.__get__"))
  oq_tk_Wish : PySem.W.takesIn K (.builtin "object.__class__") = some true
  oq_mr_Wish : PySem.W.mroIn K C_Wish (.type "object") = some true
  sk_Wish_str : PySem.W.subIn K (.ref C_Wish) (.type "str") = some false
  na_Wish_given : NoAttr K C_Wish "_given"
  na_Wish_said : NoAttr K C_Wish "_said"
  na_Wish_cells : NoAttr K C_Wish "_cells"
  na_Wish_allowed : NoAttr K C_Wish "_allowed"
  na_Wish_pairs : NoAttr K C_Wish "_pairs"
  na_Wish_kept : NoAttr K C_Wish "_kept"
  f_are_letters : Addr
  fd_are_letters : FuncData
  F_are_letters : Fun K "are_letters" "are_letters" s_are_letters f_are_letters fd_are_letters
  bd_are_letters : Binds K fd_are_letters ["value", "letters"] []
  mg_are_letters : mg "are_letters" = some (.ref f_are_letters)
  kp_are_letters : PySem.W.keepIn K (.ref f_are_letters) = true
  f_are_different : Addr
  fd_are_different : FuncData
  F_are_different : Fun K "are_different" "are_different" s_are_different f_are_different fd_are_different
  bd_are_different : Binds K fd_are_different ["value", "letters", "most"] []
  mg_are_different : mg "are_different" = some (.ref f_are_different)
  kp_are_different : PySem.W.keepIn K (.ref f_are_different) = true
  f_is_pair : Addr
  fd_is_pair : FuncData
  F_is_pair : Fun K "_is_pair" "_is_pair" s_is_pair f_is_pair fd_is_pair
  bd_is_pair : Binds K fd_is_pair ["value", "given", "said"] []
  mg_is_pair : mg "_is_pair" = some (.ref f_is_pair)
  kp_is_pair : PySem.W.keepIn K (.ref f_is_pair) = true
  f_are_pairs : Addr
  fd_are_pairs : FuncData
  F_are_pairs : Fun K "are_pairs" "are_pairs" s_are_pairs f_are_pairs fd_are_pairs
  bd_are_pairs : Binds K fd_are_pairs ["value", "given", "said"] []
  mg_are_pairs : mg "are_pairs" = some (.ref f_are_pairs)
  kp_are_pairs : PySem.W.keepIn K (.ref f_are_pairs) = true
  f_Wish_init : Addr
  fd_Wish_init : FuncData
  F_Wish_init : Fun K "__init__" "Wish.__init__" s_Wish_init f_Wish_init fd_Wish_init
  bd_Wish_init : Binds K fd_Wish_init ["self", "given", "said", "pairs"] []
  mk_Wish : Mk K C_Wish f_Wish_init
  f_Wishfill : Addr
  fd_Wishfill : FuncData
  F_Wishfill : Fun K "_fill" "Wish._fill" s_Wishfill f_Wishfill fd_Wishfill
  bd_Wishfill : Binds K fd_Wishfill ["self", "given", "said", "pairs"] []
  mt_Wishfill : Meth K C_Wish "_fill" f_Wishfill
  f_Wish_given : Addr
  fd_Wish_given : FuncData
  F_Wish_given : Fun K "given" "Wish.given" s_Wish_given f_Wish_given fd_Wish_given
  bd_Wish_given : Binds K fd_Wish_given ["self"] []
  mt_Wish_given : Meth K C_Wish "given" f_Wish_given
  f_Wish_said : Addr
  fd_Wish_said : FuncData
  F_Wish_said : Fun K "said" "Wish.said" s_Wish_said f_Wish_said fd_Wish_said
  bd_Wish_said : Binds K fd_Wish_said ["self"] []
  mt_Wish_said : Meth K C_Wish "said" f_Wish_said
  f_Wish_cells : Addr
  fd_Wish_cells : FuncData
  F_Wish_cells : Fun K "cells" "Wish.cells" s_Wish_cells f_Wish_cells fd_Wish_cells
  f_Wish_pairs : Addr
  fd_Wish_pairs : FuncData
  F_Wish_pairs : Fun K "pairs" "Wish.pairs" s_Wish_pairs f_Wish_pairs fd_Wish_pairs
  bd_Wish_pairs : Binds K fd_Wish_pairs ["self"] []
  mt_Wish_pairs : Meth K C_Wish "pairs" f_Wish_pairs
  f_wide_wish : Addr
  fd_wide_wish : FuncData
  F_wide_wish : Fun K "wide_wish" "wide_wish" s_wide_wish f_wide_wish fd_wide_wish
  bd_wide_wish : Binds K fd_wide_wish ["given", "said", "pairs"] []
  mg_wide_wish : mg "wide_wish" = some (.ref f_wide_wish)
  kp_wide_wish : PySem.W.keepIn K (.ref f_wide_wish) = true
  f_wish_text : Addr
  fd_wish_text : FuncData
  F_wish_text : Fun K "wish_text" "wish_text" s_wish_text f_wish_text fd_wish_text
  bd_wish_text : Binds K fd_wish_text ["wish"] []
  mg_wish_text : mg "wish_text" = some (.ref f_wish_text)
  kp_wish_text : PySem.W.keepIn K (.ref f_wish_text) = true
  f_read_wish : Addr
  fd_read_wish : FuncData
  F_read_wish : Fun K "read_wish" "read_wish" s_read_wish f_read_wish fd_read_wish
  bd_read_wish : Binds K fd_read_wish ["text"] []
  mg_read_wish : mg "read_wish" = some (.ref f_read_wish)
  kp_read_wish : PySem.W.keepIn K (.ref f_read_wish) = true
  f_Lhand : Addr
  fd_Lhand : FuncData
  F_Lhand : Fun K "_law_hand" "_law_hand" s_Lhand f_Lhand fd_Lhand
  bd_Lhand : Binds K fd_Lhand ["_law_script"] []
  mg_Lhand : mg "_law_hand" = some (.ref f_Lhand)
  kp_Lhand : PySem.W.keepIn K (.ref f_Lhand) = true
  f_Ldraw : Addr
  fd_Ldraw : FuncData
  F_Ldraw : Fun K "_law_draw" "_law_draw" s_Ldraw f_Ldraw fd_Ldraw
  bd_Ldraw : Binds K fd_Ldraw ["_law_hand_here", "_law_many"] []
  mg_Ldraw : mg "_law_draw" = some (.ref f_Ldraw)
  kp_Ldraw : PySem.W.keepIn K (.ref f_Ldraw) = true
  f_Lletters : Addr
  fd_Lletters : FuncData
  F_Lletters : Fun K "_law_letters" "_law_letters" s_Lletters f_Lletters fd_Lletters
  bd_Lletters : Binds K fd_Lletters ["_law_hand_here", "_law_signs", "_law_many"] []
  mg_Lletters : mg "_law_letters" = some (.ref f_Lletters)
  kp_Lletters : PySem.W.keepIn K (.ref f_Lletters) = true
  f_Lcells : Addr
  fd_Lcells : FuncData
  F_Lcells : Fun K "_law_cells" "_law_cells" s_Lcells f_Lcells fd_Lcells
  bd_Lcells : Binds K fd_Lcells ["_law_given", "_law_said"] []
  mg_Lcells : mg "_law_cells" = some (.ref f_Lcells)
  kp_Lcells : PySem.W.keepIn K (.ref f_Lcells) = true
  f_Lfits : Addr
  fd_Lfits : FuncData
  F_Lfits : Fun K "_law_fits" "_law_fits" s_Lfits f_Lfits fd_Lfits
  bd_Lfits : Binds K fd_Lfits ["_law_kind", "_law_given", "_law_said", "_law_one", "_law_other"] []
  mg_Lfits : mg "_law_fits" = some (.ref f_Lfits)
  kp_Lfits : PySem.W.keepIn K (.ref f_Lfits) = true
  f_Lpairs : Addr
  fd_Lpairs : FuncData
  F_Lpairs : Fun K "_law_pairs" "_law_pairs" s_Lpairs f_Lpairs fd_Lpairs
  bd_Lpairs : Binds K fd_Lpairs ["_law_hand_here", "_law_given", "_law_said"] []
  mg_Lpairs : mg "_law_pairs" = some (.ref f_Lpairs)
  kp_Lpairs : PySem.W.keepIn K (.ref f_Lpairs) = true
  f_Lparts : Addr
  fd_Lparts : FuncData
  F_Lparts : Fun K "_law_parts" "_law_parts" s_Lparts f_Lparts fd_Lparts
  bd_Lparts : Binds K fd_Lparts ["_law_hand_here"] []
  mg_Lparts : mg "_law_parts" = some (.ref f_Lparts)
  kp_Lparts : PySem.W.keepIn K (.ref f_Lparts) = true
  f_Lletters_of : Addr
  fd_Lletters_of : FuncData
  F_Lletters_of : Fun K "_law_letters_of" "_law_letters_of" s_Lletters_of f_Lletters_of fd_Lletters_of
  bd_Lletters_of : Binds K fd_Lletters_of ["_law_line", "_law_word", "_law_signs"] []
  mg_Lletters_of : mg "_law_letters_of" = some (.ref f_Lletters_of)
  kp_Lletters_of : PySem.W.keepIn K (.ref f_Lletters_of) = true
  f_Ldue : Addr
  fd_Ldue : FuncData
  F_Ldue : Fun K "_law_due" "_law_due" s_Ldue f_Ldue fd_Ldue
  bd_Ldue : Binds K fd_Ldue ["_law_text"] []
  mg_Ldue : mg "_law_due" = some (.ref f_Ldue)
  kp_Ldue : PySem.W.keepIn K (.ref f_Ldue) = true
  f_Llines_changed : Addr
  fd_Llines_changed : FuncData
  F_Llines_changed : Fun K "_law_lines_changed" "_law_lines_changed" s_Llines_changed f_Llines_changed fd_Llines_changed
  bd_Llines_changed : Binds K fd_Llines_changed ["_law_hand_here", "_law_text"] []
  mg_Llines_changed : mg "_law_lines_changed" = some (.ref f_Llines_changed)
  kp_Llines_changed : PySem.W.keepIn K (.ref f_Llines_changed) = true
  f_Lwords_changed : Addr
  fd_Lwords_changed : FuncData
  F_Lwords_changed : Fun K "_law_words_changed" "_law_words_changed" s_Lwords_changed f_Lwords_changed fd_Lwords_changed
  bd_Lwords_changed : Binds K fd_Lwords_changed ["_law_hand_here", "_law_text"] []
  mg_Lwords_changed : mg "_law_words_changed" = some (.ref f_Lwords_changed)
  kp_Lwords_changed : PySem.W.keepIn K (.ref f_Lwords_changed) = true
  f_Lchanged : Addr
  fd_Lchanged : FuncData
  F_Lchanged : Fun K "_law_changed" "_law_changed" s_Lchanged f_Lchanged fd_Lchanged
  bd_Lchanged : Binds K fd_Lchanged ["_law_hand_here", "_law_text"] []
  mg_Lchanged : mg "_law_changed" = some (.ref f_Lchanged)
  kp_Lchanged : PySem.W.keepIn K (.ref f_Lchanged) = true
  f_Lread : Addr
  fd_Lread : FuncData
  F_Lread : Fun K "_law_read" "_law_read" s_Lread f_Lread fd_Lread
  bd_Lread : Binds K fd_Lread ["_law_text"] []
  mg_Lread : mg "_law_read" = some (.ref f_Lread)
  kp_Lread : PySem.W.keepIn K (.ref f_Lread) = true
  f_Lis_right : Addr
  fd_Lis_right : FuncData
  F_Lis_right : Fun K "_law_is_right" "_law_is_right" s_Lis_right f_Lis_right fd_Lis_right
  bd_Lis_right : Binds K fd_Lis_right ["_law_text"] []
  mg_Lis_right : mg "_law_is_right" = some (.ref f_Lis_right)
  kp_Lis_right : PySem.W.keepIn K (.ref f_Lis_right) = true
  f_law : Addr
  fd_law : FuncData
  F_law : Fun K "law" "law" s_law f_law fd_law
  X_NoText : Addr
  mg_NoText : mg "NoText" = some (.ref X_NoText)
  kp_NoText : PySem.W.keepIn K (.ref X_NoText) = true
  xc_NoText : PySem.W.excIn K X_NoText [.type "ValueError", .type "Exception", .type "BaseException", .type "object"] "ValueError.__new__" = true
  sb_NoText : PySem.W.subIn K (.ref X_NoText) (.type "BaseException") = some true
  ty_NoText : PySem.W.typeIn K (.ref X_NoText) = some (.type "type")
  X_NearError : Addr
  mg_NearError : mg "NearError" = some (.ref X_NearError)
  ec_NoText : ExcC K X_NoText
  ki_NoText_NearError : PySem.W.kitOne K (.ref X_NoText) (.ref X_NearError) = some true
  ve_NoText : PySem.W.subIn K (.ref X_NoText) (.type "ValueError") = some true
  xm_NoText_NoText : PySem.W.exmOne K (.ref X_NoText) (.ref X_NoText) = some true

/-! ### a Wish as it stands -/
def cellsOf (gv sd : List Nat) : List (List Nat) := gv.flatMap fun x => sd.map fun s => [x, s]
def pairsOf (gv sd : List Nat) (ps : List (List Nat)) : List (List Nat) := (cellsOf gv sd).flatMap fun p => ((cellsOf gv sd).filter fun q => decide (p ++ q ∈ ps)).map fun q => p ++ q
def wf (gv sd : List Nat) (cl al pl kd : Addr) : List (Str × V) := [("_given", .str (tx gv)), ("_said", .str (tx sd)), ("_cells", .ref cl), ("_allowed", .ref al), ("_pairs", .ref pl), ("_kept", .ref kd)]
structure WishAt (C : Addr) (H : Hp) (w : Addr) (gv sd : List Nat) (ps : List (List Nat)) (cl al pl : Addr) : Prop where
  ob : ∃ dx kd, H w = some (.ins C dx (wf gv sd cl al pl kd))
  ce : H cl = some (.lst ((cellsOf gv sd).map fun c => .str (tx c)))
  al : H al = some (.dK (ps.map fun p => (.inr (tx p), .bl true)))
  pr : H pl = some (.lst ((pairsOf gv sd ps).map fun c => .str (tx c)))
def IsWish (C : Addr) (H : Hp) (w : Addr) (gv sd : List Nat) (ps : List (List Nat)) : Prop := ∃ cl al pl, WishAt C H w gv sd ps cl al pl
theorem IsWish.mono {C : Addr} {H H' : Hp} {w : Addr} {gv sd : List Nat} {ps : List (List Nat)} (h : IsWish C H w gv sd ps) (s : Same H H') : IsWish C H' w gv sd ps := by
  obtain ⟨cl, al, pl, ⟨dx, kd, h1⟩, h2, h3, h4⟩ := h
  exact ⟨cl, al, pl, ⟨dx, kd, s _ _ h1⟩, s _ _ h2, s _ _ h3, s _ _ h4⟩
theorem lk_hit {k : Str} {v : V} {r : List (Str × V)} : List.lookup k ((k, v) :: r) = some v := by
  show (match k == k with | true => some v | false => List.lookup k r) = some v
  rw [beq_self_eq_true]
theorem lk_miss {k j : Str} {v : V} {r : List (Str × V)} (h : ¬ k = j) : List.lookup k ((j, v) :: r) = List.lookup k r := by
  show (match k == j with | true => some v | false => List.lookup k r) = _
  rw [beq_eq_false_iff_ne.mpr h]
theorem put_hit {k : Str} {v x : V} {r : List (Str × V)} : putF k v ((k, x) :: r) = (k, v) :: r := by
  show (if k = k then _ else _) = _
  rw [if_pos rfl]
theorem put_miss {k j : Str} {v x : V} {r : List (Str × V)} (h : ¬ j = k) : putF k v ((j, x) :: r) = (j, x) :: putF k v r := by
  show (if j = k then _ else _) = _
  rw [if_neg h]
theorem put_nil {k : Str} {v : V} : putF k v [] = [(k, v)] := rfl
section
variable {gv sd : List Nat} {cl al pl kd : Addr}
theorem wf_given : (wf gv sd cl al pl kd).lookup ("_given" : Str) = some (.str (tx gv)) := lk_hit
theorem wf_said : (wf gv sd cl al pl kd).lookup ("_said" : Str) = some (.str (tx sd)) := (lk_miss (by decide +kernel)).trans lk_hit
theorem wf_cells : (wf gv sd cl al pl kd).lookup ("_cells" : Str) = some (.ref cl) := (lk_miss (by decide +kernel)).trans ((lk_miss (by decide +kernel)).trans lk_hit)
theorem wf_allowed : (wf gv sd cl al pl kd).lookup ("_allowed" : Str) = some (.ref al) := (lk_miss (by decide +kernel)).trans ((lk_miss (by decide +kernel)).trans ((lk_miss (by decide +kernel)).trans lk_hit))
theorem wf_pairs : (wf gv sd cl al pl kd).lookup ("_pairs" : Str) = some (.ref pl) := (lk_miss (by decide +kernel)).trans ((lk_miss (by decide +kernel)).trans ((lk_miss (by decide +kernel)).trans ((lk_miss (by decide +kernel)).trans lk_hit)))
theorem wf_kept : (wf gv sd cl al pl kd).lookup ("_kept" : Str) = some (.ref kd) := (lk_miss (by decide +kernel)).trans ((lk_miss (by decide +kernel)).trans ((lk_miss (by decide +kernel)).trans ((lk_miss (by decide +kernel)).trans ((lk_miss (by decide +kernel)).trans lk_hit))))
theorem wf_no {m : Str} (h1 : ¬ m = "_given") (h2 : ¬ m = "_said") (h3 : ¬ m = "_cells") (h4 : ¬ m = "_allowed") (h5 : ¬ m = "_pairs") (h6 : ¬ m = "_kept") : (wf gv sd cl al pl kd).lookup m = none :=
  (lk_miss h1).trans ((lk_miss h2).trans ((lk_miss h3).trans ((lk_miss h4).trans ((lk_miss h5).trans ((lk_miss h6).trans rfl)))))
end
theorem val_pairs (ps : List (List Nat)) (p : List Nat) : (valV (ps.map fun p => ((Sum.inr (tx p) : Key), V.bl true)) (Sum.inr (tx p))).isSome = decide (p ∈ ps) := by
  induction ps with
  | nil => rfl
  | cons q r ih =>
    unfold valV at ih ⊢
    rw [List.map_cons, List.find?_cons]
    by_cases h : q = p
    · subst h
      simp
    · have h1 : ¬ ((Sum.inr (tx q) : Key) = Sum.inr (tx p)) := fun e => h (tx_inj (Sum.inr.inj e))
      rw [decide_eq_false h1]
      show (Option.map _ (List.find? _ _)).isSome = _
      rw [ih]
      have h2 : (p ∈ q :: r) ↔ p ∈ r := by
        rw [List.mem_cons]
        exact ⟨fun x => x.resolve_left fun e => h e.symm, Or.inr⟩
      by_cases h3 : p ∈ r
      · rw [decide_eq_true h3, decide_eq_true (h2.mpr h3)]
      · rw [decide_eq_false h3, decide_eq_false fun x => h3 (h2.mp x)]

section
variable {P : Program} {w : World} {K : PySem.W.Frag} {mg : Str → Option Value} {base : Heap}
/-! ### the methods that hand out -/
def sp_given (C : Addr) : Sp := fun vs H Q _ => ∃ a gv sd ps, vs = [.ref a] ∧ IsWish C H a gv sd ps ∧ Q (.str (tx gv)) H
theorem ok_Wish_given (T : Txt K mg) : FnOk P w K mg base (L2.CX P w) 1 T.f_Wish_given T.fd_Wish_given ["self"] (sp_given T.C_Wish) := by
  refine T.F_Wish_given.okX sc_Wish_given (fun vs H Q E h => ?_) (fun cdv A outer s H vs Q E hr h => ?_)
  · obtain ⟨_, _, _, _, rfl, _⟩ := h
    rfl
  · obtain ⟨a, gv, sd, ps, rfl, ⟨cl, al, pl, ⟨dx, kd, h1⟩, _⟩, k⟩ := h
    refine ⟨_, (pss_one (ps_ret (pe_fldK (K := K) rfl (pv 0) rfl))), ?_⟩
    walk_at "rd"
    exact ⟨a, T.C_Wish, dx, _, _, rfl, h1, T.cl_Wish, T.na_Wish_given, wf_given, k⟩
def sp_said (C : Addr) : Sp := fun vs H Q _ => ∃ a gv sd ps, vs = [.ref a] ∧ IsWish C H a gv sd ps ∧ Q (.str (tx sd)) H
theorem ok_Wish_said (T : Txt K mg) : FnOk P w K mg base (L2.CX P w) 1 T.f_Wish_said T.fd_Wish_said ["self"] (sp_said T.C_Wish) := by
  refine T.F_Wish_said.okX sc_Wish_said (fun vs H Q E h => ?_) (fun cdv A outer s H vs Q E hr h => ?_)
  · obtain ⟨_, _, _, _, rfl, _⟩ := h
    rfl
  · obtain ⟨a, gv, sd, ps, rfl, ⟨cl, al, pl, ⟨dx, kd, h1⟩, _⟩, k⟩ := h
    refine ⟨_, (pss_one (ps_ret (pe_fldK (K := K) rfl (pv 0) rfl))), ?_⟩
    walk_at "rd"
    exact ⟨a, T.C_Wish, dx, _, _, rfl, h1, T.cl_Wish, T.na_Wish_said, wf_said, k⟩
end

section
variable {P : Program} {w : World} {K : PySem.W.Frag} {mg : Str → Option Value} {base : Heap}
/-- what is no text -/
def NoText (K : PySem.W.Frag) (H : Hp) (v : V) : Prop := ∃ t, TyX K H v t ∧ PySem.W.kitOne K t (.type "str") = some false
def sp_are_letters (K : PySem.W.Frag) : Sp := fun vs H Q _ => ∃ v L, vs = [v, .str (tx L)] ∧
  ((∃ l, v = .str (tx l) ∧ l.length ≤ 40000 ∧ ∀ H', Same H H' → Q (.bl (l.all fun c => decide (c ∈ L))) H') ∨ (NoText K H v ∧ Q (.bl false) H))
theorem ok_are_letters (T : Txt K mg) : FnOk P w K mg base (L2.CX P w) 1 T.f_are_letters T.fd_are_letters ["value", "letters"] (sp_are_letters K) := by
  refine T.F_are_letters.okX sc_are_letters (fun vs H Q E h => ?_) (fun cdv A outer s H vs Q E hr h => ?_)
  · obtain ⟨_, _, rfl, _⟩ := h
    rfl
  · obtain ⟨v, L, rfl, h⟩ := h
    refine ⟨_, (pss_one (ps_ret (pe_and (pe_callB (call_isiK1 (K := K) rfl) (by rfl) T.b_isinstance boot_isinstance (pa_cons (pv 0) (pa_cons (pe_bltn (v := .ty "str") rfl T.b_str boot_str rfl) pa_nil))) (pe_one (pe_callB (cr_allK (K := K) rfl rfl) (by rfl) T.b_all (by decide +kernel) (pa_cons (pe_lc (own := [("letter", 2)]) rfl sc_are_letters.nd (pi_str (pv 0)) (blkOk_by (N := N_are_letters) (sc := defScope s_are_letters) (by decide +kernel))
   (fun _ _ _ _ _ => (pg_name (i := 2) sc_are_letters.nd rfl (by first | exact Or.inl rfl | exact Or.inr rfl))) (fun _ _ _ _ _ => pts_nil) (fun _ _ _ _ _ => (pe_cmpR op_inSg (pv 2) (pv 1) (by with_unfolding_all rfl)))) pa_nil)))))), ?_⟩
    walk_at "rd"
    rcases h with ⟨l, rfl, hz, k⟩ | ⟨⟨t, ht, hk⟩, k⟩
    · refine ⟨_, _, _, _, true, rfl, .ty "str", .base (.str _), kit_ty (by decide +kernel), ?_⟩
      walk_at "rd"
      refine iteT ?_
      walk_at "rd"
      refine rd_L (el_lcS (l := l) (fun _ => true) (fun c => .bl (decide (c ∈ L))) (Evl.ev_var rfl) hz (fun _ => rfl) (fun _ _ _ _ => ev_yes) (fun c _ H1 _ _ H2 e2 Q q => ?_)) fun p H1 hp hs hl => ?_
      · walk_at "rd"
        exact q H2 (Evl.Ex.refl _)
      · walk_at "rd"
        refine ⟨p, l.map fun c => decide (c ∈ L), rfl, SqL.of ?_, ?_⟩
        · rw [hl, List.filter_eq_self.mpr (fun _ _ => rfl), List.map_map]
          rfl
        · have e : (l.map fun c => decide (c ∈ L)).all id = l.all fun c => decide (c ∈ L) := by rw [List.all_map]; rfl
          rw [e]
          exact k H1 hs
    · refine ⟨_, _, _, _, false, rfl, .ty "str", ht, hk, ?_⟩
      walk_at "rd"
      exact iteF k
end

section
variable {P : Program} {w : World} {K : PySem.W.Frag} {mg : Str → Option Value} {base : Heap}
/-- a ring of the given letters; an answer of so many said letters -/
def RingOf (gv l : List Nat) : Prop := l ≠ [] ∧ ∀ c ∈ l, c ∈ gv
instance (gv l : List Nat) : Decidable (RingOf gv l) := by unfold RingOf; exact inferInstance
def AnsOf (sd l m : List Nat) : Prop := m.length = l.length ∧ ∀ c ∈ m, c ∈ sd
instance (sd l m : List Nat) : Decidable (AnsOf sd l m) := by unfold AnsOf; exact inferInstance
theorem all_iff (l L : List Nat) : (l.all fun c => decide (c ∈ L)) = true ↔ ∀ c ∈ l, c ∈ L := by simp
end

section
variable {P : Program} {w : World} {K : PySem.W.Frag} {mg : Str → Option Value} {base : Heap}
theorem NoText.mono {H H' : Hp} {v : V} (h : NoText K H v) (s : Same H H') : NoText K H' v := by
  obtain ⟨t, ht, hk⟩ := h
  refine ⟨t, ?_, hk⟩
  cases ht with
  | base b =>
    cases b with
    | non => exact .base .non
    | bl y => exact .base (.bl y)
    | int i => exact .base (.int i)
    | str y => exact .base (.str y)
    | flt y => exact .base (.flt y)
    | lst e => exact .base (.lst (s _ _ e))
    | frz e => exact .base (.frz (s _ _ e))
    | tup e => exact .base (.tup (s _ _ e))
    | dK e => exact .base (.dK (s _ _ e))
    | dT e => exact .base (.dT (s _ _ e))
    | ins e c h1 h2 h3 h4 => exact .base (.ins (s _ _ e) c h1 h2 h3 h4)
  | byt b => exact .byt b
  | set e => exact .set (s _ _ e)
  | kList e c => exact .kList e c
  | kTuple e c => exact .kTuple e c
  | kDict e c => exact .kDict e c
  | fTuple e => exact .fTuple (s _ _ e)
  | fDict e => exact .fDict (s _ _ e)
end

section
variable {P : Program} {w : World} {K : PySem.W.Frag} {mg : Str → Option Value} {base : Heap}
theorem dif_nodup (l : List Nat) : dif (fun i => l.getD i 0) l.length = l.length ↔ l.Nodup := by
  have key : ∀ i, i ≤ l.length → (dif (fun i => l.getD i 0) i = i ↔ (l.take i).Nodup) := by
    intro i
    induction i with
    | zero => intro _; simp [dif]
    | succ i ih =>
      intro hi
      have ih := ih (by omega)
      have hle := dif_le (fun i => l.getD i 0) i
      have hg : l[i]? = some (l.getD i 0) := by simp [List.getD, List.getElem?_eq_getElem (show i < l.length by omega)]
      rw [take_succ_get hg, List.nodup_append]
      have hmem : ((List.range i).any (fun j => l.getD j 0 == l.getD i 0)) = true ↔ l.getD i 0 ∈ l.take i := by
        rw [List.any_eq_true]
        constructor
        · rintro ⟨j, hj, he⟩
          have hj' : j < i := List.mem_range.mp hj
          rw [← beq_iff_eq.mp he]
          have : (l.take i)[j]? = some (l.getD j 0) := by
            rw [List.getElem?_take_of_lt hj']
            simp [List.getD, List.getElem?_eq_getElem (show j < l.length by omega)]
          exact List.mem_of_getElem? this
        · intro hm
          obtain ⟨j, hj, he⟩ := List.getElem_of_mem hm
          rw [List.length_take] at hj
          refine ⟨j, List.mem_range.mpr (by omega), beq_iff_eq.mpr ?_⟩
          rw [← he, List.getElem_take]
          simp [List.getD, List.getElem?_eq_getElem (show j < l.length by omega)]
      unfold dif
      by_cases hm : l.getD i 0 ∈ l.take i
      · rw [if_pos (hmem.mpr hm)]
        constructor
        · intro h; omega
        · rintro ⟨_, _, h⟩
          exact absurd rfl (h _ hm _ (List.mem_singleton.mpr rfl))
      · rw [if_neg (fun h => hm (hmem.mp h))]
        constructor
        · intro h
          refine ⟨ih.mp (by omega), by simp, fun a ha b hb e => ?_⟩
          rw [List.mem_singleton.mp hb] at e
          exact hm (e ▸ ha)
        · rintro ⟨h, _⟩
          have := ih.mpr h
          omega
  have := key l.length (Nat.le_refl _)
  rwa [List.take_length] at this
/-- letters as [6] has them -/
def OkDiff (L : List Nat) (most : Int) (l : List Nat) : Prop := (∀ c ∈ l, c ∈ L) ∧ 1 ≤ l.length ∧ (l.length : Int) ≤ most ∧ l.Nodup
instance (L : List Nat) (most : Int) (l : List Nat) : Decidable (OkDiff L most l) := by unfold OkDiff; exact inferInstance
def sp_are_different (K : PySem.W.Frag) : Sp := fun vs H Q _ => ∃ v L most, vs = [v, .str (tx L), .int most] ∧
  ((∃ l, v = .str (tx l) ∧ l.length ≤ 40000 ∧ most ≤ 3999 ∧ ∀ H', Same H H' → Q (.bl (decide (OkDiff L most l))) H') ∨ (NoText K H v ∧ Q (.bl false) H))
theorem ok_are_different (T : Txt K mg) : FnOk P w K mg base (L2.CX P w) 2 T.f_are_different T.fd_are_different ["value", "letters", "most"] (sp_are_different K) := by
  refine T.F_are_different.okX sc_are_different (fun vs H Q E h => ?_) (fun cdv A outer s H vs Q E hr h => ?_)
  · obtain ⟨_, _, _, rfl, _⟩ := h
    rfl
  · obtain ⟨v, L, most, rfl, h⟩ := h
    refine ⟨_, (pss_cons (ps_if (pt_not (pt_val (pe_callS (ok_are_letters T) (hr.mono (by decide)) rfl T.mg_are_letters T.kp_are_letters T.bd_are_letters (fun σ => passAt (takes_of rfl rfl rfl rfl) σ) (pa_cons (pv 0) (pa_cons (pv 1) pa_nil)))))
  (pss_one (ps_ret pe_bl))
  pss_nil)
  (pss_one (ps_ret (pe_and (pe_chain op_le op_le pe_int (pe_callB (call_lenK (K := K) rfl) (by rfl) T.b_len boot_len (pa_cons (pv 0) pa_nil)) (pv 2)) (pe_one (pe_cmpR op_eq (pe_lenSetT rfl rfl T.b_len rfl T.b_set (pv 0)) (pe_callB (call_lenK (K := K) rfl) (by rfl) T.b_len boot_len (pa_cons (pv 0) pa_nil)) (nomark _))))))), ?_⟩
    walk_at "rd"
    rcases h with ⟨l, rfl, hz, hm, k⟩ | ⟨hn, k⟩
    · refine ⟨_, L, rfl, .inl ⟨l, rfl, by omega, fun H1 s1 => ?_⟩⟩
      walk_at "rd"
      by_cases hl : ∀ c ∈ l, c ∈ L
      · rw [(all_iff l L).mpr hl]
        refine iteF ?_
        walk_at "rd"
        refine len_s (l := l) (by omega) ?_
        walk_at "rd"
        by_cases h1 : (1 : Int) ≤ (l.length : Nat)
        · rw [decide_eq_true h1]
          refine iteT ?_
          walk_at "rd"
          by_cases h2 : ((l.length : Nat) : Int) ≤ most
          · rw [decide_eq_true h2]
            refine iteT ?_
            walk_at "rd"
            refine ⟨tx l, rfl, by rw [tx_size]; omega, ?_⟩
            walk_at "rd"
            refine len_s (l := l) (by omega) ?_
            refine rEq_v rfl ?_
            rw [decide_int, tx_size]
            have e : (fun i => (tx l).cps.getD i 0) = fun i => l.getD i 0 := by
              funext i
              have := tx_get l i
              simp [Array.getD_eq_getD_getElem?, this, List.getD]
            rw [e]
            have e2 : decide (((dif (fun i => l.getD i 0) l.length : Nat) : Int) = ((l.length : Nat) : Int)) = decide (OkDiff L most l) := by
              by_cases hd : l.Nodup
              · rw [decide_eq_true (show OkDiff L most l from ⟨hl, by omega, h2, hd⟩), decide_eq_true]
                rw [(dif_nodup l).mpr hd]
              · rw [decide_eq_false (fun h : OkDiff L most l => hd h.2.2.2), decide_eq_false]
                intro h
                exact hd ((dif_nodup l).mp (by omega))
            rw [e2]
            exact k H1 s1
          · rw [decide_eq_false h2]
            refine iteF ?_
            rw [← decide_eq_false (fun h : OkDiff L most l => h2 h.2.2.1)]
            exact k H1 s1
        · rw [decide_eq_false h1]
          refine iteF (rd_blI (iteF ?_))
          rw [← decide_eq_false (fun h : OkDiff L most l => h1 (by have := h.2.1; omega))]
          exact k H1 s1
      · have : (l.all fun c => decide (c ∈ L)) = false := Bool.eq_false_iff.mpr fun e => hl ((all_iff l L).mp e)
        rw [this]
        refine iteT ?_
        walk_at "rd"
        rw [← decide_eq_false (fun h : OkDiff L most l => hl h.1)]
        exact k H1 s1
    · refine ⟨_, L, rfl, .inr ⟨hn, ?_⟩⟩
      walk_at "rd"
      refine iteT ?_
      walk_at "rd"
      exact k
def OkPair (gv sd : List Nat) (l : List Nat) : Prop := ∃ a b c d, l = [a, b, c, d] ∧ a ∈ gv ∧ c ∈ gv ∧ b ∈ sd ∧ d ∈ sd
theorem OkPair.four {gv sd : List Nat} {a b c d : Nat} : OkPair gv sd [a, b, c, d] ↔ a ∈ gv ∧ c ∈ gv ∧ b ∈ sd ∧ d ∈ sd := by
  constructor
  · rintro ⟨_, _, _, _, h, h1⟩
    cases h
    exact h1
  · exact fun h => ⟨a, b, c, d, rfl, h⟩
def okPair (gv sd : List Nat) : List Nat → Bool
  | [a, b, c, d] => decide (a ∈ gv) && decide (c ∈ gv) && (decide (b ∈ sd) && decide (d ∈ sd))
  | _ => false
theorem okPair_iff {gv sd l : List Nat} : okPair gv sd l = true ↔ OkPair gv sd l := by
  constructor
  · intro h
    unfold okPair at h
    split at h
    · simp only [Bool.and_eq_true, decide_eq_true_eq] at h
      exact ⟨_, _, _, _, rfl, h.1.1, h.1.2, h.2.1, h.2.2⟩
    · cases h
  · rintro ⟨a, b, c, d, rfl, h1, h2, h3, h4⟩
    simp [okPair, h1, h2, h3, h4]
def sp_is_pair (K : PySem.W.Frag) : Sp := fun vs H Q _ => ∃ v gv sd, vs = [v, .str (tx gv), .str (tx sd)] ∧
  ((∃ l, v = .str (tx l) ∧ l.length ≤ 40000 ∧ ∀ H', Same H H' → Q (.bl (okPair gv sd l)) H') ∨ (NoText K H v ∧ Q (.bl false) H))
theorem ok_is_pair (T : Txt K mg) : FnOk P w K mg base (L2.CX P w) 2 T.f_is_pair T.fd_is_pair ["value", "given", "said"] (sp_is_pair K) := by
  refine T.F_is_pair.okX sc_is_pair (fun vs H Q E h => ?_) (fun cdv A outer s H vs Q E hr h => ?_)
  · obtain ⟨_, _, _, rfl, _⟩ := h
    rfl
  · obtain ⟨v, gv, sd, rfl, h⟩ := h
    refine ⟨_, (pss_cons (ps_if (PW.pt (pw_or (pt_not (pt_val (pe_callB (call_isiK1 (K := K) rfl) (by rfl) T.b_isinstance boot_isinstance (pa_cons (pv 0) (pa_cons (pe_bltn (v := .ty "str") rfl T.b_str boot_str rfl) pa_nil))))) (pw_or1 (pt_cmpR op_ne (pe_callB (call_lenK (K := K) rfl) (by rfl) T.b_len boot_len (pa_cons (pv 0) pa_nil)) pe_int (nomark _)))))
  (pss_one (ps_ret pe_bl))
  pss_nil)
  (pss_one (ps_ret (pe_and (pe_callS (ok_are_letters T) (hr.mono (by decide)) rfl T.mg_are_letters T.kp_are_letters T.bd_are_letters (fun σ => passAt (takes_of rfl rfl rfl rfl) σ) (pa_cons (pe_stepS (by decide) (pv 0) po_none po_none) (pa_cons (pv 1) pa_nil))) (pe_one (pe_callS (ok_are_letters T) (hr.mono (by decide)) rfl T.mg_are_letters T.kp_are_letters T.bd_are_letters (fun σ => passAt (takes_of rfl rfl rfl rfl) σ) (pa_cons (pe_stepS (by decide) (pv 0) (po_some pe_int) po_none) (pa_cons (pv 2) pa_nil)))))))), ?_⟩
    walk_at "rd"
    rcases h with ⟨l, rfl, hz, k⟩ | ⟨⟨t, ht, hk⟩, k⟩
    · refine ⟨_, _, _, _, true, rfl, .ty "str", .base (.str _), kit_ty (by decide +kernel), ?_⟩
      walk_at "rd"
      refine iteF ?_
      walk_at "rd"
      refine len_s (l := l) (by omega) ?_
      walk_at "rd"
      refine rNe_v rfl ?_
      rw [decide_int]
      by_cases h4 : l.length = 4
      · obtain ⟨a, b, c, d, rfl⟩ : ∃ a b c d, l = [a, b, c, d] := by
          match l, h4 with
          | [a, b, c, d], _ => exact ⟨a, b, c, d, rfl⟩
        walk_at "rd"
        refine iteF ?_
        walk_at "rd"
        refine ⟨tx [a, b, c, d], rfl, ?_, ?_⟩
        · show (stepS ⟨#[a, b, c, d]⟩ none none 2).length ≤ sizeLine
          rw [stepS_even]
          show 2 ≤ sizeLine
          decide
        have e1 : stepS (tx [a, b, c, d]) none none 2 = tx [a, c] := stepS_even
        rw [e1]
        walk_at "rd"
        refine ⟨_, gv, rfl, .inl ⟨[a, c], rfl, by show 2 ≤ 40000; decide, fun H1 s1 => ?_⟩⟩
        walk_at "rd"
        have e2 : ([a, c].all fun c => decide (c ∈ gv)) = (decide (a ∈ gv) && decide (c ∈ gv)) := by simp
        rw [e2]
        cases hac : (decide (a ∈ gv) && decide (c ∈ gv)) with
        | true =>
          refine iteT ?_
          walk_at "rd"
          refine ⟨tx [a, b, c, d], rfl, ?_, ?_⟩
          · show (stepS ⟨#[a, b, c, d]⟩ (some 1) none 2).length ≤ sizeLine
            rw [stepS_odd]
            show 2 ≤ sizeLine
            decide
          have e3 : stepS (tx [a, b, c, d]) (some 1) none 2 = tx [b, d] := stepS_odd
          rw [e3]
          walk_at "rd"
          refine ⟨_, sd, rfl, .inl ⟨[b, d], rfl, by show 2 ≤ 40000; decide, fun H2 s2 => ?_⟩⟩
          have e4 : ([b, d].all fun c => decide (c ∈ sd)) = okPair gv sd [a, b, c, d] := by
            show _ = (decide (a ∈ gv) && decide (c ∈ gv) && (decide (b ∈ sd) && decide (d ∈ sd)))
            rw [hac]
            simp
          rw [e4]
          exact k H2 (s1.trans s2)
        | false =>
          refine iteF ?_
          have e4 : false = okPair gv sd [a, b, c, d] := by
            show _ = (decide (a ∈ gv) && decide (c ∈ gv) && (decide (b ∈ sd) && decide (d ∈ sd)))
            rw [hac]
            rfl
          rw [e4]
          exact k H1 s1
      · rw [decide_eq_false (by omega)]
        walk_at "rd"
        refine iteT ?_
        walk_at "rd"
        have e4 : false = okPair gv sd l := by
          symm
          rw [Bool.eq_false_iff]
          intro h
          obtain ⟨_, _, _, _, rfl, _⟩ := okPair_iff.mp h
          exact h4 rfl
        rw [e4]
        exact k H (Same.refl H)
    · refine ⟨_, _, _, _, false, rfl, .ty "str", ht, hk, ?_⟩
      walk_at "rd"
      refine iteT (iteT ?_)
      walk_at "rd"
      exact k
end

section
variable {P : Program} {w : World} {K : PySem.W.Frag} {mg : Str → Option Value} {base : Heap}
def hadP (ps : List (List Nat)) (k : Key) : Bool := ps.any fun p => decide (k = Sum.inr (tx p))
theorem hadP_tx (ps : List (List Nat)) (p : List Nat) : hadP ps (Sum.inr (tx p)) = decide (p ∈ ps) := by
  unfold hadP
  rw [Bool.eq_iff_iff, List.any_eq_true, decide_eq_true_iff]
  constructor
  · rintro ⟨q, hq, he⟩
    have := tx_inj (Sum.inr.inj (of_decide_eq_true he))
    exact this ▸ hq
  · intro h
    exact ⟨p, h, decide_eq_true rfl⟩
end

theorem vSgs_at {l : List Nat} {i : Nat} {x : V} (h : (vSgs l)[i]? = some x) : ∃ c, l[i]? = some c ∧ x = .str (tx [c]) := by
  unfold vSgs at h
  rw [List.getElem?_map] at h
  cases hc : l[i]? with
  | none => rw [hc] at h; cases h
  | some c => rw [hc] at h; cases h; exact ⟨c, rfl, rfl⟩
theorem vTxs_at {l : List (List Nat)} {i : Nat} {x : V} (h : (vTxs l)[i]? = some x) : ∃ c, l[i]? = some c ∧ x = .str (tx c) := by
  unfold vTxs at h
  rw [List.getElem?_map] at h
  cases hc : l[i]? with
  | none => rw [hc] at h; cases h
  | some c => rw [hc] at h; cases h; exact ⟨c, rfl, rfl⟩

section
variable {P : Program} {w : World} {K : PySem.W.Frag} {mg : Str → Option Value} {base : Heap}
theorem tyx_mono {K : PySem.W.Frag} {H H' : Hp} {v : V} {t : Value} (ht : TyX K H v t) (s : Same H H') : TyX K H' v t := by
  cases ht with
  | base b =>
    cases b with
    | non => exact .base .non
    | bl y => exact .base (.bl y)
    | int i => exact .base (.int i)
    | str y => exact .base (.str y)
    | flt y => exact .base (.flt y)
    | lst e => exact .base (.lst (s _ _ e))
    | frz e => exact .base (.frz (s _ _ e))
    | tup e => exact .base (.tup (s _ _ e))
    | dK e => exact .base (.dK (s _ _ e))
    | dT e => exact .base (.dT (s _ _ e))
    | ins e c h1 h2 h3 h4 => exact .base (.ins (s _ _ e) c h1 h2 h3 h4)
  | byt b => exact .byt b
  | set e => exact .set (s _ _ e)
  | kList e c => exact .kList e c
  | kTuple e c => exact .kTuple e c
  | kDict e c => exact .kDict e c
  | fTuple e => exact .fTuple (s _ _ e)
  | fDict e => exact .fDict (s _ _ e)
/-- what is no list -/
def NoList (K : PySem.W.Frag) (H : Hp) (v : V) : Prop := ∃ t, TyX K H v t ∧ PySem.W.kitOne K t (.type "list") = some false
theorem nolist_same {K : PySem.W.Frag} {H H1 : Hp} {v : V} (h : NoList K H v) (s : Same H H1) : NoList K H1 v := by
  obtain ⟨t, ht, hk⟩ := h
  exact ⟨t, tyx_mono ht s, hk⟩
/-- a text, or what is no text -/
def ItemV (K : PySem.W.Frag) (H : Hp) (v : V) : Prop := (∃ l, v = .str (tx l) ∧ l.length ≤ 40000) ∨ NoText K H v
def GoodPs (gv sd : List Nat) (xs : List V) : Prop := ∃ ps : List (List Nat), xs = vTxs ps ∧ (∀ p ∈ ps, OkPair gv sd p) ∧ ps.Nodup
theorem notext_str {H : Hp} {x : Str} (h : NoText K H (.str x)) : False := by
  obtain ⟨t, ht, hk⟩ := h
  cases ht with
  | base b =>
    cases b
    have e : PySem.W.kitOne K (.type "str") (.type "str") = some true := by
      unfold PySem.W.kitOne
      rw [if_pos (by simp)]
    rw [e] at hk
    cases hk
theorem vTxs_injX : ∀ {a b : List (List Nat)}, vTxs a = vTxs b → a = b
  | [], [], _ => rfl
  | [], _ :: _, h => by cases h
  | _ :: _, [], h => by cases h
  | x :: a, y :: b, h => by
    have h : V.str (tx x) :: vTxs a = V.str (tx y) :: vTxs b := h
    injection h with h1 h2
    rw [tx_inj (V.str.inj h1), vTxs_injX h2]
theorem vTxs_appX (a b : List (List Nat)) : vTxs (a ++ b) = vTxs a ++ vTxs b := by unfold vTxs; rw [List.map_append]
theorem vTxs_takeX (a : List (List Nat)) (n : Nat) : vTxs (a.take n) = (vTxs a).take n := by unfold vTxs; rw [List.map_take]
def sp_are_pairs (K : PySem.W.Frag) : Sp := fun vs H Q _ => ∃ v gv sd, vs = [v, .str (tx gv), .str (tx sd)] ∧
  ((NoList K H v ∧ ∀ H', Same H H' → Q (.bl false) H') ∨ ∃ a xs, v = .ref a ∧ H a = some (.lst xs) ∧ (∀ ps : List (List Nat), vTxs ps = xs.take ps.length → (∀ p ∈ ps, OkPair gv sd p) → ps.length ≤ 3000) ∧ (∀ x ∈ xs, ∀ H', Same H H' → ItemV K H' x) ∧ (GoodPs gv sd xs → ∀ H', Same H H' → Q (.bl true) H') ∧ (¬ GoodPs gv sd xs → ∀ H', Same H H' → Q (.bl false) H'))
theorem ok_are_pairs (T : Txt K mg) : FnOk P w K mg base (L2.CX P w) 3 T.f_are_pairs T.fd_are_pairs ["value", "given", "said"] (sp_are_pairs K) := by
  refine T.F_are_pairs.okX sc_are_pairs (fun vs H Q E h => ?_) (fun cdv A outer s H vs Q E hr h => ?_)
  · obtain ⟨_, _, _, rfl, _⟩ := h
    rfl
  · obtain ⟨v, gv, sd, rfl, h⟩ := h
    refine ⟨_, (pss_cons (ps_if (pt_not (pt_val (pe_callB (call_isiK1 (K := K) rfl) (by rfl) T.b_isinstance boot_isinstance (pa_cons (pv 0) (pa_cons (pe_bltn (v := .ty "list") rfl T.b_list boot_list rfl) pa_nil)))))
  (pss_one (ps_ret pe_bl))
  pss_nil)
  (pss_cons (ps_set (i := 3) sc_are_pairs.nd rfl (by first | exact Or.inl rfl | exact Or.inr rfl) (pe_callTy0 cr_set0K (by rfl) T.b_set boot_set))
  (pss_cons (ps_for (passes_of rfl) rfl (pi_listK (K := K) rfl (pv 0)) (pg_name (i := 4) sc_are_pairs.nd rfl (by first | exact Or.inl rfl | exact Or.inr rfl))
  (pss_cons (ps_if (PW.pt (pw_or (pt_not (pt_val (pe_callS (ok_is_pair T) (hr.mono (by decide)) rfl T.mg_is_pair T.kp_is_pair T.bd_is_pair (fun σ => passAt (takes_of rfl rfl rfl rfl) σ) (pa_cons (pv 4) (pa_cons (pv 1) (pa_cons (pv 2) pa_nil)))))) (pw_or1 (pt_cmpR or_sinK (pv 4) (pv 3) (by with_unfolding_all rfl)))))
  (pss_one (ps_ret pe_bl))
  pss_nil)
  (pss_one (ps_expr (pe_saddK (pv 3) (pa_cons (pv 4) pa_nil))))))
  (pss_one (ps_ret pe_bl))))), ?_⟩
    walk_at "rd"
    rcases h with ⟨⟨t, ht, hk⟩, k⟩ | ⟨a, xs, rfl, ha, hlen, hit, kg, kb⟩
    · refine ⟨_, _, _, _, false, rfl, .ty "list", ht, hk, ?_⟩
      walk_at "rd"
      refine iteT ?_
      walk_at "rd"
      exact k H (Same.refl _)
    refine ⟨_, _, _, _, true, rfl, .ty "list", .base (.lst ha), kit_ty (by decide +kernel), ?_⟩
    walk_at "rd"
    refine iteF ?_
    walk_at "rd"
    refine ⟨rfl, fun se hse => ?_⟩
    walk_at "rd"
    have ha1 : upd H se (SetK P w se (fun _ => false) 0) a = some (.lst xs) := upd_keep hse ha
    refine rd_for (xs := xs) (wk_list (Evl.ev_var rfl) (SqL.of ha1))
      (fun i σ' H' => ∃ o ps, σ' = [some (.ref a), some (.str (tx gv)), some (.str (tx sd)), some (.ref se), o] ∧ xs.take i = vTxs ps ∧ (∀ p ∈ ps, OkPair gv sd p) ∧ ps.Nodup ∧ Same H H' ∧ H' se = some (SetK P w se (hadP ps) i))
      (fun H1 s1 => ⟨none, [], rfl, rfl, fun p hp => (List.not_mem_nil hp).elim, List.nodup_nil, (Same.new hse).trans s1, s1 _ _ upd_same⟩) (fun i σ' H' _ ⟨_, _, _, _, _, _, s2, _⟩ => SqL.of (s2 _ _ ha)) (fun i x σ' H' hx ⟨o, ps, hσ, htk, hok, hnd, s2, hs2⟩ => ?_) (fun σ' H' ⟨o, ps, hσ, htk, hok, hnd, s2, hs2⟩ => ?_)
    · subst hσ
      have hi : i < xs.length := (List.getElem?_eq_some_iff.mp hx).1
      have hmem : x ∈ xs := List.mem_of_getElem? hx
      have htk1 : xs.take (i + 1) = vTxs ps ++ [x] := by rw [take_succ_get hx, htk]
      have hi3 : i ≤ 3000 := by
        have e := congrArg List.length htk
        rw [vTxs_len, List.length_take] at e
        have := hlen ps (by rw [show ps.length = i by omega]; exact htk.symm) hok
        omega
      -- what a good list has here
      have hgood : GoodPs gv sd xs → ∃ l, x = .str (tx l) ∧ OkPair gv sd l ∧ l ∉ ps := fun ⟨qs, e, h1, h2⟩ => by
        have hx' := hx
        rw [e] at hx'
        obtain ⟨l, hl, rfl⟩ := vTxs_at hx'
        refine ⟨l, rfl, h1 _ (List.mem_of_getElem? hl), fun hin => ?_⟩
        have e2 : qs.take (i + 1) = ps ++ [l] := vTxs_injX (by rw [vTxs_takeX, ← e, htk1, vTxs_appX]; rfl)
        have h3 : (ps ++ [l]).Nodup := by
          rw [← e2]
          exact h2.sublist (List.take_sublist _ _)
        rw [List.nodup_append] at h3
        exact h3.2.2 _ hin _ (List.mem_singleton.mpr rfl) rfl
      walk_at "rd"
      rcases hit x hmem H' s2 with ⟨l, rfl, hlz⟩ | hno
      · refine ⟨_, gv, sd, rfl, .inl ⟨l, rfl, hlz, fun H3 s3 => ?_⟩⟩
        walk_at "rd"
        by_cases hpok : OkPair gv sd l
        · rw [okPair_iff.mpr hpok]
          refine iteF ?_
          walk_at "rd"
          have hse3 := s3 _ _ hs2
          refine ⟨Sum.inr (tx l), se, _, _, rfl, rfl, hse3, ?_⟩
          walk_at "rd"
          by_cases hin : l ∈ ps
          · rw [if_neg Bool.false_ne_true, hadP_tx, decide_eq_true hin]
            refine iteT ?_
            walk_at "rd"
            refine kb (fun g => ?_) H3 (s2.trans s3)
            obtain ⟨l', e, _, h⟩ := hgood g
            rw [tx_inj (V.str.inj e)] at hin
            exact h hin
          · rw [if_neg Bool.false_ne_true, hadP_tx, decide_eq_false hin]
            refine iteF ?_
            walk_at "rd"
            refine ⟨⟨se, _, _, rfl, hse3⟩, ?_⟩
            walk_at "rd"
            refine ⟨se, Sum.inr (tx l), _, _, rfl, rfl, hse3, by unfold scanBound; omega, ?_⟩
            refine ⟨_, ps ++ [l], rfl, by rw [htk1, vTxs_appX]; rfl, fun p hp => ?_, ?_, Same.mut (s2.trans s3) hse, ?_⟩
            · rcases List.mem_append.mp hp with hp | hp
              · exact hok p hp
              · rw [List.mem_singleton.mp hp]
                exact hpok
            · rw [List.nodup_append]
              exact ⟨hnd, by simp, fun a ha b hb e => by rw [List.mem_singleton.mp hb] at e; exact hin (e ▸ ha)⟩
            · rw [upd_same, hadP_tx, decide_eq_false hin, if_neg Bool.false_ne_true]
              congr 2
              funext j
              unfold hadP
              rw [List.any_append]
              simp
        · have : okPair gv sd l = false := Bool.eq_false_iff.mpr fun e => hpok (okPair_iff.mp e)
          rw [this]
          refine iteT (iteT ?_)
          walk_at "rd"
          refine kb (fun g => ?_) H3 (s2.trans s3)
          obtain ⟨l', e, h, _⟩ := hgood g
          rw [tx_inj (V.str.inj e)] at hpok
          exact hpok h
      · refine ⟨_, gv, sd, rfl, .inr ⟨hno, ?_⟩⟩
        walk_at "rd"
        refine iteT (iteT ?_)
        walk_at "rd"
        refine kb (fun g => ?_) H' s2
        obtain ⟨l', e, _, _⟩ := hgood g
        rw [e] at hno
        exact notext_str hno
    · subst hσ
      walk_at "rd"
      refine kg ⟨ps, ?_, hok, hnd⟩ H' s2
      rw [← htk, List.take_length]
end

section
/-- a wish, its lists and the dict of what is kept of it; R: what may change -/
structure WishK (C : Addr) (H : Hp) (w : Addr) (gv sd : List Nat) (ps : List (List Nat)) (cl al pl kd : Addr) : Prop where
  ob : ∃ dx, H w = some (.ins C dx (wf gv sd cl al pl kd))
  ce : H cl = some (.lst ((cellsOf gv sd).map fun c => .str (tx c)))
  alw : H al = some (.dK (ps.map fun p => (.inr (tx p), .bl true)))
  pr : H pl = some (.lst ((pairsOf gv sd ps).map fun c => .str (tx c)))
  ne : al ≠ kd
def NewK (C : Addr) (H H' : Hp) (w : Addr) (gv sd : List Nat) (ps : List (List Nat)) (kd : Addr) : Prop :=
  ∃ cl al pl, WishK C H' w gv sd ps cl al pl kd ∧ H cl = none ∧ H al = none ∧ H pl = none ∧ H kd = none ∧ cl ≠ w ∧ al ≠ w ∧ pl ≠ w ∧ kd ≠ w ∧ H' kd = some (.dK [])
abbrev KeepR (R : Addr → Prop) (H H' : Hp) : Prop := ∀ b o, H b = some o → ¬ R b → H' b = some o
def WishR (R : Addr → Prop) (C : Addr) (H : Hp) (w : Addr) (gv sd : List Nat) (ps : List (List Nat)) (kd : Addr) : Prop :=
  ∃ cl al pl, WishK C H w gv sd ps cl al pl kd ∧ ¬ R w ∧ ¬ R cl ∧ ¬ R al ∧ ¬ R pl ∧ R kd
theorem KeepR.refl {R : Addr → Prop} (H : Hp) : KeepR R H H := fun _ _ e _ => e
theorem KeepR.trans {R : Addr → Prop} {H H1 H2 : Hp} (a : KeepR R H H1) (b : KeepR R H1 H2) : KeepR R H H2 := fun c o e n => b c o (a c o e n) n
theorem KeepR.of {R : Addr → Prop} {H H1 : Hp} (s : Same H H1) : KeepR R H H1 := fun c o e _ => s c o e
theorem KeepR.of1 {R : Addr → Prop} {h : Addr} {H H1 : Hp} (k : ∀ b o, H b = some o → b ≠ h → H1 b = some o) (r : R h) : KeepR R H H1 := fun c o e n => k c o e fun z => n (z ▸ r)
theorem WishR.is {R : Addr → Prop} {C : Addr} {H : Hp} {w : Addr} {gv sd : List Nat} {ps : List (List Nat)} {kd : Addr} (h : WishR R C H w gv sd ps kd) : IsWish C H w gv sd ps := by
  obtain ⟨cl, al, pl, ⟨⟨dx, h1⟩, h2, h3, h4, _⟩, _⟩ := h
  exact ⟨cl, al, pl, ⟨dx, kd, h1⟩, h2, h3, h4⟩
theorem WishR.keep {R : Addr → Prop} {C : Addr} {H H' : Hp} {w : Addr} {gv sd : List Nat} {ps : List (List Nat)} {kd : Addr} (h : WishR R C H w gv sd ps kd) (k : KeepR R H H') : WishR R C H' w gv sd ps kd := by
  obtain ⟨cl, al, pl, ⟨⟨dx, h1⟩, h2, h3, h4, h5⟩, r1, r2, r3, r4, r5⟩ := h
  exact ⟨cl, al, pl, ⟨⟨dx, k _ _ h1 r1⟩, k _ _ h2 r2, k _ _ h3 r3, k _ _ h4 r4, h5⟩, r1, r2, r3, r4, r5⟩
/-- a new wish, told with what may change: kd and what was there before -/
theorem NewK.toR {R : Addr → Prop} {C : Addr} {H H' : Hp} {w : Addr} {gv sd : List Nat} {ps : List (List Nat)} {kd : Addr} (h : NewK C H H' w gv sd ps kd) (hw : H w = none) (hR : ∀ b, R b ↔ b = kd ∨ (R b ∧ ∃ o, H b = some o)) : WishR R C H' w gv sd ps kd := by
  obtain ⟨cl, al, pl, ⟨⟨dx, h1⟩, h2, h3, h4, h5⟩, n1, n2, n3, n4, m1, m2, m3, m4, hk⟩ := h
  have no : ∀ b, H b = none → b ≠ kd → ¬ R b := fun b hb n r => by
    rcases (hR b).mp r with e | ⟨_, o, ho⟩
    · exact n e
    · rw [hb] at ho; cases ho
  refine ⟨cl, al, pl, ⟨⟨dx, h1⟩, h2, h3, h4, h5⟩, no w hw m4.symm, no cl n1 fun e => ?_, no al n2 h5, no pl n3 fun e => ?_, (hR kd).mpr (.inl rfl)⟩
  · rw [e, hk] at h2; cases h2
  · rw [e, hk] at h4; cases h4
end
section
variable {P : Program} {w : World} {K : PySem.W.Frag} {mg : Str → Option Value} {base : Heap}
/-- an object is made: all else that was known stands -/
def sp_init (C : Addr) (lo up : List Nat) : Sp := fun vs H Q _ => ∃ x dx pa gv sd ps, vs = [.ref x, .str (tx gv), .str (tx sd), .ref pa] ∧ H x = some (.ins C dx []) ∧ H pa = some (.lst (vTxs ps)) ∧ gv.length < 4000 ∧ sd.length < 4000 ∧ ps.length ≤ 3000 ∧
  OkDiff lo 3 gv ∧ OkDiff up 4 sd ∧ (∀ p ∈ ps, OkPair gv sd p) ∧ ps.Nodup ∧ ∀ H', (∀ b o, H b = some o → b ≠ x → H' b = some o) → (∃ kd, NewK C H H' x gv sd ps kd) → Q .non H'
def lowers : List Nat := (List.range 26).map fun i => 97 + i
def uppers : List Nat := (List.range 26).map fun i => 65 + i
theorem lowers_tx : ("abcdefghijklmnopqrstuvwxyz" : Str) = tx lowers := by decide +kernel
theorem uppers_tx : ("ABCDEFGHIJKLMNOPQRSTUVWXYZ" : Str) = tx uppers := by decide +kernel
def unS : V → List Nat
  | .str a => a.cps.toList
  | _ => []
theorem unS_tx (l : List Nat) : unS (.str (tx l)) = l := rfl
theorem cells_flat (gv sd : List Nat) : ((vSgs gv).flatMap fun x => ((vSgs sd).filter fun _ => true).map fun y => V.str (tx (unS x ++ unS y))) = vTxs (cellsOf gv sd) := by
  unfold vSgs vTxs cellsOf
  rw [List.map_flatMap, List.flatMap_map]
  congr 1
  funext a
  rw [List.filter_eq_self.mpr (fun _ _ => rfl), List.map_map, List.map_map]
  rfl
theorem vSgs_mem {l : List Nat} {v : V} (h : v ∈ vSgs l) : ∃ c ∈ l, v = .str (tx [c]) := by
  unfold vSgs at h
  obtain ⟨c, hc, rfl⟩ := List.mem_map.mp h
  exact ⟨c, hc, rfl⟩
theorem vTxs_mem {l : List (List Nat)} {v : V} (h : v ∈ vTxs l) : ∃ c ∈ l, v = .str (tx c) := by
  unfold vTxs at h
  obtain ⟨c, hc, rfl⟩ := List.mem_map.mp h
  exact ⟨c, hc, rfl⟩
theorem vSgs_len2 (gv sd : List Nat) (h1 : gv.length ≤ 3) (h2 : sd.length ≤ 4) : (vSgs gv).length * (vSgs sd).length ≤ 40000 := by
  rw [vSgs_len, vSgs_len]
  have := Nat.mul_le_mul h1 h2
  omega
theorem keys_nodup {ps : List (List Nat)} (h : ps.Nodup) : ((vTxs ps).map fun v => (Sum.inr (tx (unS v)) : Key)).Nodup := by
  unfold vTxs
  rw [List.map_map]
  refine List.Pairwise.map _ (fun a b hab => ?_) h
  intro e
  exact hab (tx_inj (Sum.inr.inj e))
theorem dict_of {ps : List (List Nat)} (h : ps.Nodup) : dcRun (fun v => Sum.inr (tx (unS v))) (fun _ => V.bl true) (vTxs ps) = ps.map fun p => (Sum.inr (tx p), V.bl true) := by
  rw [dcRun_nodup (keys_nodup h)]
  unfold vTxs
  rw [List.map_map]
  rfl
theorem pairs_flat (cs : List (List Nat)) (ps : List (List Nat)) : ((vTxs cs).flatMap fun x => ((vTxs cs).filter fun y => decide (unS x ++ unS y ∈ ps)).map fun y => V.str (tx (unS x ++ unS y))) = vTxs (cs.flatMap fun p => (cs.filter fun q => decide (p ++ q ∈ ps)).map fun q => p ++ q) := by
  unfold vTxs
  rw [List.map_flatMap, List.flatMap_map]
  congr 1
  funext a
  rw [List.filter_map, List.map_map, List.map_map]
  rfl
theorem cellsOf_len (gv sd : List Nat) : (cellsOf gv sd).length = gv.length * sd.length := by
  unfold cellsOf
  induction gv with
  | nil => simp
  | cons a r ih => rw [List.flatMap_cons, List.length_append, ih, List.length_map, List.length_cons, Nat.succ_mul, Nat.add_comm]
theorem cellsOf_two {gv sd c : List Nat} (h : c ∈ cellsOf gv sd) : ∃ a b, c = [a, b] ∧ a ∈ gv ∧ b ∈ sd := by
  unfold cellsOf at h
  obtain ⟨a, ha, h⟩ := List.mem_flatMap.mp h
  obtain ⟨b, hb, rfl⟩ := List.mem_map.mp h
  exact ⟨a, b, rfl, ha, hb⟩
/-- a wish's fields: not yet set, or set before -/
def FillF (fs : List (Str × V)) : Prop := fs = [] ∨ ∃ g s c a p k, fs = wf g s c a p k
theorem FillF.len {fs : List (Str × V)} (h : FillF fs) : fs.length ≤ 6 := by
  rcases h with rfl | ⟨g, s, c, a, p, k, rfl⟩
  · exact Nat.zero_le _
  · exact Nat.le_refl 6
theorem putF_len (f : Str) (v : V) : ∀ fs : List (Str × V), (putF f v fs).length ≤ fs.length + 1
  | [] => Nat.le_refl _
  | (g, x) :: r => by
    show (if g = f then (g, v) :: r else (g, x) :: putF f v r).length ≤ _
    split
    · exact Nat.le_succ _
    · have := putF_len f v r
      show (putF f v r).length + 1 ≤ r.length + 1 + 1
      omega
theorem fill_wf {fs : List (Str × V)} (h : FillF fs) {gv sd : List Nat} {cl al pl kd : Addr} : putF "_kept" (.ref kd) (putF "_pairs" (.ref pl) (putF "_allowed" (.ref al) (putF "_cells" (.ref cl) (putF "_said" (.str (tx sd)) (putF "_given" (.str (tx gv)) fs))))) = wf gv sd cl al pl kd := by
  rcases h with rfl | ⟨g, s, c, a, p, k, rfl⟩
  · repeat (first | rw [put_hit] | rw [put_nil] | rw [put_miss (by decide +kernel)])
    rfl
  · unfold wf
    repeat (first | rw [put_hit] | rw [put_nil] | rw [put_miss (by decide +kernel)])
def sp_fill (C : Addr) : Sp := fun vs H Q _ => ∃ x dx fs pa gv sd ps, vs = [.ref x, .str (tx gv), .str (tx sd), .ref pa] ∧ H x = some (.ins C dx fs) ∧ FillF fs ∧ H pa = some (.lst (vTxs ps)) ∧ gv.length * sd.length ≤ 1000 ∧ ps.length ≤ 40000 ∧ ps.Nodup ∧ ∀ H', (∀ b o, H b = some o → b ≠ x → H' b = some o) → (∃ kd, NewK C H H' x gv sd ps kd) → Q .non H'
theorem ok_Wishfill (T : Txt K mg) : FnOk P w K mg base (L2.CX P w) 1 T.f_Wishfill T.fd_Wishfill ["self", "given", "said", "pairs"] (sp_fill T.C_Wish) := by
  refine T.F_Wishfill.okX sc_Wishfill (fun vs H Q E h => ?_) (fun cdv A outer s H vs Q E hr h => ?_)
  · obtain ⟨_, _, _, _, _, _, _, rfl, _⟩ := h
    rfl
  · obtain ⟨x, dx, fs, pa, gv, sd, ps, rfl, hx, hff, hpa, hgs, hzp, hnd, k⟩ := h
    have hfl := hff.len
    have l1 := putF_len "_given" (.str (tx gv)) fs
    have l2 := putF_len "_said" (.str (tx sd)) (putF "_given" (.str (tx gv)) fs)
    have hu := hu_of hr
    have nxpa : pa ≠ x := fun e => by rw [e, hx] at hpa; cases hpa
    refine ⟨_, (pss_cons (ps_fld (pv 0) (pv 1) rfl)
  (pss_cons (ps_fld (pv 0) (pv 2) rfl)
  (pss_cons (ps_fld (pv 0) (pe_lc2 (own := [("x", 4), ("s", 5)]) (vs1 := [5]) rfl sc_Wishfill.nd (pi_str (pv 1)) (blkOk_by (N := N_Wishfill) (sc := defScope s_Wishfill) (by decide +kernel)) (by decide)
   (fun _ _ _ _ _ => (pg_name (i := 4) sc_Wishfill.nd rfl (by first | exact Or.inl rfl | exact Or.inr rfl))) (fun _ _ _ _ _ => pts_nil) (fun _ _ _ _ _ => (pi_str (pv 2))) (fun _ _ _ _ _ => (pg_name (i := 5) sc_Wishfill.nd rfl (by first | exact Or.inl rfl | exact Or.inr rfl))) (fun _ _ _ _ _ => pts_nil) (fun _ _ _ _ _ => (pe_op op_addA (pv 4) (pv 5)))) rfl)
  (pss_cons (ps_fld (pv 0) (pe_dc (own := [("pair", 6)]) rfl sc_Wishfill.nd (pi_listK (K := K) rfl (pv 3)) (blkOk_by (N := N_Wishfill) (sc := defScope s_Wishfill) (by decide +kernel))
   (fun _ _ _ _ _ => (pg_name (i := 6) sc_Wishfill.nd rfl (by first | exact Or.inl rfl | exact Or.inr rfl))) (fun _ _ _ _ _ => pts_nil) (fun _ _ _ _ _ => (pv 6)) (fun _ _ _ _ _ => pe_bl)) rfl)
  (pss_cons (ps_fld (pv 0) (pe_lc2 (own := [("p", 7), ("q", 8)]) (vs1 := [8]) rfl sc_Wishfill.nd (pi_listK (K := K) rfl (pe_fldK (K := K) rfl (pv 0) rfl)) (blkOk_by (N := N_Wishfill) (sc := defScope s_Wishfill) (by decide +kernel)) (by decide)
   (fun _ _ _ _ _ => (pg_name (i := 7) sc_Wishfill.nd rfl (by first | exact Or.inl rfl | exact Or.inr rfl))) (fun _ _ _ _ _ => pts_nil) (fun _ _ _ _ _ => (pi_listK (K := K) rfl (pe_fldK (K := K) rfl (pv 0) rfl))) (fun _ _ _ _ _ => (pg_name (i := 8) sc_Wishfill.nd rfl (by first | exact Or.inl rfl | exact Or.inr rfl))) (fun _ _ _ _ _ => (pts_one (pt_cmp (pc_din hu (pe_op op_addA (pv 7) (pv 8)) (pe_fldK (K := K) rfl (pv 0) rfl))))) (fun _ _ _ _ _ => (pe_op op_addA (pv 7) (pv 8)))) rfl)
  (pss_one (ps_fld (pv 0) pe_dnewK rfl))))))), ?_⟩
    walk_at "rd"
    refine ⟨x, T.C_Wish, dx, _, rfl, hx, T.cl_Wish, T.na_Wish_given, by omega, ?_⟩
    walk_at "rd"
    refine ⟨x, T.C_Wish, dx, _, rfl, upd_same, T.cl_Wish, T.na_Wish_said, by omega, ?_⟩
    rw [upd_upd]
    walk_at "rd"
    generalize hH4 : upd H x _ = H4
    have h4x : H4 x = some (.ins T.C_Wish dx (putF "_said" (.str (tx sd)) (putF "_given" (.str (tx gv)) fs))) := by rw [← hH4, upd_same]
    have h4k : ∀ b o, H b = some o → b ≠ x → H4 b = some o := fun b o h n => by rw [← hH4, upd_ne n]; exact h
    have h4f : ∀ b, H4 b = none → H b = none := fun b h => by
      cases q : H b with
      | none => rfl
      | some o =>
        by_cases n : b = x
        · rw [n, h4x] at h; cases h
        · rw [h4k b o q n] at h; cases h
    refine rd_L (el_lc2 (xs := vSgs gv) (ys := vSgs sd) (wk_str (Evl.ev_var rfl)) (fun _ _ => wk_str (Evl.ev_var rfl)) (fun _ _ => true) (fun a b => .str (tx (unS a ++ unS b))) (by unfold vSgs; rw [List.length_map, List.length_map]; omega) (fun _ => rfl) (fun _ _ => rfl)
      (fun _ _ _ _ _ _ => ev_yes) (fun a ha b hb H5 _ _ H6 e6 Q' q => ?_)) fun cl H5 hcl s5 h5 => ?_
    · obtain ⟨c, _, rfl⟩ := vSgs_mem ha
      obtain ⟨d, _, rfl⟩ := vSgs_mem hb
      walk_at "rd"
      refine rAdd_s (by show 1 + 1 ≤ 100000; decide) ?_
      exact q H6 (Evl.Ex.refl _)
    rw [cells_flat] at h5
    walk_at "rd"
    have ncl : cl ≠ x := fun e => by rw [e, h4x] at hcl; cases hcl
    refine ⟨x, T.C_Wish, dx, _, rfl, s5 _ _ h4x, T.cl_Wish, T.na_Wish_cells, by omega, ?_⟩
    have l3 := putF_len "_cells" (.ref cl) (putF "_said" (.str (tx sd)) (putF "_given" (.str (tx gv)) fs))
    generalize hH6 : upd H5 x _ = H6
    have h6x : H6 x = some (.ins T.C_Wish dx (putF "_cells" (.ref cl) (putF "_said" (.str (tx sd)) (putF "_given" (.str (tx gv)) fs)))) := by rw [← hH6, upd_same]
    have h6c : H6 cl = some (.lst (vTxs (cellsOf gv sd))) := by rw [← hH6, upd_ne ncl]; exact h5
    have h6k : ∀ b o, H b = some o → b ≠ x → H6 b = some o := fun b o h n => by rw [← hH6, upd_ne n]; exact s5 _ _ (h4k b o h n)
    have h6pa : H6 pa = some (.lst (vTxs ps)) := h6k _ _ hpa nxpa
    walk_at "rd"
    refine rd_dc (xs := vTxs ps) (wk_list (Evl.ev_var rfl) (SqL.of h6pa)) (fun v => Sum.inr (tx (unS v))) (fun _ => .bl true) (by rw [vTxs_len]; omega) (fun _ => rfl) (fun v hv H7 _ H8 _ Q' q => ?_) (fun v hv H7 _ H8 _ Q' q => ?_) fun al H7 hal s7 h7 => ?_
    · obtain ⟨c, _, rfl⟩ := vTxs_mem hv
      walk_at "rd"
      exact q H8 (Evl.Ex.refl _)
    · walk_at "rd"
      exact q H8 (Evl.Ex.refl _)
    rw [dict_of hnd] at h7
    walk_at "rd"
    have nal : al ≠ x := fun e => by rw [e, h6x] at hal; cases hal
    refine ⟨x, T.C_Wish, dx, _, rfl, s7 _ _ h6x, T.cl_Wish, T.na_Wish_allowed, by omega, ?_⟩
    have l4 := putF_len "_allowed" (.ref al) (putF "_cells" (.ref cl) (putF "_said" (.str (tx sd)) (putF "_given" (.str (tx gv)) fs)))
    generalize hH8 : upd H7 x _ = H8
    have h8x : H8 x = some (.ins T.C_Wish dx (putF "_allowed" (.ref al) (putF "_cells" (.ref cl) (putF "_said" (.str (tx sd)) (putF "_given" (.str (tx gv)) fs))))) := by rw [← hH8, upd_same]
    have h8c : H8 cl = some (.lst (vTxs (cellsOf gv sd))) := by rw [← hH8, upd_ne ncl]; exact s7 _ _ h6c
    have h8a : H8 al = some (.dK (ps.map fun p => (Sum.inr (tx p), .bl true))) := by rw [← hH8, upd_ne nal]; exact h7
    have h8k : ∀ b o, H b = some o → b ≠ x → H8 b = some o := fun b o h n => by rw [← hH8, upd_ne n]; exact s7 _ _ (h6k b o h n)
    have fcells : ∀ (σ' : L2.St) (H9 : Hp), σ'[0]? = some (some (.ref x)) → Same H8 H9 → Evl.Ev (tFld K (tVar 0) "_cells") σ' H9 (.ref cl) := fun σ' H9 h0 s9 H10 e10 Q' q =>
      ⟨_, h0, x, T.C_Wish, dx, _, _, rfl, e10 _ _ (s9 _ _ h8x), T.cl_Wish, T.na_Wish_cells, by rw [lookup_putF, if_neg (by decide +kernel), lookup_putF, if_pos rfl], q H10 (Evl.Ex.refl _)⟩
    have lc12 : (cellsOf gv sd).length ≤ 1000 := by
      rw [cellsOf_len]
      exact hgs
    walk_at "rd"
    refine rd_L (el_lc2W (xs := vTxs (cellsOf gv sd)) (ys := vTxs (cellsOf gv sd)) (wk_list (fcells _ H8 rfl (Same.refl _)) (SqL.of h8c)) (fun _ _ => wk_list (fcells _ H8 rfl (Same.refl _)) (SqL.of h8c)) (fun a b => decide (unS a ++ unS b ∈ ps)) (fun a b => .str (tx (unS a ++ unS b))) ?_ (fun _ => rfl) (fun _ _ => rfl)
      (fun a ha b hb H9 e9 H10 e10 Q' q => ?_) (fun a ha b hb H9 _ _ H10 e10 Q' q => ?_)) fun pl H9 hpl s9 h9 => ?_
    · rw [vTxs_len]
      have := Nat.mul_le_mul lc12 lc12
      omega
    · obtain ⟨c, hc, rfl⟩ := vTxs_mem ha
      obtain ⟨d, hd, rfl⟩ := vTxs_mem hb
      obtain ⟨c1, c2, rfl, _⟩ := cellsOf_two hc
      obtain ⟨d1, d2, rfl, _⟩ := cellsOf_two hd
      walk_at "rd"
      refine rAdd_s (by show 2 + 2 ≤ 100000; decide) ?_
      walk_at "rd"
      refine ⟨x, T.C_Wish, dx, _, _, rfl, e10 _ _ (e9 _ _ h8x), T.cl_Wish, T.na_Wish_allowed, by rw [lookup_putF, if_pos rfl], al, _, rfl, DGet.k (k := Sum.inr (tx ([c1, c2] ++ [d1, d2]))) (e10 _ _ (e9 _ _ h8a)), ?_⟩
      rw [val_pairs]
      walk_at "rd"
      exact q H10 (Evl.Ex.refl _)
    · obtain ⟨c, hc, rfl⟩ := vTxs_mem ha
      obtain ⟨d, hd, rfl⟩ := vTxs_mem hb
      obtain ⟨c1, c2, rfl, _⟩ := cellsOf_two hc
      obtain ⟨d1, d2, rfl, _⟩ := cellsOf_two hd
      walk_at "rd"
      refine rAdd_s (by show 2 + 2 ≤ 100000; decide) ?_
      exact q H10 (Evl.Ex.refl _)
    rw [pairs_flat] at h9
    walk_at "rd"
    have npl : pl ≠ x := fun e => by rw [e, h8x] at hpl; cases hpl
    refine ⟨x, T.C_Wish, dx, _, rfl, s9 _ _ h8x, T.cl_Wish, T.na_Wish_pairs, by omega, ?_⟩
    have l5 := putF_len "_pairs" (.ref pl) (putF "_allowed" (.ref al) (putF "_cells" (.ref cl) (putF "_said" (.str (tx sd)) (putF "_given" (.str (tx gv)) fs))))
    generalize hHa : upd H9 x _ = Ha
    have hax : Ha x = some (.ins T.C_Wish dx (putF "_pairs" (.ref pl) (putF "_allowed" (.ref al) (putF "_cells" (.ref cl) (putF "_said" (.str (tx sd)) (putF "_given" (.str (tx gv)) fs)))))) := by rw [← hHa, upd_same]
    have hac : Ha cl = some (.lst (vTxs (cellsOf gv sd))) := by rw [← hHa, upd_ne ncl]; exact s9 _ _ h8c
    have haa : Ha al = some (.dK (ps.map fun p => (Sum.inr (tx p), .bl true))) := by rw [← hHa, upd_ne nal]; exact s9 _ _ h8a
    have hap : Ha pl = some (.lst (vTxs (pairsOf gv sd ps))) := by rw [← hHa, upd_ne npl]; exact h9
    have hak : ∀ b o, H b = some o → b ≠ x → Ha b = some o := fun b o h n => by rw [← hHa, upd_ne n]; exact s9 _ _ (h8k b o h n)
    walk_at "rd"
    refine fun kd hkd => ?_
    walk_at "rd"
    refine ⟨x, T.C_Wish, dx, _, rfl, upd_keep hkd hax, T.cl_Wish, T.na_Wish_kept, by omega, ?_⟩
    rw [fill_wf hff]
    have nkd : kd ≠ x := fun e => by rw [e, hax] at hkd; cases hkd
    have old : ∀ b, Ha b = none → H b = none := fun b hb => by
      cases q : H b with
      | none => rfl
      | some o =>
        by_cases n : b = x
        · rw [n, hax] at hb; cases hb
        · rw [hak b o q n] at hb; cases hb
    have o5 : ∀ b, H5 b = none → H b = none := fun b hb => h4f b (s5.free hb)
    have o7 : ∀ b, H7 b = none → H b = none := fun b hb => by
      cases q : H b with
      | none => rfl
      | some o =>
        by_cases n : b = x
        · rw [n, s7 _ _ h6x] at hb; cases hb
        · rw [s7 _ _ (h6k b o q n)] at hb; cases hb
    have o8 : ∀ b, H8 b = none → H b = none := fun b hb => by
      cases q : H b with
      | none => rfl
      | some o =>
        by_cases n : b = x
        · rw [n, h8x] at hb; cases hb
        · rw [h8k b o q n] at hb; cases hb
    have o6 : ∀ b, H6 b = none → H b = none := fun b hb => by
      cases q : H b with
      | none => rfl
      | some o =>
        by_cases n : b = x
        · rw [n, h6x] at hb; cases hb
        · rw [h6k b o q n] at hb; cases hb
    refine k _ (fun b o h n => by rw [upd_ne n]; exact upd_keep hkd (hak b o h n)) ⟨kd, cl, al, pl, ⟨⟨dx, upd_same⟩, ?_, ?_, ?_, ne_of_none haa hkd⟩, h4f cl hcl, o6 al hal, o8 pl hpl, old kd hkd, ncl, nal, npl, nkd, by rw [upd_ne nkd, upd_same]⟩
    · rw [upd_ne ncl]; exact upd_keep hkd hac
    · rw [upd_ne nal]; exact upd_keep hkd haa
    · rw [upd_ne npl]; exact upd_keep hkd hap
theorem ok_Wish_init (T : Txt K mg) : FnOk P w K mg base (L2.CX P w) 4 T.f_Wish_init T.fd_Wish_init ["self", "given", "said", "pairs"] (sp_init T.C_Wish lowers uppers) := by
  refine T.F_Wish_init.okX sc_Wish_init (fun vs H Q E h => ?_) (fun cdv A outer s H vs Q E hr h => ?_)
  · obtain ⟨_, _, _, _, _, _, rfl, _⟩ := h
    rfl
  · obtain ⟨x, dx, pa, gv, sd, ps, rfl, hx, hpa, hzg, hzs, hzp, hg, hs, hok, hnd, k⟩ := h
    have hu := hu_of hr
    have nxpa : pa ≠ x := fun e => by rw [e, hx] at hpa; cases hpa
    refine ⟨_, (pss_cons (ps_if (pt_not (pt_val (pe_callS (ok_are_different T) (hr.mono (by decide)) rfl T.mg_are_different T.kp_are_different T.bd_are_different (fun σ => passAt (takes_of rfl rfl rfl rfl) σ) (pa_cons (pv 1) (pa_cons (pe_glob (v := .str "abcdefghijklmnopqrstuvwxyz") rfl T.mg_GIVEN_LETTERS ⟨_, rfl⟩) (pa_cons (pe_glob (v := .int 3) rfl T.mg_MOST_GIVEN ⟨_, rfl⟩) pa_nil))))))
  (pss_one ps_never)
  pss_nil)
  (pss_cons (ps_if (pt_not (pt_val (pe_callS (ok_are_different T) (hr.mono (by decide)) rfl T.mg_are_different T.kp_are_different T.bd_are_different (fun σ => passAt (takes_of rfl rfl rfl rfl) σ) (pa_cons (pv 2) (pa_cons (pe_glob (v := .str "ABCDEFGHIJKLMNOPQRSTUVWXYZ") rfl T.mg_SAID_LETTERS ⟨_, rfl⟩) (pa_cons (pe_glob (v := .int 4) rfl T.mg_MOST_SAID ⟨_, rfl⟩) pa_nil))))))
  (pss_one ps_never)
  pss_nil)
  (pss_cons (ps_if (pt_not (pt_val (pe_callS (ok_are_pairs T) (hr.mono (by decide)) rfl T.mg_are_pairs T.kp_are_pairs T.bd_are_pairs (fun σ => passAt (takes_of rfl rfl rfl rfl) σ) (pa_cons (pv 3) (pa_cons (pv 1) (pa_cons (pv 2) pa_nil))))))
  (pss_one ps_never)
  pss_nil)
  (pss_one (ps_expr (pe_meth (pv 0) T.cl_Wish T.mt_Wishfill (ok_Wishfill T) (hr.mono (by decide)) T.bd_Wishfill .nil passL (pa_cons (pv 1) (pa_cons (pv 2) (pa_cons (pv 3) pa_nil))))))))), ?_⟩
    walk_at "rd"
    rw [lowers_tx, uppers_tx]
    refine ⟨_, lowers, 3, rfl, .inl ⟨gv, rfl, by omega, by decide, fun H1 s1 => ?_⟩⟩
    walk_at "rd"
    rw [decide_eq_true hg]
    refine iteF ?_
    walk_at "rd"
    refine ⟨_, uppers, 4, rfl, .inl ⟨sd, rfl, by omega, by decide, fun H2 s2 => ?_⟩⟩
    walk_at "rd"
    rw [decide_eq_true hs]
    refine iteF ?_
    walk_at "rd"
    refine ⟨.ref pa, gv, sd, rfl, .inr ⟨pa, vTxs ps, rfl, s2 _ _ (s1 _ _ hpa), fun qs e _ => ?_, fun y hy H' _ => ?_, fun _ H3 s3 => ?_, fun hb => absurd ⟨ps, rfl, hok, hnd⟩ hb⟩⟩
    · have e := congrArg List.length e
      rw [vTxs_len, List.length_take, vTxs_len] at e
      omega
    · obtain ⟨c, hc, rfl⟩ := vTxs_mem hy
      obtain ⟨_, _, _, _, rfl, _⟩ := hok c hc
      exact .inl ⟨_, rfl, by show 4 ≤ 40000; decide⟩
    walk_at "rd"
    refine iteF ?_
    walk_at "rd"
    have s03 : Same H H3 := (s1.trans s2).trans s3
    refine ⟨x, dx, _, rfl, s03 _ _ hx, rfl, ?_⟩
    walk_at "rd"
    have hgs : gv.length * sd.length ≤ 1000 := by
      have h1 := hg.2.2.1
      have h2 := hs.2.2.1
      exact Nat.le_trans (Nat.mul_le_mul (show gv.length ≤ 3 by omega) (show sd.length ≤ 4 by omega)) (by decide)
    refine ⟨x, dx, [], pa, gv, sd, ps, rfl, s03 _ _ hx, .inl rfl, s03 _ _ hpa, hgs, by omega, hnd, fun H4 k4 hw4 => ?_⟩
    obtain ⟨kd, cl, al, pl, W, n1, n2, n3, n4, r⟩ := hw4
    exact k H4 (fun b o h n => k4 b o (s03 _ _ h) n) ⟨kd, cl, al, pl, W, s03.free n1, s03.free n2, s03.free n3, s03.free n4, r⟩
end

section
variable {P : Program} {w : World} {K : PySem.W.Frag} {mg : Str → Option Value} {base : Heap}
/-! ### the hand: what draws leave -/
theorem rd_have {M : L2.St → Hp → Prop} {ts tu : TS} {D : Ends} {σ : L2.St} {H : Hp} (rest : ∀ σ' H', M σ' H' → tu D σ' H') (h : (∀ σ' H', M σ' H' → tu D σ' H') → tSeq ts tu D σ H) : tSeq ts tu D σ H := h rest
structure HandV (H : Hp) (h c : Addr) (ns : List Int) (i r s k : Int) : Prop where
  hh : H h = some (.lst [.ref c, .int i, .int r, .int s, .int k])
  hc : H c = some (.lst (ns.map V.int))
  ne : c ≠ h
  nn : ∀ n ∈ ns, 0 ≤ n
  i0 : 0 ≤ i
  r0 : 0 ≤ r
  ln : ns.length ≤ 63
def HandAt (H : Hp) (h c : Addr) : Prop := ∃ ns i r s k, HandV H h c ns i r s k
/-- all but h stands -/
def Keep1 (h : Addr) (H H' : Hp) : Prop := ∀ b o, H b = some o → b ≠ h → H' b = some o
theorem Keep1.refl (h : Addr) (H : Hp) : Keep1 h H H := fun _ _ e _ => e
theorem Keep1.trans {h : Addr} {H H1 H2 : Hp} (a : Keep1 h H H1) (b : Keep1 h H1 H2) : Keep1 h H H2 := fun c o e n => b c o (a c o e n) n
theorem Keep1.upd {h : Addr} {H H1 : Hp} {o : HO} (a : Keep1 h H H1) : Keep1 h H (upd H1 h o) := fun c u e n => by rw [upd_ne n]; exact a c u e n
theorem Keep1.same {h : Addr} {H H1 H2 : Hp} (a : Keep1 h H H1) (b : Same H1 H2) : Keep1 h H H2 := fun c o e n => b c o (a c o e n)
theorem Keep1.of {h : Addr} {H H2 : Hp} (b : Same H H2) : Keep1 h H H2 := fun c o e _ => b c o e
theorem HandAt.some {H : Hp} {h c : Addr} (a : HandAt H h c) : ∃ o, H h = some o := by
  obtain ⟨ns, i, r, s, k, v⟩ := a
  exact ⟨_, v.hh⟩
theorem Keep1.free {h c : Addr} {H H' : Hp} (k : Keep1 h H H') (a : HandAt H' h c) {p : Addr} (n : H' p = none) : H p = none := by
  cases q : H p with
  | none => rfl
  | some o =>
    by_cases e : p = h
    · obtain ⟨u, hu⟩ := a.some
      rw [e, hu] at n; cases n
    · rw [k p o q e] at n; cases n
theorem HandAt.same {H H' : Hp} {h c : Addr} (a : HandAt H h c) (s : Same H H') : HandAt H' h c := by
  obtain ⟨ns, i, r, s1, k, v⟩ := a
  exact ⟨ns, i, r, s1, k, s _ _ v.hh, s _ _ v.hc, v.ne, v.nn, v.i0, v.r0, v.ln⟩
/-- a new thing laid, or one changed that is not the hand's -/
theorem HandAt.upd {H : Hp} {h c p : Addr} {o : HO} (a : HandAt H h c) (n : H p = none) : HandAt (upd H p o) h c := a.same (Same.new n)
theorem HandAt.mut {H : Hp} {h c p : Addr} {o : HO} (a : HandAt H h c) (n : p ≠ h) (m : p ≠ c) : HandAt (L2.upd H p o) h c := by
  obtain ⟨ns, i, r, s1, k, v⟩ := a
  exact ⟨ns, i, r, s1, k, by rw [upd_ne n.symm]; exact v.hh, by rw [upd_ne m.symm]; exact v.hc, v.ne, v.nn, v.i0, v.r0, v.ln⟩
theorem HandAt.out {H : Hp} {h c p : Addr} (a : HandAt H h c) (n : H p = none) : p ≠ h ∧ p ≠ c := by
  obtain ⟨ns, i, r, s1, k, v⟩ := a
  exact ⟨fun e => (by rw [e, v.hh] at n; cases n), fun e => (by rw [e, v.hc] at n; cases n)⟩
theorem Keep1.mut {h p : Addr} {H H' : Hp} {o : HO} (k : Keep1 h H H') (n : H p = none) : Keep1 h H (L2.upd H' p o) := fun b u e m => by rw [upd_ne (ne_of_none e n)]; exact k b u e m
def sp_draw : Sp := fun vs H Q _ => ∃ h c many, vs = [.ref h, .int many] ∧ HandAt H h c ∧ 0 < many ∧ many.natAbs.log2 < 9000 ∧ ∀ H' d, 0 ≤ d → d < many → Keep1 h H H' → HandAt H' h c → Q (.int d) H'
theorem set_l {l : Addr} {xs : List V} {i : Int} {j : Nat} {v : V} {H : Hp} {q : Hp → Prop} (hl : H l = some (.lst xs)) (hj : ixN xs.length i = some j) (h : q (upd H l (.lst (xs.set j v)))) : rSetL (.ref l) (.int i) v H q :=
  ⟨l, xs, i, j, rfl, rfl, hl, hj, h⟩
theorem ok_Ldraw (T : Txt K mg) : FnOk P w K mg base (L2.CX P w) 1 T.f_Ldraw T.fd_Ldraw ["_law_hand_here", "_law_many"] sp_draw := by
  refine T.F_Ldraw.okX sc_Ldraw (fun vs H Q E h => ?_) (fun cdv A outer s H vs Q E hr h => ?_)
  · obtain ⟨_, _, _, rfl, _⟩ := h
    rfl
  · obtain ⟨h, c, many, rfl, ⟨ns, i, r, s0, k0, v⟩, hm0, hm9, k⟩ := h
    refine ⟨_, (pss_cons (ps_if (PW.pt (pw_and (pt_cmpR op_eq (pe_ix (ix_seqK (K := K) rfl) (pv 0) pe_int (fun _ _ => rfl)) pe_int (nomark _)) (pw_and1 (pt_cmpR op_lt (pe_ix (ix_seqK (K := K) rfl) (pv 0) pe_int (fun _ _ => rfl)) (pe_callB (call_lenK (K := K) rfl) (by rfl) T.b_len boot_len (pa_cons (pe_ix (ix_seqK (K := K) rfl) (pv 0) pe_int (fun _ _ => rfl)) pa_nil)) (nomark _)))))
  (pss_cons (ps_set (i := 2) sc_Ldraw.nd rfl (by first | exact Or.inl rfl | exact Or.inr rfl) (pe_ix (ix_seqK (K := K) rfl) (pe_ix (ix_seqK (K := K) rfl) (pv 0) pe_int (fun _ _ => rfl)) (pe_ix (ix_seqK (K := K) rfl) (pv 0) pe_int (fun _ _ => rfl)) (fun _ _ => rfl)))
  (pss_cons (ps_asg (pe_op op_addA (pe_ix (ix_seqK (K := K) rfl) (pv 0) pe_int (fun _ _ => rfl)) pe_int) (pg_sub (pv 0) pe_int set_list))
  (pss_cons (ps_asg (pe_op op_mod (pe_callTy call_intA (by rfl) T.b_int boot_int (pa_cons (pe_op op_addA (pe_op op_addA (pe_op op_mul (pe_ix (ix_seqK (K := K) rfl) (pv 0) pe_int (fun _ _ => rfl)) pe_int) (pv 2)) pe_int) pa_nil)) pe_int) (pg_sub (pv 0) pe_int set_list))
  (pss_one (ps_if (pt_cmpR op_ge (pv 2) (pe_op op_pow pe_int pe_int) (nomark _))
  (pss_one (ps_asg (pv 2) (pg_sub (pv 0) pe_int set_list)))
  pss_nil)))))
  pss_nil)
  (pss_cons (ps_if (pt_cmpR op_gt (pe_ix (ix_seqK (K := K) rfl) (pv 0) pe_int (fun _ _ => rfl)) pe_int (nomark _))
  (pss_cons (ps_set (i := 3) sc_Ldraw.nd rfl (by first | exact Or.inl rfl | exact Or.inr rfl) (pe_op op_mod (pe_callTy call_intA (by rfl) T.b_int boot_int (pa_cons (pe_ix (ix_seqK (K := K) rfl) (pv 0) pe_int (fun _ _ => rfl)) pa_nil)) (pv 1)))
  (pss_cons (ps_asg (pe_op op_fdivW (pe_ix (ix_seqK (K := K) rfl) (pv 0) pe_int (fun _ _ => rfl)) (pv 1)) (pg_sub (pv 0) pe_int set_list))
  (pss_one (ps_ret (pv 3)))))
  pss_nil)
  (pss_cons (ps_asg (pe_op op_addA (pe_ix (ix_seqK (K := K) rfl) (pv 0) pe_int (fun _ _ => rfl)) pe_int) (pg_sub (pv 0) pe_int set_list))
  (pss_cons (ps_set (i := 4) sc_Ldraw.nd rfl (by first | exact Or.inl rfl | exact Or.inr rfl) (pe_op op_mod (pe_callTy call_intA (by rfl) T.b_int boot_int (pa_cons (pe_op op_mul (pe_callTy call_intA (by rfl) T.b_int boot_int (pa_cons (pe_op op_addA (pe_ix (ix_seqK (K := K) rfl) (pv 0) pe_int (fun _ _ => rfl)) (pe_op op_mul pe_int (pe_ix (ix_seqK (K := K) rfl) (pv 0) pe_int (fun _ _ => rfl)))) pa_nil)) pe_int) pa_nil)) pe_int))
  (pss_cons (ps_set (i := 4) sc_Ldraw.nd rfl (by first | exact Or.inl rfl | exact Or.inr rfl) (pe_op op_mod (pe_callTy call_intA (by rfl) T.b_int boot_int (pa_cons (pe_op op_mul (pv 4) (pe_op op_addA (pe_op op_fdivW (pv 4) pe_int) pe_int)) pa_nil)) pe_int))
  (pss_cons (ps_set (i := 4) sc_Ldraw.nd rfl (by first | exact Or.inl rfl | exact Or.inr rfl) (pe_op op_mod (pe_callTy call_intA (by rfl) T.b_int boot_int (pa_cons (pe_op op_mul (pv 4) (pe_op op_addA (pe_op op_fdivW (pv 4) pe_int) pe_int)) pa_nil)) pe_int))
  (pss_one (ps_ret (pe_op op_mod (pe_callTy call_intA (by rfl) T.b_int boot_int (pa_cons (pe_op op_fdivW (pv 4) pe_int) pa_nil)) (pv 1)))))))))), ?_⟩
    refine rd_have (M := fun σ' H' => (∃ x, σ' = [some (.ref h), some (.int many), x, none, none]) ∧ HandAt H' h c ∧ Keep1 h H H') (fun σ' H1 hM => ?_) (fun rest => ?_)
    · obtain ⟨⟨x, rfl⟩, ⟨ns, i, r, s1, k1, v⟩, kp⟩ := hM
      walk_at "rd"
      refine rIx_l (SqL.of v.hh) rfl ?_
      walk_at "rd"
      by_cases hr0 : 0 < r
      · rw [decide_eq_true hr0]
        refine iteT ?_
        walk_at "rd"
        refine rIx_l (SqL.of v.hh) rfl ?_
        walk_at "rd"
        refine rI_i hm0 ?_
        walk_at "rd"
        refine rIx_l (SqL.of v.hh) rfl ?_
        walk_at "rd"
        refine rI_i ⟨hm0, hm9⟩ ?_
        walk_at "rd"
        refine set_l v.hh rfl ?_
        walk_at "rd"
        refine k _ _ (Int.emod_nonneg _ (by omega)) (Int.emod_lt_of_pos _ hm0) kp.upd ⟨ns, i, r / many, s1, k1, upd_same, by rw [upd_ne v.ne]; exact v.hc, v.ne, v.nn, v.i0, Int.ediv_nonneg v.r0 (by omega), v.ln⟩
      · rw [decide_eq_false hr0]
        refine iteF ?_
        walk_at "rd"
        refine rIx_l (SqL.of v.hh) rfl ?_
        walk_at "rd"
        refine set_l v.hh rfl ?_
        walk_at "rd"
        refine rIx_l (SqL.of upd_same) rfl ?_
        walk_at "rd"
        refine rIx_l (SqL.of upd_same) rfl ?_
        walk_at "rd"
        refine rI_i (.inl ⟨by decide, by decide⟩) ?_
        walk_at "rd"
        refine rI_i (.inr ⟨by decide, by decide⟩) ?_
        walk_at "rd"
        refine rI_i (show (0 : Int) < 2147483647 by decide) ?_
        walk_at "rd"
        generalize hn1 : ((s1 + 7919 * (k1 + 1)) * 48271) % 2147483647 = n1
        have b1 : 0 ≤ n1 ∧ n1 < 2147483647 := by rw [← hn1]; exact ⟨Int.emod_nonneg _ (by decide), Int.emod_lt_of_pos _ (by decide)⟩
        refine rI_i ⟨by decide, by decide⟩ ?_
        walk_at "rd"
        refine rI_i (.inl ⟨by omega, by omega⟩) ?_
        walk_at "rd"
        refine rI_i (show (0 : Int) < 2147483647 by decide) ?_
        walk_at "rd"
        generalize hn2 : (n1 * (n1 / 1009 + 69621)) % 2147483647 = n2
        have b2 : 0 ≤ n2 ∧ n2 < 2147483647 := by rw [← hn2]; exact ⟨Int.emod_nonneg _ (by decide), Int.emod_lt_of_pos _ (by decide)⟩
        refine rI_i ⟨by decide, by decide⟩ ?_
        walk_at "rd"
        refine rI_i (.inl ⟨by omega, by omega⟩) ?_
        walk_at "rd"
        refine rI_i (show (0 : Int) < 2147483399 by decide) ?_
        walk_at "rd"
        refine rI_i ⟨by decide, by decide⟩ ?_
        walk_at "rd"
        refine rI_i hm0 ?_
        exact k _ _ (Int.emod_nonneg _ (by omega)) (Int.emod_lt_of_pos _ hm0) kp.upd ⟨ns, i, r, s1, k1 + 1, upd_same, by rw [upd_ne v.ne]; exact v.hc, v.ne, v.nn, v.i0, v.r0, v.ln⟩
    · walk_at "rd"
      refine rIx_l (SqL.of v.hh) rfl ?_
      walk_at "rd"
      refine rEq_v rfl ?_
      walk_at "rd"
      rw [decide_int]
      have hv : HandAt H h c := ⟨ns, i, r, s0, k0, v⟩
      by_cases hr0 : r = 0
      · rw [decide_eq_true hr0]
        refine iteT ?_
        walk_at "rd"
        refine rIx_l (SqL.of v.hh) rfl ?_
        walk_at "rd"
        refine rIx_l (SqL.of v.hh) rfl ?_
        walk_at "rd"
        refine len_l (SqL.of v.hc) ?_
        walk_at "rd"
        rw [List.length_map]
        by_cases hi : i < (ns.length : Nat)
        · rw [decide_eq_true hi]
          refine iteT ?_
          walk_at "rd"
          refine rIx_l (SqL.of v.hh) rfl ?_
          walk_at "rd"
          refine rIx_l (SqL.of v.hh) rfl ?_
          have hi2 : i.toNat < ns.length := by have := v.i0; omega
          have hit : (ns.map V.int)[i.toNat]? = some (.int ns[i.toNat]) := by rw [List.getElem?_map, List.getElem?_eq_getElem hi2]; rfl
          have hic : ((i.toNat : Nat) : Int) = i := Int.toNat_of_nonneg v.i0
          refine rIx_l (SqL.of v.hc) (by rw [← hic]; exact atI_nat hit) ?_
          have hn0 : 0 ≤ ns[i.toNat] := v.nn _ (List.getElem_mem hi2)
          generalize ns[i.toNat] = cell at hn0
          walk_at "rd"
          refine rIx_l (SqL.of v.hh) rfl ?_
          walk_at "rd"
          refine set_l v.hh rfl ?_
          walk_at "rd"
          refine rIx_l (SqL.of upd_same) rfl ?_
          walk_at "rd"
          refine rI_i (.inr ⟨by decide, by decide⟩) ?_
          walk_at "rd"
          refine rI_i (show (0 : Int) < 2147483629 by decide) ?_
          walk_at "rd"
          refine set_l upd_same rfl ?_
          walk_at "rd"
          refine rI_i ⟨by decide, by decide, by decide⟩ ?_
          walk_at "rd"
          by_cases hg : (10 : Int) ^ (18 : Int).toNat ≤ cell
          · rw [decide_eq_true hg]
            refine iteT ?_
            walk_at "rd"
            refine set_l upd_same rfl ?_
            refine rest _ _ ⟨⟨_, rfl⟩, ⟨ns, i + 1, cell, _, k0, upd_same, ?_, v.ne, v.nn, by have := v.i0; omega, hn0, v.ln⟩, ((Keep1.refl h H).upd.upd).upd⟩
            rw [upd_ne v.ne, upd_ne v.ne, upd_ne v.ne]
            exact v.hc
          · rw [decide_eq_false hg]
            refine iteF ?_
            refine rest _ _ ⟨⟨_, rfl⟩, ⟨ns, i + 1, r, _, k0, upd_same, ?_, v.ne, v.nn, by have := v.i0; omega, v.r0, v.ln⟩, ((Keep1.refl h H).upd).upd⟩
            rw [upd_ne v.ne, upd_ne v.ne]
            exact v.hc
        · rw [decide_eq_false hi]
          refine iteF ?_
          exact rest _ _ ⟨⟨_, rfl⟩, hv, Keep1.refl h H⟩
      · rw [decide_eq_false hr0]
        refine iteF (iteF ?_)
        exact rest _ _ ⟨⟨_, rfl⟩, hv, Keep1.refl h H⟩
end

section
variable {P : Program} {w : World} {K : PySem.W.Frag} {mg : Str → Option Value} {base : Heap}
def absV1 : V → V
  | .int i => .int (if i < 0 then -i else i)
  | v => v
def sp_hand (K : PySem.W.Frag) : Sp := fun vs H Q _ => ∃ a, ∃ ns : List Int, vs = [.ref a] ∧ SqL K H a (ns.map V.int) ∧ ∀ p c H', H p = none → H c = none → Same H H' → HandAt H' p c → Q (.ref p) H'
theorem ok_Lhand (T : Txt K mg) : FnOk P w K mg base (L2.CX P w) 1 T.f_Lhand T.fd_Lhand ["_law_script"] (sp_hand K) := by
  refine T.F_Lhand.okX sc_Lhand (fun vs H Q E h => ?_) (fun cdv A outer s H vs Q E hr h => ?_)
  · obtain ⟨_, _, rfl, _⟩ := h
    rfl
  · obtain ⟨a, ns, rfl, ha, k⟩ := h
    refine ⟨_, (pss_cons (ps_setLc (i := 1) (own := [("_law_cell", 2)]) rfl sc_Lhand.nd rfl rfl (sw_true rfl rfl rfl (by decide +kernel)) (pi_listK (K := K) rfl (pe_slice (sl_anyK (K := K) rfl) (pv 0) po_none (po_some pe_int))) (blkOk_by (N := N_Lhand) (sc := defScope s_Lhand) (by decide +kernel))
   (fun _ _ _ _ _ => (pg_name (i := 2) sc_Lhand.nd rfl (by first | exact Or.inl rfl | exact Or.inr rfl))) (fun _ _ _ _ _ => pts_nil) (fun _ _ _ _ _ => (pe_callB call_absA (by rfl) T.b_abs boot_abs (pa_cons (pe_callTy call_intA (by rfl) T.b_int boot_int (pa_cons (pv 2) pa_nil)) pa_nil))))
  (pss_one (ps_ret (pe_lst (pa_cons (pv 1) (pa_cons pe_int (pa_cons pe_int (pa_cons (pe_op op_addA pe_int (pe_callB (call_lenK (K := K) rfl) (by rfl) T.b_len boot_len (pa_cons (pv 1) pa_nil))) (pa_cons pe_int pa_nil))))))))), ?_⟩
    walk_at "rd"
    have hl : (cutV (ns.map V.int) none (some ((63 : Nat) : Int))).length ≤ 63 := by rw [cutV_to, List.length_take]; omega
    refine rd_L (el_lcN (xs := cutV (ns.map V.int) none (some ((63 : Nat) : Int))) (fun _ => true) absV1 (el_slA (Evl.ev_var rfl) Evl.eo_none (Evl.eo_some Evl.ev_c) ha) (by omega) (fun _ => rfl) (fun _ _ _ _ => ev_yes) (fun x hx H1 _ _ H2 _ Q' q => ?_)) fun c H1 hc s1 h1 => ?_
    · rw [cutV_to] at hx
      obtain ⟨i, _, rfl⟩ := List.mem_map.mp (List.mem_of_mem_take hx)
      walk_at "rd"
      exact q H2 (Evl.Ex.refl _)
    rw [List.filter_eq_self.mpr (fun _ _ => rfl), cutV_to, ← List.map_take, List.map_map] at h1
    have h1' : H1 c = some (.lst (((ns.take 63).map fun i => if i < 0 then -i else i).map V.int)) := by
      rw [h1, List.map_map]
      rfl
    walk_at "rd"
    refine rd_lst ?_
    walk_at "rd"
    refine len_l (SqL.of h1') ?_
    walk_at "rd"
    refine ⟨by show 5 ≤ sizeLine; decide, fun p hp => ?_⟩
    have ne : c ≠ p := ne_of_none h1' hp
    refine k p c _ (s1.free hp) hc (s1.trans (Same.new hp)) ⟨_, 0, 0, _, 0, upd_same, by rw [upd_ne ne]; exact h1', ne, fun n hn => ?_, by decide, by decide, ?_⟩
    · obtain ⟨i, _, rfl⟩ := List.mem_map.mp hn
      split <;> omega
    · rw [List.length_map, List.length_take]
      omega
theorem nat_of {d : Int} {n : Nat} (h0 : 0 ≤ d) (h1 : d < (n : Int)) : ∃ k : Nat, d = (k : Nat) ∧ k < n := ⟨d.toNat, by omega, by omega⟩
theorem log9 {n : Nat} (h : n ≤ 100000) : ((n : Nat) : Int).natAbs.log2 < 9000 := by
  have h1 : ((n : Nat) : Int).natAbs = n := Int.natAbs_natCast n
  rw [h1]
  by_cases h0 : n = 0
  · subst h0; decide
  · have := Nat.log2_lt h0 (k := 17)
    have h2 : n < 2 ^ 17 := by omega
    have := this.mpr h2
    omega
end

section
variable {P : Program} {w : World} {K : PySem.W.Frag} {mg : Str → Option Value} {base : Heap}
/-- the signs of S, drawn one by one -/
def sp_letters : Sp := fun vs H Q _ => ∃ h c0 S n, vs = [.ref h, .str (tx S), .int (n : Nat)] ∧ HandAt H h c0 ∧ S.Nodup ∧ S.length ≤ 1000 ∧ n ≤ S.length ∧
  ∀ H' l, l.length = n → l.Nodup → (∀ c ∈ l, c ∈ S) → Keep1 h H H' → HandAt H' h c0 → Q (.str (tx l)) H'
theorem ok_Lletters (T : Txt K mg) : FnOk P w K mg base (L2.CX P w) 2 T.f_Lletters T.fd_Lletters ["_law_hand_here", "_law_signs", "_law_many"] sp_letters := by
  refine T.F_Lletters.okX sc_Lletters (fun vs H Q E h => ?_) (fun cdv A outer s H vs Q E hr h => ?_)
  · obtain ⟨_, _, _, _, rfl, _⟩ := h
    rfl
  · obtain ⟨h, c0, S, n, rfl, hh, hnd, hz, hn, k⟩ := h
    refine ⟨_, (pss_cons (ps_set (i := 3) sc_Lletters.nd rfl (by first | exact Or.inl rfl | exact Or.inr rfl) (pv 1))
  (pss_cons (ps_set (i := 4) sc_Lletters.nd rfl (by first | exact Or.inl rfl | exact Or.inr rfl) pe_str)
  (pss_cons (ps_for (passes_of rfl) rfl (pi_range1 rfl T.b_range (pa_cons (pv 2) pa_nil)) (pg_name (i := 5) sc_Lletters.nd rfl (by first | exact Or.inl rfl | exact Or.inr rfl))
  (pss_cons (ps_set (i := 6) sc_Lletters.nd rfl (by first | exact Or.inl rfl | exact Or.inr rfl) (pe_callS (ok_Ldraw T) (hr.mono (by decide)) rfl T.mg_Ldraw T.kp_Ldraw T.bd_Ldraw (fun σ => passAt (takes_of rfl rfl rfl rfl) σ) (pa_cons (pv 0) (pa_cons (pe_callB (call_lenK (K := K) rfl) (by rfl) T.b_len boot_len (pa_cons (pv 3) pa_nil)) pa_nil))))
  (pss_cons (ps_set (i := 4) sc_Lletters.nd rfl (by first | exact Or.inl rfl | exact Or.inr rfl) (pe_op op_addA (pv 4) (pe_ix (ix_seqK (K := K) rfl) (pv 3) (pv 6) (fun _ _ => rfl))))
  (pss_one (ps_set (i := 3) sc_Lletters.nd rfl (by first | exact Or.inl rfl | exact Or.inr rfl) (pe_op op_addA (pe_slice (sl_anyK (K := K) rfl) (pv 3) po_none (po_some (pv 6))) (pe_slice (sl_anyK (K := K) rfl) (pv 3) (po_some (pe_op op_addA (pv 6) pe_int)) po_none)))))))
  (pss_one (ps_ret (pv 4)))))), ?_⟩
    walk_at "rd"
    rw [empty_tx]
    refine rd_rng (n := n) (by omega) (Evl.ea_cons (Evl.ev_var rfl) Evl.ea_nil)
      (fun i σ' H' => ∃ f r o1 o2, σ' = [some (.ref h), some (.str (tx S)), some (.int (n : Nat)), some (.str (tx r)), some (.str (tx f)), o1, o2] ∧ f.length = i ∧ r.length + i = S.length ∧ (f ++ r).Nodup ∧ (∀ c ∈ f ++ r, c ∈ S) ∧ Keep1 h H H' ∧ HandAt H' h c0)
      (fun H1 s1 => ⟨[], S, none, none, rfl, rfl, rfl, hnd, fun c hc => hc, Keep1.of s1, hh.same s1⟩) (fun i σ' H' hi p => ?_) (fun σ' H' p => ?_)
    · obtain ⟨f, r, o1, o2, rfl, hf, hrl, hnd1, hsub, kp, ha⟩ := p
      walk_at "rd"
      refine len_s (l := r) (by omega) ?_
      walk_at "rd"
      refine ⟨h, c0, _, rfl, ha, by omega, log9 (by omega), fun H2 d h0 h1 k2 ha2 => ?_⟩
      obtain ⟨j, rfl, hj⟩ := nat_of h0 h1
      walk_at "rd"
      have hjr : r[j]? = some (r.getD j 0) := by simp [List.getD, List.getElem?_eq_getElem hj]
      refine rIx_s (l := r) (by omega) (atI_nat hjr) ?_
      refine rAdd_s (by simp; omega) ?_
      walk_at "rd"
      refine sl_s (l := r) (cutS_to r j) (by omega) ?_
      walk_at "rd"
      refine sl_s (l := r) (m := r.drop (j + 1)) (cutS_from r (j + 1)) (by omega) ?_
      refine rAdd_s (by rw [List.length_take, List.length_drop]; omega) ?_
      walk_at "rd"
      have er : r = r.take j ++ (r.getD j 0 :: r.drop (j + 1)) := by
        conv => lhs; rw [← List.take_append_drop j r]
        congr 1
        rw [List.drop_eq_getElem_cons hj]
        simp [List.getD, List.getElem?_eq_getElem hj]
      have pm : (f ++ [r.getD j 0] ++ (r.take j ++ r.drop (j + 1))).Perm (f ++ r) := by
        rw [List.append_assoc]
        refine List.Perm.append_left f ?_
        conv => rhs; rw [er]
        show (r.getD j 0 :: (r.take j ++ r.drop (j + 1))).Perm _
        exact List.perm_middle.symm
      refine ⟨_, _, _, _, rfl, by rw [List.length_append, hf]; rfl, ?_, pm.nodup_iff.mpr hnd1, fun c hc => hsub c (pm.mem_iff.mp hc), kp.trans k2, ha2⟩
      rw [List.length_append, List.length_take, List.length_drop]
      omega
    · obtain ⟨f, r, o1, o2, rfl, hf, _, hnd1, hsub, kp, ha⟩ := p
      walk_at "rd"
      exact k H' f hf (List.nodup_append.mp hnd1).1 (fun c hc => hsub c (List.mem_append_left _ hc)) kp ha
end

section
variable {P : Program} {w : World} {K : PySem.W.Frag} {mg : Str → Option Value} {base : Heap}
theorem rd_st' {α : Type} {t : L2.St → Hp → α → Prop} {D : α} {σ σ' : L2.St} {H : Hp} (e : σ = σ') (h : t σ' H D) : t σ H D := e ▸ h
theorem rd_st {α : Type} {t : α → L2.St → Hp → Prop} {D : α} {σ σ' : L2.St} {H : Hp} (e : σ = σ') (h : t D σ' H) : t D σ H := e ▸ h
/-- a comprehension over what a call gives: the call first -/
theorem rd_lcS {tl te : TE} {g : TG} {tt : TT} {vs : List Nat} {σ : L2.St} {H : Hp} {Q : VK} (h : tl σ H fun x H1 => ∃ a, x = .ref a ∧ tLc (iList K (tC (.ref a))) g tt te vs σ H1 Q) : tLc (iList K tl) g tt te vs σ H Q := by
  have e : (fun x H1 => ∃ a, x = V.ref a ∧ tLc (iList K (tC (.ref a))) g tt te vs σ H1 Q) = fun x H1 => ∃ a, x = V.ref a ∧ (∃ xs, SqL K H1 a xs) ∧ (fun J H1 => ∀ D, H1 D = none → ∃ W : Nat → Nat → Hp → Prop, (∃ m, W 0 m (upd H1 D (.lst []))) ∧ ∀ i m H, W i m H → (J.stop i H ∧ Q (.ref D) H) ∨ (J.go i H ∧ ∃ Nx : Hp → Prop, (∀ H', Nx H' → ∃ m', m' < m ∧ W (i + 1) m' H') ∧ ∀ x H', J.yld i H x H' → g x (wipe σ vs) H' fun σ2 H2 => wipe σ2 vs = wipe σ vs ∧ tt σ2 H2 fun b H3 => if b = true then te σ2 H3 fun y H4 => ∃ acc, H4 D = some (.lst acc) ∧ acc.length < sizeLine ∧ Nx (upd H4 D (.lst (acc ++ [y]))) else Nx H3)) (Itl K a) H1 := by
    funext x H1
    apply propext
    constructor
    · rintro ⟨a, rfl, b, hb, r⟩
      cases V.ref.inj hb
      exact ⟨a, rfl, r⟩
    · rintro ⟨a, rfl, r⟩
      exact ⟨a, rfl, a, rfl, r⟩
  rw [e] at h
  exact h
end

section
variable {P : Program} {w : World} {K : PySem.W.Frag} {mg : Str → Option Value} {base : Heap}
theorem cells_succ {gv sd : List Nat} {i c : Nat} (h : gv[i]? = some c) : cellsOf (gv.take (i + 1)) sd = cellsOf (gv.take i) sd ++ sd.map fun s => [c, s] := by
  unfold cellsOf
  rw [take_succ_get h, List.flatMap_append]
  simp
theorem row_cells (c : Nat) (sd : List Nat) : ((vSgs sd).filter fun _ => true).map (fun y => V.str (tx ([c] ++ unS y))) = vTxs (sd.map fun s => [c, s]) := by
  rw [List.filter_eq_self.mpr (fun _ _ => rfl)]
  unfold vSgs vTxs
  rw [List.map_map, List.map_map]
  rfl
def sp_cells : Sp := fun vs H Q _ => ∃ gv sd, vs = [.str (tx gv), .str (tx sd)] ∧ gv.length ≤ 100 ∧ sd.length ≤ 100 ∧ ∀ p H', H p = none → Same H H' → H' p = some (.lst (vTxs (cellsOf gv sd))) → Q (.ref p) H'
theorem ok_Lcells (T : Txt K mg) : FnOk P w K mg base (L2.CX P w) 1 T.f_Lcells T.fd_Lcells ["_law_given", "_law_said"] sp_cells := by
  refine T.F_Lcells.okX sc_Lcells (fun vs H Q E h => ?_) (fun cdv A outer s H vs Q E hr h => ?_)
  · obtain ⟨_, _, rfl, _⟩ := h
    rfl
  · obtain ⟨gv, sd, rfl, hg, hs, k⟩ := h
    refine ⟨_, (pss_cons (ps_set (i := 2) sc_Lcells.nd rfl (by first | exact Or.inl rfl | exact Or.inr rfl) (pe_lst pa_nil))
  (pss_cons (ps_for (passes_of rfl) rfl (pi_str (pv 0)) (pg_name (i := 3) sc_Lcells.nd rfl (by first | exact Or.inl rfl | exact Or.inr rfl))
  (pss_one (ps_set (i := 2) sc_Lcells.nd rfl (by first | exact Or.inl rfl | exact Or.inr rfl) (pe_op op_addA (pv 2) (pe_lc (own := [("_law_word", 4)]) rfl sc_Lcells.nd (pi_str (pv 1)) (blkOk_by (N := N_Lcells) (sc := defScope s_Lcells) (by decide +kernel))
   (fun _ _ _ _ _ => (pg_name (i := 4) sc_Lcells.nd rfl (by first | exact Or.inl rfl | exact Or.inr rfl))) (fun _ _ _ _ _ => pts_nil) (fun _ _ _ _ _ => (pe_op op_addA (pv 3) (pv 4))))))))
  (pss_one (ps_ret (pv 2))))), ?_⟩
    walk_at "rd"
    refine rd_lst (rd_nil ⟨Nat.zero_le _, fun a ha => ?_⟩)
    walk_at "rd"
    refine rd_for (xs := vSgs gv) (wk_str (Evl.ev_var rfl)) (fun i σ' H' => ∃ b o, σ' = [some (.str (tx gv)), some (.str (tx sd)), some (.ref b), o, none] ∧ Same H H' ∧ H b = none ∧ H' b = some (.lst (vTxs (cellsOf (gv.take i) sd))))
      (fun H1 s1 => ⟨a, none, rfl, (Same.new ha).trans s1, ha, s1 _ _ upd_same⟩) (fun _ _ _ _ _ => trivial) (fun i x σ' H' hx p => ?_) (fun σ' H' p => ?_)
    · obtain ⟨b, o, rfl, s2, hb0, hb⟩ := p
      obtain ⟨c, hc, rfl⟩ := vSgs_at hx
      walk_at "rd"
      refine rd_L (el_lc (xs := vSgs sd) (wk_str (Evl.ev_var rfl)) (fun _ => true) (fun y => .str (tx ([c] ++ unS y))) (by rw [vSgs_len]; omega) (fun _ => rfl) (fun _ _ _ _ => ev_yes) (fun y hy H3 _ _ H4 _ Q' q => ?_)) fun p H3 hp s3 h3 => ?_
      · obtain ⟨d, _, rfl⟩ := vSgs_mem hy
        walk_at "rd"
        refine rAdd_s (by show 1 + 1 ≤ 100000; decide) ?_
        exact q H4 (Evl.Ex.refl _)
      rw [row_cells] at h3
      have hle : (cellsOf (gv.take i) sd).length ≤ 100 * 100 := by
        rw [cellsOf_len]
        exact Nat.mul_le_mul (by rw [List.length_take]; omega) hs
      refine rAdd_l (s3 _ _ hb) h3 (by rw [vTxs_len, vTxs_len, List.length_map]; omega) fun p2 hp2 => ?_
      walk_at "rd"
      refine ⟨p2, _, rfl, (s2.trans s3).trans (Same.new hp2), (s2.trans s3).free hp2, ?_⟩
      rw [upd_same, vTxs_app, cells_succ hc]
    · obtain ⟨b, o, rfl, s2, hb0, hb⟩ := p
      rw [vSgs_len, List.take_length] at hb
      walk_at "rd"
      exact k b H' hb0 s2 hb
end

section
variable {P : Program} {w : World} {K : PySem.W.Frag} {mg : Str → Option Value} {base : Heap}
def sp_Wcells (C : Addr) : Sp := fun vs H Q _ => ∃ a gv sd ps, vs = [.ref a] ∧ IsWish C H a gv sd ps ∧ ∀ p H', H p = none → Same H H' → H' p = some (.lst (vTxs (cellsOf gv sd))) → Q (.ref p) H'
theorem ok_Wish_cells (T : Txt K mg) : FnOk P w K mg base (L2.CX P w) 1 T.f_Wish_cells T.fd_Wish_cells ["self"] (sp_Wcells T.C_Wish) := by
  refine T.F_Wish_cells.okX sc_Wish_cells (fun vs H Q E h => ?_) (fun cdv A outer s H vs Q E hr h => ?_)
  · obtain ⟨_, _, _, _, rfl, _⟩ := h
    rfl
  · obtain ⟨a, gv, sd, ps, rfl, ⟨cl, al, pl, ⟨dx, kd, h1⟩, h2, h3, h4⟩, k⟩ := h
    refine ⟨_, (pss_one (ps_ret (pe_callTy (call_listB (K := K) rfl rfl) (by rfl) T.b_list boot_list (pa_cons (pe_fldK (K := K) rfl (pv 0) rfl) pa_nil)))), ?_⟩
    walk_at "rd"
    refine ⟨a, T.C_Wish, dx, _, _, rfl, h1, T.cl_Wish, T.na_Wish_cells, wf_cells, ?_⟩
    exact list_b (SqL.of h2) fun l hl => k l _ hl (Same.new hl) upd_same
def sp_Wpairs (C : Addr) : Sp := fun vs H Q _ => ∃ a gv sd ps, vs = [.ref a] ∧ IsWish C H a gv sd ps ∧ ∀ p H', H p = none → Same H H' → H' p = some (.lst (vTxs (pairsOf gv sd ps))) → Q (.ref p) H'
theorem ok_Wish_pairs (T : Txt K mg) : FnOk P w K mg base (L2.CX P w) 1 T.f_Wish_pairs T.fd_Wish_pairs ["self"] (sp_Wpairs T.C_Wish) := by
  refine T.F_Wish_pairs.okX sc_Wish_pairs (fun vs H Q E h => ?_) (fun cdv A outer s H vs Q E hr h => ?_)
  · obtain ⟨_, _, _, _, rfl, _⟩ := h
    rfl
  · obtain ⟨a, gv, sd, ps, rfl, ⟨cl, al, pl, ⟨dx, kd, h1⟩, h2, h3, h4⟩, k⟩ := h
    refine ⟨_, (pss_one (ps_ret (pe_callTy (call_listB (K := K) rfl rfl) (by rfl) T.b_list boot_list (pa_cons (pe_fldK (K := K) rfl (pv 0) rfl) pa_nil)))), ?_⟩
    walk_at "rd"
    refine ⟨a, T.C_Wish, dx, _, _, rfl, h1, T.cl_Wish, T.na_Wish_pairs, wf_pairs, ?_⟩
    exact list_b (SqL.of h4) fun l hl => k l _ hl (Same.new hl) upd_same
end

section
variable {P : Program} {w : World} {K : PySem.W.Frag} {mg : Str → Option Value} {base : Heap}
def sp_fits : Sp := fun vs H Q _ => ∃ (kind : Int) (gv sd : List Nat) (a b c d : Nat), vs = [.int kind, .str (tx gv), .str (tx sd), .str (tx [a, b]), .str (tx [c, d])] ∧ gv ≠ [] ∧ sd ≠ [] ∧ gv.length ≤ 1000 ∧ sd.length ≤ 1000 ∧
  ∀ b H', Same H H' → Q (.bl b) H'
theorem ok_Lfits (T : Txt K mg) : FnOk P w K mg base (L2.CX P w) 1 T.f_Lfits T.fd_Lfits ["_law_kind", "_law_given", "_law_said", "_law_one", "_law_other"] sp_fits := by
  refine T.F_Lfits.okX sc_Lfits (fun vs H Q E h => ?_) (fun cdv A outer s H vs Q E hr h => ?_)
  · obtain ⟨_, _, _, _, _, _, _, rfl, _⟩ := h
    rfl
  · obtain ⟨kind, gv, sd, a, b, c, d, rfl, hg, hs, hzg, hzs, k⟩ := h
    have hs0 : 0 < sd.length := List.length_pos_iff.mpr hs
    refine ⟨_, (pss_cons (ps_set (i := 5) sc_Lfits.nd rfl (by first | exact Or.inl rfl | exact Or.inr rfl) (pe_bmA (K := K) rfl (pe_bm PySem.F.plainAttrs_str PySem.F.slot_str_find PySem.F.type_str_find mt_findA (pv 2) (pa_cons (pe_ix (ix_seqK (K := K) rfl) (pv 3) pe_int (fun _ _ => rfl)) pa_nil))))
  (pss_cons (ps_set (i := 6) sc_Lfits.nd rfl (by first | exact Or.inl rfl | exact Or.inr rfl) (pe_bmA (K := K) rfl (pe_bm PySem.F.plainAttrs_str PySem.F.slot_str_find PySem.F.type_str_find mt_findA (pv 2) (pa_cons (pe_ix (ix_seqK (K := K) rfl) (pv 4) pe_int (fun _ _ => rfl)) pa_nil))))
  (pss_cons (ps_set (i := 7) sc_Lfits.nd rfl (by first | exact Or.inl rfl | exact Or.inr rfl) (pe_op op_sub (pe_callB (call_lenK (K := K) rfl) (by rfl) T.b_len boot_len (pa_cons (pv 2) pa_nil)) pe_int))
  (pss_cons (ps_if (pt_cmpR op_eq (pv 0) pe_int (nomark _))
  (pss_one (ps_ret (pe_or (pe_cmpR op_eq (pv 6) (pv 5) (nomark _)) (pe_one (pe_cmpR op_eq (pv 6) (pe_op op_mod (pe_callTy call_intA (by rfl) T.b_int boot_int (pa_cons (pe_op op_addA (pv 5) pe_int) pa_nil)) (pe_callB (call_lenK (K := K) rfl) (by rfl) T.b_len boot_len (pa_cons (pv 2) pa_nil))) (nomark _))))))
  pss_nil)
  (pss_cons (ps_if (pt_cmpR op_eq (pv 0) pe_int (nomark _))
  (pss_one (ps_ret (pe_cmpR op_eq (pv 6) (pe_op op_mod (pe_callTy call_intA (by rfl) T.b_int boot_int (pa_cons (pe_op op_addA (pv 5) pe_int) pa_nil)) (pe_callB (call_lenK (K := K) rfl) (by rfl) T.b_len boot_len (pa_cons (pv 2) pa_nil))) (nomark _))))
  pss_nil)
  (pss_cons (ps_if (PW.pt (pw_or (pt_cmpR op_lt (pv 0) pe_int (nomark _)) (pw_or (pt_cmpR op_eq (pe_callB (call_lenK (K := K) rfl) (by rfl) T.b_len boot_len (pa_cons (pv 1) pa_nil)) pe_int (nomark _)) (pw_or1 (pt_cmpR op_lt (pv 7) pe_int (nomark _))))))
  (pss_one (ps_ret (pe_cmpR op_ne (pv 5) (pv 6) (nomark _))))
  pss_nil)
  (pss_cons (ps_set (i := 8) sc_Lfits.nd rfl (by first | exact Or.inl rfl | exact Or.inr rfl) (pe_lst (pa_cons (pe_cmpR op_eq (pe_ix (ix_seqK (K := K) rfl) (pv 3) pe_int (fun _ _ => rfl)) (pe_ix (ix_seqK (K := K) rfl) (pv 1) (pe_un un_neg pe_int) (fun _ _ => rfl)) (nomark _)) (pa_cons (pe_cmpR op_eq (pe_ix (ix_seqK (K := K) rfl) (pv 4) pe_int (fun _ _ => rfl)) (pe_ix (ix_seqK (K := K) rfl) (pv 1) (pe_un un_neg pe_int) (fun _ _ => rfl)) (nomark _)) pa_nil))))
  (pss_cons (ps_if (pt_cmpR (op_eqDK (K := K) rfl (hu64 hr)) (pv 8) (pe_lst (pa_cons pe_bl (pa_cons pe_bl pa_nil))) (nomark _))
  (pss_one (ps_ret (pe_and (pe_cmpR op_eq (pv 5) pe_int (nomark _)) (pe_one (pe_cmpR op_eq (pv 6) pe_int (nomark _))))))
  pss_nil)
  (pss_cons (ps_if (pt_cmpR (op_eqDK (K := K) rfl (hu64 hr)) (pv 8) (pe_lst (pa_cons pe_bl (pa_cons pe_bl pa_nil))) (nomark _))
  (pss_one (ps_ret (pe_and (pe_cmpR op_eq (pv 5) pe_int (nomark _)) (pe_one (pe_cmpR op_lt (pv 6) (pv 7) (nomark _))))))
  pss_nil)
  (pss_cons (ps_if (pt_cmpR (op_eqDK (K := K) rfl (hu64 hr)) (pv 8) (pe_lst (pa_cons pe_bl (pa_cons pe_bl pa_nil))) (nomark _))
  (pss_one (ps_ret (pe_and (pe_cmpR op_eq (pv 6) pe_int (nomark _)) (pe_one (pe_cmpR op_lt (pv 5) (pv 7) (nomark _))))))
  pss_nil)
  (pss_cons (ps_if (PW.pt (pw_or (pt_cmpR op_eq (pv 5) (pv 7) (nomark _)) (pw_or1 (pt_cmpR op_eq (pv 6) (pv 7) (nomark _)))))
  (pss_one (ps_ret (pe_cmpR op_eq (pv 5) (pv 6) (nomark _))))
  pss_nil)
  (pss_one (ps_ret (pe_cmpR op_ne (pv 5) (pv 6) (nomark _))))))))))))))), ?_⟩
    walk_at "rd"
    refine rIx_s (l := [a, b]) (c := b) (by show 2 ≤ 100000; decide) rfl ?_
    walk_at "rd"
    refine rIx_s (l := [c, d]) (c := d) (by show 2 ≤ 100000; decide) rfl ?_
    walk_at "rd"
    generalize hf1 : Txt.find _ _ = f1
    generalize hf2 : Txt.find _ _ = f2
    refine len_s (l := sd) (by omega) ?_
    walk_at "rd"
    refine rEq_v rfl ?_
    walk_at "rd"
    refine both ?_ ?_
    · walk_at "rd"
      refine rEq_v rfl ?_
      walk_at "rd"
      refine both (k _ _ (Same.refl _)) ?_
      walk_at "rd"
      refine len_s (l := sd) (by omega) ?_
      refine rI_i (by omega) ?_
      refine rEq_v rfl ?_
      exact k _ _ (Same.refl _)
    walk_at "rd"
    refine rEq_v rfl ?_
    walk_at "rd"
    refine both ?_ ?_
    · walk_at "rd"
      refine len_s (l := sd) (by omega) ?_
      refine rI_i (by omega) ?_
      refine rEq_v rfl ?_
      exact k _ _ (Same.refl _)
    walk_at "rd"
    refine both (iteT ?_) ?_
    · walk_at "rd"
      exact rNe_v rfl (k _ _ (Same.refl _))
    walk_at "rd"
    refine len_s (l := gv) (by omega) ?_
    walk_at "rd"
    refine rEq_v rfl ?_
    walk_at "rd"
    refine both (iteT ?_) ?_
    · walk_at "rd"
      exact rNe_v rfl (k _ _ (Same.refl _))
    walk_at "rd"
    refine both ?_ ?_
    · walk_at "rd"
      exact rNe_v rfl (k _ _ (Same.refl _))
    walk_at "rd"
    obtain ⟨e, _, he, _⟩ := atI_end hg
    refine rd_lst ?_
    walk_at "rd"
    refine rIx_s (l := [a, b]) (c := a) (by show 2 ≤ 100000; decide) rfl ?_
    walk_at "rd"
    refine rIx_s (l := gv) (c := e) (by omega) he ?_
    refine rEq_v rfl ?_
    walk_at "rd"
    refine rIx_s (l := [c, d]) (c := c) (by show 2 ≤ 100000; decide) rfl ?_
    walk_at "rd"
    refine rIx_s (l := gv) (c := e) (by omega) he ?_
    refine rEq_v rfl ?_
    walk_at "rd"
    generalize decide (V.str (tx [a]) = V.str (tx [e])) = b1
    generalize decide (V.str (tx [c]) = V.str (tx [e])) = b2
    refine ⟨by show 2 ≤ sizeLine; decide, fun p hp => ?_⟩
    walk_at "rd"
    refine rd_lst ?_
    walk_at "rd"
    refine ⟨by show 2 ≤ sizeLine; decide, fun p2 hp2 => ?_⟩
    have e1 : ∀ (H1 : Hp), Same (upd H p (.lst [.bl b1, .bl b2])) H1 → SqL K H1 p (vBls [b1, b2]) := fun H1 s1 => SqL.of (s1 _ _ upd_same)
    refine eqD_of (item_list item_bl) (by decide) (fun _ _ => trivial) (fun _ _ => trivial) (dp_bls (bs := [b1, b2]) (e1 _ (Same.new hp2))) (dp_bls (bs := [true, true]) (SqL.of upd_same)) ?_
    walk_at "rd"
    have s2 := (Same.new hp (o := .lst [.bl b1, .bl b2])).trans (Same.new hp2 (o := .lst [.bl true, .bl true]))
    have d2 := Same.new hp2 (o := .lst [.bl true, .bl true])
    refine both ?_ ?_
    · walk_at "rd"
      refine rEq_v rfl ?_
      walk_at "rd"
      refine both ?_ (k _ _ s2)
      walk_at "rd"
      exact rEq_v rfl (k _ _ s2)
    walk_at "rd"
    refine rd_lst ?_
    walk_at "rd"
    refine ⟨by show 2 ≤ sizeLine; decide, fun p3 hp3 => ?_⟩
    have d3 := d2.trans (Same.new hp3 (o := .lst [.bl true, .bl false]))
    have s3 := s2.trans (Same.new hp3 (o := .lst [.bl true, .bl false]))
    refine eqD_of (item_list item_bl) (by decide) (fun _ _ => trivial) (fun _ _ => trivial) (dp_bls (bs := [b1, b2]) (e1 _ d3)) (dp_bls (bs := [true, false]) (SqL.of upd_same)) ?_
    walk_at "rd"
    refine both ?_ ?_
    · walk_at "rd"
      refine rEq_v rfl ?_
      walk_at "rd"
      refine both ?_ (k _ _ s3)
      walk_at "rd"
      exact k _ _ s3
    walk_at "rd"
    refine rd_lst ?_
    walk_at "rd"
    refine ⟨by show 2 ≤ sizeLine; decide, fun p4 hp4 => ?_⟩
    have d4 := d3.trans (Same.new hp4 (o := .lst [.bl false, .bl true]))
    have s4 := s3.trans (Same.new hp4 (o := .lst [.bl false, .bl true]))
    refine eqD_of (item_list item_bl) (by decide) (fun _ _ => trivial) (fun _ _ => trivial) (dp_bls (bs := [b1, b2]) (e1 _ d4)) (dp_bls (bs := [false, true]) (SqL.of upd_same)) ?_
    walk_at "rd"
    refine both ?_ ?_
    · walk_at "rd"
      refine rEq_v rfl ?_
      walk_at "rd"
      refine both ?_ (k _ _ s4)
      walk_at "rd"
      exact k _ _ s4
    walk_at "rd"
    refine rEq_v rfl ?_
    walk_at "rd"
    refine both (iteT ?_) ?_
    · walk_at "rd"
      exact rEq_v rfl (k _ _ s4)
    walk_at "rd"
    refine rEq_v rfl ?_
    walk_at "rd"
    refine both ?_ ?_
    · walk_at "rd"
      exact rEq_v rfl (k _ _ s4)
    walk_at "rd"
    exact rNe_v rfl (k _ _ s4)
end

section
variable {P : Program} {w : World} {K : PySem.W.Frag} {mg : Str → Option Value} {base : Heap}
def gridP (cs ds : List (List Nat)) : List (List Nat) := cs.flatMap fun x => ds.map fun y => x ++ y
theorem grid_len (cs ds : List (List Nat)) : (gridP cs ds).length = cs.length * ds.length := by
  unfold gridP
  induction cs with
  | nil => simp
  | cons a r ih => rw [List.flatMap_cons, List.length_append, ih, List.length_map, List.length_cons, Nat.succ_mul, Nat.add_comm]
theorem grid_succ {cs ds : List (List Nat)} {i : Nat} {x : List Nat} (h : cs[i]? = some x) : gridP (cs.take (i + 1)) ds = gridP (cs.take i) ds ++ ds.map fun y => x ++ y := by
  unfold gridP
  rw [take_succ_get h, List.flatMap_append]
  simp
theorem nodup_flat {α β : Type} {l : List α} {f : α → List β} (h1 : ∀ a ∈ l, (f a).Nodup) (h2 : l.Pairwise fun a b => ∀ x ∈ f a, ∀ y ∈ f b, x ≠ y) : (l.flatMap f).Nodup :=
  List.pairwise_flatMap.mpr ⟨h1, h2⟩
theorem grid_nodup {cs ds : List (List Nat)} (hc : cs.Nodup) (hd : ds.Nodup) (h2 : ∀ x ∈ cs, x.length = 2) : (gridP cs ds).Nodup := by
  refine nodup_flat (fun a _ => List.Pairwise.map _ (fun x y hxy e => hxy (List.append_cancel_left e)) hd) ?_
  refine hc.imp_of_mem fun {a b} ha hb hab x hx y hy e => ?_
  obtain ⟨u, _, rfl⟩ := List.mem_map.mp hx
  obtain ⟨v, _, rfl⟩ := List.mem_map.mp hy
  exact hab (List.append_inj_left e (by rw [h2 a ha, h2 b hb]))
theorem cells_nodup {gv sd : List Nat} (hg : gv.Nodup) (hs : sd.Nodup) : (cellsOf gv sd).Nodup := by
  unfold cellsOf
  refine nodup_flat (fun a _ => List.Pairwise.map _ (fun x y hxy e => hxy (by cases e; rfl)) hs) ?_
  refine hg.imp fun {a b} hab x hx y hy e => ?_
  obtain ⟨u, _, rfl⟩ := List.mem_map.mp hx
  obtain ⟨v, _, rfl⟩ := List.mem_map.mp hy
  cases e
  exact hab rfl
theorem grid_ok {gv sd : List Nat} {x : List Nat} (h : x ∈ gridP (cellsOf gv sd) (cellsOf gv sd)) : OkPair gv sd x := by
  obtain ⟨a, ha, h⟩ := List.mem_flatMap.mp h
  obtain ⟨b, hb, rfl⟩ := List.mem_map.mp h
  obtain ⟨a1, a2, rfl, h1, h2⟩ := cellsOf_two ha
  obtain ⟨b1, b2, rfl, h3, h4⟩ := cellsOf_two hb
  exact OkPair.four.mpr ⟨h1, h3, h2, h4⟩
/-- what stands while the pairs are made -/
def PI (h c a5 p6 : Addr) (cs : List (List Nat)) (H : Hp) (pre : List (List Nat)) (H' : Hp) : Prop :=
  ∃ ps, ps.Sublist pre ∧ Keep1 h H H' ∧ HandAt H' h c ∧ H' a5 = some (.lst (vTxs cs)) ∧ H' p6 = some (.lst (vTxs ps))
section
variable {h c a5 p6 : Addr} {cs : List (List Nat)} {H H1 H2 : Hp} {pre pre' : List (List Nat)}
theorem PI.draw (p : PI h c a5 p6 cs H pre H1) (n5 : a5 ≠ h) (n6 : p6 ≠ h) (k : Keep1 h H1 H2) (hh : HandAt H2 h c) : PI h c a5 p6 cs H pre H2 := by
  obtain ⟨ps, h1, h2, h3, h4, h5⟩ := p
  exact ⟨ps, h1, h2.trans k, hh, k _ _ h4 n5, k _ _ h5 n6⟩
theorem PI.same (p : PI h c a5 p6 cs H pre H1) (s : Same H1 H2) : PI h c a5 p6 cs H pre H2 := by
  obtain ⟨ps, h1, h2, h3, h4, h5⟩ := p
  exact ⟨ps, h1, h2.same s, h3.same s, s _ _ h4, s _ _ h5⟩
theorem PI.skip (p : PI h c a5 p6 cs H pre H1) (s : pre.Sublist pre') : PI h c a5 p6 cs H pre' H1 := by
  obtain ⟨ps, h1, h2, h3, h4, h5⟩ := p
  exact ⟨ps, h1.trans s, h2, h3, h4, h5⟩
theorem PI.hand (p : PI h c a5 p6 cs H pre H1) : HandAt H1 h c := by
  obtain ⟨ps, h1, h2, h3, h4, h5⟩ := p
  exact h3
theorem PI.cells (p : PI h c a5 p6 cs H pre H1) : H1 a5 = some (.lst (vTxs cs)) := by
  obtain ⟨ps, h1, h2, h3, h4, h5⟩ := p
  exact h4
theorem PI.app (p : PI h c a5 p6 cs H pre H1) (x : List Nat) (h6 : H p6 = none) (n5 : a5 ≠ p6) (nh : p6 ≠ h) (nc : p6 ≠ c) (hz : pre.length ≤ 100000) {σ' : L2.St} {Q : VK} (q : ∀ H2, PI h c a5 p6 cs H (pre ++ [x]) H2 → Q .non H2) :
    tyV K "list" (.ref p6) H1 ∧ rAppend (.ref p6) [.str (tx x)] H1 Q := by
  obtain ⟨ps, h1, h2, h3, h4, h5⟩ := p
  refine ⟨ty_lst (SqL.of h5), put_l h5 (by rw [vTxs_len]; exact Nat.le_trans h1.length_le hz) (q _ ⟨ps ++ [x], ?_, h2.mut h6, h3.mut nh nc, by rw [upd_ne n5]; exact h4, ?_⟩)⟩
  · exact List.Sublist.append h1 (List.Sublist.refl _)
  · rw [upd_same]
    unfold vTxs
    rw [List.map_append]
    rfl
end
def sp_pairs : Sp := fun vs H Q _ => ∃ h c gv sd, vs = [.ref h, .str (tx gv), .str (tx sd)] ∧ HandAt H h c ∧ gv ≠ [] ∧ sd ≠ [] ∧ gv.Nodup ∧ sd.Nodup ∧ gv.length ≤ 3 ∧ sd.length ≤ 4 ∧
  ∀ p H' ps, H p = none → Keep1 h H H' → HandAt H' h c → H' p = some (.lst (vTxs ps)) → ps.Nodup → (∀ x ∈ ps, OkPair gv sd x) → ps.length ≤ 1000 → Q (.ref p) H'
theorem ok_Lpairs (T : Txt K mg) : FnOk P w K mg base (L2.CX P w) 2 T.f_Lpairs T.fd_Lpairs ["_law_hand_here", "_law_given", "_law_said"] sp_pairs := by
  refine T.F_Lpairs.okX sc_Lpairs (fun vs H Q E h => ?_) (fun cdv A outer s H vs Q E hr h => ?_)
  · obtain ⟨_, _, _, _, rfl, _⟩ := h
    rfl
  · obtain ⟨h, c, gv, sd, rfl, hh, hg, hs, hng, hns, hzg, hzs, k⟩ := h
    refine ⟨_, (pss_cons (ps_set (i := 3) sc_Lpairs.nd rfl (by first | exact Or.inl rfl | exact Or.inr rfl) (pe_callS (ok_Ldraw T) (hr.mono (by decide)) rfl T.mg_Ldraw T.kp_Ldraw T.bd_Ldraw (fun σ => passAt (takes_of rfl rfl rfl rfl) σ) (pa_cons (pv 0) (pa_cons pe_int pa_nil))))
  (pss_cons (ps_set (i := 4) sc_Lpairs.nd rfl (by first | exact Or.inl rfl | exact Or.inr rfl) (pe_op op_addA pe_int (pe_callS (ok_Ldraw T) (hr.mono (by decide)) rfl T.mg_Ldraw T.kp_Ldraw T.bd_Ldraw (fun σ => passAt (takes_of rfl rfl rfl rfl) σ) (pa_cons (pv 0) (pa_cons pe_int pa_nil)))))
  (pss_cons (ps_set (i := 5) sc_Lpairs.nd rfl (by first | exact Or.inl rfl | exact Or.inr rfl) (pe_callS (ok_Lcells T) (hr.mono (by decide)) rfl T.mg_Lcells T.kp_Lcells T.bd_Lcells (fun σ => passAt (takes_of rfl rfl rfl rfl) σ) (pa_cons (pv 1) (pa_cons (pv 2) pa_nil))))
  (pss_cons (ps_set (i := 6) sc_Lpairs.nd rfl (by first | exact Or.inl rfl | exact Or.inr rfl) (pe_lst pa_nil))
  (pss_cons (ps_for (passes_of rfl) rfl (pi_listK (K := K) rfl (pv 5)) (pg_name (i := 7) sc_Lpairs.nd rfl (by first | exact Or.inl rfl | exact Or.inr rfl))
  (pss_one (ps_for (passes_of rfl) rfl (pi_listK (K := K) rfl (pv 5)) (pg_name (i := 8) sc_Lpairs.nd rfl (by first | exact Or.inl rfl | exact Or.inr rfl))
  (pss_cons (ps_set (i := 9) sc_Lpairs.nd rfl (by first | exact Or.inl rfl | exact Or.inr rfl) (pe_or (pe_cmpR op_lt (pv 3) pe_int (nomark _)) (pe_one (pe_callS (ok_Lfits T) (hr.mono (by decide)) rfl T.mg_Lfits T.kp_Lfits T.bd_Lfits (fun σ => passAt (takes_of rfl rfl rfl rfl) σ) (pa_cons (pv 3) (pa_cons (pv 1) (pa_cons (pv 2) (pa_cons (pv 7) (pa_cons (pv 8) pa_nil)))))))))
  (pss_one (ps_if (PW.pt (pw_and (pt_val (pv 9)) (pw_and1 (PW.pt (pw_or (pt_cmpR op_gt (pv 3) pe_int (nomark _)) (pw_or1 (pt_cmpR op_lt (pe_callS (ok_Ldraw T) (hr.mono (by decide)) rfl T.mg_Ldraw T.kp_Ldraw T.bd_Ldraw (fun σ => passAt (takes_of rfl rfl rfl rfl) σ) (pa_cons (pv 0) (pa_cons pe_int pa_nil))) (pe_op op_addA (pv 4) (pe_callTy call_intA (by rfl) T.b_int boot_int (pa_cons (pe_cmpR op_gt (pv 3) pe_int (nomark _)) pa_nil))) (nomark _))))))))
  (pss_one (ps_expr (pe_bmA (K := K) rfl (pe_bm PySem.F.plainAttrs_list PySem.F.slot_list_append PySem.F.type_list_append mt_append (pv 6) (pa_cons (pe_op op_addA (pv 7) (pv 8)) pa_nil)))))
  pss_nil))))))
  (pss_one (ps_ret (pv 6)))))))), ?_⟩
    walk_at "rd"
    refine ⟨h, c, 8, rfl, hh, by decide, by decide, fun H1 kind _ _ k1 hh1 => ?_⟩
    walk_at "rd"
    refine ⟨h, c, 3, rfl, hh1, by decide, by decide, fun H2 d2 _ _ k2 hh2 => ?_⟩
    walk_at "rd"
    refine ⟨gv, sd, rfl, by omega, by omega, fun a5 H3 ha5 s3 h5 => ?_⟩
    walk_at "rd"
    refine rd_lst (rd_nil ⟨Nat.zero_le _, fun p6 hp6 => ?_⟩)
    walk_at "rd"
    have hlc : (cellsOf gv sd).length ≤ 12 := by
      rw [cellsOf_len]
      exact Nat.mul_le_mul hzg hzs
    have kp : Keep1 h H H3 := (k1.trans k2).same s3
    have hh3 := hh2.same s3
    have z5 : H a5 = none := (k1.trans k2).free hh2 ha5
    have z6 : H p6 = none := kp.free hh3 hp6
    have n5 := hh2.out ha5
    have n6 := hh3.out hp6
    have n56 : a5 ≠ p6 := ne_of_none h5 hp6
    have p0 : PI h c a5 p6 (cellsOf gv sd) H [] (upd H3 p6 (.lst [])) := ⟨[], List.Sublist.refl _, kp.same (Same.new hp6), hh3.upd hp6, upd_keep hp6 h5, upd_same⟩
    generalize hcs : cellsOf gv sd = cs at *
    refine rd_for (xs := vTxs cs) (wk_list (Evl.ev_var rfl) (SqL.of p0.cells))
      (fun i σ' H' => ∃ o7 o8 o9, σ' = [some (.ref h), some (.str (tx gv)), some (.str (tx sd)), some (.int kind), some (.int (1 + d2)), some (.ref a5), some (.ref p6), o7, o8, o9] ∧ PI h c a5 p6 cs H (gridP (cs.take i) cs) H')
      (fun H4 s4 => ⟨none, none, none, rfl, p0.same s4⟩) (fun i σ' H' _ q => ?_) (fun i x σ' H' hx q => ?_) (fun σ' H' q => ?_)
    · obtain ⟨_, _, _, _, q⟩ := q
      exact SqL.of q.cells
    · obtain ⟨o7, o8, o9, rfl, q0⟩ := q
      obtain ⟨x, hxi, rfl⟩ := vTxs_at hx
      have hxc : x ∈ cellsOf gv sd := by rw [hcs]; exact List.mem_of_getElem? hxi
      obtain ⟨xa, xb, ex, _⟩ := cellsOf_two hxc
      have hi : i < cs.length := (List.getElem?_eq_some_iff.mp hxi).1
      walk_at "rd"
      refine rd_for (xs := vTxs cs) (wk_list (Evl.ev_var rfl) (SqL.of q0.cells))
        (fun j σ' H' => ∃ o8 o9, σ' = [some (.ref h), some (.str (tx gv)), some (.str (tx sd)), some (.int kind), some (.int (1 + d2)), some (.ref a5), some (.ref p6), some (.str (tx x)), o8, o9] ∧ PI h c a5 p6 cs H (gridP (cs.take i) cs ++ (cs.take j).map fun y => x ++ y) H')
        (fun H4 s4 => ⟨o8, o9, rfl, by simpa using q0.same s4⟩) (fun j σ' H' _ q => ?_) (fun j y σ' H' hy q => ?_) (fun σ' H' q => ?_)
      · obtain ⟨_, _, _, q⟩ := q
        exact SqL.of q.cells
      · obtain ⟨o8, o9, rfl, q⟩ := q
        obtain ⟨y, hyj, rfl⟩ := vTxs_at hy
        have hyc : y ∈ cellsOf gv sd := by rw [hcs]; exact List.mem_of_getElem? hyj
        obtain ⟨ya, yb, ey, _⟩ := cellsOf_two hyc
        have hzp : (gridP (cs.take i) cs ++ (cs.take j).map fun y => x ++ y).length ≤ 100000 := by
          rw [List.length_append, grid_len, List.length_map, List.length_take, List.length_take]
          have : min i cs.length * cs.length ≤ 12 * 12 := Nat.mul_le_mul (by omega) hlc
          omega
        have esucc : (gridP (cs.take i) cs ++ (cs.take (j + 1)).map fun y => x ++ y) = (gridP (cs.take i) cs ++ (cs.take j).map fun y => x ++ y) ++ [x ++ y] := by
          rw [take_succ_get hyj, List.map_append, List.append_assoc]
          rfl
        refine rd_name ?_
        refine rd_have (M := fun σ' H4 => ∃ b, σ' = [some (.ref h), some (.str (tx gv)), some (.str (tx sd)), some (.int kind), some (.int (1 + d2)), some (.ref a5), some (.ref p6), some (.str (tx x)), some (.str (tx y)), some (.bl b)] ∧ Same H' H4) (fun σ' H4 hM => ?_) (fun rest => ?_)
        · obtain ⟨b, rfl, s4⟩ := hM
          have q4 := q.same s4
          walk_at "rd"
          have skip : ∀ H5, PI h c a5 p6 cs H (gridP (cs.take i) cs ++ (cs.take j).map fun y => x ++ y) H5 → PI h c a5 p6 cs H (gridP (cs.take i) cs ++ (cs.take (j + 1)).map fun y => x ++ y) H5 := fun H5 q5 => by
            rw [esucc]
            exact q5.skip (List.sublist_append_left _ _)
          cases b with
          | false =>
            refine iteF (iteF ?_)
            walk_at "rd"
            exact ⟨_, _, rfl, skip _ q4⟩
          | true =>
            refine iteT ?_
            walk_at "rd"
            refine both (iteT ?_) ?_
            · walk_at "rd"
              refine ⟨(q4.app (x ++ y) z6 n56 n6.1 n6.2 hzp (σ' := []) (Q := fun _ _ => True) (fun _ _ => trivial)).1, ?_⟩
              walk_at "rd"
              refine rAdd_s (by rw [ex, ey]; show 2 + 2 ≤ 100000; decide) ?_
              walk_at "rd"
              refine (q4.app (K := K) (x ++ y) z6 n56 n6.1 n6.2 hzp (σ' := []) (fun H5 q5 => ?_)).2
              exact ⟨_, _, rfl, by rw [esucc]; exact q5⟩
            · walk_at "rd"
              refine ⟨h, c, 4, rfl, q4.hand, by decide, by decide, fun H5 d5 _ _ k5 hh5 => ?_⟩
              have q5 := q4.draw n5.1 n6.1 k5 hh5
              walk_at "rd"
              refine both ?_ ?_
              · walk_at "rd"
                refine ⟨(q5.app (x ++ y) z6 n56 n6.1 n6.2 hzp (σ' := []) (Q := fun _ _ => True) (fun _ _ => trivial)).1, ?_⟩
                walk_at "rd"
                refine rAdd_s (by rw [ex, ey]; show 2 + 2 ≤ 100000; decide) ?_
                walk_at "rd"
                refine (q5.app (K := K) (x ++ y) z6 n56 n6.1 n6.2 hzp (σ' := []) (fun H6 q6 => ?_)).2
                exact ⟨_, _, rfl, by rw [esucc]; exact q6⟩
              · walk_at "rd"
                exact ⟨_, _, rfl, skip _ q5⟩
        · walk_at "rd"
          refine both (rest _ _ ⟨_, rfl, Same.refl _⟩) ?_
          walk_at "rd"
          refine ⟨kind, gv, sd, xa, xb, ya, yb, by rw [ex, ey], hg, hs, by omega, by omega, fun b H4 s4 => ?_⟩
          exact rest _ _ ⟨b, rfl, s4⟩
      · obtain ⟨o8, o9, rfl, q⟩ := q
        rw [vTxs_len, List.take_length, ← grid_succ hxi] at q
        exact ⟨_, _, _, rfl, q⟩
    · obtain ⟨o7, o8, o9, rfl, q⟩ := q
      rw [vTxs_len, List.take_length] at q
      obtain ⟨ps, g1, g2, g3, g4, g5⟩ := q
      walk_at "rd"
      refine k p6 H' ps z6 g2 g3 g5 ?_ (fun x hx => ?_) ?_
      · refine (grid_nodup ?_ ?_ fun x hx => ?_).sublist g1
        · rw [← hcs]; exact cells_nodup hng hns
        · rw [← hcs]; exact cells_nodup hng hns
        · rw [← hcs] at hx
          obtain ⟨a, b, rfl, _⟩ := cellsOf_two hx
          rfl
      · have := g1.mem hx
        rw [← hcs] at this
        exact grid_ok this
      · have h1 := g1.length_le
        rw [grid_len] at h1
        have := Nat.mul_le_mul hlc hlc
        omega
end

section
variable {P : Program} {w : World} {K : PySem.W.Frag} {mg : Str → Option Value} {base : Heap}
/-- a wish of the law's making -/
structure Parts (gv sd : List Nat) (ps : List (List Nat)) : Prop where
  hg : OkDiff lowers 3 gv
  hs : OkDiff uppers 4 sd
  hp : ∀ x ∈ ps, OkPair gv sd x
  nd : ps.Nodup
  le : ps.length ≤ 1000
def sp_parts : Sp := fun vs H Q _ => ∃ h c, vs = [.ref h] ∧ HandAt H h c ∧
  ∀ p H' gv sd ps pa, H p = none → Keep1 h H H' → HandAt H' h c → H' p = some (.tup [.str (tx gv), .str (tx sd), .ref pa]) → H pa = none → H' pa = some (.lst (vTxs ps)) → Parts gv sd ps → Q (.ref p) H'
theorem ok_Lparts (T : Txt K mg) : FnOk P w K mg base (L2.CX P w) 3 T.f_Lparts T.fd_Lparts ["_law_hand_here"] sp_parts := by
  refine T.F_Lparts.okX sc_Lparts (fun vs H Q E h => ?_) (fun cdv A outer s H vs Q E hr h => ?_)
  · obtain ⟨_, _, rfl, _⟩ := h
    rfl
  · obtain ⟨h, c, rfl, hh, k⟩ := h
    refine ⟨_, (pss_cons (ps_asg (pe_ix (ix_seqK (K := K) rfl) (pe_lst (pa_cons (pe_tup (pa_cons pe_int (pa_cons pe_int pa_nil))) (pa_cons (pe_tup (pa_cons pe_int (pa_cons pe_int pa_nil))) (pa_cons (pe_tup (pa_cons pe_int (pa_cons pe_int pa_nil))) (pa_cons (pe_tup (pa_cons pe_int (pa_cons pe_int pa_nil))) (pa_cons (pe_tup (pa_cons pe_int (pa_cons pe_int pa_nil))) (pa_cons (pe_tup (pa_cons pe_int (pa_cons pe_int pa_nil))) (pa_cons (pe_tup (pa_cons pe_int (pa_cons pe_int pa_nil))) (pa_cons (pe_tup (pa_cons pe_int (pa_cons pe_int pa_nil))) (pa_cons (pe_tup (pa_cons pe_int (pa_cons pe_int pa_nil))) (pa_cons (pe_tup (pa_cons pe_int (pa_cons pe_int pa_nil))) pa_nil))))))))))) (pe_callS (ok_Ldraw T) (hr.mono (by decide)) rfl T.mg_Ldraw T.kp_Ldraw T.bd_Ldraw (fun σ => passAt (takes_of rfl rfl rfl rfl) σ) (pa_cons (pv 0) (pa_cons pe_int pa_nil))) (fun _ _ => rfl)) (pg_tupK (K := K) (n := 2) rfl rfl (pgs_cons (pg_name (i := 1) sc_Lparts.nd rfl (by first | exact Or.inl rfl | exact Or.inr rfl)) (pgs_cons (pg_name (i := 2) sc_Lparts.nd rfl (by first | exact Or.inl rfl | exact Or.inr rfl)) pgs_nil))))
  (pss_cons (ps_set (i := 3) sc_Lparts.nd rfl (by first | exact Or.inl rfl | exact Or.inr rfl) (pe_callS (ok_Lletters T) (hr.mono (by decide)) rfl T.mg_Lletters T.kp_Lletters T.bd_Lletters (fun σ => passAt (takes_of rfl rfl rfl rfl) σ) (pa_cons (pv 0) (pa_cons pe_str (pa_cons (pv 1) pa_nil)))))
  (pss_cons (ps_set (i := 4) sc_Lparts.nd rfl (by first | exact Or.inl rfl | exact Or.inr rfl) (pe_callS (ok_Lletters T) (hr.mono (by decide)) rfl T.mg_Lletters T.kp_Lletters T.bd_Lletters (fun σ => passAt (takes_of rfl rfl rfl rfl) σ) (pa_cons (pv 0) (pa_cons pe_str (pa_cons (pv 2) pa_nil)))))
  (pss_one (ps_ret (pe_tup (pa_cons (pv 3) (pa_cons (pv 4) (pa_cons (pe_callS (ok_Lpairs T) (hr.mono (by decide)) rfl T.mg_Lpairs T.kp_Lpairs T.bd_Lpairs (fun σ => passAt (takes_of rfl rfl rfl rfl) σ) (pa_cons (pv 0) (pa_cons (pv 3) (pa_cons (pv 4) pa_nil)))) pa_nil))))))))), ?_⟩
    refine rd_have (M := fun σ' H' => ∃ m t : Nat, σ' = [some (.ref h), some (.int (m : Nat)), some (.int (t : Nat)), none, none] ∧ 1 ≤ m ∧ m ≤ 3 ∧ 1 ≤ t ∧ t ≤ 4 ∧ Keep1 h H H' ∧ HandAt H' h c) (fun σ' H1 hM => ?_) (fun rest => ?_)
    · obtain ⟨m, t, rfl, m1, m3, t1, t4, kp, hh1⟩ := hM
      rw [lowers_tx, uppers_tx]
      walk_at "rd"
      refine ⟨h, c, lowers, m, rfl, hh1, by decide, by decide, by show m ≤ 26; omega, fun H2 gv hl hn hc k2 hh2 => ?_⟩
      walk_at "rd"
      refine ⟨h, c, uppers, t, rfl, hh2, by decide, by decide, by show t ≤ 26; omega, fun H3 sd hl3 hn3 hc3 k3 hh3 => ?_⟩
      walk_at "rd"
      refine rd_tup ?_
      walk_at "rd"
      refine ⟨h, c, gv, sd, rfl, hh3, fun e => (by rw [e] at hl; simp at hl; omega), fun e => (by rw [e] at hl3; simp at hl3; omega), hn, hn3, by omega, by omega, fun pa H4 ps hpa k4 hh4 hps hnd hok hlen => ?_⟩
      walk_at "rd"
      refine ⟨by show 3 ≤ sizeLine; decide, fun p hp => ?_⟩
      have k03 := (kp.trans k2).trans k3
      refine k p _ gv sd ps pa ((k03.trans k4).free hh4 hp) ((k03.trans k4).same (Same.new hp)) (hh4.upd hp) upd_same (k03.free hh3 hpa) (upd_keep hp hps) ⟨⟨hc, by omega, by omega, hn⟩, ⟨hc3, by omega, by omega, hn3⟩, hok, hnd, hlen⟩
    · walk_at "rd"
      refine rd_lst ?_
      walk_at "rd"
      refine rd_tup ?_
      walk_at "rd"
      refine ⟨by show 2 ≤ sizeLine; decide, fun t0 ht0 => ?_⟩
      walk_at "rd"
      refine rd_tup ?_
      walk_at "rd"
      refine ⟨by show 2 ≤ sizeLine; decide, fun t1 ht1 => ?_⟩
      walk_at "rd"
      refine rd_tup ?_
      walk_at "rd"
      refine ⟨by show 2 ≤ sizeLine; decide, fun t2 ht2 => ?_⟩
      walk_at "rd"
      refine rd_tup ?_
      walk_at "rd"
      refine ⟨by show 2 ≤ sizeLine; decide, fun t3 ht3 => ?_⟩
      walk_at "rd"
      refine rd_tup ?_
      walk_at "rd"
      refine ⟨by show 2 ≤ sizeLine; decide, fun t4 ht4 => ?_⟩
      walk_at "rd"
      refine rd_tup ?_
      walk_at "rd"
      refine ⟨by show 2 ≤ sizeLine; decide, fun t5 ht5 => ?_⟩
      walk_at "rd"
      refine rd_tup ?_
      walk_at "rd"
      refine ⟨by show 2 ≤ sizeLine; decide, fun t6 ht6 => ?_⟩
      walk_at "rd"
      refine rd_tup ?_
      walk_at "rd"
      refine ⟨by show 2 ≤ sizeLine; decide, fun t7 ht7 => ?_⟩
      walk_at "rd"
      refine rd_tup ?_
      walk_at "rd"
      refine ⟨by show 2 ≤ sizeLine; decide, fun t8 ht8 => ?_⟩
      walk_at "rd"
      refine rd_tup ?_
      walk_at "rd"
      refine ⟨by show 2 ≤ sizeLine; decide, fun t9 ht9 => ?_⟩
      walk_at "rd"
      refine ⟨by show 10 ≤ sizeLine; decide, fun L hL => ?_⟩
      generalize hHF : upd _ L _ = HF
      have hLL : HF L = some (.lst [.ref t0, .ref t1, .ref t2, .ref t3, .ref t4, .ref t5, .ref t6, .ref t7, .ref t8, .ref t9]) := by rw [← hHF]; exact upd_same
      have g0 : HF t0 = some (.tup [.int 1, .int 2]) := by rw [← hHF]; walk_at "hp"
      have g1 : HF t1 = some (.tup [.int 1, .int 3]) := by rw [← hHF]; walk_at "hp"
      have g2 : HF t2 = some (.tup [.int 2, .int 2]) := by rw [← hHF]; walk_at "hp"
      have g3 : HF t3 = some (.tup [.int 2, .int 3]) := by rw [← hHF]; walk_at "hp"
      have g4 : HF t4 = some (.tup [.int 2, .int 2]) := by rw [← hHF]; walk_at "hp"
      have g5 : HF t5 = some (.tup [.int 1, .int 4]) := by rw [← hHF]; walk_at "hp"
      have g6 : HF t6 = some (.tup [.int 3, .int 2]) := by rw [← hHF]; walk_at "hp"
      have g7 : HF t7 = some (.tup [.int 2, .int 3]) := by rw [← hHF]; walk_at "hp"
      have g8 : HF t8 = some (.tup [.int 3, .int 1]) := by rw [← hHF]; walk_at "hp"
      have g9 : HF t9 = some (.tup [.int 2, .int 1]) := by rw [← hHF]; walk_at "hp"
      have sF : Same H HF := by
        rw [← hHF]
        exact ((((((((((Same.new ht0).trans (Same.new ht1)).trans (Same.new ht2)).trans (Same.new ht3)).trans (Same.new ht4)).trans (Same.new ht5)).trans (Same.new ht6)).trans (Same.new ht7)).trans (Same.new ht8)).trans (Same.new ht9)).trans (Same.new hL)
      have oL : HandAt HF h c := hh.same sF
      have no : ∀ p, H p = none → p ≠ h := fun p e => (hh.out e).1
      walk_at "rd"
      refine ⟨h, c, 10, rfl, oL, by decide, by decide, fun H1 d d0 d9 k1 hh1 => ?_⟩
      have kF : Keep1 h H H1 := (Keep1.of sF).trans k1
      have nL : L ≠ h := no L (Same.free ((((((((((Same.new ht0).trans (Same.new ht1)).trans (Same.new ht2)).trans (Same.new ht3)).trans (Same.new ht4)).trans (Same.new ht5)).trans (Same.new ht6)).trans (Same.new ht7)).trans (Same.new ht8)).trans (Same.new ht9)) hL)
      have nt : ∀ p a b, HF p = some (.tup [.int a, .int b]) → p ≠ h := fun p a b e1 e2 => by
        obtain ⟨ns, i, r, s1, k1, v⟩ := oL
        rw [e2, v.hh] at e1
        cases e1
      have hd : d = 0 ∨ d = 1 ∨ d = 2 ∨ d = 3 ∨ d = 4 ∨ d = 5 ∨ d = 6 ∨ d = 7 ∨ d = 8 ∨ d = 9 := by omega
      rcases hd with rfl | rfl | rfl | rfl | rfl | rfl | rfl | rfl | rfl | rfl
      · refine rIx_l (SqL.of (k1 _ _ hLL nL)) rfl ?_
        exact ⟨t0, [.int 1, .int 2], rfl, SqT.of (k1 _ _ g0 (nt _ _ _ g0)), rfl, .int 1, [.int 2], rfl, .int 2, [], rfl, rfl, rest _ _ ⟨1, 2, rfl, by decide, by decide, by decide, by decide, kF, hh1⟩⟩
      · refine rIx_l (SqL.of (k1 _ _ hLL nL)) rfl ?_
        exact ⟨t1, [.int 1, .int 3], rfl, SqT.of (k1 _ _ g1 (nt _ _ _ g1)), rfl, .int 1, [.int 3], rfl, .int 3, [], rfl, rfl, rest _ _ ⟨1, 3, rfl, by decide, by decide, by decide, by decide, kF, hh1⟩⟩
      · refine rIx_l (SqL.of (k1 _ _ hLL nL)) rfl ?_
        exact ⟨t2, [.int 2, .int 2], rfl, SqT.of (k1 _ _ g2 (nt _ _ _ g2)), rfl, .int 2, [.int 2], rfl, .int 2, [], rfl, rfl, rest _ _ ⟨2, 2, rfl, by decide, by decide, by decide, by decide, kF, hh1⟩⟩
      · refine rIx_l (SqL.of (k1 _ _ hLL nL)) rfl ?_
        exact ⟨t3, [.int 2, .int 3], rfl, SqT.of (k1 _ _ g3 (nt _ _ _ g3)), rfl, .int 2, [.int 3], rfl, .int 3, [], rfl, rfl, rest _ _ ⟨2, 3, rfl, by decide, by decide, by decide, by decide, kF, hh1⟩⟩
      · refine rIx_l (SqL.of (k1 _ _ hLL nL)) rfl ?_
        exact ⟨t4, [.int 2, .int 2], rfl, SqT.of (k1 _ _ g4 (nt _ _ _ g4)), rfl, .int 2, [.int 2], rfl, .int 2, [], rfl, rfl, rest _ _ ⟨2, 2, rfl, by decide, by decide, by decide, by decide, kF, hh1⟩⟩
      · refine rIx_l (SqL.of (k1 _ _ hLL nL)) rfl ?_
        exact ⟨t5, [.int 1, .int 4], rfl, SqT.of (k1 _ _ g5 (nt _ _ _ g5)), rfl, .int 1, [.int 4], rfl, .int 4, [], rfl, rfl, rest _ _ ⟨1, 4, rfl, by decide, by decide, by decide, by decide, kF, hh1⟩⟩
      · refine rIx_l (SqL.of (k1 _ _ hLL nL)) rfl ?_
        exact ⟨t6, [.int 3, .int 2], rfl, SqT.of (k1 _ _ g6 (nt _ _ _ g6)), rfl, .int 3, [.int 2], rfl, .int 2, [], rfl, rfl, rest _ _ ⟨3, 2, rfl, by decide, by decide, by decide, by decide, kF, hh1⟩⟩
      · refine rIx_l (SqL.of (k1 _ _ hLL nL)) rfl ?_
        exact ⟨t7, [.int 2, .int 3], rfl, SqT.of (k1 _ _ g7 (nt _ _ _ g7)), rfl, .int 2, [.int 3], rfl, .int 3, [], rfl, rfl, rest _ _ ⟨2, 3, rfl, by decide, by decide, by decide, by decide, kF, hh1⟩⟩
      · refine rIx_l (SqL.of (k1 _ _ hLL nL)) rfl ?_
        exact ⟨t8, [.int 3, .int 1], rfl, SqT.of (k1 _ _ g8 (nt _ _ _ g8)), rfl, .int 3, [.int 1], rfl, .int 1, [], rfl, rfl, rest _ _ ⟨3, 1, rfl, by decide, by decide, by decide, by decide, kF, hh1⟩⟩
      · refine rIx_l (SqL.of (k1 _ _ hLL nL)) rfl ?_
        exact ⟨t9, [.int 2, .int 1], rfl, SqT.of (k1 _ _ g9 (nt _ _ _ g9)), rfl, .int 2, [.int 1], rfl, .int 1, [], rfl, rfl, rest _ _ ⟨2, 1, rfl, by decide, by decide, by decide, by decide, kF, hh1⟩⟩
end

section
variable {P : Program} {w : World} {K : PySem.W.Frag} {mg : Str → Option Value} {base : Heap}
theorem nt_lst {H : Hp} {p : Addr} {xs : List V} (h : H p = some (.lst xs)) : NoText K H (.ref p) := ⟨.type "list", .base (.lst h), kit_ty (by decide +kernel)⟩
theorem nt_tup {H : Hp} {p : Addr} {xs : List V} (h : H p = some (.tup xs)) : NoText K H (.ref p) := ⟨.type "tuple", .base (.tup h), kit_ty (by decide +kernel)⟩
theorem nt_dK {H : Hp} {p : Addr} {xs : List (Key × V)} (h : H p = some (.dK xs)) : NoText K H (.ref p) := ⟨.type "dict", .base (.dK h), kit_ty (by decide +kernel)⟩
theorem nt_int {H : Hp} {i : Int} : NoText K H (.int i) := ⟨.type "int", .base (.int i), kit_ty (by decide +kernel)⟩
theorem nt_bl {H : Hp} {i : Bool} : NoText K H (.bl i) := ⟨.type "bool", .base (.bl i), kit_ty (by decide +kernel)⟩
theorem nt_non {H : Hp} : NoText K H .non := ⟨.type "NoneType", .base .non, kit_ty (by decide +kernel)⟩
theorem NoText.keep {H H' : Hp} {v : V} {h0 : Addr} (h : NoText K H v) (s : Keep1 h0 H H') (n : v ≠ .ref h0) : NoText K H' v := by
  obtain ⟨t, ht, hk⟩ := h
  refine ⟨t, ?_, hk⟩
  have na : ∀ a, v = .ref a → a ≠ h0 := fun a e1 e2 => n (by rw [e1, e2])
  cases ht with
  | base b =>
    cases b with
    | non => exact .base .non
    | bl y => exact .base (.bl y)
    | int i => exact .base (.int i)
    | str y => exact .base (.str y)
    | flt y => exact .base (.flt y)
    | lst e => exact .base (.lst (s _ _ e (na _ rfl)))
    | frz e => exact .base (.frz (s _ _ e (na _ rfl)))
    | tup e => exact .base (.tup (s _ _ e (na _ rfl)))
    | dK e => exact .base (.dK (s _ _ e (na _ rfl)))
    | dT e => exact .base (.dT (s _ _ e (na _ rfl)))
    | ins e c h1 h2 h3 h4 => exact .base (.ins (s _ _ e (na _ rfl)) c h1 h2 h3 h4)
  | byt b => exact .byt b
  | set e => exact .set (s _ _ e (na _ rfl))
  | kList e c => exact .kList e c
  | kTuple e c => exact .kTuple e c
  | kDict e c => exact .kDict e c
  | fTuple e => exact .fTuple (s _ _ e (na _ rfl))
  | fDict e => exact .fDict (s _ _ e (na _ rfl))
def Bads (h : Addr) (B : V → Prop) (xs : List V) : Prop := ∀ v ∈ xs, B v ∧ v ≠ .ref h
theorem Bads.nil {h : Addr} {B : V → Prop} : Bads h B [] := fun _ m => (List.not_mem_nil m).elim
theorem Bads.cons {h : Addr} {B : V → Prop} {x : V} {xs : List V} (b : B x) (n : x ≠ .ref h) (r : Bads h B xs) : Bads h B (x :: xs) := fun v m => by
  rcases List.mem_cons.mp m with rfl | m
  · exact ⟨b, n⟩
  · exact r v m
theorem Bads.app {h : Addr} {B : V → Prop} {xs ys : List V} (a : Bads h B xs) (b : Bads h B ys) : Bads h B (xs ++ ys) := fun v m => by
  rcases List.mem_append.mp m with m | m
  · exact a v m
  · exact b v m
end

section
variable {P : Program} {w : World} {K : PySem.W.Frag} {mg : Str → Option Value} {base : Heap}
/-! ### wishes: methods, pairs -/
theorem IsWish.me {C : Addr} {H : Hp} {a : Addr} {gv sd : List Nat} {ps : List (List Nat)} (h : IsWish C H a gv sd ps) : ∃ dx fs, H a = some (.ins C dx fs) ∧ ∀ m : Str, ¬ m = "_given" → ¬ m = "_said" → ¬ m = "_cells" → ¬ m = "_allowed" → ¬ m = "_pairs" → ¬ m = "_kept" → fs.lookup m = none := by
  obtain ⟨cl, al, pl, ⟨dx, kd, h1⟩, _⟩ := h
  exact ⟨dx, _, h1, fun m a1 a2 a3 a4 a5 a6 => wf_no a1 a2 a3 a4 a5 a6⟩
theorem pairs_okp {gv sd : List Nat} {ps : List (List Nat)} : ∀ x ∈ pairsOf gv sd ps, OkPair gv sd x := fun x hx => by
  unfold pairsOf at hx
  obtain ⟨p, hp, hx⟩ := List.mem_flatMap.mp hx
  obtain ⟨q, hq, rfl⟩ := List.mem_map.mp hx
  obtain ⟨a, b, rfl, h1, h2⟩ := cellsOf_two hp
  obtain ⟨c, d, rfl, h3, h4⟩ := cellsOf_two (List.mem_filter.mp hq).1
  exact ⟨a, b, c, d, rfl, h1, h3, h2, h4⟩
theorem named_list (f : List Nat → List Nat) (ps : List (List Nat)) : ((vTxs ps).filter fun _ => true).map (fun v => V.str (tx (f (unS v)))) = vTxs (ps.map f) := by
  rw [List.filter_eq_self.mpr (fun _ _ => rfl)]
  unfold vTxs
  rw [List.map_map, List.map_map]
  rfl
end

section
/-! ### each right answer once -/
theorem flat_nodup {α β : Type} {F : α → List β} : ∀ {xs : List α}, xs.Nodup → (∀ a ∈ xs, (F a).Nodup) → (∀ a ∈ xs, ∀ b ∈ xs, a ≠ b → ∀ x ∈ F a, ∀ y ∈ F b, x ≠ y) → (xs.flatMap F).Nodup
  | [], _, _, _ => by simp
  | a :: r, hn, hF, hd => by
    rw [List.nodup_cons] at hn
    rw [List.flatMap_cons, List.nodup_append]
    refine ⟨hF a List.mem_cons_self, flat_nodup hn.2 (fun b hb => hF b (List.mem_cons_of_mem _ hb)) (fun b hb c hc => hd b (List.mem_cons_of_mem _ hb) c (List.mem_cons_of_mem _ hc)), fun x hx y hy => ?_⟩
    obtain ⟨b, hb, hy⟩ := List.mem_flatMap.mp hy
    exact hd a List.mem_cons_self b (List.mem_cons_of_mem _ hb) (fun e => hn.1 (e ▸ hb)) x hx y hy
end

section
variable {P : Program} {w : World} {K : PySem.W.Frag} {mg : Str → Option Value} {base : Heap}
theorem pairs_few {gv sd : List Nat} {ps : List (List Nat)} : (pairsOf gv sd ps).length ≤ (gv.length * sd.length) * (gv.length * sd.length) := by
  unfold pairsOf
  have h : ∀ (cs ds : List (List Nat)), (cs.flatMap fun p => (ds.filter fun q => decide (p ++ q ∈ ps)).map fun q => p ++ q).length ≤ cs.length * ds.length := by
    intro cs ds
    induction cs with
    | nil => simp
    | cons a r ih =>
      have := List.length_filter_le (fun q => decide (a ++ q ∈ ps)) ds
      rw [List.flatMap_cons, List.length_append, List.length_map, List.length_cons, Nat.succ_mul]
      omega
  have := h (cellsOf gv sd) (cellsOf gv sd)
  rwa [cellsOf_len] at this
theorem pairs_nd {gv sd : List Nat} {ps : List (List Nat)} (hg : gv.Nodup) (hs : sd.Nodup) : (pairsOf gv sd ps).Nodup := by
  unfold pairsOf
  have hc := cells_nodup hg hs
  refine flat_nodup hc (fun p hp => ?_) fun p hp q hq hne x hx y hy e => ?_
  · unfold List.Nodup
    rw [List.pairwise_map]
    refine List.Pairwise.imp_of_mem (fun {a b} ha hb hab e => hab ?_) ((hc.filter _))
    exact List.append_cancel_left e
  · obtain ⟨u, hu, rfl⟩ := List.mem_map.mp hx
    obtain ⟨v, hv, rfl⟩ := List.mem_map.mp hy
    obtain ⟨a1, a2, rfl, _⟩ := cellsOf_two hp
    obtain ⟨b1, b2, rfl, _⟩ := cellsOf_two hq
    have e1 := List.cons.inj e
    have e2 := List.cons.inj e1.2
    exact hne (by rw [e1.1, e2.1])
end

section
/-! ### texts of wishes: what is written, what is read -/
def wGiven : List Nat := [103, 105, 118, 101, 110]
def wSaid : List Nat := [115, 97, 105, 100]
def wPairs : List Nat := [112, 97, 105, 114, 115]
def txtOf (gv sd : List Nat) (P : List (List Nat)) : List Nat := TL.joinL [10] [wGiven ++ ([32] ++ gv), wSaid ++ ([32] ++ sd), TL.joinL [32] (wPairs :: P)]
structure GoodT (gv sd : List Nat) (P : List (List Nat)) : Prop where
  hg : OkDiff lowers 26 gv
  hs : OkDiff uppers 26 sd
  hp : pairsOf gv sd P = P
theorem low_rng {c : Nat} (h : c ∈ lowers) : 97 ≤ c ∧ c ≤ 122 := by
  unfold lowers at h
  obtain ⟨i, hi, rfl⟩ := List.mem_map.mp h
  have := List.mem_range.mp hi
  omega
theorem upp_rng {c : Nat} (h : c ∈ uppers) : 65 ≤ c ∧ c ≤ 90 := by
  unfold uppers at h
  obtain ⟨i, hi, rfl⟩ := List.mem_map.mp h
  have := List.mem_range.mp hi
  omega
section
variable {gv sd : List Nat} {P : List (List Nat)}
theorem GoodT.ok (g : GoodT gv sd P) : ∀ x ∈ P, OkPair gv sd x := fun x hx => pairs_okp (ps := P) x (by rw [g.hp]; exact hx)
theorem GoodT.nd (g : GoodT gv sd P) : P.Nodup := by
  have := pairs_nd (ps := P) g.hg.2.2.2 g.hs.2.2.2
  rwa [g.hp] at this
theorem GoodT.sign (g : GoodT gv sd P) : ∀ x ∈ P, ∀ c ∈ x, 65 ≤ c := fun x hx c hc => by
  obtain ⟨a, b, d, e, rfl, h1, h2, h3, h4⟩ := g.ok x hx
  have l1 := low_rng (g.hg.1 _ h1)
  have l2 := low_rng (g.hg.1 _ h2)
  have u1 := upp_rng (g.hs.1 _ h3)
  have u2 := upp_rng (g.hs.1 _ h4)
  simp at hc
  omega
theorem low_free {c : Nat} (h : OkDiff lowers 26 gv) (hc : c < 65) : c ∉ gv := fun m => by have := low_rng (h.1 c m); omega
theorem upp_free {c : Nat} (h : OkDiff uppers 26 sd) (hc : c < 65) : c ∉ sd := fun m => by have := upp_rng (h.1 c m); omega
theorem GoodT.four (g : GoodT gv sd P) : ∀ x ∈ P, x.length = 4 := fun x hx => by
  obtain ⟨a, b, d, e, rfl, _⟩ := g.ok x hx
  rfl
end
theorem joinL_mem {c a : Nat} : ∀ {ps : List (List Nat)}, a ∈ TL.joinL [c] ps → a = c ∨ ∃ p ∈ ps, a ∈ p
  | [], h => by cases h
  | [p], h => .inr ⟨p, List.mem_singleton.mpr rfl, h⟩
  | p :: q :: r, h => by
    rw [joinL_cons (by simp)] at h
    rcases List.mem_append.mp h with h | h
    · exact .inr ⟨p, List.mem_cons_self .., h⟩
    rcases List.mem_append.mp h with h | h
    · exact .inl (List.mem_singleton.mp h)
    · rcases joinL_mem h with h | ⟨x, hx, h⟩
      · exact .inl h
      · exact .inr ⟨x, List.mem_cons_of_mem _ hx, h⟩
theorem joinL_flat (c : Nat) (w : List Nat) : ∀ P : List (List Nat), TL.joinL [c] (w :: P) = w ++ P.flatMap (fun p => c :: p)
  | [] => by simp [TL.joinL]
  | p :: r => by
    rw [joinL_cons (by simp), joinL_flat c p r, List.flatMap_cons]
    rfl
def blank (l : List Nat) : List Nat := l.map fun a => if a = 10 then 32 else a
theorem blank_app (a b : List Nat) : blank (a ++ b) = blank a ++ blank b := List.map_append ..
theorem blank_free {l : List Nat} (h : 10 ∉ l) : blank l = l := by
  unfold blank
  refine (List.map_congr_left fun a ha => ?_).trans (List.map_id' l)
  rw [if_neg (fun e : a = 10 => h (e ▸ ha))]
theorem line3_free {gv sd : List Nat} {P : List (List Nat)} (g : GoodT gv sd P) : 10 ∉ TL.joinL [32] (wPairs :: P) := fun m => by
  rcases joinL_mem m with h | ⟨p, hp, h⟩
  · omega
  · rcases List.mem_cons.mp hp with rfl | hp
    · exact absurd h (by decide)
    · have := g.sign p hp _ h
      omega
theorem blank_txt {gv sd : List Nat} {P : List (List Nat)} (g : GoodT gv sd P) : cutL 32 (blank (txtOf gv sd P)) = [wGiven, gv, wSaid, sd, wPairs] ++ P := by
  have e : blank (txtOf gv sd P) = TL.joinL [32] ([wGiven, gv, wSaid, sd, wPairs] ++ P) := by
    have e1 : txtOf gv sd P = (wGiven ++ ([32] ++ gv)) ++ ([10] ++ ((wSaid ++ ([32] ++ sd)) ++ ([10] ++ TL.joinL [32] (wPairs :: P)))) := rfl
    have e2 : TL.joinL [32] ([wGiven, gv, wSaid, sd, wPairs] ++ P) = wGiven ++ ([32] ++ (gv ++ ([32] ++ (wSaid ++ ([32] ++ (sd ++ ([32] ++ TL.joinL [32] (wPairs :: P)))))))) := rfl
    rw [e1, e2]
    simp only [blank_app]
    rw [blank_free (l := wGiven) (by decide), blank_free (l := gv) (low_free g.hg (by decide)), blank_free (l := wSaid) (by decide), blank_free (l := sd) (upp_free g.hs (by decide)), blank_free (line3_free g),
      show blank [32] = [32] from rfl, show blank [10] = [32] from rfl]
    simp only [List.append_assoc]
  rw [e]
  refine cut_join (by simp) fun p hp => ?_
  rcases List.mem_append.mp hp with hp | hp
  · simp only [List.mem_cons, List.not_mem_nil, or_false] at hp
    rcases hp with rfl | rfl | rfl | rfl | rfl
    · decide
    · exact low_free g.hg (by decide)
    · decide
    · exact upp_free g.hs (by decide)
    · decide
  · exact fun m => by have := g.sign p hp _ m; omega
theorem txt_inj {gv sd gv' sd' : List Nat} {P P' : List (List Nat)} (g : GoodT gv sd P) (g' : GoodT gv' sd' P') (e : txtOf gv sd P = txtOf gv' sd' P') : gv = gv' ∧ sd = sd' ∧ P = P' := by
  have h := blank_txt g
  rw [e, blank_txt g'] at h
  injection h with h1 h
  injection h with h2 h
  injection h with h3 h
  injection h with h4 h
  injection h with h5 h
  exact ⟨h2.symm, h4.symm, h.symm⟩
theorem txt_lines {gv sd : List Nat} {P : List (List Nat)} (g : GoodT gv sd P) : cutL 10 (txtOf gv sd P) = [wGiven ++ ([32] ++ gv), wSaid ++ ([32] ++ sd), wPairs ++ P.flatMap (fun p => 32 :: p)] := by
  unfold txtOf
  rw [cut_join (by simp), joinL_flat]
  intro p hp
  simp only [List.mem_cons, List.not_mem_nil, or_false] at hp
  rcases hp with rfl | rfl | rfl
  · intro m
    rcases List.mem_append.mp m with m | m
    · exact absurd m (by decide)
    · rcases List.mem_append.mp m with m | m
      · exact absurd m (by decide)
      · exact low_free g.hg (by decide) m
  · intro m
    rcases List.mem_append.mp m with m | m
    · exact absurd m (by decide)
    · rcases List.mem_append.mp m with m | m
      · exact absurd m (by decide)
      · exact upp_free g.hs (by decide) m
  · exact line3_free g
theorem txt_count {gv sd : List Nat} {P : List (List Nat)} (g : GoodT gv sd P) : (txtOf gv sd P).count 10 = 2 := by
  have h := cutL_len 10 (txtOf gv sd P)
  rw [txt_lines g] at h
  simp at h
  omega
/-! the pairs in order -/
theorem mem_pairsOf {gv sd : List Nat} {ps : List (List Nat)} {x : List Nat} : x ∈ pairsOf gv sd ps ↔ OkPair gv sd x ∧ x ∈ ps := by
  constructor
  · intro h
    refine ⟨pairs_okp x h, ?_⟩
    unfold pairsOf at h
    obtain ⟨p, _, h⟩ := List.mem_flatMap.mp h
    obtain ⟨q, hq, rfl⟩ := List.mem_map.mp h
    exact of_decide_eq_true (List.mem_filter.mp hq).2
  · rintro ⟨⟨a, b, c, d, rfl, h1, h2, h3, h4⟩, hx⟩
    unfold pairsOf
    have cel : ∀ {u v : Nat}, u ∈ gv → v ∈ sd → [u, v] ∈ cellsOf gv sd := fun hu hv => List.mem_flatMap.mpr ⟨_, hu, List.mem_map.mpr ⟨_, hv, rfl⟩⟩
    exact List.mem_flatMap.mpr ⟨[a, b], cel h1 h3, List.mem_map.mpr ⟨[c, d], List.mem_filter.mpr ⟨cel h2 h4, decide_eq_true hx⟩, rfl⟩⟩
theorem pairs_idem {gv sd : List Nat} {ps : List (List Nat)} : pairsOf gv sd (pairsOf gv sd ps) = pairsOf gv sd ps := by
  show ((cellsOf gv sd).flatMap fun p => ((cellsOf gv sd).filter fun q => decide (p ++ q ∈ pairsOf gv sd ps)).map fun q => p ++ q) = (cellsOf gv sd).flatMap fun p => ((cellsOf gv sd).filter fun q => decide (p ++ q ∈ ps)).map fun q => p ++ q
  rw [List.flatMap_def, List.flatMap_def]
  congr 1
  refine List.map_congr_left fun p hp => ?_
  congr 1
  refine List.filter_congr fun q hq => ?_
  obtain ⟨a, b, rfl, h1, h2⟩ := cellsOf_two hp
  obtain ⟨c, d, rfl, h3, h4⟩ := cellsOf_two hq
  refine decide_eq_decide.mpr ⟨fun h => (mem_pairsOf.mp h).2, fun h => mem_pairsOf.mpr ⟨⟨a, b, c, d, rfl, h1, h3, h2, h4⟩, h⟩⟩
theorem good_txt {gv sd : List Nat} {ps : List (List Nat)} (hg : OkDiff lowers 26 gv) (hs : OkDiff uppers 26 sd) : GoodT gv sd (pairsOf gv sd ps) := ⟨hg, hs, pairs_idem⟩
def plc (cs : List (List Nat)) (x : List Nat) : Nat := cs.idxOf (x.take 2) * cs.length + cs.idxOf (x.drop 2)
theorem idx_pw {α : Type} [BEq α] [LawfulBEq α] {l : List α} (h : l.Nodup) : l.Pairwise fun a b => l.idxOf a < l.idxOf b := by
  rw [List.pairwise_iff_getElem]
  intro i j hi hj hij
  rw [List.Nodup.idxOf_getElem h i hi, List.Nodup.idxOf_getElem h j hj]
  exact hij
theorem cell_len {gv sd c : List Nat} (h : c ∈ cellsOf gv sd) : c.length = 2 := by
  obtain ⟨a, b, rfl, _⟩ := cellsOf_two h
  rfl
theorem plc_app {cs : List (List Nat)} {p q : List Nat} (h : p.length = 2) : plc cs (p ++ q) = cs.idxOf p * cs.length + cs.idxOf q := by
  unfold plc
  rw [List.take_left' h, List.drop_left' h]
theorem pairs_pw {gv sd : List Nat} {ps : List (List Nat)} (hg : gv.Nodup) (hs : sd.Nodup) : (pairsOf gv sd ps).Pairwise fun x y => plc (cellsOf gv sd) x < plc (cellsOf gv sd) y := by
  unfold pairsOf
  have hc := cells_nodup hg hs
  have hw := idx_pw hc
  refine List.pairwise_flatMap.mpr ⟨fun p hp => ?_, hw.imp_of_mem fun {p q} hp hq hpq x hx y hy => ?_⟩
  · rw [List.pairwise_map]
    refine List.Pairwise.imp (fun {a b} hab => ?_) (hw.sublist List.filter_sublist)
    rw [plc_app (cell_len hp), plc_app (cell_len hp)]
    omega
  · obtain ⟨u, hu, rfl⟩ := List.mem_map.mp hx
    obtain ⟨v, hv, rfl⟩ := List.mem_map.mp hy
    rw [plc_app (cell_len hp), plc_app (cell_len hq)]
    have h1 : (cellsOf gv sd).idxOf u < (cellsOf gv sd).length := List.idxOf_lt_length_iff.mpr (List.mem_filter.mp hu).1
    have h2 : ((cellsOf gv sd).idxOf p + 1) * (cellsOf gv sd).length ≤ (cellsOf gv sd).idxOf q * (cellsOf gv sd).length := Nat.mul_le_mul_right _ hpq
    rw [Nat.succ_mul] at h2
    omega
theorem pw_same {f : List Nat → Nat} : ∀ {A B : List (List Nat)}, A.Pairwise (fun x y => f x < f y) → B.Pairwise (fun x y => f x < f y) → (∀ x, x ∈ A ↔ x ∈ B) → A = B
  | [], [], _, _, _ => rfl
  | [], b :: B, _, _, h => absurd ((h b).mpr (List.mem_cons_self ..)) List.not_mem_nil
  | a :: A, [], _, _, h => absurd ((h a).mp (List.mem_cons_self ..)) List.not_mem_nil
  | a :: A, b :: B, hA, hB, h => by
    rw [List.pairwise_cons] at hA hB
    have e : a = b := by
      rcases List.mem_cons.mp ((h a).mp (List.mem_cons_self ..)) with e | m
      · exact e
      · rcases List.mem_cons.mp ((h b).mpr (List.mem_cons_self ..)) with e | m2
        · exact e.symm
        · have h1 := hB.1 a m
          have h2 := hA.1 b m2
          omega
    subst e
    rw [pw_same hA.2 hB.2 fun x => ?_]
    constructor
    · intro hx
      rcases List.mem_cons.mp ((h x).mp (List.mem_cons_of_mem _ hx)) with e | m
      · have := hA.1 x hx
        rw [e] at this; omega
      · exact m
    · intro hx
      rcases List.mem_cons.mp ((h x).mpr (List.mem_cons_of_mem _ hx)) with e | m
      · have := hB.1 x hx
        rw [e] at this; omega
      · exact m
theorem asc_pairs {gv sd : List Nat} {P : List (List Nat)} (hg : gv.Nodup) (hs : sd.Nodup) (ho : ∀ x ∈ P, OkPair gv sd x) (ha : P.Pairwise fun x y => plc (cellsOf gv sd) x < plc (cellsOf gv sd) y) : pairsOf gv sd P = P :=
  pw_same (pairs_pw hg hs) ha fun x => mem_pairsOf.trans ⟨fun h => h.2, fun h => ⟨ho x h, h⟩⟩
/-- so many signs of five each -/
theorem flat5 {P : List (List Nat)} (h : ∀ x ∈ P, x.length = 4) : (P.flatMap fun p => 32 :: p).length = 5 * P.length := by
  induction P with
  | nil => rfl
  | cons a r ih =>
    have h1 := h a (List.mem_cons_self ..)
    have h2 := ih fun x hx => h x (List.mem_cons_of_mem _ hx)
    rw [List.flatMap_cons, List.length_append, List.length_cons, List.length_cons, h1, h2]
    omega
theorem flat5_at {P : List (List Nat)} (h : ∀ x ∈ P, x.length = 4) {t : Nat} {x : List Nat} (hx : P[t]? = some x) : ((P.flatMap fun p => 32 :: p).drop (5 * t)).take 5 = 32 :: x := by
  induction P generalizing t with
  | nil => cases hx
  | cons a r ih =>
    have h1 := h a (List.mem_cons_self ..)
    rw [List.flatMap_cons]
    cases t with
    | zero =>
      cases hx
      rw [Nat.mul_zero, List.drop_zero]
      exact List.take_left' (by rw [List.length_cons, h1])
    | succ t =>
      have e : 5 * (t + 1) = (32 :: a).length + 5 * t := by rw [List.length_cons, h1]; omega
      rw [e, List.drop_append, List.drop_eq_nil_of_le (by omega), Nat.add_sub_cancel_left, List.nil_append]
      exact ih (fun x hx => h x (List.mem_cons_of_mem _ hx)) hx
end

section
variable {P : Program} {w : World} {K : PySem.W.Frag} {mg : Str → Option Value} {base : Heap}
/-! ### wide_wish: letters as many as one likes -/
def sp_wide (C : Addr) : Sp := fun vs H Q _ => ∃ pa gv sd ps, vs = [.str (tx gv), .str (tx sd), .ref pa] ∧ H pa = some (.lst (vTxs ps)) ∧ gv.length * sd.length ≤ 1000 ∧ ps.length ≤ 40000 ∧ ps.Nodup ∧ ∀ x H' kd, H x = none → Same H H' → NewK C H H' x gv sd ps kd → Q (.ref x) H'
theorem ok_wide_wish (T : Txt K mg) : FnOk P w K mg base (L2.CX P w) 6 T.f_wide_wish T.fd_wide_wish ["given", "said", "pairs"] (sp_wide T.C_Wish) := by
  refine T.F_wide_wish.okX sc_wide_wish (fun vs H Q E h => ?_) (fun cdv A outer s H vs Q E hr h => ?_)
  · obtain ⟨_, _, _, _, rfl, _⟩ := h
    rfl
  · obtain ⟨pa, gv, sd, ps, rfl, hpa, hgs, hz, hn, k⟩ := h
    refine ⟨_, (pss_cons (ps_set (i := 3) sc_wide_wish.nd rfl (by first | exact Or.inl rfl | exact Or.inr rfl) (pe_make T.mk_Wish (ok_Wish_init T) (hr.mono (by decide)) rfl T.mg_Wish T.bd_Wish_init .nil passL (pa_cons pe_str (pa_cons pe_str (pa_cons (pe_lst pa_nil) pa_nil)))))
  (pss_cons (ps_expr (pe_meth (pv 3) T.cl_Wish T.mt_Wishfill (ok_Wishfill T) (hr.mono (by decide)) T.bd_Wishfill .nil passL (pa_cons (pv 0) (pa_cons (pv 1) (pa_cons (pv 2) pa_nil)))))
  (pss_one (ps_ret (pv 3))))), ?_⟩
    walk_at "rd"
    refine rd_lst (rd_nil ⟨Nat.zero_le _, fun e he => ?_⟩)
    have se : Same H (upd H e (.lst [])) := Same.new he
    have fe : upd H e (.lst []) e = some (.lst []) := upd_same
    generalize upd H e (.lst []) = H1 at *
    walk_at "rd"
    intro x dx hx hdx hne
    have sx : Same H1 (upd (upd H1 dx (.own x)) x (.ins T.C_Wish dx [])) := (Same.new hdx).trans (Same.new (by rw [upd_ne (Ne.symm hne)]; exact hx))
    have hx0 : upd (upd H1 dx (.own x)) x (.ins T.C_Wish dx []) x = some (.ins T.C_Wish dx []) := upd_same
    generalize upd (upd H1 dx (.own x)) x (.ins T.C_Wish dx []) = H2 at *
    rw [show (Str.ofString "a") = tx [97] from by decide +kernel, show (Str.ofString "A") = tx [65] from by decide +kernel]
    refine ⟨x, dx, e, [97], [65], [], rfl, hx0, sx _ _ fe, by decide, by decide, by decide, ⟨by decide, by decide, by decide, by decide⟩, ⟨by decide, by decide, by decide, by decide⟩, fun p hp => (List.not_mem_nil hp).elim, List.nodup_nil, fun H3 k3 hw => ⟨rfl, ?_⟩⟩
    obtain ⟨k0, cl0, al0, pl0, ⟨⟨dx0, ob⟩, _⟩, _⟩ := hw
    have s3 : Same H H3 := fun b o h => k3 _ _ (sx _ _ (se _ _ h)) (ne_of_none (se _ _ h) hx)
    have hx00 : H x = none := se.free hx
    walk_at "rd"
    refine ⟨x, dx0, _, rfl, ob, wf_no (by decide +kernel) (by decide +kernel) (by decide +kernel) (by decide +kernel) (by decide +kernel) (by decide +kernel), ?_⟩
    walk_at "rd"
    refine ⟨x, dx0, _, pa, gv, sd, ps, rfl, ob, .inr ⟨_, _, _, _, _, _, rfl⟩, s3 _ _ hpa, hgs, hz, hn, fun H4 k4 hw4 => ?_⟩
    walk_at "rd"
    obtain ⟨kd, cl, al, pl, W, n1, n2, n3, n4, r⟩ := hw4
    exact k x H4 kd hx00 (fun b o h => k4 _ _ (s3 _ _ h) (ne_of_none h hx00)) ⟨cl, al, pl, W, s3.free n1, s3.free n2, s3.free n3, s3.free n4, r⟩
end

section
variable {P : Program} {w : World} {K : PySem.W.Frag} {mg : Str → Option Value} {base : Heap}
/-! ### the text of a wish -/
def sp_wtext (C : Addr) : Sp := fun vs H Q _ => ∃ a gv sd ps, vs = [.ref a] ∧ IsWish C H a gv sd ps ∧ gv.length ≤ 1000 ∧ sd.length ≤ 1000 ∧ (pairsOf gv sd ps).length ≤ 4000 ∧ ∀ H', Same H H' → Q (.str (tx (txtOf gv sd (pairsOf gv sd ps)))) H'
theorem sum4 {P : List (List Nat)} (h : ∀ x ∈ P, x.length = 4) : (P.map List.length).sum = 4 * P.length := by
  induction P with
  | nil => rfl
  | cons a r ih =>
    have h1 := h a (List.mem_cons_self ..)
    have h2 := ih fun x hx => h x (List.mem_cons_of_mem _ hx)
    rw [List.map_cons, List.sum_cons, List.length_cons, h1, h2]
    omega
theorem okp_len {gv sd : List Nat} {ps : List (List Nat)} : ∀ x ∈ pairsOf gv sd ps, x.length = 4 := fun x hx => by
  obtain ⟨a, b, c, d, rfl, _⟩ := pairs_okp x hx
  rfl
theorem ok_wish_text (T : Txt K mg) : FnOk P w K mg base (L2.CX P w) 2 T.f_wish_text T.fd_wish_text ["wish"] (sp_wtext T.C_Wish) := by
  refine T.F_wish_text.okX sc_wish_text (fun vs H Q E h => ?_) (fun cdv A outer s H vs Q E hr h => ?_)
  · obtain ⟨_, _, _, _, rfl, _⟩ := h
    rfl
  · obtain ⟨a, gv, sd, ps, rfl, ha, hgz, hsz, hpz, k⟩ := h
    obtain ⟨dx, fs, a1, a2⟩ := ha.me
    refine ⟨_, (pss_one (ps_ret (pe_bmA (K := K) rfl (pe_bm PySem.F.plainAttrs_str PySem.F.slot_str_join PySem.F.type_str_join (mt_joinK (K := K) rfl) pe_str (pa_cons (pe_lst (pa_cons (pe_op op_addA pe_str (pe_meth0 (pv 0) T.cl_Wish T.mt_Wish_given (ok_Wish_given T) (hr.mono (by decide)) T.bd_Wish_given .nil passL)) (pa_cons (pe_op op_addA pe_str (pe_meth0 (pv 0) T.cl_Wish T.mt_Wish_said (ok_Wish_said T) (hr.mono (by decide)) T.bd_Wish_said .nil passL)) (pa_cons (pe_bmA (K := K) rfl (pe_bm PySem.F.plainAttrs_str PySem.F.slot_str_join PySem.F.type_str_join (mt_joinK (K := K) rfl) pe_str (pa_cons (pe_op op_addA (pe_lst (pa_cons pe_str pa_nil)) (pe_meth0 (pv 0) T.cl_Wish T.mt_Wish_pairs (ok_Wish_pairs T) (hr.mono (by decide)) T.bd_Wish_pairs .nil passL)) pa_nil))) pa_nil)))) pa_nil))))), ?_⟩
    rw [show (Str.ofString "\n") = tx [10] from by decide +kernel, show (Str.ofString "given ") = tx (wGiven ++ [32]) from by decide +kernel, show (Str.ofString "said ") = tx (wSaid ++ [32]) from by decide +kernel, show (Str.ofString " ") = tx [32] from by decide +kernel]
    walk_at "rd"
    refine rd_lst ?_
    walk_at "rd"
    refine ⟨a, dx, fs, rfl, a1, a2 _ (by decide +kernel) (by decide +kernel) (by decide +kernel) (by decide +kernel) (by decide +kernel) (by decide +kernel), ?_⟩
    walk_at "rd"
    refine ⟨a, gv, sd, ps, rfl, ha, ?_⟩
    refine rAdd_s (by rw [List.length_append]; show 5 + 1 + gv.length ≤ 100000; omega) ?_
    walk_at "rd"
    refine ⟨a, dx, fs, rfl, a1, a2 _ (by decide +kernel) (by decide +kernel) (by decide +kernel) (by decide +kernel) (by decide +kernel) (by decide +kernel), ?_⟩
    walk_at "rd"
    refine ⟨a, gv, sd, ps, rfl, ha, ?_⟩
    refine rAdd_s (by rw [List.length_append]; show 4 + 1 + sd.length ≤ 100000; omega) ?_
    walk_at "rd"
    refine rd_lst ?_
    walk_at "rd"
    refine ⟨by show 1 ≤ sizeLine; decide, fun q1 hq1 => ?_⟩
    have s1 := Same.new (o := HO.lst [V.str "pairs"]) hq1
    have f1 := upd_same (H := H) (a := q1) (o := HO.lst [V.str "pairs"])
    generalize upd H q1 (.lst [V.str "pairs"]) = H1 at s1 f1 ⊢
    walk_at "rd"
    refine ⟨a, dx, fs, rfl, s1 _ _ a1, a2 _ (by decide +kernel) (by decide +kernel) (by decide +kernel) (by decide +kernel) (by decide +kernel) (by decide +kernel), ?_⟩
    walk_at "rd"
    refine ⟨a, gv, sd, ps, rfl, ha.mono s1, fun q2 H2 hq2 s2 f2 => ?_⟩
    refine rAdd_l (s2 _ _ f1) f2 (by rw [vTxs_len]; show 1 + _ ≤ 100000; omega) fun q3 hq3 => ?_
    have s3 := Same.new (o := HO.lst ([V.str "pairs"] ++ vTxs (pairsOf gv sd ps))) hq3
    have f3 := upd_same (H := H2) (a := q3) (o := HO.lst ([V.str "pairs"] ++ vTxs (pairsOf gv sd ps)))
    generalize upd H2 q3 (.lst ([V.str "pairs"] ++ vTxs (pairsOf gv sd ps))) = H3 at s3 f3 ⊢
    have f3 : H3 q3 = some (.lst (vTxs (wPairs :: pairsOf gv sd ps))) := by
      rw [f3, show (Str.ofString "pairs") = tx wPairs from by decide +kernel]
      rfl
    walk_at "rd"
    have h4 := sum4 (okp_len (gv := gv) (sd := sd) (ps := ps))
    have l3 : ((wPairs :: pairsOf gv sd ps).map List.length).sum = 5 + 4 * (pairsOf gv sd ps).length := by
      rw [List.map_cons, List.sum_cons, h4]
      rfl
    refine join_m (SqL.of f3) (by rw [l3, List.length_cons]; show _ + _ * 1 ≤ _; omega) ?_
    have l4 := joinL_len (c := 32) (ps := wPairs :: pairsOf gv sd ps) (by simp)
    rw [l3, List.length_cons] at l4
    walk_at "rd"
    refine ⟨by show 3 ≤ sizeLine; decide, fun q4 hq4 => ?_⟩
    have s4 := Same.new (o := HO.lst (vTxs [wGiven ++ [32] ++ gv, wSaid ++ [32] ++ sd, TL.joinL [32] (wPairs :: pairsOf gv sd ps)])) hq4
    have f4 := upd_same (H := H3) (a := q4) (o := HO.lst (vTxs [wGiven ++ [32] ++ gv, wSaid ++ [32] ++ sd, TL.joinL [32] (wPairs :: pairsOf gv sd ps)]))
    change tNil _ (upd H3 q4 (HO.lst (vTxs [wGiven ++ [32] ++ gv, wSaid ++ [32] ++ sd, TL.joinL [32] (wPairs :: pairsOf gv sd ps)]))) _
    generalize upd H3 q4 (HO.lst (vTxs [wGiven ++ [32] ++ gv, wSaid ++ [32] ++ sd, TL.joinL [32] (wPairs :: pairsOf gv sd ps)])) = H4 at s4 f4 ⊢
    walk_at "rd"
    refine join_m (SqL.of f4) ?_ ?_
    · simp only [List.map_cons, List.map_nil, List.sum_cons, List.sum_nil, List.length_cons, List.length_nil, List.length_append]
      have e1 : wGiven.length = 5 := rfl
      have e2 : wSaid.length = 4 := rfl
      omega
    have e : TL.joinL [10] [wGiven ++ [32] ++ gv, wSaid ++ [32] ++ sd, TL.joinL [32] (wPairs :: pairsOf gv sd ps)] = txtOf gv sd (pairsOf gv sd ps) := by
      unfold txtOf
      rw [List.append_assoc, List.append_assoc]
    rw [e]
    exact k H4 (((s1.trans s2).trans s3).trans s4)
end

section
variable {P : Program} {w : World} {K : PySem.W.Frag} {mg : Str → Option Value} {base : Heap}
/-! ### read_wish -/
def sp_readw (K : PySem.W.Frag) (C XT : Addr) : Sp := fun vs H Q E => ∃ v, vs = [v] ∧ ((NoText K H v ∧ ∀ H', Same H H' → E (.ref XT) none H') ∨ ∃ l, v = .str (tx l) ∧ l.length ≤ 12000 ∧
  (∀ gv sd Ps, GoodT gv sd Ps → l = txtOf gv sd Ps → ∀ x H' kd, H x = none → Same H H' → NewK C H H' x gv sd Ps kd → Q (.ref x) H') ∧ ((∀ gv sd Ps, GoodT gv sd Ps → l ≠ txtOf gv sd Ps) → ∀ H', Same H H' → E (.ref XT) none H'))
theorem ok_read_wish (T : Txt K mg) : FnOk P w K mg base (L2.CX P w) 7 T.f_read_wish T.fd_read_wish ["text"] (sp_readw K T.C_Wish T.X_NoText) := by
  refine okT T.F_read_wish sc_read_wish (by decide +kernel) (by decide) (fun vs H Q E h => ?_) (fun cdv A outer s H vs Q E hr h => ?_)
  · obtain ⟨_, rfl, _⟩ := h
    rfl
  · obtain ⟨v, rfl, h⟩ := h
    refine ⟨_, (psst_cons (PST.of (ps_if (pt_not (pt_val (pe_callB (call_isiK1 (K := K) rfl) (by rfl) T.b_isinstance boot_isinstance (pa_cons (pv 0) (pa_cons (pe_bltn (v := .ty "str") rfl T.b_str boot_str rfl) pa_nil)))))
  (pss_one (ps_raise rfl (takes_of rfl rfl rfl rfl) (pmk_own0 PySem.F.excBase_ValueError T.xc_NoText T.mg_NoText T.kp_NoText (raises_own T.sb_NoText T.ty_NoText) rfl)))
  pss_nil))
  (psst_cons (pst_set (i := 1) sc_read_wish.nd rfl (by first | exact Or.inl rfl | exact Or.inr rfl) (pet_split (CwR.pet_replC (pv 0)) pe_str))
  (PSsT.of (pss_cons (ps_if (pt_cmpR op_lt (pe_callB (call_lenK (K := K) rfl) (by rfl) T.b_len boot_len (pa_cons (pv 1) pa_nil)) pe_int (nomark _))
  (pss_one (ps_raise rfl (takes_of rfl rfl rfl rfl) (pmk_own0 PySem.F.excBase_ValueError T.xc_NoText T.mg_NoText T.kp_NoText (raises_own T.sb_NoText T.ty_NoText) rfl)))
  pss_nil)
  (pss_cons (ps_par3 (i := 2) (j := 3) (l := 4) (by rfl) sc_read_wish.nd rfl rfl rfl (by decide) (by decide) (by decide) rfl rfl rfl (pa_cons (pe_ix (ix_seqK (K := K) rfl) (pv 1) pe_int (fun _ _ => rfl)) (pa_cons (pe_ix (ix_seqK (K := K) rfl) (pv 1) pe_int (fun _ _ => rfl)) (pa_cons (pe_slice (sl_anyK (K := K) rfl) (pv 1) (po_some pe_int) po_none) pa_nil))) (by rfl))
  (pss_cons (ps_if (pt_not (pt_val (pe_callS (ok_are_different T) (hr.mono (by decide)) rfl T.mg_are_different T.kp_are_different T.bd_are_different (fun σ => passAt (takes_of rfl rfl rfl rfl) σ) (pa_cons (pv 2) (pa_cons (pe_glob (v := .str "abcdefghijklmnopqrstuvwxyz") rfl T.mg_GIVEN_LETTERS ⟨_, rfl⟩) (pa_cons (pe_callB (call_lenK (K := K) rfl) (by rfl) T.b_len boot_len (pa_cons (pe_glob (v := .str "abcdefghijklmnopqrstuvwxyz") rfl T.mg_GIVEN_LETTERS ⟨_, rfl⟩) pa_nil)) pa_nil))))))
  (pss_one (ps_raise rfl (takes_of rfl rfl rfl rfl) (pmk_own0 PySem.F.excBase_ValueError T.xc_NoText T.mg_NoText T.kp_NoText (raises_own T.sb_NoText T.ty_NoText) rfl)))
  pss_nil)
  (pss_cons (ps_if (PW.pt (pw_or (pt_not (pt_val (pe_callS (ok_are_different T) (hr.mono (by decide)) rfl T.mg_are_different T.kp_are_different T.bd_are_different (fun σ => passAt (takes_of rfl rfl rfl rfl) σ) (pa_cons (pv 3) (pa_cons (pe_glob (v := .str "ABCDEFGHIJKLMNOPQRSTUVWXYZ") rfl T.mg_SAID_LETTERS ⟨_, rfl⟩) (pa_cons (pe_callB (call_lenK (K := K) rfl) (by rfl) T.b_len boot_len (pa_cons (pe_glob (v := .str "ABCDEFGHIJKLMNOPQRSTUVWXYZ") rfl T.mg_SAID_LETTERS ⟨_, rfl⟩) pa_nil)) pa_nil)))))) (pw_or1 (pt_not (pt_val (pe_callS (ok_are_pairs T) (hr.mono (by decide)) rfl T.mg_are_pairs T.kp_are_pairs T.bd_are_pairs (fun σ => passAt (takes_of rfl rfl rfl rfl) σ) (pa_cons (pv 4) (pa_cons (pv 2) (pa_cons (pv 3) pa_nil)))))))))
  (pss_one (ps_raise rfl (takes_of rfl rfl rfl rfl) (pmk_own0 PySem.F.excBase_ValueError T.xc_NoText T.mg_NoText T.kp_NoText (raises_own T.sb_NoText T.ty_NoText) rfl)))
  pss_nil)
  (pss_cons (ps_set (i := 5) sc_read_wish.nd rfl (by first | exact Or.inl rfl | exact Or.inr rfl) (pe_callS (ok_wide_wish T) (hr.mono (by decide)) rfl T.mg_wide_wish T.kp_wide_wish T.bd_wide_wish (fun σ => passAt (takes_of rfl rfl rfl rfl) σ) (pa_cons (pv 2) (pa_cons (pv 3) (pa_cons (pv 4) pa_nil)))))
  (pss_cons (ps_if (pt_cmpR op_ne (pe_callS (ok_wish_text T) (hr.mono (by decide)) rfl T.mg_wish_text T.kp_wish_text T.bd_wish_text (fun σ => passAt (takes_of rfl rfl rfl rfl) σ) (pa_cons (pv 5) pa_nil)) (pv 0) (nomark _))
  (pss_one (ps_raise rfl (takes_of rfl rfl rfl rfl) (pmk_own0 PySem.F.excBase_ValueError T.xc_NoText T.mg_NoText T.kp_NoText (raises_own T.sb_NoText T.ty_NoText) rfl)))
  pss_nil)
  (pss_one (ps_ret (pv 5)))))))))))), ?_⟩
    walk_at "rd"
    rcases h with ⟨⟨t, ht, hk⟩, kb⟩ | ⟨l, rfl, hz, kg, kb⟩
    · refine ⟨_, _, _, _, false, rfl, .ty "str", ht, hk, ?_⟩
      walk_at "rd"
      refine iteT ?_
      exact kb H (Same.refl _)
    refine ⟨_, _, _, _, true, rfl, .ty "str", .base (.str _), kit_ty (by decide +kernel), ?_⟩
    walk_at "rd"
    refine iteF ?_
    with_reducible refine rd_next ?_
    with_reducible refine rd_nx ?_
    refine rd_seq ?_
    refine rd_asg ?_
    refine ⟨_, rfl, tx l, rfl, ?_, ?_⟩
    · have h1 : (tx l).length = l.length := tx_length l
      have h2 : (Str.ofString " ").length = 1 := by decide +kernel
      rw [h1, h2]
      omega
    refine ⟨⟨_, rfl⟩, ?_⟩
    rw [show (Str.ofString "\n") = tx [10] from by decide +kernel, show (Str.ofString " ") = tx [32] from by decide +kernel, replace_tx (by decide)]
    change tC _ _ _ fun y H2 => rSplitS (.str (tx (blank l))) _ _ _
    have hbl : (blank l).length = l.length := List.length_map ..
    walk_at "rd"
    refine split_s (by decide) (by omega) fun p hp => ?_
    have s1 := Same.new (o := HO.lst (vTxs (cutL 32 (blank l)))) hp
    have f1 := upd_same (H := H) (a := p) (o := HO.lst (vTxs (cutL 32 (blank l))))
    generalize upd H p (.lst (vTxs (cutL 32 (blank l)))) = H1 at s1 f1 ⊢
    have hcl : ∀ x ∈ cutL 32 (blank l), x.length ≤ 12000 := fun x hx => by
      have := cutL_sub 32 (blank l) x hx
      omega
    have hcn : (cutL 32 (blank l)).length ≤ 12001 := by
      rw [cutL_len]
      have := List.count_le_length (a := 32) (l := blank l)
      omega
    have hgood : ∀ gv sd Ps, GoodT gv sd Ps → l = txtOf gv sd Ps → cutL 32 (blank l) = [wGiven, gv, wSaid, sd, wPairs] ++ Ps := fun gv sd Ps g e => by rw [e]; exact blank_txt g
    have hjb := joinL_back 32 (blank l)
    generalize cutL 32 (blank l) = cs at *
    refine rd_name ?_
    with_reducible refine rd_nx ?_
    refine rd_st (σ' := [some (.str (tx l)), some (.ref p), none, none, none, none]) rfl ?_
    walk_at "rd"
    refine len_l (SqL.of f1) ?_
    rw [vTxs_len]
    walk_at "rd"
    by_cases h5 : cs.length < 5
    · rw [decide_eq_true (by omega)]
      refine iteT ?_
      refine kb (fun gv sd Ps g e => ?_) H1 s1
      rw [hgood gv sd Ps g e] at h5
      simp at h5
      omega
    rw [decide_eq_false (by omega)]
    refine iteF ?_
    obtain ⟨a0, a1, a2, a3, a4, r, rfl⟩ : ∃ a0 a1 a2 a3 a4 r, cs = a0 :: a1 :: a2 :: a3 :: a4 :: r := by
      match cs, h5 with
      | a0 :: a1 :: a2 :: a3 :: a4 :: r, _ => exact ⟨a0, a1, a2, a3, a4, r, rfl⟩
      | [], h => exact absurd (by decide) h
      | [_], h => exact absurd (by simp) h
      | [_, _], h => exact absurd (by simp) h
      | [_, _, _], h => exact absurd (by simp) h
      | [_, _, _, _], h => exact absurd (by simp) h
    have z1 := hcl a1 (by simp)
    have z3 := hcl a3 (by simp)
    walk_at "rd"
    refine rd_par3 ?_
    walk_at "rd"
    refine rIx_l (SqL.of f1) (v := .str (tx a1)) (atI_nat (j := 1) rfl) ?_
    walk_at "rd"
    refine rIx_l (SqL.of f1) (v := .str (tx a3)) (atI_nat (j := 3) rfl) ?_
    walk_at "rd"
    refine sl_l (SqL.of f1) fun p2 hp2 => ?_
    rw [show (some (5 : Int)) = some ((5 : Nat) : Int) from rfl, cutV_from]
    have ed : (vTxs (a0 :: a1 :: a2 :: a3 :: a4 :: r)).drop 5 = vTxs r := rfl
    rw [ed]
    have s2 := Same.new (o := HO.lst (vTxs r)) hp2
    have f2 := upd_same (H := H1) (a := p2) (o := HO.lst (vTxs r))
    generalize upd H1 p2 (.lst (vTxs r)) = H2 at s2 f2 ⊢
    walk_at "rd"
    refine ⟨.str (tx a1), .str (tx a3), .ref p2, rfl, ?_⟩
    refine rd_st (σ' := [some (.str (tx l)), some (.ref p), some (.str (tx a1)), some (.str (tx a3)), some (.ref p2), none]) rfl ?_
    have s02 := s1.trans s2
    rw [lowers_tx, uppers_tx]
    walk_at "rd"
    refine len_s (l := lowers) (by decide) ?_
    rw [show ((lowers.length : Nat) : Int) = 26 from by decide]
    walk_at "rd"
    refine ⟨_, lowers, 26, rfl, .inl ⟨a1, rfl, by omega, by decide, fun H3 s3 => ?_⟩⟩
    have s03 := s02.trans s3
    walk_at "rd"
    by_cases hg : OkDiff lowers 26 a1
    · rw [decide_eq_true hg]
      refine iteF ?_
      walk_at "rd"
      refine len_s (l := uppers) (by decide) ?_
      rw [show ((uppers.length : Nat) : Int) = 26 from by decide]
      walk_at "rd"
      refine ⟨_, uppers, 26, rfl, .inl ⟨a3, rfl, by omega, by decide, fun H4 s4 => ?_⟩⟩
      have s04 := s03.trans s4
      walk_at "rd"
      by_cases hs : OkDiff uppers 26 a3
      · rw [decide_eq_true hs]
        refine iteF ?_
        walk_at "rd"
        have f4 := s4 _ _ (s3 _ _ f2)
        have hrl : ∀ qs : List (List Nat), vTxs qs = (vTxs r).take qs.length → (∀ q ∈ qs, OkPair a1 a3 q) → qs.length ≤ 3000 := fun qs e ho => by
          have e2 : qs = r.take qs.length := vTxs_injX (by rw [vTxs_takeX]; exact e)
          have hl2 := joinL_len (c := 32) (ps := a0 :: a1 :: a2 :: a3 :: a4 :: r) (by simp)
          rw [hjb, hbl] at hl2
          have h4 := sum4 (P := qs) fun x hx => by
            obtain ⟨_, _, _, _, rfl, _⟩ := ho x hx
            rfl
          have e3 : (r.map List.length).sum = ((r.take qs.length).map List.length).sum + ((r.drop qs.length).map List.length).sum := by
            rw [← List.sum_append, ← List.map_append, List.take_append_drop]
          rw [← e2, h4] at e3
          simp only [List.map_cons, List.sum_cons, List.length_cons] at hl2
          have e4 := congrArg List.length e2
          rw [List.length_take] at e4
          omega
        refine ⟨.ref p2, a1, a3, rfl, .inr ⟨p2, vTxs r, rfl, f4, hrl, fun y hy H' _ => ?_, fun hgp H5 s5 => ?_, fun hb H5 s5 => ?_⟩⟩
        · obtain ⟨c, hc, rfl⟩ := vTxs_mem hy
          exact .inl ⟨c, rfl, by have := hcl c (by simp [hc]); omega⟩
        · obtain ⟨ps, ep, hok, hnd⟩ := hgp
          have ep := vTxs_injX ep
          subst ep
          have s05 := s04.trans s5
          walk_at "rd"
          refine iteF ?_
          walk_at "rd"
          have hgs : a1.length * a3.length ≤ 1000 := by
            have h1 := hg.2.2.1
            have h2 := hs.2.2.1
            exact Nat.le_trans (Nat.mul_le_mul (show a1.length ≤ 26 by omega) (show a3.length ≤ 26 by omega)) (by decide)
          have hr3 := hrl r (by rw [List.take_of_length_le (by rw [vTxs_len]; exact Nat.le_refl _)]) hok
          refine ⟨p2, a1, a3, r, rfl, s5 _ _ f4, hgs, by omega, hnd, fun x H6 kd hx s6 hw => ?_⟩
          have s06 := s05.trans s6
          obtain ⟨cl, al, pl, W, n1, n2, n3, n4, rw⟩ := hw
          have hiw : IsWish T.C_Wish H6 x a1 a3 r := ⟨cl, al, pl, ⟨W.ob.elim fun dx h => ⟨dx, kd, h⟩, W.ce, W.alw, W.pr⟩⟩
          refine rd_name ?_
          with_reducible refine rd_nx ?_
          refine rd_st (σ' := [some (.str (tx l)), some (.ref p), some (.str (tx a1)), some (.str (tx a3)), some (.ref p2), some (.ref x)]) rfl ?_
          walk_at "rd"
          have hpl : (pairsOf a1 a3 r).length ≤ 4000 := by
            have := (pairs_nd (ps := r) hg.2.2.2 hs.2.2.2).length_le_of_subset fun y hy => (mem_pairsOf.mp hy).2
            omega
          refine ⟨x, a1, a3, r, rfl, hiw, by have := hg.2.2.1; omega, by have := hs.2.2.1; omega, hpl, fun H7 s7 => ?_⟩
          have s07 := s06.trans s7
          walk_at "rd"
          refine rNe_v rfl ?_
          have gt := good_txt (ps := r) hg hs
          by_cases he : l = txtOf a1 a3 (pairsOf a1 a3 r)
          · rw [decide_eq_true (by rw [← he])]
            refine ⟨false, rfl, iteF ?_⟩
            walk_at "rd"
            have hcut := hgood _ _ _ gt he
            have er : r = pairsOf a1 a3 r := by
              injection hcut with _ h
              injection h with _ h
              injection h with _ h
              injection h with _ h
              injection h
            refine kg a1 a3 r (by rw [← er] at gt; exact gt) (by rw [← er] at he; exact he) x H7 kd (s05.free hx) s07 ⟨cl, al, pl, ⟨W.ob.elim fun dx h => ⟨dx, s7 _ _ h⟩, s7 _ _ W.ce, s7 _ _ W.alw, s7 _ _ W.pr, W.ne⟩, s05.free n1, s05.free n2, s05.free n3, s05.free n4, ?_⟩
            obtain ⟨m1, m2, m3, m4, m5⟩ := rw
            exact ⟨m1, m2, m3, m4, s7 _ _ m5⟩
          · rw [decide_eq_false fun z => he (tx_inj (V.str.inj z)).symm]
            refine ⟨true, rfl, iteT ?_⟩
            refine kb (fun gv sd Ps g e => he ?_) H7 s07
            have hcut := hgood _ _ _ g e
            injection hcut with _ h
            injection h with h1 h
            injection h with _ h
            injection h with h3 h
            injection h with _ h
            have h : r = Ps := h
            rw [e, h1, h3, h, g.hp]
        · walk_at "rd"
          refine iteT ?_
          refine kb (fun gv sd Ps g e => hb ?_) H5 (s04.trans s5)
          have hcut := hgood _ _ _ g e
          injection hcut with _ h
          injection h with h1 h
          injection h with _ h
          injection h with h3 h
          injection h with _ h
          exact ⟨Ps, by rw [h]; rfl, by rw [h1, h3]; exact g.ok, g.nd⟩
      · rw [decide_eq_false hs]
        refine iteT ?_
        refine kb (fun gv sd Ps g e => hs ?_) H4 s04
        have hcut := hgood _ _ _ g e
        injection hcut with _ h
        injection h with h1 h
        injection h with _ h
        injection h with h3 h
        rw [h3]
        exact g.hs
    · rw [decide_eq_false hg]
      refine iteT ?_
      refine kb (fun gv sd Ps g e => hg ?_) H3 s03
      have hcut := hgood _ _ _ g e
      injection hcut with _ h
      injection h with h1 h
      rw [h1]
      exact g.hg
end

section
variable {P : Program} {w : World} {K : PySem.W.Frag} {mg : Str → Option Value} {base : Heap}
/-! ### the law's own reading of a line of letters -/
def sp_Lletters_of : Sp := fun vs H Q _ => ∃ l w S : List Nat, vs = [.str (tx l), .str (tx w), .str (tx S)] ∧ l.length ≤ 12000 ∧ w.length ≤ 10 ∧ S.length = 26 ∧
  (∀ r, l = w ++ ([32] ++ r) → OkDiff S 26 r → ∀ H', Same H H' → Q (.str (tx r)) H') ∧ ((∀ r, l = w ++ ([32] ++ r) → ¬ OkDiff S 26 r) → ∀ H', Same H H' → Q .non H')
theorem nodup_le {l S : List Nat} (hn : l.Nodup) (h : ∀ c ∈ l, c ∈ S) : l.length ≤ S.length := hn.length_le_of_subset h
theorem ok_Lletters_of (T : Txt K mg) : FnOk P w K mg base (L2.CX P w) 1 T.f_Lletters_of T.fd_Lletters_of ["_law_line", "_law_word", "_law_signs"] sp_Lletters_of := by
  refine T.F_Lletters_of.okX sc_Lletters_of (fun vs H Q E h => ?_) (fun cdv A outer s H vs Q E hr h => ?_)
  · obtain ⟨_, _, _, rfl, _⟩ := h
    rfl
  · obtain ⟨l, w', S, rfl, hz, hwz, hS, kg, kb⟩ := h
    refine ⟨_, (pss_cons (ps_if (pt_not (pt_val (pe_bmA (K := K) rfl (pe_bm PySem.F.plainAttrs_str PySem.F.slot_str_startswith PySem.F.type_str_startswith mt_startswithA (pv 0) (pa_cons (pe_op op_addA (pv 1) pe_str) pa_nil)))))
  (pss_one (ps_ret pe_non))
  pss_nil)
  (pss_cons (ps_set (i := 3) sc_Lletters_of.nd rfl (by first | exact Or.inl rfl | exact Or.inr rfl) (pe_slice (sl_anyK (K := K) rfl) (pv 0) (po_some (pe_op op_addA (pe_callB (call_lenK (K := K) rfl) (by rfl) T.b_len boot_len (pa_cons (pv 1) pa_nil)) pe_int)) po_none))
  (pss_cons (ps_if (pt_cmpR op_eq (pv 3) pe_str (nomark _))
  (pss_one (ps_ret pe_non))
  pss_nil)
  (pss_cons (ps_for (passes_of rfl) rfl (pi_str (pv 3)) (pg_name (i := 4) sc_Lletters_of.nd rfl (by first | exact Or.inl rfl | exact Or.inr rfl))
  (pss_one (ps_if (PW.pt (pw_or (pt_cmpR op_notInSg (pv 4) (pv 2) (by with_unfolding_all rfl)) (pw_or1 (pt_cmpR op_gt (pe_bmA (K := K) rfl (pe_bm PySem.F.plainAttrs_str PySem.F.slot_str_count PySem.F.type_str_count mt_countA (pv 3) (pa_cons (pv 4) pa_nil))) pe_int (nomark _)))))
  (pss_one (ps_ret pe_non))
  pss_nil)))
  (pss_one (ps_ret (pv 3))))))), ?_⟩
    rw [show (Str.ofString " ") = tx [32] from by decide +kernel, empty_tx]
    walk_at "rd"
    refine rAdd_s (by show w'.length + 1 ≤ 100000; omega) ?_
    walk_at "rd"
    refine starts_s ?_
    walk_at "rd"
    by_cases hst : l.take (w' ++ [32]).length = w' ++ [32]
    · rw [decide_eq_true hst]
      refine iteF ?_
      walk_at "rd"
      refine len_s (l := w') (by omega) ?_
      walk_at "rd"
      rw [show ((w'.length : Nat) : Int) + 1 = ((w'.length + 1 : Nat) : Int) from rfl]
      refine sl_s (l := l) (m := l.drop (w'.length + 1)) (cutS_from l (w'.length + 1)) (by omega) ?_
      have el : l = w' ++ ([32] ++ l.drop (w'.length + 1)) := by
        have e := List.take_append_drop (w' ++ [32]).length l
        rw [hst, List.length_append, List.append_assoc] at e
        exact e.symm
      have hrl : (l.drop (w'.length + 1)).length ≤ 12000 := by rw [List.length_drop]; omega
      have uq : ∀ r', l = w' ++ ([32] ++ r') → r' = l.drop (w'.length + 1) := fun r' e => by
        have e2 := e.symm.trans el
        exact List.append_cancel_left (List.append_cancel_left e2)
      generalize l.drop (w'.length + 1) = r at el hrl uq ⊢
      refine rd_name ?_
      with_reducible refine rd_nx ?_
      refine rd_st (σ' := [some (.str (tx l)), some (.str (tx w')), some (.str (tx S)), some (.str (tx r)), none]) rfl ?_
      walk_at "rd"
      refine rEq_v rfl ?_
      walk_at "rd"
      by_cases hr0 : r = []
      · rw [decide_eq_true (by rw [hr0])]
        refine iteT ?_
        walk_at "rd"
        refine kb (fun r' e ho => ?_) H (Same.refl _)
        have := ho.2.1
        rw [uq r' e, hr0] at this
        simp at this
      rw [decide_eq_false fun z => hr0 (tx_inj (V.str.inj z))]
      refine iteF ?_
      walk_at "rd"
      refine rd_for (xs := vSgs r) (wk_str (Evl.ev_var rfl)) (fun i σ' H' => ∃ o, σ' = [some (.str (tx l)), some (.str (tx w')), some (.str (tx S)), some (.str (tx r)), o] ∧ Same H H' ∧ ∀ j c, j < i → r[j]? = some c → c ∈ S ∧ r.count c ≤ 1)
        (fun H1 s1 => ⟨none, rfl, s1, fun j c hj => by omega⟩) (fun _ _ _ _ _ => trivial) (fun i x σ' H' hx p => ?_) (fun σ' H' p => ?_)
      · obtain ⟨o, rfl, s1, hall⟩ := p
        obtain ⟨c, hc, rfl⟩ := vSgs_at hx
        walk_at "rd"
        by_cases hcS : c ∈ S
        · rw [decide_eq_true hcS]
          refine iteF ?_
          walk_at "rd"
          refine cnt_s ?_
          walk_at "rd"
          by_cases hct : r.count c ≤ 1
          · rw [decide_eq_false (by omega)]
            refine iteF ?_
            refine ⟨_, rfl, s1, fun j c' hj hc' => ?_⟩
            by_cases hji : j = i
            · subst hji
              rw [hc] at hc'
              cases hc'
              exact ⟨hcS, hct⟩
            · exact hall j c' (by omega) hc'
          · rw [decide_eq_true (by omega)]
            refine iteT ?_
            walk_at "rd"
            refine kb (fun r' e ho => hct ?_) H' s1
            have := ho.2.2.2
            rw [uq r' e] at this
            exact List.nodup_iff_count.mp this c
        · rw [decide_eq_false hcS]
          refine iteT (iteT ?_)
          walk_at "rd"
          refine kb (fun r' e ho => hcS (ho.1 c ?_)) H' s1
          rw [uq r' e]
          exact List.mem_of_getElem? hc
      · obtain ⟨o, rfl, s1, hall⟩ := p
        walk_at "rd"
        have hsub : ∀ c ∈ r, c ∈ S := fun c hc => by
          obtain ⟨j, hj⟩ := List.mem_iff_getElem?.mp hc
          exact (hall j c (by rw [vSgs_len]; exact (List.getElem?_eq_some_iff.mp hj).1) hj).1
        have hnd : r.Nodup := List.nodup_iff_count.mpr fun c => by
          by_cases hc : c ∈ r
          · obtain ⟨j, hj⟩ := List.mem_iff_getElem?.mp hc
            exact (hall j c (by rw [vSgs_len]; exact (List.getElem?_eq_some_iff.mp hj).1) hj).2
          · rw [List.count_eq_zero.mpr hc]
            omega
        have hle := nodup_le hnd hsub
        have hpos : 0 < r.length := List.length_pos_iff.mpr hr0
        exact kg r el ⟨hsub, by omega, by omega, hnd⟩ H' s1
    · rw [decide_eq_false hst]
      refine iteT ?_
      walk_at "rd"
      refine kb (fun r e _ => hst ?_) H (Same.refl _)
      rw [e, ← List.append_assoc, List.take_left' rfl]
end

section
theorem cutS_some (l : List Nat) (lo hi : Option Int) : ∃ u : List Nat, cutS (tx l) lo hi = tx u ∧ u.length ≤ l.length := by
  refine ⟨(cutS (tx l) lo hi).cps.toList, tx_of _, ?_⟩
  have := cutS_length (tx l) lo hi
  rw [tx_length] at this
  exact this
theorem cutS_mid (l : List Nat) (a b : Nat) (ha : a ≤ l.length) (hb : b ≤ l.length) : cutS (tx l) (some (a : Int)) (some (b : Int)) = tx ((l.drop a).take (b - a)) := by
  unfold cutS tx
  simp only [HT.sIx_none, HT.sIx_nat]
  show (⟨_⟩ : Str) = _
  congr 1
  simp [Str.length]
  rw [Nat.min_eq_left ha, Nat.min_eq_left hb]
end

section
/-- where a letter stands -/
def posN : List Nat → Nat → Nat
  | [], _ => 0
  | a :: r, c => if a = c then 0 else posN r c + 1
theorem posN_at : ∀ {l : List Nat} {j c : Nat}, l.Nodup → l[j]? = some c → posN l c = j
  | [], _, _, _, h => by cases h
  | a :: r, 0, c, _, h => by
    cases h
    exact if_pos rfl
  | a :: r, j + 1, c, hn, h => by
    rw [List.nodup_cons] at hn
    have h : r[j]? = some c := h
    have hne : ¬ a = c := fun e => hn.1 (e ▸ List.mem_of_getElem? h)
    show (if a = c then 0 else posN r c + 1) = j + 1
    rw [if_neg hne, posN_at hn.2 h]
theorem at_getD {l : List Nat} {k : Nat} (h : k < l.length) : l[k]? = some (l.getD k 0) := by simp [List.getD, List.getElem?_eq_getElem h]
def renN (old new : List Nat) (c : Nat) : Nat := if c ∈ old then new.getD (posN old c) 0 else c
end

section
variable {P : Program} {w : World} {K : PySem.W.Frag} {mg : Str → Option Value} {base : Heap}
/-! ### the law's own reading of a text -/
theorem cell_in {gv sd : List Nat} {u v : Nat} (hu : u ∈ gv) (hv : v ∈ sd) : [u, v] ∈ cellsOf gv sd := List.mem_flatMap.mpr ⟨_, hu, List.mem_map.mpr ⟨_, hv, rfl⟩⟩
theorem ok_halves {gv sd x : List Nat} (h : OkPair gv sd x) : x.take 2 ∈ cellsOf gv sd ∧ x.drop 2 ∈ cellsOf gv sd := by
  obtain ⟨a, b, c, d, rfl, h1, h2, h3, h4⟩ := h
  exact ⟨cell_in h1 h3, cell_in h2 h4⟩
theorem halves_ok {gv sd x : List Nat} (h1 : x.take 2 ∈ cellsOf gv sd) (h2 : x.drop 2 ∈ cellsOf gv sd) : OkPair gv sd x := by
  obtain ⟨a, b, e1, ha, hb⟩ := cellsOf_two h1
  obtain ⟨c, d, e2, hc, hd⟩ := cellsOf_two h2
  exact ⟨a, b, c, d, by rw [← List.take_append_drop 2 x, e1, e2]; rfl, ha, hc, hb, hd⟩
theorem idx_at {cs : List (List Nat)} {m : List Nat} (hn : cs.Nodup) (hm : m ∈ cs) : cs[cs.idxOf m]? = some m := by
  obtain ⟨j, hj, e⟩ := List.getElem_of_mem hm
  subst e
  rw [List.Nodup.idxOf_getElem hn j hj]
  exact List.getElem?_eq_getElem hj
theorem idx_first {cs : List (List Nat)} {m : List Nat} (hn : cs.Nodup) (hm : m ∈ cs) : ∀ i, i < cs.idxOf m → cs[i]? ≠ some m := fun i hi e => by
  have h1 := idx_at hn hm
  have hl := (List.getElem?_eq_some_iff.mp e).1
  have := (List.getElem?_inj hl hn).mp (e.trans h1.symm)
  omega
theorem good_at {Ps : List (List Nat)} {rest : List Nat} (h4 : ∀ x ∈ Ps, x.length = 4) (e : rest = Ps.flatMap fun p => 32 :: p) {t : Nat} (ht : 5 * t + 5 ≤ rest.length) : ∃ x, Ps[t]? = some x ∧ (rest.drop (5 * t)).take 5 = 32 :: x := by
  rw [e, flat5 h4] at ht
  have hl : t < Ps.length := by omega
  exact ⟨Ps[t], List.getElem?_eq_getElem hl, by rw [e]; exact flat5_at h4 (List.getElem?_eq_getElem hl)⟩
theorem part_at {Pt : List (List Nat)} {rest : List Nat} {t : Nat} (h4 : ∀ x ∈ Pt, x.length = 4) (hl : Pt.length = t) (e : rest.take (5 * t) = Pt.flatMap fun p => 32 :: p) {y : List Nat} (hy : y ∈ Pt) : ∃ j, j < t ∧ (rest.drop (5 * j)).take 5 = 32 :: y := by
  obtain ⟨j, hj⟩ := List.mem_iff_getElem?.mp hy
  have hjl := (List.getElem?_eq_some_iff.mp hj).1
  refine ⟨j, by omega, ?_⟩
  have h := flat5_at h4 hj
  rw [← e, List.drop_take, List.take_take] at h
  rw [Nat.min_eq_left (by omega)] at h
  exact h
theorem cut5 {rest : List Nat} {t : Nat} (h : 5 * t + 5 ≤ rest.length) : (rest.drop (5 * t)).take 5 = rest.getD (5 * t) 0 :: (rest.drop (5 * t + 1)).take 4 := by
  have e : rest.getD (5 * t) 0 = rest[5 * t]'(by omega) := by simp [List.getD, List.getElem?_eq_getElem (show 5 * t < rest.length by omega)]
  rw [e, List.drop_eq_getElem_cons (show 5 * t < rest.length by omega)]
  rfl
theorem take5 {rest : List Nat} {t : Nat} : rest.take (5 * (t + 1)) = rest.take (5 * t) ++ (rest.drop (5 * t)).take 5 := by
  rw [show 5 * (t + 1) = 5 * t + 5 from by omega, List.take_add]
def sp_Ldue (K : PySem.W.Frag) : Sp := fun vs H Q _ => ∃ v, vs = [v] ∧ ((NoText K H v ∧ ∀ H', Same H H' → Q .non H') ∨ ∃ l, v = .str (tx l) ∧ l.length ≤ 12000 ∧
  (∀ gv sd Ps, GoodT gv sd Ps → l = txtOf gv sd Ps → ∀ p pa H', H p = none → H pa = none → Same H H' → H' p = some (.tup [.str (tx gv), .str (tx sd), .ref pa]) → H' pa = some (.lst (vTxs Ps)) → Q (.ref p) H') ∧
  ((∀ gv sd Ps, GoodT gv sd Ps → l ≠ txtOf gv sd Ps) → ∀ H', Same H H' → Q .non H'))
theorem ok_Ldue (T : Txt K mg) : FnOk P w K mg base (L2.CX P w) 2 T.f_Ldue T.fd_Ldue ["_law_text"] (sp_Ldue K) := by
  refine T.F_Ldue.okX sc_Ldue (fun vs H Q E h => ?_) (fun cdv A outer s H vs Q E hr h => ?_)
  · obtain ⟨_, rfl, _⟩ := h
    rfl
  · obtain ⟨v, rfl, h⟩ := h
    refine ⟨_, (pss_cons (ps_if (PW.pt (pw_or (pt_not (pt_val (pe_callB (call_isiK1 (K := K) rfl) (by rfl) T.b_isinstance boot_isinstance (pa_cons (pv 0) (pa_cons (pe_bltn (v := .ty "str") rfl T.b_str boot_str rfl) pa_nil))))) (pw_or1 (pt_cmpR op_ne (pe_bmA (K := K) rfl (pe_bm PySem.F.plainAttrs_str PySem.F.slot_str_count PySem.F.type_str_count mt_countA (pv 0) (pa_cons pe_str pa_nil))) pe_int (nomark _)))))
  (pss_one (ps_ret pe_non))
  pss_nil)
  (pss_cons (ps_set (i := 1) sc_Ldue.nd rfl (by first | exact Or.inl rfl | exact Or.inr rfl) (pe_bmA (K := K) rfl (pe_bm PySem.F.plainAttrs_str PySem.F.slot_str_split PySem.F.type_str_split mt_splitA (pv 0) (pa_cons pe_str pa_nil))))
  (pss_cons (ps_set (i := 2) sc_Ldue.nd rfl (by first | exact Or.inl rfl | exact Or.inr rfl) (pe_callS (ok_Lletters_of T) (hr.mono (by decide)) rfl T.mg_Lletters_of T.kp_Lletters_of T.bd_Lletters_of (fun σ => passAt (takes_of rfl rfl rfl rfl) σ) (pa_cons (pe_ix (ix_seqK (K := K) rfl) (pv 1) pe_int (fun _ _ => rfl)) (pa_cons pe_str (pa_cons pe_str pa_nil)))))
  (pss_cons (ps_set (i := 3) sc_Ldue.nd rfl (by first | exact Or.inl rfl | exact Or.inr rfl) (pe_callS (ok_Lletters_of T) (hr.mono (by decide)) rfl T.mg_Lletters_of T.kp_Lletters_of T.bd_Lletters_of (fun σ => passAt (takes_of rfl rfl rfl rfl) σ) (pa_cons (pe_ix (ix_seqK (K := K) rfl) (pv 1) pe_int (fun _ _ => rfl)) (pa_cons pe_str (pa_cons pe_str pa_nil)))))
  (pss_cons (ps_if (PW.pt (pw_or (pt_cmpR op_isN (pv 2) pe_non (nomark _)) (pw_or (pt_cmpR op_isN (pv 3) pe_non (nomark _)) (pw_or1 (pt_not (pt_val (pe_bmA (K := K) rfl (pe_bm PySem.F.plainAttrs_str PySem.F.slot_str_startswith PySem.F.type_str_startswith mt_startswithA (pe_ix (ix_seqK (K := K) rfl) (pv 1) pe_int (fun _ _ => rfl)) (pa_cons pe_str pa_nil)))))))))
  (pss_one (ps_ret pe_non))
  pss_nil)
  (pss_cons (ps_set (i := 4) sc_Ldue.nd rfl (by first | exact Or.inl rfl | exact Or.inr rfl) (pe_slice (sl_anyK (K := K) rfl) (pe_ix (ix_seqK (K := K) rfl) (pv 1) pe_int (fun _ _ => rfl)) (po_some pe_int) po_none))
  (pss_cons (ps_if (pt_cmpR op_ne (pe_op op_mod (pe_callTy call_intA (by rfl) T.b_int boot_int (pa_cons (pe_callB (call_lenK (K := K) rfl) (by rfl) T.b_len boot_len (pa_cons (pv 4) pa_nil)) pa_nil)) pe_int) pe_int (nomark _))
  (pss_one (ps_ret pe_non))
  pss_nil)
  (pss_cons (ps_set (i := 5) sc_Ldue.nd rfl (by first | exact Or.inl rfl | exact Or.inr rfl) (pe_lst pa_nil))
  (pss_cons (ps_set (i := 6) sc_Ldue.nd rfl (by first | exact Or.inl rfl | exact Or.inr rfl) (pe_un un_neg pe_int))
  (pss_cons (ps_set (i := 7) sc_Ldue.nd rfl (by first | exact Or.inl rfl | exact Or.inr rfl) (pe_callS (ok_Lcells T) (hr.mono (by decide)) rfl T.mg_Lcells T.kp_Lcells T.bd_Lcells (fun σ => passAt (takes_of rfl rfl rfl rfl) σ) (pa_cons (pv 2) (pa_cons (pv 3) pa_nil))))
  (pss_cons (ps_for (passes_of rfl) rfl (pi_range1 rfl T.b_range (pa_cons (pe_op op_fdivW (pe_callB (call_lenK (K := K) rfl) (by rfl) T.b_len boot_len (pa_cons (pv 4) pa_nil)) pe_int) pa_nil)) (pg_name (i := 8) sc_Ldue.nd rfl (by first | exact Or.inl rfl | exact Or.inr rfl))
  (pss_cons (ps_set (i := 9) sc_Ldue.nd rfl (by first | exact Or.inl rfl | exact Or.inr rfl) (pe_slice (sl_anyK (K := K) rfl) (pv 4) (po_some (pe_op op_addA (pe_op op_mul pe_int (pv 8)) pe_int)) (po_some (pe_op op_addA (pe_op op_mul pe_int (pv 8)) pe_int))))
  (pss_cons (ps_if (PW.pt (pw_or (pt_cmpR op_ne (pe_ix (ix_seqK (K := K) rfl) (pv 4) (pe_op op_mul pe_int (pv 8)) (fun _ _ => rfl)) pe_str (nomark _)) (pw_or (pt_cmpR (op_notIn_seqK (K := K) rfl) (pe_slice (sl_anyK (K := K) rfl) (pv 9) po_none (po_some pe_int)) (pv 7) (by with_unfolding_all rfl)) (pw_or1 (pt_cmpR (op_notIn_seqK (K := K) rfl) (pe_slice (sl_anyK (K := K) rfl) (pv 9) (po_some pe_int) po_none) (pv 7) (by with_unfolding_all rfl))))))
  (pss_one (ps_ret pe_non))
  pss_nil)
  (pss_cons (ps_set (i := 10) sc_Ldue.nd rfl (by first | exact Or.inl rfl | exact Or.inr rfl) (pe_op op_addA (pe_op op_mul (pe_bmA (K := K) rfl (pe_bm PySem.F.plainAttrs_list PySem.F.slot_list_index PySem.F.type_list_index (mt_indexK (K := K) rfl) (pv 7) (pa_cons (pe_slice (sl_anyK (K := K) rfl) (pv 9) po_none (po_some pe_int)) pa_nil))) (pe_callB (call_lenK (K := K) rfl) (by rfl) T.b_len boot_len (pa_cons (pv 7) pa_nil))) (pe_bmA (K := K) rfl (pe_bm PySem.F.plainAttrs_list PySem.F.slot_list_index PySem.F.type_list_index (mt_indexK (K := K) rfl) (pv 7) (pa_cons (pe_slice (sl_anyK (K := K) rfl) (pv 9) (po_some pe_int) po_none) pa_nil)))))
  (pss_cons (ps_if (pt_cmpR op_le (pv 10) (pv 6) (nomark _))
  (pss_one (ps_ret pe_non))
  pss_nil)
  (pss_cons (ps_set (i := 6) sc_Ldue.nd rfl (by first | exact Or.inl rfl | exact Or.inr rfl) (pv 10))
  (pss_one (ps_expr (pe_bmA (K := K) rfl (pe_bm PySem.F.plainAttrs_list PySem.F.slot_list_append PySem.F.type_list_append mt_append (pv 5) (pa_cons (pv 9) pa_nil)))))))))))
  (pss_one (ps_ret (pe_tup (pa_cons (pv 2) (pa_cons (pv 3) (pa_cons (pv 5) pa_nil))))))))))))))))), ?_⟩
    walk_at "rd"
    rcases h with ⟨⟨t, ht, hk⟩, kb⟩ | ⟨l, rfl, hz, kg, kb⟩
    · refine ⟨_, _, _, _, false, rfl, .ty "str", ht, hk, ?_⟩
      walk_at "rd"
      refine iteT (iteT ?_)
      walk_at "rd"
      exact kb H (Same.refl _)
    refine ⟨_, _, _, _, true, rfl, .ty "str", .base (.str _), kit_ty (by decide +kernel), ?_⟩
    rw [show (Str.ofString "\n") = tx [10] from by decide +kernel, show (Str.ofString "given") = tx wGiven from by decide +kernel, show (Str.ofString "said") = tx wSaid from by decide +kernel, show (Str.ofString "pairs") = tx wPairs from by decide +kernel, show (Str.ofString " ") = tx [32] from by decide +kernel, lowers_tx, uppers_tx]
    walk_at "rd"
    refine iteF ?_
    walk_at "rd"
    refine cnt_s ?_
    walk_at "rd"
    refine rNe_v rfl ?_
    rw [decide_int]
    walk_at "rd"
    by_cases hc2 : l.count 10 = 2
    · rw [decide_eq_true (show ((l.count 10 : Nat) : Int) = 2 by omega)]
      refine iteF ?_
      walk_at "rd"
      refine split_s (by decide) (by omega) fun p hp => ?_
      have s1 := Same.new (o := HO.lst (vTxs (cutL 10 l))) hp
      have f1 := upd_same (H := H) (a := p) (o := HO.lst (vTxs (cutL 10 l)))
      generalize upd H p (.lst (vTxs (cutL 10 l))) = H1 at s1 f1 ⊢
      have hcl := cutL_sub 10 l
      have hln := cutL_len 10 l
      have hjb := joinL_back 10 l
      have hgood : ∀ gv sd Ps, GoodT gv sd Ps → l = txtOf gv sd Ps → cutL 10 l = [wGiven ++ ([32] ++ gv), wSaid ++ ([32] ++ sd), wPairs ++ Ps.flatMap (fun p => 32 :: p)] := fun gv sd Ps g e => by rw [e]; exact txt_lines g
      generalize cutL 10 l = cs at *
      obtain ⟨a, b, c, rfl⟩ : ∃ a b c, cs = [a, b, c] := by
        rw [hc2] at hln
        match cs, hln with
        | [a, b, c], _ => exact ⟨a, b, c, rfl⟩
      have za := hcl a (by simp)
      have zb := hcl b (by simp)
      have zc := hcl c (by simp)
      refine rd_name ?_
      with_reducible refine rd_nx ?_
      refine rd_st (σ' := [some (.str (tx l)), some (.ref p), none, none, none, none, none, none, none, none, none]) rfl ?_
      walk_at "rd"
      refine rIx_l (SqL.of f1) (v := .str (tx a)) (atI_nat (j := 0) rfl) ?_
      walk_at "rd"
      refine ⟨a, wGiven, lowers, rfl, by omega, by decide, by decide, fun r1 e1 o1 H2 s2 => ?_, fun hn H2 s2 => ?_⟩
      · have s02 := s1.trans s2
        refine rd_name ?_
        with_reducible refine rd_nx ?_
        refine rd_st (σ' := [some (.str (tx l)), some (.ref p), some (.str (tx r1)), none, none, none, none, none, none, none, none]) rfl ?_
        walk_at "rd"
        refine rIx_l (SqL.of (s2 _ _ f1)) (v := .str (tx b)) (atI_nat (j := 1) rfl) ?_
        walk_at "rd"
        refine ⟨b, wSaid, uppers, rfl, by omega, by decide, by decide, fun r2 e2 o2 H3 s3 => ?_, fun hn H3 s3 => ?_⟩
        · have s03 := s02.trans s3
          refine rd_name ?_
          with_reducible refine rd_nx ?_
          refine rd_st (σ' := [some (.str (tx l)), some (.ref p), some (.str (tx r1)), some (.str (tx r2)), none, none, none, none, none, none, none]) rfl ?_
          walk_at "rd"
          refine ⟨rfl, ?_⟩
          rw [decide_eq_false (show ¬ V.str (tx r1) = V.non from fun z => by cases z)]
          refine ⟨false, rfl, iteF ?_⟩
          walk_at "rd"
          refine ⟨rfl, ?_⟩
          rw [decide_eq_false (show ¬ V.str (tx r2) = V.non from fun z => by cases z)]
          refine ⟨false, rfl, iteF ?_⟩
          walk_at "rd"
          refine rIx_l (SqL.of (s3 _ _ (s2 _ _ f1))) (v := .str (tx c)) (atI_nat (j := 2) rfl) ?_
          walk_at "rd"
          refine starts_s ?_
          walk_at "rd"
          by_cases hst : c.take wPairs.length = wPairs
          · rw [decide_eq_true hst]
            refine iteF ?_
            walk_at "rd"
            refine rIx_l (SqL.of (s3 _ _ (s2 _ _ f1))) (v := .str (tx c)) (atI_nat (j := 2) rfl) ?_
            walk_at "rd"
            rw [show (some (5 : Int)) = some ((5 : Nat) : Int) from rfl]
            refine sl_s (l := c) (m := c.drop 5) (cutS_from c 5) (by omega) ?_
            have ec : c = wPairs ++ c.drop 5 := by
              have e := List.take_append_drop wPairs.length c
              rw [hst] at e
              exact e.symm
            have zr : (c.drop 5).length ≤ 12000 := by rw [List.length_drop]; omega
            generalize c.drop 5 = rest at ec zr ⊢
            have hrest : ∀ gv sd Ps, GoodT gv sd Ps → l = txtOf gv sd Ps → gv = r1 ∧ sd = r2 ∧ rest = Ps.flatMap (fun p => 32 :: p) := fun gv sd Ps g e => by
              have h := hgood gv sd Ps g e
              injection h with h1 h
              injection h with h2 h
              injection h with h3 h
              rw [e1] at h1
              rw [e2] at h2
              rw [ec] at h3
              exact ⟨(List.append_cancel_left (List.append_cancel_left h1)).symm, (List.append_cancel_left (List.append_cancel_left h2)).symm, List.append_cancel_left h3⟩
            refine rd_name ?_
            with_reducible refine rd_nx ?_
            refine rd_st (σ' := [some (.str (tx l)), some (.ref p), some (.str (tx r1)), some (.str (tx r2)), some (.str (tx rest)), none, none, none, none, none, none]) rfl ?_
            walk_at "rd"
            refine len_s (l := rest) (by omega) ?_
            walk_at "rd"
            refine rI_i (by decide) ?_
            walk_at "rd"
            refine rNe_v rfl ?_
            rw [decide_int, show ((rest.length : Nat) : Int) % 5 = ((rest.length % 5 : Nat) : Int) from rfl]
            walk_at "rd"
            by_cases h5 : rest.length % 5 = 0
            · rw [decide_eq_true (show ((rest.length % 5 : Nat) : Int) = 0 by omega)]
              refine iteF ?_
              walk_at "rd"
              refine rd_lst (rd_nil ⟨Nat.zero_le _, fun pp hpp => ?_⟩)
              walk_at "rd"
              have npp : H pp = none := s03.free hpp
              have s4 := Same.new (o := HO.lst []) hpp
              have f4 := upd_same (H := H3) (a := pp) (o := HO.lst [])
              generalize upd H3 pp (.lst []) = H4 at s4 f4 ⊢
              have s04 := s03.trans s4
              have hg1 := o1.2.2.1
              have hg2 := o2.2.2.1
              refine ⟨r1, r2, rfl, by omega, by omega, fun pc H5 hpc s5 f5 => ?_⟩
              have s05 := s04.trans s5
              have f5p := s5 _ _ f4
              have npc : pc ≠ pp := (ne_of_none f4 hpc).symm
              have hcn := cells_nodup o1.2.2.2 o2.2.2.2
              have hcz : (cellsOf r1 r2).length ≤ 676 := by
                rw [cellsOf_len]
                exact Nat.le_trans (Nat.mul_le_mul (show r1.length ≤ 26 by omega) (show r2.length ≤ 26 by omega)) (by decide)
              refine rd_name ?_
              with_reducible refine rd_nx ?_
              refine rd_st (σ' := [some (.str (tx l)), some (.ref p), some (.str (tx r1)), some (.str (tx r2)), some (.str (tx rest)), some (.ref pp), some (.int (-1)), some (.ref pc), none, none, none]) rfl ?_
              have hn5 : 5 * (rest.length / 5) = rest.length := by omega
              refine rd_seq (rd_for1 ?_)
              walk_at "rd"
              refine len_s (l := rest) (by omega) ?_
              walk_at "rd"
              refine rI_i ⟨by decide, by decide⟩ ?_
              walk_at "rd"
              rw [show ((rest.length : Nat) : Int) / 5 = ((rest.length / 5 : Nat) : Int) from rfl]
              refine rng_at (n := rest.length / 5) (by omega) (fun t σ' H' => ∃ o8 o9 o10 Pt, ∃ last : Int, σ' = [some (.str (tx l)), some (.ref p), some (.str (tx r1)), some (.str (tx r2)), some (.str (tx rest)), some (.ref pp), some (.int last), some (.ref pc), o8, o9, o10] ∧ Same H H' ∧
                H' pp = some (.lst (vTxs Pt)) ∧ H' pc = some (.lst (vTxs (cellsOf r1 r2))) ∧ Pt.length = t ∧ rest.take (5 * t) = Pt.flatMap (fun p => 32 :: p) ∧ (∀ x ∈ Pt, OkPair r1 r2 x) ∧ Pt.Pairwise (fun x y => plc (cellsOf r1 r2) x < plc (cellsOf r1 r2) y) ∧
                (last = -1 ∨ ∃ y ∈ Pt, last = (plc (cellsOf r1 r2) y : Nat)) ∧ ∀ y ∈ Pt, ((plc (cellsOf r1 r2) y : Nat) : Int) ≤ last)
                ⟨none, none, none, [], -1, rfl, s05, f5p, f5, rfl, rfl, fun x hx => (List.not_mem_nil hx).elim, .nil, .inl rfl, fun y hy => (List.not_mem_nil hy).elim⟩ (fun t σ' H' ht pv => ?_) (fun σ' H' pv => ?_)
              · obtain ⟨o8, o9, o10, Pt, last, rfl, s6, fp, fc, hPl, hPt, hPo, hPw, hla, hle⟩ := pv
                have ht5 : 5 * t + 5 ≤ rest.length := by omega
                have hgd : ∀ gv sd Ps, GoodT gv sd Ps → l = txtOf gv sd Ps → ∃ x, Ps[t]? = some x ∧ rest.getD (5 * t) 0 = 32 ∧ (rest.drop (5 * t + 1)).take 4 = x ∧ OkPair r1 r2 x := fun gv sd Ps g e => by
                  obtain ⟨eg, es, er⟩ := hrest gv sd Ps g e
                  obtain ⟨x, hx, h5⟩ := good_at g.four er ht5
                  rw [cut5 ht5] at h5
                  injection h5 with h1 h2
                  exact ⟨x, hx, h1, h2, by rw [← eg, ← es]; exact g.ok x (List.mem_of_getElem? hx)⟩
                walk_at "rd"
                refine rI_i (.inl ⟨by decide, by decide⟩) ?_
                walk_at "rd"
                refine rI_i (.inl ⟨by decide, by decide⟩) ?_
                walk_at "rd"
                rw [show ((5 : Int) * (t : Int) + 1) = ((5 * t + 1 : Nat) : Int) from by omega, show ((5 : Int) * (t : Int) + 5) = ((5 * t + 5 : Nat) : Int) from by omega]
                refine sl_s (l := rest) (m := (rest.drop (5 * t + 1)).take 4) (by rw [cutS_mid rest (5 * t + 1) (5 * t + 5) (by omega) ht5, show 5 * t + 5 - (5 * t + 1) = 4 from by omega]) (by omega) ?_
                have hq4 : ((rest.drop (5 * t + 1)).take 4).length = 4 := by rw [List.length_take, List.length_drop]; omega
                have hcut := cut5 ht5
                have htk := take5 (rest := rest) (t := t)
                rw [hcut] at htk
                have hc0 : rest[5 * t]? = some (rest.getD (5 * t) 0) := at_getD (by omega)
                generalize (rest.drop (5 * t + 1)).take 4 = q at hgd hq4 hcut htk ⊢
                generalize rest.getD (5 * t) 0 = c0 at hgd hcut htk hc0 ⊢
                refine rd_name ?_
                with_reducible refine rd_nx ?_
                refine rd_st (σ' := [some (.str (tx l)), some (.ref p), some (.str (tx r1)), some (.str (tx r2)), some (.str (tx rest)), some (.ref pp), some (.int last), some (.ref pc), some (.int (t : Nat)), some (.str (tx q)), o10]) rfl ?_
                walk_at "rd"
                refine rI_i (.inl ⟨by decide, by decide⟩) ?_
                rw [show ((5 : Int) * (t : Int)) = ((5 * t : Nat) : Int) from by omega]
                refine rIx_s (l := rest) (by omega) (c := c0) (atI_nat hc0) ?_
                walk_at "rd"
                refine rNe_v rfl ?_
                by_cases h32 : c0 = 32
                · rw [decide_eq_true (show V.str (tx [c0]) = V.str (tx [32]) by rw [h32])]
                  refine ⟨false, rfl, iteF ?_⟩
                  walk_at "rd"
                  refine sl_s (l := q) (m := q.take 2) (cutS_to q 2) (by omega) ?_
                  walk_at "rd"
                  refine in_txs (SqL.of fc) ?_
                  rw [if_pos rfl]
                  walk_at "rd"
                  by_cases hA : q.take 2 ∈ cellsOf r1 r2
                  · rw [decide_eq_true hA]
                    refine iteF ?_
                    walk_at "rd"
                    refine sl_s (l := q) (m := q.drop 2) (cutS_from q 2) (by omega) ?_
                    walk_at "rd"
                    refine in_txs (SqL.of fc) ?_
                    rw [if_pos rfl]
                    walk_at "rd"
                    by_cases hB : q.drop 2 ∈ cellsOf r1 r2
                    · rw [decide_eq_true hB]
                      refine iteF ?_
                      walk_at "rd"
                      refine ⟨ty_lst (SqL.of fc), ?_⟩
                      walk_at "rd"
                      refine sl_s (l := q) (m := q.take 2) (cutS_to q 2) (by omega) ?_
                      walk_at "rd"
                      refine index_l (SqL.of fc) (idx_at hcn hA) (idx_first hcn hA) ?_
                      walk_at "rd"
                      refine len_l (SqL.of fc) ?_
                      rw [vTxs_len]
                      have hi1 : (cellsOf r1 r2).idxOf (q.take 2) < (cellsOf r1 r2).length := List.idxOf_lt_length_iff.mpr hA
                      walk_at "rd"
                      refine rI_i (.inl ⟨by omega, by omega⟩) ?_
                      walk_at "rd"
                      refine ⟨ty_lst (SqL.of fc), ?_⟩
                      walk_at "rd"
                      refine sl_s (l := q) (m := q.drop 2) (cutS_from q 2) (by omega) ?_
                      walk_at "rd"
                      refine index_l (SqL.of fc) (idx_at hcn hB) (idx_first hcn hB) ?_
                      have epl : (((cellsOf r1 r2).idxOf (q.take 2) : Nat) : Int) * (((cellsOf r1 r2).length : Nat) : Int) + (((cellsOf r1 r2).idxOf (q.drop 2) : Nat) : Int) = ((plc (cellsOf r1 r2) q : Nat) : Int) := by
                        unfold plc
                        rw [Int.natCast_add, Int.natCast_mul]
                      refine rAdd_i ?_
                      rw [epl]
                      refine rd_name ?_
                      with_reducible refine rd_nx ?_
                      refine rd_st (σ' := [some (.str (tx l)), some (.ref p), some (.str (tx r1)), some (.str (tx r2)), some (.str (tx rest)), some (.ref pp), some (.int last), some (.ref pc), some (.int (t : Nat)), some (.str (tx q)), some (.int (plc (cellsOf r1 r2) q : Nat))]) rfl ?_
                      walk_at "rd"
                      have hP4 : ∀ x ∈ Pt, x.length = 4 := fun x hx => by
                        obtain ⟨_, _, _, _, rfl, _⟩ := hPo x hx
                        rfl
                      by_cases hpl : ((plc (cellsOf r1 r2) q : Nat) : Int) ≤ last
                      · rw [decide_eq_true hpl]
                        refine iteT ?_
                        walk_at "rd"
                        refine kb (fun gv sd Ps g e => ?_) H' s6
                        obtain ⟨eg, es, er⟩ := hrest gv sd Ps g e
                        obtain ⟨x, hx, _, ex, _⟩ := hgd gv sd Ps g e
                        rcases hla with hl1 | ⟨y, hy, hl1⟩
                        · omega
                        · obtain ⟨j, hj, hj5⟩ := part_at hP4 hPl hPt hy
                          obtain ⟨x2, hx2, h52⟩ := good_at (t := j) g.four er (by omega)
                          rw [hj5] at h52
                          injection h52 with _ h53
                          have hpw := pairs_pw (ps := Ps) g.hg.2.2.2 g.hs.2.2.2
                          rw [g.hp, List.pairwise_iff_getElem] at hpw
                          obtain ⟨hjl, ej⟩ := List.getElem?_eq_some_iff.mp hx2
                          obtain ⟨htl, et⟩ := List.getElem?_eq_some_iff.mp hx
                          have := hpw j t hjl htl hj
                          rw [ej, et, eg, es, ← h53, ← ex] at this
                          omega
                      · rw [decide_eq_false hpl]
                        refine iteF ?_
                        walk_at "rd"
                        refine ⟨ty_lst (SqL.of fp), ?_⟩
                        walk_at "rd"
                        refine put_l fp (by rw [vTxs_len]; omega) ?_
                        refine ⟨_, _, _, Pt ++ [q], _, rfl, Same.mut s6 npp, ?_, ?_, by rw [List.length_append, hPl]; rfl, ?_, fun x hx => ?_, ?_, .inr ⟨q, by simp, rfl⟩, fun y hy => ?_⟩
                        · rw [upd_same, vTxs_appX]
                          rfl
                        · rw [upd_ne npc]
                          exact fc
                        · rw [htk, hPt, h32, List.flatMap_append]
                          simp
                        · rcases List.mem_append.mp hx with hx | hx
                          · exact hPo x hx
                          · rw [List.mem_singleton.mp hx]
                            exact halves_ok hA hB
                        · rw [List.pairwise_append]
                          refine ⟨hPw, List.pairwise_singleton .., fun a ha b hb => ?_⟩
                          rw [List.mem_singleton.mp hb]
                          have := hle a ha
                          omega
                        · rcases List.mem_append.mp hy with hy | hy
                          · have := hle y hy
                            omega
                          · rw [List.mem_singleton.mp hy]
                            omega
                    · rw [decide_eq_false hB]
                      refine iteT ?_
                      walk_at "rd"
                      refine kb (fun gv sd Ps g e => hB ?_) H' s6
                      obtain ⟨x, _, _, ex, ho⟩ := hgd gv sd Ps g e
                      rw [ex]
                      exact (ok_halves ho).2
                  · rw [decide_eq_false hA]
                    refine iteT (iteT ?_)
                    walk_at "rd"
                    refine kb (fun gv sd Ps g e => hA ?_) H' s6
                    obtain ⟨x, _, _, ex, ho⟩ := hgd gv sd Ps g e
                    rw [ex]
                    exact (ok_halves ho).1
                · rw [decide_eq_false (show ¬ V.str (tx [c0]) = V.str (tx [32]) from fun z => h32 (by have := tx_inj (V.str.inj z); injection this))]
                  refine ⟨true, rfl, iteT (iteT ?_)⟩
                  walk_at "rd"
                  refine kb (fun gv sd Ps g e => h32 ?_) H' s6
                  obtain ⟨x, _, e32, _⟩ := hgd gv sd Ps g e
                  exact e32
              · obtain ⟨o8, o9, o10, Pt, last, rfl, s6, fp, fc, hPl, hPt, hPo, hPw, hla, hle⟩ := pv
                have eP : rest = Pt.flatMap fun p => 32 :: p := by rw [← hPt, hn5, List.take_length]
                have gt : GoodT r1 r2 Pt := ⟨o1, o2, asc_pairs o1.2.2.2 o2.2.2.2 hPo hPw⟩
                walk_at "rd"
                refine rd_tup ?_
                walk_at "rd"
                refine ⟨by show 3 ≤ sizeLine; decide, fun q hq => ?_⟩
                refine kg r1 r2 Pt gt ?_ q pp _ (s6.free hq) npp (s6.trans (Same.new hq)) upd_same (upd_keep hq fp)
                rw [← hjb, e1, e2, ec, eP]
                unfold txtOf
                rw [joinL_flat 32 wPairs Pt]
            · rw [decide_eq_false (show ¬ ((rest.length % 5 : Nat) : Int) = 0 by omega)]
              refine iteT ?_
              walk_at "rd"
              refine kb (fun gv sd Ps g e => h5 ?_) H3 s03
              rw [(hrest gv sd Ps g e).2.2, flat5 g.four]
              omega
          · rw [decide_eq_false hst]
            refine iteT ?_
            walk_at "rd"
            refine kb (fun gv sd Ps g e => hst ?_) H3 s03
            have h := hgood gv sd Ps g e
            injection h with h1 h
            injection h with h2 h
            injection h with h3 h
            rw [h3]
            exact List.take_left' rfl
        · have s03 := s02.trans s3
          refine rd_name ?_
          with_reducible refine rd_nx ?_
          refine rd_st (σ' := [some (.str (tx l)), some (.ref p), some (.str (tx r1)), some .non, none, none, none, none, none, none, none]) rfl ?_
          walk_at "rd"
          refine ⟨rfl, ?_⟩
          rw [decide_eq_false (show ¬ V.str (tx r1) = V.non from fun z => by cases z)]
          refine ⟨false, rfl, iteF ?_⟩
          walk_at "rd"
          refine ⟨rfl, ?_⟩
          rw [decide_eq_true (show V.non = V.non from rfl)]
          refine ⟨true, rfl, iteT (iteT ?_)⟩
          walk_at "rd"
          refine kb (fun gv sd Ps g e => ?_) H3 s03
          have h := hgood gv sd Ps g e
          injection h with h1 h
          injection h with h2 h
          exact hn sd h2 g.hs
      · have s02 := s1.trans s2
        refine rd_name ?_
        with_reducible refine rd_nx ?_
        refine rd_st (σ' := [some (.str (tx l)), some (.ref p), some .non, none, none, none, none, none, none, none, none]) rfl ?_
        walk_at "rd"
        refine rIx_l (SqL.of (s2 _ _ f1)) (v := .str (tx b)) (atI_nat (j := 1) rfl) ?_
        walk_at "rd"
        have bad : ∀ H3, Same H2 H3 → Q .non H3 := fun H3 s3 => kb (fun gv sd Ps g e => by
          have h := hgood gv sd Ps g e
          injection h with h1 h
          exact hn gv h1 g.hg) H3 (s02.trans s3)
        refine ⟨b, wSaid, uppers, rfl, by omega, by decide, by decide, fun r2 e2 o2 H3 s3 => ?_, fun _ H3 s3 => ?_⟩
        · refine rd_name ?_
          with_reducible refine rd_nx ?_
          refine rd_st (σ' := [some (.str (tx l)), some (.ref p), some .non, some (.str (tx r2)), none, none, none, none, none, none, none]) rfl ?_
          walk_at "rd"
          refine ⟨rfl, ?_⟩
          rw [decide_eq_true (show V.non = V.non from rfl)]
          refine ⟨true, rfl, iteT (iteT ?_)⟩
          walk_at "rd"
          exact bad H3 s3
        · refine rd_name ?_
          with_reducible refine rd_nx ?_
          refine rd_st (σ' := [some (.str (tx l)), some (.ref p), some .non, some .non, none, none, none, none, none, none, none]) rfl ?_
          walk_at "rd"
          refine ⟨rfl, ?_⟩
          rw [decide_eq_true (show V.non = V.non from rfl)]
          refine ⟨true, rfl, iteT (iteT ?_)⟩
          walk_at "rd"
          exact bad H3 s3
    · rw [decide_eq_false (show ¬ ((l.count 10 : Nat) : Int) = 2 by omega)]
      refine iteT ?_
      walk_at "rd"
      refine kb (fun gv sd Ps g e => hc2 ?_) H (Same.refl _)
      rw [e]
      exact txt_count g
end

section
/-- what lists of texts weigh: their signs, and one more for each -/
def wtL (cs : List (List Nat)) : Nat := (cs.map List.length).sum + cs.length
theorem wtL_app (a b : List (List Nat)) : wtL (a ++ b) = wtL a + wtL b := by
  unfold wtL
  rw [List.map_append, List.sum_append, List.length_append]
  omega
theorem wtL_one (x : List Nat) : wtL [x] = x.length + 1 := by unfold wtL; simp
theorem wtL_cons (x : List Nat) (r : List (List Nat)) : wtL (x :: r) = x.length + 1 + wtL r := by rw [← wtL_one x, ← wtL_app]; rfl
theorem wtL_nil : wtL [] = 0 := rfl
theorem wtL_set : ∀ (cs : List (List Nat)) (i : Nat) (x y : List Nat), cs[i]? = some y → wtL (cs.set i x) + y.length = wtL cs + x.length
  | [], _, _, _, h => by cases h
  | a :: r, 0, x, y, h => by
    cases h
    show wtL (x :: r) + a.length = wtL (a :: r) + x.length
    rw [wtL_cons, wtL_cons]
    omega
  | a :: r, i + 1, x, y, h => by
    have ih := wtL_set r i x y h
    show wtL (a :: r.set i x) + y.length = wtL (a :: r) + x.length
    rw [wtL_cons, wtL_cons]
    omega
theorem wtL_swap {cs : List (List Nat)} {i j : Nat} {x y : List Nat} (hi : cs[i]? = some x) (hj : cs[j]? = some y) : wtL ((cs.set i y).set j x) = wtL cs := by
  have h1 := wtL_set cs i y x hi
  have hil := (List.getElem?_eq_some_iff.mp hi).1
  have e : (cs.set i y)[j]? = some y := by
    by_cases h : i = j
    · subst h
      rw [List.getElem?_set_self hil]
    · rw [List.getElem?_set_ne h]
      exact hj
  have h2 := wtL_set (cs.set i y) j x y e
  omega
theorem wtL_split (cs : List (List Nat)) (k : Nat) : wtL (cs.take k) + wtL (cs.drop k) = wtL cs := by rw [← wtL_app, List.take_append_drop]
theorem wtL_drop1 (cs : List (List Nat)) (k : Nat) : wtL (cs.drop (k + 1)) ≤ wtL (cs.drop k) := by
  have h := wtL_split (cs.drop k) 1
  rw [List.drop_drop] at h
  omega
theorem wtL_cut (c : Nat) (l : List Nat) : wtL (cutL c l) = l.length + 1 := by
  have h := joinL_len (c := c) (cutL_ne c l)
  rw [joinL_back] at h
  exact h.symm
theorem joinL_wt (c : Nat) (cs : List (List Nat)) : (TL.joinL [c] cs).length + 1 ≤ wtL cs + 1 := by
  by_cases h : cs = []
  · subst h
    exact Nat.le_refl _
  · have := joinL_len (c := c) h
    show _ ≤ (cs.map List.length).sum + cs.length + 1
    omega
theorem joinL_wt2 {c : Nat} {cs : List (List Nat)} {n : Nat} (h : wtL cs ≤ n + 1) : (TL.joinL [c] cs).length ≤ n := by
  by_cases hc : cs = []
  · subst hc
    exact Nat.zero_le _
  · have := joinL_len (c := c) hc
    have e : wtL cs = (cs.map List.length).sum + cs.length := rfl
    omega
theorem vTxs_dropX (a : List (List Nat)) (n : Nat) : vTxs (a.drop n) = (vTxs a).drop n := by unfold vTxs; rw [List.map_drop]
theorem vTxs_setX (a : List (List Nat)) (n : Nat) (x : List Nat) : vTxs (a.set n x) = (vTxs a).set n (.str (tx x)) := by unfold vTxs; rw [List.map_set]
theorem vTxs_some {a : List (List Nat)} {n : Nat} {x : List Nat} (h : a[n]? = some x) : (vTxs a)[n]? = some (V.str (tx x)) := by unfold vTxs; rw [List.getElem?_map, h]; rfl
theorem ixN_nat {n k : Nat} (h : k < n) : ixN n ((k : Nat) : Int) = some k := by
  unfold ixN
  rw [if_pos (by omega), if_pos (by omega)]
  rfl
theorem join_w {K : PySem.W.Frag} {H : Hp} {Q : VK} {p : Addr} {c : Nat} {ps : List (List Nat)} {n : Nat} (hs : SqL K H p (vTxs ps)) (hw : wtL ps ≤ n + 1) (hn : n ≤ 100000) (h : ∀ m, m.length ≤ n → Q (.str (tx m)) H) : rJoinK K (.str (tx [c])) [.ref p] H Q := by
  have e : wtL ps = (ps.map List.length).sum + ps.length := rfl
  refine join_m hs (by show _ + _ * 1 ≤ _; omega) (h _ (joinL_wt2 hw))
theorem dec_int0 (w : Int) (n : Int) : decide (V.int w = V.int n) = decide (w = n) := decide_eq_decide.mpr ⟨fun h => V.int.inj h, fun h => by rw [h]⟩
end

section
variable {P : Program} {w : World} {K : PySem.W.Frag} {mg : Str → Option Value} {base : Heap}
/-! ### changed lines -/
def sp_Lchg : Sp := fun vs H Q _ => ∃ h c l, vs = [.ref h, .str (tx l)] ∧ HandAt H h c ∧ l.length ≤ 20000 ∧ ∀ H' m, m.length ≤ 2 * l.length + 20 → Keep1 h H H' → HandAt H' h c → Q (.str (tx m)) H'
def ws8 : List (List Nat) := [wGiven, wSaid, wPairs, [71, 105, 118, 101, 110], [], [112, 97, 105, 114], [103, 105, 118, 101, 110, 115, 32, 97], [32, 112, 97, 105, 114, 115]]
theorem ok_Llines_changed (T : Txt K mg) : FnOk P w K mg base (L2.CX P w) 2 T.f_Llines_changed T.fd_Llines_changed ["_law_hand_here", "_law_text"] sp_Lchg := by
  refine T.F_Llines_changed.okX sc_Llines_changed (fun vs H Q E h => ?_) (fun cdv A outer s H vs Q E hr h => ?_)
  · obtain ⟨_, _, _, rfl, _⟩ := h
    rfl
  · obtain ⟨h, c, l, rfl, hh, hz, k⟩ := h
    refine ⟨_, (pss_cons (ps_set (i := 2) sc_Llines_changed.nd rfl (by first | exact Or.inl rfl | exact Or.inr rfl) (pe_bmA (K := K) rfl (pe_bm PySem.F.plainAttrs_str PySem.F.slot_str_split PySem.F.type_str_split mt_splitA (pv 1) (pa_cons pe_str pa_nil))))
  (pss_cons (ps_set (i := 3) sc_Llines_changed.nd rfl (by first | exact Or.inl rfl | exact Or.inr rfl) (pe_callS (ok_Ldraw T) (hr.mono (by decide)) rfl T.mg_Ldraw T.kp_Ldraw T.bd_Ldraw (fun σ => passAt (takes_of rfl rfl rfl rfl) σ) (pa_cons (pv 0) (pa_cons (pe_callB (call_lenK (K := K) rfl) (by rfl) T.b_len boot_len (pa_cons (pv 2) pa_nil)) pa_nil))))
  (pss_cons (ps_set (i := 4) sc_Llines_changed.nd rfl (by first | exact Or.inl rfl | exact Or.inr rfl) (pe_callS (ok_Ldraw T) (hr.mono (by decide)) rfl T.mg_Ldraw T.kp_Ldraw T.bd_Ldraw (fun σ => passAt (takes_of rfl rfl rfl rfl) σ) (pa_cons (pv 0) (pa_cons (pe_callB (call_lenK (K := K) rfl) (by rfl) T.b_len boot_len (pa_cons (pv 2) pa_nil)) pa_nil))))
  (pss_cons (ps_set (i := 5) sc_Llines_changed.nd rfl (by first | exact Or.inl rfl | exact Or.inr rfl) (pe_callS (ok_Ldraw T) (hr.mono (by decide)) rfl T.mg_Ldraw T.kp_Ldraw T.bd_Ldraw (fun σ => passAt (takes_of rfl rfl rfl rfl) σ) (pa_cons (pv 0) (pa_cons pe_int pa_nil))))
  (pss_cons (ps_if (pt_cmpR op_eq (pv 5) pe_int (nomark _))
  (pss_one (ps_ret (pe_bmA (K := K) rfl (pe_bm PySem.F.plainAttrs_str PySem.F.slot_str_join PySem.F.type_str_join (mt_joinK (K := K) rfl) pe_str (pa_cons (pe_op op_addA (pe_slice (sl_anyK (K := K) rfl) (pv 2) po_none (po_some (pv 3))) (pe_slice (sl_anyK (K := K) rfl) (pv 2) (po_some (pe_op op_addA (pv 3) pe_int)) po_none)) pa_nil)))))
  pss_nil)
  (pss_cons (ps_if (pt_cmpR op_eq (pv 5) pe_int (nomark _))
  (pss_one (ps_ret (pe_bmA (K := K) rfl (pe_bm PySem.F.plainAttrs_str PySem.F.slot_str_join PySem.F.type_str_join (mt_joinK (K := K) rfl) pe_str (pa_cons (pe_op op_addA (pe_op op_addA (pe_slice (sl_anyK (K := K) rfl) (pv 2) po_none (po_some (pv 3))) (pe_lst (pa_cons (pe_ix (ix_seqK (K := K) rfl) (pv 2) (pv 4) (fun _ _ => rfl)) pa_nil))) (pe_slice (sl_anyK (K := K) rfl) (pv 2) (po_some (pv 3)) po_none)) pa_nil)))))
  pss_nil)
  (pss_cons (ps_if (pt_cmpR op_eq (pv 5) pe_int (nomark _))
  (pss_cons (ps_set (i := 6) sc_Llines_changed.nd rfl (by first | exact Or.inl rfl | exact Or.inr rfl) (pe_ix (ix_seqK (K := K) rfl) (pv 2) (pv 3) (fun _ _ => rfl)))
  (pss_cons (ps_asg (pe_ix (ix_seqK (K := K) rfl) (pv 2) (pv 4) (fun _ _ => rfl)) (pg_sub (pv 2) (pv 3) set_list))
  (pss_cons (ps_asg (pv 6) (pg_sub (pv 2) (pv 4) set_list))
  (pss_one (ps_ret (pe_bmA (K := K) rfl (pe_bm PySem.F.plainAttrs_str PySem.F.slot_str_join PySem.F.type_str_join (mt_joinK (K := K) rfl) pe_str (pa_cons (pv 2) pa_nil))))))))
  pss_nil)
  (pss_cons (ps_set (i := 7) sc_Llines_changed.nd rfl (by first | exact Or.inl rfl | exact Or.inr rfl) (pe_lst (pa_cons pe_str (pa_cons pe_str (pa_cons pe_str (pa_cons pe_str (pa_cons pe_str (pa_cons pe_str (pa_cons pe_str (pa_cons pe_str pa_nil))))))))))
  (pss_cons (ps_asg (pe_op op_addA (pe_ix (ix_seqK (K := K) rfl) (pv 7) (pe_callS (ok_Ldraw T) (hr.mono (by decide)) rfl T.mg_Ldraw T.kp_Ldraw T.bd_Ldraw (fun σ => passAt (takes_of rfl rfl rfl rfl) σ) (pa_cons (pv 0) (pa_cons pe_int pa_nil))) (fun _ _ => rfl)) (pe_slice (sl_anyK (K := K) rfl) (pe_ix (ix_seqK (K := K) rfl) (pv 2) (pv 3) (fun _ _ => rfl)) (po_some (pe_bmA (K := K) rfl (pe_bm PySem.F.plainAttrs_str PySem.F.slot_str_find PySem.F.type_str_find mt_findA (pe_ix (ix_seqK (K := K) rfl) (pv 2) (pv 3) (fun _ _ => rfl)) (pa_cons pe_str pa_nil)))) po_none)) (pg_sub (pv 2) (pv 3) set_list))
  (pss_one (ps_ret (pe_bmA (K := K) rfl (pe_bm PySem.F.plainAttrs_str PySem.F.slot_str_join PySem.F.type_str_join (mt_joinK (K := K) rfl) pe_str (pa_cons (pv 2) pa_nil)))))))))))))), ?_⟩
    rw [show (Str.ofString "\n") = tx [10] from by decide +kernel, show (Str.ofString "given") = tx wGiven from by decide +kernel, show (Str.ofString "said") = tx wSaid from by decide +kernel, show (Str.ofString "pairs") = tx wPairs from by decide +kernel, show (Str.ofString "Given") = tx [71, 105, 118, 101, 110] from by decide +kernel,
      empty_tx, show (Str.ofString "pair") = tx [112, 97, 105, 114] from by decide +kernel, show (Str.ofString "givens a") = tx [103, 105, 118, 101, 110, 115, 32, 97] from by decide +kernel, show (Str.ofString " pairs") = tx [32, 112, 97, 105, 114, 115] from by decide +kernel, show (Str.ofString " ") = tx [32] from by decide +kernel]
    walk_at "rd"
    refine split_s (by decide) (by omega) fun p hp => ?_
    have s1 := Same.new (o := HO.lst (vTxs (cutL 10 l))) hp
    have f1 := upd_same (H := H) (a := p) (o := HO.lst (vTxs (cutL 10 l)))
    have nph := (hh.out hp).1
    have npc := (hh.out hp).2
    have hh1 := hh.upd (o := HO.lst (vTxs (cutL 10 l))) hp
    have k1 : Keep1 h H (upd H p (.lst (vTxs (cutL 10 l)))) := Keep1.of s1
    generalize upd H p (.lst (vTxs (cutL 10 l))) = H1 at s1 f1 hh1 k1 ⊢
    have hcl := cutL_sub 10 l
    have hwt := wtL_cut 10 l
    have hne : 0 < (cutL 10 l).length := List.length_pos_iff.mpr (cutL_ne 10 l)
    have hln := cutL_len 10 l
    have hct := List.count_le_length (a := 10) (l := l)
    generalize cutL 10 l = cs at *
    refine rd_name ?_
    with_reducible refine rd_nx ?_
    refine rd_st (σ' := [some (.ref h), some (.str (tx l)), some (.ref p), none, none, none, none, none]) rfl ?_
    walk_at "rd"
    refine len_l (SqL.of f1) ?_
    rw [vTxs_len]
    walk_at "rd"
    refine ⟨h, c, _, rfl, hh1, by omega, log9 (by omega), fun H2 d1 h0 h1 k2 hh2 => ?_⟩
    obtain ⟨i, rfl, hi⟩ := nat_of h0 h1
    walk_at "rd"
    refine len_l (SqL.of (k2 _ _ f1 nph)) ?_
    rw [vTxs_len]
    walk_at "rd"
    refine ⟨h, c, _, rfl, hh2, by omega, log9 (by omega), fun H3 d2 h0 h1 k3 hh3 => ?_⟩
    obtain ⟨j, rfl, hj⟩ := nat_of h0 h1
    walk_at "rd"
    refine ⟨h, c, 4, rfl, hh3, by decide, by decide, fun H4 d3 h0 h1 k4 hh4 => ?_⟩
    have f4 := k4 _ _ (k3 _ _ (k2 _ _ f1 nph) nph) nph
    have k04 := ((k1.trans k2).trans k3).trans k4
    refine rd_name ?_
    with_reducible refine rd_nx ?_
    refine rd_st (σ' := [some (.ref h), some (.str (tx l)), some (.ref p), some (.int (i : Nat)), some (.int (j : Nat)), some (.int d3), none, none]) rfl ?_
    obtain ⟨x, hx⟩ : ∃ x, cs[i]? = some x := ⟨_, List.getElem?_eq_getElem hi⟩
    obtain ⟨y, hy⟩ : ∃ y, cs[j]? = some y := ⟨_, List.getElem?_eq_getElem hj⟩
    have zx := hcl x (List.mem_of_getElem? hx)
    have zy := hcl y (List.mem_of_getElem? hy)
    have hsp := wtL_split cs i
    have hs1 := wtL_drop1 cs i
    walk_at "rd"
    refine rEq_v rfl ?_
    rw [dec_int0]
    walk_at "rd"
    by_cases w0 : d3 = 0
    · rw [decide_eq_true w0]
      refine iteT ?_
      walk_at "rd"
      refine sl_l (SqL.of f4) fun q1 hq1 => ?_
      rw [cutV_to, ← vTxs_takeX]
      have t1 := Same.new (o := HO.lst (vTxs (cs.take i))) hq1
      have g1 := upd_same (H := H4) (a := q1) (o := HO.lst (vTxs (cs.take i)))
      generalize upd H4 q1 (.lst (vTxs (cs.take i))) = H5 at t1 g1 ⊢
      walk_at "rd"
      refine sl_l (SqL.of (t1 _ _ f4)) fun q2 hq2 => ?_
      rw [show ((i : Int) + 1) = ((i + 1 : Nat) : Int) from rfl, cutV_from, ← vTxs_dropX]
      have t2 := Same.new (o := HO.lst (vTxs (cs.drop (i + 1)))) hq2
      have g2 := upd_same (H := H5) (a := q2) (o := HO.lst (vTxs (cs.drop (i + 1))))
      generalize upd H5 q2 (.lst (vTxs (cs.drop (i + 1)))) = H6 at t2 g2 ⊢
      refine rAdd_l (t2 _ _ g1) g2 (by rw [vTxs_len, vTxs_len, List.length_take, List.length_drop]; omega) fun q3 hq3 => ?_
      rw [← vTxs_appX]
      have t3 := Same.new (o := HO.lst (vTxs (cs.take i ++ cs.drop (i + 1)))) hq3
      have g3 := upd_same (H := H6) (a := q3) (o := HO.lst (vTxs (cs.take i ++ cs.drop (i + 1))))
      generalize upd H6 q3 (.lst (vTxs (cs.take i ++ cs.drop (i + 1)))) = H7 at t3 g3 ⊢
      have t47 := (t1.trans t2).trans t3
      walk_at "rd"
      refine join_w (n := l.length) (SqL.of g3) (by rw [wtL_app]; omega) (by omega) fun m hm => ?_
      exact k H7 m (by omega) (k04.same t47) (hh4.same t47)
    rw [decide_eq_false w0]
    refine iteF ?_
    walk_at "rd"
    refine rEq_v rfl ?_
    rw [dec_int0]
    walk_at "rd"
    by_cases w1 : d3 = 1
    · rw [decide_eq_true w1]
      refine iteT ?_
      walk_at "rd"
      refine sl_l (SqL.of f4) fun q1 hq1 => ?_
      rw [cutV_to, ← vTxs_takeX]
      have t1 := Same.new (o := HO.lst (vTxs (cs.take i))) hq1
      have g1 := upd_same (H := H4) (a := q1) (o := HO.lst (vTxs (cs.take i)))
      generalize upd H4 q1 (.lst (vTxs (cs.take i))) = H5 at t1 g1 ⊢
      refine rd_lst ?_
      walk_at "rd"
      refine rIx_l (SqL.of (t1 _ _ f4)) (v := .str (tx y)) (atI_nat (vTxs_some hy)) ?_
      walk_at "rd"
      refine ⟨by show 1 ≤ sizeLine; decide, fun q2 hq2 => ?_⟩
      have t2 := Same.new (o := HO.lst (vTxs [y])) hq2
      have g2 := upd_same (H := H5) (a := q2) (o := HO.lst (vTxs [y]))
      change rAddA _ _ (upd H5 q2 (.lst (vTxs [y]))) _
      generalize upd H5 q2 (.lst (vTxs [y])) = H6 at t2 g2 ⊢
      refine rAdd_l (t2 _ _ g1) g2 (by rw [vTxs_len, vTxs_len, List.length_take]; show _ + 1 ≤ _; omega) fun q3 hq3 => ?_
      rw [← vTxs_appX]
      have t3 := Same.new (o := HO.lst (vTxs (cs.take i ++ [y]))) hq3
      have g3 := upd_same (H := H6) (a := q3) (o := HO.lst (vTxs (cs.take i ++ [y])))
      generalize upd H6 q3 (.lst (vTxs (cs.take i ++ [y]))) = H7 at t3 g3 ⊢
      walk_at "rd"
      refine sl_l (SqL.of (t3 _ _ (t2 _ _ (t1 _ _ f4)))) fun q4 hq4 => ?_
      rw [cutV_from, ← vTxs_dropX]
      have t4 := Same.new (o := HO.lst (vTxs (cs.drop i))) hq4
      have g4 := upd_same (H := H7) (a := q4) (o := HO.lst (vTxs (cs.drop i)))
      generalize upd H7 q4 (.lst (vTxs (cs.drop i))) = H8 at t4 g4 ⊢
      refine rAdd_l (t4 _ _ g3) g4 (by rw [vTxs_len, vTxs_len, List.length_append, List.length_take, List.length_drop]; show _ + 1 + _ ≤ _; omega) fun q5 hq5 => ?_
      rw [← vTxs_appX]
      have t5 := Same.new (o := HO.lst (vTxs (cs.take i ++ [y] ++ cs.drop i))) hq5
      have g5 := upd_same (H := H8) (a := q5) (o := HO.lst (vTxs (cs.take i ++ [y] ++ cs.drop i)))
      generalize upd H8 q5 (.lst (vTxs (cs.take i ++ [y] ++ cs.drop i))) = H9 at t5 g5 ⊢
      have t49 := (((t1.trans t2).trans t3).trans t4).trans t5
      walk_at "rd"
      refine join_w (n := 2 * l.length + 1) (SqL.of g5) (by rw [wtL_app, wtL_app, wtL_one]; omega) (by omega) fun m hm => ?_
      exact k H9 m (by omega) (k04.same t49) (hh4.same t49)
    rw [decide_eq_false w1]
    refine iteF ?_
    walk_at "rd"
    refine rEq_v rfl ?_
    rw [dec_int0]
    walk_at "rd"
    have iv : ixN (vTxs cs).length ((i : Nat) : Int) = some i := ixN_nat (by rw [vTxs_len]; exact hi)
    by_cases w2 : d3 = 2
    · rw [decide_eq_true w2]
      refine iteT ?_
      walk_at "rd"
      refine rIx_l (SqL.of f4) (v := .str (tx x)) (atI_nat (vTxs_some hx)) ?_
      walk_at "rd"
      refine rIx_l (SqL.of f4) (v := .str (tx y)) (atI_nat (vTxs_some hy)) ?_
      walk_at "rd"
      refine set_l f4 iv ?_
      rw [← vTxs_setX]
      walk_at "rd"
      refine set_l upd_same (ixN_nat (by rw [vTxs_len, List.length_set]; exact hj)) ?_
      rw [← vTxs_setX, upd_upd]
      walk_at "rd"
      refine join_w (n := l.length) (SqL.of upd_same) (by rw [wtL_swap hx hy]; omega) (by omega) fun m hm => ?_
      exact k _ m (by omega) (k04.mut hp) (hh4.mut nph npc)
    rw [decide_eq_false w2]
    refine iteF ?_
    walk_at "rd"
    refine rd_lst ?_
    walk_at "rd"
    refine ⟨by show 8 ≤ sizeLine; decide, fun q1 hq1 => ?_⟩
    have t1 := Same.new (o := HO.lst (vTxs ws8)) hq1
    have g1 := upd_same (H := H4) (a := q1) (o := HO.lst (vTxs ws8))
    have nqh := (hh4.out hq1).1
    change gName 7 _ _ (upd H4 q1 (.lst (vTxs ws8))) _
    have hh5 := hh4.same t1
    generalize upd H4 q1 (.lst (vTxs ws8)) = H5 at t1 g1 hh5 ⊢
    walk_at "rd"
    refine ⟨h, c, 8, rfl, hh5, by decide, by decide, fun H6 d4 h0 h1 k6 hh6 => ?_⟩
    obtain ⟨n, rfl, hn⟩ := nat_of (n := 8) h0 h1
    have hn8 : n < ws8.length := hn
    obtain ⟨u, hu⟩ : ∃ u, ws8[n]? = some u := ⟨_, List.getElem?_eq_getElem hn8⟩
    have hu8 : u.length ≤ 8 := (show ∀ u ∈ ws8, u.length ≤ 8 by decide) u (List.mem_of_getElem? hu)
    have g6 := k6 _ _ g1 nqh
    have f6 := k6 _ _ (t1 _ _ f4) nph
    refine rIx_l (SqL.of g6) (v := .str (tx u)) (atI_nat (vTxs_some hu)) ?_
    walk_at "rd"
    refine rIx_l (SqL.of f6) (v := .str (tx x)) (atI_nat (vTxs_some hx)) ?_
    walk_at "rd"
    refine rIx_l (SqL.of f6) (v := .str (tx x)) (atI_nat (vTxs_some hx)) ?_
    walk_at "rd"
    obtain ⟨v, hv, hvl⟩ := cutS_some x (some (Txt.find (tx x) (tx [32]))) none
    refine sl_s (l := x) (m := v) hv (by omega) ?_
    refine rAdd_s (by omega) ?_
    walk_at "rd"
    refine set_l f6 iv ?_
    rw [← vTxs_setX]
    walk_at "rd"
    have hws := wtL_set cs i (u ++ v) x hx
    rw [List.length_append] at hws
    refine join_w (n := l.length + 8) (SqL.of upd_same) (by omega) (by omega) fun m hm => ?_
    exact k _ m (by omega) (((k04.same t1).trans k6).mut hp) (hh6.mut nph npc)
theorem ok_Lwords_changed (T : Txt K mg) : FnOk P w K mg base (L2.CX P w) 2 T.f_Lwords_changed T.fd_Lwords_changed ["_law_hand_here", "_law_text"] sp_Lchg := by
  refine T.F_Lwords_changed.okX sc_Lwords_changed (fun vs H Q E h => ?_) (fun cdv A outer s H vs Q E hr h => ?_)
  · obtain ⟨_, _, _, rfl, _⟩ := h
    rfl
  · obtain ⟨h, c, l, rfl, hh, hz, k⟩ := h
    refine ⟨_, (pss_cons (ps_set (i := 2) sc_Lwords_changed.nd rfl (by first | exact Or.inl rfl | exact Or.inr rfl) (pe_bmA (K := K) rfl (pe_bm PySem.F.plainAttrs_str PySem.F.slot_str_split PySem.F.type_str_split mt_splitA (pv 1) (pa_cons pe_str pa_nil))))
  (pss_cons (ps_set (i := 3) sc_Lwords_changed.nd rfl (by first | exact Or.inl rfl | exact Or.inr rfl) (pe_callS (ok_Ldraw T) (hr.mono (by decide)) rfl T.mg_Ldraw T.kp_Ldraw T.bd_Ldraw (fun σ => passAt (takes_of rfl rfl rfl rfl) σ) (pa_cons (pv 0) (pa_cons (pe_callB (call_lenK (K := K) rfl) (by rfl) T.b_len boot_len (pa_cons (pv 2) pa_nil)) pa_nil))))
  (pss_cons (ps_set (i := 4) sc_Lwords_changed.nd rfl (by first | exact Or.inl rfl | exact Or.inr rfl) (pe_callS (ok_Ldraw T) (hr.mono (by decide)) rfl T.mg_Ldraw T.kp_Ldraw T.bd_Ldraw (fun σ => passAt (takes_of rfl rfl rfl rfl) σ) (pa_cons (pv 0) (pa_cons (pe_callB (call_lenK (K := K) rfl) (by rfl) T.b_len boot_len (pa_cons (pv 2) pa_nil)) pa_nil))))
  (pss_cons (ps_set (i := 5) sc_Lwords_changed.nd rfl (by first | exact Or.inl rfl | exact Or.inr rfl) (pe_callS (ok_Ldraw T) (hr.mono (by decide)) rfl T.mg_Ldraw T.kp_Ldraw T.bd_Ldraw (fun σ => passAt (takes_of rfl rfl rfl rfl) σ) (pa_cons (pv 0) (pa_cons pe_int pa_nil))))
  (pss_cons (ps_if (pt_cmpR op_eq (pv 5) pe_int (nomark _))
  (pss_one (ps_set (i := 2) sc_Lwords_changed.nd rfl (by first | exact Or.inl rfl | exact Or.inr rfl) (pe_op op_addA (pe_op op_addA (pe_slice (sl_anyK (K := K) rfl) (pv 2) po_none (po_some (pv 3))) (pe_lst (pa_cons (pe_ix (ix_seqK (K := K) rfl) (pv 2) (pv 4) (fun _ _ => rfl)) pa_nil))) (pe_slice (sl_anyK (K := K) rfl) (pv 2) (po_some (pv 3)) po_none))))
  (pss_one (ps_if (pt_cmpR op_eq (pv 5) pe_int (nomark _))
  (pss_cons (ps_set (i := 6) sc_Lwords_changed.nd rfl (by first | exact Or.inl rfl | exact Or.inr rfl) (pe_ix (ix_seqK (K := K) rfl) (pv 2) (pv 3) (fun _ _ => rfl)))
  (pss_cons (ps_asg (pe_ix (ix_seqK (K := K) rfl) (pv 2) (pv 4) (fun _ _ => rfl)) (pg_sub (pv 2) (pv 3) set_list))
  (pss_one (ps_asg (pv 6) (pg_sub (pv 2) (pv 4) set_list)))))
  (pss_one (ps_if (pt_cmpR op_eq (pv 5) pe_int (nomark _))
  (pss_one (ps_asg (pe_slice (sl_anyK (K := K) rfl) (pe_ix (ix_seqK (K := K) rfl) (pv 2) (pv 3) (fun _ _ => rfl)) po_none (po_some (pe_callS (ok_Ldraw T) (hr.mono (by decide)) rfl T.mg_Ldraw T.kp_Ldraw T.bd_Ldraw (fun σ => passAt (takes_of rfl rfl rfl rfl) σ) (pa_cons (pv 0) (pa_cons pe_int pa_nil))))) (pg_sub (pv 2) (pv 3) set_list)))
  (pss_one (ps_set (i := 2) sc_Lwords_changed.nd rfl (by first | exact Or.inl rfl | exact Or.inr rfl) (pe_op op_addA (pe_slice (sl_anyK (K := K) rfl) (pv 2) po_none (po_some (pv 3))) (pe_slice (sl_anyK (K := K) rfl) (pv 2) (po_some (pe_op op_addA (pv 3) pe_int)) po_none)))))))))
  (pss_one (ps_ret (pe_bmA (K := K) rfl (pe_bm PySem.F.plainAttrs_str PySem.F.slot_str_join PySem.F.type_str_join (mt_joinK (K := K) rfl) pe_str (pa_cons (pv 2) pa_nil)))))))))), ?_⟩
    rw [show (Str.ofString " ") = tx [32] from by decide +kernel]
    walk_at "rd"
    refine split_s (by decide) (by omega) fun p hp => ?_
    have s1 := Same.new (o := HO.lst (vTxs (cutL 32 l))) hp
    have f1 := upd_same (H := H) (a := p) (o := HO.lst (vTxs (cutL 32 l)))
    have nph := (hh.out hp).1
    have npc := (hh.out hp).2
    have hh1 := hh.upd (o := HO.lst (vTxs (cutL 32 l))) hp
    have k1 : Keep1 h H (upd H p (.lst (vTxs (cutL 32 l)))) := Keep1.of s1
    generalize upd H p (.lst (vTxs (cutL 32 l))) = H1 at s1 f1 hh1 k1 ⊢
    have hcl := cutL_sub 32 l
    have hwt := wtL_cut 32 l
    have hne : 0 < (cutL 32 l).length := List.length_pos_iff.mpr (cutL_ne 32 l)
    have hln := cutL_len 32 l
    have hct := List.count_le_length (a := 32) (l := l)
    generalize cutL 32 l = cs at *
    refine rd_name ?_
    with_reducible refine rd_nx ?_
    refine rd_st (σ' := [some (.ref h), some (.str (tx l)), some (.ref p), none, none, none, none]) rfl ?_
    walk_at "rd"
    refine len_l (SqL.of f1) ?_
    rw [vTxs_len]
    walk_at "rd"
    refine ⟨h, c, _, rfl, hh1, by omega, log9 (by omega), fun H2 d1 h0 h1 k2 hh2 => ?_⟩
    obtain ⟨i, rfl, hi⟩ := nat_of h0 h1
    walk_at "rd"
    refine len_l (SqL.of (k2 _ _ f1 nph)) ?_
    rw [vTxs_len]
    walk_at "rd"
    refine ⟨h, c, _, rfl, hh2, by omega, log9 (by omega), fun H3 d2 h0 h1 k3 hh3 => ?_⟩
    obtain ⟨j, rfl, hj⟩ := nat_of h0 h1
    walk_at "rd"
    refine ⟨h, c, 4, rfl, hh3, by decide, by decide, fun H4 d3 h0 h1 k4 hh4 => ?_⟩
    have f4 := k4 _ _ (k3 _ _ (k2 _ _ f1 nph) nph) nph
    have k04 := ((k1.trans k2).trans k3).trans k4
    refine rd_name ?_
    with_reducible refine rd_nx ?_
    refine rd_st (σ' := [some (.ref h), some (.str (tx l)), some (.ref p), some (.int (i : Nat)), some (.int (j : Nat)), some (.int d3), none]) rfl ?_
    obtain ⟨x, hx⟩ : ∃ x, cs[i]? = some x := ⟨_, List.getElem?_eq_getElem hi⟩
    obtain ⟨y, hy⟩ : ∃ y, cs[j]? = some y := ⟨_, List.getElem?_eq_getElem hj⟩
    have zx := hcl x (List.mem_of_getElem? hx)
    have zy := hcl y (List.mem_of_getElem? hy)
    have hsp := wtL_split cs i
    have hs1 := wtL_drop1 cs i
    refine rd_have (M := fun σ' H' => ∃ q ws o6, σ' = [some (.ref h), some (.str (tx l)), some (.ref q), some (.int (i : Nat)), some (.int (j : Nat)), some (.int d3), o6] ∧ H' q = some (.lst (vTxs ws)) ∧ wtL ws ≤ 2 * l.length + 2 ∧ Keep1 h H H' ∧ HandAt H' h c) (fun σ' H' hM => ?_) (fun rest => ?_)
    · obtain ⟨q, ws, o6, rfl, hq, hw, hk, hhh⟩ := hM
      walk_at "rd"
      refine join_w (n := 2 * l.length + 1) (SqL.of hq) (by omega) (by omega) fun m hm => ?_
      exact k H' m (by omega) hk hhh
    walk_at "rd"
    refine rEq_v rfl ?_
    rw [dec_int0]
    walk_at "rd"
    by_cases w0 : d3 = 0
    · rw [decide_eq_true w0]
      refine iteT ?_
      walk_at "rd"
      refine sl_l (SqL.of f4) fun q1 hq1 => ?_
      rw [cutV_to, ← vTxs_takeX]
      have t1 := Same.new (o := HO.lst (vTxs (cs.take i))) hq1
      have g1 := upd_same (H := H4) (a := q1) (o := HO.lst (vTxs (cs.take i)))
      generalize upd H4 q1 (.lst (vTxs (cs.take i))) = H5 at t1 g1 ⊢
      refine rd_lst ?_
      walk_at "rd"
      refine rIx_l (SqL.of (t1 _ _ f4)) (v := .str (tx y)) (atI_nat (vTxs_some hy)) ?_
      walk_at "rd"
      refine ⟨by show 1 ≤ sizeLine; decide, fun q2 hq2 => ?_⟩
      have t2 := Same.new (o := HO.lst (vTxs [y])) hq2
      have g2 := upd_same (H := H5) (a := q2) (o := HO.lst (vTxs [y]))
      change rAddA _ _ (upd H5 q2 (.lst (vTxs [y]))) _
      generalize upd H5 q2 (.lst (vTxs [y])) = H6 at t2 g2 ⊢
      refine rAdd_l (t2 _ _ g1) g2 (by rw [vTxs_len, vTxs_len, List.length_take]; show _ + 1 ≤ _; omega) fun q3 hq3 => ?_
      rw [← vTxs_appX]
      have t3 := Same.new (o := HO.lst (vTxs (cs.take i ++ [y]))) hq3
      have g3 := upd_same (H := H6) (a := q3) (o := HO.lst (vTxs (cs.take i ++ [y])))
      generalize upd H6 q3 (.lst (vTxs (cs.take i ++ [y]))) = H7 at t3 g3 ⊢
      walk_at "rd"
      refine sl_l (SqL.of (t3 _ _ (t2 _ _ (t1 _ _ f4)))) fun q4 hq4 => ?_
      rw [cutV_from, ← vTxs_dropX]
      have t4 := Same.new (o := HO.lst (vTxs (cs.drop i))) hq4
      have g4 := upd_same (H := H7) (a := q4) (o := HO.lst (vTxs (cs.drop i)))
      generalize upd H7 q4 (.lst (vTxs (cs.drop i))) = H8 at t4 g4 ⊢
      refine rAdd_l (t4 _ _ g3) g4 (by rw [vTxs_len, vTxs_len, List.length_append, List.length_take, List.length_drop]; show _ + 1 + _ ≤ _; omega) fun q5 hq5 => ?_
      rw [← vTxs_appX]
      have t5 := Same.new (o := HO.lst (vTxs (cs.take i ++ [y] ++ cs.drop i))) hq5
      have g5 := upd_same (H := H8) (a := q5) (o := HO.lst (vTxs (cs.take i ++ [y] ++ cs.drop i)))
      generalize upd H8 q5 (.lst (vTxs (cs.take i ++ [y] ++ cs.drop i))) = H9 at t5 g5 ⊢
      have t49 := (((t1.trans t2).trans t3).trans t4).trans t5
      refine rd_name ?_
      exact rest _ _ ⟨q5, _, _, rfl, g5, by rw [wtL_app, wtL_app, wtL_one]; omega, k04.same t49, hh4.same t49⟩
    rw [decide_eq_false w0]
    refine iteF ?_
    walk_at "rd"
    refine rEq_v rfl ?_
    rw [dec_int0]
    walk_at "rd"
    have iv : ixN (vTxs cs).length ((i : Nat) : Int) = some i := ixN_nat (by rw [vTxs_len]; exact hi)
    by_cases w1 : d3 = 1
    · rw [decide_eq_true w1]
      refine iteT ?_
      walk_at "rd"
      refine rIx_l (SqL.of f4) (v := .str (tx x)) (atI_nat (vTxs_some hx)) ?_
      walk_at "rd"
      refine rIx_l (SqL.of f4) (v := .str (tx y)) (atI_nat (vTxs_some hy)) ?_
      walk_at "rd"
      refine set_l f4 iv ?_
      rw [← vTxs_setX]
      walk_at "rd"
      refine set_l upd_same (ixN_nat (by rw [vTxs_len, List.length_set]; exact hj)) ?_
      rw [← vTxs_setX, upd_upd]
      exact rest _ _ ⟨p, _, _, rfl, upd_same, by rw [wtL_swap hx hy]; omega, k04.mut hp, hh4.mut nph npc⟩
    rw [decide_eq_false w1]
    refine iteF ?_
    walk_at "rd"
    refine rEq_v rfl ?_
    rw [dec_int0]
    walk_at "rd"
    by_cases w2 : d3 = 2
    · rw [decide_eq_true w2]
      refine iteT ?_
      walk_at "rd"
      refine rIx_l (SqL.of f4) (v := .str (tx x)) (atI_nat (vTxs_some hx)) ?_
      walk_at "rd"
      refine ⟨h, c, 4, rfl, hh4, by decide, by decide, fun H6 d4 h0 h1 k6 hh6 => ?_⟩
      have f6 := k6 _ _ f4 nph
      walk_at "rd"
      obtain ⟨v, hv, hvl⟩ := cutS_some x none (some d4)
      refine sl_s (l := x) (m := v) hv (by omega) ?_
      walk_at "rd"
      refine set_l f6 iv ?_
      rw [← vTxs_setX]
      have hws := wtL_set cs i v x hx
      exact rest _ _ ⟨p, _, _, rfl, upd_same, by omega, (k04.trans k6).mut hp, hh6.mut nph npc⟩
    rw [decide_eq_false w2]
    refine iteF ?_
    walk_at "rd"
    refine sl_l (SqL.of f4) fun q1 hq1 => ?_
    rw [cutV_to, ← vTxs_takeX]
    have t1 := Same.new (o := HO.lst (vTxs (cs.take i))) hq1
    have g1 := upd_same (H := H4) (a := q1) (o := HO.lst (vTxs (cs.take i)))
    generalize upd H4 q1 (.lst (vTxs (cs.take i))) = H5 at t1 g1 ⊢
    walk_at "rd"
    refine sl_l (SqL.of (t1 _ _ f4)) fun q2 hq2 => ?_
    rw [show ((i : Int) + 1) = ((i + 1 : Nat) : Int) from rfl, cutV_from, ← vTxs_dropX]
    have t2 := Same.new (o := HO.lst (vTxs (cs.drop (i + 1)))) hq2
    have g2 := upd_same (H := H5) (a := q2) (o := HO.lst (vTxs (cs.drop (i + 1))))
    generalize upd H5 q2 (.lst (vTxs (cs.drop (i + 1)))) = H6 at t2 g2 ⊢
    refine rAdd_l (t2 _ _ g1) g2 (by rw [vTxs_len, vTxs_len, List.length_take, List.length_drop]; omega) fun q3 hq3 => ?_
    rw [← vTxs_appX]
    have t3 := Same.new (o := HO.lst (vTxs (cs.take i ++ cs.drop (i + 1)))) hq3
    have g3 := upd_same (H := H6) (a := q3) (o := HO.lst (vTxs (cs.take i ++ cs.drop (i + 1))))
    generalize upd H6 q3 (.lst (vTxs (cs.take i ++ cs.drop (i + 1)))) = H7 at t3 g3 ⊢
    have t47 := (t1.trans t2).trans t3
    refine rd_name ?_
    exact rest _ _ ⟨q3, _, _, rfl, g3, by rw [wtL_app]; omega, k04.same t47, hh4.same t47⟩
def chg10 : List Nat := [97, 98, 88, 89, 32, 10, 90, 122, 49, 95]
def ws4 : List (List Nat) := [[10], [32], [], [32, 97, 88, 97, 88]]
theorem ok_Lchanged (T : Txt K mg) : FnOk P w K mg base (L2.CX P w) 3 T.f_Lchanged T.fd_Lchanged ["_law_hand_here", "_law_text"] sp_Lchg := by
  refine T.F_Lchanged.okX sc_Lchanged (fun vs H Q E h => ?_) (fun cdv A outer s H vs Q E hr h => ?_)
  · obtain ⟨_, _, _, rfl, _⟩ := h
    rfl
  · obtain ⟨h, c, l, rfl, hh, hz, k⟩ := h
    refine ⟨_, (pss_cons (ps_set (i := 2) sc_Lchanged.nd rfl (by first | exact Or.inl rfl | exact Or.inr rfl) (pe_callS (ok_Ldraw T) (hr.mono (by decide)) rfl T.mg_Ldraw T.kp_Ldraw T.bd_Ldraw (fun σ => passAt (takes_of rfl rfl rfl rfl) σ) (pa_cons (pv 0) (pa_cons pe_int pa_nil))))
  (pss_cons (ps_set (i := 3) sc_Lchanged.nd rfl (by first | exact Or.inl rfl | exact Or.inr rfl) (pe_callS (ok_Ldraw T) (hr.mono (by decide)) rfl T.mg_Ldraw T.kp_Ldraw T.bd_Ldraw (fun σ => passAt (takes_of rfl rfl rfl rfl) σ) (pa_cons (pv 0) (pa_cons (pe_op op_addA (pe_callB (call_lenK (K := K) rfl) (by rfl) T.b_len boot_len (pa_cons (pv 1) pa_nil)) pe_int) pa_nil))))
  (pss_cons (ps_set (i := 4) sc_Lchanged.nd rfl (by first | exact Or.inl rfl | exact Or.inr rfl) (pe_ix (ix_seqK (K := K) rfl) pe_str (pe_callS (ok_Ldraw T) (hr.mono (by decide)) rfl T.mg_Ldraw T.kp_Ldraw T.bd_Ldraw (fun σ => passAt (takes_of rfl rfl rfl rfl) σ) (pa_cons (pv 0) (pa_cons pe_int pa_nil))) (fun _ _ => rfl)))
  (pss_cons (ps_if (pt_cmpR op_eq (pv 2) pe_int (nomark _))
  (pss_one (ps_ret (pe_op op_addA (pe_op op_addA (pe_slice (sl_anyK (K := K) rfl) (pv 1) po_none (po_some (pv 3))) (pv 4)) (pe_slice (sl_anyK (K := K) rfl) (pv 1) (po_some (pv 3)) po_none))))
  pss_nil)
  (pss_cons (ps_if (pt_cmpR op_eq (pv 2) pe_int (nomark _))
  (pss_one (ps_ret (pe_op op_addA (pe_slice (sl_anyK (K := K) rfl) (pv 1) po_none (po_some (pv 3))) (pe_slice (sl_anyK (K := K) rfl) (pv 1) (po_some (pe_op op_addA (pv 3) pe_int)) po_none))))
  pss_nil)
  (pss_cons (ps_if (pt_cmpR op_eq (pv 2) pe_int (nomark _))
  (pss_one (ps_ret (pe_op op_addA (pe_op op_addA (pe_slice (sl_anyK (K := K) rfl) (pv 1) po_none (po_some (pv 3))) (pv 4)) (pe_slice (sl_anyK (K := K) rfl) (pv 1) (po_some (pe_op op_addA (pv 3) pe_int)) po_none))))
  pss_nil)
  (pss_cons (ps_if (pt_cmpR op_eq (pv 2) pe_int (nomark _))
  (pss_one (ps_ret (pe_callS (ok_Llines_changed T) (hr.mono (by decide)) rfl T.mg_Llines_changed T.kp_Llines_changed T.bd_Llines_changed (fun σ => passAt (takes_of rfl rfl rfl rfl) σ) (pa_cons (pv 0) (pa_cons (pv 1) pa_nil)))))
  pss_nil)
  (pss_cons (ps_if (pt_cmpR op_eq (pv 2) pe_int (nomark _))
  (pss_one (ps_ret (pe_callS (ok_Lwords_changed T) (hr.mono (by decide)) rfl T.mg_Lwords_changed T.kp_Lwords_changed T.bd_Lwords_changed (fun σ => passAt (takes_of rfl rfl rfl rfl) σ) (pa_cons (pv 0) (pa_cons (pv 1) pa_nil)))))
  pss_nil)
  (pss_one (ps_ret (pe_op op_addA (pv 1) (pe_ix (ix_seqK (K := K) rfl) (pe_lst (pa_cons pe_str (pa_cons pe_str (pa_cons pe_str (pa_cons pe_str pa_nil))))) (pe_callS (ok_Ldraw T) (hr.mono (by decide)) rfl T.mg_Ldraw T.kp_Ldraw T.bd_Ldraw (fun σ => passAt (takes_of rfl rfl rfl rfl) σ) (pa_cons (pv 0) (pa_cons pe_int pa_nil))) (fun _ _ => rfl))))))))))))), ?_⟩
    rw [show (Str.ofString "abXY \nZz1_") = tx chg10 from by decide +kernel, show (Str.ofString "\n") = tx [10] from by decide +kernel, show (Str.ofString " ") = tx [32] from by decide +kernel, empty_tx, show (Str.ofString " aXaX") = tx [32, 97, 88, 97, 88] from by decide +kernel]
    walk_at "rd"
    refine ⟨h, c, 6, rfl, hh, by decide, by decide, fun H2 d1 _ _ k2 hh2 => ?_⟩
    walk_at "rd"
    refine len_s (l := l) (by omega) ?_
    walk_at "rd"
    rw [show ((l.length : Nat) : Int) + 1 = ((l.length + 1 : Nat) : Int) from rfl]
    refine ⟨h, c, _, rfl, hh2, by omega, log9 (by omega), fun H3 d2 h0 h1 k3 hh3 => ?_⟩
    obtain ⟨i, rfl, hi⟩ := nat_of h0 h1
    walk_at "rd"
    refine ⟨h, c, 10, rfl, hh3, by decide, by decide, fun H4 d3 h0 h1 k4 hh4 => ?_⟩
    obtain ⟨n, rfl, hn⟩ := nat_of (n := 10) h0 h1
    have hn10 : n < chg10.length := hn
    obtain ⟨u, hu⟩ : ∃ u, chg10[n]? = some u := ⟨_, List.getElem?_eq_getElem hn10⟩
    refine rIx_s (l := chg10) (by decide) (c := u) (atI_nat hu) ?_
    have k04 := (k2.trans k3).trans k4
    refine rd_name ?_
    with_reducible refine rd_nx ?_
    refine rd_st (σ' := [some (.ref h), some (.str (tx l)), some (.int d1), some (.int (i : Nat)), some (.str (tx [u]))]) rfl ?_
    walk_at "rd"
    refine rEq_v rfl ?_
    rw [dec_int0]
    walk_at "rd"
    by_cases w0 : d1 = 0
    · rw [decide_eq_true w0]
      refine iteT ?_
      walk_at "rd"
      refine sl_s (l := l) (m := l.take i) (cutS_to l i) (by omega) ?_
      walk_at "rd"
      refine rAdd_s (by rw [List.length_take]; show _ + 1 ≤ _; omega) ?_
      walk_at "rd"
      refine sl_s (l := l) (m := l.drop i) (cutS_from l i) (by omega) ?_
      refine rAdd_s (by rw [List.length_append, List.length_take, List.length_drop]; show _ + 1 + _ ≤ _; omega) ?_
      exact k H4 _ (by rw [List.length_append, List.length_append, List.length_take, List.length_drop]; show _ + 1 + _ ≤ _; omega) k04 hh4
    rw [decide_eq_false w0]
    refine iteF ?_
    walk_at "rd"
    refine rEq_v rfl ?_
    rw [dec_int0]
    walk_at "rd"
    by_cases w1 : d1 = 1
    · rw [decide_eq_true w1]
      refine iteT ?_
      walk_at "rd"
      refine sl_s (l := l) (m := l.take i) (cutS_to l i) (by omega) ?_
      walk_at "rd"
      refine sl_s (l := l) (m := l.drop (i + 1)) (cutS_from l (i + 1)) (by omega) ?_
      refine rAdd_s (by rw [List.length_take, List.length_drop]; omega) ?_
      exact k H4 _ (by rw [List.length_append, List.length_take, List.length_drop]; omega) k04 hh4
    rw [decide_eq_false w1]
    refine iteF ?_
    walk_at "rd"
    refine rEq_v rfl ?_
    rw [dec_int0]
    walk_at "rd"
    by_cases w2 : d1 = 2
    · rw [decide_eq_true w2]
      refine iteT ?_
      walk_at "rd"
      refine sl_s (l := l) (m := l.take i) (cutS_to l i) (by omega) ?_
      walk_at "rd"
      refine rAdd_s (by rw [List.length_take]; show _ + 1 ≤ _; omega) ?_
      walk_at "rd"
      refine sl_s (l := l) (m := l.drop (i + 1)) (cutS_from l (i + 1)) (by omega) ?_
      refine rAdd_s (by rw [List.length_append, List.length_take, List.length_drop]; show _ + 1 + _ ≤ _; omega) ?_
      exact k H4 _ (by rw [List.length_append, List.length_append, List.length_take, List.length_drop]; show _ + 1 + _ ≤ _; omega) k04 hh4
    rw [decide_eq_false w2]
    refine iteF ?_
    walk_at "rd"
    refine rEq_v rfl ?_
    rw [dec_int0]
    walk_at "rd"
    by_cases w3 : d1 = 3
    · rw [decide_eq_true w3]
      refine iteT ?_
      walk_at "rd"
      exact ⟨h, c, l, rfl, hh4, hz, fun H5 m hm k5 hh5 => k H5 m hm (k04.trans k5) hh5⟩
    rw [decide_eq_false w3]
    refine iteF ?_
    walk_at "rd"
    refine rEq_v rfl ?_
    rw [dec_int0]
    walk_at "rd"
    by_cases w4 : d1 = 4
    · rw [decide_eq_true w4]
      refine iteT ?_
      walk_at "rd"
      exact ⟨h, c, l, rfl, hh4, hz, fun H5 m hm k5 hh5 => k H5 m hm (k04.trans k5) hh5⟩
    rw [decide_eq_false w4]
    refine iteF ?_
    walk_at "rd"
    refine rd_lst ?_
    walk_at "rd"
    refine ⟨by show 4 ≤ sizeLine; decide, fun q1 hq1 => ?_⟩
    have t1 := Same.new (o := HO.lst (vTxs ws4)) hq1
    have g1 := upd_same (H := H4) (a := q1) (o := HO.lst (vTxs ws4))
    have nqh := (hh4.out hq1).1
    have hh5 := hh4.same t1
    generalize hG : upd H4 q1 _ = H5
    have eG : H5 = upd H4 q1 (.lst (vTxs ws4)) := hG.symm
    rw [← eG] at t1 g1 hh5
    walk_at "rd"
    refine ⟨h, c, 4, rfl, hh5, by decide, by decide, fun H6 d4 h0 h1 k6 hh6 => ?_⟩
    obtain ⟨n2, rfl, hn2⟩ := nat_of (n := 4) h0 h1
    have hn4 : n2 < ws4.length := hn2
    obtain ⟨u2, hu2⟩ : ∃ u2, ws4[n2]? = some u2 := ⟨_, List.getElem?_eq_getElem hn4⟩
    have hu8 : u2.length ≤ 5 := (show ∀ u ∈ ws4, u.length ≤ 5 by decide) u2 (List.mem_of_getElem? hu2)
    refine rIx_l (SqL.of (k6 _ _ g1 nqh)) (v := .str (tx u2)) (atI_nat (vTxs_some hu2)) ?_
    refine rAdd_s (by omega) ?_
    exact k H6 _ (by rw [List.length_append]; omega) ((k04.same t1).trans k6) hh6
end

section
variable {P : Program} {w : World} {K : PySem.W.Frag} {mg : Str → Option Value} {base : Heap}
theorem mem_lowers {c : Nat} (h : c ∈ lowers) : 97 ≤ c ∧ c ≤ 122 := by
  unfold lowers at h
  obtain ⟨i, hi, rfl⟩ := List.mem_map.mp h
  have := List.mem_range.mp hi
  omega
theorem mem_uppers {c : Nat} (h : c ∈ uppers) : 65 ≤ c ∧ c ≤ 90 := by
  unfold uppers at h
  obtain ⟨i, hi, rfl⟩ := List.mem_map.mp h
  have := List.mem_range.mp hi
  omega
structure Lets (gv sd : List Nat) : Prop where
  gl : ∀ c ∈ gv, 97 ≤ c ∧ c ≤ 122
  su : ∀ c ∈ sd, 65 ≤ c ∧ c ≤ 90
  g3 : gv.length ≤ 3
  s4 : sd.length ≤ 4
  g0 : gv ≠ []
  s0 : sd ≠ []
theorem Parts.lets {gv sd : List Nat} {ps : List (List Nat)} (p : Parts gv sd ps) : Lets gv sd := by
  obtain ⟨a1, a2, a3, a4⟩ := p.hg
  obtain ⟨b1, b2, b3, b4⟩ := p.hs
  exact ⟨fun c h => mem_lowers (a1 c h), fun c h => mem_uppers (b1 c h), by omega, by omega, fun e => (by rw [e] at a2; simp at a2), fun e => (by rw [e] at b2; simp at b2)⟩
theorem IsWish.keep {C : Addr} {H H' : Hp} {x p c : Addr} {gv sd : List Nat} {ps : List (List Nat)} (hw : IsWish C H x gv sd ps) (hh : HandAt H p c) (k : Keep1 p H H') : IsWish C H' x gv sd ps := by
  obtain ⟨cl, al, pl, ⟨dx, kd, h1⟩, h2, h3, h4⟩ := hw
  obtain ⟨ns, i, r, s, k0, v⟩ := hh
  have nl : ∀ (b : Addr) (cs : List (List Nat)), H b = some (.lst (cs.map fun c => V.str (tx c))) → b ≠ p := fun b cs e1 e2 => by
    rw [e2, v.hh] at e1
    have := HO.lst.inj (Option.some.inj e1)
    cases cs with
    | nil => cases this
    | cons a r => cases this
  refine ⟨cl, al, pl, ⟨dx, kd, k _ _ h1 fun e => ?_⟩, k _ _ h2 (nl _ _ h2), k _ _ h3 fun e => ?_, k _ _ h4 (nl _ _ h4)⟩
  · rw [e, v.hh] at h1
    cases h1
  · rw [e, v.hh] at h3
    cases h3
theorem okTx_of {l : List Nat} (h : ∀ c ∈ l, c < 1114112) : okTx l := by
  show (tx l).cps.all (· < 0x110000) = true
  rw [Array.all_eq_true]
  intro i hi
  have hi' : i < l.length := by
    have := tx_size l
    omega
  exact decide_eq_true (show l[i] < 0x110000 from h _ (List.getElem_mem hi'))
end

section
variable {P : Program} {w : World} {K : PySem.W.Frag} {mg : Str → Option Value} {base : Heap}
/-! ### what comes of reading -/
theorem kit_subB {X : Addr} {n : String} {b : Bool} (hm : PySem.W.kitMeta n = true) (h : PySem.W.subIn K (.ref X) (.type n) = some b) : PySem.W.kitOne K (.ref X) (.type n) = some b := by
  unfold PySem.W.kitOne
  rw [if_neg (by simp)]
  show (if PySem.W.kitMeta n = true then PySem.W.subIn K (.ref X) (.type n) else none) = some b
  rw [if_pos hm]
  exact h
theorem NewK.mono {C : Addr} {H H1 H2 : Hp} {w : Addr} {gv sd : List Nat} {ps : List (List Nat)} {kd : Addr} (h : NewK C H H1 w gv sd ps kd) (s : Same H1 H2) : NewK C H H2 w gv sd ps kd := by
  obtain ⟨cl, al, pl, W, n1, n2, n3, n4, m1, m2, m3, m4, m5⟩ := h
  exact ⟨cl, al, pl, ⟨W.ob.elim fun dx h => ⟨dx, s _ _ h⟩, s _ _ W.ce, s _ _ W.alw, s _ _ W.pr, W.ne⟩, n1, n2, n3, n4, m1, m2, m3, m4, s _ _ m5⟩
theorem NewK.back {C : Addr} {H0 H H1 : Hp} {w : Addr} {gv sd : List Nat} {ps : List (List Nat)} {kd : Addr} (h : NewK C H H1 w gv sd ps kd) (s : Same H0 H) : NewK C H0 H1 w gv sd ps kd := by
  obtain ⟨cl, al, pl, W, n1, n2, n3, n4, m⟩ := h
  exact ⟨cl, al, pl, W, s.free n1, s.free n2, s.free n3, s.free n4, m⟩
theorem NewK.is {C : Addr} {H H1 : Hp} {w : Addr} {gv sd : List Nat} {ps : List (List Nat)} {kd : Addr} (h : NewK C H H1 w gv sd ps kd) : IsWish C H1 w gv sd ps := by
  obtain ⟨cl, al, pl, W, _⟩ := h
  exact ⟨cl, al, pl, ⟨W.ob.elim fun dx h => ⟨dx, kd, h⟩, W.ce, W.alw, W.pr⟩⟩
theorem notext_same {H H1 : Hp} {v : V} (h : NoText K H v) (s : Same H H1) : NoText K H1 v := h.mono s
/-- what is read: a good text, or a bad one, or no text -/
def BadT (K : PySem.W.Frag) (H : Hp) (v : V) : Prop := NoText K H v ∨ ∃ l, v = .str (tx l) ∧ l.length ≤ 12000 ∧ ∀ gv sd Ps, GoodT gv sd Ps → l ≠ txtOf gv sd Ps
def sp_Lread (K : PySem.W.Frag) (C : Addr) : Sp := fun vs H Q _ => ∃ v, vs = [v] ∧ ((BadT K H v ∧ ∀ p H', H p = none → Same H H' → H' p = some (.tup [.str "text", .bl true]) → Q (.ref p) H') ∨
  ∃ gv sd Ps, GoodT gv sd Ps ∧ v = .str (tx (txtOf gv sd Ps)) ∧ (txtOf gv sd Ps).length ≤ 12000 ∧ ∀ p x H' kd, H p = none → H x = none → Same H H' → NewK C H H' x gv sd Ps kd → H' p = some (.tup [.str "wish", .ref x]) → Q (.ref p) H')
theorem ok_Lread (T : Txt K mg) : FnOk P w K mg base (L2.CX P w) 8 T.f_Lread T.fd_Lread ["_law_text"] (sp_Lread K T.C_Wish) := by
  refine T.F_Lread.okX sc_Lread (fun vs H Q E h => ?_) (fun cdv A outer s H vs Q E hr h => ?_)
  · obtain ⟨_, rfl, _⟩ := h
    rfl
  · obtain ⟨v, rfl, h⟩ := h
    refine ⟨_, (pss_cons (ps_set (i := 1) sc_Lread.nd rfl (by first | exact Or.inl rfl | exact Or.inr rfl) (pe_tup (pa_cons pe_str (pa_cons pe_non pa_nil))))
  (pss_cons (ps_try_as (i := 2) rfl rfl sc_Lread.nd rfl rfl ⟨rfl, by decide, .inl T.mg_NoText⟩ (takes_of rfl rfl rfl rfl) (fun _ _ _ tk1 hp1 => (pss_one (ps_set (i := 1) sc_Lread.nd rfl (by first | exact Or.inl rfl | exact Or.inr rfl) (pe_tup (pa_cons pe_str (pa_cons (pe_callS (ok_read_wish T) (hr.mono (by decide)) rfl T.mg_read_wish T.kp_read_wish T.bd_read_wish (fun σ => passAt tk1 σ) (pa_cons (pv 0) pa_nil)) pa_nil))))))
  (fun _ _ _ _ _ hz hf => (pss_one (ps_set (i := 1) sc_Lread.nd rfl (by first | exact Or.inl rfl | exact Or.inr rfl) (pe_tup (pa_cons pe_str (pa_cons (pe_and (pe_callB (call_isEx (K := K) rfl hz hf) (by rfl) T.b_isinstance boot_isinstance (pa_cons (pv 2) (pa_cons (pe_glob (v := .ref T.X_NearError) rfl T.mg_NearError rfl) pa_nil))) (pe_one (pe_callB (call_isEx (K := K) rfl hz hf) (by rfl) T.b_isinstance boot_isinstance (pa_cons (pv 2) (pa_cons (pe_bltn (v := .ty "ValueError") rfl T.b_ValueError boot_ValueError rfl) pa_nil))))) pa_nil)))))))
  (pss_one (ps_ret (pv 1))))), ?_⟩
    refine rd_seq (rd_asg (rd_tup ?_))
    walk_at "rd"
    refine ⟨by show 2 ≤ sizeLine; decide, fun p0 hp0 => ?_⟩
    have s0 : Same H (upd H p0 (.tup [.str "nothing", .non])) := Same.new hp0
    generalize upd H p0 (.tup [.str "nothing", .non]) = H0 at *
    refine rd_name ?_
    with_reducible refine rd_nx ?_
    walk_at "rd"
    refine rd_tup ?_
    walk_at "rd"
    refine ⟨v, rfl, ?_⟩
    rcases h with ⟨hb, k⟩ | ⟨gv, sd, Ps, g, rfl, hz, k⟩
    · have fin : ∀ H1, Same H0 H1 → ∀ p, H1 p = none → Q (.ref p) (upd H1 p (.tup [.str "text", .bl true])) := fun H1 s1 p hp => k p _ ((s0.trans s1).free hp) ((s0.trans s1).trans (Same.new hp)) upd_same
      rcases hb with hn | ⟨l, rfl, hz, hno⟩
      · refine .inl ⟨hn.mono s0, fun H1 s1 => ?_⟩
        refine as_hit T.xm_NoText_NoText fun e he => ?_
        refine rd_asg (rd_tup ?_)
        walk_at "rd"
        refine ⟨_, _, _, true, rfl, rfl, T.ec_NoText, rfl, fun u hu => hu, T.ki_NoText_NearError, ?_⟩
        refine ⟨true, rfl, iteT ?_⟩
        walk_at "rd"
        refine ⟨_, _, _, true, rfl, rfl, T.ec_NoText, rfl, fun u hu => hu, kit_subB (by decide +kernel) T.ve_NoText, ?_⟩
        walk_at "rd"
        refine ⟨by show 2 ≤ sizeLine; decide, fun p hp => ?_⟩
        refine rd_name ?_
        walk_at "rd"
        exact fin H1 s1 p hp
      · refine .inr ⟨l, rfl, hz, fun gv sd Ps g e => absurd e (hno gv sd Ps g), fun _ H1 s1 => ?_⟩
        refine as_hit T.xm_NoText_NoText fun e he => ?_
        refine rd_asg (rd_tup ?_)
        walk_at "rd"
        refine ⟨_, _, _, true, rfl, rfl, T.ec_NoText, rfl, fun u hu => hu, T.ki_NoText_NearError, ?_⟩
        refine ⟨true, rfl, iteT ?_⟩
        walk_at "rd"
        refine ⟨_, _, _, true, rfl, rfl, T.ec_NoText, rfl, fun u hu => hu, kit_subB (by decide +kernel) T.ve_NoText, ?_⟩
        walk_at "rd"
        refine ⟨by show 2 ≤ sizeLine; decide, fun p hp => ?_⟩
        refine rd_name ?_
        walk_at "rd"
        exact fin H1 s1 p hp
    · refine .inr ⟨_, rfl, hz, fun gv' sd' Ps' g' e x H1 kd hx s1 hw => ?_, fun hno => absurd rfl (hno gv sd Ps g)⟩
      obtain ⟨rfl, rfl, rfl⟩ := txt_inj g g' e
      walk_at "rd"
      refine ⟨by show 2 ≤ sizeLine; decide, fun p hp => ?_⟩
      refine rd_name ?_
      walk_at "rd"
      have s01 := s0.trans s1
      exact k p x _ kd (s01.free hp) (s0.free hx) (s01.trans (Same.new hp)) ((hw.back s0).mono (Same.new hp)) upd_same
/-! ### it is right -/
def dTri (t : List Nat × List Nat × List (List Nat)) : PyData := .tuple [dTx t.1, dTx t.2.1, dList dTx t.2.2]
theorem item_tri : Item dTri 4 (fun t => okTx t.1 ∧ okTx t.2.1 ∧ okAll okTx t.2.2) := by
  have I := item_list item_tx
  refine ⟨fun a h => ?_, fun a => ?_, fun a b => ?_⟩
  · simp only [dTri, PyData.canLay0, PyData.canLayAll0, Bool.and_eq_true]
    exact ⟨item_tx.lay _ h.1, item_tx.lay _ h.2.1, I.lay _ h.2.2, trivial⟩
  · have h1 := item_tx.dep a.1
    have h2 := item_tx.dep a.2.1
    have h3 := I.dep a.2.2
    simp only [dTri, PyData.depth, PyData.depthAll]
    omega
  · simp only [dTri, PyData.eqv, PyData.eqvAll, Bool.and_eq_true, item_tx.eqv, I.eqv]
    constructor
    · rintro ⟨h1, h2, h3, _⟩
      exact Prod.ext h1 (Prod.ext h2 h3)
    · rintro rfl
      exact ⟨rfl, rfl, rfl, trivial⟩
theorem dp_tri {H : Hp} {p q : Addr} {gv sd : List Nat} {ps : List (List Nat)} (h : H p = some (.tup [.str (tx gv), .str (tx sd), .ref q])) (hq : H q = some (.lst (vTxs ps))) : Dp K H (.ref p) (dTri (gv, sd, ps)) :=
  .tup (SqT.of h) (.cons (.str _) (.cons (.str _) (.cons (dp_txs (SqL.of hq)) .nil)))
theorem good_okTx {gv sd : List Nat} {Ps : List (List Nat)} (g : GoodT gv sd Ps) : okTx gv ∧ okTx sd ∧ okAll okTx Ps := by
  refine ⟨okTx_of fun c h => ?_, okTx_of fun c h => ?_, fun x hx => okTx_of fun c h => ?_⟩
  · have := low_rng (g.hg.1 c h)
    omega
  · have := upp_rng (g.hs.1 c h)
    omega
  · obtain ⟨a, b, d, e, rfl, h1, h2, h3, h4⟩ := g.ok x hx
    have l1 := low_rng (g.hg.1 _ h1)
    have l2 := low_rng (g.hg.1 _ h2)
    have u1 := upp_rng (g.hs.1 _ h3)
    have u2 := upp_rng (g.hs.1 _ h4)
    simp at h
    omega
theorem wish_tyX (T : Txt K mg) {H : Hp} {a : Addr} {gv sd : List Nat} {ps : List (List Nat)} (h : IsWish T.C_Wish H a gv sd ps) : TyOf K H (.ref a) (.ref T.C_Wish) := by
  obtain ⟨cl, al, pl, ⟨dx, kd, h1⟩, _⟩ := h
  exact .ins h1 T.cl_Wish T.oq_cl_Wish T.oq_gt_Wish T.oq_tk_Wish T.oq_mr_Wish
theorem txt_len {gv sd : List Nat} {Ps : List (List Nat)} (h4 : ∀ x ∈ Ps, x.length = 4) : (txtOf gv sd Ps).length = 18 + gv.length + sd.length + 5 * Ps.length := by
  have e : txtOf gv sd Ps = (wGiven ++ ([32] ++ gv)) ++ ([10] ++ ((wSaid ++ ([32] ++ sd)) ++ ([10] ++ TL.joinL [32] (wPairs :: Ps)))) := rfl
  rw [e, joinL_flat]
  simp only [List.length_append, flat5 h4]
  show 5 + (1 + gv.length) + (1 + (4 + (1 + sd.length) + (1 + (5 + 5 * Ps.length)))) = _
  omega
def sp_Lis_right (K : PySem.W.Frag) : Sp := fun vs H Q _ => ∃ v, vs = [v] ∧ (NoText K H v ∨ ∃ l, v = .str (tx l) ∧ l.length ≤ 12000) ∧ ∀ H', Same H H' → Q (.bl true) H'
theorem ok_Lis_right (T : Txt K mg) : FnOk P w K mg base (L2.CX P w) 9 T.f_Lis_right T.fd_Lis_right ["_law_text"] (sp_Lis_right K) := by
  refine T.F_Lis_right.okX sc_Lis_right (fun vs H Q E h => ?_) (fun cdv A outer s H vs Q E hr h => ?_)
  · obtain ⟨_, rfl, _⟩ := h
    rfl
  · obtain ⟨v, rfl, h, k⟩ := h
    refine ⟨_, (pss_cons (ps_set (i := 1) sc_Lis_right.nd rfl (by first | exact Or.inl rfl | exact Or.inr rfl) (pe_callS (ok_Ldue T) (hr.mono (by decide)) rfl T.mg_Ldue T.kp_Ldue T.bd_Ldue (fun σ => passAt (takes_of rfl rfl rfl rfl) σ) (pa_cons (pv 0) pa_nil)))
  (pss_cons (ps_asg (pe_callS (ok_Lread T) (hr.mono (by decide)) rfl T.mg_Lread T.kp_Lread T.bd_Lread (fun σ => passAt (takes_of rfl rfl rfl rfl) σ) (pa_cons (pv 0) pa_nil)) (pg_tupK (K := K) (n := 2) rfl rfl (pgs_cons (pg_name (i := 2) sc_Lis_right.nd rfl (by first | exact Or.inl rfl | exact Or.inr rfl)) (pgs_cons (pg_name (i := 3) sc_Lis_right.nd rfl (by first | exact Or.inl rfl | exact Or.inr rfl)) pgs_nil))))
  (pss_cons (ps_if (pt_cmpR op_isN (pv 1) pe_non (nomark _))
  (pss_one (ps_ret (pe_and (pe_cmpR op_eq (pv 2) pe_str (nomark _)) (pe_one (pe_cmpR op_is_bl (pv 3) pe_bl (nomark _))))))
  pss_nil)
  (pss_cons (ps_if (PW.pt (pw_or (pt_cmpR op_ne (pv 2) pe_str (nomark _)) (pw_or1 (pt_not (pt_val (pe_callB (call_isiK1 (K := K) rfl) (by rfl) T.b_isinstance boot_isinstance (pa_cons (pv 3) (pa_cons (pe_glob (v := .ref T.C_Wish) rfl T.mg_Wish rfl) pa_nil))))))))
  (pss_one (ps_ret pe_bl))
  pss_nil)
  (pss_one (ps_ret (pe_and (pe_cmpR (op_eqDK (K := K) rfl (hu64 hr)) (pe_tup (pa_cons (pe_meth0 (pv 3) T.cl_Wish T.mt_Wish_given (ok_Wish_given T) (hr.mono (by decide)) T.bd_Wish_given .nil passL) (pa_cons (pe_meth0 (pv 3) T.cl_Wish T.mt_Wish_said (ok_Wish_said T) (hr.mono (by decide)) T.bd_Wish_said .nil passL) (pa_cons (pe_meth0 (pv 3) T.cl_Wish T.mt_Wish_pairs (ok_Wish_pairs T) (hr.mono (by decide)) T.bd_Wish_pairs .nil passL) pa_nil)))) (pv 1) (nomark _)) (pe_one (pe_cmpR op_eq (pe_callS (ok_wish_text T) (hr.mono (by decide)) rfl T.mg_wish_text T.kp_wish_text T.bd_wish_text (fun σ => passAt (takes_of rfl rfl rfl rfl) σ) (pa_cons (pv 3) pa_nil)) (pv 0) (nomark _)))))))))), ?_⟩
    walk_at "rd"
    by_cases hgood : ∃ gv sd Ps, GoodT gv sd Ps ∧ v = .str (tx (txtOf gv sd Ps))
    · obtain ⟨gv, sd, Ps, g, rfl⟩ := hgood
      have hz : (txtOf gv sd Ps).length ≤ 12000 := by
        rcases h with hn | ⟨l, e, hz⟩
        · exact (notext_str hn).elim
        · rw [tx_inj (V.str.inj e)]
          exact hz
      refine ⟨_, rfl, .inr ⟨_, rfl, hz, fun gv' sd' Ps' g' e p pa H1 hp hpa s1 f1 f1a => ?_, fun hno => absurd rfl (hno gv sd Ps g)⟩⟩
      obtain ⟨rfl, rfl, rfl⟩ := txt_inj g g' e
      refine rd_name ?_
      with_reducible refine rd_nx ?_
      refine rd_st (σ' := [some (.str (tx (txtOf gv sd Ps))), some (.ref p), none, none]) rfl ?_
      walk_at "rd"
      refine ⟨_, rfl, .inr ⟨gv, sd, Ps, g, rfl, hz, fun q x H2 kd hq hx s2 hw f2 => ?_⟩⟩
      have s02 := s1.trans s2
      refine ⟨q, [.str "wish", .ref x], rfl, SqT.of f2, rfl, _, _, rfl, _, _, rfl, rfl, ?_⟩
      refine rd_st (σ' := [some (.str (tx (txtOf gv sd Ps))), some (.ref p), some (.str "wish"), some (.ref x)]) rfl ?_
      have hiw := hw.is
      obtain ⟨dx, fs, a1, a2⟩ := hiw.me
      walk_at "rd"
      refine ⟨rfl, ?_⟩
      rw [decide_eq_false (show ¬ V.ref p = V.non from fun z => by cases z)]
      refine ⟨false, rfl, iteF ?_⟩
      walk_at "rd"
      refine rNe_v rfl ?_
      rw [decide_eq_true rfl]
      refine ⟨false, rfl, iteF ?_⟩
      walk_at "rd"
      refine ⟨_, _, _, _, true, rfl, .own _, .base (wish_tyX T hiw), kit_self, ?_⟩
      walk_at "rd"
      refine iteF ?_
      walk_at "rd"
      refine rd_tup ?_
      walk_at "rd"
      refine ⟨x, dx, fs, rfl, a1, a2 _ (by decide +kernel) (by decide +kernel) (by decide +kernel) (by decide +kernel) (by decide +kernel) (by decide +kernel), ?_⟩
      walk_at "rd"
      refine ⟨x, gv, sd, Ps, rfl, hiw, ?_⟩
      walk_at "rd"
      refine ⟨x, dx, fs, rfl, a1, a2 _ (by decide +kernel) (by decide +kernel) (by decide +kernel) (by decide +kernel) (by decide +kernel) (by decide +kernel), ?_⟩
      walk_at "rd"
      refine ⟨x, gv, sd, Ps, rfl, hiw, ?_⟩
      walk_at "rd"
      refine ⟨x, dx, fs, rfl, a1, a2 _ (by decide +kernel) (by decide +kernel) (by decide +kernel) (by decide +kernel) (by decide +kernel) (by decide +kernel), ?_⟩
      walk_at "rd"
      refine ⟨x, gv, sd, Ps, rfl, hiw, fun q2 H3 hq2 s3 f3 => ?_⟩
      walk_at "rd"
      refine ⟨by show 3 ≤ sizeLine; decide, fun q3 hq3 => ?_⟩
      have s4 := Same.new (o := HO.tup [V.str (tx gv), V.str (tx sd), V.ref q2]) hq3
      have f4 := upd_same (H := H3) (a := q3) (o := HO.tup [V.str (tx gv), V.str (tx sd), V.ref q2])
      generalize upd H3 q3 (.tup [.str (tx gv), .str (tx sd), .ref q2]) = H4 at s4 f4 ⊢
      have s24 := s3.trans s4
      have f3' := s4 _ _ f3
      rw [g.hp] at f3'
      walk_at "rd"
      have hok := good_okTx g
      refine eqD_of item_tri (by decide) (a := (gv, sd, Ps)) (b := (gv, sd, Ps)) hok hok (dp_tri f4 f3') (dp_tri (s24 _ _ (s2 _ _ f1)) (s24 _ _ (s2 _ _ f1a))) ?_
      rw [decide_eq_true rfl]
      refine ⟨true, rfl, iteT ?_⟩
      walk_at "rd"
      have hg1 := g.hg.2.2.1
      have hg2 := g.hs.2.2.1
      refine ⟨x, gv, sd, Ps, rfl, hiw.mono s24, by omega, by omega, ?_, fun H5 s5 => ?_⟩
      · rw [g.hp]
        have := txt_len (gv := gv) (sd := sd) g.four
        omega
      walk_at "rd"
      refine rEq_v rfl ?_
      rw [g.hp, decide_eq_true rfl]
      exact k H5 ((s02.trans s24).trans s5)
    · have hb : BadT K H v := by
        rcases h with hn | ⟨l, rfl, hz⟩
        · exact .inl hn
        · exact .inr ⟨l, rfl, hz, fun gv sd Ps g e => hgood ⟨gv, sd, Ps, g, by rw [e]⟩⟩
      have hbk : ∀ {H1 : Hp}, Same H H1 → BadT K H1 v := fun {H1} s => hb.imp (fun h => h.mono s) id
      refine ⟨v, rfl, ?_⟩
      rcases hb with hn | ⟨l, rfl, hz, hno⟩
      · refine .inl ⟨hn, fun H1 s1 => ?_⟩
        refine rd_name ?_
        with_reducible refine rd_nx ?_
        refine rd_st (σ' := [some v, some .non, none, none]) rfl ?_
        walk_at "rd"
        refine ⟨v, rfl, .inl ⟨hbk s1, fun q H2 hq s2 f2 => ?_⟩⟩
        refine ⟨q, [.str "text", .bl true], rfl, SqT.of f2, rfl, _, _, rfl, _, _, rfl, rfl, ?_⟩
        refine rd_st (σ' := [some v, some .non, some (.str "text"), some (.bl true)]) rfl ?_
        walk_at "rd"
        refine ⟨rfl, ?_⟩
        rw [decide_eq_true (show V.non = V.non from rfl)]
        refine ⟨true, rfl, iteT ?_⟩
        walk_at "rd"
        refine rEq_v rfl ?_
        rw [decide_eq_true rfl]
        refine ⟨true, rfl, iteT ?_⟩
        walk_at "rd"
        refine ⟨true, true, rfl, rfl, ?_⟩
        exact k H2 (s1.trans s2)
      · refine .inr ⟨l, rfl, hz, fun gv sd Ps g e => absurd e (hno gv sd Ps g), fun _ H1 s1 => ?_⟩
        refine rd_name ?_
        with_reducible refine rd_nx ?_
        refine rd_st (σ' := [some (.str (tx l)), some .non, none, none]) rfl ?_
        walk_at "rd"
        refine ⟨_, rfl, .inl ⟨hbk s1, fun q H2 hq s2 f2 => ?_⟩⟩
        refine ⟨q, [.str "text", .bl true], rfl, SqT.of f2, rfl, _, _, rfl, _, _, rfl, rfl, ?_⟩
        refine rd_st (σ' := [some (.str (tx l)), some .non, some (.str "text"), some (.bl true)]) rfl ?_
        walk_at "rd"
        refine ⟨rfl, ?_⟩
        rw [decide_eq_true (show V.non = V.non from rfl)]
        refine ⟨true, rfl, iteT ?_⟩
        walk_at "rd"
        refine rEq_v rfl ?_
        rw [decide_eq_true rfl]
        refine ⟨true, rfl, iteT ?_⟩
        walk_at "rd"
        refine ⟨true, true, rfl, rfl, ?_⟩
        exact k H2 (s1.trans s2)
end

section
variable {P : Program} {w : World} {K : PySem.W.Frag} {mg : Str → Option Value} {base : Heap}
theorem rd_dispK {σ : L2.St} {H : Hp} {Q : VK} {tk tv : TE} (h : ∀ p, H p = none → tk σ (upd H p (.dK [])) fun x H1 => tv σ H1 fun y H2 => H2 p = some (.dK []) ∧ ∃ kvs : List (Key × V), [(x, y)] = kvs.map (fun kv => (kV kv.1, kv.2)) ∧ kvs.length ≤ 15 ∧ Q (.ref p) (upd H2 p (.dK (mergeK [] kvs)))) : tDisp [(tk, tv)] σ H Q := h
def sp_law (K : PySem.W.Frag) : Sp := fun vs H Q _ => ∃ a, ∃ ns : List Int, vs = [.ref a] ∧ SqL K H a (ns.map V.int) ∧ ∀ H', Q (.bl true) H'
theorem ok_law (T : Txt K mg) : FnOk P w K mg base (L2.CX P w) 10 T.f_law T.fd_law ["_law_script"] (sp_law K) := by
  refine T.F_law.okX sc_law (fun vs H Q E h => ?_) (fun cdv A outer s H vs Q E hr h => ?_)
  · obtain ⟨_, _, rfl, _⟩ := h
    rfl
  · obtain ⟨a, ns, rfl, ha, k⟩ := h
    have hu := hu_of hr
    refine ⟨_, (pss_cons (ps_set (i := 1) sc_law.nd rfl (by first | exact Or.inl rfl | exact Or.inr rfl) (pe_callS (ok_Lhand T) (hr.mono (by decide)) rfl T.mg_Lhand T.kp_Lhand T.bd_Lhand (fun σ => passAt (takes_of rfl rfl rfl rfl) σ) (pa_cons (pv 0) pa_nil)))
  (pss_cons (ps_asg (pe_callS (ok_Lparts T) (hr.mono (by decide)) rfl T.mg_Lparts T.kp_Lparts T.bd_Lparts (fun σ => passAt (takes_of rfl rfl rfl rfl) σ) (pa_cons (pv 1) pa_nil)) (pg_tupK (K := K) (n := 3) rfl rfl (pgs_cons (pg_name (i := 2) sc_law.nd rfl (by first | exact Or.inl rfl | exact Or.inr rfl)) (pgs_cons (pg_name (i := 3) sc_law.nd rfl (by first | exact Or.inl rfl | exact Or.inr rfl)) (pgs_cons (pg_name (i := 4) sc_law.nd rfl (by first | exact Or.inl rfl | exact Or.inr rfl)) pgs_nil)))))
  (pss_cons (ps_set (i := 5) sc_law.nd rfl (by first | exact Or.inl rfl | exact Or.inr rfl) (pe_callS (ok_wish_text T) (hr.mono (by decide)) rfl T.mg_wish_text T.kp_wish_text T.bd_wish_text (fun σ => passAt (takes_of rfl rfl rfl rfl) σ) (pa_cons (pe_make T.mk_Wish (ok_Wish_init T) (hr.mono (by decide)) rfl T.mg_Wish T.bd_Wish_init .nil passL (pa_cons (pv 2) (pa_cons (pv 3) (pa_cons (pv 4) pa_nil)))) pa_nil)))
  (pss_cons (ps_if (PW.pt (pw_or (pt_not (pt_val (pe_callS (ok_Lis_right T) (hr.mono (by decide)) rfl T.mg_Lis_right T.kp_Lis_right T.bd_Lis_right (fun σ => passAt (takes_of rfl rfl rfl rfl) σ) (pa_cons (pv 5) pa_nil)))) (pw_or1 (pt_cmpR op_isN (pe_callS (ok_Ldue T) (hr.mono (by decide)) rfl T.mg_Ldue T.kp_Ldue T.bd_Ldue (fun σ => passAt (takes_of rfl rfl rfl rfl) σ) (pa_cons (pv 5) pa_nil)) pe_non (nomark _)))))
  (pss_one (ps_ret pe_bl))
  pss_nil)
  (pss_cons (ps_for (passes_of rfl) rfl (pi_range1 rfl T.b_range (pa_cons pe_int pa_nil)) (pg_name (i := 6) sc_law.nd rfl (by first | exact Or.inl rfl | exact Or.inr rfl))
  (pss_cons (ps_set (i := 7) sc_law.nd rfl (by first | exact Or.inl rfl | exact Or.inr rfl) (pv 5))
  (pss_cons (ps_for (passes_of rfl) rfl (pi_range1 rfl T.b_range (pa_cons (pe_op op_addA pe_int (pe_callS (ok_Ldraw T) (hr.mono (by decide)) rfl T.mg_Ldraw T.kp_Ldraw T.bd_Ldraw (fun σ => passAt (takes_of rfl rfl rfl rfl) σ) (pa_cons (pv 1) (pa_cons pe_int pa_nil)))) pa_nil)) (pg_name (i := 8) sc_law.nd rfl (by first | exact Or.inl rfl | exact Or.inr rfl))
  (pss_one (ps_set (i := 7) sc_law.nd rfl (by first | exact Or.inl rfl | exact Or.inr rfl) (pe_callS (ok_Lchanged T) (hr.mono (by decide)) rfl T.mg_Lchanged T.kp_Lchanged T.bd_Lchanged (fun σ => passAt (takes_of rfl rfl rfl rfl) σ) (pa_cons (pv 1) (pa_cons (pv 7) pa_nil))))))
  (pss_one (ps_if (pt_not (pt_val (pe_callS (ok_Lis_right T) (hr.mono (by decide)) rfl T.mg_Lis_right T.kp_Lis_right T.bd_Lis_right (fun σ => passAt (takes_of rfl rfl rfl rfl) σ) (pa_cons (pv 7) pa_nil))))
  (pss_one (ps_ret pe_bl))
  pss_nil)))))
  (pss_cons (ps_set (i := 9) sc_law.nd rfl (by first | exact Or.inl rfl | exact Or.inr rfl) (pe_ix (ix_seqK (K := K) rfl) (pe_lst (pa_cons pe_non (pa_cons pe_int (pa_cons pe_bl (pa_cons (pe_lst (pa_cons (pv 5) pa_nil)) (pa_cons (pe_tup (pa_cons (pv 5) pa_nil)) (pa_cons (pe_disp (pps_cons (pv 5) pe_int pps_nil) rfl rfl (by simp) (by decide)) (pa_cons (pe_make T.mk_Wish (ok_Wish_init T) (hr.mono (by decide)) rfl T.mg_Wish T.bd_Wish_init .nil passL (pa_cons (pv 2) (pa_cons (pv 3) (pa_cons (pv 4) pa_nil)))) (pa_cons pe_str pa_nil))))))))) (pe_callS (ok_Ldraw T) (hr.mono (by decide)) rfl T.mg_Ldraw T.kp_Ldraw T.bd_Ldraw (fun σ => passAt (takes_of rfl rfl rfl rfl) σ) (pa_cons (pv 1) (pa_cons pe_int pa_nil))) (fun _ _ => rfl)))
  (pss_one (ps_ret (pe_callS (ok_Lis_right T) (hr.mono (by decide)) rfl T.mg_Lis_right T.kp_Lis_right T.bd_Lis_right (fun σ => passAt (takes_of rfl rfl rfl rfl) σ) (pa_cons (pv 9) pa_nil)))))))))), ?_⟩
    walk_at "rd"
    refine ⟨a, ns, rfl, ha, fun p c H1 hp hc s1 hh1 => ?_⟩
    walk_at "rd"
    refine ⟨p, c, rfl, hh1, fun pt H2 gv sd ps pa hpt k2 hh2 htp hpa hps PA => ?_⟩
    have npa : pa ≠ p := (hh1.out hpa).1
    refine ⟨pt, [.str (tx gv), .str (tx sd), .ref pa], rfl, SqT.of htp, rfl, .str (tx gv), [.str (tx sd), .ref pa], rfl, .str (tx sd), [.ref pa], rfl, .ref pa, [], rfl, rfl, ?_⟩
    have hg3 := PA.hg.2.2.1
    have hs4 := PA.hs.2.2.1
    have hps1 := PA.le
    have hg26 : OkDiff lowers 26 gv := ⟨PA.hg.1, PA.hg.2.1, by omega, PA.hg.2.2.2⟩
    have hs26 : OkDiff uppers 26 sd := ⟨PA.hs.1, PA.hs.2.1, by omega, PA.hs.2.2.2⟩
    have hgt := good_txt (ps := ps) hg26 hs26
    refine rd_st (σ' := [some (.ref a), some (.ref p), some (.str (tx gv)), some (.str (tx sd)), some (.ref pa), none, none, none, none, none]) rfl ?_
    walk_at "rd"
    intro x dx hx hdx hne
    refine ⟨x, dx, pa, gv, sd, ps, rfl, upd_same, by rw [upd_ne (ne_of_none hps hx)]; exact upd_keep hdx hps, by omega, by omega, by omega, PA.hg, PA.hs, PA.hp, PA.nd, fun H4 k4 hw => ⟨rfl, ?_⟩⟩
    have s4 : Same H2 H4 := fun b o e => k4 b o (by rw [upd_ne (ne_of_none e hx)]; exact upd_keep hdx e) (ne_of_none e hx)
    obtain ⟨kd, hw⟩ := hw
    have hiw := hw.is
    walk_at "rd"
    have hpl : (pairsOf gv sd ps).length ≤ 144 := by
      have h1 := pairs_few (gv := gv) (sd := sd) (ps := ps)
      have h2 : gv.length * sd.length ≤ 12 := Nat.mul_le_mul (show gv.length ≤ 3 by omega) (show sd.length ≤ 4 by omega)
      exact Nat.le_trans h1 (Nat.mul_le_mul h2 h2)
    refine ⟨x, gv, sd, ps, rfl, hiw, by omega, by omega, by omega, fun H5 s5 => ?_⟩
    have htl := txt_len (gv := gv) (sd := sd) hgt.four
    have s25 := s4.trans s5
    have hh5 := hh2.same s25
    have f5 := s25 _ _ hps
    generalize htx : txtOf gv sd (pairsOf gv sd ps) = t at htl ⊢
    refine rd_name ?_
    with_reducible refine rd_nx ?_
    refine rd_st (σ' := [some (.ref a), some (.ref p), some (.str (tx gv)), some (.str (tx sd)), some (.ref pa), some (.str (tx t)), none, none, none, none]) rfl ?_
    walk_at "rd"
    refine ⟨_, rfl, .inr ⟨t, rfl, by omega⟩, fun H6 s6 => ?_⟩
    walk_at "rd"
    refine iteF ?_
    walk_at "rd"
    refine ⟨_, rfl, .inr ⟨t, rfl, by omega, fun gv' sd' Ps' g' e q qa H7 hq hqa s7 f7 f7a => ?_, fun hno => absurd htx.symm (hno _ _ _ hgt)⟩⟩
    walk_at "rd"
    refine ⟨rfl, ?_⟩
    rw [decide_eq_false (show ¬ V.ref q = V.non from fun z => by cases z)]
    refine ⟨false, rfl, iteF ?_⟩
    have s27 := (s25.trans s6).trans s7
    have hh7 := hh2.same s27
    have f7p := s27 _ _ hps
    walk_at "rd"
    refine rd_rng (n := 6) (by omega) (Evl.ea_cons Evl.ev_c Evl.ea_nil) (fun i σ' H' => ∃ o6 o7 o8, σ' = [some (.ref a), some (.ref p), some (.str (tx gv)), some (.str (tx sd)), some (.ref pa), some (.str (tx t)), o6, o7, o8, none] ∧ Keep1 p H7 H' ∧ HandAt H' p c)
      (fun H8 s8 => ⟨none, none, none, rfl, Keep1.of s8, hh7.same s8⟩) (fun i σ' H' hi pv => ?_) (fun σ' H' pv => ?_)
    · obtain ⟨o6, o7, o8, rfl, kk, hhh⟩ := pv
      walk_at "rd"
      refine rd_seq (rd_for1 ?_)
      walk_at "rd"
      refine ⟨p, c, 3, rfl, hhh, by decide, by decide, fun H8 d h0 h1 k8 hh8 => ?_⟩
      obtain ⟨n, rfl, hn⟩ := nat_of (n := 3) h0 h1
      refine rAdd_i ?_
      walk_at "rd"
      rw [show (1 : Int) + (n : Int) = ((1 + n : Nat) : Int) from by omega]
      refine rng_at (n := 1 + n) (by omega) (fun j σ' H' => ∃ m o8, σ' = [some (.ref a), some (.ref p), some (.str (tx gv)), some (.str (tx sd)), some (.ref pa), some (.str (tx t)), some (.int (i : Nat)), some (.str (tx m)), o8, none] ∧ m.length + 20 ≤ 800 * 2 ^ j ∧ Keep1 p H7 H' ∧ HandAt H' p c)
        ⟨t, _, rfl, by omega, kk.trans k8, hh8⟩ (fun j σ' H' hj pv => ?_) (fun σ' H' pv => ?_)
      · obtain ⟨m, o8, rfl, hm, kk, hhh⟩ := pv
        have hp2 : 2 ^ j ≤ 8 := Nat.le_trans (Nat.pow_le_pow_right (by decide) (show j ≤ 3 by omega)) (by decide)
        walk_at "rd"
        refine ⟨p, c, m, rfl, hhh, by omega, fun H9 m2 hm2 k9 hh9 => ?_⟩
        refine ⟨m2, _, rfl, ?_, kk.trans k9, hh9⟩
        rw [Nat.pow_succ]
        omega
      · obtain ⟨m, o8, rfl, hm, kk, hhh⟩ := pv
        have hp2 : 2 ^ (1 + n) ≤ 8 := Nat.le_trans (Nat.pow_le_pow_right (by decide) (show 1 + n ≤ 3 by omega)) (by decide)
        walk_at "rd"
        refine ⟨_, rfl, .inr ⟨m, rfl, by omega⟩, fun H9 s9 => ?_⟩
        walk_at "rd"
        refine iteF ?_
        exact ⟨_, _, _, rfl, kk.same s9, hhh.same s9⟩
    · obtain ⟨o6, o7, o8, rfl, kk, hhh⟩ := pv
      have fp := kk _ _ f7p npa
      walk_at "rd"
      refine rd_st' (σ' := [some (.ref a), some (.ref p), some (.str (tx gv)), some (.str (tx sd)), some (.ref pa), some (.str (tx t)), o6, o7, o8, none]) rfl ?_
      refine rd_lst ?_
      walk_at "rd"
      refine rd_lst ?_
      walk_at "rd"
      refine ⟨by show 1 ≤ sizeLine; decide, fun q1 hq1 => ?_⟩
      have t1 := Same.new (o := HO.lst [V.str (tx t)]) hq1
      have g1 := upd_same (H := H') (a := q1) (o := HO.lst [V.str (tx t)])
      have nq1 := (hhh.out hq1).1
      generalize upd H' q1 (.lst [.str (tx t)]) = H8 at t1 g1 ⊢
      walk_at "rd"
      refine rd_tup ?_
      walk_at "rd"
      refine ⟨by show 1 ≤ sizeLine; decide, fun q2 hq2 => ?_⟩
      have t2 := Same.new (o := HO.tup [V.str (tx t)]) hq2
      have g2 := upd_same (H := H8) (a := q2) (o := HO.tup [V.str (tx t)])
      have nq2 := (hhh.out (t1.free hq2)).1
      generalize upd H8 q2 (.tup [.str (tx t)]) = H9 at t2 g2 ⊢
      have t12 := t1.trans t2
      walk_at "rd"
      refine rd_dispK fun q3 hq3 => ?_
      walk_at "rd"
      refine ⟨upd_same, [(.inr (tx t), .int 1)], rfl, by show 1 ≤ 15; decide, ?_⟩
      rw [upd_upd]
      have t3 := Same.new (o := HO.dK (mergeK [] [(Sum.inr (tx t), V.int 1)])) hq3
      have g3 := upd_same (H := H9) (a := q3) (o := HO.dK (mergeK [] [(Sum.inr (tx t), V.int 1)]))
      have nq3 := (hhh.out (t12.free hq3)).1
      generalize upd H9 q3 (.dK (mergeK [] [(Sum.inr (tx t), V.int 1)])) = H10 at t3 g3 ⊢
      have t13 := t12.trans t3
      walk_at "rd"
      intro x2 dx2 hx2 hdx2 hne2
      have fpa := t13 _ _ fp
      refine ⟨x2, dx2, pa, gv, sd, ps, rfl, upd_same, by rw [upd_ne (ne_of_none fpa hx2)]; exact upd_keep hdx2 fpa, by omega, by omega, by omega, PA.hg, PA.hs, PA.hp, PA.nd, fun H11 k11 hw2 => ⟨rfl, ?_⟩⟩
      have t11 : Same H10 H11 := fun b o e => k11 b o (by rw [upd_ne (ne_of_none e hx2)]; exact upd_keep hdx2 e) (ne_of_none e hx2)
      obtain ⟨kd2, hw2⟩ := hw2
      have hiw2 := hw2.is
      have nx2 := (hhh.out (t13.free hx2)).1
      have t0 := t13.trans t11
      rw [empty_tx]
      walk_at "rd"
      refine ⟨by show 8 ≤ sizeLine; decide, fun q4 hq4 => ?_⟩
      have t4 := Same.new (o := HO.lst [V.non, .int 0, .bl true, .ref q1, .ref q2, .ref q3, .ref x2, .str (tx [])]) hq4
      have g4 := upd_same (H := H11) (a := q4) (o := HO.lst [V.non, .int 0, .bl true, .ref q1, .ref q2, .ref q3, .ref x2, .str (tx [])])
      have nq4 := (hhh.out (t0.free hq4)).1
      generalize upd H11 q4 (.lst [V.non, .int 0, .bl true, .ref q1, .ref q2, .ref q3, .ref x2, .str (tx [])]) = H12 at t4 g4 ⊢
      have hh12 := hhh.same (t0.trans t4)
      have e1 := t4 _ _ (t11 _ _ (t3 _ _ (t2 _ _ g1)))
      have e2 := t4 _ _ (t11 _ _ (t3 _ _ g2))
      have e3 := t4 _ _ (t11 _ _ g3)
      have hiw3 := hiw2.mono t4
      walk_at "rd"
      refine ⟨p, c, 8, rfl, hh12, by decide, by decide, fun H13 d h0 h1 k13 hh13 => ?_⟩
      obtain ⟨n, rfl, hn⟩ := nat_of (n := 8) h0 h1
      have hiw4 := hiw3.keep hh12 k13
      obtain ⟨v, hv, hvk⟩ : ∃ v, [V.non, .int 0, .bl true, .ref q1, .ref q2, .ref q3, .ref x2, .str (tx [])][n]? = some v ∧ (NoText K H13 v ∨ ∃ l, v = .str (tx l) ∧ l.length ≤ 12000) := by
        have hd : n = 0 ∨ n = 1 ∨ n = 2 ∨ n = 3 ∨ n = 4 ∨ n = 5 ∨ n = 6 ∨ n = 7 := by omega
        rcases hd with rfl | rfl | rfl | rfl | rfl | rfl | rfl | rfl
        · exact ⟨_, rfl, .inl nt_non⟩
        · exact ⟨_, rfl, .inl nt_int⟩
        · exact ⟨_, rfl, .inl nt_bl⟩
        · exact ⟨_, rfl, .inl (nt_lst (k13 _ _ e1 nq1))⟩
        · exact ⟨_, rfl, .inl (nt_tup (k13 _ _ e2 nq2))⟩
        · exact ⟨_, rfl, .inl (nt_dK (k13 _ _ e3 nq3))⟩
        · exact ⟨_, rfl, .inl ⟨_, .base (wish_tyX T hiw4), kit_subB (by decide +kernel) T.sk_Wish_str⟩⟩
        · exact ⟨_, rfl, .inr ⟨[], rfl, Nat.zero_le _⟩⟩
      refine rIx_l (SqL.of (k13 _ _ g4 nq4)) (atI_nat hv) ?_
      refine rd_name ?_
      walk_at "rd"
      exact ⟨v, rfl, hvk, fun H14 _ => k H14⟩
end
theorem law_takes {K : PySem.W.Frag} {H : Hp} (a : Addr) (ns : List Int) (hl : ns.length ≤ 63) (hS : SqL K H a (ns.map V.int)) : sp_law K [.ref a] H (fun v _ => v = .bl true) fun _ _ _ => False := ⟨a, ns, rfl, hS, fun _ => rfl⟩

theorem all_mk {P : Program} {w : World} {K : PySem.W.Frag} {h : Heap} {mg : Str → Option Value} {fa : Addr} (X : K.In h) (G : h.Ns mainGlobals mg) (hfa : mg "law" = some (.ref fa))
    {tk_GIVEN_LETTERS : Tok}
    {tk_SAID_LETTERS : Tok}
    {tk_MOST_GIVEN : Tok}
    {tk_MOST_SAID : Tok}
    {C_Wish : Addr}
    {f_are_letters : Addr}
    {odare_letters anare_letters : Option Addr} {slare_letters : Array (Option Value)} {ocare_letters kVare_letters dcare_letters pmare_letters cdare_letters ctare_letters : Value}
    {f_are_different : Addr}
    {odare_different anare_different : Option Addr} {slare_different : Array (Option Value)} {ocare_different kVare_different dcare_different pmare_different cdare_different ctare_different : Value}
    {f_is_pair : Addr}
    {odis_pair anis_pair : Option Addr} {slis_pair : Array (Option Value)} {ocis_pair kVis_pair dcis_pair pmis_pair cdis_pair ctis_pair : Value}
    {f_are_pairs : Addr}
    {odare_pairs anare_pairs : Option Addr} {slare_pairs : Array (Option Value)} {ocare_pairs kVare_pairs dcare_pairs pmare_pairs cdare_pairs ctare_pairs : Value}
    {f_Wish_init : Addr}
    {odWish_init anWish_init : Option Addr} {slWish_init : Array (Option Value)} {ocWish_init kVWish_init dcWish_init pmWish_init cdWish_init ctWish_init : Value}
    {f_Wishfill : Addr}
    {odWishfill anWishfill : Option Addr} {slWishfill : Array (Option Value)} {ocWishfill kVWishfill dcWishfill pmWishfill cdWishfill ctWishfill : Value}
    {f_Wish_given : Addr}
    {odWish_given anWish_given : Option Addr} {slWish_given : Array (Option Value)} {ocWish_given kVWish_given dcWish_given pmWish_given cdWish_given ctWish_given : Value}
    {f_Wish_said : Addr}
    {odWish_said anWish_said : Option Addr} {slWish_said : Array (Option Value)} {ocWish_said kVWish_said dcWish_said pmWish_said cdWish_said ctWish_said : Value}
    {f_Wish_cells : Addr}
    {odWish_cells anWish_cells : Option Addr} {slWish_cells : Array (Option Value)} {ocWish_cells kVWish_cells dcWish_cells pmWish_cells cdWish_cells ctWish_cells : Value}
    {f_Wish_pairs : Addr}
    {odWish_pairs anWish_pairs : Option Addr} {slWish_pairs : Array (Option Value)} {ocWish_pairs kVWish_pairs dcWish_pairs pmWish_pairs cdWish_pairs ctWish_pairs : Value}
    {f_wide_wish : Addr}
    {odwide_wish anwide_wish : Option Addr} {slwide_wish : Array (Option Value)} {ocwide_wish kVwide_wish dcwide_wish pmwide_wish cdwide_wish ctwide_wish : Value}
    {f_wish_text : Addr}
    {odwish_text anwish_text : Option Addr} {slwish_text : Array (Option Value)} {ocwish_text kVwish_text dcwish_text pmwish_text cdwish_text ctwish_text : Value}
    {f_read_wish : Addr}
    {odread_wish anread_wish : Option Addr} {slread_wish : Array (Option Value)} {ocread_wish kVread_wish dcread_wish pmread_wish cdread_wish ctread_wish : Value}
    {f_Lhand : Addr}
    {odLhand anLhand : Option Addr} {slLhand : Array (Option Value)} {ocLhand kVLhand dcLhand pmLhand cdLhand ctLhand : Value}
    {f_Ldraw : Addr}
    {odLdraw anLdraw : Option Addr} {slLdraw : Array (Option Value)} {ocLdraw kVLdraw dcLdraw pmLdraw cdLdraw ctLdraw : Value}
    {f_Lletters : Addr}
    {odLletters anLletters : Option Addr} {slLletters : Array (Option Value)} {ocLletters kVLletters dcLletters pmLletters cdLletters ctLletters : Value}
    {f_Lcells : Addr}
    {odLcells anLcells : Option Addr} {slLcells : Array (Option Value)} {ocLcells kVLcells dcLcells pmLcells cdLcells ctLcells : Value}
    {f_Lfits : Addr}
    {odLfits anLfits : Option Addr} {slLfits : Array (Option Value)} {ocLfits kVLfits dcLfits pmLfits cdLfits ctLfits : Value}
    {f_Lpairs : Addr}
    {odLpairs anLpairs : Option Addr} {slLpairs : Array (Option Value)} {ocLpairs kVLpairs dcLpairs pmLpairs cdLpairs ctLpairs : Value}
    {f_Lparts : Addr}
    {odLparts anLparts : Option Addr} {slLparts : Array (Option Value)} {ocLparts kVLparts dcLparts pmLparts cdLparts ctLparts : Value}
    {f_Lletters_of : Addr}
    {odLletters_of anLletters_of : Option Addr} {slLletters_of : Array (Option Value)} {ocLletters_of kVLletters_of dcLletters_of pmLletters_of cdLletters_of ctLletters_of : Value}
    {f_Ldue : Addr}
    {odLdue anLdue : Option Addr} {slLdue : Array (Option Value)} {ocLdue kVLdue dcLdue pmLdue cdLdue ctLdue : Value}
    {f_Llines_changed : Addr}
    {odLlines_changed anLlines_changed : Option Addr} {slLlines_changed : Array (Option Value)} {ocLlines_changed kVLlines_changed dcLlines_changed pmLlines_changed cdLlines_changed ctLlines_changed : Value}
    {f_Lwords_changed : Addr}
    {odLwords_changed anLwords_changed : Option Addr} {slLwords_changed : Array (Option Value)} {ocLwords_changed kVLwords_changed dcLwords_changed pmLwords_changed cdLwords_changed ctLwords_changed : Value}
    {f_Lchanged : Addr}
    {odLchanged anLchanged : Option Addr} {slLchanged : Array (Option Value)} {ocLchanged kVLchanged dcLchanged pmLchanged cdLchanged ctLchanged : Value}
    {f_Lread : Addr}
    {odLread anLread : Option Addr} {slLread : Array (Option Value)} {ocLread kVLread dcLread pmLread cdLread ctLread : Value}
    {f_Lis_right : Addr}
    {odLis_right anLis_right : Option Addr} {slLis_right : Array (Option Value)} {ocLis_right kVLis_right dcLis_right pmLis_right cdLis_right ctLis_right : Value}
    {f_law : Addr}
    {odlaw anlaw : Option Addr} {sllaw : Array (Option Value)} {oclaw kVlaw dclaw pmlaw cdlaw ctlaw : Value}
    {X_NoText : Addr}
    {X_NearError : Addr}
    (zb_ValueError : PySem.W.nsIn K mainGlobals "ValueError" = some none)
    (zb_abs : PySem.W.nsIn K mainGlobals "abs" = some none)
    (zb_all : PySem.W.nsIn K mainGlobals "all" = some none)
    (zb_int : PySem.W.nsIn K mainGlobals "int" = some none)
    (zb_isinstance : PySem.W.nsIn K mainGlobals "isinstance" = some none)
    (zb_len : PySem.W.nsIn K mainGlobals "len" = some none)
    (zb_list : PySem.W.nsIn K mainGlobals "list" = some none)
    (zb_range : PySem.W.nsIn K mainGlobals "range" = some none)
    (zb_set : PySem.W.nsIn K mainGlobals "set" = some none)
    (zb_str : PySem.W.nsIn K mainGlobals "str" = some none)
    (g_GIVEN_LETTERS : PySem.W.nsIn K mainGlobals "GIVEN_LETTERS" = some (some (.str "abcdefghijklmnopqrstuvwxyz" tk_GIVEN_LETTERS)))
    (g_SAID_LETTERS : PySem.W.nsIn K mainGlobals "SAID_LETTERS" = some (some (.str "ABCDEFGHIJKLMNOPQRSTUVWXYZ" tk_SAID_LETTERS)))
    (g_MOST_GIVEN : PySem.W.nsIn K mainGlobals "MOST_GIVEN" = some (some (.int 3 tk_MOST_GIVEN)))
    (g_MOST_SAID : PySem.W.nsIn K mainGlobals "MOST_SAID" = some (some (.int 4 tk_MOST_SAID)))
    (pg_Wish : PySem.W.plainGet K C_Wish Str.empty = true)
    (hd_Wish : PySem.W.hasDictIn K C_Wish = true)
    (po_Wish : PySem.W.plainOver K C_Wish = true)
    (sa_Wish : PySem.W.findIn K (.ref C_Wish) "__setattr__" = some (some (.builtin "object.__setattr__")))
    (g_Wish : PySem.W.nsIn K mainGlobals "Wish" = some (some (.ref C_Wish)))
    (y_oq_cl_Wish : PySem.W.findIn K (.ref C_Wish) "__class__" = some (some (.builtin "object.__class__")))
    (y_oq_gt_Wish : PySem.W.specialIn K (.builtin "object.__class__") "__get__" = some (some (.builtin "getset_descriptor.__get__")))
    (y_oq_tk_Wish : PySem.W.takesIn K (.builtin "object.__class__") = some true)
    (y_oq_mr_Wish : PySem.W.mroIn K C_Wish (.type "object") = some true)
    (y_sk_Wish_str : PySem.W.subIn K (.ref C_Wish) (.type "str") = some false)
    (nna_Wish_given : PySem.W.findIn K (.ref C_Wish) "_given" = some none)
    (nna_Wish_said : PySem.W.findIn K (.ref C_Wish) "_said" = some none)
    (nna_Wish_cells : PySem.W.findIn K (.ref C_Wish) "_cells" = some none)
    (nna_Wish_allowed : PySem.W.findIn K (.ref C_Wish) "_allowed" = some none)
    (nna_Wish_pairs : PySem.W.findIn K (.ref C_Wish) "_pairs" = some none)
    (nna_Wish_kept : PySem.W.findIn K (.ref C_Wish) "_kept" = some none)
    (a_are_letters : PySem.W.nsIn K mainGlobals "are_letters" = some (some (.ref f_are_letters)))
    (l_are_letters : K.lookup f_are_letters = some ⟨ocare_letters, odare_letters, .func (PySem.W.fnOf "are_letters" "are_letters" (defArgs s_are_letters) (defBody s_are_letters) (defScope s_are_letters) .none kVare_letters dcare_letters pmare_letters anare_letters cdare_letters ctare_letters), slare_letters⟩)
    (c_are_letters : PySem.W.codeIn K cdare_letters "are_letters" = true)
    (k_are_letters : PySem.W.keepIn K (.ref f_are_letters) = true)
    (a_are_different : PySem.W.nsIn K mainGlobals "are_different" = some (some (.ref f_are_different)))
    (l_are_different : K.lookup f_are_different = some ⟨ocare_different, odare_different, .func (PySem.W.fnOf "are_different" "are_different" (defArgs s_are_different) (defBody s_are_different) (defScope s_are_different) .none kVare_different dcare_different pmare_different anare_different cdare_different ctare_different), slare_different⟩)
    (c_are_different : PySem.W.codeIn K cdare_different "are_different" = true)
    (k_are_different : PySem.W.keepIn K (.ref f_are_different) = true)
    (a_is_pair : PySem.W.nsIn K mainGlobals "_is_pair" = some (some (.ref f_is_pair)))
    (l_is_pair : K.lookup f_is_pair = some ⟨ocis_pair, odis_pair, .func (PySem.W.fnOf "_is_pair" "_is_pair" (defArgs s_is_pair) (defBody s_is_pair) (defScope s_is_pair) .none kVis_pair dcis_pair pmis_pair anis_pair cdis_pair ctis_pair), slis_pair⟩)
    (c_is_pair : PySem.W.codeIn K cdis_pair "_is_pair" = true)
    (k_is_pair : PySem.W.keepIn K (.ref f_is_pair) = true)
    (a_are_pairs : PySem.W.nsIn K mainGlobals "are_pairs" = some (some (.ref f_are_pairs)))
    (l_are_pairs : K.lookup f_are_pairs = some ⟨ocare_pairs, odare_pairs, .func (PySem.W.fnOf "are_pairs" "are_pairs" (defArgs s_are_pairs) (defBody s_are_pairs) (defScope s_are_pairs) .none kVare_pairs dcare_pairs pmare_pairs anare_pairs cdare_pairs ctare_pairs), slare_pairs⟩)
    (c_are_pairs : PySem.W.codeIn K cdare_pairs "are_pairs" = true)
    (k_are_pairs : PySem.W.keepIn K (.ref f_are_pairs) = true)
    (a_Wish_init : PySem.W.findIn K (.ref C_Wish) "__init__" = some (some (.ref f_Wish_init)))
    (i_Wish_init : PySem.W.isFn K (.ref f_Wish_init) = true)
    (l_Wish_init : K.lookup f_Wish_init = some ⟨ocWish_init, odWish_init, .func (PySem.W.fnOf "__init__" "Wish.__init__" (defArgs s_Wish_init) (defBody s_Wish_init) (defScope s_Wish_init) .none kVWish_init dcWish_init pmWish_init anWish_init cdWish_init ctWish_init), slWish_init⟩)
    (c_Wish_init : PySem.W.codeIn K cdWish_init "Wish.__init__" = true)
    (k_Wish_init : PySem.W.keepIn K (.ref f_Wish_init) = true)
    (m_Wish : PySem.W.makesIn K C_Wish = true)
    (kc_Wish : PySem.W.keepIn K (.ref C_Wish) = true)
    (a_Wishfill : PySem.W.findIn K (.ref C_Wish) "_fill" = some (some (.ref f_Wishfill)))
    (i_Wishfill : PySem.W.isFn K (.ref f_Wishfill) = true)
    (l_Wishfill : K.lookup f_Wishfill = some ⟨ocWishfill, odWishfill, .func (PySem.W.fnOf "_fill" "Wish._fill" (defArgs s_Wishfill) (defBody s_Wishfill) (defScope s_Wishfill) .none kVWishfill dcWishfill pmWishfill anWishfill cdWishfill ctWishfill), slWishfill⟩)
    (c_Wishfill : PySem.W.codeIn K cdWishfill "Wish._fill" = true)
    (k_Wishfill : PySem.W.keepIn K (.ref f_Wishfill) = true)
    (a_Wish_given : PySem.W.findIn K (.ref C_Wish) "given" = some (some (.ref f_Wish_given)))
    (i_Wish_given : PySem.W.isFn K (.ref f_Wish_given) = true)
    (l_Wish_given : K.lookup f_Wish_given = some ⟨ocWish_given, odWish_given, .func (PySem.W.fnOf "given" "Wish.given" (defArgs s_Wish_given) (defBody s_Wish_given) (defScope s_Wish_given) .none kVWish_given dcWish_given pmWish_given anWish_given cdWish_given ctWish_given), slWish_given⟩)
    (c_Wish_given : PySem.W.codeIn K cdWish_given "Wish.given" = true)
    (k_Wish_given : PySem.W.keepIn K (.ref f_Wish_given) = true)
    (a_Wish_said : PySem.W.findIn K (.ref C_Wish) "said" = some (some (.ref f_Wish_said)))
    (i_Wish_said : PySem.W.isFn K (.ref f_Wish_said) = true)
    (l_Wish_said : K.lookup f_Wish_said = some ⟨ocWish_said, odWish_said, .func (PySem.W.fnOf "said" "Wish.said" (defArgs s_Wish_said) (defBody s_Wish_said) (defScope s_Wish_said) .none kVWish_said dcWish_said pmWish_said anWish_said cdWish_said ctWish_said), slWish_said⟩)
    (c_Wish_said : PySem.W.codeIn K cdWish_said "Wish.said" = true)
    (k_Wish_said : PySem.W.keepIn K (.ref f_Wish_said) = true)
    (a_Wish_cells : PySem.W.findIn K (.ref C_Wish) "cells" = some (some (.ref f_Wish_cells)))
    (i_Wish_cells : PySem.W.isFn K (.ref f_Wish_cells) = true)
    (l_Wish_cells : K.lookup f_Wish_cells = some ⟨ocWish_cells, odWish_cells, .func (PySem.W.fnOf "cells" "Wish.cells" (defArgs s_Wish_cells) (defBody s_Wish_cells) (defScope s_Wish_cells) .none kVWish_cells dcWish_cells pmWish_cells anWish_cells cdWish_cells ctWish_cells), slWish_cells⟩)
    (c_Wish_cells : PySem.W.codeIn K cdWish_cells "Wish.cells" = true)
    (k_Wish_cells : PySem.W.keepIn K (.ref f_Wish_cells) = true)
    (a_Wish_pairs : PySem.W.findIn K (.ref C_Wish) "pairs" = some (some (.ref f_Wish_pairs)))
    (i_Wish_pairs : PySem.W.isFn K (.ref f_Wish_pairs) = true)
    (l_Wish_pairs : K.lookup f_Wish_pairs = some ⟨ocWish_pairs, odWish_pairs, .func (PySem.W.fnOf "pairs" "Wish.pairs" (defArgs s_Wish_pairs) (defBody s_Wish_pairs) (defScope s_Wish_pairs) .none kVWish_pairs dcWish_pairs pmWish_pairs anWish_pairs cdWish_pairs ctWish_pairs), slWish_pairs⟩)
    (c_Wish_pairs : PySem.W.codeIn K cdWish_pairs "Wish.pairs" = true)
    (k_Wish_pairs : PySem.W.keepIn K (.ref f_Wish_pairs) = true)
    (a_wide_wish : PySem.W.nsIn K mainGlobals "wide_wish" = some (some (.ref f_wide_wish)))
    (l_wide_wish : K.lookup f_wide_wish = some ⟨ocwide_wish, odwide_wish, .func (PySem.W.fnOf "wide_wish" "wide_wish" (defArgs s_wide_wish) (defBody s_wide_wish) (defScope s_wide_wish) .none kVwide_wish dcwide_wish pmwide_wish anwide_wish cdwide_wish ctwide_wish), slwide_wish⟩)
    (c_wide_wish : PySem.W.codeIn K cdwide_wish "wide_wish" = true)
    (k_wide_wish : PySem.W.keepIn K (.ref f_wide_wish) = true)
    (a_wish_text : PySem.W.nsIn K mainGlobals "wish_text" = some (some (.ref f_wish_text)))
    (l_wish_text : K.lookup f_wish_text = some ⟨ocwish_text, odwish_text, .func (PySem.W.fnOf "wish_text" "wish_text" (defArgs s_wish_text) (defBody s_wish_text) (defScope s_wish_text) .none kVwish_text dcwish_text pmwish_text anwish_text cdwish_text ctwish_text), slwish_text⟩)
    (c_wish_text : PySem.W.codeIn K cdwish_text "wish_text" = true)
    (k_wish_text : PySem.W.keepIn K (.ref f_wish_text) = true)
    (a_read_wish : PySem.W.nsIn K mainGlobals "read_wish" = some (some (.ref f_read_wish)))
    (l_read_wish : K.lookup f_read_wish = some ⟨ocread_wish, odread_wish, .func (PySem.W.fnOf "read_wish" "read_wish" (defArgs s_read_wish) (defBody s_read_wish) (defScope s_read_wish) .none kVread_wish dcread_wish pmread_wish anread_wish cdread_wish ctread_wish), slread_wish⟩)
    (c_read_wish : PySem.W.codeIn K cdread_wish "read_wish" = true)
    (k_read_wish : PySem.W.keepIn K (.ref f_read_wish) = true)
    (a_Lhand : PySem.W.nsIn K mainGlobals "_law_hand" = some (some (.ref f_Lhand)))
    (l_Lhand : K.lookup f_Lhand = some ⟨ocLhand, odLhand, .func (PySem.W.fnOf "_law_hand" "_law_hand" (defArgs s_Lhand) (defBody s_Lhand) (defScope s_Lhand) .none kVLhand dcLhand pmLhand anLhand cdLhand ctLhand), slLhand⟩)
    (c_Lhand : PySem.W.codeIn K cdLhand "_law_hand" = true)
    (k_Lhand : PySem.W.keepIn K (.ref f_Lhand) = true)
    (a_Ldraw : PySem.W.nsIn K mainGlobals "_law_draw" = some (some (.ref f_Ldraw)))
    (l_Ldraw : K.lookup f_Ldraw = some ⟨ocLdraw, odLdraw, .func (PySem.W.fnOf "_law_draw" "_law_draw" (defArgs s_Ldraw) (defBody s_Ldraw) (defScope s_Ldraw) .none kVLdraw dcLdraw pmLdraw anLdraw cdLdraw ctLdraw), slLdraw⟩)
    (c_Ldraw : PySem.W.codeIn K cdLdraw "_law_draw" = true)
    (k_Ldraw : PySem.W.keepIn K (.ref f_Ldraw) = true)
    (a_Lletters : PySem.W.nsIn K mainGlobals "_law_letters" = some (some (.ref f_Lletters)))
    (l_Lletters : K.lookup f_Lletters = some ⟨ocLletters, odLletters, .func (PySem.W.fnOf "_law_letters" "_law_letters" (defArgs s_Lletters) (defBody s_Lletters) (defScope s_Lletters) .none kVLletters dcLletters pmLletters anLletters cdLletters ctLletters), slLletters⟩)
    (c_Lletters : PySem.W.codeIn K cdLletters "_law_letters" = true)
    (k_Lletters : PySem.W.keepIn K (.ref f_Lletters) = true)
    (a_Lcells : PySem.W.nsIn K mainGlobals "_law_cells" = some (some (.ref f_Lcells)))
    (l_Lcells : K.lookup f_Lcells = some ⟨ocLcells, odLcells, .func (PySem.W.fnOf "_law_cells" "_law_cells" (defArgs s_Lcells) (defBody s_Lcells) (defScope s_Lcells) .none kVLcells dcLcells pmLcells anLcells cdLcells ctLcells), slLcells⟩)
    (c_Lcells : PySem.W.codeIn K cdLcells "_law_cells" = true)
    (k_Lcells : PySem.W.keepIn K (.ref f_Lcells) = true)
    (a_Lfits : PySem.W.nsIn K mainGlobals "_law_fits" = some (some (.ref f_Lfits)))
    (l_Lfits : K.lookup f_Lfits = some ⟨ocLfits, odLfits, .func (PySem.W.fnOf "_law_fits" "_law_fits" (defArgs s_Lfits) (defBody s_Lfits) (defScope s_Lfits) .none kVLfits dcLfits pmLfits anLfits cdLfits ctLfits), slLfits⟩)
    (c_Lfits : PySem.W.codeIn K cdLfits "_law_fits" = true)
    (k_Lfits : PySem.W.keepIn K (.ref f_Lfits) = true)
    (a_Lpairs : PySem.W.nsIn K mainGlobals "_law_pairs" = some (some (.ref f_Lpairs)))
    (l_Lpairs : K.lookup f_Lpairs = some ⟨ocLpairs, odLpairs, .func (PySem.W.fnOf "_law_pairs" "_law_pairs" (defArgs s_Lpairs) (defBody s_Lpairs) (defScope s_Lpairs) .none kVLpairs dcLpairs pmLpairs anLpairs cdLpairs ctLpairs), slLpairs⟩)
    (c_Lpairs : PySem.W.codeIn K cdLpairs "_law_pairs" = true)
    (k_Lpairs : PySem.W.keepIn K (.ref f_Lpairs) = true)
    (a_Lparts : PySem.W.nsIn K mainGlobals "_law_parts" = some (some (.ref f_Lparts)))
    (l_Lparts : K.lookup f_Lparts = some ⟨ocLparts, odLparts, .func (PySem.W.fnOf "_law_parts" "_law_parts" (defArgs s_Lparts) (defBody s_Lparts) (defScope s_Lparts) .none kVLparts dcLparts pmLparts anLparts cdLparts ctLparts), slLparts⟩)
    (c_Lparts : PySem.W.codeIn K cdLparts "_law_parts" = true)
    (k_Lparts : PySem.W.keepIn K (.ref f_Lparts) = true)
    (a_Lletters_of : PySem.W.nsIn K mainGlobals "_law_letters_of" = some (some (.ref f_Lletters_of)))
    (l_Lletters_of : K.lookup f_Lletters_of = some ⟨ocLletters_of, odLletters_of, .func (PySem.W.fnOf "_law_letters_of" "_law_letters_of" (defArgs s_Lletters_of) (defBody s_Lletters_of) (defScope s_Lletters_of) .none kVLletters_of dcLletters_of pmLletters_of anLletters_of cdLletters_of ctLletters_of), slLletters_of⟩)
    (c_Lletters_of : PySem.W.codeIn K cdLletters_of "_law_letters_of" = true)
    (k_Lletters_of : PySem.W.keepIn K (.ref f_Lletters_of) = true)
    (a_Ldue : PySem.W.nsIn K mainGlobals "_law_due" = some (some (.ref f_Ldue)))
    (l_Ldue : K.lookup f_Ldue = some ⟨ocLdue, odLdue, .func (PySem.W.fnOf "_law_due" "_law_due" (defArgs s_Ldue) (defBody s_Ldue) (defScope s_Ldue) .none kVLdue dcLdue pmLdue anLdue cdLdue ctLdue), slLdue⟩)
    (c_Ldue : PySem.W.codeIn K cdLdue "_law_due" = true)
    (k_Ldue : PySem.W.keepIn K (.ref f_Ldue) = true)
    (a_Llines_changed : PySem.W.nsIn K mainGlobals "_law_lines_changed" = some (some (.ref f_Llines_changed)))
    (l_Llines_changed : K.lookup f_Llines_changed = some ⟨ocLlines_changed, odLlines_changed, .func (PySem.W.fnOf "_law_lines_changed" "_law_lines_changed" (defArgs s_Llines_changed) (defBody s_Llines_changed) (defScope s_Llines_changed) .none kVLlines_changed dcLlines_changed pmLlines_changed anLlines_changed cdLlines_changed ctLlines_changed), slLlines_changed⟩)
    (c_Llines_changed : PySem.W.codeIn K cdLlines_changed "_law_lines_changed" = true)
    (k_Llines_changed : PySem.W.keepIn K (.ref f_Llines_changed) = true)
    (a_Lwords_changed : PySem.W.nsIn K mainGlobals "_law_words_changed" = some (some (.ref f_Lwords_changed)))
    (l_Lwords_changed : K.lookup f_Lwords_changed = some ⟨ocLwords_changed, odLwords_changed, .func (PySem.W.fnOf "_law_words_changed" "_law_words_changed" (defArgs s_Lwords_changed) (defBody s_Lwords_changed) (defScope s_Lwords_changed) .none kVLwords_changed dcLwords_changed pmLwords_changed anLwords_changed cdLwords_changed ctLwords_changed), slLwords_changed⟩)
    (c_Lwords_changed : PySem.W.codeIn K cdLwords_changed "_law_words_changed" = true)
    (k_Lwords_changed : PySem.W.keepIn K (.ref f_Lwords_changed) = true)
    (a_Lchanged : PySem.W.nsIn K mainGlobals "_law_changed" = some (some (.ref f_Lchanged)))
    (l_Lchanged : K.lookup f_Lchanged = some ⟨ocLchanged, odLchanged, .func (PySem.W.fnOf "_law_changed" "_law_changed" (defArgs s_Lchanged) (defBody s_Lchanged) (defScope s_Lchanged) .none kVLchanged dcLchanged pmLchanged anLchanged cdLchanged ctLchanged), slLchanged⟩)
    (c_Lchanged : PySem.W.codeIn K cdLchanged "_law_changed" = true)
    (k_Lchanged : PySem.W.keepIn K (.ref f_Lchanged) = true)
    (a_Lread : PySem.W.nsIn K mainGlobals "_law_read" = some (some (.ref f_Lread)))
    (l_Lread : K.lookup f_Lread = some ⟨ocLread, odLread, .func (PySem.W.fnOf "_law_read" "_law_read" (defArgs s_Lread) (defBody s_Lread) (defScope s_Lread) .none kVLread dcLread pmLread anLread cdLread ctLread), slLread⟩)
    (c_Lread : PySem.W.codeIn K cdLread "_law_read" = true)
    (k_Lread : PySem.W.keepIn K (.ref f_Lread) = true)
    (a_Lis_right : PySem.W.nsIn K mainGlobals "_law_is_right" = some (some (.ref f_Lis_right)))
    (l_Lis_right : K.lookup f_Lis_right = some ⟨ocLis_right, odLis_right, .func (PySem.W.fnOf "_law_is_right" "_law_is_right" (defArgs s_Lis_right) (defBody s_Lis_right) (defScope s_Lis_right) .none kVLis_right dcLis_right pmLis_right anLis_right cdLis_right ctLis_right), slLis_right⟩)
    (c_Lis_right : PySem.W.codeIn K cdLis_right "_law_is_right" = true)
    (k_Lis_right : PySem.W.keepIn K (.ref f_Lis_right) = true)
    (a_law : PySem.W.nsIn K mainGlobals "law" = some (some (.ref f_law)))
    (l_law : K.lookup f_law = some ⟨oclaw, odlaw, .func (PySem.W.fnOf "law" "law" (defArgs s_law) (defBody s_law) (defScope s_law) .none kVlaw dclaw pmlaw anlaw cdlaw ctlaw), sllaw⟩)
    (c_law : PySem.W.codeIn K cdlaw "law" = true)
    (k_law : PySem.W.keepIn K (.ref f_law) = true)
    (g_NoText : PySem.W.nsIn K mainGlobals "NoText" = some (some (.ref X_NoText)))
    (kk_NoText : PySem.W.keepIn K (.ref X_NoText) = true)
    (y_xc_NoText : PySem.W.excIn K X_NoText [.type "ValueError", .type "Exception", .type "BaseException", .type "object"] "ValueError.__new__" = true)
    (y_sb_NoText : PySem.W.subIn K (.ref X_NoText) (.type "BaseException") = some true)
    (y_ty_NoText : PySem.W.typeIn K (.ref X_NoText) = some (.type "type"))
    (g_NearError : PySem.W.nsIn K mainGlobals "NearError" = some (some (.ref X_NearError)))
    (eg_NoText : PySem.W.findIn K (.ref X_NoText) "__getattribute__" = some (some (.builtin "BaseException.__getattribute__")))
    (et_NoText : PySem.W.findIn K (.ref X_NoText) "__getattr__" = some none)
    (ed_NoText : PySem.W.hasDictIn K X_NoText = true)
    (ea_NoText : PySem.W.findIn K (.ref X_NoText) "__class__" = some (some (.builtin "object.__class__")))
    (en : PySem.W.specialIn K (.builtin "object.__class__") "__get__" = some (some (.builtin "getset_descriptor.__get__")))
    (ek : PySem.W.takesIn K (.builtin "object.__class__") = some true)
    (em_NoText : PySem.W.mroIn K X_NoText (.type "object") = some true)
    (ic_NearError : PySem.W.isClsIn K X_NearError = true)
    (y_ty_NearError : PySem.W.typeIn K (.ref X_NearError) = some (.type "type"))
    (su_NoText_NearError : PySem.W.subIn K (.ref X_NoText) (.ref X_NearError) = some true)
    (y_ve_NoText : PySem.W.subIn K (.ref X_NoText) (.type "ValueError") = some true)
    (ic_NoText : PySem.W.isClsIn K X_NoText = true)
    (su_NoText_NoText : PySem.W.subIn K (.ref X_NoText) (.ref X_NoText) = some true)
    : ∃ fd : FuncData, (∀ (s : Shared) (v : Value), BindsTo s fd ⟨[v], []⟩ [("_law_script", v)]) ∧ ∀ base : Heap, K.In base → base.Ns mainGlobals mg → FnOk P w K mg base (L2.CX P w) 10 fa fd ["_law_script"] (sp_law K) := by
  have e := hfa.symm.trans (PySem.W.mg_of X G a_law)
  cases e
  exact ⟨PySem.W.fnOf "law" "law" (defArgs s_law) (defBody s_law) (defScope s_law) .none kVlaw dclaw pmlaw anlaw cdlaw ctlaw, fun s v => .of_eq rfl, fun base _ _ => ok_law (T := ({
    b_ValueError := PySem.W.mg_none_of X G zb_ValueError,
    b_abs := PySem.W.mg_none_of X G zb_abs,
    b_all := PySem.W.mg_none_of X G zb_all,
    b_int := PySem.W.mg_none_of X G zb_int,
    b_isinstance := PySem.W.mg_none_of X G zb_isinstance,
    b_len := PySem.W.mg_none_of X G zb_len,
    b_list := PySem.W.mg_none_of X G zb_list,
    b_range := PySem.W.mg_none_of X G zb_range,
    b_set := PySem.W.mg_none_of X G zb_set,
    b_str := PySem.W.mg_none_of X G zb_str,
    tk_GIVEN_LETTERS := tk_GIVEN_LETTERS,
    mg_GIVEN_LETTERS := PySem.W.mg_of X G g_GIVEN_LETTERS,
    tk_SAID_LETTERS := tk_SAID_LETTERS,
    mg_SAID_LETTERS := PySem.W.mg_of X G g_SAID_LETTERS,
    tk_MOST_GIVEN := tk_MOST_GIVEN,
    mg_MOST_GIVEN := PySem.W.mg_of X G g_MOST_GIVEN,
    tk_MOST_SAID := tk_MOST_SAID,
    mg_MOST_SAID := PySem.W.mg_of X G g_MOST_SAID,
    C_Wish := C_Wish,
    cl_Wish := ⟨pg_Wish, hd_Wish, po_Wish, sa_Wish⟩,
    mg_Wish := PySem.W.mg_of X G g_Wish,
    oq_cl_Wish := y_oq_cl_Wish,
    oq_gt_Wish := y_oq_gt_Wish,
    oq_tk_Wish := y_oq_tk_Wish,
    oq_mr_Wish := y_oq_mr_Wish,
    sk_Wish_str := y_sk_Wish_str,
    na_Wish_given := nna_Wish_given,
    na_Wish_said := nna_Wish_said,
    na_Wish_cells := nna_Wish_cells,
    na_Wish_allowed := nna_Wish_allowed,
    na_Wish_pairs := nna_Wish_pairs,
    na_Wish_kept := nna_Wish_kept,
    f_are_letters := f_are_letters,
    fd_are_letters := PySem.W.fnOf "are_letters" "are_letters" (defArgs s_are_letters) (defBody s_are_letters) (defScope s_are_letters) .none kVare_letters dcare_letters pmare_letters anare_letters cdare_letters ctare_letters,
    F_are_letters := fun_mk (st := s_are_letters) l_are_letters c_are_letters k_are_letters,
    bd_are_letters := (fun_mk (st := s_are_letters) l_are_letters c_are_letters k_are_letters).binds (ps := ["value", "letters"]) fun _ _ _ _ _ _ us hl => match us, hl with | [_, _], _ => rfl,
    mg_are_letters := PySem.W.mg_of X G a_are_letters,
    kp_are_letters := k_are_letters,
    f_are_different := f_are_different,
    fd_are_different := PySem.W.fnOf "are_different" "are_different" (defArgs s_are_different) (defBody s_are_different) (defScope s_are_different) .none kVare_different dcare_different pmare_different anare_different cdare_different ctare_different,
    F_are_different := fun_mk (st := s_are_different) l_are_different c_are_different k_are_different,
    bd_are_different := (fun_mk (st := s_are_different) l_are_different c_are_different k_are_different).binds (ps := ["value", "letters", "most"]) fun _ _ _ _ _ _ us hl => match us, hl with | [_, _, _], _ => rfl,
    mg_are_different := PySem.W.mg_of X G a_are_different,
    kp_are_different := k_are_different,
    f_is_pair := f_is_pair,
    fd_is_pair := PySem.W.fnOf "_is_pair" "_is_pair" (defArgs s_is_pair) (defBody s_is_pair) (defScope s_is_pair) .none kVis_pair dcis_pair pmis_pair anis_pair cdis_pair ctis_pair,
    F_is_pair := fun_mk (st := s_is_pair) l_is_pair c_is_pair k_is_pair,
    bd_is_pair := (fun_mk (st := s_is_pair) l_is_pair c_is_pair k_is_pair).binds (ps := ["value", "given", "said"]) fun _ _ _ _ _ _ us hl => match us, hl with | [_, _, _], _ => rfl,
    mg_is_pair := PySem.W.mg_of X G a_is_pair,
    kp_is_pair := k_is_pair,
    f_are_pairs := f_are_pairs,
    fd_are_pairs := PySem.W.fnOf "are_pairs" "are_pairs" (defArgs s_are_pairs) (defBody s_are_pairs) (defScope s_are_pairs) .none kVare_pairs dcare_pairs pmare_pairs anare_pairs cdare_pairs ctare_pairs,
    F_are_pairs := fun_mk (st := s_are_pairs) l_are_pairs c_are_pairs k_are_pairs,
    bd_are_pairs := (fun_mk (st := s_are_pairs) l_are_pairs c_are_pairs k_are_pairs).binds (ps := ["value", "given", "said"]) fun _ _ _ _ _ _ us hl => match us, hl with | [_, _, _], _ => rfl,
    mg_are_pairs := PySem.W.mg_of X G a_are_pairs,
    kp_are_pairs := k_are_pairs,
    f_Wish_init := f_Wish_init,
    fd_Wish_init := PySem.W.fnOf "__init__" "Wish.__init__" (defArgs s_Wish_init) (defBody s_Wish_init) (defScope s_Wish_init) .none kVWish_init dcWish_init pmWish_init anWish_init cdWish_init ctWish_init,
    F_Wish_init := fun_mk (st := s_Wish_init) l_Wish_init c_Wish_init k_Wish_init,
    bd_Wish_init := (fun_mk (st := s_Wish_init) l_Wish_init c_Wish_init k_Wish_init).binds (ps := ["self", "given", "said", "pairs"]) fun _ _ _ _ _ _ us hl => match us, hl with | [_, _, _, _], _ => rfl,
    mk_Wish := ⟨m_Wish, a_Wish_init, i_Wish_init, kc_Wish⟩,
    f_Wishfill := f_Wishfill,
    fd_Wishfill := PySem.W.fnOf "_fill" "Wish._fill" (defArgs s_Wishfill) (defBody s_Wishfill) (defScope s_Wishfill) .none kVWishfill dcWishfill pmWishfill anWishfill cdWishfill ctWishfill,
    F_Wishfill := fun_mk (st := s_Wishfill) l_Wishfill c_Wishfill k_Wishfill,
    bd_Wishfill := (fun_mk (st := s_Wishfill) l_Wishfill c_Wishfill k_Wishfill).binds (ps := ["self", "given", "said", "pairs"]) fun _ _ _ _ _ _ us hl => match us, hl with | [_, _, _, _], _ => rfl,
    mt_Wishfill := ⟨a_Wishfill, i_Wishfill, k_Wishfill⟩,
    f_Wish_given := f_Wish_given,
    fd_Wish_given := PySem.W.fnOf "given" "Wish.given" (defArgs s_Wish_given) (defBody s_Wish_given) (defScope s_Wish_given) .none kVWish_given dcWish_given pmWish_given anWish_given cdWish_given ctWish_given,
    F_Wish_given := fun_mk (st := s_Wish_given) l_Wish_given c_Wish_given k_Wish_given,
    bd_Wish_given := (fun_mk (st := s_Wish_given) l_Wish_given c_Wish_given k_Wish_given).binds (ps := ["self"]) fun _ _ _ _ _ _ us hl => match us, hl with | [_], _ => rfl,
    mt_Wish_given := ⟨a_Wish_given, i_Wish_given, k_Wish_given⟩,
    f_Wish_said := f_Wish_said,
    fd_Wish_said := PySem.W.fnOf "said" "Wish.said" (defArgs s_Wish_said) (defBody s_Wish_said) (defScope s_Wish_said) .none kVWish_said dcWish_said pmWish_said anWish_said cdWish_said ctWish_said,
    F_Wish_said := fun_mk (st := s_Wish_said) l_Wish_said c_Wish_said k_Wish_said,
    bd_Wish_said := (fun_mk (st := s_Wish_said) l_Wish_said c_Wish_said k_Wish_said).binds (ps := ["self"]) fun _ _ _ _ _ _ us hl => match us, hl with | [_], _ => rfl,
    mt_Wish_said := ⟨a_Wish_said, i_Wish_said, k_Wish_said⟩,
    f_Wish_cells := f_Wish_cells,
    fd_Wish_cells := PySem.W.fnOf "cells" "Wish.cells" (defArgs s_Wish_cells) (defBody s_Wish_cells) (defScope s_Wish_cells) .none kVWish_cells dcWish_cells pmWish_cells anWish_cells cdWish_cells ctWish_cells,
    F_Wish_cells := fun_mk (st := s_Wish_cells) l_Wish_cells c_Wish_cells k_Wish_cells,
    f_Wish_pairs := f_Wish_pairs,
    fd_Wish_pairs := PySem.W.fnOf "pairs" "Wish.pairs" (defArgs s_Wish_pairs) (defBody s_Wish_pairs) (defScope s_Wish_pairs) .none kVWish_pairs dcWish_pairs pmWish_pairs anWish_pairs cdWish_pairs ctWish_pairs,
    F_Wish_pairs := fun_mk (st := s_Wish_pairs) l_Wish_pairs c_Wish_pairs k_Wish_pairs,
    bd_Wish_pairs := (fun_mk (st := s_Wish_pairs) l_Wish_pairs c_Wish_pairs k_Wish_pairs).binds (ps := ["self"]) fun _ _ _ _ _ _ us hl => match us, hl with | [_], _ => rfl,
    mt_Wish_pairs := ⟨a_Wish_pairs, i_Wish_pairs, k_Wish_pairs⟩,
    f_wide_wish := f_wide_wish,
    fd_wide_wish := PySem.W.fnOf "wide_wish" "wide_wish" (defArgs s_wide_wish) (defBody s_wide_wish) (defScope s_wide_wish) .none kVwide_wish dcwide_wish pmwide_wish anwide_wish cdwide_wish ctwide_wish,
    F_wide_wish := fun_mk (st := s_wide_wish) l_wide_wish c_wide_wish k_wide_wish,
    bd_wide_wish := (fun_mk (st := s_wide_wish) l_wide_wish c_wide_wish k_wide_wish).binds (ps := ["given", "said", "pairs"]) fun _ _ _ _ _ _ us hl => match us, hl with | [_, _, _], _ => rfl,
    mg_wide_wish := PySem.W.mg_of X G a_wide_wish,
    kp_wide_wish := k_wide_wish,
    f_wish_text := f_wish_text,
    fd_wish_text := PySem.W.fnOf "wish_text" "wish_text" (defArgs s_wish_text) (defBody s_wish_text) (defScope s_wish_text) .none kVwish_text dcwish_text pmwish_text anwish_text cdwish_text ctwish_text,
    F_wish_text := fun_mk (st := s_wish_text) l_wish_text c_wish_text k_wish_text,
    bd_wish_text := (fun_mk (st := s_wish_text) l_wish_text c_wish_text k_wish_text).binds (ps := ["wish"]) fun _ _ _ _ _ _ us hl => match us, hl with | [_], _ => rfl,
    mg_wish_text := PySem.W.mg_of X G a_wish_text,
    kp_wish_text := k_wish_text,
    f_read_wish := f_read_wish,
    fd_read_wish := PySem.W.fnOf "read_wish" "read_wish" (defArgs s_read_wish) (defBody s_read_wish) (defScope s_read_wish) .none kVread_wish dcread_wish pmread_wish anread_wish cdread_wish ctread_wish,
    F_read_wish := fun_mk (st := s_read_wish) l_read_wish c_read_wish k_read_wish,
    bd_read_wish := (fun_mk (st := s_read_wish) l_read_wish c_read_wish k_read_wish).binds (ps := ["text"]) fun _ _ _ _ _ _ us hl => match us, hl with | [_], _ => rfl,
    mg_read_wish := PySem.W.mg_of X G a_read_wish,
    kp_read_wish := k_read_wish,
    f_Lhand := f_Lhand,
    fd_Lhand := PySem.W.fnOf "_law_hand" "_law_hand" (defArgs s_Lhand) (defBody s_Lhand) (defScope s_Lhand) .none kVLhand dcLhand pmLhand anLhand cdLhand ctLhand,
    F_Lhand := fun_mk (st := s_Lhand) l_Lhand c_Lhand k_Lhand,
    bd_Lhand := (fun_mk (st := s_Lhand) l_Lhand c_Lhand k_Lhand).binds (ps := ["_law_script"]) fun _ _ _ _ _ _ us hl => match us, hl with | [_], _ => rfl,
    mg_Lhand := PySem.W.mg_of X G a_Lhand,
    kp_Lhand := k_Lhand,
    f_Ldraw := f_Ldraw,
    fd_Ldraw := PySem.W.fnOf "_law_draw" "_law_draw" (defArgs s_Ldraw) (defBody s_Ldraw) (defScope s_Ldraw) .none kVLdraw dcLdraw pmLdraw anLdraw cdLdraw ctLdraw,
    F_Ldraw := fun_mk (st := s_Ldraw) l_Ldraw c_Ldraw k_Ldraw,
    bd_Ldraw := (fun_mk (st := s_Ldraw) l_Ldraw c_Ldraw k_Ldraw).binds (ps := ["_law_hand_here", "_law_many"]) fun _ _ _ _ _ _ us hl => match us, hl with | [_, _], _ => rfl,
    mg_Ldraw := PySem.W.mg_of X G a_Ldraw,
    kp_Ldraw := k_Ldraw,
    f_Lletters := f_Lletters,
    fd_Lletters := PySem.W.fnOf "_law_letters" "_law_letters" (defArgs s_Lletters) (defBody s_Lletters) (defScope s_Lletters) .none kVLletters dcLletters pmLletters anLletters cdLletters ctLletters,
    F_Lletters := fun_mk (st := s_Lletters) l_Lletters c_Lletters k_Lletters,
    bd_Lletters := (fun_mk (st := s_Lletters) l_Lletters c_Lletters k_Lletters).binds (ps := ["_law_hand_here", "_law_signs", "_law_many"]) fun _ _ _ _ _ _ us hl => match us, hl with | [_, _, _], _ => rfl,
    mg_Lletters := PySem.W.mg_of X G a_Lletters,
    kp_Lletters := k_Lletters,
    f_Lcells := f_Lcells,
    fd_Lcells := PySem.W.fnOf "_law_cells" "_law_cells" (defArgs s_Lcells) (defBody s_Lcells) (defScope s_Lcells) .none kVLcells dcLcells pmLcells anLcells cdLcells ctLcells,
    F_Lcells := fun_mk (st := s_Lcells) l_Lcells c_Lcells k_Lcells,
    bd_Lcells := (fun_mk (st := s_Lcells) l_Lcells c_Lcells k_Lcells).binds (ps := ["_law_given", "_law_said"]) fun _ _ _ _ _ _ us hl => match us, hl with | [_, _], _ => rfl,
    mg_Lcells := PySem.W.mg_of X G a_Lcells,
    kp_Lcells := k_Lcells,
    f_Lfits := f_Lfits,
    fd_Lfits := PySem.W.fnOf "_law_fits" "_law_fits" (defArgs s_Lfits) (defBody s_Lfits) (defScope s_Lfits) .none kVLfits dcLfits pmLfits anLfits cdLfits ctLfits,
    F_Lfits := fun_mk (st := s_Lfits) l_Lfits c_Lfits k_Lfits,
    bd_Lfits := (fun_mk (st := s_Lfits) l_Lfits c_Lfits k_Lfits).binds (ps := ["_law_kind", "_law_given", "_law_said", "_law_one", "_law_other"]) fun _ _ _ _ _ _ us hl => match us, hl with | [_, _, _, _, _], _ => rfl,
    mg_Lfits := PySem.W.mg_of X G a_Lfits,
    kp_Lfits := k_Lfits,
    f_Lpairs := f_Lpairs,
    fd_Lpairs := PySem.W.fnOf "_law_pairs" "_law_pairs" (defArgs s_Lpairs) (defBody s_Lpairs) (defScope s_Lpairs) .none kVLpairs dcLpairs pmLpairs anLpairs cdLpairs ctLpairs,
    F_Lpairs := fun_mk (st := s_Lpairs) l_Lpairs c_Lpairs k_Lpairs,
    bd_Lpairs := (fun_mk (st := s_Lpairs) l_Lpairs c_Lpairs k_Lpairs).binds (ps := ["_law_hand_here", "_law_given", "_law_said"]) fun _ _ _ _ _ _ us hl => match us, hl with | [_, _, _], _ => rfl,
    mg_Lpairs := PySem.W.mg_of X G a_Lpairs,
    kp_Lpairs := k_Lpairs,
    f_Lparts := f_Lparts,
    fd_Lparts := PySem.W.fnOf "_law_parts" "_law_parts" (defArgs s_Lparts) (defBody s_Lparts) (defScope s_Lparts) .none kVLparts dcLparts pmLparts anLparts cdLparts ctLparts,
    F_Lparts := fun_mk (st := s_Lparts) l_Lparts c_Lparts k_Lparts,
    bd_Lparts := (fun_mk (st := s_Lparts) l_Lparts c_Lparts k_Lparts).binds (ps := ["_law_hand_here"]) fun _ _ _ _ _ _ us hl => match us, hl with | [_], _ => rfl,
    mg_Lparts := PySem.W.mg_of X G a_Lparts,
    kp_Lparts := k_Lparts,
    f_Lletters_of := f_Lletters_of,
    fd_Lletters_of := PySem.W.fnOf "_law_letters_of" "_law_letters_of" (defArgs s_Lletters_of) (defBody s_Lletters_of) (defScope s_Lletters_of) .none kVLletters_of dcLletters_of pmLletters_of anLletters_of cdLletters_of ctLletters_of,
    F_Lletters_of := fun_mk (st := s_Lletters_of) l_Lletters_of c_Lletters_of k_Lletters_of,
    bd_Lletters_of := (fun_mk (st := s_Lletters_of) l_Lletters_of c_Lletters_of k_Lletters_of).binds (ps := ["_law_line", "_law_word", "_law_signs"]) fun _ _ _ _ _ _ us hl => match us, hl with | [_, _, _], _ => rfl,
    mg_Lletters_of := PySem.W.mg_of X G a_Lletters_of,
    kp_Lletters_of := k_Lletters_of,
    f_Ldue := f_Ldue,
    fd_Ldue := PySem.W.fnOf "_law_due" "_law_due" (defArgs s_Ldue) (defBody s_Ldue) (defScope s_Ldue) .none kVLdue dcLdue pmLdue anLdue cdLdue ctLdue,
    F_Ldue := fun_mk (st := s_Ldue) l_Ldue c_Ldue k_Ldue,
    bd_Ldue := (fun_mk (st := s_Ldue) l_Ldue c_Ldue k_Ldue).binds (ps := ["_law_text"]) fun _ _ _ _ _ _ us hl => match us, hl with | [_], _ => rfl,
    mg_Ldue := PySem.W.mg_of X G a_Ldue,
    kp_Ldue := k_Ldue,
    f_Llines_changed := f_Llines_changed,
    fd_Llines_changed := PySem.W.fnOf "_law_lines_changed" "_law_lines_changed" (defArgs s_Llines_changed) (defBody s_Llines_changed) (defScope s_Llines_changed) .none kVLlines_changed dcLlines_changed pmLlines_changed anLlines_changed cdLlines_changed ctLlines_changed,
    F_Llines_changed := fun_mk (st := s_Llines_changed) l_Llines_changed c_Llines_changed k_Llines_changed,
    bd_Llines_changed := (fun_mk (st := s_Llines_changed) l_Llines_changed c_Llines_changed k_Llines_changed).binds (ps := ["_law_hand_here", "_law_text"]) fun _ _ _ _ _ _ us hl => match us, hl with | [_, _], _ => rfl,
    mg_Llines_changed := PySem.W.mg_of X G a_Llines_changed,
    kp_Llines_changed := k_Llines_changed,
    f_Lwords_changed := f_Lwords_changed,
    fd_Lwords_changed := PySem.W.fnOf "_law_words_changed" "_law_words_changed" (defArgs s_Lwords_changed) (defBody s_Lwords_changed) (defScope s_Lwords_changed) .none kVLwords_changed dcLwords_changed pmLwords_changed anLwords_changed cdLwords_changed ctLwords_changed,
    F_Lwords_changed := fun_mk (st := s_Lwords_changed) l_Lwords_changed c_Lwords_changed k_Lwords_changed,
    bd_Lwords_changed := (fun_mk (st := s_Lwords_changed) l_Lwords_changed c_Lwords_changed k_Lwords_changed).binds (ps := ["_law_hand_here", "_law_text"]) fun _ _ _ _ _ _ us hl => match us, hl with | [_, _], _ => rfl,
    mg_Lwords_changed := PySem.W.mg_of X G a_Lwords_changed,
    kp_Lwords_changed := k_Lwords_changed,
    f_Lchanged := f_Lchanged,
    fd_Lchanged := PySem.W.fnOf "_law_changed" "_law_changed" (defArgs s_Lchanged) (defBody s_Lchanged) (defScope s_Lchanged) .none kVLchanged dcLchanged pmLchanged anLchanged cdLchanged ctLchanged,
    F_Lchanged := fun_mk (st := s_Lchanged) l_Lchanged c_Lchanged k_Lchanged,
    bd_Lchanged := (fun_mk (st := s_Lchanged) l_Lchanged c_Lchanged k_Lchanged).binds (ps := ["_law_hand_here", "_law_text"]) fun _ _ _ _ _ _ us hl => match us, hl with | [_, _], _ => rfl,
    mg_Lchanged := PySem.W.mg_of X G a_Lchanged,
    kp_Lchanged := k_Lchanged,
    f_Lread := f_Lread,
    fd_Lread := PySem.W.fnOf "_law_read" "_law_read" (defArgs s_Lread) (defBody s_Lread) (defScope s_Lread) .none kVLread dcLread pmLread anLread cdLread ctLread,
    F_Lread := fun_mk (st := s_Lread) l_Lread c_Lread k_Lread,
    bd_Lread := (fun_mk (st := s_Lread) l_Lread c_Lread k_Lread).binds (ps := ["_law_text"]) fun _ _ _ _ _ _ us hl => match us, hl with | [_], _ => rfl,
    mg_Lread := PySem.W.mg_of X G a_Lread,
    kp_Lread := k_Lread,
    f_Lis_right := f_Lis_right,
    fd_Lis_right := PySem.W.fnOf "_law_is_right" "_law_is_right" (defArgs s_Lis_right) (defBody s_Lis_right) (defScope s_Lis_right) .none kVLis_right dcLis_right pmLis_right anLis_right cdLis_right ctLis_right,
    F_Lis_right := fun_mk (st := s_Lis_right) l_Lis_right c_Lis_right k_Lis_right,
    bd_Lis_right := (fun_mk (st := s_Lis_right) l_Lis_right c_Lis_right k_Lis_right).binds (ps := ["_law_text"]) fun _ _ _ _ _ _ us hl => match us, hl with | [_], _ => rfl,
    mg_Lis_right := PySem.W.mg_of X G a_Lis_right,
    kp_Lis_right := k_Lis_right,
    f_law := fa,
    fd_law := PySem.W.fnOf "law" "law" (defArgs s_law) (defBody s_law) (defScope s_law) .none kVlaw dclaw pmlaw anlaw cdlaw ctlaw,
    F_law := fun_mk (st := s_law) l_law c_law k_law,
    X_NoText := X_NoText,
    mg_NoText := PySem.W.mg_of X G g_NoText,
    kp_NoText := kk_NoText,
    xc_NoText := y_xc_NoText,
    sb_NoText := y_sb_NoText,
    ty_NoText := y_ty_NoText,
    X_NearError := X_NearError,
    mg_NearError := PySem.W.mg_of X G g_NearError,
    ec_NoText := ⟨eg_NoText, et_NoText, y_sb_NoText, ed_NoText, ea_NoText, en, ek, em_NoText⟩,
    ki_NoText_NearError := NW.kit_own ic_NearError y_ty_NearError su_NoText_NearError (fun _ => rfl),
    ve_NoText := y_ve_NoText,
    xm_NoText_NoText := NW.exm_of y_sb_NoText ic_NoText y_ty_NoText su_NoText_NoText
    } : Txt K mg))⟩
theorem walk {l : PySem.W.OpenLaw} {q : Program} {loose : List Str} {XP : (Str → Option Value) → Heap → Prop} {YP : World → Heap → Prop} {d : DefRec} {K : Params → PySem.W.Frag} (hn : l.most = some 63) (hdf : d.params.defaults = [])
    (hY : ∀ (w : World) (h : Heap), YP w h → (K w.params).In h)
    (F : ∀ (w : World) (mg : Str → Option Value) (fa : Addr) (h : Heap), (K w.params).In h → h.Ns mainGlobals mg → mg d.name = some (.ref fa) →
      ∃ fd : FuncData, (∀ (s : Shared) (u : Value), BindsTo s fd ⟨[u], []⟩ [("_law_script", u)]) ∧ ∀ base : Heap, (K w.params).In base → base.Ns mainGlobals mg → FnOk l.prog w (K w.params) mg base (L2.CX l.prog w) 10 fa fd ["_law_script"] (sp_law (K w.params))) :
    PySem.W.WalkO q loose XP YP l.row.toRowW d [] (fun f vs => PySem.call f vs) :=
  L2.walk_of (n := 63) (k := 10) (x := "_law_script") (CX := fun w => L2.CX l.prog w) (sp := fun w => sp_law (K w.params)) hn (by decide) hdf ⟨rfl, by decide, by decide⟩ hY F (fun _ _ a ns hl _ hS => law_takes a ns hl hS) fun w H s e s' z => by
    obtain ⟨_, _, _, _, _, _, _, _, _, _, _, _, hE⟩ := z
    exact hE
end K10
open PySem PySem.W PyProof.Rows
set_option maxRecDepth 100000 in
set_option maxHeartbeats 0 in
theorem PySem.Challenge.cw_nearwish_k10_whole_faulty_texts_holds : PySem.Challenge.rw_nearwish_k10_whole_faulty_texts.Holds := by
  w_on; o_law; k_head; (case hw => w_witness2)
  k_fill
  refine K10.walk (l := PySem.Challenge.rw_nearwish_k10_whole_faulty_texts) rfl rfl (fun w h Y => PySem.W.kIn_of Y) ?F
  case F =>
    intro w mg fa h KX G hmg
    refine' K10.all_mk KX G hmg ?zb_ValueError ?zb_abs ?zb_all ?zb_int ?zb_isinstance ?zb_len ?zb_list ?zb_range ?zb_set ?zb_str ?g_GIVEN_LETTERS ?g_SAID_LETTERS ?g_MOST_GIVEN ?g_MOST_SAID ?pg_Wish ?hd_Wish ?po_Wish ?sa_Wish ?g_Wish ?y_oq_cl_Wish ?y_oq_gt_Wish ?y_oq_tk_Wish ?y_oq_mr_Wish ?y_sk_Wish_str ?nna_Wish_given ?nna_Wish_said ?nna_Wish_cells ?nna_Wish_allowed ?nna_Wish_pairs ?nna_Wish_kept ?a_are_letters ?l_are_letters ?c_are_letters ?k_are_letters ?a_are_different ?l_are_different ?c_are_different ?k_are_different ?a_is_pair ?l_is_pair ?c_is_pair ?k_is_pair ?a_are_pairs ?l_are_pairs ?c_are_pairs ?k_are_pairs ?a_Wish_init ?i_Wish_init ?l_Wish_init ?c_Wish_init ?k_Wish_init ?m_Wish ?kc_Wish ?a_Wishfill ?i_Wishfill ?l_Wishfill ?c_Wishfill ?k_Wishfill ?a_Wish_given ?i_Wish_given ?l_Wish_given ?c_Wish_given ?k_Wish_given ?a_Wish_said ?i_Wish_said ?l_Wish_said ?c_Wish_said ?k_Wish_said ?a_Wish_cells ?i_Wish_cells ?l_Wish_cells ?c_Wish_cells ?k_Wish_cells ?a_Wish_pairs ?i_Wish_pairs ?l_Wish_pairs ?c_Wish_pairs ?k_Wish_pairs ?a_wide_wish ?l_wide_wish ?c_wide_wish ?k_wide_wish ?a_wish_text ?l_wish_text ?c_wish_text ?k_wish_text ?a_read_wish ?l_read_wish ?c_read_wish ?k_read_wish ?a_Lhand ?l_Lhand ?c_Lhand ?k_Lhand ?a_Ldraw ?l_Ldraw ?c_Ldraw ?k_Ldraw ?a_Lletters ?l_Lletters ?c_Lletters ?k_Lletters ?a_Lcells ?l_Lcells ?c_Lcells ?k_Lcells ?a_Lfits ?l_Lfits ?c_Lfits ?k_Lfits ?a_Lpairs ?l_Lpairs ?c_Lpairs ?k_Lpairs ?a_Lparts ?l_Lparts ?c_Lparts ?k_Lparts ?a_Lletters_of ?l_Lletters_of ?c_Lletters_of ?k_Lletters_of ?a_Ldue ?l_Ldue ?c_Ldue ?k_Ldue ?a_Llines_changed ?l_Llines_changed ?c_Llines_changed ?k_Llines_changed ?a_Lwords_changed ?l_Lwords_changed ?c_Lwords_changed ?k_Lwords_changed ?a_Lchanged ?l_Lchanged ?c_Lchanged ?k_Lchanged ?a_Lread ?l_Lread ?c_Lread ?k_Lread ?a_Lis_right ?l_Lis_right ?c_Lis_right ?k_Lis_right ?a_law ?l_law ?c_law ?k_law ?g_NoText ?kk_NoText ?y_xc_NoText ?y_sb_NoText ?y_ty_NoText ?g_NearError ?eg_NoText ?et_NoText ?ed_NoText ?ea_NoText ?en ?ek ?em_NoText ?ic_NearError ?y_ty_NearError ?su_NoText_NearError ?y_ve_NoText ?ic_NoText ?su_NoText_NoText
    (case g_GIVEN_LETTERS => k_is)
    (case g_SAID_LETTERS => k_is)
    (case g_MOST_GIVEN => k_is)
    (case g_MOST_SAID => k_is)
    (case g_Wish => k_is)
    (case g_NoText => k_is)
    (case g_NearError => k_is)
    (case a_are_letters => k_is)
    (case a_are_different => k_is)
    (case a_is_pair => k_is)
    (case a_are_pairs => k_is)
    (case a_Wish_init => k_is)
    (case a_Wishfill => k_is)
    (case a_Wish_given => k_is)
    (case a_Wish_said => k_is)
    (case a_Wish_cells => k_is)
    (case a_Wish_pairs => k_is)
    (case a_wide_wish => k_is)
    (case a_wish_text => k_is)
    (case a_read_wish => k_is)
    (case a_Lhand => k_is)
    (case a_Ldraw => k_is)
    (case a_Lletters => k_is)
    (case a_Lcells => k_is)
    (case a_Lfits => k_is)
    (case a_Lpairs => k_is)
    (case a_Lparts => k_is)
    (case a_Lletters_of => k_is)
    (case a_Ldue => k_is)
    (case a_Llines_changed => k_is)
    (case a_Lwords_changed => k_is)
    (case a_Lchanged => k_is)
    (case a_Lread => k_is)
    (case a_Lis_right => k_is)
    (case a_law => k_is)
    (case zb_ValueError => k_is)
    (case zb_abs => k_is)
    (case zb_all => k_is)
    (case zb_int => k_is)
    (case zb_isinstance => k_is)
    (case zb_len => k_is)
    (case zb_list => k_is)
    (case zb_range => k_is)
    (case zb_set => k_is)
    (case zb_str => k_is)
    (case pg_Wish => k_is)
    (case hd_Wish => k_is)
    (case po_Wish => k_is)
    (case sa_Wish => k_is)
    (case y_oq_cl_Wish => k_is)
    (case y_oq_gt_Wish => k_is)
    (case y_oq_tk_Wish => k_is)
    (case y_oq_mr_Wish => k_is)
    (case y_sk_Wish_str => k_is)
    (case nna_Wish_given => k_is)
    (case nna_Wish_said => k_is)
    (case nna_Wish_cells => k_is)
    (case nna_Wish_allowed => k_is)
    (case nna_Wish_pairs => k_is)
    (case nna_Wish_kept => k_is)
    (case l_are_letters => k_is)
    (case c_are_letters => k_is)
    (case k_are_letters => k_is)
    (case l_are_different => k_is)
    (case c_are_different => k_is)
    (case k_are_different => k_is)
    (case l_is_pair => k_is)
    (case c_is_pair => k_is)
    (case k_is_pair => k_is)
    (case l_are_pairs => k_is)
    (case c_are_pairs => k_is)
    (case k_are_pairs => k_is)
    (case i_Wish_init => k_is)
    (case l_Wish_init => k_is)
    (case c_Wish_init => k_is)
    (case k_Wish_init => k_is)
    (case m_Wish => k_is)
    (case kc_Wish => k_is)
    (case i_Wishfill => k_is)
    (case l_Wishfill => k_is)
    (case c_Wishfill => k_is)
    (case k_Wishfill => k_is)
    (case i_Wish_given => k_is)
    (case l_Wish_given => k_is)
    (case c_Wish_given => k_is)
    (case k_Wish_given => k_is)
    (case i_Wish_said => k_is)
    (case l_Wish_said => k_is)
    (case c_Wish_said => k_is)
    (case k_Wish_said => k_is)
    (case i_Wish_cells => k_is)
    (case l_Wish_cells => k_is)
    (case c_Wish_cells => k_is)
    (case k_Wish_cells => k_is)
    (case i_Wish_pairs => k_is)
    (case l_Wish_pairs => k_is)
    (case c_Wish_pairs => k_is)
    (case k_Wish_pairs => k_is)
    (case l_wide_wish => k_is)
    (case c_wide_wish => k_is)
    (case k_wide_wish => k_is)
    (case l_wish_text => k_is)
    (case c_wish_text => k_is)
    (case k_wish_text => k_is)
    (case l_read_wish => k_is)
    (case c_read_wish => k_is)
    (case k_read_wish => k_is)
    (case l_Lhand => k_is)
    (case c_Lhand => k_is)
    (case k_Lhand => k_is)
    (case l_Ldraw => k_is)
    (case c_Ldraw => k_is)
    (case k_Ldraw => k_is)
    (case l_Lletters => k_is)
    (case c_Lletters => k_is)
    (case k_Lletters => k_is)
    (case l_Lcells => k_is)
    (case c_Lcells => k_is)
    (case k_Lcells => k_is)
    (case l_Lfits => k_is)
    (case c_Lfits => k_is)
    (case k_Lfits => k_is)
    (case l_Lpairs => k_is)
    (case c_Lpairs => k_is)
    (case k_Lpairs => k_is)
    (case l_Lparts => k_is)
    (case c_Lparts => k_is)
    (case k_Lparts => k_is)
    (case l_Lletters_of => k_is)
    (case c_Lletters_of => k_is)
    (case k_Lletters_of => k_is)
    (case l_Ldue => k_is)
    (case c_Ldue => k_is)
    (case k_Ldue => k_is)
    (case l_Llines_changed => k_is)
    (case c_Llines_changed => k_is)
    (case k_Llines_changed => k_is)
    (case l_Lwords_changed => k_is)
    (case c_Lwords_changed => k_is)
    (case k_Lwords_changed => k_is)
    (case l_Lchanged => k_is)
    (case c_Lchanged => k_is)
    (case k_Lchanged => k_is)
    (case l_Lread => k_is)
    (case c_Lread => k_is)
    (case k_Lread => k_is)
    (case l_Lis_right => k_is)
    (case c_Lis_right => k_is)
    (case k_Lis_right => k_is)
    (case l_law => k_is)
    (case c_law => k_is)
    (case k_law => k_is)
    (case kk_NoText => k_is)
    (case y_xc_NoText => k_exc)
    (case y_sb_NoText => k_is)
    (case y_ty_NoText => k_is)
    (case eg_NoText => k_is)
    (case et_NoText => k_is)
    (case ed_NoText => k_is)
    (case ea_NoText => k_is)
    (case en => k_is)
    (case ek => k_is)
    (case em_NoText => k_is)
    (case ic_NearError => k_is)
    (case y_ty_NearError => k_is)
    (case su_NoText_NearError => first | rfl | k_is)
    (case y_ve_NoText => k_is)
    (case ic_NoText => k_is)
    (case su_NoText_NoText => first | rfl | k_is)
