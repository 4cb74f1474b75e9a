import PyProof.Rows.All
import Wide.All
import OpenK.AllK
import Wide.FinOn
import HandS.ForMost
import HandS.ForExc
import HandS.Walk
import HandS.Evl
import HandS.TryMany
import HandS.SetKeys
import HandS.DictComp
import HandS.IsInst
import HandS.Wide
import KE.GoesNew
import KE.GoesZip
import KE.GoesMore
import HandS.Strs
import KE.KStrWords
import HandS.TupLe
import HandS.RevRange
import HandS.Conv
import HandS.Deep
import PyProof.ListStr
import PyProof.TupleOfStr
import HandS.ListItems
import HandS.WideBits
import HandS.ExcIs
import HandS.Replace
import HandS.Style
import PyProof.Rows.StrRev
import KE.DataCmp
import KE.SortData
import HandS.Defaults
import PySem.Challenge.RW_nearwish_k52_halvings
set_option Elab.async false
set_option linter.all false
set_option maxRecDepth 100000
set_option maxHeartbeats 4000000
/-! Own rules over the hand layer: zip of two texts; own errors without arguments. -/
namespace NW
open PySem PySem.Spec PyProof.Rows L2

/-! ### zip(x, y) of two texts -/
def ItzS (x y : Str) : It :=
  ⟨fun i _ => i < min x.cps.size y.cps.size,
   fun i H v H' => ∃ T c d, v = .ref T ∧ H T = none ∧ H' = upd H T (.tup [.str ⟨#[c]⟩, .str ⟨#[d]⟩]) ∧ x.cps[i]? = some c ∧ y.cps[i]? = some d,
   fun i _ => i = min x.cps.size y.cps.size⟩
def tnZ (z TI TO i1 i2 : Addr) (x y : Str) (t u : Tok) (i : Nat) (h : Heap) : Prop :=
  IsZip h z TI TO .none ∧ IsTupOf2 h TI (.ref i1) (.ref i2) ∧ (∃ a1 a2, IsTupOf2 h TO a1 a2) ∧ h.IsStrIter i1 (strIterType x) x t i ∧ h.IsStrIter i2 (strIterType y) y u i
theorem turn_zipS {P : Program} {w : World} {K : PySem.W.Frag} {elts : List Expr} {kk : Nat} {tpos : Pos} {z TI TO i1 i2 : Addr} {x y : Str} {t u : Tok} (S : ZipSep2 z TI TO i1 i2 [i1] [i2]) :
    Turn P w K (.Tuple elts kk tpos) (ItzS x y) (z :: TI :: TO :: ([i1] ++ [i2])) z (tnZ z TI TO i1 i2 x y t u) where
  mem := by simp
  obj := fun i h st c hc => by
    obtain ⟨hz, hTI, ⟨a1, a2, hTO⟩, ⟨o1, e1, _, d1⟩, ⟨o2, e2, _, d2⟩⟩ := st
    have e' : c = z ∨ c = TI ∨ c = TO ∨ c = i1 ∨ c = i2 := by simpa using hc
    rcases e' with q | q | q | q | q
    · rw [q]; exact ⟨_, hz, fun v q => nomatch q⟩
    · rw [q]; exact ⟨_, hTI, fun v q => nomatch q⟩
    · rw [q]; exact ⟨_, hTO, fun v q => nomatch q⟩
    · rw [q]; exact ⟨o1, e1, fun v q => by rw [d1] at q; cases q⟩
    · rw [q]; exact ⟨o2, e2, fun v q => by rw [d2] at q; cases q⟩
  keep := fun i h h' st k => by
    obtain ⟨hz, hTI, ⟨x, y, hTO⟩, ⟨o1, e1, r1⟩, ⟨o2, e2, r2⟩⟩ := st
    exact ⟨k z (by simp) _ hz, k TI (by simp) _ hTI, ⟨x, y, k TO (by simp) _ hTO⟩, ⟨o1, k i1 (by simp) _ e1, r1⟩, ⟨o2, k i2 (by simp) _ e2, r2⟩⟩
  item := by
    intro X hP hw hK hc i pins s σ H E I hf st hg
    subst hP hw hK
    have Gz : GoesN X.prog X.w X.A (.Tuple elts kk tpos) z (z :: TI :: TO :: ([i1] ++ [i2])) [z, TO, i1, i2] (min x.cps.size y.cps.size) _ _ :=
      GoesN.zip2 S (Draws.text (by exact I.ok.hd hc) i1 x t) (Draws.text (by exact I.ok.hd hc) i2 y u)
    refine wpAny_mono (Gz.goes i s (fun v s2 => ∃ x' H', Inv X pins σ H' s2 ∧ RelV x' v ∧ (ItzS x y).yld i H x' H' ∧ tnZ z TI TO i1 i2 x y t u (i + 1) s2.heap ∧ ∀ b ∈ (z :: TI :: TO :: ([i1] ++ [i2])), H' b = none) E hg st (fun v h' tk hY hst hk htk => ?_)) (fun r s1 q => q) fun _ _ e => e
    obtain ⟨T, vx, vy, rfl, hsz, ⟨c, t1, hcx, rfl⟩, ⟨d, t2, hdy, rfl⟩, hT⟩ := hY
    have hTnone : H T = none := I.hok.fresh hsz
    have hsub : ∀ b ∈ ([z, TO, i1, i2] : List Addr), b ∈ (z :: TI :: TO :: ([i1] ++ [i2])) := Gz.sub
    have new : ObjOk X.prog X.w (upd H T (.tup [.str ⟨#[c]⟩, .str ⟨#[d]⟩])) h' T (.tup [.str ⟨#[c]⟩, .str ⟨#[d]⟩]) :=
      ⟨by show 2 ≤ sizeLine; decide, [.str ⟨#[c]⟩ t1, .str ⟨#[d]⟩ t2], .cons ⟨t1, rfl⟩ (.cons ⟨t2, rfl⟩ .nil), hT⟩
    have I1 : Inv X pins σ (upd H T (.tup [.str ⟨#[c]⟩, .str ⟨#[d]⟩])) { s with heap := h', toks := tk } :=
      I.turnedNew (t' := tk) (ch := (z :: TI :: TO :: ([i1] ++ [i2]))) (fun b o hb q => hk b o (fun q' => hb (hsub b q')) q) hf hsz new
    refine ⟨.ref T, _, I1, rfl, ⟨T, c, d, rfl, hTnone, rfl, hcx, hdy⟩, hst, fun b hb => ?_⟩
    have hlt : b < s.heap.objs.size := by
      obtain ⟨hz, hTI, ⟨a1, a2, hTO⟩, ⟨o1, e1, _⟩, ⟨o2, e2, _⟩⟩ := st
      have e' : b = z ∨ b = TI ∨ b = TO ∨ b = i1 ∨ b = i2 := by simpa using hb
      rcases e' with q | q | q | q | q
      · rw [q]; exact Heap.lt_size hz
      · rw [q]; exact Heap.lt_size hTI
      · rw [q]; exact Heap.lt_size hTO
      · rw [q]; exact Heap.lt_size e1
      · rw [q]; exact Heap.lt_size e2
    rw [upd_ne (Nat.ne_of_lt (Nat.lt_of_lt_of_le hlt hsz))]
    exact (hf b hb).1
  done := by
    intro X hP hw hK hc i pins s σ H E I hf st hg
    subst hP hw hK
    have Gz : GoesN X.prog X.w X.A (.Tuple elts kk tpos) z (z :: TI :: TO :: ([i1] ++ [i2])) [z, TO, i1, i2] (min x.cps.size y.cps.size) _ _ :=
      GoesN.zip2 S (Draws.text (by exact I.ok.hd hc) i1 x t) (Draws.text (by exact I.ok.hd hc) i2 y u)
    have hg' : i = min x.cps.size y.cps.size := hg
    subst hg'
    refine Gz.stops s (fun s1 => Inv X pins σ H s1) E st fun h' tk hk _ => ?_
    exact I.turnedL (t' := tk) (ch := (z :: TI :: TO :: ([i1] ++ [i2]))) (fun b o hb q => hk b o (fun q' => hb (Gz.sub b q')) q) hf
  self := fun A i s Q E st h => wpAny_pyIter_zip st.1 h
def iZipS (ta : TA) : TI := fun σ H R => ta σ H fun vs H1 => ∃ x y, vs = [.str x, .str y] ∧ R (ItzS x y) H1
theorem pi_zipS {X : Cx} {e e2 : Expr} {ta : TA} {p pos tpos : Pos} {elts : List Expr} {kk : Nat} (hg : Gl X "zip") (hm : X.mg "zip" = none) (ha : PA X [e, e2] ta)
    (hs : starEach [e, e2] X.env = (false, eval e X.env) :: starEach [e2] X.env := by rfl) (hpl : (backTo pos (starEach [e2] X.env)).any (·.1) = false := by rfl) :
    PI X (.Tuple elts kk tpos) (.Call (.Name "zip" p) [e, e2] [] pos) (iZipS ta) := by
  refine ⟨fun pins s σ H R I h => ?_⟩
  refine Call_ (ld_blt I hg hm PyProof.Rows.boot_zip (PyProof.Rows.callWith_type1 (thn (ha.run pos pins s σ H _ I h) fun us s1 ⟨vs, H1, I1, r1, q1⟩ => ?_) hs hpl))
  obtain ⟨x, y, ex, q⟩ := q1
  subst ex
  cases r1 with
  | cons r rr =>
    cases rr with
    | cons r' rr =>
      cases rr
      obtain ⟨t, rfl⟩ := r
      obtain ⟨u, rfl⟩ := r'
      refine zip_begins2 (begins_text x t) (begins_text y u) trivial trivial fun h' hz hTI hTO h1 h2 hsz hk => wpAny_pyIter_zip hz ?_
      have I2 : Inv X pins σ H1 { s1 with heap := h' } := I1.kept (t' := s1.toks) hk
      have n1 : s1.heap.objs.size + 4 ≠ s1.heap.objs.size := by omega
      have S : ZipSep2 (s1.heap.objs.size + 4) (s1.heap.objs.size + 2) (s1.heap.objs.size + 3) s1.heap.objs.size (s1.heap.objs.size + 1) [s1.heap.objs.size] [s1.heap.objs.size + 1] := by
        constructor <;> (try simp) <;> (try (intro e; have e2 : (s1.heap.objs.size : Nat) = _ := e; omega))
      refine ⟨s1.heap.objs.size + 4, _, tnZ _ _ _ _ _ x y t u, _, H1, rfl, I2, turn_zipS S, ⟨hz, hTI, ⟨_, _, hTO⟩, ⟨_, h1, rfl, rfl⟩, ⟨_, h2, rfl, rfl⟩⟩, fun c hcm => ?_, q⟩
      have e' : c = s1.heap.objs.size + 4 ∨ c = s1.heap.objs.size + 2 ∨ c = s1.heap.objs.size + 3 ∨ c = s1.heap.objs.size ∨ c = s1.heap.objs.size + 1 := by simpa using hcm
      have hle : s1.heap.objs.size ≤ c := by
        rcases e' with z | z | z | z | z
        · rw [z]; exact Nat.le_add_right _ _
        · rw [z]; exact Nat.le_add_right _ _
        · rw [z]; exact Nat.le_add_right _ _
        · rw [z]; exact Nat.le_refl _
        · rw [z]; exact Nat.le_add_right _ _
      exact I1.fpOk hle (I1.hok.fresh hle)
theorem walk_zipS {x y : Str} : Walk (ItzS x y) (min x.cps.size y.cps.size) (fun _ => True)
    (fun i H v H' => ∃ T c d, v = .ref T ∧ H T = none ∧ H' = upd H T (.tup [.str ⟨#[c]⟩, .str ⟨#[d]⟩]) ∧ x.cps[i]? = some c ∧ y.cps[i]? = some d) :=
  ⟨fun _ _ hi _ => hi, fun _ _ => rfl, fun _ _ _ _ _ _ y => y⟩

/-! ### raise X(), X an own exception class without own __init__ -/
section
variable {X : Cx} {C : Addr} {bmB : List Value} {B newId initId : String}
theorem pmk_own0 {x : Str} {p pos : Pos} (F : ExcBaseFacts B newId initId bmB) (q : PySem.W.excIn X.K C bmB newId = true) (gC : X.mg x = some (.ref C)) (kC : PySem.W.keepIn X.K (.ref C) = true) (r : Raises X (.ref C)) (hg : Gl X x)
    (hdb : (x == ("__debug__" : Str)) = false := by decide) : PMk X (.Call (.Name x p) [] [] pos) (fun _ H Q => Q (.ref C) none H) := by
  intro pins s σ H Q I h
  refine wpAny_Call_Name_kw (ld_glob I hg gC ?_ hdb)
  refine PySem.W.callWith_K0 I.kIn kC ?_
  obtain ⟨bm, N, nm, qn, bs, hdct, sn, sub, ab, col, dd, k0, k1, k2, k3, k5, mN, hC, hN, hni, T⟩ := exc_obj I.kIn q
  show wpAny _ _ (call (.ref C) []) _ _ _
  refine wpAny_call_exc_subT F T hC hN hni (fun h' e hm => ?_) (by show 0 ≤ sizeLine; exact Nat.zero_le _)
  exact mk_of I hm r h (I.hok.gone hm.new)
end
end NW

/-! Own rules: len(set(x)), x a text. -/
namespace NW
open PySem PySem.Spec PyProof.Rows L2

/-- how many different signs stand in the first i of xs -/
def dif (f : Nat → Nat) : Nat → Nat
  | 0 => 0
  | i + 1 => if (List.range i).any (fun j => f j == f i) = true then dif f i else dif f i + 1
theorem dif_le (f : Nat → Nat) : ∀ i, dif f i ≤ i
  | 0 => Nat.le_refl _
  | i + 1 => by
    unfold dif
    have h := dif_le f i
    split <;> omega
def sg (c : Nat) : Str := ⟨#[c]⟩
theorem sg_inj {a b : Nat} (h : sg a = sg b) : a = b := by
  unfold sg at h
  injection h with h
  simpa using h
def had (f : Nat → Nat) (i : Nat) (k : Str) : Bool := (List.range i).any fun j => decide (k = sg (f j))
theorem had_sg (f : Nat → Nat) (i c : Nat) : had f i (sg c) = (List.range i).any fun j => f j == c := by
  unfold had
  congr 1
  funext j
  by_cases h : f j = c
  · subst h; simp
  · have h1 : ¬ sg c = sg (f j) := fun e => h (sg_inj e).symm
    rw [decide_eq_false h1]
    exact (beq_eq_false_iff_ne.mpr h).symm
theorem had_succ (f : Nat → Nat) (i : Nat) (k : Str) : had f (i + 1) k = (had f i k || decide (k = sg (f i))) := by
  unfold had
  rw [List.range_succ, List.any_append]
  simp

section
variable {prog : Program} {w : World} {A : Around} {R : Result → Shared → Prop} {I : Addr} {fp wr : List Addr} {G : Array GenState → Array GenState → Prop} {n : Nat} {P : Nat → Value → Prop} {St : Nat → Shared → Prop}
theorem loopSigns (W : WalksS prog w A.in1 I fp wr G n P St) (S : Addr) (hSf : S ∉ fp) (f : Nat → Nat) (hn1 : n < 4000)
    (hval : ∀ i v, P i v → ∃ t, v = .str (sg (f i)) t) :
    ∀ (k i : Nat) (s : Shared), n - i = k → i ≤ n → St i s →
      s.heap.SetOf (PySem.strKind prog w) S (had f i) (dif f i) →
      (∀ s', Moved (S :: wr) G s s' → s'.heap.SetOf (PySem.strKind prog w) S (had f n) (dif f n) → R (.ok (.ret .none)) s') →
      codeAny (model prog w) A (.builtin "set.update.loop" ⟨[.ref S, .ref I], []⟩) R s := by
  have hSw : S ∉ wr := fun h => hSf (W.sub _ h)
  have hsub : ∀ b ∈ wr, b ∈ S :: wr := fun b hb => List.mem_cons_of_mem _ hb
  intro k
  induction k with
  | zero =>
    intro i s hk hi hst hS hR
    obtain rfl : i = n := by omega
    refine codeAny_builtin PyProof.Rows.F.entry_set_update_loop ?_
    rw [Around.under_plainId PyProof.Rows.F.plain_set_update_loop _]
    show wpAny _ A.in1 (pyNext (.ref I) >>= _) _ _ s
    refine wpAny_bind (W.done s _ _ hst fun s' hm => ?_)
    show wpAny _ A.in1 (ret Value.none) _ _ s'
    exact wpAny_pure (hR s' (hm.mono hsub) (by
      obtain ⟨o, es, ep, t, ho, rest⟩ := hS
      exact ⟨o, es, ep, t, hm.heap S _ hSw ho, rest⟩))
  | succ k ih =>
    intro i s hk hi hst hS hR
    have hlt : i < n := by omega
    refine codeAny_builtin PyProof.Rows.F.entry_set_update_loop ?_
    rw [Around.under_plainId PyProof.Rows.F.plain_set_update_loop _]
    show wpAny _ A.in1 (pyNext (.ref I) >>= _) _ _ s
    refine wpAny_bind (W.item i s _ _ hlt hst fun v s' hP hst' hm => ?_)
    obtain ⟨t, rfl⟩ := hval i v hP
    have hS' : s'.heap.SetOf (PySem.strKind prog w) S (had f i) (dif f i) := by
      obtain ⟨o, es, ep, tb, ho, rest⟩ := hS
      exact ⟨o, es, ep, tb, hm.heap S _ hSw ho, rest⟩
    show wpAny _ A.in1 (holding [Value.str (sg (f i)) t] (setAdd S (.str (sg (f i)) t)) >>= _) _ _ s'
    refine wpAny_bind (wpAny_holding ?_)
    unfold setAdd
    refine wpAny_holding ?_
    refine wpAny_bind ((PySem.strKind prog w).pyHash (k := sg (f i)) (strKind_is _ _ _ _) ?_)
    refine wpAny_setAddHashed_of (knd := PySem.strKind prog w) (s := { s' with toks := s'.toks + 1 }) (strKind_is _ _ _ _) rfl hS' (by have := dif_le f i; unfold scanBound; omega) fun h' hsb hS2 => ?_
    have hSi : h'.SetOf (PySem.strKind prog w) S (had f (i + 1)) (dif f (i + 1)) := by
      refine SetOf_congr hS2 (fun k' => (had_succ f i k').symm) ?_
      rw [had_sg]
      rfl
    refine wpAny_pure ⟨plainId_quiet PyProof.Rows.F.plain_set_update_loop _, ih (i + 1) _ (by omega) hlt (W.frame _ s' _ _ hst' (Nat.le_succ _) fun b hb o e => ?_) hSi fun s'' hm'' hS'' => ?_⟩
    · rw [hsb.2 b (fun h : b = S => hSf (by rw [← h]; exact hb))]; exact e
    · refine hR s'' (Moved.trans W.gtrans ((hm.mono hsub).then_heap (Nat.le_succ _) fun b o hb e => ?_) hm'') hS''
      rw [hsb.2 b (fun h : b = S => hb (by rw [h]; exact List.mem_cons_self))]; exact e
end

section
variable {prog : Program} {w : World} {A : Around} {E : Value → Shared → Prop} {s : Shared}
theorem walks_text (hh : A.handled = none) (I : Addr) (x : Str) (t : Tok) :
    Walks prog w A I [I] [I] x.cps.size (SignAt x) (fun i h => h.IsStrIter I (strIterType x) x t i) := by
  cases ha : x.cps.all (· < 128)
  · simp only [strIterType, ha, Bool.false_eq_true, if_false]
    exact .strWide hh I x t
  · simp only [strIterType, ha, if_true]
    exact .strAscii hh I x t
theorem call_set_text {x : Str} {t : Tok} {Q : Value → Shared → Prop}
    (hh : A.handled = none) (hn1 : x.cps.size < 4000)
    (h : ∀ (h' : Heap) (tk : Nat), h'.SetOf (PySem.strKind prog w) s.heap.objs.size (had (fun i => x.cps.getD i 0) x.cps.size) (dif (fun i => x.cps.getD i 0) x.cps.size) →
      (∀ b o, b < s.heap.objs.size → s.heap.get? b = some o → h'.get? b = some o) → Q (.ref s.heap.objs.size) { s with heap := h', toks := tk }) :
    wpAny (model prog w) A (call (.type "set") [.str x t]) Q E s := by
  obtain ⟨c, tl, hmro⟩ := PySem.F.called_set.mro
  have hmade := PySem.F.called_set.made
  have hsub := PySem.F.called_set.sub
  refine wpAny_call (codeAny_of_tree ?_)
  show wpAny _ _ (callAny (.type "set") _) _ _ _
  refine wpAny_pure ⟨Code.quiet_builtin _ (by decide +kernel), codeAny_builtin PySem.F.entry_type_call ?_⟩
  rw [Around.under_plain (weight_type_call_type "set" [.str x t] []) rfl]
  have h1 := PySem.F.called_set.notType
  have h2 := PySem.F.called_set.canCreate
  have hct := PySem.F.typeCall_set_1 (.str x t)
  repeat (any_goals (first | assumption | wp_step))
  refine codeAny_mono (code_set_new_1 (.str x t) (E := E) (Q₁ := fun obj s₁ => ∃ led : Bool, obj = .ref s.heap.objs.size ∧ s₁ = { s with heap := s.heap.push { cls := .type "set", dict := none, data := .set #[] 0 (.fresh 0 0 led) } }) fun led => ⟨led, rfl, rfl⟩) fun r s₁ hr => ?_
  cases r with
  | error e => exact hr
  | ok fl =>
    cases fl with
    | ret obj =>
      obtain ⟨led, rfl, rfl⟩ := hr
      have hS : (s.heap.push { cls := .type "set", dict := none, data := .set #[] 0 (.fresh 0 0 led) }).get? s.heap.objs.size = some { cls := .type "set", dict := none, data := .set #[] 0 (.fresh 0 0 led) } := Heap.get?_push_size _ rfl
      have hT : Shared.TypeIs { s with heap := s.heap.push { cls := .type "set", dict := none, data := .set #[] 0 (.fresh 0 0 led) } } (.ref s.heap.objs.size) "set" := ⟨_, hS, rfl⟩
      have hli := PySem.F.called_set.init.lookup
      have hbi := PySem.F.called_set.init.bind (.ref s.heap.objs.size)
      repeat (any_goals (first | assumption | wp_step))
      refine codeAny_mono (codeAny_call_builtin (R := wants (fun r s₂ => r = .none ∧ ∃ h' tk, s₂ = { s with heap := h', toks := tk } ∧
          h'.SetOf (PySem.strKind prog w) s.heap.objs.size (had (fun i => x.cps.getD i 0) x.cps.size) (dif (fun i => x.cps.getD i 0) x.cps.size) ∧
          (∀ b o, b < s.heap.objs.size → s.heap.get? b = some o → h'.get? b = some o)) E) PySem.F.called_set.init.plain PySem.F.entry_set_init (check_set_init_1 hT ?_)) fun r₂ s₂ hr₂ => ?_
      · have hsls := PySem.F.sub_str_set
        have hslf := PySem.F.sub_str_frozenset
        have hne : (Value.type "str" == Value.type "dict") = false := by decide
        unfold Builtin.«set.__init__» noKeywords Builtin.Frozenset.updateFrom
        generalize hPI : pyIter = PI
        wp_walk
        subst hPI
        refine wpAny_pyIter_strU ?_
        refine wpAny_bind (wpAny_runValue ?_)
        have hh3 : A.in1.in1.in1.handled = none := by simp [hh]
        have hSf : s.heap.objs.size ∉ [(s.heap.push { cls := .type "set", dict := none, data := .set #[] 0 (.fresh 0 0 led) }).objs.size] := by
          rw [Heap.size_push]; simp only [List.mem_cons, List.mem_singleton, List.not_mem_nil, or_false]
          exact Nat.ne_of_lt (Nat.lt_succ_self _)
        have hval : ∀ (i : Nat) (v : Value), SignAt x i v → ∃ t, v = .str (sg (x.cps.getD i 0)) t := fun i v ⟨c, u, hc, hv⟩ => ⟨u, by
          rw [hv]
          have e : x.cps.getD i 0 = c := by simp [Array.getD_eq_getD_getElem?, hc]
          rw [e]
          rfl⟩
        refine loopSigns ((walks_text hh3 _ x t).toS) s.heap.objs.size
          hSf (fun i => x.cps.getD i 0) hn1 hval (x.cps.size - 0) 0 _ (by omega) (Nat.zero_le _)
          ⟨_, Heap.get?_push_size _ rfl, rfl, rfl⟩ ?hS0 ?hR
        case hS0 =>
          have hget : ((s.heap.push { cls := .type "set", dict := none, data := .set #[] 0 (.fresh 0 0 led) }).push { cls := .type (strIterType x), data := .fields #[.str x t, .int 0 0] }).get? s.heap.objs.size
              = some { cls := .type "set", dict := none, data := .set #[] 0 (.fresh 0 0 led) } := Heap.get?_push_of_some _ hS
          exact PyProof.Rows.SetOf_congr ((PyProof.Rows.setObjOf_fresh (knd := PySem.strKind prog w) led).setOf hget (by unfold scanBound; omega)) (fun _ => rfl) rfl
        case hR =>
          intro s' hm hS'
          obtain ⟨h', g', d', tk', os'⟩ := s'
          have eg : g' = s.gens := hm.gens
          have ed : d' = s.drawn := hm.drawn
          have eo : os' = s.os := hm.os
          subst eg; subst ed; subst eo
          show wpAny _ _ _ _ _ _
          refine wpAny_pure ?_
          show wpAny _ _ (ret Value.none) _ _ _
          refine wpAny_pure ⟨rfl, h', tk', rfl, hS', fun b o hb e => ?_⟩
          have hb1 : b ≠ s.heap.objs.size := Nat.ne_of_lt hb
          have hb2 : b ≠ (s.heap.push { cls := .type "set", dict := none, data := .set #[] 0 (.fresh 0 0 led) }).objs.size := by
            rw [Heap.size_push]; exact Nat.ne_of_lt (Nat.lt_succ_of_lt hb)
          exact hm.heap b o (by simp only [List.mem_cons, List.mem_singleton, List.not_mem_nil, or_false, not_or]; exact ⟨hb1, hb2⟩) (Heap.get?_push_of_some _ (Heap.get?_push_of_some _ e))
      · cases r₂ with
        | error e => exact hr₂
        | ok fl₂ =>
          cases fl₂ with
          | ret r =>
            obtain ⟨rfl, h', tk, rfl, hS', hk'⟩ := hr₂
            repeat (any_goals (first | assumption | wp_step))
            exact h _ _ hS' hk'
          | _ => exact hr₂.elim
    | _ => exact hr.elim
end

section
variable {X : Cx}
/-- len(set(x)), x a text -/
def tLenSetT (ta : TE) : TE := fun σ H Q => ta σ H fun v H1 => ∃ x : Str, v = .str x ∧ x.cps.size < 4000 ∧ Q (.int (dif (fun i => x.cps.getD i 0) x.cps.size : Nat)) H1
theorem pe_lenSetT {a : Expr} {ta : TE} {p p2 q pos : Pos} (hc : X.calm = true) (hg : Gl X "len") (hm : X.mg "len" = none) (hg2 : Gl X "set") (hm2 : X.mg "set" = none) (ha : PE X a ta)
    (na : starEach [a] X.env = (false, eval a X.env) :: starEach [] X.env := by rfl) : PE X (.Call (.Name "len" p) [.Call (.Name "set" p2) [a] [] q] [] pos) (tLenSetT ta) := by
  refine ⟨fun pins s σ H Q I h => ?_⟩
  refine Call_ (ld_blt I hg hm boot_len ?_)
  refine PyProof.Rows.callWith_builtin1 (PyProof.Rows.args_cons ?_ rfl) rfl rfl
  refine Call_ (ld_blt I hg2 hm2 boot_set ?_)
  refine PyProof.Rows.callWith_type1 (PyProof.Rows.args_cons (thn (ha.run pins s σ H _ I h) fun v s1 ⟨y, H1, I1, r1, q1⟩ => PyProof.Rows.args_nil ?_) na) na rfl
  obtain ⟨x, rfl, h1, q1⟩ := q1
  obtain ⟨t, rfl⟩ := r1
  refine call_set_text (I1.ok.hd hc) h1 fun h' tk hS hk => ?_
  refine PyProof.Rows.args_nil ?_
  obtain ⟨o, es, ep, t, ho, hex, hd, _, _, _, hf, hn⟩ := hS
  have I2 : Inv X pins σ H1 { s1 with heap := h', toks := tk } := I1.kept fun b o e => hk b o (Heap.lt_size e) e
  have hle := dif_le (fun i => x.cps.getD i 0) x.cps.size
  refine call_len_set ho hex hd hf (by rw [hn]; omega) ⟨.int (dif (fun i => x.cps.getD i 0) x.cps.size : Nat), H1, I2.tok _, ⟨_, by rw [hn]⟩, q1⟩
end
end NW

/-! Own rules: x[lo:hi:2] of a text. -/
namespace NW
open PySem PySem.Spec PyProof.Rows L2

/-- the signs at every second place -/
def stepS (z : Str) (lo hi : Option Int) (c : Int) : Str := ⟨((Builtin.Str.strSliceIndices lo hi c z.length).filterMap (z.cps[·]?)).toArray⟩
def tStepS (te : TE) (tl th : TO) (c : Int) : TE := fun σ H Q => te σ H fun v H1 => tl σ H1 fun lo H2 => th σ H2 fun hi H3 => ∃ z : Str, v = .str z ∧ (stepS z lo hi c).length ≤ sizeLine ∧ Q (.str (stepS z lo hi c)) H3
section
variable {X : Cx} {e : Expr} {te : TE} {lo hi : Option Expr} {tl th : TO}
theorem pe_stepS {c : Int} {k : Nat} {p1 p2 pos : Pos} (hc : 2 ≤ c) (he : PE X e te) (hl : PO X lo tl) (hu : PO X hi th) :
    PE X (.Subscript e (.Slice lo hi (some (.Constant (.int c) k p1)) p2) pos) (tStepS te tl th c) := by
  refine ⟨fun pins s σ H Q I h => ?_⟩
  refine Subscript_ (thn (he.run pins s σ H _ I h) fun v s1 ⟨x, H1, I1, r1, q1⟩ => ?_)
  have hst : PO X (some (.Constant (.int c) k p1)) (tPart (tC (.int c))) := po_some pe_int
  refine wpAny_Slice (thn (hl.run pins s1 σ H1 _ I1 q1) fun vl s2 ⟨l, H2, I2, pl, q2⟩ => thn (hu.run pins s2 σ H2 _ I2 q2) fun vu s3 ⟨u, H3, I3, pu, q3⟩ => ?_)
  refine thn (hst.run pins s3 σ H3 (fun o H4 => o = some c ∧ H4 = H3) I3 ⟨c, rfl, rfl, rfl⟩) fun vs s4 ⟨o, H4, I4, ps, eo, e4⟩ => ?_
  subst eo e4
  obtain ⟨z, rfl, hz, q⟩ := q3
  obtain ⟨t, rfl⟩ := r1
  obtain ⟨l, rfl, rfl⟩ := IsPart.raw pl
  obtain ⟨u, rfl, rfl⟩ := IsPart.raw pu
  obtain ⟨w', rfl, hw⟩ := IsPart.raw ps
  have I5 : Inv X pins σ H4 { s4 with heap := s4.heap.push { cls := .type "slice", data := .fields #[partValue l, partValue u, partValue w'] } } := I4.kept (t' := s4.toks) fun b ob q => Heap.get?_push_of_some _ q
  show wpAny (model X.prog X.w) X.A (subscriptTail e (.Slice lo hi (some (.Constant (.int c) k p1)) p2) (.str z t) (.ref s4.heap.objs.size)) (EP X pins σ Q) X.xe { s4 with heap := s4.heap.push { cls := .type "slice", data := .fields #[partValue l, partValue u, partValue w'] } }
  have hstep : (w'.map (·.1)).getD 1 = c := by rw [hw]; rfl
  refine tail_any (ops := [.ref s4.heap.objs.size, .str z t]) (typeIs_str _ _ _) PySem.F.slot_str_getitem.lookup ?_ (by with_unfolding_all rfl)
  refine wpAny_getItem_str_slice (l := l) (u := u) (st := w') ⟨_, Heap.get?_push_size _ rfl, rfl, rfl⟩ (by rw [hstep]; exact beq_eq_false_iff_ne.mpr (by omega)) ?_
  have e0 : sliceMade z t l u w' = Made.str (stepS z (l.map (·.1)) (u.map (·.1)) c) := by
    unfold sliceMade
    rw [if_neg]
    · unfold slicePicked stepS
      rw [hstep]
    · rw [hstep, Bool.and_eq_true, not_and]
      intro h
      exact absurd (beq_iff_eq.mp h) (by omega)
  rw [e0]
  exact ⟨hz, .str _, H4, I5.tok _, ⟨_, rfl⟩, q⟩
end
theorem ix_even : Builtin.Str.strSliceIndices none none 2 4 = [0, 2] := by decide +kernel
theorem ix_odd : Builtin.Str.strSliceIndices (some 1) none 2 4 = [1, 3] := by decide +kernel
theorem stepS_even {a b c d : Nat} : stepS ⟨#[a, b, c, d]⟩ none none 2 = ⟨#[a, c]⟩ := by
  show (⟨((Builtin.Str.strSliceIndices none none 2 4).filterMap ((#[a, b, c, d] : Array Nat)[·]?)).toArray⟩ : Str) = _
  rw [ix_even]
  rfl
theorem stepS_odd {a b c d : Nat} : stepS ⟨#[a, b, c, d]⟩ (some 1) none 2 = ⟨#[b, d]⟩ := by
  show (⟨((Builtin.Str.strSliceIndices (some 1) none 2 4).filterMap ((#[a, b, c, d] : Array Nat)[·]?)).toArray⟩ : Str) = _
  rw [ix_odd]
  rfl
end NW

/-! Texts as lists of signs; readings one rule at a time; heaps. -/
namespace NW
open PySem PySem.Spec PyProof.Rows L2

/-! ### texts -/
def tx (l : List Nat) : Str := ⟨l.toArray⟩
theorem tx_append (l m : List Nat) : tx l ++ tx m = tx (l ++ m) := by
  show (⟨l.toArray ++ m.toArray⟩ : Str) = ⟨(l ++ m).toArray⟩
  simp
theorem tx_length (l : List Nat) : (tx l).length = l.length := by
  show l.toArray.size = _
  simp
theorem tx_size (l : List Nat) : (tx l).cps.size = l.length := tx_length l
theorem tx_list (l : List Nat) : (tx l).cps.toList = l := rfl
theorem tx_get (l : List Nat) (i : Nat) : (tx l).cps[i]? = l[i]? := by
  show l.toArray[i]? = l[i]?
  simp
theorem tx_inj {l m : List Nat} (h : tx l = tx m) : l = m := by
  have := congrArg (fun s => s.cps.toList) h
  simpa [tx_list] using this
theorem tx_eq {l m : List Nat} : tx l = tx m ↔ l = m := ⟨tx_inj, fun h => by rw [h]⟩
theorem tx_of (s : Str) : s = tx s.cps.toList := by
  show s = ⟨s.cps.toList.toArray⟩
  simp
theorem sg_tx (c : Nat) : sg c = tx [c] := rfl
theorem one_tx (c : Nat) : (⟨#[c]⟩ : Str) = tx [c] := rfl
theorem empty_tx : ("" : Str) = tx [] := by decide +kernel

/-! ### rules by values in one -/
section
variable {X : Cx}
def rAddA : R2 := fun x y H Q => rI0 (fun i j => .int (i + j)) x y H Q ∨ (∃ i j, x = .str i ∧ y = .str j ∧ i.length + j.length ≤ sizeLine ∧ Q (.str (i ++ j)) H) ∨ rCat x y H Q
theorem op_addA : OpR X (binaryOp .Add) rAddA := op_add.or (op_add_str.or op_cat)
def rSlA2 (K : PySem.W.Frag) : V → Option Int → Option Int → Hp → VK → Prop := fun x lo hi H Q => rSlL K x lo hi H Q ∨ rSlS x lo hi H Q
theorem sl_any : SlR X (rSlA2 X.K) := SlR.or sl_list sl_str
def rLenA (K : PySem.W.Frag) : List V → Hp → VK → Prop := fun xs H Q => ∃ x n, xs = [x] ∧ LenV K x H n ∧ Q (.int (n : Nat)) H
theorem call_lenA : CallR X (.builtin "len") (rLenA X.K) := call_len
def rAbs : List V → Hp → VK → Prop := fun xs H Q => ∃ i, xs = [.int i] ∧ Q (.int (if i < 0 then -i else i)) H
theorem call_absA : CallR X (.builtin "abs") rAbs := call_abs
def rInt : List V → Hp → VK → Prop := fun xs H Q => (∃ i, xs = [.int i] ∧ Q (.int i) H) ∨ ∃ k, xs = [.bl k] ∧ Q (.int (if k then 1 else 0)) H
theorem call_intA : CallR X (.type "int") rInt := call_int1
def rInSg : R2 := fun x y H Q => ∃ (c : Nat) (z : Str), x = .str ⟨#[c]⟩ ∧ y = .str z ∧ Q (.bl (decide (c ∈ z.cps.toList))) H
theorem op_inSg : OpR X (compareOp .In) rInSg := op_in_sign
def rNotInSg : R2 := fun x y H Q => ∃ (c : Nat) (z : Str), x = .str ⟨#[c]⟩ ∧ y = .str z ∧ Q (.bl (!decide (c ∈ z.cps.toList))) H
theorem op_notInSg : OpR X (compareOp .NotIn) rNotInSg := op_notIn_sign
def rListA (K : PySem.W.Frag) : List V → Hp → VK → Prop := fun xs H Q => ∃ p ys, xs = [.ref p] ∧ (SqL K H p ys ∨ SqT K H p ys) ∧ ∀ l, H l = none → Q (.ref l) (upd H l (.lst ys))
theorem call_listA : CallR X (.type "list") (rListA X.K) := call_list_of
/-! the same with the written part told -/
section
variable {K : PySem.W.Frag}
theorem ix_seqK (h : X.K = K) : IxR X (rIx K) := h ▸ ix_seq
theorem sl_anyK (h : X.K = K) : SlR X (rSlA2 K) := h ▸ sl_any
theorem call_lenK (h : X.K = K) : CallR X (.builtin "len") (rLenA K) := h ▸ call_lenA
theorem call_isiK1 (h : X.K = K) : CallR X (.builtin "isinstance") (rIsi K) := h ▸ call_isi
theorem cr_allK (h : X.K = K) (hc : X.calm = true) : CallR X (.builtin "all") (rAll K) := h ▸ cr_all hc
theorem cr_anyK (h : X.K = K) (hc : X.calm = true) : CallR X (.builtin "any") (rAny K) := h ▸ cr_any hc
theorem cr_sumK (h : X.K = K) (hc : X.calm = true) : CallR X (.builtin "sum") (rSum K) := h ▸ cr_sum hc
theorem call_listK (h : X.K = K) : CallR X (.type "list") (rListA K) := h ▸ call_listA
theorem op_eqDK (h : X.K = K) (hu : X.A.units + 64 < cLine) : OpR X (compareOp .Eq) (rEqD K) := h ▸ op_eqD hu
theorem op_neDK (h : X.K = K) (hu : X.A.units + 64 < cLine) : OpR X (compareOp .NotEq) (rNeD K) := h ▸ op_neD hu
theorem op_in_seqK (h : X.K = K) : OpR X (compareOp .In) (rIn K false) := h ▸ op_in_seq
theorem op_notIn_seqK (h : X.K = K) : OpR X (compareOp .NotIn) (rIn K true) := h ▸ op_notIn_seq
theorem pe_fldK {e : Expr} {ta : TE} {f : Str} {pos : Pos} (h : X.K = K) (he : PE X e ta) (hb : attributeBase e f X.env (eval e X.env) = eval e X.env) : PE X (.Attribute e f pos) (tFld K ta f) := h ▸ pe_fld he hb
theorem pi_listK {tg l : Expr} {tl : TE} (h : X.K = K) (hl : PE X l tl) : PI X tg l (iList K tl) := h ▸ pi_list hl
theorem pi_tupK {tg l : Expr} {tl : TE} (h : X.K = K) (hl : PE X l tl) : PI X tg l (iTup K tl) := h ▸ pi_tup hl
theorem pg_tupK {es : List Expr} {k : Nat} {pos : Pos} {t : TGs} {n : Nat} (h : X.K = K) (hc : X.calm = true) (hg : PGs X es t)
    (hn : (assignEach es X.env).length = n := by rfl) (hst : (assignEach es X.env).findIdx? (·.1) = none := by rfl) : PG X (.Tuple es k pos) (gTup K n t) := h ▸ pg_tup hc hg hn hst
theorem pe_bmK {T name : String} {id : String} {r : V → List V → Hp → VK → Prop} {o e : Expr} {es : List Expr} {to : TE} {t : TA} {nm : Str} {apos cpos : Pos}
    (h : X.K = K) (p : PE X (.Call (.Attribute o nm apos) (e :: es) [] cpos) (tBM X.K T r to t)) : PE X (.Call (.Attribute o nm apos) (e :: es) [] cpos) (tBM K T r to t) := h ▸ p
theorem pe_bm0K {T : String} {r : V → List V → Hp → VK → Prop} {o : Expr} {to : TE} {nm : Str} {apos cpos : Pos}
    (h : X.K = K) (p : PE X (.Call (.Attribute o nm apos) [] [] cpos) (tBM0 X.K T r to)) : PE X (.Call (.Attribute o nm apos) [] [] cpos) (tBM0 K T r to) := h ▸ p
end
theorem hu64 {A : Around} {k : Nat} (hr : Room k A) : A.units + 64 < cLine := by have := hr.un; omega
theorem hu65 {A : Around} {k : Nat} (hr : Room k A) : A.units + 65 < cLine := by have := hr.un; omega
end

/-! ### readings, one rule at a time -/
section
variable {σ : L2.St} {H : Hp} {Q : VK} {D : Ends} {ta tb te tc : TE} {t u : TT} {tA : TA} {ts tu tw : TS} {g : TG} {QT : Bool → Hp → Prop} {QA : List V → Hp → Prop} {QO : Option Int → Hp → Prop}
theorem rd_seq (h : ts { D with nx := tu D } σ H) : tSeq ts tu D σ H := h
theorem rd_asg (h : te σ H fun x H1 => g x σ H1 D.nx) : tAsg te g D σ H := h
theorem rd_name {i : Nat} {v : V} {q : L2.St → Hp → Prop} (h : q (σ.set i (some v)) H) : gName i v σ H q := h
theorem rd_ret (h : te σ H D.rt) : tRet te D σ H := h
theorem rd_drop (h : te σ H fun _ H1 => D.nx σ H1) : tDrop te D σ H := h
theorem rd_next (h : D.nx σ H) : tNext D σ H := h
theorem rd_ifS (h : t σ H fun b H1 => if b = true then ts D σ H1 else tu D σ H1) : tIfS t ts tu D σ H := h
theorem rd_var {i : Nat} {v : V} (e : σ[i]? = some (some v)) (h : Q v H) : tVar i σ H Q := ⟨v, e, h⟩
theorem rd_c {v : V} (h : Q v H) : tC v σ H Q := h
theorem rd_op {r : R2} (h : ta σ H fun x H1 => tb σ H1 fun y H2 => r x y H2 Q) : tOp r ta tb σ H Q := h
theorem rd_un {r : V → Hp → VK → Prop} (h : ta σ H fun x H1 => r x H1 Q) : tUn r ta σ H Q := h
theorem rd_test (h : te σ H fun x H1 => ∃ k, x = .bl k ∧ QT k H1) : tTest te σ H QT := h
theorem rd_B (h : te σ H fun x H1 => ∃ k, x = .bl k ∧ QT k H1) : tB te σ H QT := h
theorem rd_bl {b : Bool} (h : QT b H) : ∃ k, (V.bl b) = .bl k ∧ QT k H := ⟨b, rfl, h⟩
theorem rd_not (h : t σ H fun c H1 => QT (!c) H1) : tNot t σ H QT := h
theorem rd_and (h : t σ H fun c H1 => if c = true then u σ H1 QT else QT false H1) : tAnd t u σ H QT := h
theorem rd_or (h : t σ H fun c H1 => if c = true then QT true H1 else u σ H1 QT) : tOr t u σ H QT := h
theorem rd_andV (h : ta σ H fun x H1 => ∃ c, x = .bl c ∧ if c = true then tb σ H1 Q else Q (.bl false) H1) : tAndV ta tb σ H Q := h
theorem rd_orV (h : ta σ H fun x H1 => ∃ c, x = .bl c ∧ if c = true then Q (.bl true) H1 else tb σ H1 Q) : tOrV ta tb σ H Q := h
theorem rd_notV (h : ta σ H fun x H1 => ∃ c, x = .bl c ∧ Q (.bl (!c)) H1) : tNotV ta σ H Q := h
theorem rd_blI {b : Bool} {P : Bool → Prop} (h : P b) : ∃ k, (V.bl b) = .bl k ∧ P k := ⟨b, rfl, h⟩
theorem rd_if (h : t σ H fun c H1 => if c = true then ta σ H1 Q else tb σ H1 Q) : tIf t ta tb σ H Q := h
theorem rd_nil (h : QA [] H) : tNil σ H QA := h
theorem rd_cons (h : te σ H fun x H1 => tA σ H1 fun xs H2 => QA (x :: xs) H2) : tCons te tA σ H QA := h
theorem rd_cb {r : List V → Hp → VK → Prop} (h : tA σ H fun vs H1 => r vs H1 Q) : tCB r tA σ H Q := h
theorem rd_tup (h : tA σ H fun xs H1 => xs.length ≤ sizeLine ∧ ∀ p, H1 p = none → Q (.ref p) (upd H1 p (.tup xs))) : tTup tA σ H Q := h
theorem rd_lst (h : tA σ H fun xs H1 => xs.length ≤ sizeLine ∧ ∀ p, H1 p = none → Q (.ref p) (upd H1 p (.lst xs))) : tLst tA σ H Q := h
theorem rd_sl {r : V → Option Int → Option Int → Hp → VK → Prop} {tl th : TO} (h : te σ H fun x H1 => tl σ H1 fun l H2 => th σ H2 fun v H3 => r x l v H3 Q) : tSl r te tl th σ H Q := h
theorem rd_none (h : QO none H) : tNoPart σ H QO := h
theorem rd_some (h : te σ H fun x H1 => ∃ i, x = .int i ∧ QO (some i) H1) : tPart te σ H QO := h
theorem rd_int {i : Int} {P : Int → Prop} (h : P i) : ∃ k, (V.int i) = .int k ∧ P k := ⟨i, rfl, h⟩
theorem rd_callS {sp : Sp} {E : L2.St → XK} (h : tA σ H fun vs H1 => sp vs H1 Q (E σ)) : tCallS sp E tA σ H Q := h
theorem rd_call {sp : Sp} {dvs : List V} {E : XK} (h : tA σ H fun vs H1 => sp (vs ++ dvs) H1 Q E) : tCall sp dvs E tA σ H Q := h
theorem rd_fld {K : PySem.W.Frag} {f : Str} (h : te σ H fun x H1 => ∃ a C dx fs v, x = .ref a ∧ H1 a = some (.ins C dx fs) ∧ Cls K C ∧ NoAttr K C f ∧ fs.lookup f = some v ∧ Q v H1) : tFld K te f σ H Q := h
theorem rd_meth {C : Addr} {m : Str} {sp : Sp} {dvs : List V} {E : XK} (h : te σ H fun x H1 => ∃ a dx fs, x = .ref a ∧ H1 a = some (.ins C dx fs) ∧ fs.lookup m = none ∧ tA σ H1 fun vs H2 => sp (x :: (vs ++ dvs)) H2 Q E) : tMeth C m sp dvs E te tA σ H Q := h
theorem rd_din {td ty : TE} (h : ty σ H fun y H1 => td σ H1 fun x H2 => ∃ a o, x = .ref a ∧ DGet H2 a y o ∧ Q (.bl o.isSome) H2) : tDIn ty td σ H Q := h
theorem rd_dnotin {td ty : TE} (h : ty σ H fun y H1 => td σ H1 fun x H2 => ∃ a o, x = .ref a ∧ DGet H2 a y o ∧ Q (.bl (!o.isSome)) H2) : tDNotIn ty td σ H Q := h
theorem rd_dget {td ty : TE} (h : td σ H fun x H1 => ty σ H1 fun y H2 => ∃ a v, x = .ref a ∧ DGet H2 a y (some v) ∧ Q v H2) : tDGet td ty σ H Q := h
theorem rd_dput {td ty tv : TE} (h : tv σ H fun v H1 => td σ H1 fun x H2 => ty σ H2 fun y H3 => ∃ a H4, x = .ref a ∧ DPut H3 a y v H4 ∧ D.nx σ H4) : sDPut td ty tv D σ H := h
theorem rd_sfld {K : PySem.W.Frag} {f : Str} {tv : TE} (h : tv σ H fun y H1 => ta σ H1 fun x H2 => ∃ a C dx fs, x = .ref a ∧ H2 a = some (.ins C dx fs) ∧ Cls K C ∧ NoAttr K C f ∧ fs.length < 1000 ∧
  D.nx σ (upd H2 a (.ins C dx (putF f y fs)))) : sFld K ta tv f D σ H := h
theorem rd_make {C : Addr} {sp : Sp} {dvs : List V} {E : XK} (h : tA σ H fun vs H1 => ∀ x dx, H1 x = none → H1 dx = none → dx ≠ x →
  sp (.ref x :: (vs ++ dvs)) (upd (upd H1 dx (.own x)) x (.ins C dx [])) (fun v H2 => v = .non ∧ Q (.ref x) H2) E) : tMake C sp dvs E tA σ H Q := h
theorem rd_chain {r r' : R2} {tc : TE} (h : ta σ H fun x H1 => tb σ H1 fun y H2 => r x y H2 fun z H3 => ∃ k, z = .bl k ∧ (if k = true then tc σ H3 fun w' H4 => r' y w' H4 Q else Q (.bl false) H3)) : tChain r r' ta tb tc σ H Q := h
theorem rd_step {tl th : TO} {c : Int} (h : te σ H fun v H1 => tl σ H1 fun lo H2 => th σ H2 fun hi H3 => ∃ z : Str, v = .str z ∧ (stepS z lo hi c).length ≤ sizeLine ∧ Q (.str (stepS z lo hi c)) H3) : tStepS te tl th c σ H Q := h
theorem rd_setl (h : te σ H fun v H1 => ∃ x : Str, v = .str x ∧ x.cps.size < 4000 ∧ Q (.int (dif (fun i => x.cps.getD i 0) x.cps.size : Nat)) H1) : tLenSetT te σ H Q := h
theorem rd_sub {to ti : TE} {ts : TSet} {v : V} {q : L2.St → Hp → Prop} (h : to σ H fun o H1 => ti σ H1 fun i H2 => ts o i v H2 fun H3 => q σ H3) : gSub to ti ts v σ H q := h
theorem rd_bm {K : PySem.W.Frag} {T : String} {r : V → List V → Hp → VK → Prop} (h : te σ H fun x H1 => tyV K T x H1 ∧ tA σ H1 fun xs H2 => r x xs H2 Q) : tBM K T r te tA σ H Q := h
theorem rd_bm0 {K : PySem.W.Frag} {T : String} {r : V → List V → Hp → VK → Prop} (h : te σ H fun x H1 => tyV K T x H1 ∧ r x [] H1 Q) : tBM0 K T r te σ H Q := h
/-! by values -/
theorem rI0_i {g : Int → Int → V} {i j : Int} (h : Q (g i j) H) : rI0 g (.int i) (.int j) H Q := ⟨i, j, rfl, rfl, h⟩
theorem rI_i {C : Int → Int → Prop} {g : Int → Int → V} {i j : Int} (c : C i j) (h : Q (g i j) H) : rI C g (.int i) (.int j) H Q := ⟨i, j, rfl, rfl, c, h⟩
theorem rAdd_i {i j : Int} (h : Q (.int (i + j)) H) : rAddA (.int i) (.int j) H Q := .inl ⟨i, j, rfl, rfl, h⟩
theorem rAdd_s {l m : List Nat} (z : l.length + m.length ≤ 100000) (h : Q (.str (tx (l ++ m))) H) : rAddA (.str (tx l)) (.str (tx m)) H Q :=
  .inr (.inl ⟨tx l, tx m, rfl, rfl, by rw [tx_length, tx_length]; exact Nat.le_trans z (by decide), by rw [tx_append]; exact h⟩)
theorem rAdd_l {a b : Addr} {xs ys : List V} (ha : H a = some (.lst xs)) (hb : H b = some (.lst ys)) (z : xs.length + ys.length ≤ 100000) (h : ∀ p, H p = none → Q (.ref p) (upd H p (.lst (xs ++ ys)))) : rAddA (.ref a) (.ref b) H Q :=
  .inr (.inr ⟨a, b, xs, ys, rfl, rfl, ha, hb, Nat.le_trans z (by decide), h⟩)
theorem rEq_v {x y : V} (e : scal x y = true) (h : Q (.bl (decide (x = y))) H) : rEq x y H Q := ⟨e, h⟩
theorem rNe_v {x y : V} (e : scal x y = true) (h : Q (.bl (!decide (x = y))) H) : rNe x y H Q := ⟨e, h⟩
theorem rU_i {g : Int → V} {i : Int} (h : Q (g i) H) : rU g (.int i) H Q := ⟨i, rfl, h⟩
theorem rIx_l {K : PySem.W.Frag} {p : Addr} {xs : List V} {i : Int} {v : V} (hs : SqL K H p xs) (e : atI xs i = some v) (h : Q v H) : rIx K (.ref p) (.int i) H Q := .inl ⟨p, xs, i, v, rfl, rfl, hs, e, h⟩
theorem rIx_t {K : PySem.W.Frag} {p : Addr} {xs : List V} {i : Int} {v : V} (hs : SqT K H p xs) (e : atI xs i = some v) (h : Q v H) : rIx K (.ref p) (.int i) H Q := .inr (.inl ⟨p, xs, i, v, rfl, rfl, hs, e, h⟩)
theorem rIx_s {K : PySem.W.Frag} {l : List Nat} {i : Int} {c : Nat} (z : l.length ≤ 100000) (e : atI l i = some c) (h : Q (.str (tx [c])) H) : rIx K (.str (tx l)) (.int i) H Q :=
  .inr (.inr ⟨tx l, i, c, rfl, rfl, by rw [tx_length]; exact Nat.le_trans z (by decide), e, h⟩)
theorem len_s {K : PySem.W.Frag} {l : List Nat} (z : l.length ≤ 100000) (h : Q (.int (l.length : Nat)) H) : rLenA K [V.str (tx l)] H Q :=
  ⟨_, l.length, rfl, ⟨by rw [tx_length]; exact Nat.le_trans z (by decide), (tx_length l).symm⟩, h⟩
theorem len_l {K : PySem.W.Frag} {p : Addr} {xs : List V} (hs : SqL K H p xs) (h : Q (.int (xs.length : Nat)) H) : rLenA K [V.ref p] H Q := ⟨_, xs.length, rfl, .inl ⟨xs, hs, rfl⟩, h⟩
theorem len_t {K : PySem.W.Frag} {p : Addr} {xs : List V} (hs : SqT K H p xs) (h : Q (.int (xs.length : Nat)) H) : rLenA K [V.ref p] H Q := ⟨_, xs.length, rfl, .inr ⟨xs, hs, rfl⟩, h⟩
theorem in_sg {c : Nat} {l : List Nat} (h : Q (.bl (decide (c ∈ l))) H) : rInSg (V.str (tx [c])) (V.str (tx l)) H Q := ⟨c, tx l, rfl, rfl, h⟩
theorem notin_sg {c : Nat} {l : List Nat} (h : Q (.bl (!decide (c ∈ l))) H) : rNotInSg (V.str (tx [c])) (V.str (tx l)) H Q := ⟨c, tx l, rfl, rfl, h⟩
theorem abs_i {i : Int} (h : Q (.int (if i < 0 then -i else i)) H) : rAbs [.int i] H Q := ⟨i, rfl, h⟩
theorem int_i {i : Int} (h : Q (.int i) H) : rInt [.int i] H Q := .inl ⟨i, rfl, h⟩
theorem int_b {b : Bool} (h : Q (.int (if b then 1 else 0)) H) : rInt [.bl b] H Q := .inr ⟨b, rfl, h⟩
theorem list_l {K : PySem.W.Frag} {p : Addr} {ys : List V} (hs : SqL K H p ys) (h : ∀ l, H l = none → Q (.ref l) (upd H l (.lst ys))) : rListA K [.ref p] H Q := ⟨p, ys, rfl, .inl hs, h⟩
end

/-! ### heaps -/
theorem Same.get {H H1 : Hp} {a : Addr} {o : HO} (s : Same H H1) (h : H a = some o) : H1 a = some o := s a o h
theorem upd_keep {H : Hp} {a p : Addr} {o u : HO} (n : H p = none) (h : H a = some o) : upd H p u a = some o := by rw [upd_ne (ne_of_none h n)]; exact h
theorem upd_oth {H : Hp} {a p : Addr} {o u : HO} (n : a ≠ p) (h : H a = some o) : upd H p u a = some o := by rw [upd_ne n]; exact h
theorem Same.new {H : Hp} {p : Addr} {o : HO} (n : H p = none) : Same H (upd H p o) := fun _ _ h => upd_keep n h
theorem Same.mut {H H' : Hp} {p : Addr} {o : HO} (s : Same H H') (n : H p = none) : Same H (upd H' p o) := fun a u h => by rw [upd_ne (ne_of_none h n)]; exact s a u h
theorem Same.seqT {K : PySem.W.Frag} {H H' : Hp} {a : Addr} {xs : List V} (e : Same H H') (h : SqT K H a xs) : SqT K H' a xs := Evl.ex_t e h
theorem scal_str {x y : Str} : scal (.str x) (.str y) = true := rfl
theorem decide_str {l m : List Nat} : decide (V.str (tx l) = V.str (tx m)) = decide (l = m) := by
  by_cases h : l = m
  · subst h; simp
  · have h1 : ¬ (V.str (tx l) = V.str (tx m)) := fun e => h (tx_inj (V.str.inj e))
    rw [decide_eq_false h, decide_eq_false h1]
theorem decide_int {i j : Int} : decide (V.int i = V.int j) = decide (i = j) := by
  by_cases h : i = j
  · subst h; simp
  · have h1 : ¬ (V.int i = V.int j) := fun e => h (V.int.inj e)
    rw [decide_eq_false h, decide_eq_false h1]
end NW

/-! Comprehensions over texts, and over two texts at once, by what their parts evaluate to. -/
namespace NW
open PySem PySem.Spec PyProof.Rows L2 Evl

theorem range_getD {α : Type} (d : α) (l : List α) : (List.range l.length).map (fun i => l.getD i d) = l := by
  apply List.ext_getElem?
  intro i
  rw [List.getElem?_map]
  by_cases h : i < l.length
  · rw [List.getElem?_range h, List.getElem?_eq_getElem h]
    simp [List.getD, List.getElem?_eq_getElem h]
  · have h1 : l.length ≤ i := Nat.le_of_not_lt h
    rw [List.getElem?_eq_none h1, List.getElem?_eq_none (by simpa using h1)]
    rfl
theorem given_getD {α : Type} (d : α) (l : List α) (p : α → Bool) (v : α → V) : given l.length (fun i => p (l.getD i d)) (fun i => v (l.getD i d)) = (l.filter p).map v := by
  unfold given
  conv => rhs; rw [← range_getD d l]
  rw [List.filter_map, List.map_map]
  rfl
section
variable {K : PySem.W.Frag} {σ : L2.St} {H H' : Hp} {ta tb te tl : TE} {t : TT} {x y z v : V} {g : TG}
theorem rd_L {xs : List V} {Q : VK} (h : EvL te σ H xs) (k : ∀ p H1, H p = none → Same H H1 → H1 p = some (.lst xs) → Q (.ref p) H1) : te σ H Q := h H (Ex.refl H) Q k
theorem rd_E {v : V} {Q : VK} (h : Ev te σ H v) (k : ∀ H1, Same H H1 → Q v H1) : te σ H Q := h H (Ex.refl H) Q k
theorem ev_yes : EvT tYes σ H true := fun H1 _ Q q => q H1 (Ex.refl H1)
/-- [te for j in text if t] -/
theorem el_lcS {l : List Nat} {j : Nat} {vs : List Nat} (p : Nat → Bool) (v : Nat → V) (h : Ev tl σ H (.str (tx l))) (hz : l.length ≤ 40000) (hw : ∀ x, wipe ((wipe σ vs).set j (some x)) vs = wipe σ vs)
    (ht : ∀ c ∈ l, ∀ H1, Ex H H1 → EvT t ((wipe σ vs).set j (some (.str (tx [c])))) H1 (p c)) (he : ∀ c ∈ l, ∀ H1, Ex H H1 → p c = true → Ev te ((wipe σ vs).set j (some (.str (tx [c])))) H1 (v c)) :
    EvL (tLc (iStr tl) (gName j) t te vs) σ H ((l.filter p).map v) := fun H0 e Q q => h H0 e _ fun H1 e1 => ⟨tx l, rfl, fun Dl hD => by
  have hn : (tx l).cps.size = l.length := tx_size l
  refine lc_it (G := fun _ => True) (walk_str (z := tx l)) (Cw H1 (fun i => p (l.getD i 0)) (fun i => v (l.getD i 0)) Dl) ⟨hD, Ex.new hD, upd_same⟩ (fun _ _ _ _ => trivial) (fun i x H' H'' hi pv hy => ?_) (fun H' pv => ?_)
  · obtain ⟨rfl, c, hc, rfl⟩ := hy
    rw [tx_get] at hc
    have hm : c ∈ l := List.mem_of_getElem? hc
    have hd : l.getD i 0 = c := by simp [List.getD, hc]
    refine ⟨hw _, ?_⟩
    have hi' : i < 50000 := by rw [hn] at hi; omega
    refine cw_turn pv hi' ?_ ?_
    · show EvT t _ H1 (p (l.getD i 0))
      rw [hd]
      exact ht c hm H1 (e.trans e1)
    · intro hf
      have hf' : p (l.getD i 0) = true := hf
      rw [hd] at hf'
      show Ev te _ H1 (v (l.getD i 0))
      rw [hd]
      exact he c hm H1 (e.trans e1) hf'
  · obtain ⟨p1, p2, p3⟩ := pv
    rw [hn, given_getD] at p3
    exact q Dl H' (fresh_back e1 p1) (e1.trans p2) p3⟩
/-- [te for a, b in zip(text, text)] -/
theorem el_lcZ {l m : List Nat} {a b : Nat} {vs : List Nat} {tz : TA} (v : Nat → Nat → V) (h : EvA tz σ H [.str (tx l), .str (tx m)]) (hlm : l.length = m.length) (hz : l.length ≤ 40000)
    (hw : ∀ x y, wipe (((wipe σ vs).set a (some x)).set b (some y)) vs = wipe σ vs)
    (hg : ∀ x y T σ' H' (R : L2.St → Hp → Prop), H' T = some (.tup [x, y]) → R ((σ'.set a (some x)).set b (some y)) H' → g (.ref T) σ' H' R)
    (he : ∀ c d H1, Ex H H1 → Ev te (((wipe σ vs).set a (some (.str (tx [c])))).set b (some (.str (tx [d])))) H1 (v c d)) :
    EvL (tLc (iZipS tz) g tYes te vs) σ H ((l.zip m).map fun p => v p.1 p.2) := fun H0 e Q q => h H0 e _ fun H1 e1 => ⟨tx l, tx m, rfl, fun Dl hD => by
  have hn : min (tx l).cps.size (tx m).cps.size = l.length := by rw [tx_size, tx_size]; omega
  have key : ((l.zip m).map fun p => v p.1 p.2) = given l.length (fun _ => true) (fun i => v (l.getD i 0) (m.getD i 0)) := by
    unfold given
    rw [List.filter_eq_self.mpr (fun _ _ => rfl)]
    apply List.ext_getElem?
    intro i
    rw [List.getElem?_map, List.getElem?_map]
    by_cases hi : i < l.length
    · have hi2 : i < m.length := by omega
      rw [List.getElem?_range hi]
      have : (l.zip m)[i]? = some (l[i], m[i]) := by
        rw [List.getElem?_zip_eq_some]
        exact ⟨List.getElem?_eq_getElem hi, List.getElem?_eq_getElem hi2⟩
      rw [this]
      simp [List.getD, List.getElem?_eq_getElem hi, List.getElem?_eq_getElem hi2]
    · have h1 : (l.zip m).length ≤ i := by rw [List.length_zip]; omega
      rw [List.getElem?_eq_none h1, List.getElem?_eq_none (by simpa using hi)]
      rfl
  refine lc_it (G := fun _ => True) (walk_zipS (x := tx l) (y := tx m)) (Cw H1 (fun _ => true) (fun i => v (l.getD i 0) (m.getD i 0)) Dl) ⟨hD, Ex.new hD, upd_same⟩ (fun _ _ _ _ => trivial) (fun i x H' H'' hi pv hy => ?_) (fun H' pv => ?_)
  · obtain ⟨T, c, d, rfl, hT, rfl, hc, hd⟩ := hy
    rw [tx_get] at hc hd
    have hc' : l.getD i 0 = c := by simp [List.getD, hc]
    have hd' : m.getD i 0 = d := by simp [List.getD, hd]
    refine hg _ _ T _ _ _ upd_same ⟨hw _ _, ?_⟩
    have hi' : i < 50000 := by rw [hn] at hi; omega
    obtain ⟨p1, p2, p3⟩ := pv
    have pv' : Cw H1 (fun _ => true) (fun i => v (l.getD i 0) (m.getD i 0)) Dl i (upd H' T (.tup [.str ⟨#[c]⟩, .str ⟨#[d]⟩])) := ⟨p1, p2.trans (Ex.new hT), by rw [upd_ne (ne_of_none p3 hT)]; exact p3⟩
    refine cw_turn pv' hi' ev_yes fun _ => ?_
    show Ev te _ H1 (v (l.getD i 0) (m.getD i 0))
    rw [hc', hd']
    exact he c d H1 (e.trans e1)
  · obtain ⟨p1, p2, p3⟩ := pv
    rw [key] at q
    rw [hn] at p3
    exact q Dl H' (fresh_back e1 p1) (e1.trans p2) p3⟩
end
end NW
namespace NW
open PySem PySem.Spec PyProof.Rows L2 Evl
theorem cut_from1 (xs : List V) : cutV xs (some 1) none = xs.drop 1 := by
  unfold cutV HT.sIx
  cases xs with
  | nil => rfl
  | cons x r =>
    simp
theorem cut_to1 (xs : List V) : cutV xs none (some 1) = xs.take 1 := by
  unfold cutV HT.sIx
  cases xs with
  | nil => rfl
  | cons x r =>
    simp
end NW

/-! Data: lists of ints and of texts, as == sees them. -/
namespace NW
open PySem PySem.Spec PyProof.Rows L2

def dInt (k : Nat) : PyData := .int (k : Nat)
def dTx (l : List Nat) : PyData := .str (tx l)
/-- kinds of items that == tells apart just as = does -/
structure Item {α : Type} (f : α → PyData) (n : Nat) (ok : α → Prop) : Prop where
  lay : ∀ a, ok a → (f a).canLay0 = true
  dep : ∀ a, (f a).depth ≤ n
  eqv : ∀ a b, PyData.eqv (f a) (f b) = true ↔ a = b
section
variable {α : Type} {f : α → PyData} {n : Nat} {ok : α → Prop}
theorem layAll (I : Item f n ok) : ∀ xs : List α, (∀ a ∈ xs, ok a) → PyData.canLayAll0 (xs.map f) = true
  | [], _ => by simp [PyData.canLayAll0]
  | a :: r, h => by simp [PyData.canLayAll0, I.lay a (h a List.mem_cons_self), layAll I r (fun b hb => h b (List.mem_cons_of_mem _ hb))]
theorem depAll (I : Item f n ok) : ∀ xs : List α, PyData.depthAll (xs.map f) ≤ n
  | [] => by simp [PyData.depthAll]
  | a :: r => by
    have h1 := I.dep a
    have h2 := depAll I r
    simp only [List.map_cons, PyData.depthAll]
    omega
theorem eqvAll_iff (I : Item f n ok) : ∀ xs ys : List α, PyData.eqvAll (xs.map f) (ys.map f) = true ↔ xs = ys
  | [], [] => by simp [PyData.eqvAll]
  | [], b :: r => by simp [PyData.eqvAll]
  | a :: r, [] => by simp [PyData.eqvAll]
  | a :: r, b :: q => by
    simp only [List.map_cons, PyData.eqvAll, Bool.and_eq_true, I.eqv, eqvAll_iff I r q, List.cons.injEq]
end
def dList {α : Type} (f : α → PyData) (xs : List α) : PyData := .list (xs.map f)
def dTup {α : Type} (f : α → PyData) (xs : List α) : PyData := .tuple (xs.map f)
def okInt : Nat → Prop := fun _ => True
def okTx : List Nat → Prop := fun l => PyData.strOk (tx l) = true
def okAll {α : Type} (ok : α → Prop) : List α → Prop := fun xs => ∀ a ∈ xs, ok a
theorem item_int : Item dInt 1 okInt := by
  refine ⟨fun a _ => by simp [dInt, PyData.canLay0], fun a => by simp [dInt, PyData.depth], fun a b => ?_⟩
  unfold dInt
  simp only [PyData.eqv, beq_iff_eq]
  omega
theorem item_tx : Item dTx 1 okTx := by
  refine ⟨fun a h => by simp only [dTx, PyData.canLay0]; exact h, fun a => by simp [dTx, PyData.depth], fun a b => ?_⟩
  unfold dTx
  simp only [PyData.eqv, beq_iff_eq]
  exact tx_eq
section
variable {α : Type} {f : α → PyData} {n : Nat} {ok : α → Prop}
theorem item_list (I : Item f n ok) : Item (dList f) (n + 1) (okAll ok) := by
  refine ⟨fun a h => ?_, fun a => ?_, fun a b => ?_⟩
  · simp only [dList, PyData.canLay0]; exact layAll I a h
  · have := depAll I a
    simp only [dList, PyData.depth]; omega
  · simp only [dList, PyData.eqv]; exact eqvAll_iff I a b
theorem item_tup (I : Item f n ok) : Item (dTup f) (n + 1) (okAll ok) := by
  refine ⟨fun a h => ?_, fun a => ?_, fun a b => ?_⟩
  · simp only [dTup, PyData.canLay0]; exact layAll I a h
  · have := depAll I a
    simp only [dTup, PyData.depth]; omega
  · simp only [dTup, PyData.eqv]; exact eqvAll_iff I a b
theorem Item.shaped (I : Item f n ok) (h : n ≤ 64) (a : α) (o : ok a) : SeqAt.shaped (f a) = true := by
  show ((f a).canLay0 && decide ((f a).depth ≤ 64)) = true
  rw [Bool.and_eq_true]
  exact ⟨I.lay a o, decide_eq_true (Nat.le_trans (I.dep a) h)⟩
theorem Item.eqd [DecidableEq α] (I : Item f n ok) (a b : α) : PyData.eqv (f a) (f b) = decide (a = b) := by
  by_cases h : a = b
  · rw [decide_eq_true h, (I.eqv a b).mpr h]
  · rw [decide_eq_false h, Bool.eq_false_iff]
    exact fun e => h ((I.eqv a b).mp e)
end
theorem ok_ints (ns : List Nat) : okAll okInt ns := fun _ _ => trivial
def vInts (ns : List Nat) : List V := ns.map fun k => .int (k : Nat)
def vTxs (cs : List (List Nat)) : List V := cs.map fun c => .str (tx c)
theorem dpAll_ints {K : PySem.W.Frag} {H : Hp} : ∀ ns : List Nat, DpAll K H (vInts ns) (ns.map dInt)
  | [] => .nil
  | n :: r => .cons (.int _) (dpAll_ints r)
theorem dpAll_txs {K : PySem.W.Frag} {H : Hp} : ∀ cs : List (List Nat), DpAll K H (vTxs cs) (cs.map dTx)
  | [] => .nil
  | n :: r => .cons (.str _) (dpAll_txs r)
theorem dp_ints {K : PySem.W.Frag} {H : Hp} {a : Addr} {ns : List Nat} (h : SqL K H a (vInts ns)) : Dp K H (.ref a) (dList dInt ns) := .lst h (dpAll_ints ns)
theorem dp_txs {K : PySem.W.Frag} {H : Hp} {a : Addr} {cs : List (List Nat)} (h : SqL K H a (vTxs cs)) : Dp K H (.ref a) (dList dTx cs) := .lst h (dpAll_txs cs)
section
variable {K : PySem.W.Frag} {H : Hp} {Q : VK}
theorem eqD_of {α : Type} [DecidableEq α] {f : α → PyData} {n : Nat} {ok : α → Prop} (I : Item f n ok) (hn : n ≤ 64) {x y : V} {a b : α} (oa : ok a) (ob : ok b) (hx : Dp K H x (f a)) (hy : Dp K H y (f b)) (h : Q (.bl (decide (a = b))) H) : rEqD K x y H Q :=
  ⟨f a, f b, hx, hy, I.shaped hn a oa, I.shaped hn b ob, by rw [I.eqd]; exact h⟩
theorem neD_of {α : Type} [DecidableEq α] {f : α → PyData} {n : Nat} {ok : α → Prop} (I : Item f n ok) (hn : n ≤ 64) {x y : V} {a b : α} (oa : ok a) (ob : ok b) (hx : Dp K H x (f a)) (hy : Dp K H y (f b)) (h : Q (.bl (!decide (a = b))) H) : rNeD K x y H Q :=
  ⟨f a, f b, hx, hy, I.shaped hn a oa, I.shaped hn b ob, by rw [I.eqd]; exact h⟩
end
theorem vTxs_get {cs : List (List Nat)} {i : Nat} (h : i < cs.length) : (vTxs cs)[i]? = some (.str (tx (cs.getD i []))) := by
  unfold vTxs
  rw [List.getElem?_map, List.getElem?_eq_getElem h]
  simp [List.getD, List.getElem?_eq_getElem h]
theorem vTxs_len (cs : List (List Nat)) : (vTxs cs).length = cs.length := by unfold vTxs; rw [List.length_map]
theorem vInts_len (ns : List Nat) : (vInts ns).length = ns.length := by unfold vInts; rw [List.length_map]
theorem vTxs_app (a b : List (List Nat)) : vTxs a ++ vTxs b = vTxs (a ++ b) := by unfold vTxs; rw [List.map_append]
theorem getD_mem {α : Type} {xs : List α} {i : Nat} {d : α} (h : i < xs.length) : xs.getD i d ∈ xs := by
  simp [List.getD, List.getElem?_eq_getElem h]
end NW

/-! Comprehensions with two fors, dict comprehensions, loops over texts; sets. -/
namespace NW
open PySem PySem.Spec PyProof.Rows L2 Evl

theorem rd_yes {σ : L2.St} {H : Hp} {Q : Bool → Hp → Prop} (h : Q true H) : tYes σ H Q := h
def vSgs (l : List Nat) : List V := l.map fun c => .str (tx [c])
theorem vSgs_len (l : List Nat) : (vSgs l).length = l.length := by unfold vSgs; rw [List.length_map]
theorem vSgs_get {l : List Nat} {i c : Nat} (h : l[i]? = some c) : (vSgs l)[i]? = some (.str (tx [c])) := by unfold vSgs; rw [List.getElem?_map, h]; rfl
theorem walk_sgs (l : List Nat) : Walk (Its (tx l)) (vSgs l).length (fun _ => True) (YAt (vSgs l)) := by
  have e : (vSgs l).length = (tx l).cps.size := by rw [vSgs_len, tx_size]
  rw [e]
  refine (walk_str (z := tx l)).mono (fun _ h => h) (fun i H x H' _ _ hy => ?_)
  obtain ⟨h1, c, hc, rfl⟩ := hy
  rw [tx_get] at hc
  exact ⟨h1, vSgs_get hc⟩
/-- what is walked: wi comes to J, of the items xs -/
structure Wk (wi : TI) (σ : L2.St) (H : Hp) (J : It) (G : Hp → Prop) (xs : List V) : Prop where
  walk : Walk J xs.length G (YAt xs)
  all : ∀ H2, Ex H H2 → G H2
  go : ∀ H1, Ex H H1 → ∀ R : It → Hp → Prop, (∀ H2, Ex H1 H2 → R J H2) → wi σ H1 R
section
variable {K : PySem.W.Frag} {σ : L2.St} {H H' : Hp} {ta tb te tl tk tv : TE} {t t1 : TT} {v : V} {wi wi1 : TI} {J J1 : It} {G G1 : Hp → Prop} {xs ys : List V}
theorem wk_str {l : List Nat} (h : Ev tl σ H (.str (tx l))) : Wk (iStr tl) σ H (Its (tx l)) (fun _ => True) (vSgs l) :=
  ⟨walk_sgs l, fun _ _ => trivial, fun H1 e R r => h H1 e _ fun H2 e2 => ⟨tx l, rfl, r H2 e2⟩⟩
theorem wk_list {a : Addr} (h : Ev tl σ H (.ref a)) (hs : SqL K H a xs) : Wk (iList K tl) σ H (Itl K a) (fun H => SqL K H a xs) xs :=
  ⟨walk_list, fun _ e => ex_l e hs, fun H1 e R r => h H1 e _ fun H2 e2 => ⟨a, rfl, ⟨xs, ex_l (e.trans e2) hs⟩, r H2 e2⟩⟩
theorem Wk.mono (h : Wk wi σ H J G xs) (e : Ex H H') : Wk wi σ H' J G xs := ⟨h.walk, fun H2 e2 => h.all H2 (e.trans e2), fun H1 e1 R r => h.go H1 (e.trans e1) R r⟩
/-- [te for j in .. if t] -/
theorem el_lc {j : Nat} {vs : List Nat} (hwk : Wk wi σ H J G xs) (p : V → Bool) (v : V → V) (hz : xs.length ≤ 40000) (hw : ∀ x, wipe ((wipe σ vs).set j (some x)) vs = wipe σ vs)
    (ht : ∀ x ∈ xs, ∀ H1, Ex H H1 → EvT t ((wipe σ vs).set j (some x)) H1 (p x)) (he : ∀ x ∈ xs, ∀ H1, Ex H H1 → p x = true → Ev te ((wipe σ vs).set j (some x)) H1 (v x)) :
    EvL (tLc wi (gName j) t te vs) σ H ((xs.filter p).map v) := fun H0 e Q q => hwk.go H0 e _ fun H1 e1 Dl hD => by
  refine lc_it (G := G) hwk.walk (Cw H1 (fun i => p (xs.getD i .non)) (fun i => v (xs.getD i .non)) Dl) ⟨hD, Ex.new hD, upd_same⟩ (fun _ _ _ pv => hwk.all _ ((e.trans e1).trans pv.2.1)) (fun i x H' H'' hi pv hy => ?_) (fun H' pv => ?_)
  · obtain ⟨rfl, hx⟩ := hy
    have hm : x ∈ xs := List.mem_of_getElem? hx
    have hd : xs.getD i .non = x := by simp [List.getD, hx]
    refine ⟨hw _, cw_turn pv (by omega) ?_ ?_⟩
    · show EvT t _ H1 (p (xs.getD i .non))
      rw [hd]
      exact ht x hm H1 (e.trans e1)
    · intro hf
      have hf' : p (xs.getD i .non) = true := hf
      rw [hd] at hf'
      show Ev te _ H1 (v (xs.getD i .non))
      rw [hd]
      exact he x hm H1 (e.trans e1) hf'
  · obtain ⟨p1, p2, p3⟩ := pv
    rw [given_getD] at p3
    exact q Dl H' (fresh_back e1 p1) (e1.trans p2) p3
theorem take_succ_get {α : Type} {l : List α} {i : Nat} {x : α} (h : l[i]? = some x) : l.take (i + 1) = l.take i ++ [x] := by
  rw [List.take_succ, h]
  rfl
theorem flat_len {xs : List V} {ys : List V} (p : V → V → Bool) (v : V → V → V) (i : Nat) : ((xs.take i).flatMap fun x => (ys.filter (p x)).map (v x)).length ≤ i * ys.length := by
  have h : ∀ l : List V, (l.flatMap fun x => (ys.filter (p x)).map (v x)).length ≤ l.length * ys.length := by
    intro l
    induction l with
    | nil => simp
    | cons x r ih =>
      have h1 := List.length_filter_le (p x) ys
      rw [List.flatMap_cons, List.length_append, List.length_map, List.length_cons, Nat.succ_mul]
      omega
  refine Nat.le_trans (h _) (Nat.mul_le_mul_right _ ?_)
  rw [List.length_take]
  omega
/-- [te for j in .. for j1 in .. if t1] -/
theorem el_lc2 {j j1 : Nat} {vs vs1 : List Nat} (hwk : Wk wi σ H J G xs) (hwk1 : ∀ x ∈ xs, Wk wi1 ((wipe σ vs).set j (some x)) H J1 G1 ys) (p : V → V → Bool) (v : V → V → V) (hz : xs.length * ys.length ≤ 40000)
    (hw : ∀ x, wipe ((wipe σ vs).set j (some x)) vs = wipe σ vs) (hw1 : ∀ x y, wipe ((wipe ((wipe σ vs).set j (some x)) vs1).set j1 (some y)) vs1 = wipe ((wipe σ vs).set j (some x)) vs1)
    (ht : ∀ x ∈ xs, ∀ y ∈ ys, ∀ H1, Ex H H1 → EvT t1 ((wipe ((wipe σ vs).set j (some x)) vs1).set j1 (some y)) H1 (p x y))
    (he : ∀ x ∈ xs, ∀ y ∈ ys, ∀ H1, Ex H H1 → p x y = true → Ev te ((wipe ((wipe σ vs).set j (some x)) vs1).set j1 (some y)) H1 (v x y)) :
    EvL (tLc2 wi (gName j) tYes wi1 (gName j1) t1 te vs vs1) σ H (xs.flatMap fun x => (ys.filter (p x)).map (v x)) := fun H0 e Q q => hwk.go H0 e _ fun H1 e1 Dl hD => by
  refine ⟨fun i m H' => m = xs.length - i ∧ i ≤ xs.length ∧ Ex H1 H' ∧ H' Dl = some (.lst ((xs.take i).flatMap fun x => (ys.filter (p x)).map (v x))), ⟨xs.length, by omega, Nat.zero_le _, Ex.new hD, by rw [upd_same]; rfl⟩, ?_⟩
  rintro i m H' ⟨rfl, hi, ex, hd⟩
  by_cases hlt : i < xs.length
  · refine .inr ⟨hwk.walk.goes i H' hlt (hwk.all _ ((e.trans e1).trans ex)), fun H2 => Ex H1 H2 ∧ H2 Dl = some (.lst ((xs.take (i + 1)).flatMap fun x => (ys.filter (p x)).map (v x))), fun H2 n => ⟨xs.length - (i + 1), by omega, rfl, hlt, n.1, n.2⟩, fun x H2 hy => ?_⟩
    obtain ⟨rfl, hx⟩ := hwk.walk.yields i H' x H2 hlt (hwk.all _ ((e.trans e1).trans ex)) hy
    have hm : x ∈ xs := List.mem_of_getElem? hx
    have w1 := hwk1 x hm
    refine ⟨hw x, rd_yes (iteT ?_)⟩
    have eH : Ex H H2 := (e.trans e1).trans ex
    refine w1.go H2 eH _ fun H3 e3 => ?_
    refine ⟨fun k m H4 => m = ys.length - k ∧ k ≤ ys.length ∧ Ex H1 H4 ∧ H4 Dl = some (.lst (((xs.take i).flatMap fun x => (ys.filter (p x)).map (v x)) ++ ((ys.take k).filter (p x)).map (v x))), ⟨ys.length, by omega, Nat.zero_le _, ex.trans e3, by rw [e3 _ _ hd]; simp⟩, ?_⟩
    rintro k m H4 ⟨rfl, hk, ex4, hd4⟩
    by_cases hlk : k < ys.length
    · refine .inr ⟨w1.walk.goes k H4 hlk (w1.all _ ((e.trans e1).trans ex4)), fun H5 => Ex H1 H5 ∧ H5 Dl = some (.lst (((xs.take i).flatMap fun x => (ys.filter (p x)).map (v x)) ++ ((ys.take (k + 1)).filter (p x)).map (v x))), fun H5 n => ⟨ys.length - (k + 1), by omega, rfl, hlk, n.1, n.2⟩, fun y H5 hy => ?_⟩
      obtain ⟨rfl, hy2⟩ := w1.walk.yields k H4 y H5 hlk (w1.all _ ((e.trans e1).trans ex4)) hy
      have hmy : y ∈ ys := List.mem_of_getElem? hy2
      refine ⟨hw1 x y, ?_⟩
      have e5 : Ex H H5 := (e.trans e1).trans ex4
      refine ht x hm y hmy H1 (e.trans e1) H5 ex4 _ fun H6 e6 => ?_
      have hd6 := e6 _ _ hd4
      cases hp : p x y with
      | true =>
        refine iteT ?_
        refine he x hm y hmy H1 (e.trans e1) hp H6 (ex4.trans e6) _ fun H7 e7 => ⟨_, e7 _ _ hd6, ?_, ?_⟩
        · have h1 := flat_len (xs := xs) (ys := ys) p v i
          have h2 := List.length_filter_le (p x) (ys.take k)
          rw [List.length_append, List.length_map]
          rw [List.length_take] at h2
          have h3 : (i + 1) * ys.length ≤ xs.length * ys.length := Nat.mul_le_mul_right _ hlt
          rw [Nat.succ_mul] at h3
          exact sz_lt (by omega)
        · have eD : Ex H1 (upd H7 Dl (.lst (((xs.take i).flatMap fun x => (ys.filter (p x)).map (v x)) ++ ((ys.take k).filter (p x)).map (v x) ++ [v x y]))) := Ex.mut ((ex4.trans e6).trans e7) hD
          refine ⟨eD, ?_⟩
          rw [upd_same, take_succ_get hy2, List.filter_append, List.map_append, List.append_assoc]
          simp [hp]
      | false =>
        refine iteF ?_
        refine ⟨ex4.trans e6, ?_⟩
        rw [hd6, take_succ_get hy2, List.filter_append]
        simp [hp]
    · obtain rfl : k = ys.length := by omega
      refine .inl ⟨w1.walk.stops H4 (w1.all _ ((e.trans e1).trans ex4)), ex4, ?_⟩
      rw [hd4, take_succ_get hx, List.flatMap_append, List.take_length]
      simp
  · obtain rfl : i = xs.length := by omega
    refine .inl ⟨hwk.walk.stops H' (hwk.all _ ((e.trans e1).trans ex)), q Dl H' (fresh_back e1 hD) (e1.trans ex) ?_⟩
    rw [hd, List.take_length]
/-- {tk: tv for j in ..} -/
def dcRun (k : V → Key) (v : V → V) (xs : List V) : List (Key × V) := xs.foldl (fun acc x => putK acc (k x) (v x)) []
theorem dcRun_len (k : V → Key) (v : V → V) (xs : List V) : (dcRun k v xs).length ≤ xs.length := by
  have h : ∀ (l : List V) (acc : List (Key × V)), (l.foldl (fun acc x => putK acc (k x) (v x)) acc).length ≤ acc.length + l.length := by
    intro l
    induction l with
    | nil => intro acc; simp
    | cons x r ih =>
      intro acc
      have h1 := ih (putK acc (k x) (v x))
      have h2 := length_putK acc (k x) (v x)
      rw [List.foldl_cons, List.length_cons]
      omega
  have := h xs []
  simpa [dcRun] using this
theorem dcRun_succ {k : V → Key} {v : V → V} {xs : List V} {i : Nat} {x : V} (h : xs[i]? = some x) : dcRun k v (xs.take (i + 1)) = putK (dcRun k v (xs.take i)) (k x) (v x) := by
  unfold dcRun
  rw [take_succ_get h, List.foldl_append]
  rfl
theorem rd_dc {j : Nat} {vs : List Nat} {Q : VK} (hwk : Wk wi σ H J G xs) (k : V → Key) (v : V → V) (hz : xs.length ≤ 40000) (hw : ∀ x, wipe ((wipe σ vs).set j (some x)) vs = wipe σ vs)
    (hk : ∀ x ∈ xs, ∀ H1, Ex H H1 → Ev tk ((wipe σ vs).set j (some x)) H1 (kV (k x))) (he : ∀ x ∈ xs, ∀ H1, Ex H H1 → Ev tv ((wipe σ vs).set j (some x)) H1 (v x))
    (q : ∀ p H1, H p = none → Same H H1 → H1 p = some (.dK (dcRun k v xs)) → Q (.ref p) H1) : tDc wi (gName j) tYes tk tv vs σ H Q := hwk.go H (Ex.refl H) _ fun H1 e1 Dl hD => by
  refine ⟨fun i m H' => m = xs.length - i ∧ i ≤ xs.length ∧ Ex H1 H' ∧ H' Dl = some (.dK (dcRun k v (xs.take i))), ⟨xs.length, by omega, Nat.zero_le _, Ex.new hD, by rw [upd_same]; rfl⟩, ?_⟩
  rintro i m H' ⟨rfl, hi, ex, hd⟩
  by_cases hlt : i < xs.length
  · refine .inr ⟨hwk.walk.goes i H' hlt (hwk.all _ (e1.trans ex)), fun H2 => Ex H1 H2 ∧ H2 Dl = some (.dK (dcRun k v (xs.take (i + 1)))), fun H2 n => ⟨xs.length - (i + 1), by omega, rfl, hlt, n.1, n.2⟩, fun x H2 hy => ?_⟩
    obtain ⟨rfl, hx⟩ := hwk.walk.yields i H' x H2 hlt (hwk.all _ (e1.trans ex)) hy
    have hm : x ∈ xs := List.mem_of_getElem? hx
    refine ⟨hw x, rd_yes (iteT ?_)⟩
    refine hk x hm H1 e1 H2 ex _ fun H3 e3 => he x hm H1 e1 H3 (ex.trans e3) _ fun H4 e4 => ⟨_, k x, rfl, e4 _ _ (e3 _ _ hd), ?_, ?_⟩
    · have h1 := dcRun_len k v (xs.take i)
      rw [List.length_take] at h1
      exact sz_lt (by omega)
    · refine ⟨Ex.mut ((ex.trans e3).trans e4) hD, ?_⟩
      rw [upd_same, dcRun_succ hx]
  · obtain rfl : i = xs.length := by omega
    refine .inl ⟨hwk.walk.stops H' (hwk.all _ (e1.trans ex)), q Dl H' (fresh_back e1 hD) (e1.trans ex) ?_⟩
    rw [hd, List.take_length]
theorem dcRun_nodup {k : V → Key} {v : V → V} : ∀ {xs : List V}, (xs.map k).Nodup → dcRun k v xs = xs.map fun x => (k x, v x) := by
  have key : ∀ (l : List V) (acc : List (Key × V)), (l.map k).Nodup → (∀ x ∈ l, valV acc (k x) = none) → l.foldl (fun acc x => putK acc (k x) (v x)) acc = acc ++ l.map fun x => (k x, v x) := by
    intro l
    induction l with
    | nil => intro acc _ _; simp
    | cons x r ih =>
      intro acc hn hv
      rw [List.map_cons, List.nodup_cons] at hn
      rw [List.foldl_cons, putK_new _ (hv x List.mem_cons_self), ih _ hn.2 (fun y hy => ?_)]
      · simp
      · have hne : ¬ k x = k y := fun e => hn.1 (by rw [e]; exact List.mem_map.mpr ⟨y, hy, rfl⟩)
        have h0 := hv y (List.mem_cons_of_mem _ hy)
        unfold valV at h0 ⊢
        rw [Option.map_eq_none_iff] at h0 ⊢
        rw [List.find?_append, h0]
        simp [hne]
  intro xs h
  have := key xs [] h (fun _ _ => rfl)
  simpa [dcRun] using this
/-- a for loop over such a thing -/
theorem rd_for {g : TG} {tb : TS} {D : Ends} (hwk : Wk wi σ H J G xs) (Pv : Nat → L2.St → Hp → Prop) (h0 : ∀ H1, Same H H1 → Pv 0 σ H1) (hG : ∀ i σ' H', i ≤ xs.length → Pv i σ' H' → G H')
    (hs : ∀ i x σ' H', xs[i]? = some x → Pv i σ' H' → g x σ' H' fun σ2 H2 => tb { D with nx := Pv (i + 1), ct := Pv (i + 1), bk := D.nx } σ2 H2) (hd : ∀ σ' H', Pv xs.length σ' H' → D.nx σ' H') : tFor wi g tb D σ H :=
  hwk.go H (Ex.refl H) _ fun H1 e1 => for_it (G := G) hwk.walk Pv (h0 H1 e1) hG (fun i x σ' H' H'' hi pv hy => by
    obtain ⟨rfl, hx⟩ := hy
    exact hs i x σ' H'' hx pv) hd
theorem rd_sadd {P : Program} {w : World} {to : TE} {tA : TA} {Q : VK} (h : to σ H fun x H1 => (∃ a S n, x = V.ref a ∧ H1 a = some (SetK P w a S n)) ∧ tA σ H1 fun xs H2 => rSAddK P w x xs H2 Q) : tSAddK P w to tA σ H Q := h
theorem rd_forT {g : TG} {tb : TS} {D : Ends} (h : wi σ H fun J H1 => ∃ W : Nat → Nat → L2.St → Hp → Prop, (∃ m, W 0 m σ H1) ∧ ∀ i m σ H, W i m σ H →
  (J.stop i H ∧ D.nx σ H) ∨ (J.go i H ∧ ∃ N : L2.St → Hp → Prop, (∀ σ' H', N σ' H' → ∃ m', m' < m ∧ W (i + 1) m' σ' H') ∧ ∀ x H', J.yld i H x H' → g x σ H' fun σ2 H2 => tb { D with nx := N, ct := N, bk := D.nx } σ2 H2)) : tFor wi g tb D σ H := h
end
end NW

/-! Slices of lists and texts; comprehensions over new lists. -/
namespace NW
open PySem PySem.Spec PyProof.Rows L2 Evl
theorem cutV_to (xs : List V) (k : Nat) : cutV xs none (some (k : Int)) = xs.take k := by
  unfold cutV
  rw [HT.sIx_none, HT.sIx_nat, List.drop_zero, Nat.sub_zero]
  by_cases h : k ≤ xs.length
  · rw [Nat.min_eq_left h]
  · rw [Nat.min_eq_right (by omega), List.take_length, List.take_of_length_le (by omega)]
theorem cutV_from (xs : List V) (k : Nat) : cutV xs (some (k : Int)) none = xs.drop k := by
  unfold cutV
  rw [HT.sIx_none, HT.sIx_nat]
  by_cases h : k ≤ xs.length
  · rw [Nat.min_eq_left h, List.take_of_length_le (by rw [List.length_drop]; omega)]
  · rw [Nat.min_eq_right (by omega), List.drop_length, List.drop_of_length_le (by omega)]
    simp
theorem cutS_to (l : List Nat) (k : Nat) : cutS (tx l) none (some (k : Int)) = tx (l.take k) := by
  unfold cutS tx
  simp only [HT.sIx_none, HT.sIx_nat, Nat.sub_zero]
  show (⟨_⟩ : Str) = _
  congr 1
  simp [Str.length]
theorem cutS_from (l : List Nat) (k : Nat) : cutS (tx l) (some (k : Int)) none = tx (l.drop k) := by
  unfold cutS tx
  simp only [HT.sIx_none, HT.sIx_nat]
  show (⟨_⟩ : Str) = _
  congr 1
  simp [Str.length]
  by_cases h : k ≤ l.length
  · rw [Nat.min_eq_left h, List.take_of_length_le (by rw [List.length_drop]; omega)]
  · rw [Nat.min_eq_right (by omega)]
    simp
    omega
section
variable {K : PySem.W.Frag} {σ : L2.St} {H H' : Hp} {ta tb te tl tk tv : TE} {t t1 : TT} {v : V} {xs ys : List V} {Q : VK}
theorem el_slA {tl th : TO} {a : Addr} {lo hi : Option Int} (h : Ev te σ H (.ref a)) (h1 : EvO tl σ H lo) (h2 : EvO th σ H hi) (hs : SqL K H a xs) : EvL (tSl (rSlA2 K) te tl th) σ H (cutV xs lo hi) := fun H1 e _ q =>
  h H1 e _ fun H2 e2 => h1 H2 (e.trans e2) _ fun H3 e3 => h2 H3 ((e.trans e2).trans e3) _ fun H4 e4 =>
    .inl ⟨a, xs, rfl, ex_l (((e.trans e2).trans e3).trans e4) hs, fun p hp => q p _ (fresh_back ((e2.trans e3).trans e4) hp) (((e2.trans e3).trans e4).trans (Ex.new hp)) upd_same⟩
theorem el_lcN {j : Nat} {vs : List Nat} (p : V → Bool) (v : V → V) (h : EvL tl σ H xs) (hz : xs.length ≤ 40000) (hw : ∀ x, wipe ((wipe σ vs).set j (some x)) vs = wipe σ vs)
    (ht : ∀ x ∈ xs, ∀ H1, Ex H H1 → EvT t ((wipe σ vs).set j (some x)) H1 (p x)) (he : ∀ x ∈ xs, ∀ H1, Ex H H1 → p x = true → Ev te ((wipe σ vs).set j (some x)) H1 (v x)) :
    EvL (tLc (iList K tl) (gName j) t te vs) σ H ((xs.filter p).map v) := by
  rw [← given_getD (d := V.non) xs p v]
  refine el_lcNL _ _ h hz hw (fun i x H1 e hx => ?_) (fun i x H1 e hx hf => ?_)
  · have hd : xs.getD i .non = x := by simp [List.getD, hx]
    show EvT t _ H1 (p (xs.getD i .non))
    rw [hd]
    exact ht x (List.mem_of_getElem? hx) H1 e
  · have hd : xs.getD i .non = x := by simp [List.getD, hx]
    have hf' : p (xs.getD i .non) = true := hf
    rw [hd] at hf'
    show Ev te _ H1 (v (xs.getD i .non))
    rw [hd]
    exact he x (List.mem_of_getElem? hx) H1 e hf'
theorem sl_s {l : List Nat} {lo hi : Option Int} {m : List Nat} (e : cutS (tx l) lo hi = tx m) (z : l.length ≤ 100000) (h : Q (.str (tx m)) H) : rSlA2 K (.str (tx l)) lo hi H Q :=
  .inr ⟨tx l, rfl, by rw [tx_length]; exact Nat.le_trans z (by decide), by rw [e]; exact h⟩
theorem sl_l {a : Addr} {lo hi : Option Int} (hs : SqL K H a xs) (h : ∀ p, H p = none → Q (.ref p) (upd H p (.lst (cutV xs lo hi)))) : rSlA2 K (.ref a) lo hi H Q := .inl ⟨a, xs, rfl, hs, h⟩
/-- for i in range(n) -/
theorem rd_rng {j : Nat} {tb : TS} {D : Ends} {tA : TA} {n : Nat} (hn : n ≤ 100000) (h : EvA tA σ H [.int (n : Nat)]) (Pv : Nat → L2.St → Hp → Prop) (h0 : ∀ H1, Same H H1 → Pv 0 σ H1)
    (hs : ∀ (i : Nat) σ' H', i < n → Pv i σ' H' → tb { D with nx := Pv (i + 1), ct := Pv (i + 1), bk := D.nx } (σ'.set j (some (.int (i : Nat)))) H') (hd : ∀ σ' H', Pv n σ' H' → D.nx σ' H') : tFor (iRng1 tA) (gName j) tb D σ H :=
  s_forR1 h ⟨by omega, by omega⟩ Pv h0 (fun i σ' H' hi p => hs i σ' H' (by omega) p) (fun σ' H' p => hd σ' H' (by simpa using p))
end
end NW

/-! list(text), tuple(text). -/
namespace NW
open PySem PySem.Spec PyProof.Rows L2 Evl
theorem vals_sgs {l : List Nat} {acc : Array Value} (h : ItemsOf (SignAt (tx l)) acc (tx l).cps.size) : Vals (vSgs l) acc.toList := by
  obtain ⟨h1, h2⟩ := h
  rw [tx_size] at h1
  refine vals_of_at (by rw [vSgs_len, ← h1]; exact (Array.length_toList (xs := acc)).symm) fun j x u hx hu => ?_
  obtain ⟨c, t, hc, rfl⟩ := h2 j u (by rw [← hu, Array.getElem?_toList])
  rw [tx_get] at hc
  rw [vSgs_get hc] at hx
  cases hx
  exact ⟨t, rfl⟩
section
variable {X : Cx}
def rListS : List V → Hp → VK → Prop := fun xs H Q => ∃ l : List Nat, xs = [.str (tx l)] ∧ l.length ≤ 100000 ∧ ∀ p, H p = none → Q (.ref p) (upd H p (.lst (vSgs l)))
theorem call_listS (hc : X.calm = true) : CallR X (.type "list") rListS := by
  intro pins s σ H xs us Q I r h
  obtain ⟨l, rfl, hz, q⟩ := h
  obtain ⟨u, rfl, rx⟩ := vals1 r
  obtain ⟨t, rfl⟩ := rx
  have hn : (tx l).cps.size ≤ sizeLine := by rw [tx_size]; exact Nat.le_trans hz (by decide)
  refine call_list_str (I.ok.hd hc) (tx l) t (fun h' tk acc c' hk e hi => ?_) hn
  refine ⟨.ref s.heap.objs.size, _, I.laid (t' := tk) hk (Nat.le_refl _) (show ObjOk X.prog X.w _ _ _ (.lst (vSgs l)) from ⟨?_, acc.toList, c', vals_sgs hi, ?_⟩), rfl, q _ (I.hok.fresh (Nat.le_refl _))⟩
  · rw [vSgs_len, ← tx_size]; exact hn
  · rw [Array.toArray_toList]; exact e
def rTupS : List V → Hp → VK → Prop := fun xs H Q => ∃ l : List Nat, xs = [.str (tx l)] ∧ l.length ≤ 100000 ∧ ∀ p H', H p = none → Same H H' → H' p = some (.tup (vSgs l)) → Q (.ref p) H'
theorem call_tupS (hc : X.calm = true) : CallR X (.type "tuple") rTupS := by
  intro pins s σ H xs us Q I r h
  obtain ⟨l, rfl, hz, q⟩ := h
  obtain ⟨u, rfl, rx⟩ := vals1 r
  obtain ⟨t, rfl⟩ := rx
  have hn : (tx l).cps.size ≤ sizeLine := by rw [tx_size]; exact Nat.le_trans hz (by decide)
  refine call_tuple_str (I.ok.hd hc) (tx l) t (fun h' tk acc hk hi => ?_) hn
  have I2 : Inv X pins σ H { s with heap := h', toks := tk } := I.kept hk
  refine ⟨.ref h'.objs.size, upd H h'.objs.size (.tup (vSgs l)), I2.laid (t' := tk) (fun c o e => Heap.get?_push_of_some _ e) (Nat.le_refl _) (show ObjOk X.prog X.w _ _ _ (.tup (vSgs l)) from ⟨?_, acc.toList, vals_sgs hi, ?_⟩), rfl, q _ _ (I2.hok.fresh (Nat.le_refl _)) (Same.new (I2.hok.fresh (Nat.le_refl _))) upd_same⟩
  · rw [vSgs_len, ← tx_size]; exact hn
  · rw [Array.toArray_toList]; exact IsTup.new _ _
def rListB (K : PySem.W.Frag) : List V → Hp → VK → Prop := fun xs H Q => rListA K xs H Q ∨ rListS xs H Q
theorem call_listB {K : PySem.W.Frag} (h : X.K = K) (hc : X.calm = true) : CallR X (.type "list") (rListB K) := CallR.or (call_listK h) (call_listS hc)
end
section
variable {K : PySem.W.Frag} {H : Hp} {Q : VK}
theorem list_t {l : List Nat} (hz : l.length ≤ 100000) (h : ∀ p, H p = none → Q (.ref p) (upd H p (.lst (vSgs l)))) : rListB K [.str (tx l)] H Q := .inr ⟨l, rfl, hz, h⟩
theorem list_b {p : Addr} {ys : List V} (hs : SqL K H p ys) (h : ∀ l, H l = none → Q (.ref l) (upd H l (.lst ys))) : rListB K [.ref p] H Q := .inl (list_l hs h)
theorem tup_t {l : List Nat} (hz : l.length ≤ 100000) (h : ∀ p H', H p = none → Same H H' → H' p = some (.tup (vSgs l)) → Q (.ref p) H') : rTupS [.str (tx l)] H Q := ⟨l, rfl, hz, h⟩
end
section
variable {σ : L2.St} {H : Hp} {Q : VK} {D : Ends}
theorem rd_dnewK (h : ∀ p, H p = none → Q (.ref p) (upd H p (.dK []))) : tDNewK σ H Q := h
def rFindS : V → List V → Hp → VK → Prop := fun x xs H Q => ∃ a b, x = .str a ∧ xs = [.str b] ∧ Q (.int (Txt.find a b)) H
theorem mt_findA {X : Cx} : MtR X "str.find" rFindS := mt_find
def rUpS : V → List V → Hp → VK → Prop := fun x xs H Q => ∃ a, x = .str a ∧ xs = [] ∧ a.length ≤ 5592405 ∧ Q (.str (Txt.upper a)) H
theorem mt_upperA {X : Cx} : MtR X "str.upper" rUpS := mt_upper
def rLoS : V → List V → Hp → VK → Prop := fun x xs H Q => ∃ a, x = .str a ∧ xs = [] ∧ a.length ≤ 5592405 ∧ Q (.str (Txt.lower a)) H
theorem mt_lowerA {X : Cx} : MtR X "str.lower" rLoS := mt_lower
theorem ty_str {K : PySem.W.Frag} {z : Str} : tyV K "str" (.str z) H := rfl
theorem find_s {x y : Str} (h : Q (.int (Txt.find x y)) H) : rFindS (.str x) [.str y] H Q := ⟨x, y, rfl, rfl, h⟩
theorem put_l {l : Addr} {xs : List V} {y : V} (hl : H l = some (.lst xs)) (z : xs.length ≤ 100000) (h : Q .non (upd H l (.lst (xs ++ [y])))) : rAppend (.ref l) [y] H Q :=
  ⟨l, xs, y, rfl, rfl, hl, Nat.lt_of_le_of_lt z (by decide), h⟩
theorem ty_lst {K : PySem.W.Frag} {l : Addr} {xs : List V} (hl : SqL K H l xs) : tyV K "list" (.ref l) H := .inl ⟨rfl, xs, hl⟩
end
theorem both {c : Bool} {A B : Prop} (h1 : A) (h2 : B) : if c = true then A else B := by cases c <;> simp [h1, h2]
theorem rd_tyS {K : PySem.W.Frag} {z : Str} {H : Hp} {p : Prop} (h : p) : tyV K "str" (.str z) H ∧ p := ⟨rfl, h⟩
theorem atI_end {α : Type} {l : List α} (h : l ≠ []) : ∃ c ∈ l, atI l (-1) = some c ∧ ∃ r, l = r ++ [c] := by
  obtain ⟨r, c, rfl⟩ : ∃ r c, l = r ++ [c] := ⟨l.dropLast, l.getLast h, (List.dropLast_concat_getLast h).symm⟩
  exact ⟨c, by simp, atI_last r c, r, rfl⟩
theorem atI_0 {α : Type} {l : List α} (h : l ≠ []) : ∃ c ∈ l, atI l 0 = some c := by
  match l, h with
  | a :: r, _ => exact ⟨a, List.mem_cons_self, atI_nat (xs := a :: r) (j := 0) rfl⟩
section
variable {X : Cx} {K : PySem.W.Frag}
theorem pe_bmA {T : String} {r : V → List V → Hp → VK → Prop} {o e : Expr} {es : List Expr} {to : TE} {t : TA} {nm : Str} {apos cpos : Pos}
    (h : X.K = K) (p : PE X (.Call (.Attribute o nm apos) (e :: es) [] cpos) (tBM X.K T r to t)) : PE X (.Call (.Attribute o nm apos) (e :: es) [] cpos) (tBM K T r to t) := h ▸ p
end
def dBl (b : Bool) : PyData := .bool b
theorem item_bl : Item dBl 1 (fun _ => True) := by
  refine ⟨fun a _ => by simp [dBl, PyData.canLay0], fun a => by simp [dBl, PyData.depth], fun a b => ?_⟩
  unfold dBl
  simp [PyData.eqv]
def vBls (bs : List Bool) : List V := bs.map V.bl
theorem dpAll_bls {K : PySem.W.Frag} {H : Hp} : ∀ bs : List Bool, DpAll K H (vBls bs) (bs.map dBl)
  | [] => .nil
  | b :: r => .cons (.bl _) (dpAll_bls r)
theorem dp_bls {K : PySem.W.Frag} {H : Hp} {a : Addr} {bs : List Bool} (h : SqL K H a (vBls bs)) : Dp K H (.ref a) (dList dBl bs) := .lst h (dpAll_bls bs)
def rInTD (K : PySem.W.Frag) : R2 := fun x y H Q => ∃ d ds, Dp K H x d ∧ Dp K H y (.tuple ds) ∧ SeqAt.shaped d = true ∧ SeqAt.shaped (.tuple ds) = true ∧ Q (.bl (ds.any fun z => PyData.eqv z d)) H
theorem op_inTD {X : Cx} (hu : X.A.units + 65 < cLine) : OpR X (compareOp .In) (rInTD X.K) := by
  intro pins s σ H x y v u Q I rx ry h
  obtain ⟨d, ds, hd, he, sd, se, q⟩ := h
  obtain ⟨as, r1⟩ := Dp.reads I d x v hd rx
  obtain ⟨bs, r2⟩ := Dp.reads I (.tuple ds) y u he ry
  exact SeqAt.in_tuple_reads r2 r1 (SeqAt.canLay_of_shaped se) (SeqAt.canLay_of_shaped sd) (room_in_shaped sd hu) ⟨.bl _, H, I, rfl, q⟩
theorem op_inTDK {X : Cx} {K : PySem.W.Frag} (h : X.K = K) (hu : X.A.units + 65 < cLine) : OpR X (compareOp .In) (rInTD K) := h ▸ op_inTD hu
theorem vSgs_txs (l : List Nat) : vSgs l = vTxs (l.map fun c => [c]) := by
  unfold vSgs vTxs
  rw [List.map_map]
  rfl
theorem exm_of {K : PySem.W.Frag} {c x : Addr} {b : Bool} (h1 : PySem.W.subIn K (.ref c) (.type "BaseException") = some true) (h2 : PySem.W.isClsIn K c = true) (h3 : PySem.W.typeIn K (.ref c) = some (.type "type"))
    (h4 : PySem.W.subIn K (.ref x) (.ref c) = some b) : PySem.W.exmOne K (.ref x) (.ref c) = some b := by
  have e1 : (PySem.W.subIn K (.ref c) (.type "BaseException") == some true) = true := by rw [h1] <;> rfl
  have e2 : ((PySem.W.clsIn K c).isSome && PySem.W.typeIn K (.ref c) == some (.type "type")) = true := by
    have h2' : (PySem.W.clsIn K c).isSome = true := h2
    rw [h2', h3] <;> rfl
  show (if (PySem.W.subIn K (.ref c) (.type "BaseException") == some true) = true then (if ((PySem.W.clsIn K c).isSome && PySem.W.typeIn K (.ref c) == some (.type "type")) = true then PySem.W.subIn K (.ref x) (.ref c) else none) else none) = some b
  rw [if_pos e1, if_pos e2]
  exact h4
end NW

/-! Comprehensions over a dict's items; what is locked meanwhile. -/
namespace NW
open PySem PySem.Spec PyProof.Rows L2 Evl
section
variable {K : PySem.W.Frag} {σ : L2.St} {H H' : Hp} {td te : TE} {t : TT} {g : TG}
theorem rd_lockE {t : TE} {Q : VK} (d : Addr) (u : HO) (hd : H d = some u) (m : Mut (some u)) (h : ∀ od, t σ (upd H d (.frz od u)) fun v H' => H' d = some (.frz od u) ∧ Q v (upd H' d u)) : tLockE t σ H Q := ⟨d, u, hd, m, h⟩
theorem lock_back {d : Addr} {u x : HO} {H1 : Hp} (hd : H d = some u) (s : Same (upd H d x) H1) : Same H (upd H1 d u) := fun b o e => by
  by_cases hb : b = d
  · rw [hb, upd_same, ← hd, ← hb]
    exact e.symm ▸ rfl
  · rw [upd_ne hb]
    exact s b o (by rw [upd_ne hb]; exact e)
theorem lock_free {d p : Addr} {x : HO} (h : upd H d x p = none) : p ≠ d ∧ H p = none := by
  have n : p ≠ d := fun e => by rw [e, upd_same] at h; cases h
  exact ⟨n, by rwa [upd_ne n] at h⟩
def kv0 : Key × V := (Sum.inl 0, .non)
/-- [te for a, b in d.items() if t] -/
theorem el_lcI {d : Addr} {od : Obj} {kvs : List (Key × V)} {a b : Nat} {vs : List Nat} (p : Key × V → Bool) (v : Key × V → V) (h : Ev td σ H (.ref d)) (hd : H d = some (.frz od (.dK kvs))) (hz : kvs.length ≤ 40000)
    (hw : ∀ x y, wipe (((wipe σ vs).set a (some x)).set b (some y)) vs = wipe σ vs)
    (hg : ∀ x y T σ' H' (R : L2.St → Hp → Prop), H' T = some (.tup [x, y]) → R ((σ'.set a (some x)).set b (some y)) H' → g (.ref T) σ' H' R)
    (ht : ∀ kv ∈ kvs, ∀ H1, Ex H H1 → EvT t (((wipe σ vs).set a (some (kV kv.1))).set b (some kv.2)) H1 (p kv))
    (he : ∀ kv ∈ kvs, ∀ H1, Ex H H1 → p kv = true → Ev te (((wipe σ vs).set a (some (kV kv.1))).set b (some kv.2)) H1 (v kv)) :
    EvL (tLc (iItems td) g t te vs) σ H ((kvs.filter p).map v) := fun H0 e Q q => h H0 e _ fun H1 e1 => ⟨d, od, kvs, rfl, e1 _ _ (e _ _ hd), fun Dl hD => by
  have hd1 : H1 d = some (.frz od (.dK kvs)) := e1 _ _ (e _ _ hd)
  refine lc_it (G := fun H => H d = some (.frz od (.dK kvs))) (walk_items (d := d) (o := od) (kvs := kvs)) (Cw H1 (fun i => p (kvs.getD i kv0)) (fun i => v (kvs.getD i kv0)) Dl) ⟨hD, Ex.new hD, upd_same⟩ (fun _ _ _ pv => pv.2.1 _ _ hd1) (fun i x H' H'' hi pv hy => ?_) (fun H' pv => ?_)
  · obtain ⟨T, k, w, rfl, hT, rfl, hk, hv⟩ := hy
    have hx : kvs[i]? = some (kvs.getD i kv0) := by simp [List.getD, List.getElem?_eq_getElem hi]
    have hk' : (kvs[i]?).map (fun kv => kV kv.1) = some k := hk
    have hv' : (kvs[i]?).map Prod.snd = some w := hv
    rw [hx] at hk' hv'
    cases hk'
    cases hv'
    have hm : kvs.getD i kv0 ∈ kvs := List.mem_of_getElem? hx
    refine hg _ _ T _ _ _ upd_same ⟨hw _ _, ?_⟩
    have hi' : i < 50000 := by omega
    obtain ⟨p1, p2, p3⟩ := pv
    have pv' : Cw H1 (fun i => p (kvs.getD i kv0)) (fun i => v (kvs.getD i kv0)) Dl i (upd H' T (.tup [kV (kvs.getD i kv0).1, (kvs.getD i kv0).2])) := ⟨p1, p2.trans (Ex.new hT), by rw [upd_ne (ne_of_none p3 hT)]; exact p3⟩
    exact cw_turn pv' hi' (ht _ hm H1 (e.trans e1)) fun hf => he _ hm H1 (e.trans e1) hf
  · obtain ⟨p1, p2, p3⟩ := pv
    rw [given_getD] at p3
    exact q Dl H' (fresh_back e1 p1) (e1.trans p2) p3⟩
theorem rd_rev {j n : Nat} {tb : TS} {D : Ends} (hn : n ≤ 100000) (h : Ev te σ H (.int (n : Nat))) (Pv : Nat → L2.St → Hp → Prop) (h0 : ∀ H1, Same H H1 → Pv 0 σ H1)
    (hs : ∀ (i : Nat) σ' H', i < n → Pv i σ' H' → tb { D with nx := Pv (i + 1), ct := Pv (i + 1), bk := D.nx } (σ'.set j (some (.int ((n - 1 - i : Nat) : Int)))) H') (hd : ∀ σ' H', Pv n σ' H' → D.nx σ' H') : tFor (iRevR (tRg1 te)) (gName j) tb D σ H := by
  refine h H (Ex.refl H) _ fun H1 e1 => ⟨(n : Nat), rfl, by omega, by omega, by omega, by omega, ?_⟩
  have e : (((n : Nat) : Int) - 0).toNat = n := by omega
  rw [e]
  refine for_it (G := fun _ => True) walk_rangeC Pv (h0 H1 e1) (fun _ _ _ _ _ => trivial) (fun i x σ' H' H'' hi pv hy => ?_) hd
  obtain ⟨rfl, rfl⟩ := hy
  have e2 : (0 : Int) + ((n : Nat) : Int) - 1 + (i : Nat) * (-1) = ((n - 1 - i : Nat) : Int) := by omega
  show tb _ (σ'.set j (some (.int ((0 : Int) + ((n : Nat) : Int) - 1 + (i : Nat) * (-1))))) _
  rw [e2]
  exact hs i σ' _ hi pv
theorem rd_rv {l : Addr} {xs : List V} {Q : VK} (hl : H l = some (.lst xs)) (h : Q .non (upd H l (.lst xs.reverse))) : rReverse (.ref l) [] H Q := ⟨l, xs, rfl, rfl, hl, h⟩
end
section
variable {X : Cx}
/-- name = {..} by a comprehension, on one line, the name a local -/
theorem ps_setDc {i : Nat} {y : Str} {py : Pos} {kx vx tg iter : Expr} {ifs : List Expr} {scope : Scope} {own : List (Str × Nat)} {pos spos : Pos} {wi : TI} {g : TG} {tt : TT} {tk tv : TE} (hc : X.calm = true) (hN : X.N.Nodup) (hy : X.N[i]? = some y) (hyl : X.env.scope.names.lookup y = some .local)
    (hsw : swapsWith (.DictComp kx vx [⟨tg, iter, ifs, 0⟩] scope pos) (some (.Name y py)) spos.line X.env = pure true) (hi : PI X tg iter wi) (ok : BlkOk X.N X.env.scope scope own)
    (hg : ∀ (s : Shared) (H : Hp) (C : Addr) (cl : List (Str × Addr)) (fp : List Addr), PG (X.blk s H scope (compEnvC scope cl C X.env) fp) tg g) (ht : ∀ (s : Shared) (H : Hp) (C : Addr) (cl : List (Str × Addr)) (fp : List Addr), PTs (X.blk s H scope (compEnvC scope cl C X.env) fp) ifs tt)
    (hk : ∀ (s : Shared) (H : Hp) (C : Addr) (cl : List (Str × Addr)) (fp : List Addr), PE (X.blk s H scope (compEnvC scope cl C X.env) fp) kx tk)
    (he : ∀ (s : Shared) (H : Hp) (C : Addr) (cl : List (Str × Addr)) (fp : List Addr), PE (X.blk s H scope (compEnvC scope cl C X.env) fp) vx tv) (hs : ∀ x, foldedSetIterable iter X.env x = pure x := by intro _; rfl) :
    PS X (.Assign [.Name y py] (.DictComp kx vx [⟨tg, iter, ifs, 0⟩] scope pos) spos) (tAsg (tDc wi g tt tk tv (own.map (·.2))) (gName i)) := by
  refine ⟨fun pins s σ H D I h => ?_⟩
  rw [exec_Assign_Name_used _ _ _ _ hsw]
  refine wpAny_bind (wpAny_standAt (wpAny_bind ?_))
  show wpAny _ X.A (do let _ ← comprehension (.DictComp kx vx [⟨tg, iter, ifs, 0⟩] scope pos) scope X.env (firstIterPos [⟨tg, iter, ifs, 0⟩] pos) newDict false (eval iter X.env) (some (assign (.Name y py) X.env))) _ _ s
  have h : tDc wi g tt tk tv (own.map (·.2)) σ H (fun x H1 => gName i x σ H1 D.nx) := h
  refine wpAny_bind (thn (dc_core (Qf := fun _ s' => SP X pins D .next s') hc hN I hi ok hg ht hk he hs h fun L C s' m H' I' q hn f => ?_) fun _ s' hq => wpAny_pure (wpAny_pure hq))
  show wpAny _ _ (assign (.Name y py) X.env (.ref L)) _ _ _
  refine wpAny_assign_Name (store_ok2 (v := V.ref L) I' hN hy (.inl hyl) rfl (fun s2 I2 ⟨a, sb, ha⟩ => ?_) (.inr hyl))
  obtain ⟨f0, f1, f2, f3, f4, f5⟩ := f
  have haC : C ≠ a := by
    rcases ha with z | z
    · rw [z]; exact f1
    · exact fun e => f4 y a z e.symm
  refine ⟨m, hn.sameBut sb haC, fun h3 sb3 => ?_⟩
  exact ⟨_, H', I2.turned (t' := s2.toks) (fun b o hb e => (sb3.2 b hb).trans e) f0 f1 f3 f4 f5, q⟩
theorem swd_true {kx vx : Expr} {gs : List Comprehension} {scope : Scope} {pos py : Pos} {y : Str} {l : Nat} {env : Env} (hk : env.scope.kind = .function) (hy : env.scope.names.lookup y = some .local) (hl : (py.line == pos.line) = true)
    (ha : (scope.names.any fun (n, k) => n == y && (k == .local || k == .cell)) = false) : swapsWith (.DictComp kx vx gs scope pos) (some (.Name y py)) l env = pure true := by
  have ky : env.kindOf y = some .local := hy
  have hb : env.blockKind = .function := by unfold Env.blockKind; rw [hk]; rfl
  unfold swapsWith
  simp only [hb, ky, ha, Expr.pos, hl]
  rfl
end
end NW

/-! Comprehensions over a dict's items that make new objects. -/
namespace NW
open PySem PySem.Spec PyProof.Rows L2 Evl
def Pairs {α β : Type} (R : α → β → Prop) (xs : List α) (ys : List β) : Prop := xs.length = ys.length ∧ ∀ (i : Nat) (x : α) (y : β), xs[i]? = some x → ys[i]? = some y → R x y
theorem Pairs.nil {α β : Type} {R : α → β → Prop} : Pairs R [] [] := ⟨rfl, fun _ _ _ h => by cases h⟩
theorem Pairs.mono {α β : Type} {R S : α → β → Prop} {xs : List α} {ys : List β} (p : Pairs R xs ys) (h : ∀ x y, R x y → S x y) : Pairs S xs ys := ⟨p.1, fun i x y a b => h x y (p.2 i x y a b)⟩
theorem Pairs.snoc {α β : Type} {R : α → β → Prop} {xs : List α} {ys : List β} {x : α} {y : β} (p : Pairs R xs ys) (h : R x y) : Pairs R (xs ++ [x]) (ys ++ [y]) := by
  obtain ⟨hl, p⟩ := p
  refine ⟨by rw [List.length_append, List.length_append, hl]; rfl, fun i a b ha hb => ?_⟩
  by_cases hi : i < xs.length
  · rw [List.getElem?_append_left hi] at ha
    rw [List.getElem?_append_left (by omega)] at hb
    exact p i a b ha hb
  · rw [List.getElem?_append_right (by omega)] at ha
    rw [List.getElem?_append_right (by omega), ← hl] at hb
    have : i - xs.length = 0 := by
      have := (List.getElem?_eq_some_iff.mp ha).1
      simp at this
      omega
    rw [this] at ha hb
    cases ha
    cases hb
    exact h
section
variable {K : PySem.W.Frag} {σ : L2.St} {H H' : Hp} {td te : TE} {t : TT} {g : TG} {Q : VK}
theorem rd_lcI {d : Addr} {od : Obj} {kvs : List (Key × V)} {a b : Nat} {vs : List Nat} (p : Key × V → Bool) (Rl : Hp → Key × V → V → Prop) (h : Ev td σ H (.ref d)) (hd : H d = some (.frz od (.dK kvs))) (hz : kvs.length ≤ 40000)
    (hw : ∀ x y, wipe (((wipe σ vs).set a (some x)).set b (some y)) vs = wipe σ vs)
    (hg : ∀ x y T σ' H' (R : L2.St → Hp → Prop), H' T = some (.tup [x, y]) → R ((σ'.set a (some x)).set b (some y)) H' → g (.ref T) σ' H' R)
    (ht : ∀ kv ∈ kvs, ∀ H1, Ex H H1 → EvT t (((wipe σ vs).set a (some (kV kv.1))).set b (some kv.2)) H1 (p kv))
    (he : ∀ kv ∈ kvs, ∀ H1, Ex H H1 → p kv = true → ∀ Q' : VK, (∀ v H2, Ex H1 H2 → Rl H2 kv v → Q' v H2) → te (((wipe σ vs).set a (some (kV kv.1))).set b (some kv.2)) H1 Q')
    (hx : ∀ H1 H2 kv v, Ex H1 H2 → Rl H1 kv v → Rl H2 kv v) (hm : ∀ H1 D xs o kv v, H1 D = some (.lst xs) → Rl H1 kv v → Rl (upd H1 D o) kv v)
    (q : ∀ P H1 us, H P = none → Ex H H1 → H1 P = some (.lst us) → Pairs (Rl H1) (kvs.filter p) us → Q (.ref P) H1) : tLc (iItems td) g t te vs σ H Q :=
  h H (Ex.refl H) _ fun H1 e1 => ⟨d, od, kvs, rfl, e1 _ _ hd, fun Dl hD => by
  have hd1 : H1 d = some (.frz od (.dK kvs)) := e1 _ _ hd
  refine lc_it (G := fun H => H d = some (.frz od (.dK kvs))) (walk_items (d := d) (o := od) (kvs := kvs)) (fun i H' => Ex H1 H' ∧ ∃ acc, H' Dl = some (.lst acc) ∧ acc.length ≤ i ∧ Pairs (Rl H') ((kvs.take i).filter p) acc)
    ⟨Ex.new hD, [], upd_same, Nat.le_refl _, Pairs.nil⟩ (fun _ _ _ pv => pv.1 _ _ hd1) (fun i x H' H'' hi pv hy => ?_) (fun H' pv => ?_)
  · obtain ⟨T, k, w, rfl, hT, rfl, hk, hv⟩ := hy
    have hxi : kvs[i]? = some (kvs.getD i kv0) := by simp [List.getD, List.getElem?_eq_getElem hi]
    have hk' : (kvs[i]?).map (fun kv => kV kv.1) = some k := hk
    have hv' : (kvs[i]?).map Prod.snd = some w := hv
    rw [hxi] at hk' hv'
    cases hk'
    cases hv'
    have hmm : kvs.getD i kv0 ∈ kvs := List.mem_of_getElem? hxi
    refine hg _ _ T _ _ _ upd_same ⟨hw _ _, ?_⟩
    obtain ⟨p1, acc, p2, p3, p4⟩ := pv
    have p1' : Ex H1 (upd H' T (.tup [kV (kvs.getD i kv0).1, (kvs.getD i kv0).2])) := p1.trans (Ex.new hT)
    refine ht _ hmm H1 e1 _ p1' _ fun H3 e3 => ?_
    have p2' := e3 _ _ (upd_keep hT p2 : upd H' T (.tup [kV (kvs.getD i kv0).1, (kvs.getD i kv0).2]) Dl = some (.lst acc))
    have p4' : Pairs (Rl H3) ((kvs.take i).filter p) acc := p4.mono fun kv v r => hx _ _ _ _ ((Ex.new hT).trans e3) r
    cases hp : p (kvs.getD i kv0) with
    | false =>
      refine iteF ⟨p1'.trans e3, acc, p2', by omega, ?_⟩
      rw [take_succ_get hxi, List.filter_append]
      have e5 : [kvs.getD i kv0].filter p = [] := by rw [List.filter_cons, hp]; rfl
      rw [e5, List.append_nil]
      exact p4'
    | true =>
      refine iteT (he _ hmm H3 (e1.trans (p1'.trans e3)) hp _ fun v H4 e4 r => ⟨acc, e4 _ _ p2', sz_lt (by omega), (NW.Same.mut ((p1'.trans e3).trans e4) hD : Ex H1 _), acc ++ [v], upd_same, by rw [List.length_append]; exact Nat.add_le_add_right p3 1, ?_⟩)
      rw [take_succ_get hxi, List.filter_append]
      have e5 : [kvs.getD i kv0].filter p = [kvs.getD i kv0] := by rw [List.filter_cons, hp]; rfl
      rw [e5]
      exact ((p4'.mono fun kv u r => hx _ _ _ _ e4 r).snoc r).mono fun kv u r => hm _ _ _ _ _ _ (e4 _ _ p2') r
  · obtain ⟨p1, acc, p2, p3, p4⟩ := pv
    rw [List.take_length] at p4
    exact q Dl H' acc (fresh_back e1 hD) (e1.trans p1) p2 p4⟩
end
def ipA : TIp := fun x y H Q => (∃ i j, x = .int i ∧ y = .int j ∧ Q (.int (i + j)) H) ∨ ∃ i j, x = .str i ∧ y = .str j ∧ i.length + j.length ≤ sizeLine ∧ Q (.str (i ++ j)) H
theorem ip_addA {X : Cx} : PIp X .Add ipA := by
  intro pins s σ H x y v u Q I r1 r2 h
  rcases h with h | h
  · exact ip_add pins s σ H x y v u Q I r1 r2 h
  · exact iop_add_str pins s σ H x y v u Q I r1 r2 h
theorem ipA_s {l m : List Nat} {H : Hp} {Q : VK} (z : l.length + m.length ≤ 100000) (h : Q (.str (tx (l ++ m))) H) : ipA (.str (tx l)) (.str (tx m)) H Q :=
  .inr ⟨tx l, tx m, rfl, rfl, by rw [tx_length, tx_length]; exact Nat.le_trans z (by decide), by rw [tx_append]; exact h⟩
end NW

/-! isinstance of what an except clause holds; numbers: bit_length, ranges of what a call gives, whiles. -/
namespace NW
open PySem PySem.Spec PyProof.Rows L2 Evl
/-- isinstance(e, c), e what the suite holds -/
def rIsEx (K : PySem.W.Frag) (cls : Value) (d : Option Addr) (a : Addr) : List V → Hp → VK → Prop := fun xs H Q => ∃ (D : Addr) (c : V) (cv : Value) (b : Bool), cls = .ref D ∧ d = none ∧ ExcC K D ∧ xs = [.ref a, c] ∧ (∀ u, RelV c u → u = cv) ∧ PySem.W.kitOne K (.ref D) cv = some b ∧ Q (.bl b) H
theorem call_isEx {X : Cx} {K : PySem.W.Frag} (h : X.K = K) {a : Addr} {oe : Obj} {cls : Value} {d : Option Addr} {pn : List (Addr × Obj)} (hz : Zc cls d oe) (hf : ∃ vs, oe.data = .fields vs) : CallR (X.suite a ((a, oe) :: pn)) (.builtin "isinstance") (rIsEx K cls d a) := by
  subst h
  intro pins s σ H xs us Q I r hh
  obtain ⟨D, c, cv, b, rfl, rfl, C, rfl, hcv, e, q⟩ := hh
  exact call_isE C hz hf pins s σ H _ us Q I r ⟨c, cv, b, rfl, hcv, e, q⟩
theorem kit_self {K : PySem.W.Frag} {t : Value} : PySem.W.kitOne K t t = some true := by
  unfold PySem.W.kitOne
  rw [if_pos (by simp)]
theorem kit_own {K : PySem.W.Frag} {x c : Addr} {b : Bool} (h2 : PySem.W.isClsIn K c = true) (h3 : PySem.W.typeIn K (.ref c) = some (.type "type")) (h4 : PySem.W.subIn K (.ref x) (.ref c) = some b) (h5 : x = c → b = true) : PySem.W.kitOne K (.ref x) (.ref c) = some b := by
  have e2 : ((PySem.W.clsIn K c).isSome && PySem.W.typeIn K (.ref c) == some (.type "type")) = true := by
    have h2' : (PySem.W.clsIn K c).isSome = true := h2
    rw [h2', h3] <;> rfl
  unfold PySem.W.kitOne
  by_cases e : x = c
  · subst e
    rw [if_pos (by simp), h5 rfl]
  · rw [if_neg (by simpa using e)]
    show (if ((PySem.W.clsIn K c).isSome && PySem.W.typeIn K (.ref c) == some (.type "type")) = true then PySem.W.subIn K (.ref x) (.ref c) else none) = some b
    rw [if_pos e2]
    exact h4
section
variable {σ : L2.St} {H : Hp} {Q : VK} {D : Ends} {te : TE} {tA : TA} {tu : TS} {t : TT}
theorem rd_bits (h : te σ H fun x H1 => ∃ i, x = .int i ∧ Q (.int (Builtin.Int.intBits i : Nat)) H1) : tBits te σ H Q := h
theorem rd_aug {i : Nat} {ti : TIp} (x : V) (e : σ[i]? = some (some x)) (h : te σ H fun y H1 => ti x y H1 fun z H2 => D.nx (σ.set i (some z)) H2) : tAug i te ti D σ H := ⟨x, e, h⟩
theorem ipA_i {i j : Int} (h : Q (.int (i + j)) H) : ipA (.int i) (.int j) H Q := .inl ⟨i, j, rfl, rfl, h⟩
theorem ipI_i {g : Int → Int → Int} {i j : Int} (h : Q (.int (g i j)) H) : ipI g (.int i) (.int j) H Q := ⟨i, j, rfl, rfl, h⟩
/-- for j in range(what a call gives) -/
theorem rd_rngC {j : Nat} (h : tA σ H fun vs H1 => ∃ n : Nat, vs = [.int (n : Nat)] ∧ n ≤ 100000 ∧ ∃ Pv : Nat → L2.St → Hp → Prop, Pv 0 σ H1 ∧
    (∀ (i : Nat) σ' H', i < n → Pv i σ' H' → tu { D with nx := Pv (i + 1), ct := Pv (i + 1), bk := D.nx } (σ'.set j (some (.int (i : Nat)))) H') ∧ ∀ σ' H', Pv n σ' H' → D.nx σ' H') (mono : ∀ (Q Q' : List V → Hp → Prop), (∀ vs H1, Q vs H1 → Q' vs H1) → tA σ H Q → tA σ H Q') : tFor (iRng1 tA) (gName j) tu D σ H := by
  refine mono _ _ (fun vs H1 hq => ?_) h
  obtain ⟨n, rfl, hn, Pv, h0, hs, hd⟩ := hq
  refine ⟨(n : Nat), rfl, by omega, by omega, for_range (lo := 0) (n := n) Pv h0 (fun i σ' H' hi p => ?_) hd⟩
  have e0 : (0 : Int) + (i : Int) = (i : Int) := Int.zero_add _
  show tu { D with nx := Pv (i + 1), ct := Pv (i + 1), bk := D.nx } (σ'.set j (some (.int ((0 : Int) + (i : Int))))) H'
  rw [e0]
  exact hs i σ' H' hi p
/-- the range's end is told: what stands behind -/
theorem rng_at {H1 : Hp} {j n : Nat} (hn : n ≤ 100000) (Pv : Nat → L2.St → Hp → Prop) (h0 : Pv 0 σ H1)
    (hs : ∀ (i : Nat) σ' H', i < n → Pv i σ' H' → tu { D with nx := Pv (i + 1), ct := Pv (i + 1), bk := D.nx } (σ'.set j (some (.int (i : Nat)))) H') (hd : ∀ σ' H', Pv n σ' H' → D.nx σ' H') :
    ∃ k : Int, [V.int (n : Nat)] = [.int k] ∧ -(2 ^ 62) ≤ k ∧ k < 2 ^ 62 ∧ (∃ W : Nat → Nat → L2.St → Hp → Prop, (∃ m, W 0 m σ H1) ∧ ∀ i m σ H, W i m σ H →
  ((Itr 0 k.toNat).stop i H ∧ D.nx σ H) ∨ ((Itr 0 k.toNat).go i H ∧ ∃ N : L2.St → Hp → Prop, (∀ σ' H', N σ' H' → ∃ m', m' < m ∧ W (i + 1) m' σ' H') ∧ ∀ x H', (Itr 0 k.toNat).yld i H x H' → gName j x σ H' fun σ2 H2 => tu { D with nx := N, ct := N, bk := D.nx } σ2 H2)) := by
  refine ⟨(n : Nat), rfl, by omega, by omega, for_range (lo := 0) (n := n) Pv h0 (fun i σ' H' hi p => ?_) hd⟩
  have e0 : (0 : Int) + (i : Int) = (i : Int) := Int.zero_add _
  show tu { D with nx := Pv (i + 1), ct := Pv (i + 1), bk := D.nx } (σ'.set j (some (.int ((0 : Int) + (i : Int))))) H'
  rw [e0]
  exact hs i σ' H' hi p
theorem rd_for1 {j : Nat} (h : tA σ H fun vs H1 => ∃ k : Int, vs = [.int k] ∧ -(2 ^ 62) ≤ k ∧ k < 2 ^ 62 ∧ (∃ W : Nat → Nat → L2.St → Hp → Prop, (∃ m, W 0 m σ H1) ∧ ∀ i m σ H, W i m σ H →
  ((Itr 0 k.toNat).stop i H ∧ D.nx σ H) ∨ ((Itr 0 k.toNat).go i H ∧ ∃ N : L2.St → Hp → Prop, (∀ σ' H', N σ' H' → ∃ m', m' < m ∧ W (i + 1) m' σ' H') ∧ ∀ x H', (Itr 0 k.toNat).yld i H x H' → gName j x σ H' fun σ2 H2 => tu { D with nx := N, ct := N, bk := D.nx } σ2 H2))) : tFor (iRng1 tA) (gName j) tu D σ H := h
/-- while, by a measure of the state -/
theorem rd_while (Pv : L2.St → Hp → Prop) (μ : L2.St → Nat) (h0 : Pv σ H)
    (hs : ∀ σ' H', Pv σ' H' → ∃ b, EvT t σ' H' b ∧ (b = true → ∀ H1, Ex H' H1 → tu { D with nx := fun σ2 H2 => Pv σ2 H2 ∧ μ σ2 < μ σ', ct := fun σ2 H2 => Pv σ2 H2 ∧ μ σ2 < μ σ', bk := D.nx } σ' H1) ∧ (b = false → ∀ H1, Ex H' H1 → D.nx σ' H1)) : tWhile t tu D σ H := by
  refine s_while (fun m σ' H' => m = μ σ' ∧ Pv σ' H') (μ σ) ⟨rfl, h0⟩ ?_
  rintro m σ' H' ⟨rfl, p⟩
  obtain ⟨b, hb, h1, h2⟩ := hs σ' H' p
  exact ⟨b, hb, fun e H1 x => ⟨_, fun σ2 H2 q => ⟨_, q.2, rfl, q.1⟩, h1 e H1 x⟩, h2⟩
/-- except x as n -/
theorem as_hit {K : PySem.W.Frag} {Wo : WX} {c x : Value} {d : Option Addr} {i : Nat} {ts : Addr → Value → Option Addr → TS}
    (h : PySem.W.exmOne K x c = some true) (k : ∀ a, H a = none → ts a x d { nx := fun σ' H' => D.nx (σ'.set i none) H', rt := D.rt, bk := fun σ' H' => D.bk (σ'.set i none) H', ct := fun σ' H' => D.ct (σ'.set i none) H' } (σ.set i (some (.ref a))) H) : WE (wAs K c i ts Wo D) σ x d H :=
  ⟨true, h, fun _ => k, fun e => (by cases e)⟩
/-- [te for j in range(lo, n) if t] -/
theorem el_lcR2 {j : Nat} {vs : List Nat} {lo n : Int} {te : TE} (f : Nat → Bool) (v : Nat → V) (h : EvA tA σ H [.int lo, .int n]) (hn : 0 ≤ lo ∧ lo ≤ 40000 ∧ -40000 ≤ n ∧ n ≤ 40000) (hw : ∀ x, wipe ((wipe σ vs).set j (some x)) vs = wipe σ vs)
    (ht : ∀ (i : Nat) H1, Ex H H1 → lo + (i : Int) < n → EvT t ((wipe σ vs).set j (some (.int (lo + (i : Int))))) H1 (f i)) (he : ∀ (i : Nat) H1, Ex H H1 → lo + (i : Int) < n → f i = true → Ev te ((wipe σ vs).set j (some (.int (lo + (i : Int))))) H1 (v i)) :
    EvL (tLc (iRng2 tA) (gName j) t te vs) σ H (given (n - lo).toNat f v) := fun H0 e Q q => h H0 e _ fun H1 e1 => ⟨lo, n, rfl, ⟨by omega, by omega, by omega, by omega⟩, fun Dl hD =>
  lc_range (lo := lo) (n := (n - lo).toNat) (Cw H1 f v Dl) ⟨hD, Ex.new hD, upd_same⟩ (fun i H' hi p =>
    ⟨hw _, cw_turn p (by omega) (ht i H1 (e.trans e1) (by omega)) (fun hf => he i H1 (e.trans e1) (by omega) hf)⟩) (fun H' p => q Dl H' (fresh_back e1 p.1) (e1.trans p.2.1) p.2.2)⟩
end
end NW

/-! Comprehensions whose turns change what stands; loops over the list that a call gives. -/
namespace NW
open PySem PySem.Spec PyProof.Rows L2 Evl
section
variable {K : PySem.W.Frag} {σ : L2.St} {H : Hp} {Q : VK} {D : Ends} {te tl : TE} {tA : TA} {tu : TS} {t : TT} {g : TG}
/-- [te for j in range(n)], each turn by a word -/
theorem rd_lcM {j : Nat} {vs : List Nat} {n : Int} (h : EvA tA σ H [.int n]) (hn : 0 ≤ n ∧ n ≤ 40000) (hw : ∀ x, wipe ((wipe σ vs).set j (some x)) vs = wipe σ vs) (Pv : Addr → Nat → List V → Hp → Prop)
    (h0 : ∀ H1 L, Same H H1 → H1 L = none → Pv L 0 [] (upd H1 L (.lst [])))
    (hs : ∀ L (i : Nat) acc H' (Q' : VK), (i : Int) < n → acc.length = i → Pv L i acc H' → H' L = some (.lst acc) → (∀ y H4, H4 L = some (.lst acc) → Pv L (i + 1) (acc ++ [y]) (upd H4 L (.lst (acc ++ [y]))) → Q' y H4) → te ((wipe σ vs).set j (some (.int (i : Int)))) H' Q')
    (hd : ∀ L acc H', acc.length = n.toNat → Pv L n.toNat acc H' → H' L = some (.lst acc) → Q (.ref L) H') : tLc (iRng1 tA) (gName j) tYes te vs σ H Q :=
  h H (Ex.refl H) _ fun H1 e1 => ⟨n, rfl, by omega, by omega, fun L hL =>
  lc_range (lo := 0) (n := n.toNat) (fun i H' => ∃ acc, acc.length = i ∧ Pv L i acc H' ∧ H' L = some (.lst acc)) ⟨[], rfl, h0 H1 L e1 hL, upd_same⟩ (fun i H' hi p => by
    obtain ⟨acc, hl, p, hL'⟩ := p
    have e0 : (0 : Int) + (i : Int) = (i : Int) := Int.zero_add _
    show wipe ((wipe σ vs).set j (some (.int ((0 : Int) + (i : Int))))) vs = wipe σ vs ∧ tYes ((wipe σ vs).set j (some (.int ((0 : Int) + (i : Int))))) H' fun b H3 => if b = true then te ((wipe σ vs).set j (some (.int ((0 : Int) + (i : Int))))) H3 fun y H4 => ∃ acc, H4 L = some (.lst acc) ∧ acc.length < sizeLine ∧ ∃ acc', acc'.length = i + 1 ∧ Pv L (i + 1) acc' (upd H4 L (.lst (acc ++ [y]))) ∧ upd H4 L (.lst (acc ++ [y])) L = some (.lst acc') else ∃ acc', acc'.length = i + 1 ∧ Pv L (i + 1) acc' H3 ∧ H3 L = some (.lst acc')
    rw [e0]
    refine ⟨hw _, rd_yes (iteT ?_)⟩
    refine hs L i acc H' _ (by omega) hl p hL' fun y H4 h4 p4 => ⟨acc, h4, sz_lt (by omega), acc ++ [y], by rw [List.length_append, hl]; rfl, p4, upd_same⟩) (fun H' p => by
      obtain ⟨acc, hl, p, hL'⟩ := p
      exact hd L acc H' hl p hL')⟩
theorem rd_nx {n b c : L2.St → Hp → Prop} {r : VK} {σ : L2.St} {H : Hp} (h : n σ H) : ({ nx := n, rt := r, bk := b, ct := c } : Ends).nx σ H := h
/-- for x in what a call gives -/
theorem rd_forL (h : tl σ H fun x H1 => ∃ a, x = .ref a ∧ (∃ xs, SqL K H1 a xs) ∧ ∃ W : Nat → Nat → L2.St → Hp → Prop, (∃ m, W 0 m σ H1) ∧ ∀ i m σ H, W i m σ H →
  ((Itl K a).stop i H ∧ D.nx σ H) ∨ ((Itl K a).go i H ∧ ∃ N : L2.St → Hp → Prop, (∀ σ' H', N σ' H' → ∃ m', m' < m ∧ W (i + 1) m' σ' H') ∧ ∀ x H', (Itl K a).yld i H x H' → g x σ H' fun σ2 H2 => tu { D with nx := N, ct := N, bk := D.nx } σ2 H2)) : tFor (iList K tl) g tu D σ H := h
theorem lst_at {H1 : Hp} {a : Addr} {xs : List V} (hs : SqL K H1 a xs) (Pv : Nat → L2.St → Hp → Prop) (h0 : Pv 0 σ H1) (hG : ∀ i σ' H', i ≤ xs.length → Pv i σ' H' → SqL K H' a xs)
    (hn : ∀ i x σ' H', xs[i]? = some x → Pv i σ' H' → g x σ' H' fun σ2 H2 => tu { D with nx := Pv (i + 1), ct := Pv (i + 1), bk := D.nx } σ2 H2) (hd : ∀ σ' H', Pv xs.length σ' H' → D.nx σ' H') :
    ∃ a', V.ref a = .ref a' ∧ (∃ xs, SqL K H1 a' xs) ∧ ∃ W : Nat → Nat → L2.St → Hp → Prop, (∃ m, W 0 m σ H1) ∧ ∀ i m σ H, W i m σ H →
  ((Itl K a').stop i H ∧ D.nx σ H) ∨ ((Itl K a').go i H ∧ ∃ N : L2.St → Hp → Prop, (∀ σ' H', N σ' H' → ∃ m', m' < m ∧ W (i + 1) m' σ' H') ∧ ∀ x H', (Itl K a').yld i H x H' → g x σ H' fun σ2 H2 => tu { D with nx := N, ct := N, bk := D.nx } σ2 H2) := by
  refine ⟨a, rfl, ⟨xs, hs⟩, for_it (G := fun H => SqL K H a xs) walk_list Pv h0 hG (fun i x σ' H' H'' hi p hy => ?_) hd⟩
  obtain ⟨rfl, hx⟩ := hy
  exact hn i x σ' _ hx p
end
end NW

/-! Indexes in texts and lists of texts; comprehensions that make new objects, over any walk. -/
namespace NW
open PySem PySem.Spec PyProof.Rows L2 Evl
section
variable {K : PySem.W.Frag} {σ : L2.St} {H : Hp} {Q : VK} {D : Ends} {te tl : TE} {tA : TA} {tu : TS} {t : TT} {g : TG}
def rIdxS : V → List V → Hp → VK → Prop := fun x xs H Q => ∃ a b i rest, x = .str a ∧ xs = [.str b] ∧ Builtin.Str.occurrences a b 0 a.length 1 = i :: rest ∧ Q (.int (i : Nat)) H
theorem mt_sindexA {X : Cx} : MtR X "str.index" rIdxS := mt_sindex
theorem occ_one {l : List Nat} {c j : Nat} (hn : l.Nodup) (hj : l[j]? = some c) : ∃ rest, Builtin.Str.occurrences (tx l) (tx [c]) 0 (tx l).length 1 = j :: rest := by
  have h1 : (!(Builtin.Str.occurrences (tx l) (tx [c]) 0 (tx l).length 1).isEmpty) = true := by
    have := StrLaws.found_one (tx l) c
    rw [show (⟨#[c]⟩ : Str) = tx [c] from rfl] at this
    rw [this]
    exact decide_eq_true (List.mem_of_getElem? hj)
  cases ho : Builtin.Str.occurrences (tx l) (tx [c]) 0 (tx l).length 1 with
  | nil => rw [ho] at h1; cases h1
  | cons i r =>
    have h2 := StrLaws.occ_spec (tx l) (tx [c]) 0 (tx l).length 1 i (by rw [ho]; exact List.mem_cons_self)
    have h3 := (StrLaws.subAt_one (tx l) c i).mp h2
    have h3 : l[i]? = some c := h3
    have hi := (List.getElem?_eq_some_iff.mp h3).1
    have hjl := (List.getElem?_eq_some_iff.mp hj).1
    have e : i = j := (List.getElem?_inj hi hn).mp (h3.trans hj.symm)
    exact ⟨r, by rw [e]⟩
theorem index_s {l : List Nat} {c j : Nat} (hn : l.Nodup) (hj : l[j]? = some c) (h : Q (.int (j : Nat)) H) : rIdxS (.str (tx l)) [.str (tx [c])] H Q := by
  obtain ⟨r, hr⟩ := occ_one hn hj
  exact ⟨tx l, tx [c], j, r, rfl, rfl, hr, h⟩
theorem mt_indexK {X : Cx} (h : X.K = K) : MtR X "list.index" (rIndex K) := h ▸ mt_index
theorem flat_txs : ∀ cs : List (List Nat), (vTxs cs).all flatV = true
  | [] => rfl
  | c :: r => by
    show (flatV (V.str (tx c)) && (vTxs r).all flatV) = true
    rw [flat_txs r]
    rfl
theorem eqV_tx {a b : List Nat} : eqV (.str (tx a)) (.str (tx b)) = decide (a = b) := by
  by_cases h : a = b
  · subst h
    rw [decide_eq_true rfl]
    show decide (tx a = tx a) = true
    simp
  · rw [decide_eq_false h]
    show decide (tx a = tx b) = false
    exact decide_eq_false fun e => h (tx_inj e)
theorem index_l {a : Addr} {cs : List (List Nat)} {m : List Nat} {j : Nat} (hs : SqL K H a (vTxs cs)) (hj : cs[j]? = some m) (hf : ∀ i, i < j → cs[i]? ≠ some m) (h : Q (.int (j : Nat)) H) : rIndex K (.ref a) [.str (tx m)] H Q := by
  refine ⟨a, vTxs cs, .str (tx m), j, .str (tx m), rfl, rfl, hs, rfl, flat_txs cs, ?_, by rw [eqV_tx, decide_eq_true rfl], fun i z hi hz => ?_, h⟩
  · unfold vTxs
    rw [List.getElem?_map, hj]
    rfl
  · unfold vTxs at hz
    rw [List.getElem?_map] at hz
    cases hc : cs[i]? with
    | none => rw [hc] at hz; cases hz
    | some c =>
      rw [hc] at hz
      cases hz
      rw [eqV_tx]
      exact decide_eq_false fun e => hf i hi (by rw [hc, e])
theorem inV_txs (m : List Nat) : ∀ cs : List (List Nat), inV (.str (tx m)) (vTxs cs) = decide (m ∈ cs)
  | [] => rfl
  | c :: r => by
    have ih := inV_txs m r
    have e1 : inV (.str (tx m)) (vTxs (c :: r)) = (eqV (.str (tx c)) (.str (tx m)) || inV (.str (tx m)) (vTxs r)) := rfl
    rw [e1, ih, eqV_tx]
    by_cases h : c = m
    · subst h; simp
    · have h2 : ¬ m = c := fun e => h e.symm
      rw [decide_eq_false h, Bool.false_or]
      simp [h2]
theorem in_txs {a : Addr} {cs : List (List Nat)} {m : List Nat} {neg : Bool} (hs : SqL K H a (vTxs cs)) (h : Q (.bl (if neg then !decide (m ∈ cs) else decide (m ∈ cs))) H) : rIn K neg (.str (tx m)) (.ref a) H Q :=
  ⟨a, vTxs cs, rfl, .inl hs, rfl, flat_txs cs, by rw [inV_txs]; exact h⟩
/-- [te for j in ..], new objects -/
theorem rd_lcR {wi : TI} {J : It} {G : Hp → Prop} {xs : List V} {j : Nat} {vs : List Nat} (hwk : Wk wi σ H J G xs) (Rl : Hp → V → V → Prop) (hz : xs.length ≤ 40000) (hw : ∀ x, wipe ((wipe σ vs).set j (some x)) vs = wipe σ vs)
    (he : ∀ x ∈ xs, ∀ H1, Ex H H1 → ∀ Q' : VK, (∀ v H2, Ex H1 H2 → Rl H2 x v → Q' v H2) → te ((wipe σ vs).set j (some x)) H1 Q')
    (hx : ∀ H1 H2 x v, Ex H1 H2 → Rl H1 x v → Rl H2 x v) (hm : ∀ H1 L xs o x v, H1 L = some (.lst xs) → Rl H1 x v → Rl (upd H1 L o) x v)
    (q : ∀ P H1 us, H P = none → Ex H H1 → H1 P = some (.lst us) → Pairs (Rl H1) xs us → Q (.ref P) H1) : tLc wi (gName j) tYes te vs σ H Q :=
  hwk.go H (Ex.refl H) _ fun H1 e1 Dl hD => by
  refine lc_it (G := G) hwk.walk (fun i H' => Ex H1 H' ∧ ∃ acc, H' Dl = some (.lst acc) ∧ acc.length ≤ i ∧ Pairs (Rl H') (xs.take i) acc)
    ⟨Ex.new hD, [], upd_same, Nat.le_refl _, Pairs.nil⟩ (fun _ _ _ pv => hwk.all _ (e1.trans pv.1)) (fun i x H' H'' hi pv hy => ?_) (fun H' pv => ?_)
  · obtain ⟨rfl, hxi⟩ := hy
    have hmm : x ∈ xs := List.mem_of_getElem? hxi
    obtain ⟨p1, acc, p2, p3, p4⟩ := pv
    refine ⟨hw _, rd_yes (iteT ?_)⟩
    refine he x hmm _ (e1.trans p1) _ fun v H4 e4 r => ⟨acc, e4 _ _ p2, sz_lt (by omega), (NW.Same.mut (p1.trans e4) hD : Ex H1 _), acc ++ [v], upd_same, by rw [List.length_append]; exact Nat.add_le_add_right p3 1, ?_⟩
    rw [take_succ_get hxi]
    exact ((p4.mono fun kv u r => hx _ _ _ _ e4 r).snoc r).mono fun kv u r => hm _ _ _ _ _ _ (e4 _ _ p2) r
  · obtain ⟨p1, acc, p2, p3, p4⟩ := pv
    rw [List.take_length] at p4
    exact q Dl H' acc (fresh_back e1 hD) (e1.trans p1) p2 p4
end
/-! text * number -/
def rRepS : R2 := fun x y H Q => ∃ (l : List Nat) (k : Nat), x = .str (tx l) ∧ y = .int (k : Nat) ∧ l.length * k ≤ 100000 ∧ k ≤ 100000 ∧ Q (.str (tx (List.replicate k l).flatten)) H
theorem fold_tx (l : List Nat) : ∀ (k : Nat) (a : List Nat), (List.replicate k l.toArray).foldl (fun x1 x2 => x1 ++ x2) a.toArray = (a ++ (List.replicate k l).flatten).toArray
  | 0, a => by simp
  | k + 1, a => by
    rw [List.replicate_succ, List.foldl_cons, List.append_toArray, fold_tx l k]
    simp [List.replicate_succ]
theorem mul_tx (l : List Nat) (k : Nat) : Txt.mul (tx l) (k : Nat) = tx (List.replicate k l).flatten := by
  unfold Txt.mul
  by_cases h0 : k = 0
  · subst h0
    rfl
  · rw [if_neg (by omega)]
    by_cases h1 : k = 1
    · subst h1
      simp
    · have e1 : (((k : Nat) : Int) == 1) = false := by simpa using (by omega : ¬ ((k : Nat) : Int) = 1)
      rw [e1, Bool.false_or]
      have e2 : ((tx l).length == 0) = decide (l.length = 0) := by rw [tx_length]; rfl
      rw [e2]
      by_cases hl : l = []
      · subst hl
        rw [if_pos (by simp)]
        simp
      · rw [decide_eq_false (by intro e; exact hl (List.eq_nil_of_length_eq_zero e)), if_neg Bool.false_ne_true]
        have := fold_tx l k []
        show (⟨_⟩ : Str) = ⟨_⟩
        congr 1
theorem op_repS {X : Cx} : OpR X (binaryOp .Mult) rRepS := by
  intro pins s σ H x y v u Q I rx ry h
  obtain ⟨l, k, rfl, rfl, hz, hk, q⟩ := h
  obtain ⟨t, rfl⟩ := rx
  obtain ⟨t', rfl⟩ := ry
  refine SB.mul ⟨?_, fun h1 _ h2 => ?_, fun _ _ => ?_⟩ fun t2 n => ⟨.str _, H, I.tok _, ⟨_, rfl⟩, ?_⟩
  · rw [decide_eq_false (by omega), decide_eq_false (by omega)]
    rfl
  · rw [tx_length] at h2
    have h3 : (((l.length : Nat) : Int)) * ((k : Nat) : Int) ≤ 100000 := by
      have : ((l.length * k : Nat) : Int) ≤ 100000 := by omega
      rwa [Int.natCast_mul] at this
    have h4 : ((l.length : Nat) : Int) ≤ (2 ^ 63 - 1) / ((k : Nat) : Int) := (Int.le_ediv_iff_mul_le (by omega)).mpr (by omega)
    omega
  · rw [tx_length]
    have e : ((k : Nat) : Int).toNat = k := by omega
    rw [e]
    have hs : l.length * k ≤ sizeLine := Nat.le_trans hz (by decide)
    show decide (l.length * k > sizeLine) = false
    exact decide_eq_false (by omega)
  · rw [mul_tx]
    exact q
theorem rep_s {l : List Nat} {k : Nat} {H : Hp} {Q : VK} (hz : l.length * k ≤ 100000) (hk : k ≤ 100000) (h : Q (.str (tx (List.replicate k l).flatten)) H) : rRepS (.str (tx l)) (.int (k : Nat)) H Q := ⟨l, k, rfl, rfl, hz, hk, h⟩
/-! except clauses -/
theorem hd_hit {K : PySem.W.Frag} {W : WX} {D : Ends} {σ : L2.St} {H : Hp} {c x : Value} {d : Option Addr} {ts : Addr → Value → Option Addr → TS} {r : List (Value × (Addr → Value → Option Addr → TS))}
    (h : PySem.W.exmOne K x c = some true) (k : ∀ a, H a = none → ts a x d D σ H) : WE (wMany K W D ((c, ts) :: r)) σ x d H := ⟨true, h, fun _ => k, fun e => by cases e⟩
theorem hd_miss {K : PySem.W.Frag} {W : WX} {D : Ends} {σ : L2.St} {H : Hp} {c x : Value} {d : Option Addr} {ts : Addr → Value → Option Addr → TS} {r : List (Value × (Addr → Value → Option Addr → TS))}
    (h : PySem.W.exmOne K x c = some false) (k : WE (wMany K W D r) σ x d H) : WE (wMany K W D ((c, ts) :: r)) σ x d H := ⟨false, h, fun e => (by cases e), fun _ => k⟩
end NW

/-! Texts and lists backwards; walks over the keys of a dict. -/
namespace NW
open PySem PySem.Spec PyProof.Rows L2 Evl
def tRevT (te : TE) : TE := fun σ H Q => te σ H fun v H1 => ∃ l : List Nat, v = .str (tx l) ∧ l.length ≤ 100000 ∧ Q (.str (tx l.reverse)) H1
theorem stepS_rev (l : List Nat) : stepS (tx l) none none (-1) = tx l.reverse := by
  unfold stepS
  rw [picked_rev, tx_length, List.filterMap_map]
  show (⟨_⟩ : Str) = ⟨_⟩
  congr 2
  apply List.ext_getElem?
  intro i
  have key : ∀ L : List Nat, (∀ k ∈ L, k < l.length) → L.filterMap ((fun i => (tx l).cps[i]?) ∘ fun k => l.length - 1 - k) = L.map fun k => l.getD (l.length - 1 - k) 0 := by
    intro L
    induction L with
    | nil => intro _; rfl
    | cons k r ih =>
      intro hL
      have hk := hL k List.mem_cons_self
      have e1 : ((fun i => (tx l).cps[i]?) ∘ fun k => l.length - 1 - k) k = some (l.getD (l.length - 1 - k) 0) := by
        show (tx l).cps[l.length - 1 - k]? = some (l.getD (l.length - 1 - k) 0)
        rw [tx_get]
        simp [List.getD, List.getElem?_eq_getElem (show l.length - 1 - k < l.length by omega)]
      rw [List.filterMap_cons_some e1, List.map_cons, ih fun x hx => hL x (List.mem_cons_of_mem _ hx)]
  have e := key (List.range l.length) fun k hk => List.mem_range.mp hk
  rw [e, List.getElem?_map]
  by_cases h : i < l.length
  · rw [List.getElem?_range h, List.getElem?_reverse h]
    show some (l.getD (l.length - 1 - i) 0) = _
    simp [List.getD, List.getElem?_eq_getElem (show l.length - 1 - i < l.length by omega)]
  · rw [List.getElem?_eq_none (by simpa using h), List.getElem?_eq_none (by simpa using h)]
    rfl
section
variable {X : Cx} {e : Expr} {te : TE}
theorem pe_revT {k : Nat} {p1 p2 p3 pos : Pos} (he : PE X e te) : PE X (.Subscript e (.Slice none none (some (.UnaryOp .USub (.Constant (.int 1) k p1) p2)) p3) pos) (tRevT te) := by
  refine ⟨fun pins s σ H Q I h => ?_⟩
  refine Subscript_ (thn (he.run pins s σ H _ I h) fun v s1 ⟨x, H1, I1, r1, q1⟩ => ?_)
  have hno : PO X none tNoPart := po_none
  have hst : PO X (some (.UnaryOp .USub (.Constant (.int 1) k p1) p2)) (tPart (tUn (rU fun i => .int (-i)) (tC (.int 1)))) := po_some (pe_un un_neg pe_int)
  obtain ⟨l0, rfl, hz, q⟩ := q1
  refine wpAny_Slice (thn (hno.run pins s1 σ H1 (fun o H2 => o = none ∧ H2 = H1) I1 ⟨rfl, rfl⟩) fun vl s2 ⟨l, H2, I2, pl, e2⟩ => thn (hno.run pins s2 σ H2 (fun o H3 => o = none ∧ H3 = H2) I2 ⟨rfl, rfl⟩) fun vu s3 ⟨u, H3, I3, pu, e3⟩ => ?_)
  refine thn (hst.run pins s3 σ H3 (fun o H4 => o = some (-1) ∧ H4 = H3) I3 ⟨1, rfl, -1, rfl, rfl, rfl⟩) fun vs s4 ⟨o, H4, I4, ps, e4⟩ => ?_
  obtain ⟨rfl, rfl⟩ := e2
  obtain ⟨rfl, rfl⟩ := e3
  obtain ⟨rfl, rfl⟩ := e4
  obtain ⟨t, rfl⟩ := r1
  obtain ⟨l, rfl, hl⟩ := IsPart.raw pl
  obtain ⟨u, rfl, hu⟩ := IsPart.raw pu
  obtain ⟨w', rfl, hw⟩ := IsPart.raw ps
  have I5 : Inv X pins σ H4 { s4 with heap := s4.heap.push { cls := .type "slice", data := .fields #[partValue l, partValue u, partValue w'] } } := I4.kept (t' := s4.toks) fun b ob q => Heap.get?_push_of_some _ q
  show wpAny (model X.prog X.w) X.A (subscriptTail e (.Slice none none (some (.UnaryOp .USub (.Constant (.int 1) k p1) p2)) p3) (.str (tx l0) t) (.ref s4.heap.objs.size)) (EP X pins σ Q) X.xe { s4 with heap := s4.heap.push { cls := .type "slice", data := .fields #[partValue l, partValue u, partValue w'] } }
  have hstep : (w'.map (·.1)).getD 1 = -1 := by rw [hw]; rfl
  refine tail_any (ops := [.ref s4.heap.objs.size, .str (tx l0) t]) (typeIs_str _ _ _) PySem.F.slot_str_getitem.lookup ?_ (by with_unfolding_all rfl)
  refine wpAny_getItem_str_slice (l := l) (u := u) (st := w') ⟨_, Heap.get?_push_size _ rfl, rfl, rfl⟩ (by rw [hstep]; rfl) ?_
  have e0 : sliceMade (tx l0) t l u w' = Made.str (stepS (tx l0) none none (-1)) := by
    unfold sliceMade
    rw [if_neg]
    · unfold slicePicked stepS
      rw [hstep, hl, hu]
    · rw [hstep, Bool.and_eq_true, not_and]
      intro h
      exact absurd (beq_iff_eq.mp h) (by omega)
  rw [e0, stepS_rev]
  have hz' : (tx l0.reverse).length ≤ sizeLine := by rw [tx_length, List.length_reverse]; exact Nat.le_trans hz (by decide)
  exact ⟨hz', .str _, H4, I5.tok _, ⟨_, rfl⟩, q⟩
theorem pe_revLK {K : PySem.W.Frag} (h : X.K = K) {k : Nat} {p1 p2 p3 pos : Pos} (he : PE X e te) : PE X (.Subscript e (.Slice none none (some (.UnaryOp .USub (.Constant (.int 1) k p1) p2)) p3) pos) (tRevL K te) := h ▸ pe_revL he
end
section
variable {K : PySem.W.Frag} {σ : L2.St} {H : Hp} {Q : VK} {te td : TE}
theorem ev_revT {l : List Nat} (h : Ev te σ H (.str (tx l))) (hz : l.length ≤ 100000) : Ev (tRevT te) σ H (.str (tx l.reverse)) := fun H1 e1 Q q => h H1 e1 _ fun H2 e2 => ⟨l, rfl, hz, q H2 e2⟩
theorem rd_revL {a : Addr} {xs : List V} (h : Ev te σ H (.ref a)) (hs : SqL K H a xs) (k : ∀ p H1, H p = none → Same H H1 → H1 p = some (.lst xs.reverse) → Q (.ref p) H1) : tRevL K te σ H Q :=
  h H (Ex.refl H) _ fun H1 e1 => ⟨a, xs, rfl, ex_l e1 hs, fun p hp => k p _ (fresh_back e1 hp) (e1.trans (Ex.new hp)) upd_same⟩
/-- the keys of a dict that is locked -/
def keysV (kvs : List (Key × V)) : List V := kvs.map fun kv => kV kv.1
theorem wk_keys {d : Addr} {od : Obj} {kvs : List (Key × V)} (h : Ev td σ H (.ref d)) (hd : H d = some (.frz od (.dK kvs))) : Wk (iKeys td) σ H (Itk d od kvs) (fun H => H d = some (.frz od (.dK kvs))) (keysV kvs) where
  walk := by
    have e : (keysV kvs).length = kvs.length := by unfold keysV; rw [List.length_map]
    rw [e]
    refine (walk_keys (d := d) (o := od) (kvs := kvs)).mono (fun _ h => h) (fun i H x H' _ _ hy => ?_)
    obtain ⟨h1, k, v, hk, rfl⟩ := hy
    refine ⟨h1, ?_⟩
    unfold keysV
    rw [List.getElem?_map, hk]
    rfl
  all := fun H2 e => e _ _ hd
  go := fun H1 e R r => h H1 e _ fun H2 e2 => ⟨d, od, rfl, .inl ⟨kvs, (e.trans e2) _ _ hd, r H2 e2⟩⟩
theorem DGet.f {H : Hp} {a : Addr} {od : Obj} {kvs : List (Key × V)} {k : Key} (e : H a = some (.frz od (.dK kvs))) : DGet H a (kV k) (valV kvs k) := .inl ⟨kvs, k, .inr ⟨od, e⟩, rfl, rfl⟩
end
end NW

/-! Lists of numbers, one greater than the other. -/
namespace NW
open PySem PySem.Spec PyProof.Rows L2 Evl
def rGtD (K : PySem.W.Frag) : R2 := fun x y H Q => ∃ d e, Dp K H x d ∧ Dp K H y e ∧ PySem.W.alike d e = true ∧ d ≠ .none ∧ min d.depth e.depth ≤ 64 ∧ Q (.bl (PySem.W.dataLt e d)) H
theorem op_gtD {X : Cx} (hu : X.A.units + 65 < cLine) : OpR X (compareOp .Gt) (rGtD X.K) := by
  intro pins s σ H x y v u Q I rx ry h
  obtain ⟨d, e, hd, he, ha, hn, hm, q⟩ := h
  obtain ⟨as, r1⟩ := Dp.reads I d x v hd rx
  obtain ⟨bs, r2⟩ := Dp.reads I e y u he ry
  exact PySem.W.gt_data r1 r2 ha hn (by omega) ⟨.bl _, H, I, rfl, q⟩
theorem op_gtDK {X : Cx} {K : PySem.W.Frag} (h : X.K = K) (hu : X.A.units + 65 < cLine) : OpR X (compareOp .Gt) (rGtD K) := h ▸ op_gtD hu
/-- one list of numbers ahead of another of the same length -/
def ltN : List Nat → List Nat → Bool
  | x :: xs, y :: ys => if x = y then ltN xs ys else decide (x < y)
  | _, _ => false
theorem alike_ints : ∀ a b : List Nat, PySem.W.alikeAll (a.map dInt) (b.map dInt) = true
  | [], _ => by simp [PySem.W.alikeAll]
  | _ :: _, [] => by simp [PySem.W.alikeAll]
  | x :: a, y :: b => by
    simp only [List.map_cons, PySem.W.alikeAll, Bool.and_eq_true]
    exact ⟨rfl, alike_ints a b⟩
theorem lt_ints : ∀ a b : List Nat, a.length = b.length → PySem.W.dataLt (dList dInt a) (dList dInt b) = ltN a b
  | [], [], _ => by
    show PySem.W.dataLt (.list []) (.list []) = false
    rw [PySem.W.dataLt_list]
    decide +kernel
  | x :: a, y :: b, h => by
    have ih := lt_ints a b (by simpa using h)
    have ea : PySem.W.dataLt (dList dInt (x :: a)) (dList dInt (y :: b)) = PyProof.Rows.lexLt itemOrd (PySem.W.keyToksAll (dInt x :: a.map dInt)) (PySem.W.keyToksAll (dInt y :: b.map dInt)) := PySem.W.dataLt_list _ _
    have eb : PySem.W.dataLt (dList dInt a) (dList dInt b) = PyProof.Rows.lexLt itemOrd (PySem.W.keyToksAll (a.map dInt)) (PySem.W.keyToksAll (b.map dInt)) := PySem.W.dataLt_list _ _
    rw [ea]
    show _ = if x = y then ltN a b else decide (x < y)
    by_cases e : x = y
    · subst e
      rw [if_pos rfl, ← ih, eb]
      exact PySem.W.dataLt_all_yes (x := dInt x) (y := dInt x) rfl ((item_int.eqv x x).mpr rfl)
    · rw [if_neg e]
      have he : PyData.eqv (dInt x) (dInt y) = false := by
        rw [Bool.eq_false_iff]
        exact fun q => e ((item_int.eqv x y).mp q)
      rw [PySem.W.dataLt_all_no (x := dInt x) (y := dInt y) rfl he]
      show PySem.W.dataLt (.int (x : Nat)) (.int (y : Nat)) = _
      rw [PySem.W.dataLt_int]
      by_cases q : x < y
      · rw [decide_eq_true q, decide_eq_true (by omega)]
      · rw [decide_eq_false q, decide_eq_false (by omega)]
theorem gt_ints {K : PySem.W.Frag} {H : Hp} {Q : VK} {x y : V} {a b : List Nat} (hx : Dp K H x (dList dInt a)) (hy : Dp K H y (dList dInt b)) (hl : a.length = b.length) (h : Q (.bl (ltN b a)) H) : rGtD K x y H Q := by
  refine ⟨dList dInt a, dList dInt b, hx, hy, alike_ints a b, (fun e => by cases e), ?_, by rw [lt_ints b a hl.symm]; exact h⟩
  have := (item_list item_int).dep a
  omega
theorem ltN_irr : ∀ a : List Nat, ltN a a = false
  | [] => rfl
  | x :: a => by
    show (if x = x then ltN a a else _) = false
    rw [if_pos rfl]
    exact ltN_irr a
theorem ltN_asym : ∀ {a b : List Nat}, ltN a b = true → ltN b a = false
  | [], _, h => by cases h
  | _ :: _, [], h => by cases h
  | x :: a, y :: b, h => by
    have h : (if x = y then ltN a b else decide (x < y)) = true := h
    show (if y = x then ltN b a else decide (y < x)) = false
    by_cases e : x = y
    · subst e
      rw [if_pos rfl] at h ⊢
      exact ltN_asym h
    · rw [if_neg e] at h
      have := of_decide_eq_true h
      rw [if_neg (fun q => e q.symm)]
      exact decide_eq_false (by omega)
/-- text.find of one sign that stands there, no sign twice -/
theorem find_nd {l : List Nat} {c j : Nat} (hn : l.Nodup) (hj : l[j]? = some c) : Txt.find (tx l) (tx [c]) = ((j : Nat) : Int) := by
  obtain ⟨r, hr⟩ := occ_one hn hj
  unfold Txt.find
  rw [hr]
theorem eqV_int {a b : Nat} : eqV (.int (a : Nat)) (.int (b : Nat)) = decide (a = b) := by
  by_cases h : a = b
  · subst h
    rw [decide_eq_true rfl]
    show decide (((a : Nat) : Int) = ((a : Nat) : Int)) = true
    simp
  · rw [decide_eq_false h]
    show decide (((a : Nat) : Int) = ((b : Nat) : Int)) = false
    exact decide_eq_false fun e => h (by omega)
theorem inV_ints (m : Nat) : ∀ cs : List Nat, inV (.int (m : Nat)) (vInts cs) = decide (m ∈ cs)
  | [] => rfl
  | c :: r => by
    have ih := inV_ints m r
    have e1 : inV (.int (m : Nat)) (vInts (c :: r)) = (eqV (.int (c : Nat)) (.int (m : Nat)) || inV (.int (m : Nat)) (vInts r)) := rfl
    rw [e1, ih, eqV_int]
    by_cases h : c = m
    · subst h; simp
    · have h2 : ¬ m = c := fun e => h e.symm
      rw [decide_eq_false h, Bool.false_or]
      simp [h2]
theorem flat_ints : ∀ cs : List Nat, (vInts cs).all flatV = true
  | [] => rfl
  | c :: r => by
    show (flatV (V.int (c : Nat)) && (vInts r).all flatV) = true
    rw [flat_ints r]
    rfl
theorem in_ints {K : PySem.W.Frag} {H : Hp} {Q : VK} {a : Addr} {cs : List Nat} {m : Nat} {neg : Bool} (hs : SqL K H a (vInts cs)) (h : Q (.bl (if neg then !decide (m ∈ cs) else decide (m ∈ cs))) H) : rIn K neg (.int (m : Nat)) (.ref a) H Q :=
  ⟨a, vInts cs, rfl, .inl hs, rfl, flat_ints cs, by rw [inV_ints]; exact h⟩
/-- [te for j in what a call gives, if t] -/
theorem el_lcL {K : PySem.W.Frag} {σ : L2.St} {H : Hp} {te tl : TE} {t : TT} {xs : List V} {j : Nat} {vs : List Nat} (h : EvL tl σ H xs) (p : V → Bool) (v : V → V) (hz : xs.length ≤ 40000) (hw : ∀ x, wipe ((wipe σ vs).set j (some x)) vs = wipe σ vs)
    (ht : ∀ x ∈ xs, ∀ H1, Ex H H1 → EvT t ((wipe σ vs).set j (some x)) H1 (p x)) (he : ∀ x ∈ xs, ∀ H1, Ex H H1 → p x = true → Ev te ((wipe σ vs).set j (some x)) H1 (v x)) :
    EvL (tLc (iList K tl) (gName j) t te vs) σ H ((xs.filter p).map v) := fun H0 e Q q => h H0 e _ fun a H1 ha e1 h1 => ⟨a, rfl, ⟨xs, SqL.of h1⟩, fun Dl hD => by
  refine lc_it (G := fun H => SqL K H a xs) walk_list (Cw H1 (fun i => p (xs.getD i .non)) (fun i => v (xs.getD i .non)) Dl) ⟨hD, Ex.new hD, upd_same⟩ (fun _ _ _ pv => ex_l pv.2.1 (SqL.of h1)) (fun i x H' H'' hi pv hy => ?_) (fun H' pv => ?_)
  · obtain ⟨rfl, hx⟩ := hy
    have hm : x ∈ xs := List.mem_of_getElem? hx
    have hd : xs.getD i .non = x := by simp [List.getD, hx]
    refine ⟨hw _, cw_turn pv (by omega) ?_ ?_⟩
    · show EvT t _ H1 (p (xs.getD i .non))
      rw [hd]
      exact ht x hm H1 (e.trans e1)
    · intro hf
      have hf' : p (xs.getD i .non) = true := hf
      rw [hd] at hf'
      show Ev te _ H1 (v (xs.getD i .non))
      rw [hd]
      exact he x hm H1 (e.trans e1) hf'
  · obtain ⟨p1, p2, p3⟩ := pv
    rw [given_getD] at p3
    exact q Dl H' (fresh_back e1 p1) (e1.trans p2) p3⟩
end NW

/-! sorted of texts, of lists of numbers, of pairs of numbers, however many; list.pop(i). -/
namespace NW
open PySem PySem.Spec PyProof.Rows L2 Evl
theorem vals_each {β : Type} (vf : β → V) : ∀ {bs : List β} {us : List Value}, Vals (bs.map vf) us → PySem.W.EachIs (fun u b => RelV (vf b) u) us bs
  | [], us, h => by
    have h : Vals [] us := h
    cases h
    exact .nil
  | b :: r, us, h => by
    have h : Vals (vf b :: r.map vf) us := h
    cases h with
    | cons h1 h2 => exact .cons h1 (vals_each vf h2)
theorem each_vals {β : Type} (vf : β → V) : ∀ {bs : List β} {us : List Value}, PySem.W.EachIs (fun u b => RelV (vf b) u) us bs → Vals (bs.map vf) us
  | _, _, .nil => .nil
  | _, _, .cons h t => .cons h (each_vals vf t)
theorem each_and {β : Type} {R : Value → β → Prop} {S : Value → β → Prop} : ∀ {us : List Value} {bs : List β}, PySem.W.EachIs R us bs → (∀ u b, b ∈ bs → R u b → S u b) → PySem.W.EachIs S us bs
  | _, _, .nil, _ => .nil
  | _, _, .cons h t, f => .cons (f _ _ List.mem_cons_self h) (each_and t fun u b hb => f u b (List.mem_cons_of_mem _ hb))
/-- sorted(xs), xs any data that can be told apart -/
def rSortD (K : PySem.W.Frag) : List V → Hp → VK → Prop := fun xs H Q => ∃ (a : Addr) (β : Type) (bs : List β) (vf : β → V) (enc : β → PyData), xs = [V.ref a] ∧ SqL K H a (bs.map vf) ∧ (∀ b ∈ bs, Dp K H (vf b) (enc b)) ∧ PySem.W.AllAlike (bs.map enc) ∧ PySem.W.Sortable (bs.map enc) ∧ (∀ b ∈ bs, (enc b).depth ≤ 62) ∧
  ∀ p, H p = none → Q (.ref p) (upd H p (.lst ((bs.mergeSort (PySem.W.dataLe false enc)).map vf)))
theorem cr_sortedD {X : Cx} (hu : X.A.units + 64 < cLine) : CallR X (.builtin "sorted") (rSortD X.K) := by
  intro pins s σ H vs us Q I r h
  obtain ⟨a, β, bs, vf, enc, rfl, hs, hd, hal, hk, hdep, q⟩ := h
  obtain ⟨its, rv, hl, hz⟩ := I.list hs
  rw [Vals.ref1 r]
  have hz' : bs.length ≤ sizeLine := by rw [List.length_map] at hz; exact hz
  have e : PySem.W.EachIs (fun u b => RelV (vf b) u) its bs := vals_each vf rv
  have er : PySem.W.EachIs (fun u b => ∃ as, Reads s.heap u (enc b) as) its bs := each_and e fun u b hb hr => Dp.reads I (enc b) (vf b) u (hd b hb) hr
  refine PySem.W.sorted_data hl.isList e er hal hk hz' (fun b hb => by have := hdep b hb; omega) fun out hlen ho => ?_
  obtain ⟨ep, he'⟩ := PyProof.Rows.sortedAll_at s.heap its out.toArray
  exact ⟨.ref _, upd H (s.heap.objs.size + 1) (.lst ((bs.mergeSort (PySem.W.dataLe false enc)).map vf)), I.laid (t' := s.toks) (fun _ _ => PyProof.Rows.sortedAll_old) (Nat.le_succ _) ⟨by rw [List.length_map, List.length_mergeSort]; exact hz', out, ep, each_vals vf ho, he'⟩, rfl, q _ (I.hok.fresh (Nat.le_succ _))⟩
theorem cr_sortedDK {X : Cx} {K : PySem.W.Frag} (h : X.K = K) (hu : X.A.units + 64 < cLine) : CallR X (.builtin "sorted") (rSortD K) := h ▸ cr_sortedD hu
/-! the orders -/
theorem sort_same {α : Type} {le : α → α → Bool} (tr : ∀ a b c, le a b = true → le b c = true → le a c = true) (to : ∀ a b, (le a b || le b a) = true) (an : ∀ a b, le a b = true → le b a = true → a = b) {xs ys : List α} (h : xs.Perm ys) : xs.mergeSort le = ys.mergeSort le := by
  have p1 := List.pairwise_mergeSort (le := le) tr to xs
  have p2 := List.pairwise_mergeSort (le := le) tr to ys
  have pp : (xs.mergeSort le).Perm (ys.mergeSort le) := (List.mergeSort_perm xs le).trans (h.trans (List.mergeSort_perm ys le).symm)
  exact pp.eq_of_pairwise (fun a b _ _ h1 h2 => an a b h1 h2) p1 p2
theorem le_tx : PySem.W.dataLe false dTx = fun a b : List Nat => decide (a ≤ b) := by
  have h := PySem.W.dataLe_str (β := List Nat) tx
  have e : (fun b : List Nat => PyData.str (tx b)) = dTx := rfl
  rw [e] at h
  rw [h]
  funext a b
  have h1 : ∀ c : List Nat, (tx c).cps.toList = c := fun c => rfl
  rw [h1, h1]
theorem sort_tx {xs ys : List (List Nat)} (h : xs.Perm ys) : xs.mergeSort (PySem.W.dataLe false dTx) = ys.mergeSort (PySem.W.dataLe false dTx) := by
  refine sort_same (fun a b c => ?_) (fun a b => ?_) (fun a b => ?_) h
  · rw [le_tx]
    simp only [decide_eq_true_eq]
    exact fun h1 h2 => List.le_trans h1 h2
  · rw [le_tx]
    simp only [Bool.or_eq_true, decide_eq_true_eq]
    exact List.le_total a b
  · rw [le_tx]
    simp only [decide_eq_true_eq]
    exact fun h1 h2 => List.le_antisymm h1 h2
section
variable {K : PySem.W.Frag} {H : Hp} {Q : VK}
theorem sort_txs {a : Addr} {cs : List (List Nat)} (hs : SqL K H a (vTxs cs)) (h : ∀ p, H p = none → Q (.ref p) (upd H p (.lst (vTxs (cs.mergeSort (PySem.W.dataLe false dTx)))))) : rSortD K [.ref a] H Q :=
  ⟨a, List Nat, cs, fun c => .str (tx c), dTx, rfl, hs, fun b _ => .str _, PySem.W.AllAlike.of fun _ _ => rfl, PySem.W.Sortable.others fun _ => ⟨fun e => (by cases e), fun _ e => (by cases e)⟩, fun b _ => by have := item_tx.dep b; omega, h⟩
theorem pop_at {l : Addr} {xs : List V} {k : Nat} {y : V} (hl : H l = some (.lst xs)) (hz : xs.length ≤ 100000) (hy : xs[k]? = some y) (h : Q y (upd H l (.lst (xs.eraseIdx k)))) : rPopAt (.ref l) [.int (k : Nat)] H Q := by
  have hk := (List.getElem?_eq_some_iff.mp hy).1
  refine ⟨l, xs, (k : Nat), k, y, rfl, rfl, hl, by omega, by omega, ?_, hy, h⟩
  have h1 : ¬ (((k : Nat) : Int) < 0) := by omega
  unfold seqIndex?
  rw [if_neg h1]
  show (if (decide (0 ≤ ((k : Nat) : Int)) && decide (((k : Nat) : Int) < ((xs.length : Nat) : Int))) = true then some (((k : Nat) : Int)).toNat else none) = some k
  rw [decide_eq_true (by omega), decide_eq_true (by omega)]
  rfl
end
def rJoinK (K : PySem.W.Frag) : V → List V → Hp → VK → Prop := fun x xs H Q => ∃ a p, ∃ ys : List Str, x = .str a ∧ xs = [.ref p] ∧ (SqL K H p (ys.map V.str) ∨ SqT K H p (ys.map V.str)) ∧ (ys.map (·.length)).sum + ys.length * a.length ≤ 16777216 ∧ Q (.str (Txt.join a ys)) H
theorem mt_joinK {K : PySem.W.Frag} {X : Cx} (h : X.K = K) : MtR X "str.join" (rJoinK K) := h ▸ mt_join
theorem joinL_sgs : ∀ cs : List Nat, TL.joinL [] (cs.map fun c => [c]) = cs
  | [] => rfl
  | [_] => rfl
  | c :: d :: r => by
    show [c] ++ ([] ++ TL.joinL [] ((d :: r).map fun c => [c])) = _
    rw [joinL_sgs (d :: r)]
    rfl
theorem join_sgs (cs : List Nat) : Txt.join (tx []) (cs.map fun c => tx [c]) = tx cs := by
  refine TL.ext_tl ?_
  rw [TL.join_eq, TL.tl_join, List.map_map]
  exact joinL_sgs cs
section
variable {K : PySem.W.Frag} {H : Hp} {Q : VK}
theorem join_l {p : Addr} {cs : List Nat} (hs : SqL K H p (vSgs cs)) (hz : cs.length ≤ 100000) (h : Q (.str (tx cs)) H) : rJoinK K (.str (tx [])) [.ref p] H Q := by
  have e : vSgs cs = (cs.map fun c => tx [c]).map V.str := by
    unfold vSgs
    rw [List.map_map]
    rfl
  refine ⟨tx [], p, cs.map fun c => tx [c], rfl, rfl, .inl (by rw [← e]; exact hs), ?_, by rw [join_sgs]; exact h⟩
  have h1 : ∀ l : List Nat, ((l.map fun c => tx [c]).map (·.length)).sum = l.length := by
    intro l
    induction l with
    | nil => rfl
    | cons a r ih =>
      rw [List.map_cons, List.map_cons, List.sum_cons, ih, List.length_cons]
      have : (tx [a]).length = 1 := tx_length [a]
      rw [this]
      omega
  rw [h1, tx_length]
  simp
  omega
end
end NW

/-! Calls of a def whose last parameters have defaults; x[i] |= e of lists of numbers. -/
namespace NW
open PySem PySem.Spec PyProof.Rows L2

section
variable {X : Cx} {CX : CXT} {k : Nat} {f C : Addr} {fd : FuncData} {ps : List Str} {sp : Sp} {E : L2.St → XK} {x m : Str} {p pos apos : Pos} {e o : Expr} {es : List Expr} {ta : TE} {t : TA} {dvs : List V} {ds : List Value}
theorem run_fnSD {pins : List (Addr × Obj)} {σ : L2.St} {H : Hp} {s : Shared} {Q : VK} {us : List Value} {vs : List V} (F : FnOk X.prog X.w X.K X.mg X.base CX k f fd ps sp) (hr : Room k X.A) (hb : Binds X.K fd ps ds) (hd : Vals dvs ds) (hx : PassesAt CX X σ (E σ))
    (I : Inv X pins σ H s) (r : Vals vs us) (h : sp (vs ++ dvs) H Q (E σ)) : wpAny (model X.prog X.w) X.A (call (.ref f) us) (EP X pins σ Q) X.xe s := by
  have r2 : Vals (vs ++ dvs) (us ++ ds) := r.append hd
  have hl : (us ++ ds).length = ps.length := by rw [← r2.length]; exact F.len _ _ _ _ h
  refine wpAny_call (codeAny_mono (F.run X.A X.stack s H ⟨us, []⟩ (us ++ ds) (vs ++ dvs) Q (E σ) hr I.env0 (hb s us I.kIn hl) r2 h) fun r s' hq => ?_)
  cases r with
  | error e => exact hx pins H s e s' I hq
  | ok fl =>
    cases fl with
    | ret u => exact I.after hq
    | next => exact False.elim hq
    | brk => exact False.elim hq
    | cont => exact False.elim hq
def tCallSD (sp : Sp) (dvs : List V) (E : L2.St → XK) (t : TA) : TE := fun σ H Q => t σ H fun vs H1 => sp (vs ++ dvs) H1 Q (E σ)
theorem pe_callSD (F : FnOk X.prog X.w X.K X.mg X.base CX k f fd ps sp) (hr : Room k X.A) (hg : Gl X x) (hm : X.mg x = some (.ref f)) (hk : PySem.W.keepIn X.K (.ref f) = true) (hb : ∃ ds, Vals dvs ds ∧ Binds X.K fd ps ds) (hx : ∀ σ, PassesAt CX X σ (E σ))
    (ha : PA X (e :: es) t) (hdb : (x == ("__debug__" : Str)) = false := by decide) (he : starEach (e :: es) X.env = (false, eval e X.env) :: starEach es X.env := by rfl) (hpl : (backTo pos (starEach es X.env)).any (·.1) = false := by rfl) :
    PE X (.Call (.Name x p) (e :: es) [] pos) (tCallSD sp dvs E t) := by
  obtain ⟨ds, hd, hb⟩ := hb
  refine ⟨fun pins s σ H Q I h => ?_⟩
  refine wpAny_Call_Name_kw (ld_glob I hg hm ?_ hdb)
  refine PySem.W.callWith_K (h₀ := X.base) I.ok.mod.kin hk (thn (ha.run pos pins s σ H _ I h) fun us s1 ⟨vs, H1, I1, r, q⟩ => ⟨I1.kIn, ?_⟩) he hpl
  exact run_fnSD F hr hb hd (hx σ) I1 r q
theorem rd_callSD {sp : Sp} {E : L2.St → XK} {tA : TA} {σ : L2.St} {H : Hp} {Q : VK} (h : tA σ H fun vs H1 => sp (vs ++ dvs) H1 Q (E σ)) : tCallSD sp dvs E tA σ H Q := h
end
/-! a def with one default, as it stands behind the top -/
section
variable {K : PySem.W.Frag} {x qual : Str} {st : Stmt} {f : Addr} {fd : FuncData}
abbrev FunO (K : PySem.W.Frag) (x qual : Str) (st : Stmt) (dvs : List V) (f : Addr) (fd : FuncData) : Prop := FunD K x qual (defArgs st) (defBody st) (defScope st) dvs [] f fd
theorem funo_mk {oc oe : Value} {od oo an : Option Addr} {osl ose : Array (Option Value)} {kV doc pm cdv ct : Value} {T : Addr} {its : List Value} {n : Nat} {dvs : List V}
    (l : K.lookup f = some ⟨oc, od, .func (PySem.W.fnOf x qual (defArgs st) (defBody st) (defScope st) (.ref T) kV doc pm an cdv ct), osl⟩)
    (c : PySem.W.codeIn K cdv qual = true) (k : PySem.W.keepIn K (.ref f) = true) (lT : K.lookup T = some ⟨oe, oo, .seq its.toArray n, ose⟩) (hd : dvs ≠ []) (hv : Vals dvs its) :
    FunO K x qual st dvs f (PySem.W.fnOf x qual (defArgs st) (defBody st) (defScope st) (.ref T) kV doc pm an cdv ct) :=
  ⟨⟨oc, od, .ref T, kV, doc, pm, an, cdv, ct, osl, rfl, l, c, .inr ⟨hd, T, _, its, n, rfl, lT, rfl, hv⟩, .inl rfl⟩, k⟩
theorem binds_full {ps : List Str} (h : ∃ ds, Vals [] ds ∧ Binds K fd ps ds) : Binds K fd ps [] := by
  obtain ⟨ds, hd, hb⟩ := h
  cases hd
  exact hb
end
/-! x[i] |= e of lists -/
section
variable {X : Cx} {K : PySem.W.Frag} {H : Hp} {σ : L2.St} {D : Ends}
def rGetL (K : PySem.W.Frag) : V → V → Hp → VK → Prop := fun o i H Q => ∃ p xs, ∃ k : Nat, ∃ v, o = .ref p ∧ i = .int (k : Nat) ∧ SqL K H p xs ∧ xs[k]? = some v ∧ Q v H
theorem get_list0 (h : X.K = K) : PGet X (rGetL K) := by
  subst h
  intro pins s σ H o i ov iv Q I ro ri h
  obtain ⟨p, xs, k, v, rfl, rfl, hq, he, q⟩ := h
  cases ro
  obtain ⟨t, rfl⟩ := ri
  obtain ⟨its, r, pl, hz⟩ := I.list hq
  obtain ⟨w, ew, rw'⟩ := r.get he
  have hl := r.length
  have hn := line63
  have hk := (List.getElem?_eq_some_iff.mp he).1
  exact wpAny_getItem_list pl.isList (by omega) (by omega) (by rw [Int.toNat_natCast]; simpa using ew) ⟨v, H, I, rw', q⟩
theorem rd_augS {to ti te : TE} {tget : V → V → Hp → VK → Prop} {tip : TIp} {tset : TSet}
    (h : to σ H fun o H1 => ti σ H1 fun i H2 => tget o i H2 fun x H3 => te σ H3 fun y H4 => tip x y H4 fun z H5 => tset o i z H5 fun H6 => D.nx σ H6) : tAugS to ti te tget tip tset D σ H := h
theorem get_l {p : Addr} {xs : List V} {k : Nat} {v : V} {Q : VK} (hq : SqL K H p xs) (he : xs[k]? = some v) (h : Q v H) : rGetL K (.ref p) (.int (k : Nat)) H Q := ⟨p, xs, k, v, rfl, rfl, hq, he, h⟩
theorem set_l {p : Addr} {xs : List V} {k : Nat} {v : V} {Q : Hp → Prop} (hp : H p = some (.lst xs)) (hk : k < xs.length) (h : Q (upd H p (.lst (xs.set k v)))) : rSetL (.ref p) (.int (k : Nat)) v H Q := by
  refine ⟨p, xs, k, k, rfl, rfl, hp, ?_, h⟩
  unfold ixN
  simp [hk]
theorem pi_enumK {e : Expr} {ta : TA} {p pos tpos : Pos} {elts : List Expr} {kk : Nat} (h : X.K = K) (hg : Gl X "enumerate") (hm : X.mg "enumerate" = none) (ha : PA X [e] ta) (hs : starEach [e] X.env = [(false, eval e X.env)] := by rfl) :
    PI X (.Tuple elts kk tpos) (.Call (.Name "enumerate" p) [e] [] pos) (iEnum K ta) := h ▸ pi_enum hg hm ha hs
def rTupL (K : PySem.W.Frag) : List V → Hp → VK → Prop := fun xs H Q => ∃ p ys, xs = [.ref p] ∧ ((SqL K H p ys ∧ ∀ l, H l = none → Q (.ref l) (upd H l (.tup ys))) ∨ (SqT K H p ys ∧ Q (.ref p) H))
theorem call_tupLK (h : X.K = K) : CallR X (.type "tuple") (rTupL K) := h ▸ call_tuple_of
theorem tup_l {p : Addr} {ys : List V} {Q : VK} (hs : SqL K H p ys) (h : ∀ l, H l = none → Q (.ref l) (upd H l (.tup ys))) : rTupL K [.ref p] H Q := ⟨p, ys, rfl, .inl ⟨hs, h⟩⟩
end
/-! {tk: tv for a, b in enumerate(xs)} -/
section
open Evl
variable {K : PySem.W.Frag} {σ : L2.St} {H : Hp} {tk tv : TE} {ta : TA} {g : TG}
theorem rd_dcE {a b : Nat} {vs : List Nat} {p : Addr} {xs : List V} {Q : VK} (h : EvA ta σ H [.ref p]) (hs : SqL K H p xs) (kf : Nat → Key) (vf : Nat → V) (hz : xs.length ≤ 40000)
    (hinj : ∀ i j, i < xs.length → j < xs.length → kf i = kf j → i = j)
    (hw : ∀ x y, wipe (((wipe σ vs).set a (some x)).set b (some y)) vs = wipe σ vs)
    (hg : ∀ x y T σ' H' (R : L2.St → Hp → Prop), H' T = some (.tup [x, y]) → R ((σ'.set a (some x)).set b (some y)) H' → g (.ref T) σ' H' R)
    (hk : ∀ i x, xs[i]? = some x → ∀ H1, Ex H H1 → Ev tk (((wipe σ vs).set a (some (.int (i : Nat)))).set b (some x)) H1 (kV (kf i)))
    (he : ∀ i x, xs[i]? = some x → ∀ H1, Ex H H1 → Ev tv (((wipe σ vs).set a (some (.int (i : Nat)))).set b (some x)) H1 (vf i))
    (q : ∀ d H1, H d = none → Same H H1 → H1 d = some (.dK ((List.range xs.length).map fun i => (kf i, vf i))) → Q (.ref d) H1) : tDc (iEnum K ta) g tYes tk tv vs σ H Q := h H (Ex.refl H) _ fun H1 e1 => ⟨p, xs, rfl, ex_l e1 hs, fun Dl hD => by
  have W := walk_enum (K := K) (a := p) (xs := xs)
  refine ⟨fun i m H' => m = xs.length - i ∧ i ≤ xs.length ∧ Ex H1 H' ∧ H' Dl = some (.dK ((List.range i).map fun i => (kf i, vf i))), ⟨xs.length, by omega, Nat.zero_le _, Ex.new hD, by rw [upd_same]; rfl⟩, ?_⟩
  rintro i m H' ⟨rfl, hi, ex, hd⟩
  by_cases hlt : i < xs.length
  · refine .inr ⟨W.goes i H' hlt (ex_l (e1.trans ex) hs), fun H2 => Ex H1 H2 ∧ H2 Dl = some (.dK ((List.range (i + 1)).map fun i => (kf i, vf i))), fun H2 n => ⟨xs.length - (i + 1), by omega, rfl, hlt, n.1, n.2⟩, fun x H2 hy => ?_⟩
    obtain ⟨T, x1, x2, rfl, hT, rfl, h1, h2⟩ := W.yields i H' x H2 hlt (ex_l (e1.trans ex) hs) hy
    cases h1
    refine hg _ _ T _ _ _ upd_same ⟨hw _ _, rd_yes (iteT ?_)⟩
    have exT : Ex H1 (upd H' T (.tup [.int (i : Nat), x2])) := ex.trans (Ex.new hT)
    have hdT : upd H' T (.tup [.int (i : Nat), x2]) Dl = some (.dK ((List.range i).map fun i => (kf i, vf i))) := by rw [upd_ne (ne_of_none hd hT)]; exact hd
    refine hk i x2 h2 H1 e1 _ exT _ fun H3 e3 => he i x2 h2 H1 e1 H3 (exT.trans e3) _ fun H4 e4 => ⟨_, kf i, rfl, e4 _ _ (e3 _ _ hdT), ?_, ?_⟩
    · rw [List.length_map, List.length_range]
      exact sz_lt (by omega)
    · refine ⟨Ex.mut ((exT.trans e3).trans e4) hD, ?_⟩
      rw [upd_same, putK_new, List.range_succ, List.map_append]
      · rfl
      · unfold valV
        rw [Option.map_eq_none_iff, List.find?_eq_none]
        intro z hz
        obtain ⟨j, hj, rfl⟩ := List.mem_map.mp hz
        have hj := List.mem_range.mp hj
        simp only [decide_eq_true_eq]
        intro e
        have := hinj j i (by omega) hlt e
        omega
  · obtain rfl : i = xs.length := by omega
    exact .inl ⟨W.stops H' (ex_l (e1.trans ex) hs), q Dl H' (fresh_back e1 hD) (e1.trans ex) hd⟩⟩
end
end NW

/-! Walks over what a call gives, over ranges and tuples; comprehensions with two fors, the second one over what hangs on the first. -/
namespace NW
open PySem PySem.Spec PyProof.Rows L2 Evl
/-- wi walks over ys, whatever it makes for it -/
def WkX (wi : TI) (σ : L2.St) (H : Hp) (ys : List V) : Prop := ∀ H1, Ex H H1 → ∀ R : It → Hp → Prop, (∀ J H2, Ex H1 H2 → (∃ G, Walk J ys.length G (YAt ys) ∧ ∀ H3, Ex H H3 → (∀ b o, H1 b = none → H2 b = some o → H3 b = some o) → G H3) → R J H2) → wi σ H1 R
section
variable {K : PySem.W.Frag} {σ : L2.St} {H H' : Hp} {ta : TA} {tb te tl tk tv : TE} {t t1 : TT} {wi wi1 : TI} {J J1 : It} {G G1 : Hp → Prop} {xs ys : List V}
theorem WkX.mono (h : WkX wi σ H xs) (e : Ex H H') : WkX wi σ H' xs := fun H1 e1 R r => h H1 (e.trans e1) R fun J H2 e2 ⟨G, W, WG⟩ => r J H2 e2 ⟨G, W, fun H3 e3 kn => WG H3 (e.trans e3) kn⟩
theorem wkx_wk (h : Wk wi σ H J G xs) : WkX wi σ H xs := fun H1 e1 R r => h.go H1 e1 R fun H2 e2 => r J H2 e2 ⟨G, h.walk, fun H3 e3 _ => h.all H3 e3⟩
theorem wkx_L (h : EvL tl σ H xs) : WkX (iList K tl) σ H xs := fun H1 e1 R r => h H1 e1 _ fun p H2 hp e2 h2 => ⟨p, rfl, ⟨xs, SqL.of h2⟩, r _ H2 e2 ⟨_, walk_list, fun H3 _ kn => SqL.of (kn _ _ hp h2)⟩⟩
theorem wk_tup {a : Addr} (h : Ev tl σ H (.ref a)) (hs : SqT K H a xs) : Wk (iTup K tl) σ H (Itt K a) (fun H => SqT K H a xs) xs :=
  ⟨walk_tup, fun _ e => ex_t e hs, fun H1 e R r => h H1 e _ fun H2 e2 => ⟨a, rfl, ⟨xs, ex_t (e.trans e2) hs⟩, r H2 e2⟩⟩
theorem vInts_get {l : List Nat} {i c : Nat} (h : l[i]? = some c) : (vInts l)[i]? = some (.int (c : Nat)) := by unfold vInts; rw [List.getElem?_map, h]; rfl
theorem walk_rng (n : Nat) : Walk (Itr 0 n) (vInts (List.range n)).length (fun _ => True) (YAt (vInts (List.range n))) := by
  have e : (vInts (List.range n)).length = n := by rw [vInts_len, List.length_range]
  rw [e]
  refine (walk_range (lo := 0) (n := n)).mono (fun _ h => h) (fun i H x H' hi _ hy => ?_)
  obtain ⟨h1, rfl⟩ := hy
  refine ⟨h1, ?_⟩
  have e0 : (0 : Int) + (i : Nat) = ((i : Nat) : Int) := Int.zero_add _
  show _ = some (V.int ((0 : Int) + (i : Nat)))
  rw [e0]
  exact vInts_get (by rw [List.getElem?_range hi])
theorem wk_rng1 {n : Nat} (h : EvA ta σ H [.int (n : Nat)]) (hn : n ≤ 100000) : Wk (iRng1 ta) σ H (Itr 0 n) (fun _ => True) (vInts (List.range n)) :=
  ⟨walk_rng n, fun _ _ => trivial, fun H1 e R r => h H1 e _ fun H2 e2 => ⟨(n : Nat), rfl, by omega, by omega, by
    rw [Int.toNat_natCast]
    exact r H2 e2⟩⟩
theorem flatX_len {ys : V → List V} {m : Nat} (p : V → V → Bool) (v : V → V → V) (hy : ∀ x ∈ xs, (ys x).length ≤ m) (i : Nat) : ((xs.take i).flatMap fun x => ((ys x).filter (p x)).map (v x)).length ≤ i * m := by
  have h : ∀ l : List V, (∀ x ∈ l, (ys x).length ≤ m) → (l.flatMap fun x => ((ys x).filter (p x)).map (v x)).length ≤ l.length * m := by
    intro l
    induction l with
    | nil => simp
    | cons x r ih =>
      intro hl
      have h1 := List.length_filter_le (p x) (ys x)
      have h2 := hl x List.mem_cons_self
      have h3 := ih fun y hy => hl y (List.mem_cons_of_mem _ hy)
      rw [List.flatMap_cons, List.length_append, List.length_map, List.length_cons, Nat.succ_mul]
      omega
  refine Nat.le_trans (h _ fun x hx => hy x (List.mem_of_mem_take hx)) (Nat.mul_le_mul_right _ ?_)
  rw [List.length_take]
  omega
/-- [te for j in .. for j1 in .. if t1], the second walk hangs on the first one -/
theorem el_lc2X {j j1 : Nat} {vs vs1 : List Nat} {ys : V → List V} {m : Nat} (hwk : WkX wi σ H xs) (hwk1 : ∀ x ∈ xs, WkX wi1 ((wipe σ vs).set j (some x)) H (ys x)) (p : V → V → Bool) (v : V → V → V)
    (hm : ∀ x ∈ xs, (ys x).length ≤ m) (hz : xs.length * m ≤ 40000)
    (hw : ∀ x, wipe ((wipe σ vs).set j (some x)) vs = wipe σ vs) (hw1 : ∀ x y, wipe ((wipe ((wipe σ vs).set j (some x)) vs1).set j1 (some y)) vs1 = wipe ((wipe σ vs).set j (some x)) vs1)
    (ht : ∀ x ∈ xs, ∀ y ∈ ys x, ∀ H1, Ex H H1 → EvT t1 ((wipe ((wipe σ vs).set j (some x)) vs1).set j1 (some y)) H1 (p x y))
    (he : ∀ x ∈ xs, ∀ y ∈ ys x, ∀ H1, Ex H H1 → p x y = true → Ev te ((wipe ((wipe σ vs).set j (some x)) vs1).set j1 (some y)) H1 (v x y)) :
    EvL (tLc2 wi (gName j) tYes wi1 (gName j1) t1 te vs vs1) σ H (xs.flatMap fun x => ((ys x).filter (p x)).map (v x)) := fun H0 e Q q => hwk H0 e _ fun J H1 e1 ⟨G, W, WG⟩ Dl hD => by
  refine ⟨fun i m H' => m = xs.length - i ∧ i ≤ xs.length ∧ Ex H1 H' ∧ H' Dl = some (.lst ((xs.take i).flatMap fun x => ((ys x).filter (p x)).map (v x))), ⟨xs.length, by omega, Nat.zero_le _, Ex.new hD, by rw [upd_same]; rfl⟩, ?_⟩
  rintro i m' H' ⟨rfl, hi, ex, hd⟩
  by_cases hlt : i < xs.length
  · refine .inr ⟨W.goes i H' hlt (WG _ ((e.trans e1).trans ex) fun b o _ hb => ex _ _ hb), fun H2 => Ex H1 H2 ∧ H2 Dl = some (.lst ((xs.take (i + 1)).flatMap fun x => ((ys x).filter (p x)).map (v x))), fun H2 n => ⟨xs.length - (i + 1), by omega, rfl, hlt, n.1, n.2⟩, fun x H2 hy => ?_⟩
    obtain ⟨rfl, hx⟩ := W.yields i H' x H2 hlt (WG _ ((e.trans e1).trans ex) fun b o _ hb => ex _ _ hb) hy
    have hmx : x ∈ xs := List.mem_of_getElem? hx
    refine ⟨hw x, rd_yes (iteT ?_)⟩
    have eH : Ex H H2 := (e.trans e1).trans ex
    refine hwk1 x hmx H2 eH _ fun J1 H3 e3 ⟨G1, W1, WG1⟩ => ?_
    refine ⟨fun k m H4 => m = (ys x).length - k ∧ k ≤ (ys x).length ∧ (∀ b o, H2 b = none → H3 b = some o → H4 b = some o) ∧ Ex H1 H4 ∧ H4 Dl = some (.lst (((xs.take i).flatMap fun x => ((ys x).filter (p x)).map (v x)) ++ (((ys x).take k).filter (p x)).map (v x))), ⟨(ys x).length, by omega, Nat.zero_le _, fun b o _ h => h, ex.trans e3, by rw [e3 _ _ hd]; simp⟩, ?_⟩
    rintro k m'' H4 ⟨rfl, hk, ex3, ex4, hd4⟩
    by_cases hlk : k < (ys x).length
    · refine .inr ⟨W1.goes k H4 hlk (WG1 _ ((e.trans e1).trans ex4) ex3), fun H5 => ((∀ b o, H2 b = none → H3 b = some o → H5 b = some o) ∧ Ex H1 H5 ∧ H5 Dl = some (.lst (((xs.take i).flatMap fun x => ((ys x).filter (p x)).map (v x)) ++ (((ys x).take (k + 1)).filter (p x)).map (v x)))), fun H5 n => ⟨(ys x).length - (k + 1), by omega, rfl, hlk, n.1, n.2.1, n.2.2⟩, fun y H5 hy => ?_⟩
      obtain ⟨rfl, hy2⟩ := W1.yields k H4 y H5 hlk (WG1 _ ((e.trans e1).trans ex4) ex3) hy
      have hmy : y ∈ ys x := List.mem_of_getElem? hy2
      refine ⟨hw1 x y, ?_⟩
      have e5 : Ex H H5 := (e.trans e1).trans ex4
      refine ht x hmx y hmy H1 (e.trans e1) H5 ex4 _ fun H6 e6 => ?_
      have hd6 := e6 _ _ hd4
      cases hp : p x y with
      | true =>
        refine iteT ?_
        refine he x hmx y hmy H1 (e.trans e1) hp H6 (ex4.trans e6) _ fun H7 e7 => ⟨_, e7 _ _ hd6, ?_, ?_⟩
        · have h1 := flatX_len (xs := xs) (ys := ys) (m := m) p v hm i
          have h2 := List.length_filter_le (p x) ((ys x).take k)
          have h4 := hm x hmx
          rw [List.length_append, List.length_map]
          rw [List.length_take] at h2
          have h3 : (i + 1) * m ≤ xs.length * m := Nat.mul_le_mul_right _ hlt
          rw [Nat.succ_mul] at h3
          exact sz_lt (by omega)
        · refine ⟨?_, ?_, ?_⟩
          · intro b o hn hb
            have hbn : b ≠ Dl := fun z => by rw [z, hd] at hn; cases hn
            rw [upd_ne hbn]
            exact e7 _ _ (e6 _ _ (ex3 _ _ hn hb))
          · exact Ex.mut ((ex4.trans e6).trans e7) hD
          · rw [upd_same, take_succ_get hy2, List.filter_append, List.map_append, List.append_assoc]
            simp [hp]
      | false =>
        refine iteF ?_
        refine ⟨fun b o hn hb => e6 _ _ (ex3 _ _ hn hb), ex4.trans e6, ?_⟩
        rw [hd6, take_succ_get hy2, List.filter_append]
        simp [hp]
    · obtain rfl : k = (ys x).length := by omega
      refine .inl ⟨W1.stops H4 (WG1 _ ((e.trans e1).trans ex4) ex3), ex4, ?_⟩
      rw [hd4, take_succ_get hx, List.flatMap_append, List.take_length]
      simp
  · obtain rfl : i = xs.length := by omega
    refine .inl ⟨W.stops H' (WG _ ((e.trans e1).trans ex) fun b o _ hb => ex _ _ hb), q Dl H' (fresh_back e1 hD) (e1.trans ex) ?_⟩
    rw [hd, List.take_length]
end
end NW

set_option Elab.async false
set_option linter.all false
set_option maxRecDepth 100000
set_option maxHeartbeats 4000000
namespace K52
open PySem PySem.Spec PyProof.Rows L2 NW
local macro_rules | `(tactic| walk_at "hp") => `(tactic| first
  | assumption
  | exact upd_same
  | (refine upd_keep (by assumption) ?_; walk_at "hp")
  | (refine Same.get (by assumption) ?_; walk_at "hp")
  | (refine upd_oth (by first | assumption | (apply Ne.symm; assumption)) ?_; walk_at "hp"))
local macro_rules | `(tactic| walk_at "sq") => `(tactic| first
  | assumption
  | (refine SqL.of ?_; walk_at "hp")
  | (refine SqT.of ?_; walk_at "hp")
  | (refine Same.seq (by assumption) ?_; walk_at "sq")
  | (refine Same.seq (Same.new (by assumption)) ?_; walk_at "sq"))
local macro_rules | `(tactic| walk_at "rd1") => `(tactic| with_reducible first
  | refine rd_seq ?_ | refine rd_asg ?_ | refine rd_name ?_ | refine rd_ret ?_ | refine rd_drop ?_ | refine rd_next ?_ | refine rd_ifS ?_
  | refine rd_c ?_ | refine rd_op ?_ | refine rd_un ?_ | refine rd_test ?_ | refine rd_B ?_ | refine rd_bl ?_
  | refine rd_not ?_ | refine rd_and ?_ | refine rd_or ?_ | refine rd_andV ?_ | refine rd_orV ?_ | refine rd_notV ?_ | refine rd_blI ?_ | refine rd_if ?_
  | refine rd_nil ?_ | refine rd_cons ?_ | refine rd_cb ?_ | refine rd_sl ?_ | refine rd_none ?_ | refine rd_some ?_ | refine rd_int ?_
  | refine rd_callS ?_ | refine rd_callSD ?_ | refine rd_call ?_ | refine rd_fld ?_ | refine rd_meth ?_ | refine rd_din ?_ | refine rd_dnotin ?_ | refine rd_dget ?_ | refine rd_dput ?_ | refine rd_sfld ?_ | refine rd_make ?_ | refine rd_chain ?_
  | refine rd_step ?_ | refine rd_setl ?_ | refine rd_sub ?_ | refine rd_bm ?_ | refine rd_bm0 ?_ | refine rd_sadd ?_ | refine rd_yes ?_
  | refine rd_tyS ?_ | refine find_s ?_
  | refine rd_bits ?_ | refine rI0_i ?_ | refine rAdd_i ?_ | refine rU_i ?_
  | refine in_sg ?_ | refine notin_sg ?_ | refine abs_i ?_ | refine int_i ?_ | refine int_b ?_)
local macro_rules | `(tactic| walk_at "rdv") => `(tactic| ((with_reducible refine' rd_var ?e ?_); (case e => exact rfl)))
local macro_rules | `(tactic| walk_at "rd") => `(tactic| repeat (first | walk_at "rd1" | walk_at "rdv"))

def topS (i : Nat) : Stmt := PySem.Challenge.pw_nearwish_k52_halvings.main.body.getD i (.Pass ⟨0, 0, 0, 0⟩)
abbrev s_is_integer : Stmt := topS 4
abbrev N_is_integer : List Str := ["value"]
theorem sc_is_integer : FnScope N_is_integer ["value"] (defScope s_is_integer) := ⟨rfl, rfl, rfl, by decide +kernel, rfl, by decide +kernel, by decide +kernel⟩

abbrev s_need_number : Stmt := topS 5
abbrev N_need_number : List Str := ["value", "least", "most"]
theorem sc_need_number : FnScope N_need_number ["value", "least", "most"] (defScope s_need_number) := ⟨rfl, rfl, rfl, by decide +kernel, rfl, by decide +kernel, by decide +kernel⟩

abbrev s_halvings : Stmt := topS 9
abbrev N_halvings : List Str := ["number", "found", "rest"]
theorem sc_halvings : FnScope N_halvings ["number"] (defScope s_halvings) := ⟨rfl, rfl, rfl, by decide +kernel, rfl, by decide +kernel, by decide +kernel⟩

abbrev s_Lhand : Stmt := topS 11
abbrev N_Lhand : List Str := ["_law_script", "_law_cells", "_law_cell"]
theorem sc_Lhand : FnScope N_Lhand ["_law_script"] (defScope s_Lhand) := ⟨rfl, rfl, rfl, by decide +kernel, rfl, by decide +kernel, by decide +kernel⟩

abbrev s_Ldraw : Stmt := topS 12
abbrev N_Ldraw : List Str := ["_law_hand_here", "_law_many", "_law_cell", "_law_digit", "_law_number_here"]
theorem sc_Ldraw : FnScope N_Ldraw ["_law_hand_here", "_law_many"] (defScope s_Ldraw) := ⟨rfl, rfl, rfl, by decide +kernel, rfl, by decide +kernel, by decide +kernel⟩

abbrev s_Lhalvings : Stmt := topS 13
abbrev N_Lhalvings : List Str := ["_law_number_here", "_law_many", "_law_turn", "_law_digits", "_law_rest"]
theorem sc_Lhalvings : FnScope N_Lhalvings ["_law_number_here"] (defScope s_Lhalvings) := ⟨rfl, rfl, rfl, by decide +kernel, rfl, by decide +kernel, by decide +kernel⟩

abbrev s_Lnumber : Stmt := topS 14
abbrev N_Lnumber : List Str := ["_law_hand_here", "_law_kind", "_law_power", "_law_turn", "_law_number_here"]
theorem sc_Lnumber : FnScope N_Lnumber ["_law_hand_here"] (defScope s_Lnumber) := ⟨rfl, rfl, rfl, by decide +kernel, rfl, by decide +kernel, by decide +kernel⟩

abbrev s_Lasked : Stmt := topS 15
abbrev N_Lasked : List Str := ["_law_thing", "_law_found", "e"]
theorem sc_Lasked : FnScope N_Lasked ["_law_thing"] (defScope s_Lasked) := ⟨rfl, rfl, rfl, by decide +kernel, rfl, by decide +kernel, by decide +kernel⟩

abbrev s_law : Stmt := topS 16
abbrev N_law : List Str := ["_law_script", "_law_hand_here", "_law_turn", "_law_number_here", "_law_told", "_law_other", "_law_bad"]
theorem sc_law : FnScope N_law ["_law_script"] (defScope s_law) := ⟨rfl, rfl, rfl, by decide +kernel, rfl, by decide +kernel, by decide +kernel⟩

structure Txt (K : PySem.W.Frag) (mg : Str → Option Value) where
  b_abs : mg "abs" = none
  b_bool : mg "bool" = none
  b_int : mg "int" = none
  b_isinstance : mg "isinstance" = none
  b_len : mg "len" = none
  b_max : mg "max" = none
  b_min : mg "min" = none
  b_range : mg "range" = none
  tk_FEW_SHADES : Tok
  mg_FEW_SHADES : mg "FEW_SHADES" = some (.int 6 tk_FEW_SHADES)
  tk_MOST_NAMES : Tok
  mg_MOST_NAMES : mg "MOST_NAMES" = some (.int 1000000000000000000000000000000000000000000000000000000000000 tk_MOST_NAMES)
  f_is_integer : Addr
  fd_is_integer : FuncData
  F_is_integer : Fun K "is_integer" "is_integer" s_is_integer f_is_integer fd_is_integer
  bd_is_integer : Binds K fd_is_integer ["value"] []
  mg_is_integer : mg "is_integer" = some (.ref f_is_integer)
  kp_is_integer : PySem.W.keepIn K (.ref f_is_integer) = true
  f_need_number : Addr
  fd_need_number : FuncData
  F_need_number : Fun K "need_number" "need_number" s_need_number f_need_number fd_need_number
  bd_need_number : Binds K fd_need_number ["value", "least", "most"] []
  mg_need_number : mg "need_number" = some (.ref f_need_number)
  kp_need_number : PySem.W.keepIn K (.ref f_need_number) = true
  f_halvings : Addr
  fd_halvings : FuncData
  F_halvings : Fun K "halvings" "halvings" s_halvings f_halvings fd_halvings
  bd_halvings : Binds K fd_halvings ["number"] []
  mg_halvings : mg "halvings" = some (.ref f_halvings)
  kp_halvings : PySem.W.keepIn K (.ref f_halvings) = true
  f_Lhand : Addr
  fd_Lhand : FuncData
  F_Lhand : Fun K "_law_hand" "_law_hand" s_Lhand f_Lhand fd_Lhand
  bd_Lhand : Binds K fd_Lhand ["_law_script"] []
  mg_Lhand : mg "_law_hand" = some (.ref f_Lhand)
  kp_Lhand : PySem.W.keepIn K (.ref f_Lhand) = true
  f_Ldraw : Addr
  fd_Ldraw : FuncData
  F_Ldraw : Fun K "_law_draw" "_law_draw" s_Ldraw f_Ldraw fd_Ldraw
  bd_Ldraw : Binds K fd_Ldraw ["_law_hand_here", "_law_many"] []
  mg_Ldraw : mg "_law_draw" = some (.ref f_Ldraw)
  kp_Ldraw : PySem.W.keepIn K (.ref f_Ldraw) = true
  f_Lhalvings : Addr
  fd_Lhalvings : FuncData
  F_Lhalvings : Fun K "_law_halvings" "_law_halvings" s_Lhalvings f_Lhalvings fd_Lhalvings
  bd_Lhalvings : Binds K fd_Lhalvings ["_law_number_here"] []
  mg_Lhalvings : mg "_law_halvings" = some (.ref f_Lhalvings)
  kp_Lhalvings : PySem.W.keepIn K (.ref f_Lhalvings) = true
  f_Lnumber : Addr
  fd_Lnumber : FuncData
  F_Lnumber : Fun K "_law_number" "_law_number" s_Lnumber f_Lnumber fd_Lnumber
  bd_Lnumber : Binds K fd_Lnumber ["_law_hand_here"] []
  mg_Lnumber : mg "_law_number" = some (.ref f_Lnumber)
  kp_Lnumber : PySem.W.keepIn K (.ref f_Lnumber) = true
  f_Lasked : Addr
  fd_Lasked : FuncData
  F_Lasked : Fun K "_law_asked" "_law_asked" s_Lasked f_Lasked fd_Lasked
  bd_Lasked : Binds K fd_Lasked ["_law_thing"] []
  mg_Lasked : mg "_law_asked" = some (.ref f_Lasked)
  kp_Lasked : PySem.W.keepIn K (.ref f_Lasked) = true
  f_law : Addr
  fd_law : FuncData
  F_law : Fun K "law" "law" s_law f_law fd_law
  X_NoNumber : Addr
  mg_NoNumber : mg "NoNumber" = some (.ref X_NoNumber)
  kp_NoNumber : PySem.W.keepIn K (.ref X_NoNumber) = true
  xc_NoNumber : PySem.W.excIn K X_NoNumber [.type "ValueError", .type "Exception", .type "BaseException", .type "object"] "ValueError.__new__" = true
  sb_NoNumber : PySem.W.subIn K (.ref X_NoNumber) (.type "BaseException") = some true
  ty_NoNumber : PySem.W.typeIn K (.ref X_NoNumber) = some (.type "type")
  X_NearError : Addr
  mg_NearError : mg "NearError" = some (.ref X_NearError)
  ec_NoNumber : ExcC K X_NoNumber
  ki_NoNumber_NearError : PySem.W.kitOne K (.ref X_NoNumber) (.ref X_NearError) = some true
  xm_NoNumber_NoNumber : PySem.W.exmOne K (.ref X_NoNumber) (.ref X_NoNumber) = some true

section
variable {P : Program} {w : World} {K : PySem.W.Frag} {mg : Str → Option Value} {base : Heap}
/-- what is no integer: no int, or a bool -/
def NoInt (K : PySem.W.Frag) (H : Hp) (v : V) : Prop := ∃ t, TyX K H v t ∧ (PySem.W.kitOne K t (.type "int") = some false ∨ (PySem.W.kitOne K t (.type "int") = some true ∧ PySem.W.kitOne K t (.type "bool") = some true))
def sp_is_integer (K : PySem.W.Frag) : Sp := fun vs H Q _ => ∃ v, vs = [v] ∧ ((∃ i, v = .int i ∧ Q (.bl true) H) ∨ (NoInt K H v ∧ Q (.bl false) H))
theorem ok_is_integer (T : Txt K mg) : FnOk P w K mg base (L2.CX P w) 1 T.f_is_integer T.fd_is_integer ["value"] (sp_is_integer K) := by
  refine T.F_is_integer.okX sc_is_integer (fun vs H Q E h => ?_) (fun cdv A outer s H vs Q E hr h => ?_)
  · obtain ⟨_, rfl, _⟩ := h
    rfl
  · obtain ⟨v, rfl, h⟩ := h
    refine ⟨_, (pss_one (ps_ret (pe_and (pe_callB (call_isiK1 (K := K) rfl) (by rfl) T.b_isinstance boot_isinstance (pa_cons (pv 0) (pa_cons (pe_bltn (v := .ty "int") rfl T.b_int boot_int rfl) pa_nil))) (pe_one (pe_not (pe_callB (call_isiK1 (K := K) rfl) (by rfl) T.b_isinstance boot_isinstance (pa_cons (pv 0) (pa_cons (pe_bltn (v := .ty "bool") rfl T.b_bool boot_bool rfl) pa_nil)))))))), ?_⟩
    walk_at "rd"
    rcases h with ⟨i, rfl, k⟩ | ⟨⟨t, ht, h | ⟨h, h2⟩⟩, k⟩
    · refine ⟨_, _, _, _, true, rfl, .ty "int", .base (.int _), kit_ty (by decide +kernel), ?_⟩
      walk_at "rd"
      refine iteT ?_
      walk_at "rd"
      refine ⟨_, _, _, _, false, rfl, .ty "bool", .base (.int _), kit_ty (by decide +kernel), ?_⟩
      walk_at "rd"
      exact k
    · refine ⟨_, _, _, _, false, rfl, .ty "int", ht, h, ?_⟩
      walk_at "rd"
      exact iteF k
    · refine ⟨_, _, _, _, true, rfl, .ty "int", ht, h, ?_⟩
      walk_at "rd"
      refine iteT ?_
      walk_at "rd"
      refine ⟨_, _, _, _, true, rfl, .ty "bool", ht, h2, ?_⟩
      walk_at "rd"
      exact k
end

section
variable {P : Program} {w : World} {K : PySem.W.Frag} {mg : Str → Option Value} {base : Heap}
def BadNum (K : PySem.W.Frag) (H : Hp) (v : V) (lo hi : Int) : Prop := NoInt K H v ∨ ∃ i, v = .int i ∧ (i < lo ∨ hi < i)
def sp_need_number (K : PySem.W.Frag) (X : Addr) : Sp := fun vs H Q E => ∃ v lo hi, vs = [v, .int lo, .int hi] ∧
  ((∃ i, v = .int i ∧ lo ≤ i ∧ i ≤ hi ∧ Q .non H) ∨ (BadNum K H v lo hi ∧ E (.ref X) none H))
theorem ok_need_number (T : Txt K mg) : FnOk P w K mg base (L2.CX P w) 2 T.f_need_number T.fd_need_number ["value", "least", "most"] (sp_need_number K T.X_NoNumber) := by
  refine T.F_need_number.okX sc_need_number (fun vs H Q E h => ?_) (fun cdv A outer s H vs Q E hr h => ?_)
  · obtain ⟨_, _, _, rfl, _⟩ := h
    rfl
  · obtain ⟨v, lo, hi, rfl, h⟩ := h
    refine ⟨_, (pss_one (ps_if (PW.pt (pw_or (pt_not (pt_val (pe_callS (ok_is_integer T) (hr.mono (by decide)) rfl T.mg_is_integer T.kp_is_integer T.bd_is_integer (fun σ => passAt (takes_of rfl rfl rfl rfl) σ) (pa_cons (pv 0) pa_nil)))) (pw_or (pt_cmpR op_lt (pv 0) (pv 1) (nomark _)) (pw_or1 (pt_cmpR op_gt (pv 0) (pv 2) (nomark _))))))
  (pss_one (ps_raise rfl (takes_of rfl rfl rfl rfl) (pmk_own0 PySem.F.excBase_ValueError T.xc_NoNumber T.mg_NoNumber T.kp_NoNumber (raises_own T.sb_NoNumber T.ty_NoNumber) rfl)))
  pss_nil)), ?_⟩
    walk_at "rd"
    rcases h with ⟨i, rfl, h1, h2, k⟩ | ⟨hn | ⟨i, rfl, hi⟩, k⟩
    · refine ⟨_, rfl, .inl ⟨_, rfl, ?_⟩⟩
      walk_at "rd"
      refine iteF ?_
      walk_at "rd"
      rw [decide_eq_false (by omega)]
      refine iteF ?_
      walk_at "rd"
      rw [decide_eq_false (by omega)]
      exact iteF k
    · refine ⟨_, rfl, .inr ⟨hn, ?_⟩⟩
      walk_at "rd"
      exact iteT (iteT k)
    · refine ⟨_, rfl, .inl ⟨_, rfl, ?_⟩⟩
      walk_at "rd"
      refine iteF ?_
      walk_at "rd"
      by_cases h1 : i < lo
      · rw [decide_eq_true h1]
        exact iteT (iteT k)
      · rw [decide_eq_false h1]
        refine iteF ?_
        walk_at "rd"
        rw [decide_eq_true (by omega)]
        exact iteT k
end

section
variable {P : Program} {w : World} {K : PySem.W.Frag} {mg : Str → Option Value} {base : Heap}
/-! ### the hand: what draws leave -/
theorem rd_have {M : L2.St → Hp → Prop} {ts tu : TS} {D : Ends} {σ : L2.St} {H : Hp} (rest : ∀ σ' H', M σ' H' → tu D σ' H') (h : (∀ σ' H', M σ' H' → tu D σ' H') → tSeq ts tu D σ H) : tSeq ts tu D σ H := h rest
structure HandV (H : Hp) (h c : Addr) (ns : List Int) (i r s k : Int) : Prop where
  hh : H h = some (.lst [.ref c, .int i, .int r, .int s, .int k])
  hc : H c = some (.lst (ns.map V.int))
  ne : c ≠ h
  nn : ∀ n ∈ ns, 0 ≤ n
  i0 : 0 ≤ i
  r0 : 0 ≤ r
  ln : ns.length ≤ 63
def HandAt (H : Hp) (h c : Addr) : Prop := ∃ ns i r s k, HandV H h c ns i r s k
/-- all but h stands -/
def Keep1 (h : Addr) (H H' : Hp) : Prop := ∀ b o, H b = some o → b ≠ h → H' b = some o
theorem Keep1.refl (h : Addr) (H : Hp) : Keep1 h H H := fun _ _ e _ => e
theorem Keep1.trans {h : Addr} {H H1 H2 : Hp} (a : Keep1 h H H1) (b : Keep1 h H1 H2) : Keep1 h H H2 := fun c o e n => b c o (a c o e n) n
theorem Keep1.upd {h : Addr} {H H1 : Hp} {o : HO} (a : Keep1 h H H1) : Keep1 h H (upd H1 h o) := fun c u e n => by rw [upd_ne n]; exact a c u e n
theorem Keep1.same {h : Addr} {H H1 H2 : Hp} (a : Keep1 h H H1) (b : Same H1 H2) : Keep1 h H H2 := fun c o e n => b c o (a c o e n)
theorem Keep1.of {h : Addr} {H H2 : Hp} (b : Same H H2) : Keep1 h H H2 := fun c o e _ => b c o e
theorem HandAt.some {H : Hp} {h c : Addr} (a : HandAt H h c) : ∃ o, H h = some o := by
  obtain ⟨ns, i, r, s, k, v⟩ := a
  exact ⟨_, v.hh⟩
theorem Keep1.free {h c : Addr} {H H' : Hp} (k : Keep1 h H H') (a : HandAt H' h c) {p : Addr} (n : H' p = none) : H p = none := by
  cases q : H p with
  | none => rfl
  | some o =>
    by_cases e : p = h
    · obtain ⟨u, hu⟩ := a.some
      rw [e, hu] at n; cases n
    · rw [k p o q e] at n; cases n
theorem HandAt.same {H H' : Hp} {h c : Addr} (a : HandAt H h c) (s : Same H H') : HandAt H' h c := by
  obtain ⟨ns, i, r, s1, k, v⟩ := a
  exact ⟨ns, i, r, s1, k, s _ _ v.hh, s _ _ v.hc, v.ne, v.nn, v.i0, v.r0, v.ln⟩
/-- a new thing laid, or one changed that is not the hand's -/
theorem HandAt.upd {H : Hp} {h c p : Addr} {o : HO} (a : HandAt H h c) (n : H p = none) : HandAt (upd H p o) h c := a.same (Same.new n)
theorem HandAt.mut {H : Hp} {h c p : Addr} {o : HO} (a : HandAt H h c) (n : p ≠ h) (m : p ≠ c) : HandAt (L2.upd H p o) h c := by
  obtain ⟨ns, i, r, s1, k, v⟩ := a
  exact ⟨ns, i, r, s1, k, by rw [upd_ne n.symm]; exact v.hh, by rw [upd_ne m.symm]; exact v.hc, v.ne, v.nn, v.i0, v.r0, v.ln⟩
theorem HandAt.out {H : Hp} {h c p : Addr} (a : HandAt H h c) (n : H p = none) : p ≠ h ∧ p ≠ c := by
  obtain ⟨ns, i, r, s1, k, v⟩ := a
  exact ⟨fun e => (by rw [e, v.hh] at n; cases n), fun e => (by rw [e, v.hc] at n; cases n)⟩
theorem Keep1.mut {h p : Addr} {H H' : Hp} {o : HO} (k : Keep1 h H H') (n : H p = none) : Keep1 h H (L2.upd H' p o) := fun b u e m => by rw [upd_ne (ne_of_none e n)]; exact k b u e m
def sp_draw : Sp := fun vs H Q _ => ∃ h c many, vs = [.ref h, .int many] ∧ HandAt H h c ∧ 0 < many ∧ many.natAbs.log2 < 9000 ∧ ∀ H' d, 0 ≤ d → d < many → Keep1 h H H' → HandAt H' h c → Q (.int d) H'
theorem set_l {l : Addr} {xs : List V} {i : Int} {j : Nat} {v : V} {H : Hp} {q : Hp → Prop} (hl : H l = some (.lst xs)) (hj : ixN xs.length i = some j) (h : q (upd H l (.lst (xs.set j v)))) : rSetL (.ref l) (.int i) v H q :=
  ⟨l, xs, i, j, rfl, rfl, hl, hj, h⟩
theorem ok_Ldraw (T : Txt K mg) : FnOk P w K mg base (L2.CX P w) 1 T.f_Ldraw T.fd_Ldraw ["_law_hand_here", "_law_many"] sp_draw := by
  refine T.F_Ldraw.okX sc_Ldraw (fun vs H Q E h => ?_) (fun cdv A outer s H vs Q E hr h => ?_)
  · obtain ⟨_, _, _, rfl, _⟩ := h
    rfl
  · obtain ⟨h, c, many, rfl, ⟨ns, i, r, s0, k0, v⟩, hm0, hm9, k⟩ := h
    refine ⟨_, (pss_cons (ps_if (PW.pt (pw_and (pt_cmpR op_eq (pe_ix (ix_seqK (K := K) rfl) (pv 0) pe_int (fun _ _ => rfl)) pe_int (nomark _)) (pw_and1 (pt_cmpR op_lt (pe_ix (ix_seqK (K := K) rfl) (pv 0) pe_int (fun _ _ => rfl)) (pe_callB (call_lenK (K := K) rfl) (by rfl) T.b_len boot_len (pa_cons (pe_ix (ix_seqK (K := K) rfl) (pv 0) pe_int (fun _ _ => rfl)) pa_nil)) (nomark _)))))
  (pss_cons (ps_set (i := 2) sc_Ldraw.nd rfl (by first | exact Or.inl rfl | exact Or.inr rfl) (pe_ix (ix_seqK (K := K) rfl) (pe_ix (ix_seqK (K := K) rfl) (pv 0) pe_int (fun _ _ => rfl)) (pe_ix (ix_seqK (K := K) rfl) (pv 0) pe_int (fun _ _ => rfl)) (fun _ _ => rfl)))
  (pss_cons (ps_asg (pe_op op_addA (pe_ix (ix_seqK (K := K) rfl) (pv 0) pe_int (fun _ _ => rfl)) pe_int) (pg_sub (pv 0) pe_int set_list))
  (pss_cons (ps_asg (pe_op op_mod (pe_callTy call_intA (by rfl) T.b_int boot_int (pa_cons (pe_op op_addA (pe_op op_addA (pe_op op_mul (pe_ix (ix_seqK (K := K) rfl) (pv 0) pe_int (fun _ _ => rfl)) pe_int) (pv 2)) pe_int) pa_nil)) pe_int) (pg_sub (pv 0) pe_int set_list))
  (pss_one (ps_if (pt_cmpR op_ge (pv 2) (pe_op op_pow pe_int pe_int) (nomark _))
  (pss_one (ps_asg (pv 2) (pg_sub (pv 0) pe_int set_list)))
  pss_nil)))))
  pss_nil)
  (pss_cons (ps_if (pt_cmpR op_gt (pe_ix (ix_seqK (K := K) rfl) (pv 0) pe_int (fun _ _ => rfl)) pe_int (nomark _))
  (pss_cons (ps_set (i := 3) sc_Ldraw.nd rfl (by first | exact Or.inl rfl | exact Or.inr rfl) (pe_op op_mod (pe_callTy call_intA (by rfl) T.b_int boot_int (pa_cons (pe_ix (ix_seqK (K := K) rfl) (pv 0) pe_int (fun _ _ => rfl)) pa_nil)) (pv 1)))
  (pss_cons (ps_asg (pe_op op_fdivW (pe_ix (ix_seqK (K := K) rfl) (pv 0) pe_int (fun _ _ => rfl)) (pv 1)) (pg_sub (pv 0) pe_int set_list))
  (pss_one (ps_ret (pv 3)))))
  pss_nil)
  (pss_cons (ps_asg (pe_op op_addA (pe_ix (ix_seqK (K := K) rfl) (pv 0) pe_int (fun _ _ => rfl)) pe_int) (pg_sub (pv 0) pe_int set_list))
  (pss_cons (ps_set (i := 4) sc_Ldraw.nd rfl (by first | exact Or.inl rfl | exact Or.inr rfl) (pe_op op_mod (pe_callTy call_intA (by rfl) T.b_int boot_int (pa_cons (pe_op op_mul (pe_callTy call_intA (by rfl) T.b_int boot_int (pa_cons (pe_op op_addA (pe_ix (ix_seqK (K := K) rfl) (pv 0) pe_int (fun _ _ => rfl)) (pe_op op_mul pe_int (pe_ix (ix_seqK (K := K) rfl) (pv 0) pe_int (fun _ _ => rfl)))) pa_nil)) pe_int) pa_nil)) pe_int))
  (pss_cons (ps_set (i := 4) sc_Ldraw.nd rfl (by first | exact Or.inl rfl | exact Or.inr rfl) (pe_op op_mod (pe_callTy call_intA (by rfl) T.b_int boot_int (pa_cons (pe_op op_mul (pv 4) (pe_op op_addA (pe_op op_fdivW (pv 4) pe_int) pe_int)) pa_nil)) pe_int))
  (pss_cons (ps_set (i := 4) sc_Ldraw.nd rfl (by first | exact Or.inl rfl | exact Or.inr rfl) (pe_op op_mod (pe_callTy call_intA (by rfl) T.b_int boot_int (pa_cons (pe_op op_mul (pv 4) (pe_op op_addA (pe_op op_fdivW (pv 4) pe_int) pe_int)) pa_nil)) pe_int))
  (pss_one (ps_ret (pe_op op_mod (pe_callTy call_intA (by rfl) T.b_int boot_int (pa_cons (pe_op op_fdivW (pv 4) pe_int) pa_nil)) (pv 1)))))))))), ?_⟩
    refine rd_have (M := fun σ' H' => (∃ x, σ' = [some (.ref h), some (.int many), x, none, none]) ∧ HandAt H' h c ∧ Keep1 h H H') (fun σ' H1 hM => ?_) (fun rest => ?_)
    · obtain ⟨⟨x, rfl⟩, ⟨ns, i, r, s1, k1, v⟩, kp⟩ := hM
      walk_at "rd"
      refine rIx_l (SqL.of v.hh) rfl ?_
      walk_at "rd"
      by_cases hr0 : 0 < r
      · rw [decide_eq_true hr0]
        refine iteT ?_
        walk_at "rd"
        refine rIx_l (SqL.of v.hh) rfl ?_
        walk_at "rd"
        refine rI_i hm0 ?_
        walk_at "rd"
        refine rIx_l (SqL.of v.hh) rfl ?_
        walk_at "rd"
        refine rI_i ⟨hm0, hm9⟩ ?_
        walk_at "rd"
        refine set_l v.hh rfl ?_
        walk_at "rd"
        refine k _ _ (Int.emod_nonneg _ (by omega)) (Int.emod_lt_of_pos _ hm0) kp.upd ⟨ns, i, r / many, s1, k1, upd_same, by rw [upd_ne v.ne]; exact v.hc, v.ne, v.nn, v.i0, Int.ediv_nonneg v.r0 (by omega), v.ln⟩
      · rw [decide_eq_false hr0]
        refine iteF ?_
        walk_at "rd"
        refine rIx_l (SqL.of v.hh) rfl ?_
        walk_at "rd"
        refine set_l v.hh rfl ?_
        walk_at "rd"
        refine rIx_l (SqL.of upd_same) rfl ?_
        walk_at "rd"
        refine rIx_l (SqL.of upd_same) rfl ?_
        walk_at "rd"
        refine rI_i (.inl ⟨by decide, by decide⟩) ?_
        walk_at "rd"
        refine rI_i (.inr ⟨by decide, by decide⟩) ?_
        walk_at "rd"
        refine rI_i (show (0 : Int) < 2147483647 by decide) ?_
        walk_at "rd"
        generalize hn1 : ((s1 + 7919 * (k1 + 1)) * 48271) % 2147483647 = n1
        have b1 : 0 ≤ n1 ∧ n1 < 2147483647 := by rw [← hn1]; exact ⟨Int.emod_nonneg _ (by decide), Int.emod_lt_of_pos _ (by decide)⟩
        refine rI_i ⟨by decide, by decide⟩ ?_
        walk_at "rd"
        refine rI_i (.inl ⟨by omega, by omega⟩) ?_
        walk_at "rd"
        refine rI_i (show (0 : Int) < 2147483647 by decide) ?_
        walk_at "rd"
        generalize hn2 : (n1 * (n1 / 1009 + 69621)) % 2147483647 = n2
        have b2 : 0 ≤ n2 ∧ n2 < 2147483647 := by rw [← hn2]; exact ⟨Int.emod_nonneg _ (by decide), Int.emod_lt_of_pos _ (by decide)⟩
        refine rI_i ⟨by decide, by decide⟩ ?_
        walk_at "rd"
        refine rI_i (.inl ⟨by omega, by omega⟩) ?_
        walk_at "rd"
        refine rI_i (show (0 : Int) < 2147483399 by decide) ?_
        walk_at "rd"
        refine rI_i ⟨by decide, by decide⟩ ?_
        walk_at "rd"
        refine rI_i hm0 ?_
        exact k _ _ (Int.emod_nonneg _ (by omega)) (Int.emod_lt_of_pos _ hm0) kp.upd ⟨ns, i, r, s1, k1 + 1, upd_same, by rw [upd_ne v.ne]; exact v.hc, v.ne, v.nn, v.i0, v.r0, v.ln⟩
    · walk_at "rd"
      refine rIx_l (SqL.of v.hh) rfl ?_
      walk_at "rd"
      refine rEq_v rfl ?_
      walk_at "rd"
      rw [decide_int]
      have hv : HandAt H h c := ⟨ns, i, r, s0, k0, v⟩
      by_cases hr0 : r = 0
      · rw [decide_eq_true hr0]
        refine iteT ?_
        walk_at "rd"
        refine rIx_l (SqL.of v.hh) rfl ?_
        walk_at "rd"
        refine rIx_l (SqL.of v.hh) rfl ?_
        walk_at "rd"
        refine len_l (SqL.of v.hc) ?_
        walk_at "rd"
        rw [List.length_map]
        by_cases hi : i < (ns.length : Nat)
        · rw [decide_eq_true hi]
          refine iteT ?_
          walk_at "rd"
          refine rIx_l (SqL.of v.hh) rfl ?_
          walk_at "rd"
          refine rIx_l (SqL.of v.hh) rfl ?_
          have hi2 : i.toNat < ns.length := by have := v.i0; omega
          have hit : (ns.map V.int)[i.toNat]? = some (.int ns[i.toNat]) := by rw [List.getElem?_map, List.getElem?_eq_getElem hi2]; rfl
          have hic : ((i.toNat : Nat) : Int) = i := Int.toNat_of_nonneg v.i0
          refine rIx_l (SqL.of v.hc) (by rw [← hic]; exact atI_nat hit) ?_
          have hn0 : 0 ≤ ns[i.toNat] := v.nn _ (List.getElem_mem hi2)
          generalize ns[i.toNat] = cell at hn0
          walk_at "rd"
          refine rIx_l (SqL.of v.hh) rfl ?_
          walk_at "rd"
          refine set_l v.hh rfl ?_
          walk_at "rd"
          refine rIx_l (SqL.of upd_same) rfl ?_
          walk_at "rd"
          refine rI_i (.inr ⟨by decide, by decide⟩) ?_
          walk_at "rd"
          refine rI_i (show (0 : Int) < 2147483629 by decide) ?_
          walk_at "rd"
          refine set_l upd_same rfl ?_
          walk_at "rd"
          refine rI_i ⟨by decide, by decide, by decide⟩ ?_
          walk_at "rd"
          by_cases hg : (10 : Int) ^ (18 : Int).toNat ≤ cell
          · rw [decide_eq_true hg]
            refine iteT ?_
            walk_at "rd"
            refine set_l upd_same rfl ?_
            refine rest _ _ ⟨⟨_, rfl⟩, ⟨ns, i + 1, cell, _, k0, upd_same, ?_, v.ne, v.nn, by have := v.i0; omega, hn0, v.ln⟩, ((Keep1.refl h H).upd.upd).upd⟩
            rw [upd_ne v.ne, upd_ne v.ne, upd_ne v.ne]
            exact v.hc
          · rw [decide_eq_false hg]
            refine iteF ?_
            refine rest _ _ ⟨⟨_, rfl⟩, ⟨ns, i + 1, r, _, k0, upd_same, ?_, v.ne, v.nn, by have := v.i0; omega, v.r0, v.ln⟩, ((Keep1.refl h H).upd).upd⟩
            rw [upd_ne v.ne, upd_ne v.ne]
            exact v.hc
        · rw [decide_eq_false hi]
          refine iteF ?_
          exact rest _ _ ⟨⟨_, rfl⟩, hv, Keep1.refl h H⟩
      · rw [decide_eq_false hr0]
        refine iteF (iteF ?_)
        exact rest _ _ ⟨⟨_, rfl⟩, hv, Keep1.refl h H⟩
end

section
variable {P : Program} {w : World} {K : PySem.W.Frag} {mg : Str → Option Value} {base : Heap}
def absV1 : V → V
  | .int i => .int (if i < 0 then -i else i)
  | v => v
def sp_hand (K : PySem.W.Frag) : Sp := fun vs H Q _ => ∃ a, ∃ ns : List Int, vs = [.ref a] ∧ SqL K H a (ns.map V.int) ∧ ∀ p c H', H p = none → H c = none → Same H H' → HandAt H' p c → Q (.ref p) H'
theorem ok_Lhand (T : Txt K mg) : FnOk P w K mg base (L2.CX P w) 1 T.f_Lhand T.fd_Lhand ["_law_script"] (sp_hand K) := by
  refine T.F_Lhand.okX sc_Lhand (fun vs H Q E h => ?_) (fun cdv A outer s H vs Q E hr h => ?_)
  · obtain ⟨_, _, rfl, _⟩ := h
    rfl
  · obtain ⟨a, ns, rfl, ha, k⟩ := h
    refine ⟨_, (pss_cons (ps_setLc (i := 1) (own := [("_law_cell", 2)]) rfl sc_Lhand.nd rfl rfl (sw_true rfl rfl rfl (by decide +kernel)) (pi_listK (K := K) rfl (pe_slice (sl_anyK (K := K) rfl) (pv 0) po_none (po_some pe_int))) (blkOk_by (N := N_Lhand) (sc := defScope s_Lhand) (by decide +kernel))
   (fun _ _ _ _ _ => (pg_name (i := 2) sc_Lhand.nd rfl (by first | exact Or.inl rfl | exact Or.inr rfl))) (fun _ _ _ _ _ => pts_nil) (fun _ _ _ _ _ => (pe_callB call_absA (by rfl) T.b_abs boot_abs (pa_cons (pe_callTy call_intA (by rfl) T.b_int boot_int (pa_cons (pv 2) pa_nil)) pa_nil))))
  (pss_one (ps_ret (pe_lst (pa_cons (pv 1) (pa_cons pe_int (pa_cons pe_int (pa_cons (pe_op op_addA pe_int (pe_callB (call_lenK (K := K) rfl) (by rfl) T.b_len boot_len (pa_cons (pv 1) pa_nil))) (pa_cons pe_int pa_nil))))))))), ?_⟩
    walk_at "rd"
    have hl : (cutV (ns.map V.int) none (some ((63 : Nat) : Int))).length ≤ 63 := by rw [cutV_to, List.length_take]; omega
    refine rd_L (el_lcN (xs := cutV (ns.map V.int) none (some ((63 : Nat) : Int))) (fun _ => true) absV1 (el_slA (Evl.ev_var rfl) Evl.eo_none (Evl.eo_some Evl.ev_c) ha) (by omega) (fun _ => rfl) (fun _ _ _ _ => ev_yes) (fun x hx H1 _ _ H2 _ Q' q => ?_)) fun c H1 hc s1 h1 => ?_
    · rw [cutV_to] at hx
      obtain ⟨i, _, rfl⟩ := List.mem_map.mp (List.mem_of_mem_take hx)
      walk_at "rd"
      exact q H2 (Evl.Ex.refl _)
    rw [List.filter_eq_self.mpr (fun _ _ => rfl), cutV_to, ← List.map_take, List.map_map] at h1
    have h1' : H1 c = some (.lst (((ns.take 63).map fun i => if i < 0 then -i else i).map V.int)) := by
      rw [h1, List.map_map]
      rfl
    walk_at "rd"
    refine rd_lst ?_
    walk_at "rd"
    refine len_l (SqL.of h1') ?_
    walk_at "rd"
    refine ⟨by show 5 ≤ sizeLine; decide, fun p hp => ?_⟩
    have ne : c ≠ p := ne_of_none h1' hp
    refine k p c _ (s1.free hp) hc (s1.trans (Same.new hp)) ⟨_, 0, 0, _, 0, upd_same, by rw [upd_ne ne]; exact h1', ne, fun n hn => ?_, by decide, by decide, ?_⟩
    · obtain ⟨i, _, rfl⟩ := List.mem_map.mp hn
      split <;> omega
    · rw [List.length_map, List.length_take]
      omega
theorem nat_of {d : Int} {n : Nat} (h0 : 0 ≤ d) (h1 : d < (n : Int)) : ∃ k : Nat, d = (k : Nat) ∧ k < n := ⟨d.toNat, by omega, by omega⟩
theorem log9 {n : Nat} (h : n ≤ 100000) : ((n : Nat) : Int).natAbs.log2 < 9000 := by
  have h1 : ((n : Nat) : Int).natAbs = n := Int.natAbs_natCast n
  rw [h1]
  by_cases h0 : n = 0
  · subst h0; decide
  · have := Nat.log2_lt h0 (k := 17)
    have h2 : n < 2 ^ 17 := by omega
    have := this.mpr h2
    omega
end

section
variable {P : Program} {w : World} {K : PySem.W.Frag} {mg : Str → Option Value} {base : Heap}
/-! ### binary digits, and how often -/
def bitsN (n : Nat) : Nat := if n = 0 then 0 else n.log2 + 1
theorem intBits_nat (n : Nat) : Builtin.Int.intBits ((n : Nat) : Int) = bitsN n := by
  unfold Builtin.Int.intBits bitsN
  by_cases h : n = 0
  · subst h; rfl
  · have h1 : ¬ (((n : Nat) : Int) == 0) = true := by simpa using h
    rw [if_neg h1, if_neg h, Int.natAbs_natCast]
theorem bits_half {n : Nat} (h : 0 < n) : bitsN n = bitsN (n / 2) + 1 := by
  unfold bitsN
  rw [if_neg (by omega)]
  rw [Nat.log2_def]
  by_cases h2 : 2 ≤ n
  · rw [if_pos h2, if_neg (by omega)]
  · have : n = 1 := by omega
    subst this
    rfl
theorem bits_mono : ∀ (n m : Nat), n ≤ m → bitsN n ≤ bitsN m := by
  intro n
  induction n using Nat.strongRecOn with
  | ind n ih =>
    intro m h
    by_cases h0 : n = 0
    · subst h0
      show 0 ≤ _
      omega
    · rw [bits_half (n := n) (by omega), bits_half (n := m) (by omega)]
      have := ih (n / 2) (by omega) (m / 2) (by omega)
      omega
theorem bits_le : ∀ (b n : Nat), n < 2 ^ b → bitsN n ≤ b := by
  intro b
  induction b with
  | zero =>
    intro n h
    have : n = 0 := by simpa using h
    subst this
    exact Nat.le_refl _
  | succ b ih =>
    intro n h
    by_cases h0 : n = 0
    · subst h0
      show 0 ≤ _
      omega
    · rw [bits_half (by omega)]
      have := ih (n / 2) (by rw [Nat.pow_succ] at h; omega)
      omega
theorem bits_two : ∀ n : Nat, 6 ≤ n → 2 * bitsN n ≤ n := by
  intro n
  induction n using Nat.strongRecOn with
  | ind n ih =>
    intro h
    by_cases h1 : n < 12
    · have : n = 6 ∨ n = 7 ∨ n = 8 ∨ n = 9 ∨ n = 10 ∨ n = 11 := by omega
      rcases this with rfl | rfl | rfl | rfl | rfl | rfl <;> decide +kernel
    · rw [bits_half (by omega)]
      have := ih (n / 2) (by omega) (by omega)
      omega
def st (n : Nat) : Nat → Nat × Nat
  | 0 => (n, 0)
  | i + 1 => if 6 < (st n i).1 then (2 * bitsN ((st n i).1 - 1), (st n i).2 + 1) else st n i
def halv (n : Nat) : Nat := (st n 300).2
theorem st_next {n i : Nat} (h : 6 < (st n i).1) : st n (i + 1) = (2 * bitsN ((st n i).1 - 1), (st n i).2 + 1) := by
  show (if 6 < (st n i).1 then _ else _) = _
  rw [if_pos h]
theorem st_rest {n i : Nat} (h : ¬ 6 < (st n i).1) : st n (i + 1) = st n i := by
  show (if 6 < (st n i).1 then _ else _) = _
  rw [if_neg h]
theorem st_stay {n i : Nat} (h : (st n i).1 ≤ 6) : ∀ j, st n (i + j) = st n i := by
  intro j
  induction j with
  | zero => rfl
  | succ j ih =>
    rw [← Nat.add_assoc, st_rest (by rw [ih]; omega), ih]
theorem st_falls {n i : Nat} (h : 6 < (st n i).1) : (st n (i + 1)).1 < (st n i).1 := by
  rw [st_next h]
  have := bits_two ((st n i).1 - 1) (by omega)
  show 2 * bitsN _ < _
  omega
theorem st_dec {n k : Nat} : ∀ i, (st n (k + i)).1 ≤ max 6 ((st n k).1 - i) := by
  intro i
  induction i with
  | zero => show (st n k).1 ≤ _; omega
  | succ i ih =>
    rw [← Nat.add_assoc]
    by_cases h : 6 < (st n (k + i)).1
    · have := st_falls h
      omega
    · rw [st_rest h]
      omega
theorem st_bits {n i b : Nat} (h : (st n i).1 ≤ 2 ^ b) : (st n (i + 1)).1 ≤ max 6 (2 * b) := by
  by_cases h1 : 6 < (st n i).1
  · rw [st_next h1]
    have := bits_le b ((st n i).1 - 1) (by omega)
    show 2 * bitsN _ ≤ _
    omega
  · rw [st_rest h1]
    omega
theorem st_small {n : Nat} (h : n ≤ 10 ^ 60) : (st n 300).1 ≤ 6 := by
  have e : (10 : Nat) ^ 60 ≤ 2 ^ 200 := by decide +kernel
  have h1 : (st n (0 + 1)).1 ≤ max 6 (2 * 200) := st_bits (by show n ≤ _; omega)
  have h2 : (st n (1 + 1)).1 ≤ max 6 (2 * 9) := st_bits (by
    have e9 : (2 : Nat) ^ 9 = 512 := by decide
    rw [e9]
    have : (st n 1).1 ≤ max 6 (2 * 200) := h1
    omega)
  have h3 := st_dec (n := n) (k := 2) 298
  have h4 : (st n 2).1 ≤ max 6 (2 * 9) := h2
  have h5 : (st n (2 + 298)).1 = (st n 300).1 := rfl
  omega
theorem st_end {n i : Nat} (h : n ≤ 10 ^ 60) (hi : (st n i).1 ≤ 6) : (st n i).2 = halv n := by
  have h1 := st_stay hi 300
  have h2 := st_stay (st_small h) i
  unfold halv
  rw [← h2, ← h1, Nat.add_comm]
theorem st_mono {n m : Nat} (h : n ≤ m) : ∀ i, (st n i).1 ≤ (st m i).1 ∧ (st n i).2 ≤ (st m i).2 := by
  intro i
  induction i with
  | zero => exact ⟨h, Nat.le_refl _⟩
  | succ i ih =>
    obtain ⟨h1, h2⟩ := ih
    by_cases a : 6 < (st n i).1
    · rw [st_next a, st_next (by omega)]
      have := bits_mono ((st n i).1 - 1) ((st m i).1 - 1) (by omega)
      exact ⟨by show 2 * _ ≤ 2 * _; omega, by show _ + 1 ≤ _ + 1; omega⟩
    · rw [st_rest a]
      by_cases b : 6 < (st m i).1
      · rw [st_next b]
        have := bits_mono 6 ((st m i).1 - 1) (by omega)
        have e : bitsN 6 = 3 := by decide +kernel
        exact ⟨by show _ ≤ 2 * _; omega, by show _ ≤ _ + 1; omega⟩
      · rw [st_rest b]
        exact ⟨h1, h2⟩
theorem halv_mono {n m : Nat} (h : n ≤ m) : halv n ≤ halv m := (st_mono h 300).2
theorem halv_low : (List.range 7).map (fun i => halv (i + 1)) = [0, 0, 0, 0, 0, 0, 1] := by decide +kernel
end

section
variable {P : Program} {w : World} {K : PySem.W.Frag} {mg : Str → Option Value} {base : Heap}
def top60 : Int := 1000000000000000000000000000000000000000000000000000000000000
theorem top60_nat : top60 = ((10 ^ 60 : Nat) : Int) := by decide +kernel
def sp_halvings (K : PySem.W.Frag) (X : Addr) : Sp := fun vs H Q E => ∃ v, vs = [v] ∧
  ((∃ n : Nat, v = .int (n : Nat) ∧ 1 ≤ n ∧ n ≤ 10 ^ 60 ∧ ∀ H', Same H H' → Q (.int (halv n : Nat)) H') ∨ (BadNum K H v 1 top60 ∧ E (.ref X) none H))
theorem ok_halvings (T : Txt K mg) : FnOk P w K mg base (L2.CX P w) 3 T.f_halvings T.fd_halvings ["number"] (sp_halvings K T.X_NoNumber) := by
  refine T.F_halvings.okX sc_halvings (fun vs H Q E h => ?_) (fun cdv A outer s H vs Q E hr h => ?_)
  · obtain ⟨_, rfl, _⟩ := h
    rfl
  · obtain ⟨v, rfl, h⟩ := h
    refine ⟨_, (pss_cons (ps_expr (pe_callS (ok_need_number T) (hr.mono (by decide)) rfl T.mg_need_number T.kp_need_number T.bd_need_number (fun σ => passAt (takes_of rfl rfl rfl rfl) σ) (pa_cons (pv 0) (pa_cons pe_int (pa_cons (pe_glob (v := .int 1000000000000000000000000000000000000000000000000000000000000) rfl T.mg_MOST_NAMES ⟨_, rfl⟩) pa_nil)))))
  (pss_cons (ps_set (i := 1) sc_halvings.nd rfl (by first | exact Or.inl rfl | exact Or.inr rfl) pe_int)
  (pss_cons (ps_set (i := 2) sc_halvings.nd rfl (by first | exact Or.inl rfl | exact Or.inr rfl) (pv 0))
  (pss_cons (ps_while (passes_of rfl) (pt_cmpR op_gt (pv 2) (pe_glob (v := .int 6) rfl T.mg_FEW_SHADES ⟨_, rfl⟩) (nomark _)) (pss_cons (ps_set (i := 2) sc_halvings.nd rfl (by first | exact Or.inl rfl | exact Or.inr rfl) (pe_op op_mul pe_int (pe_bits (pe_op op_sub (pv 2) pe_int))))
  (pss_one (ps_aug (i := 1) sc_halvings.nd rfl (by first | exact Or.inl rfl | exact Or.inr rfl) pe_int ip_addA))))
  (pss_one (ps_ret (pv 1))))))), ?_⟩
    walk_at "rd"
    rcases h with ⟨n, rfl, h1, h2, k⟩ | ⟨hb, k⟩
    · refine ⟨_, _, _, rfl, .inl ⟨_, rfl, by omega, ?_, ?_⟩⟩
      · have := top60_nat
        show ((n : Nat) : Int) ≤ top60
        rw [this]
        exact Int.ofNat_le.mpr h2
      walk_at "rd"
      refine rd_while (fun σ' H' => ∃ i, σ' = [some (.int (n : Nat)), some (.int ((st n i).2 : Nat)), some (.int ((st n i).1 : Nat))] ∧ Same H H')
        (fun σ' => match σ' with | [_, _, some (.int r)] => r.toNat | _ => 0) ⟨0, rfl, Same.refl _⟩ (fun σ' H' p => ?_)
      obtain ⟨i, rfl, sm⟩ := p
      refine ⟨decide (6 < (st n i).1), fun H1 e1 Q' q => ?_, fun hb H1 e1 => ?_, fun hb H1 e1 => ?_⟩
      · walk_at "rd"
        have e : decide ((6 : Int) < (((st n i).1 : Nat) : Int)) = decide (6 < (st n i).1) := by
          by_cases h : 6 < (st n i).1
          · rw [decide_eq_true h, decide_eq_true (by omega)]
          · rw [decide_eq_false h, decide_eq_false (by omega)]
        rw [e]
        exact q H1 (Evl.Ex.refl _)
      · have h6 : 6 < (st n i).1 := of_decide_eq_true hb
        walk_at "rd"
        have e : (((st n i).1 : Nat) : Int) - 1 = (((st n i).1 - 1 : Nat) : Int) := by omega
        rw [e, intBits_nat]
        refine rI_i (.inl ⟨by decide, by decide⟩) ?_
        walk_at "rd"
        refine rd_aug _ rfl ?_
        walk_at "rd"
        refine ipA_i ?_
        have e2 : (2 : Int) * ((bitsN ((st n i).1 - 1) : Nat) : Int) = ((2 * bitsN ((st n i).1 - 1) : Nat) : Int) := by omega
        have e3 : (((st n i).2 : Nat) : Int) + 1 = (((st n i).2 + 1 : Nat) : Int) := rfl
        have hn := st_next h6
        have hf := st_falls h6
        rw [e2, e3]
        refine ⟨⟨i + 1, ?_, sm.trans e1⟩, ?_⟩
        · rw [hn]
          rfl
        · rw [hn] at hf
          show (((2 * bitsN ((st n i).1 - 1) : Nat) : Int)).toNat < (((st n i).1 : Nat) : Int).toNat
          have hf' : 2 * bitsN ((st n i).1 - 1) < (st n i).1 := hf
          omega
      · have h6 : ¬ 6 < (st n i).1 := of_decide_eq_false hb
        walk_at "rd"
        rw [st_end h2 (by omega)]
        exact k H1 (sm.trans e1)
    · exact ⟨_, _, _, rfl, .inr ⟨hb, k⟩⟩
def sp_Lhalvings : Sp := fun vs H Q _ => ∃ n : Nat, vs = [.int (n : Nat)] ∧ ∀ H', Same H H' → Q (.int (halv n : Nat)) H'
theorem ok_Lhalvings (T : Txt K mg) : FnOk P w K mg base (L2.CX P w) 1 T.f_Lhalvings T.fd_Lhalvings ["_law_number_here"] sp_Lhalvings := by
  refine T.F_Lhalvings.okX sc_Lhalvings (fun vs H Q E h => ?_) (fun cdv A outer s H vs Q E hr h => ?_)
  · obtain ⟨_, rfl, _⟩ := h
    rfl
  · obtain ⟨n, rfl, k⟩ := h
    refine ⟨_, (pss_cons (ps_set (i := 1) sc_Lhalvings.nd rfl (by first | exact Or.inl rfl | exact Or.inr rfl) pe_int)
  (pss_cons (ps_for (passes_of rfl) rfl (pi_range1 rfl T.b_range (pa_cons pe_int pa_nil)) (pg_name (i := 2) sc_Lhalvings.nd rfl (by first | exact Or.inl rfl | exact Or.inr rfl))
  (pss_one (ps_if (pt_cmpR op_gt (pv 0) pe_int (nomark _))
  (pss_cons (ps_set (i := 3) sc_Lhalvings.nd rfl (by first | exact Or.inl rfl | exact Or.inr rfl) pe_int)
  (pss_cons (ps_set (i := 4) sc_Lhalvings.nd rfl (by first | exact Or.inl rfl | exact Or.inr rfl) (pe_op op_sub (pv 0) pe_int))
  (pss_cons (ps_while (passes_of rfl) (pt_cmpR op_gt (pv 4) pe_int (nomark _)) (pss_cons (ps_set (i := 4) sc_Lhalvings.nd rfl (by first | exact Or.inl rfl | exact Or.inr rfl) (pe_op op_fdivW (pv 4) pe_int))
  (pss_one (ps_set (i := 3) sc_Lhalvings.nd rfl (by first | exact Or.inl rfl | exact Or.inr rfl) (pe_op op_addA (pv 3) pe_int)))))
  (pss_cons (ps_set (i := 0) sc_Lhalvings.nd rfl (by first | exact Or.inl rfl | exact Or.inr rfl) (pe_op op_mul pe_int (pv 3)))
  (pss_one (ps_set (i := 1) sc_Lhalvings.nd rfl (by first | exact Or.inl rfl | exact Or.inr rfl) (pe_op op_addA (pv 1) pe_int)))))))
  pss_nil)))
  (pss_one (ps_ret (pv 1))))), ?_⟩
    walk_at "rd"
    refine rd_rng (n := 300) (by decide) (Evl.ea_cons Evl.ev_c Evl.ea_nil)
      (fun i σ' H' => ∃ o2 o3 o4, σ' = [some (.int ((st n i).1 : Nat)), some (.int ((st n i).2 : Nat)), o2, o3, o4] ∧ Same H H')
      (fun H1 s1 => ⟨none, none, none, rfl, s1⟩) (fun i σ' H' hi p => ?_) (fun σ' H' p => ?_)
    · obtain ⟨o2, o3, o4, rfl, sm⟩ := p
      walk_at "rd"
      by_cases h6 : 6 < (st n i).1
      · rw [decide_eq_true (by omega)]
        refine iteT ?_
        walk_at "rd"
        have e : (((st n i).1 : Nat) : Int) - 1 = (((st n i).1 - 1 : Nat) : Int) := by omega
        rw [e]
        refine rd_while (fun σ2 H2 => ∃ d r : Nat, σ2 = [some (.int ((st n i).1 : Nat)), some (.int ((st n i).2 : Nat)), some (.int (i : Nat)), some (.int (d : Nat)), some (.int (r : Nat))] ∧ d + bitsN r = bitsN ((st n i).1 - 1) ∧ Same H H2)
          (fun σ2 => match σ2 with | [_, _, _, _, some (.int r)] => r.toNat | _ => 0) ⟨0, (st n i).1 - 1, rfl, Nat.zero_add _, sm⟩ (fun σ2 H2 p => ?_)
        obtain ⟨d, r, rfl, hd, s2⟩ := p
        refine ⟨decide (0 < r), fun H1 e1 Q' q => ?_, fun hb H1 e1 => ?_, fun hb H1 e1 => ?_⟩
        · walk_at "rd"
          have e : decide ((0 : Int) < ((r : Nat) : Int)) = decide (0 < r) := by
            by_cases h : 0 < r
            · rw [decide_eq_true h, decide_eq_true (by omega)]
            · rw [decide_eq_false h, decide_eq_false (by omega)]
          rw [e]
          exact q H1 (Evl.Ex.refl _)
        · have h0 : 0 < r := of_decide_eq_true hb
          walk_at "rd"
          refine rI_i ⟨by decide, by decide⟩ ?_
          walk_at "rd"
          have e1' : ((r : Nat) : Int) / 2 = ((r / 2 : Nat) : Int) := by omega
          have e2 : ((d : Nat) : Int) + 1 = ((d + 1 : Nat) : Int) := rfl
          rw [e1', e2]
          refine ⟨⟨d + 1, r / 2, rfl, ?_, s2.trans e1⟩, ?_⟩
          · rw [bits_half h0] at hd
            omega
          · show (((r / 2 : Nat) : Int)).toNat < (((r : Nat) : Int)).toNat
            omega
        · have h0 : ¬ 0 < r := of_decide_eq_false hb
          have hr0 : r = 0 := by omega
          subst hr0
          have hd' : d = bitsN ((st n i).1 - 1) := by
            have : bitsN 0 = 0 := rfl
            omega
          walk_at "rd"
          refine rI_i (.inl ⟨by decide, by decide⟩) ?_
          walk_at "rd"
          refine ⟨some (.int (i : Nat)), some (.int (d : Nat)), some (.int ((0 : Nat) : Int)), ?_, s2.trans e1⟩
          rw [st_next h6, hd']
          have e2 : (2 : Int) * ((bitsN ((st n i).1 - 1) : Nat) : Int) = ((2 * bitsN ((st n i).1 - 1) : Nat) : Int) := by omega
          rw [e2]
          rfl
      · rw [decide_eq_false (by omega)]
        refine iteF ?_
        walk_at "rd"
        refine ⟨some (.int (i : Nat)), o3, o4, ?_, sm⟩
        rw [st_rest h6]
        rfl
    · obtain ⟨o2, o3, o4, rfl, sm⟩ := p
      walk_at "rd"
      exact k H' sm
end

section
variable {P : Program} {w : World} {K : PySem.W.Frag} {mg : Str → Option Value} {base : Heap}
theorem pow_le10 {a b : Nat} (h : a ≤ b) : (10 : Nat) ^ a ≤ 10 ^ b := Nat.pow_le_pow_right (by decide) h
theorem pow_le2 {a b : Nat} (h : a ≤ b) : (2 : Nat) ^ a ≤ 2 ^ b := Nat.pow_le_pow_right (by decide) h
def sp_number : Sp := fun vs H Q _ => ∃ h c, vs = [.ref h] ∧ HandAt H h c ∧ ∀ H' (n : Nat), 1 ≤ n → n ≤ 10 ^ 60 → Keep1 h H H' → HandAt H' h c → Q (.int (n : Nat)) H'
theorem ok_Lnumber (T : Txt K mg) : FnOk P w K mg base (L2.CX P w) 2 T.f_Lnumber T.fd_Lnumber ["_law_hand_here"] sp_number := by
  refine T.F_Lnumber.okX sc_Lnumber (fun vs H Q E h => ?_) (fun cdv A outer s H vs Q E hr h => ?_)
  · obtain ⟨_, _, rfl, _⟩ := h
    rfl
  · obtain ⟨h, c, rfl, hh, k⟩ := h
    refine ⟨_, (pss_cons (ps_set (i := 1) sc_Lnumber.nd rfl (by first | exact Or.inl rfl | exact Or.inr rfl) (pe_callS (ok_Ldraw T) (hr.mono (by decide)) rfl T.mg_Ldraw T.kp_Ldraw T.bd_Ldraw (fun σ => passAt (takes_of rfl rfl rfl rfl) σ) (pa_cons (pv 0) (pa_cons pe_int pa_nil))))
  (pss_cons (ps_if (pt_cmpR op_eq (pv 1) pe_int (nomark _))
  (pss_one (ps_ret (pe_op op_addA pe_int (pe_callS (ok_Ldraw T) (hr.mono (by decide)) rfl T.mg_Ldraw T.kp_Ldraw T.bd_Ldraw (fun σ => passAt (takes_of rfl rfl rfl rfl) σ) (pa_cons (pv 0) (pa_cons pe_int pa_nil))))))
  pss_nil)
  (pss_cons (ps_if (pt_cmpR op_eq (pv 1) pe_int (nomark _))
  (pss_cons (ps_set (i := 2) sc_Lnumber.nd rfl (by first | exact Or.inl rfl | exact Or.inr rfl) pe_int)
  (pss_cons (ps_for (passes_of rfl) rfl (pi_range1 rfl T.b_range (pa_cons (pe_callS (ok_Ldraw T) (hr.mono (by decide)) rfl T.mg_Ldraw T.kp_Ldraw T.bd_Ldraw (fun σ => passAt (takes_of rfl rfl rfl rfl) σ) (pa_cons (pv 0) (pa_cons pe_int pa_nil))) pa_nil)) (pg_name (i := 3) sc_Lnumber.nd rfl (by first | exact Or.inl rfl | exact Or.inr rfl))
  (pss_one (ps_set (i := 2) sc_Lnumber.nd rfl (by first | exact Or.inl rfl | exact Or.inr rfl) (pe_op op_mul pe_int (pv 2)))))
  (pss_one (ps_ret (pe_callB (call_max2 rfl) (by rfl) T.b_max (by decide +kernel) (pa_cons pe_int (pa_cons (pe_op op_sub (pe_op op_addA (pv 2) (pe_callS (ok_Ldraw T) (hr.mono (by decide)) rfl T.mg_Ldraw T.kp_Ldraw T.bd_Ldraw (fun σ => passAt (takes_of rfl rfl rfl rfl) σ) (pa_cons (pv 0) (pa_cons pe_int pa_nil)))) pe_int) pa_nil)))))))
  pss_nil)
  (pss_cons (ps_set (i := 4) sc_Lnumber.nd rfl (by first | exact Or.inl rfl | exact Or.inr rfl) pe_int)
  (pss_cons (ps_for (passes_of rfl) rfl (pi_range1 rfl T.b_range (pa_cons (pe_op op_addA pe_int (pe_callS (ok_Ldraw T) (hr.mono (by decide)) rfl T.mg_Ldraw T.kp_Ldraw T.bd_Ldraw (fun σ => passAt (takes_of rfl rfl rfl rfl) σ) (pa_cons (pv 0) (pa_cons pe_int pa_nil)))) pa_nil)) (pg_name (i := 3) sc_Lnumber.nd rfl (by first | exact Or.inl rfl | exact Or.inr rfl))
  (pss_one (ps_set (i := 4) sc_Lnumber.nd rfl (by first | exact Or.inl rfl | exact Or.inr rfl) (pe_op op_addA (pe_op op_mul pe_int (pv 4)) (pe_callS (ok_Ldraw T) (hr.mono (by decide)) rfl T.mg_Ldraw T.kp_Ldraw T.bd_Ldraw (fun σ => passAt (takes_of rfl rfl rfl rfl) σ) (pa_cons (pv 0) (pa_cons pe_int pa_nil)))))))
  (pss_one (ps_ret (pe_op op_addA pe_int (pv 4))))))))), ?_⟩
    have b199 : (2 : Nat) ^ 198 + 1 ≤ 10 ^ 60 := by decide +kernel
    have b59 : (10 : Nat) ^ 59 + 1 ≤ 10 ^ 60 := by decide +kernel
    walk_at "rd"
    refine ⟨h, c, _, rfl, hh, by decide, by decide +kernel, fun H1 d0 _ _ k1 hh1 => ?_⟩
    walk_at "rd"
    refine rEq_v rfl ?_
    walk_at "rd"
    rw [decide_int]
    by_cases h0 : d0 = 0
    · rw [decide_eq_true h0]
      refine iteT ?_
      walk_at "rd"
      refine ⟨h, c, _, rfl, hh1, by decide, by decide +kernel, fun H2 d l0 l1 k2 hh2 => ?_⟩
      obtain ⟨n, rfl, hn⟩ := nat_of (n := 70) l0 l1
      walk_at "rd"
      have e : (1 : Int) + ((n : Nat) : Int) = ((n + 1 : Nat) : Int) := by omega
      rw [e]
      exact k H2 (n + 1) (by omega) (Nat.le_trans (by omega : n + 1 ≤ 10 ^ 2) (pow_le10 (by decide))) (k1.trans k2) hh2
    · rw [decide_eq_false h0]
      refine iteF ?_
      walk_at "rd"
      refine rEq_v rfl ?_
      walk_at "rd"
      rw [decide_int]
      by_cases h1 : d0 = 1
      · rw [decide_eq_true h1]
        refine iteT ?_
        walk_at "rd"
        refine rd_for1 ?_
        walk_at "rd"
        refine ⟨h, c, _, rfl, hh1, by decide, by decide +kernel, fun H2 d l0 l1 k2 hh2 => ?_⟩
        obtain ⟨t, rfl, ht⟩ := nat_of (n := 199) l0 l1
        walk_at "rd"
        refine rng_at (n := t) (by omega) (fun i σ' H' => ∃ o3, σ' = [some (.ref h), some (.int d0), some (.int ((2 ^ i : Nat) : Int)), o3, none] ∧ H' = H2) ⟨none, rfl, rfl⟩ (fun i σ' H' hi p => ?_) (fun σ' H' p => ?_)
        · obtain ⟨o3, rfl, rfl⟩ := p
          walk_at "rd"
          refine rI_i (.inl ⟨by decide, by decide⟩) ?_
          walk_at "rd"
          have e : (2 : Int) * ((2 ^ i : Nat) : Int) = ((2 ^ (i + 1) : Nat) : Int) := by rw [Nat.pow_succ]; omega
          rw [e]
          exact ⟨_, rfl, rfl⟩
        · obtain ⟨o3, rfl, rfl⟩ := p
          walk_at "rd"
          refine ⟨h, c, _, rfl, hh2, by decide, by decide +kernel, fun H3 d l0 l1 k3 hh3 => ?_⟩
          obtain ⟨m, rfl, hm⟩ := nat_of (n := 3) l0 l1
          walk_at "rd"
          have hp : (2 : Nat) ^ t ≤ 2 ^ 198 := pow_le2 (by omega)
          have hp1 : 0 < (2 : Nat) ^ t := Nat.pow_pos (by decide)
          generalize (2 : Nat) ^ t = z at hp hp1
          refine ⟨_, _, rfl, ?_⟩
          have e : (if ((z : Nat) : Int) + ((m : Nat) : Int) - 1 > 1 then ((z : Nat) : Int) + ((m : Nat) : Int) - 1 else 1) = ((max 1 (z + m - 1) : Nat) : Int) := by
            split <;> omega
          rw [e]
          generalize (2 : Nat) ^ 198 = z2 at hp b199
          exact k H3 _ (by omega) (by omega) ((k1.trans k2).trans k3) hh3
      · rw [decide_eq_false h1]
        refine iteF ?_
        walk_at "rd"
        refine rd_for1 ?_
        walk_at "rd"
        refine ⟨h, c, _, rfl, hh1, by decide, by decide +kernel, fun H2 d l0 l1 k2 hh2 => ?_⟩
        obtain ⟨t, rfl, ht⟩ := nat_of (n := 59) l0 l1
        walk_at "rd"
        have e : (1 : Int) + ((t : Nat) : Int) = ((t + 1 : Nat) : Int) := by omega
        rw [e]
        refine rng_at (n := t + 1) (by omega) (fun i σ' H' => ∃ (o3 : Option V) (m : Nat), σ' = [some (.ref h), some (.int d0), none, o3, some (.int (m : Nat))] ∧ m < 10 ^ i ∧ Keep1 h H H' ∧ HandAt H' h c) ⟨none, 0, rfl, by decide, k1.trans k2, hh2⟩ (fun i σ' H' hi p => ?_) (fun σ' H' p => ?_)
        · obtain ⟨o3, m, rfl, hm, k3, hh3⟩ := p
          walk_at "rd"
          refine rI_i (.inl ⟨by decide, by decide⟩) ?_
          walk_at "rd"
          refine ⟨h, c, _, rfl, hh3, by decide, by decide +kernel, fun H4 d l0 l1 k4 hh4 => ?_⟩
          obtain ⟨j, rfl, hj⟩ := nat_of (n := 10) l0 l1
          walk_at "rd"
          have e : (10 : Int) * ((m : Nat) : Int) + ((j : Nat) : Int) = ((10 * m + j : Nat) : Int) := by omega
          rw [e]
          exact ⟨_, _, rfl, by rw [Nat.pow_succ]; omega, k3.trans k4, hh4⟩
        · obtain ⟨o3, m, rfl, hm, k3, hh3⟩ := p
          walk_at "rd"
          have e : (1 : Int) + ((m : Nat) : Int) = ((m + 1 : Nat) : Int) := by omega
          rw [e]
          have := pow_le10 (a := t + 1) (b := 59) (by omega)
          generalize (10 : Nat) ^ (t + 1) = z1 at hm this
          generalize (10 : Nat) ^ 59 = z2 at this b59
          exact k H' _ (by omega) (by omega) k3 hh3
def sp_asked (K : PySem.W.Frag) : Sp := fun vs H Q _ => ∃ v, vs = [v] ∧
  ((∃ n : Nat, v = .int (n : Nat) ∧ 1 ≤ n ∧ n ≤ 10 ^ 60 ∧ ∀ H', Same H H' → Q (.int (halv n : Nat)) H') ∨ (BadNum K H v 1 top60 ∧ Q (.str "refused") H))
theorem ok_Lasked (T : Txt K mg) : FnOk P w K mg base (L2.CX P w) 4 T.f_Lasked T.fd_Lasked ["_law_thing"] (sp_asked K) := by
  refine T.F_Lasked.okX sc_Lasked (fun vs H Q E h => ?_) (fun cdv A outer s H vs Q E hr h => ?_)
  · obtain ⟨_, rfl, _⟩ := h
    rfl
  · obtain ⟨v, rfl, h⟩ := h
    refine ⟨_, (pss_cons (ps_set (i := 1) sc_Lasked.nd rfl (by first | exact Or.inl rfl | exact Or.inr rfl) pe_str)
  (pss_cons (ps_try_as (i := 2) rfl rfl sc_Lasked.nd rfl rfl ⟨rfl, by decide, .inl T.mg_NoNumber⟩ (takes_of rfl rfl rfl rfl) (fun _ _ _ tk1 hp1 => (pss_one (ps_set (i := 1) sc_Lasked.nd rfl (by first | exact Or.inl rfl | exact Or.inr rfl) (pe_callS (ok_halvings T) (hr.mono (by decide)) rfl T.mg_halvings T.kp_halvings T.bd_halvings (fun σ => passAt tk1 σ) (pa_cons (pv 0) pa_nil)))))
  (fun _ _ _ _ _ hz hf => (pss_one (ps_set (i := 1) sc_Lasked.nd rfl (by first | exact Or.inl rfl | exact Or.inr rfl) (pe_ifExp (pt_val (pe_callB (call_isEx (K := K) rfl hz hf) (by rfl) T.b_isinstance boot_isinstance (pa_cons (pv 2) (pa_cons (pe_glob (v := .ref T.X_NearError) rfl T.mg_NearError rfl) pa_nil)))) pe_str pe_str)))))
  (pss_one (ps_ret (pv 1))))), ?_⟩
    walk_at "rd"
    rcases h with ⟨n, rfl, h1, h2, k⟩ | ⟨hb, k⟩
    · refine ⟨_, rfl, .inl ⟨n, rfl, h1, h2, fun H1 s1 => ?_⟩⟩
      walk_at "rd"
      exact k H1 s1
    · refine ⟨_, rfl, .inr ⟨hb, as_hit T.xm_NoNumber_NoNumber fun a _ => ?_⟩⟩
      walk_at "rd"
      refine ⟨_, _, _, true, rfl, rfl, T.ec_NoNumber, rfl, fun u hu => hu, T.ki_NoNumber_NearError, ?_⟩
      walk_at "rd"
      refine iteT ?_
      walk_at "rd"
      exact k
end

section
variable {P : Program} {w : World} {K : PySem.W.Frag} {mg : Str → Option Value} {base : Heap}
theorem ni_bl {H : Hp} {b : Bool} : NoInt K H (.bl b) := ⟨.type "bool", .base (.bl b), .inr ⟨kit_ty (by decide +kernel), kit_ty (by decide +kernel)⟩⟩
theorem ni_non {H : Hp} : NoInt K H .non := ⟨.type "NoneType", .base .non, .inl (kit_ty (by decide +kernel))⟩
theorem ni_str {H : Hp} {x : Str} : NoInt K H (.str x) := ⟨.type "str", .base (.str x), .inl (kit_ty (by decide +kernel))⟩
theorem ni_lst {H : Hp} {p : Addr} {xs : List V} (h : H p = some (.lst xs)) : NoInt K H (.ref p) := ⟨.type "list", .base (.lst h), .inl (kit_ty (by decide +kernel))⟩
theorem ni_tup {H : Hp} {p : Addr} {xs : List V} (h : H p = some (.tup xs)) : NoInt K H (.ref p) := ⟨.type "tuple", .base (.tup h), .inl (kit_ty (by decide +kernel))⟩
theorem NoInt.keep {H H' : Hp} {v : V} {h0 : Addr} (h : NoInt K H v) (s : Keep1 h0 H H') (n : v ≠ .ref h0) : NoInt K H' v := by
  obtain ⟨t, ht, hk⟩ := h
  refine ⟨t, ?_, hk⟩
  have na : ∀ a, v = .ref a → a ≠ h0 := fun a e1 e2 => n (by rw [e1, e2])
  cases ht with
  | base b =>
    cases b with
    | non => exact .base .non
    | bl y => exact .base (.bl y)
    | int i => exact .base (.int i)
    | str y => exact .base (.str y)
    | flt y => exact .base (.flt y)
    | lst e => exact .base (.lst (s _ _ e (na _ rfl)))
    | frz e => exact .base (.frz (s _ _ e (na _ rfl)))
    | tup e => exact .base (.tup (s _ _ e (na _ rfl)))
    | dK e => exact .base (.dK (s _ _ e (na _ rfl)))
    | dT e => exact .base (.dT (s _ _ e (na _ rfl)))
    | ins e c h1 h2 h3 h4 => exact .base (.ins (s _ _ e (na _ rfl)) c h1 h2 h3 h4)
  | byt b => exact .byt b
  | set e => exact .set (s _ _ e (na _ rfl))
  | kList e c => exact .kList e c
  | kTuple e c => exact .kTuple e c
  | kDict e c => exact .kDict e c
  | fTuple e => exact .fTuple (s _ _ e (na _ rfl))
  | fDict e => exact .fDict (s _ _ e (na _ rfl))
theorem NoInt.mono {H H' : Hp} {v : V} (h : NoInt K H v) (s : Same H H') : NoInt K H' v := by
  obtain ⟨t, ht, hk⟩ := h
  refine ⟨t, ?_, hk⟩
  cases ht with
  | base b =>
    cases b with
    | non => exact .base .non
    | bl y => exact .base (.bl y)
    | int i => exact .base (.int i)
    | str y => exact .base (.str y)
    | flt y => exact .base (.flt y)
    | lst e => exact .base (.lst (s _ _ e))
    | frz e => exact .base (.frz (s _ _ e))
    | tup e => exact .base (.tup (s _ _ e))
    | dK e => exact .base (.dK (s _ _ e))
    | dT e => exact .base (.dT (s _ _ e))
    | ins e c h1 h2 h3 h4 => exact .base (.ins (s _ _ e) c h1 h2 h3 h4)
  | byt b => exact .byt b
  | set e => exact .set (s _ _ e)
  | kList e c => exact .kList e c
  | kTuple e c => exact .kTuple e c
  | kDict e c => exact .kDict e c
  | fTuple e => exact .fTuple (s _ _ e)
  | fDict e => exact .fDict (s _ _ e)
end

section
variable {P : Program} {w : World} {K : PySem.W.Frag} {mg : Str → Option Value} {base : Heap}
theorem pow60 : (10 : Int) ^ (60 : Int).toNat = ((10 ^ 60 : Nat) : Int) := by decide +kernel
theorem pow40 : (10 : Int) ^ (40 : Int).toNat = ((10 ^ 40 : Nat) : Int) := by decide +kernel
theorem low_vals : Evl.given ((8 : Int) - 1).toNat (fun _ => true) (fun i => V.int (halv (i + 1) : Nat)) = vInts [0, 0, 0, 0, 0, 0, 1] := by
  rw [← halv_low]
  unfold Evl.given vInts
  rw [List.filter_eq_self.mpr (fun _ _ => rfl), List.map_map]
  rfl
def sp_law (K : PySem.W.Frag) : Sp := fun vs H Q _ => ∃ a, ∃ ns : List Int, vs = [.ref a] ∧ SqL K H a (ns.map V.int) ∧ ∀ H', Q (.bl true) H'
theorem ok_law (T : Txt K mg) : FnOk P w K mg base (L2.CX P w) 5 T.f_law T.fd_law ["_law_script"] (sp_law K) := by
  refine T.F_law.okX sc_law (fun vs H Q E h => ?_) (fun cdv A outer s H vs Q E hr h => ?_)
  · obtain ⟨_, _, rfl, _⟩ := h
    rfl
  · obtain ⟨a, ns, rfl, ha, k⟩ := h
    refine ⟨_, (pss_cons (ps_set (i := 1) sc_law.nd rfl (by first | exact Or.inl rfl | exact Or.inr rfl) (pe_callS (ok_Lhand T) (hr.mono (by decide)) rfl T.mg_Lhand T.kp_Lhand T.bd_Lhand (fun σ => passAt (takes_of rfl rfl rfl rfl) σ) (pa_cons (pv 0) pa_nil)))
  (pss_cons (ps_for (passes_of rfl) rfl (pi_range1 rfl T.b_range (pa_cons pe_int pa_nil)) (pg_name (i := 2) sc_law.nd rfl (by first | exact Or.inl rfl | exact Or.inr rfl))
  (pss_cons (ps_set (i := 3) sc_law.nd rfl (by first | exact Or.inl rfl | exact Or.inr rfl) (pe_callS (ok_Lnumber T) (hr.mono (by decide)) rfl T.mg_Lnumber T.kp_Lnumber T.bd_Lnumber (fun σ => passAt (takes_of rfl rfl rfl rfl) σ) (pa_cons (pv 1) pa_nil)))
  (pss_cons (ps_set (i := 4) sc_law.nd rfl (by first | exact Or.inl rfl | exact Or.inr rfl) (pe_callS (ok_halvings T) (hr.mono (by decide)) rfl T.mg_halvings T.kp_halvings T.bd_halvings (fun σ => passAt (takes_of rfl rfl rfl rfl) σ) (pa_cons (pv 3) pa_nil)))
  (pss_cons (ps_if (PW.pt (pw_or (pt_val (pe_callB (call_isiK1 (K := K) rfl) (by rfl) T.b_isinstance boot_isinstance (pa_cons (pv 4) (pa_cons (pe_bltn (v := .ty "bool") rfl T.b_bool boot_bool rfl) pa_nil)))) (pw_or1 (pt_cmpR op_ne (pv 4) (pe_callS (ok_Lhalvings T) (hr.mono (by decide)) rfl T.mg_Lhalvings T.kp_Lhalvings T.bd_Lhalvings (fun σ => passAt (takes_of rfl rfl rfl rfl) σ) (pa_cons (pv 3) pa_nil)) (nomark _)))))
  (pss_one (ps_ret pe_bl))
  pss_nil)
  (pss_cons (ps_set (i := 5) sc_law.nd rfl (by first | exact Or.inl rfl | exact Or.inr rfl) (pe_callB (call_min2 rfl) (by rfl) T.b_min (by decide +kernel) (pa_cons (pe_op op_pow pe_int pe_int) (pa_cons (pe_op op_addA (pv 3) (pe_callS (ok_Ldraw T) (hr.mono (by decide)) rfl T.mg_Ldraw T.kp_Ldraw T.bd_Ldraw (fun σ => passAt (takes_of rfl rfl rfl rfl) σ) (pa_cons (pv 1) (pa_cons (pe_op op_addA (pv 3) pe_int) pa_nil)))) pa_nil))))
  (pss_one (ps_if (pt_cmpR op_lt (pe_callS (ok_halvings T) (hr.mono (by decide)) rfl T.mg_halvings T.kp_halvings T.bd_halvings (fun σ => passAt (takes_of rfl rfl rfl rfl) σ) (pa_cons (pv 5) pa_nil)) (pv 4) (nomark _))
  (pss_one (ps_ret pe_bl))
  pss_nil)))))))
  (pss_cons (ps_if (pt_cmpR (op_neDK (K := K) rfl (hu64 hr)) (pe_lc (own := [("_law_number_here", 3)]) rfl sc_law.nd (pi_range2 rfl T.b_range (pa_cons pe_int (pa_cons pe_int pa_nil))) (blkOk_by (N := N_law) (sc := defScope s_law) (by decide +kernel))
   (fun _ _ _ _ _ => (pg_name (i := 3) sc_law.nd rfl (by first | exact Or.inl rfl | exact Or.inr rfl))) (fun _ _ _ _ _ => pts_nil) (fun _ _ _ _ _ => (pe_call (ok_halvings T) (hr.mono (by decide)) rfl T.mg_halvings T.kp_halvings T.bd_halvings .nil passL (pa_cons (pv 3) pa_nil)))) (pe_lst (pa_cons pe_int (pa_cons pe_int (pa_cons pe_int (pa_cons pe_int (pa_cons pe_int (pa_cons pe_int (pa_cons pe_int pa_nil)))))))) (nomark _))
  (pss_one (ps_ret pe_bl))
  pss_nil)
  (pss_cons (ps_set (i := 6) sc_law.nd rfl (by first | exact Or.inl rfl | exact Or.inr rfl) (pe_ix (ix_seqK (K := K) rfl) (pe_lst (pa_cons pe_int (pa_cons (pe_un un_neg pe_int) (pa_cons (pe_op op_addA (pe_op op_pow pe_int pe_int) pe_int) (pa_cons pe_bl (pa_cons pe_bl (pa_cons pe_non (pa_cons pe_str (pa_cons (pe_tup (pa_cons pe_int pa_nil)) (pa_cons (pe_lst (pa_cons pe_int pa_nil)) (pa_cons (pe_un un_neg (pe_op op_pow pe_int pe_int)) pa_nil))))))))))) (pe_callS (ok_Ldraw T) (hr.mono (by decide)) rfl T.mg_Ldraw T.kp_Ldraw T.bd_Ldraw (fun σ => passAt (takes_of rfl rfl rfl rfl) σ) (pa_cons (pv 1) (pa_cons pe_int pa_nil))) (fun _ _ => rfl)))
  (pss_one (ps_ret (pe_and (pe_cmpR op_eq (pe_callS (ok_Lasked T) (hr.mono (by decide)) rfl T.mg_Lasked T.kp_Lasked T.bd_Lasked (fun σ => passAt (takes_of rfl rfl rfl rfl) σ) (pa_cons (pv 6) pa_nil)) pe_str (nomark _)) (pe_one (pe_cmpR op_eq (pe_callS (ok_Lasked T) (hr.mono (by decide)) rfl T.mg_Lasked T.kp_Lasked T.bd_Lasked (fun σ => passAt (takes_of rfl rfl rfl rfl) σ) (pa_cons (pe_op op_pow pe_int pe_int) pa_nil)) (pe_callS (ok_Lhalvings T) (hr.mono (by decide)) rfl T.mg_Lhalvings T.kp_Lhalvings T.bd_Lhalvings (fun σ => passAt (takes_of rfl rfl rfl rfl) σ) (pa_cons (pe_op op_pow pe_int pe_int) pa_nil)) (nomark _)))))))))), ?_⟩
    walk_at "rd"
    refine ⟨a, ns, rfl, ha, fun h c H1 hp _ s1 hh => ?_⟩
    walk_at "rd"
    refine rd_rng (n := 8) (by decide) (Evl.ea_cons Evl.ev_c Evl.ea_nil)
      (fun i σ' H' => ∃ o2 o3 o4 o5, σ' = [some (.ref a), some (.ref h), o2, o3, o4, o5, none] ∧ HandAt H' h c)
      (fun H2 s2 => ⟨none, none, none, none, rfl, hh.same s2⟩) (fun i σ' H' hi p => ?_) (fun σ' H' p => ?_)
    · obtain ⟨o2, o3, o4, o5, rfl, hh2⟩ := p
      walk_at "rd"
      refine ⟨h, c, rfl, hh2, fun H3 n n1 n2 _ hh3 => ?_⟩
      walk_at "rd"
      refine ⟨_, rfl, .inl ⟨n, rfl, n1, n2, fun H4 s4 => ?_⟩⟩
      walk_at "rd"
      refine ⟨_, _, _, _, false, rfl, .ty "bool", .base (.int _), kit_ty (by decide +kernel), ?_⟩
      walk_at "rd"
      refine iteF ?_
      walk_at "rd"
      refine ⟨n, rfl, fun H5 s5 => ?_⟩
      walk_at "rd"
      refine rNe_v rfl ?_
      rw [decide_eq_true rfl]
      walk_at "rd"
      refine iteF ?_
      walk_at "rd"
      refine rI_i ⟨by decide, by decide, by decide⟩ ?_
      walk_at "rd"
      have e1 : ((n : Nat) : Int) + 1 = ((n + 1 : Nat) : Int) := rfl
      rw [e1, pow60]
      refine ⟨h, c, _, rfl, (hh3.same s4).same s5, by omega, ?_, fun H6 d l0 l1 _ hh6 => ?_⟩
      · have b : n + 1 < 2 ^ 201 := by
          have : (10 : Nat) ^ 60 + 1 < 2 ^ 201 := by decide +kernel
          omega
        have e : (((n + 1 : Nat) : Int)).natAbs = n + 1 := Int.natAbs_natCast _
        rw [e]
        have := (Nat.log2_lt (by omega) (k := 201)).mpr b
        omega
      obtain ⟨m, rfl, hm⟩ := nat_of (n := n + 1) l0 l1
      walk_at "rd"
      refine ⟨_, _, rfl, ?_⟩
      have e2 : (if ((n : Nat) : Int) + ((m : Nat) : Int) < ((10 ^ 60 : Nat) : Int) then ((n : Nat) : Int) + ((m : Nat) : Int) else ((10 ^ 60 : Nat) : Int)) = ((min (n + m) (10 ^ 60) : Nat) : Int) := by
        generalize (10 : Nat) ^ 60 = z
        split <;> omega
      rw [e2]
      have hlo : n ≤ min (n + m) (10 ^ 60) := by
        generalize (10 : Nat) ^ 60 = z at n2
        omega
      have hhi : min (n + m) (10 ^ 60) ≤ 10 ^ 60 := Nat.min_le_right _ _
      generalize min (n + m) (10 ^ 60) = q at hlo hhi
      walk_at "rd"
      refine ⟨_, rfl, .inl ⟨q, rfl, by omega, hhi, fun H7 s7 => ?_⟩⟩
      walk_at "rd"
      have := halv_mono hlo
      rw [decide_eq_false (by omega)]
      refine iteF ?_
      exact ⟨_, _, _, _, rfl, hh6.same s7⟩
    · obtain ⟨o2, o3, o4, o5, rfl, hh2⟩ := p
      walk_at "rd"
      refine rd_L (el_lcR2 (fun _ => true) (fun i => V.int (halv (i + 1) : Nat)) (Evl.ea_cons Evl.ev_c (Evl.ea_cons Evl.ev_c Evl.ea_nil)) (by decide) (fun _ => rfl) (fun _ _ _ _ => ev_yes) (fun i H3 _ hi _ H4 e4 Q' q => ?_)) fun p H3 hp3 s3 h3 => ?_
      · have hi7 : i < 7 := by omega
        walk_at "rd"
        have e1 : (1 : Int) + ((i : Nat) : Int) = ((i + 1 : Nat) : Int) := by omega
        rw [e1]
        refine ⟨_, rfl, .inl ⟨i + 1, rfl, by omega, Nat.le_trans (by omega : i + 1 ≤ 10 ^ 1) (pow_le10 (by decide)), fun H5 s5 => ?_⟩⟩
        exact q H5 s5
      rw [low_vals] at h3
      walk_at "rd"
      refine rd_lst ?_
      walk_at "rd"
      refine ⟨by show 7 ≤ sizeLine; decide, fun p4 hp4 => ?_⟩
      have hq : upd H3 p4 (.lst (vInts [0, 0, 0, 0, 0, 0, 1])) p = some (.lst (vInts [0, 0, 0, 0, 0, 0, 1])) := upd_keep hp4 h3
      refine neD_of (item_list item_int) (by decide) (ok_ints [0, 0, 0, 0, 0, 0, 1]) (ok_ints [0, 0, 0, 0, 0, 0, 1]) (dp_ints (SqL.of hq)) (dp_ints (SqL.of upd_same)) ?_
      rw [decide_eq_true rfl]
      walk_at "rd"
      refine iteF ?_
      have hh4 : HandAt (upd H3 p4 (.lst [V.int 0, V.int 0, V.int 0, V.int 0, V.int 0, V.int 0, V.int 1])) h c := (hh2.same s3).upd hp4
      generalize upd H3 p4 (.lst [V.int 0, V.int 0, V.int 0, V.int 0, V.int 0, V.int 0, V.int 1]) = H4 at hh4 ⊢
      walk_at "rd"
      refine rd_lst ?_
      walk_at "rd"
      refine rI_i ⟨by decide, by decide, by decide⟩ ?_
      walk_at "rd"
      refine rd_tup ?_
      walk_at "rd"
      refine ⟨by show 1 ≤ sizeLine; decide, fun pt hpt => ?_⟩
      walk_at "rd"
      refine rd_lst ?_
      walk_at "rd"
      refine ⟨by show 1 ≤ sizeLine; decide, fun pl hpl => ?_⟩
      walk_at "rd"
      refine rI_i ⟨by decide, by decide, by decide⟩ ?_
      walk_at "rd"
      refine ⟨by show 10 ≤ sizeLine; decide, fun px hpx => ?_⟩
      walk_at "rd"
      refine ⟨h, c, _, rfl, ((hh4.upd hpt).upd hpl).upd hpx, by decide, by decide +kernel, fun H5 d l0 l1 k5 hh5 => ?_⟩
      obtain ⟨j, rfl, hj⟩ := nat_of (n := 10) l0 l1
      have hout := hh4.out hpt
      have hout2 := (hh4.upd hpt).out hpl
      have hout3 := ((hh4.upd hpt).upd hpl).out hpx
      have gl := k5 _ _ (upd_keep hpx upd_same : _ = some (.lst [V.int 7])) hout2.1
      have gt := k5 _ _ (upd_keep hpx (upd_keep hpl upd_same) : _ = some (.tup [V.int 7])) hout.1
      have gx := k5 _ _ upd_same hout3.1
      have hbad : ∀ v ∈ [V.int 0, V.int (-1), V.int (10 ^ (60 : Int).toNat + 1), V.bl true, V.bl false, V.non, V.str "7", V.ref pt, V.ref pl, V.int (-(10 ^ (40 : Int).toNat))], BadNum K H5 v 1 top60 := by
        intro v hv
        simp only [List.mem_cons, List.not_mem_nil, or_false] at hv
        rcases hv with rfl | rfl | rfl | rfl | rfl | rfl | rfl | rfl | rfl | rfl
        · exact .inr ⟨_, rfl, .inl (by decide)⟩
        · exact .inr ⟨_, rfl, .inl (by decide)⟩
        · exact .inr ⟨_, rfl, .inr (by decide +kernel)⟩
        · exact .inl ni_bl
        · exact .inl ni_bl
        · exact .inl ni_non
        · exact .inl ni_str
        · exact .inl (ni_tup gt)
        · exact .inl (ni_lst gl)
        · exact .inr ⟨_, rfl, .inl (by decide +kernel)⟩
      have hjv : ∃ v, [V.int 0, V.int (-1), V.int (10 ^ (60 : Int).toNat + 1), V.bl true, V.bl false, V.non, V.str "7", V.ref pt, V.ref pl, V.int (-(10 ^ (40 : Int).toNat))][j]? = some v := ⟨_, List.getElem?_eq_getElem (by simpa using hj)⟩
      obtain ⟨v, hv⟩ := hjv
      have hb := hbad v (List.mem_of_getElem? hv)
      refine rIx_l (SqL.of gx) (atI_nat hv) ?_
      walk_at "rd"
      refine ⟨_, rfl, .inr ⟨hb, ?_⟩⟩
      walk_at "rd"
      refine rEq_v rfl ?_
      rw [decide_eq_true rfl]
      walk_at "rd"
      refine iteT ?_
      walk_at "rd"
      refine rI_i ⟨by decide, by decide, by decide⟩ ?_
      walk_at "rd"
      rw [pow60]
      refine ⟨_, rfl, .inl ⟨10 ^ 60, rfl, Nat.pow_pos (by decide), Nat.le_refl _, fun H6 s6 => ?_⟩⟩
      walk_at "rd"
      refine rI_i ⟨by decide, by decide, by decide⟩ ?_
      walk_at "rd"
      rw [pow60]
      refine ⟨10 ^ 60, rfl, fun H7 s7 => ?_⟩
      walk_at "rd"
      refine rEq_v rfl ?_
      rw [decide_eq_true rfl]
      exact k _
end
theorem law_takes {K : PySem.W.Frag} {H : Hp} (a : Addr) (ns : List Int) (hl : ns.length ≤ 63) (hS : SqL K H a (ns.map V.int)) : sp_law K [.ref a] H (fun v _ => v = .bl true) fun _ _ _ => False := ⟨a, ns, rfl, hS, fun _ => rfl⟩

theorem all_mk {P : Program} {w : World} {K : PySem.W.Frag} {h : Heap} {mg : Str → Option Value} {fa : Addr} (X : K.In h) (G : h.Ns mainGlobals mg) (hfa : mg "law" = some (.ref fa))
    {tk_FEW_SHADES : Tok}
    {tk_MOST_NAMES : Tok}
    {f_is_integer : Addr}
    {odis_integer anis_integer : Option Addr} {slis_integer : Array (Option Value)} {ocis_integer kVis_integer dcis_integer pmis_integer cdis_integer ctis_integer : Value}
    {f_need_number : Addr}
    {odneed_number anneed_number : Option Addr} {slneed_number : Array (Option Value)} {ocneed_number kVneed_number dcneed_number pmneed_number cdneed_number ctneed_number : Value}
    {f_halvings : Addr}
    {odhalvings anhalvings : Option Addr} {slhalvings : Array (Option Value)} {ochalvings kVhalvings dchalvings pmhalvings cdhalvings cthalvings : Value}
    {f_Lhand : Addr}
    {odLhand anLhand : Option Addr} {slLhand : Array (Option Value)} {ocLhand kVLhand dcLhand pmLhand cdLhand ctLhand : Value}
    {f_Ldraw : Addr}
    {odLdraw anLdraw : Option Addr} {slLdraw : Array (Option Value)} {ocLdraw kVLdraw dcLdraw pmLdraw cdLdraw ctLdraw : Value}
    {f_Lhalvings : Addr}
    {odLhalvings anLhalvings : Option Addr} {slLhalvings : Array (Option Value)} {ocLhalvings kVLhalvings dcLhalvings pmLhalvings cdLhalvings ctLhalvings : Value}
    {f_Lnumber : Addr}
    {odLnumber anLnumber : Option Addr} {slLnumber : Array (Option Value)} {ocLnumber kVLnumber dcLnumber pmLnumber cdLnumber ctLnumber : Value}
    {f_Lasked : Addr}
    {odLasked anLasked : Option Addr} {slLasked : Array (Option Value)} {ocLasked kVLasked dcLasked pmLasked cdLasked ctLasked : Value}
    {f_law : Addr}
    {odlaw anlaw : Option Addr} {sllaw : Array (Option Value)} {oclaw kVlaw dclaw pmlaw cdlaw ctlaw : Value}
    {X_NoNumber : Addr}
    {X_NearError : Addr}
    (zb_abs : PySem.W.nsIn K mainGlobals "abs" = some none)
    (zb_bool : PySem.W.nsIn K mainGlobals "bool" = some none)
    (zb_int : PySem.W.nsIn K mainGlobals "int" = some none)
    (zb_isinstance : PySem.W.nsIn K mainGlobals "isinstance" = some none)
    (zb_len : PySem.W.nsIn K mainGlobals "len" = some none)
    (zb_max : PySem.W.nsIn K mainGlobals "max" = some none)
    (zb_min : PySem.W.nsIn K mainGlobals "min" = some none)
    (zb_range : PySem.W.nsIn K mainGlobals "range" = some none)
    (g_FEW_SHADES : PySem.W.nsIn K mainGlobals "FEW_SHADES" = some (some (.int 6 tk_FEW_SHADES)))
    (g_MOST_NAMES : PySem.W.nsIn K mainGlobals "MOST_NAMES" = some (some (.int 1000000000000000000000000000000000000000000000000000000000000 tk_MOST_NAMES)))
    (a_is_integer : PySem.W.nsIn K mainGlobals "is_integer" = some (some (.ref f_is_integer)))
    (l_is_integer : K.lookup f_is_integer = some ⟨ocis_integer, odis_integer, .func (PySem.W.fnOf "is_integer" "is_integer" (defArgs s_is_integer) (defBody s_is_integer) (defScope s_is_integer) .none kVis_integer dcis_integer pmis_integer anis_integer cdis_integer ctis_integer), slis_integer⟩)
    (c_is_integer : PySem.W.codeIn K cdis_integer "is_integer" = true)
    (k_is_integer : PySem.W.keepIn K (.ref f_is_integer) = true)
    (a_need_number : PySem.W.nsIn K mainGlobals "need_number" = some (some (.ref f_need_number)))
    (l_need_number : K.lookup f_need_number = some ⟨ocneed_number, odneed_number, .func (PySem.W.fnOf "need_number" "need_number" (defArgs s_need_number) (defBody s_need_number) (defScope s_need_number) .none kVneed_number dcneed_number pmneed_number anneed_number cdneed_number ctneed_number), slneed_number⟩)
    (c_need_number : PySem.W.codeIn K cdneed_number "need_number" = true)
    (k_need_number : PySem.W.keepIn K (.ref f_need_number) = true)
    (a_halvings : PySem.W.nsIn K mainGlobals "halvings" = some (some (.ref f_halvings)))
    (l_halvings : K.lookup f_halvings = some ⟨ochalvings, odhalvings, .func (PySem.W.fnOf "halvings" "halvings" (defArgs s_halvings) (defBody s_halvings) (defScope s_halvings) .none kVhalvings dchalvings pmhalvings anhalvings cdhalvings cthalvings), slhalvings⟩)
    (c_halvings : PySem.W.codeIn K cdhalvings "halvings" = true)
    (k_halvings : PySem.W.keepIn K (.ref f_halvings) = true)
    (a_Lhand : PySem.W.nsIn K mainGlobals "_law_hand" = some (some (.ref f_Lhand)))
    (l_Lhand : K.lookup f_Lhand = some ⟨ocLhand, odLhand, .func (PySem.W.fnOf "_law_hand" "_law_hand" (defArgs s_Lhand) (defBody s_Lhand) (defScope s_Lhand) .none kVLhand dcLhand pmLhand anLhand cdLhand ctLhand), slLhand⟩)
    (c_Lhand : PySem.W.codeIn K cdLhand "_law_hand" = true)
    (k_Lhand : PySem.W.keepIn K (.ref f_Lhand) = true)
    (a_Ldraw : PySem.W.nsIn K mainGlobals "_law_draw" = some (some (.ref f_Ldraw)))
    (l_Ldraw : K.lookup f_Ldraw = some ⟨ocLdraw, odLdraw, .func (PySem.W.fnOf "_law_draw" "_law_draw" (defArgs s_Ldraw) (defBody s_Ldraw) (defScope s_Ldraw) .none kVLdraw dcLdraw pmLdraw anLdraw cdLdraw ctLdraw), slLdraw⟩)
    (c_Ldraw : PySem.W.codeIn K cdLdraw "_law_draw" = true)
    (k_Ldraw : PySem.W.keepIn K (.ref f_Ldraw) = true)
    (a_Lhalvings : PySem.W.nsIn K mainGlobals "_law_halvings" = some (some (.ref f_Lhalvings)))
    (l_Lhalvings : K.lookup f_Lhalvings = some ⟨ocLhalvings, odLhalvings, .func (PySem.W.fnOf "_law_halvings" "_law_halvings" (defArgs s_Lhalvings) (defBody s_Lhalvings) (defScope s_Lhalvings) .none kVLhalvings dcLhalvings pmLhalvings anLhalvings cdLhalvings ctLhalvings), slLhalvings⟩)
    (c_Lhalvings : PySem.W.codeIn K cdLhalvings "_law_halvings" = true)
    (k_Lhalvings : PySem.W.keepIn K (.ref f_Lhalvings) = true)
    (a_Lnumber : PySem.W.nsIn K mainGlobals "_law_number" = some (some (.ref f_Lnumber)))
    (l_Lnumber : K.lookup f_Lnumber = some ⟨ocLnumber, odLnumber, .func (PySem.W.fnOf "_law_number" "_law_number" (defArgs s_Lnumber) (defBody s_Lnumber) (defScope s_Lnumber) .none kVLnumber dcLnumber pmLnumber anLnumber cdLnumber ctLnumber), slLnumber⟩)
    (c_Lnumber : PySem.W.codeIn K cdLnumber "_law_number" = true)
    (k_Lnumber : PySem.W.keepIn K (.ref f_Lnumber) = true)
    (a_Lasked : PySem.W.nsIn K mainGlobals "_law_asked" = some (some (.ref f_Lasked)))
    (l_Lasked : K.lookup f_Lasked = some ⟨ocLasked, odLasked, .func (PySem.W.fnOf "_law_asked" "_law_asked" (defArgs s_Lasked) (defBody s_Lasked) (defScope s_Lasked) .none kVLasked dcLasked pmLasked anLasked cdLasked ctLasked), slLasked⟩)
    (c_Lasked : PySem.W.codeIn K cdLasked "_law_asked" = true)
    (k_Lasked : PySem.W.keepIn K (.ref f_Lasked) = true)
    (a_law : PySem.W.nsIn K mainGlobals "law" = some (some (.ref f_law)))
    (l_law : K.lookup f_law = some ⟨oclaw, odlaw, .func (PySem.W.fnOf "law" "law" (defArgs s_law) (defBody s_law) (defScope s_law) .none kVlaw dclaw pmlaw anlaw cdlaw ctlaw), sllaw⟩)
    (c_law : PySem.W.codeIn K cdlaw "law" = true)
    (k_law : PySem.W.keepIn K (.ref f_law) = true)
    (g_NoNumber : PySem.W.nsIn K mainGlobals "NoNumber" = some (some (.ref X_NoNumber)))
    (kk_NoNumber : PySem.W.keepIn K (.ref X_NoNumber) = true)
    (y_xc_NoNumber : PySem.W.excIn K X_NoNumber [.type "ValueError", .type "Exception", .type "BaseException", .type "object"] "ValueError.__new__" = true)
    (y_sb_NoNumber : PySem.W.subIn K (.ref X_NoNumber) (.type "BaseException") = some true)
    (y_ty_NoNumber : PySem.W.typeIn K (.ref X_NoNumber) = some (.type "type"))
    (g_NearError : PySem.W.nsIn K mainGlobals "NearError" = some (some (.ref X_NearError)))
    (eg_NoNumber : PySem.W.findIn K (.ref X_NoNumber) "__getattribute__" = some (some (.builtin "BaseException.__getattribute__")))
    (et_NoNumber : PySem.W.findIn K (.ref X_NoNumber) "__getattr__" = some none)
    (ed_NoNumber : PySem.W.hasDictIn K X_NoNumber = true)
    (ea_NoNumber : PySem.W.findIn K (.ref X_NoNumber) "__class__" = some (some (.builtin "object.__class__")))
    (en : PySem.W.specialIn K (.builtin "object.__class__") "__get__" = some (some (.builtin "getset_descriptor.__get__")))
    (ek : PySem.W.takesIn K (.builtin "object.__class__") = some true)
    (em_NoNumber : PySem.W.mroIn K X_NoNumber (.type "object") = some true)
    (ic_NearError : PySem.W.isClsIn K X_NearError = true)
    (y_ty_NearError : PySem.W.typeIn K (.ref X_NearError) = some (.type "type"))
    (su_NoNumber_NearError : PySem.W.subIn K (.ref X_NoNumber) (.ref X_NearError) = some true)
    (ic_NoNumber : PySem.W.isClsIn K X_NoNumber = true)
    (su_NoNumber_NoNumber : PySem.W.subIn K (.ref X_NoNumber) (.ref X_NoNumber) = some true)
    : ∃ fd : FuncData, (∀ (s : Shared) (v : Value), BindsTo s fd ⟨[v], []⟩ [("_law_script", v)]) ∧ ∀ base : Heap, K.In base → base.Ns mainGlobals mg → FnOk P w K mg base (L2.CX P w) 5 fa fd ["_law_script"] (sp_law K) := by
  have e := hfa.symm.trans (PySem.W.mg_of X G a_law)
  cases e
  exact ⟨PySem.W.fnOf "law" "law" (defArgs s_law) (defBody s_law) (defScope s_law) .none kVlaw dclaw pmlaw anlaw cdlaw ctlaw, fun s v => .of_eq rfl, fun base _ _ => ok_law (T := ({
    b_abs := PySem.W.mg_none_of X G zb_abs,
    b_bool := PySem.W.mg_none_of X G zb_bool,
    b_int := PySem.W.mg_none_of X G zb_int,
    b_isinstance := PySem.W.mg_none_of X G zb_isinstance,
    b_len := PySem.W.mg_none_of X G zb_len,
    b_max := PySem.W.mg_none_of X G zb_max,
    b_min := PySem.W.mg_none_of X G zb_min,
    b_range := PySem.W.mg_none_of X G zb_range,
    tk_FEW_SHADES := tk_FEW_SHADES,
    mg_FEW_SHADES := PySem.W.mg_of X G g_FEW_SHADES,
    tk_MOST_NAMES := tk_MOST_NAMES,
    mg_MOST_NAMES := PySem.W.mg_of X G g_MOST_NAMES,
    f_is_integer := f_is_integer,
    fd_is_integer := PySem.W.fnOf "is_integer" "is_integer" (defArgs s_is_integer) (defBody s_is_integer) (defScope s_is_integer) .none kVis_integer dcis_integer pmis_integer anis_integer cdis_integer ctis_integer,
    F_is_integer := fun_mk (st := s_is_integer) l_is_integer c_is_integer k_is_integer,
    bd_is_integer := (fun_mk (st := s_is_integer) l_is_integer c_is_integer k_is_integer).binds (ps := ["value"]) fun _ _ _ _ _ _ us hl => match us, hl with | [_], _ => rfl,
    mg_is_integer := PySem.W.mg_of X G a_is_integer,
    kp_is_integer := k_is_integer,
    f_need_number := f_need_number,
    fd_need_number := PySem.W.fnOf "need_number" "need_number" (defArgs s_need_number) (defBody s_need_number) (defScope s_need_number) .none kVneed_number dcneed_number pmneed_number anneed_number cdneed_number ctneed_number,
    F_need_number := fun_mk (st := s_need_number) l_need_number c_need_number k_need_number,
    bd_need_number := (fun_mk (st := s_need_number) l_need_number c_need_number k_need_number).binds (ps := ["value", "least", "most"]) fun _ _ _ _ _ _ us hl => match us, hl with | [_, _, _], _ => rfl,
    mg_need_number := PySem.W.mg_of X G a_need_number,
    kp_need_number := k_need_number,
    f_halvings := f_halvings,
    fd_halvings := PySem.W.fnOf "halvings" "halvings" (defArgs s_halvings) (defBody s_halvings) (defScope s_halvings) .none kVhalvings dchalvings pmhalvings anhalvings cdhalvings cthalvings,
    F_halvings := fun_mk (st := s_halvings) l_halvings c_halvings k_halvings,
    bd_halvings := (fun_mk (st := s_halvings) l_halvings c_halvings k_halvings).binds (ps := ["number"]) fun _ _ _ _ _ _ us hl => match us, hl with | [_], _ => rfl,
    mg_halvings := PySem.W.mg_of X G a_halvings,
    kp_halvings := k_halvings,
    f_Lhand := f_Lhand,
    fd_Lhand := PySem.W.fnOf "_law_hand" "_law_hand" (defArgs s_Lhand) (defBody s_Lhand) (defScope s_Lhand) .none kVLhand dcLhand pmLhand anLhand cdLhand ctLhand,
    F_Lhand := fun_mk (st := s_Lhand) l_Lhand c_Lhand k_Lhand,
    bd_Lhand := (fun_mk (st := s_Lhand) l_Lhand c_Lhand k_Lhand).binds (ps := ["_law_script"]) fun _ _ _ _ _ _ us hl => match us, hl with | [_], _ => rfl,
    mg_Lhand := PySem.W.mg_of X G a_Lhand,
    kp_Lhand := k_Lhand,
    f_Ldraw := f_Ldraw,
    fd_Ldraw := PySem.W.fnOf "_law_draw" "_law_draw" (defArgs s_Ldraw) (defBody s_Ldraw) (defScope s_Ldraw) .none kVLdraw dcLdraw pmLdraw anLdraw cdLdraw ctLdraw,
    F_Ldraw := fun_mk (st := s_Ldraw) l_Ldraw c_Ldraw k_Ldraw,
    bd_Ldraw := (fun_mk (st := s_Ldraw) l_Ldraw c_Ldraw k_Ldraw).binds (ps := ["_law_hand_here", "_law_many"]) fun _ _ _ _ _ _ us hl => match us, hl with | [_, _], _ => rfl,
    mg_Ldraw := PySem.W.mg_of X G a_Ldraw,
    kp_Ldraw := k_Ldraw,
    f_Lhalvings := f_Lhalvings,
    fd_Lhalvings := PySem.W.fnOf "_law_halvings" "_law_halvings" (defArgs s_Lhalvings) (defBody s_Lhalvings) (defScope s_Lhalvings) .none kVLhalvings dcLhalvings pmLhalvings anLhalvings cdLhalvings ctLhalvings,
    F_Lhalvings := fun_mk (st := s_Lhalvings) l_Lhalvings c_Lhalvings k_Lhalvings,
    bd_Lhalvings := (fun_mk (st := s_Lhalvings) l_Lhalvings c_Lhalvings k_Lhalvings).binds (ps := ["_law_number_here"]) fun _ _ _ _ _ _ us hl => match us, hl with | [_], _ => rfl,
    mg_Lhalvings := PySem.W.mg_of X G a_Lhalvings,
    kp_Lhalvings := k_Lhalvings,
    f_Lnumber := f_Lnumber,
    fd_Lnumber := PySem.W.fnOf "_law_number" "_law_number" (defArgs s_Lnumber) (defBody s_Lnumber) (defScope s_Lnumber) .none kVLnumber dcLnumber pmLnumber anLnumber cdLnumber ctLnumber,
    F_Lnumber := fun_mk (st := s_Lnumber) l_Lnumber c_Lnumber k_Lnumber,
    bd_Lnumber := (fun_mk (st := s_Lnumber) l_Lnumber c_Lnumber k_Lnumber).binds (ps := ["_law_hand_here"]) fun _ _ _ _ _ _ us hl => match us, hl with | [_], _ => rfl,
    mg_Lnumber := PySem.W.mg_of X G a_Lnumber,
    kp_Lnumber := k_Lnumber,
    f_Lasked := f_Lasked,
    fd_Lasked := PySem.W.fnOf "_law_asked" "_law_asked" (defArgs s_Lasked) (defBody s_Lasked) (defScope s_Lasked) .none kVLasked dcLasked pmLasked anLasked cdLasked ctLasked,
    F_Lasked := fun_mk (st := s_Lasked) l_Lasked c_Lasked k_Lasked,
    bd_Lasked := (fun_mk (st := s_Lasked) l_Lasked c_Lasked k_Lasked).binds (ps := ["_law_thing"]) fun _ _ _ _ _ _ us hl => match us, hl with | [_], _ => rfl,
    mg_Lasked := PySem.W.mg_of X G a_Lasked,
    kp_Lasked := k_Lasked,
    f_law := fa,
    fd_law := PySem.W.fnOf "law" "law" (defArgs s_law) (defBody s_law) (defScope s_law) .none kVlaw dclaw pmlaw anlaw cdlaw ctlaw,
    F_law := fun_mk (st := s_law) l_law c_law k_law,
    X_NoNumber := X_NoNumber,
    mg_NoNumber := PySem.W.mg_of X G g_NoNumber,
    kp_NoNumber := kk_NoNumber,
    xc_NoNumber := y_xc_NoNumber,
    sb_NoNumber := y_sb_NoNumber,
    ty_NoNumber := y_ty_NoNumber,
    X_NearError := X_NearError,
    mg_NearError := PySem.W.mg_of X G g_NearError,
    ec_NoNumber := ⟨eg_NoNumber, et_NoNumber, y_sb_NoNumber, ed_NoNumber, ea_NoNumber, en, ek, em_NoNumber⟩,
    ki_NoNumber_NearError := NW.kit_own ic_NearError y_ty_NearError su_NoNumber_NearError (fun _ => rfl),
    xm_NoNumber_NoNumber := NW.exm_of y_sb_NoNumber ic_NoNumber y_ty_NoNumber su_NoNumber_NoNumber
    } : Txt K mg))⟩
theorem walk {l : PySem.W.OpenLaw} {q : Program} {loose : List Str} {XP : (Str → Option Value) → Heap → Prop} {YP : World → Heap → Prop} {d : DefRec} {K : Params → PySem.W.Frag} (hn : l.most = some 63) (hdf : d.params.defaults = [])
    (hY : ∀ (w : World) (h : Heap), YP w h → (K w.params).In h)
    (F : ∀ (w : World) (mg : Str → Option Value) (fa : Addr) (h : Heap), (K w.params).In h → h.Ns mainGlobals mg → mg d.name = some (.ref fa) →
      ∃ fd : FuncData, (∀ (s : Shared) (u : Value), BindsTo s fd ⟨[u], []⟩ [("_law_script", u)]) ∧ ∀ base : Heap, (K w.params).In base → base.Ns mainGlobals mg → FnOk l.prog w (K w.params) mg base (L2.CX l.prog w) 5 fa fd ["_law_script"] (sp_law (K w.params))) :
    PySem.W.WalkO q loose XP YP l.row.toRowW d [] (fun f vs => PySem.call f vs) :=
  L2.walk_of (n := 63) (k := 5) (x := "_law_script") (CX := fun w => L2.CX l.prog w) (sp := fun w => sp_law (K w.params)) hn (by decide) hdf ⟨rfl, by decide, by decide⟩ hY F (fun _ _ a ns hl _ hS => law_takes a ns hl hS) fun w H s e s' z => by
    obtain ⟨_, _, _, _, _, _, _, _, _, _, _, _, hE⟩ := z
    exact hE
end K52
open PySem PySem.W PyProof.Rows
set_option maxRecDepth 100000 in
set_option maxHeartbeats 0 in
theorem PySem.Challenge.cw_nearwish_k52_halvings_holds : PySem.Challenge.rw_nearwish_k52_halvings.Holds := by
  w_on; o_law; k_head; (case hw => w_witness2)
  k_fill
  refine K52.walk (l := PySem.Challenge.rw_nearwish_k52_halvings) rfl rfl (fun w h Y => PySem.W.kIn_of Y) ?F
  case F =>
    intro w mg fa h KX G hmg
    refine' K52.all_mk KX G hmg ?zb_abs ?zb_bool ?zb_int ?zb_isinstance ?zb_len ?zb_max ?zb_min ?zb_range ?g_FEW_SHADES ?g_MOST_NAMES ?a_is_integer ?l_is_integer ?c_is_integer ?k_is_integer ?a_need_number ?l_need_number ?c_need_number ?k_need_number ?a_halvings ?l_halvings ?c_halvings ?k_halvings ?a_Lhand ?l_Lhand ?c_Lhand ?k_Lhand ?a_Ldraw ?l_Ldraw ?c_Ldraw ?k_Ldraw ?a_Lhalvings ?l_Lhalvings ?c_Lhalvings ?k_Lhalvings ?a_Lnumber ?l_Lnumber ?c_Lnumber ?k_Lnumber ?a_Lasked ?l_Lasked ?c_Lasked ?k_Lasked ?a_law ?l_law ?c_law ?k_law ?g_NoNumber ?kk_NoNumber ?y_xc_NoNumber ?y_sb_NoNumber ?y_ty_NoNumber ?g_NearError ?eg_NoNumber ?et_NoNumber ?ed_NoNumber ?ea_NoNumber ?en ?ek ?em_NoNumber ?ic_NearError ?y_ty_NearError ?su_NoNumber_NearError ?ic_NoNumber ?su_NoNumber_NoNumber
    (case g_FEW_SHADES => k_is)
    (case g_MOST_NAMES => k_is)
    (case g_NoNumber => k_is)
    (case g_NearError => k_is)
    (case a_is_integer => k_is)
    (case a_need_number => k_is)
    (case a_halvings => k_is)
    (case a_Lhand => k_is)
    (case a_Ldraw => k_is)
    (case a_Lhalvings => k_is)
    (case a_Lnumber => k_is)
    (case a_Lasked => k_is)
    (case a_law => k_is)
    (case zb_abs => k_is)
    (case zb_bool => k_is)
    (case zb_int => k_is)
    (case zb_isinstance => k_is)
    (case zb_len => k_is)
    (case zb_max => k_is)
    (case zb_min => k_is)
    (case zb_range => k_is)
    (case l_is_integer => k_is)
    (case c_is_integer => k_is)
    (case k_is_integer => k_is)
    (case l_need_number => k_is)
    (case c_need_number => k_is)
    (case k_need_number => k_is)
    (case l_halvings => k_is)
    (case c_halvings => k_is)
    (case k_halvings => k_is)
    (case l_Lhand => k_is)
    (case c_Lhand => k_is)
    (case k_Lhand => k_is)
    (case l_Ldraw => k_is)
    (case c_Ldraw => k_is)
    (case k_Ldraw => k_is)
    (case l_Lhalvings => k_is)
    (case c_Lhalvings => k_is)
    (case k_Lhalvings => k_is)
    (case l_Lnumber => k_is)
    (case c_Lnumber => k_is)
    (case k_Lnumber => k_is)
    (case l_Lasked => k_is)
    (case c_Lasked => k_is)
    (case k_Lasked => k_is)
    (case l_law => k_is)
    (case c_law => k_is)
    (case k_law => k_is)
    (case kk_NoNumber => k_is)
    (case y_xc_NoNumber => k_exc)
    (case y_sb_NoNumber => k_is)
    (case y_ty_NoNumber => k_is)
    (case eg_NoNumber => k_is)
    (case et_NoNumber => k_is)
    (case ed_NoNumber => k_is)
    (case ea_NoNumber => k_is)
    (case en => k_is)
    (case ek => k_is)
    (case em_NoNumber => k_is)
    (case ic_NearError => k_is)
    (case y_ty_NearError => k_is)
    (case su_NoNumber_NearError => first | rfl | k_is)
    (case ic_NoNumber => k_is)
    (case su_NoNumber_NoNumber => first | rfl | k_is)
