import PyProof.Rows.All
import Wide.All
import OpenK.AllK
import Wide.FinOn
import HandS.ForMost
import HandS.ForExc
import HandS.Walk
import HandS.Evl
import HandS.TryMany
import HandS.SetKeys
import HandS.DictComp
import HandS.IsInst
import HandS.Wide
import KE.GoesNew
import KE.GoesZip
import KE.GoesMore
import HandS.Strs
import KE.KStrWords
import HandS.TupLe
import HandS.RevRange
import HandS.Conv
import HandS.Deep
import PyProof.ListStr
import PyProof.TupleOfStr
import HandS.ListItems
import HandS.WideBits
import HandS.ExcIs
import HandS.Replace
import HandS.Style
import PyProof.Rows.StrRev
import KE.DataCmp
import KE.SortData
import HandS.Defaults
import HandS.Star
import KE.KIntText
import HandS.OwnEq
import HandS.ExcInit
import KE.KExcIs
import HandS.ExcSuper
import HandS.Nested
import KE.KSuper
import KE.KExcPX
import KE.KExcMake
import PyProof.EqKinds
import PySem.Challenge.RW_nearwish_k00_which_values_make_a_wish
set_option Elab.async false
set_option linter.all false
set_option maxRecDepth 100000
set_option maxHeartbeats 4000000
/-! Own rules over the hand layer: zip of two texts; own errors without arguments. -/
namespace NW
open PySem PySem.Spec PyProof.Rows L2

/-! ### zip(x, y) of two texts -/
def ItzS (x y : Str) : It :=
  ⟨fun i _ => i < min x.cps.size y.cps.size,
   fun i H v H' => ∃ T c d, v = .ref T ∧ H T = none ∧ H' = upd H T (.tup [.str ⟨#[c]⟩, .str ⟨#[d]⟩]) ∧ x.cps[i]? = some c ∧ y.cps[i]? = some d,
   fun i _ => i = min x.cps.size y.cps.size⟩
def tnZ (z TI TO i1 i2 : Addr) (x y : Str) (t u : Tok) (i : Nat) (h : Heap) : Prop :=
  IsZip h z TI TO .none ∧ IsTupOf2 h TI (.ref i1) (.ref i2) ∧ (∃ a1 a2, IsTupOf2 h TO a1 a2) ∧ h.IsStrIter i1 (strIterType x) x t i ∧ h.IsStrIter i2 (strIterType y) y u i
theorem turn_zipS {P : Program} {w : World} {K : PySem.W.Frag} {elts : List Expr} {kk : Nat} {tpos : Pos} {z TI TO i1 i2 : Addr} {x y : Str} {t u : Tok} (S : ZipSep2 z TI TO i1 i2 [i1] [i2]) :
    Turn P w K (.Tuple elts kk tpos) (ItzS x y) (z :: TI :: TO :: ([i1] ++ [i2])) z (tnZ z TI TO i1 i2 x y t u) where
  mem := by simp
  obj := fun i h st c hc => by
    obtain ⟨hz, hTI, ⟨a1, a2, hTO⟩, ⟨o1, e1, _, d1⟩, ⟨o2, e2, _, d2⟩⟩ := st
    have e' : c = z ∨ c = TI ∨ c = TO ∨ c = i1 ∨ c = i2 := by simpa using hc
    rcases e' with q | q | q | q | q
    · rw [q]; exact ⟨_, hz, fun v q => nomatch q⟩
    · rw [q]; exact ⟨_, hTI, fun v q => nomatch q⟩
    · rw [q]; exact ⟨_, hTO, fun v q => nomatch q⟩
    · rw [q]; exact ⟨o1, e1, fun v q => by rw [d1] at q; cases q⟩
    · rw [q]; exact ⟨o2, e2, fun v q => by rw [d2] at q; cases q⟩
  keep := fun i h h' st k => by
    obtain ⟨hz, hTI, ⟨x, y, hTO⟩, ⟨o1, e1, r1⟩, ⟨o2, e2, r2⟩⟩ := st
    exact ⟨k z (by simp) _ hz, k TI (by simp) _ hTI, ⟨x, y, k TO (by simp) _ hTO⟩, ⟨o1, k i1 (by simp) _ e1, r1⟩, ⟨o2, k i2 (by simp) _ e2, r2⟩⟩
  item := by
    intro X hP hw hK hc i pins s σ H E I hf st hg
    subst hP hw hK
    have Gz : GoesN X.prog X.w X.A (.Tuple elts kk tpos) z (z :: TI :: TO :: ([i1] ++ [i2])) [z, TO, i1, i2] (min x.cps.size y.cps.size) _ _ :=
      GoesN.zip2 S (Draws.text (by exact I.ok.hd hc) i1 x t) (Draws.text (by exact I.ok.hd hc) i2 y u)
    refine wpAny_mono (Gz.goes i s (fun v s2 => ∃ x' H', Inv X pins σ H' s2 ∧ RelV x' v ∧ (ItzS x y).yld i H x' H' ∧ tnZ z TI TO i1 i2 x y t u (i + 1) s2.heap ∧ ∀ b ∈ (z :: TI :: TO :: ([i1] ++ [i2])), H' b = none) E hg st (fun v h' tk hY hst hk htk => ?_)) (fun r s1 q => q) fun _ _ e => e
    obtain ⟨T, vx, vy, rfl, hsz, ⟨c, t1, hcx, rfl⟩, ⟨d, t2, hdy, rfl⟩, hT⟩ := hY
    have hTnone : H T = none := I.hok.fresh hsz
    have hsub : ∀ b ∈ ([z, TO, i1, i2] : List Addr), b ∈ (z :: TI :: TO :: ([i1] ++ [i2])) := Gz.sub
    have new : ObjOk X.prog X.w (upd H T (.tup [.str ⟨#[c]⟩, .str ⟨#[d]⟩])) h' T (.tup [.str ⟨#[c]⟩, .str ⟨#[d]⟩]) :=
      ⟨by show 2 ≤ sizeLine; decide, [.str ⟨#[c]⟩ t1, .str ⟨#[d]⟩ t2], .cons ⟨t1, rfl⟩ (.cons ⟨t2, rfl⟩ .nil), hT⟩
    have I1 : Inv X pins σ (upd H T (.tup [.str ⟨#[c]⟩, .str ⟨#[d]⟩])) { s with heap := h', toks := tk } :=
      I.turnedNew (t' := tk) (ch := (z :: TI :: TO :: ([i1] ++ [i2]))) (fun b o hb q => hk b o (fun q' => hb (hsub b q')) q) hf hsz new
    refine ⟨.ref T, _, I1, rfl, ⟨T, c, d, rfl, hTnone, rfl, hcx, hdy⟩, hst, fun b hb => ?_⟩
    have hlt : b < s.heap.objs.size := by
      obtain ⟨hz, hTI, ⟨a1, a2, hTO⟩, ⟨o1, e1, _⟩, ⟨o2, e2, _⟩⟩ := st
      have e' : b = z ∨ b = TI ∨ b = TO ∨ b = i1 ∨ b = i2 := by simpa using hb
      rcases e' with q | q | q | q | q
      · rw [q]; exact Heap.lt_size hz
      · rw [q]; exact Heap.lt_size hTI
      · rw [q]; exact Heap.lt_size hTO
      · rw [q]; exact Heap.lt_size e1
      · rw [q]; exact Heap.lt_size e2
    rw [upd_ne (Nat.ne_of_lt (Nat.lt_of_lt_of_le hlt hsz))]
    exact (hf b hb).1
  done := by
    intro X hP hw hK hc i pins s σ H E I hf st hg
    subst hP hw hK
    have Gz : GoesN X.prog X.w X.A (.Tuple elts kk tpos) z (z :: TI :: TO :: ([i1] ++ [i2])) [z, TO, i1, i2] (min x.cps.size y.cps.size) _ _ :=
      GoesN.zip2 S (Draws.text (by exact I.ok.hd hc) i1 x t) (Draws.text (by exact I.ok.hd hc) i2 y u)
    have hg' : i = min x.cps.size y.cps.size := hg
    subst hg'
    refine Gz.stops s (fun s1 => Inv X pins σ H s1) E st fun h' tk hk _ => ?_
    exact I.turnedL (t' := tk) (ch := (z :: TI :: TO :: ([i1] ++ [i2]))) (fun b o hb q => hk b o (fun q' => hb (Gz.sub b q')) q) hf
  self := fun A i s Q E st h => wpAny_pyIter_zip st.1 h
def iZipS (ta : TA) : TI := fun σ H R => ta σ H fun vs H1 => ∃ x y, vs = [.str x, .str y] ∧ R (ItzS x y) H1
theorem pi_zipS {X : Cx} {e e2 : Expr} {ta : TA} {p pos tpos : Pos} {elts : List Expr} {kk : Nat} (hg : Gl X "zip") (hm : X.mg "zip" = none) (ha : PA X [e, e2] ta)
    (hs : starEach [e, e2] X.env = (false, eval e X.env) :: starEach [e2] X.env := by rfl) (hpl : (backTo pos (starEach [e2] X.env)).any (·.1) = false := by rfl) :
    PI X (.Tuple elts kk tpos) (.Call (.Name "zip" p) [e, e2] [] pos) (iZipS ta) := by
  refine ⟨fun pins s σ H R I h => ?_⟩
  refine Call_ (ld_blt I hg hm PyProof.Rows.boot_zip (PyProof.Rows.callWith_type1 (thn (ha.run pos pins s σ H _ I h) fun us s1 ⟨vs, H1, I1, r1, q1⟩ => ?_) hs hpl))
  obtain ⟨x, y, ex, q⟩ := q1
  subst ex
  cases r1 with
  | cons r rr =>
    cases rr with
    | cons r' rr =>
      cases rr
      obtain ⟨t, rfl⟩ := r
      obtain ⟨u, rfl⟩ := r'
      refine zip_begins2 (begins_text x t) (begins_text y u) trivial trivial fun h' hz hTI hTO h1 h2 hsz hk => wpAny_pyIter_zip hz ?_
      have I2 : Inv X pins σ H1 { s1 with heap := h' } := I1.kept (t' := s1.toks) hk
      have n1 : s1.heap.objs.size + 4 ≠ s1.heap.objs.size := by omega
      have S : ZipSep2 (s1.heap.objs.size + 4) (s1.heap.objs.size + 2) (s1.heap.objs.size + 3) s1.heap.objs.size (s1.heap.objs.size + 1) [s1.heap.objs.size] [s1.heap.objs.size + 1] := by
        constructor <;> (try simp) <;> (try (intro e; have e2 : (s1.heap.objs.size : Nat) = _ := e; omega))
      refine ⟨s1.heap.objs.size + 4, _, tnZ _ _ _ _ _ x y t u, _, H1, rfl, I2, turn_zipS S, ⟨hz, hTI, ⟨_, _, hTO⟩, ⟨_, h1, rfl, rfl⟩, ⟨_, h2, rfl, rfl⟩⟩, fun c hcm => ?_, q⟩
      have e' : c = s1.heap.objs.size + 4 ∨ c = s1.heap.objs.size + 2 ∨ c = s1.heap.objs.size + 3 ∨ c = s1.heap.objs.size ∨ c = s1.heap.objs.size + 1 := by simpa using hcm
      have hle : s1.heap.objs.size ≤ c := by
        rcases e' with z | z | z | z | z
        · rw [z]; exact Nat.le_add_right _ _
        · rw [z]; exact Nat.le_add_right _ _
        · rw [z]; exact Nat.le_add_right _ _
        · rw [z]; exact Nat.le_refl _
        · rw [z]; exact Nat.le_add_right _ _
      exact I1.fpOk hle (I1.hok.fresh hle)
theorem walk_zipS {x y : Str} : Walk (ItzS x y) (min x.cps.size y.cps.size) (fun _ => True)
    (fun i H v H' => ∃ T c d, v = .ref T ∧ H T = none ∧ H' = upd H T (.tup [.str ⟨#[c]⟩, .str ⟨#[d]⟩]) ∧ x.cps[i]? = some c ∧ y.cps[i]? = some d) :=
  ⟨fun _ _ hi _ => hi, fun _ _ => rfl, fun _ _ _ _ _ _ y => y⟩

/-! ### raise X(), X an own exception class without own __init__ -/
section
variable {X : Cx} {C : Addr} {bmB : List Value} {B newId initId : String}
theorem pmk_own0 {x : Str} {p pos : Pos} (F : ExcBaseFacts B newId initId bmB) (q : PySem.W.excIn X.K C bmB newId = true) (gC : X.mg x = some (.ref C)) (kC : PySem.W.keepIn X.K (.ref C) = true) (r : Raises X (.ref C)) (hg : Gl X x)
    (hdb : (x == ("__debug__" : Str)) = false := by decide) : PMk X (.Call (.Name x p) [] [] pos) (fun _ H Q => Q (.ref C) none H) := by
  intro pins s σ H Q I h
  refine wpAny_Call_Name_kw (ld_glob I hg gC ?_ hdb)
  refine PySem.W.callWith_K0 I.kIn kC ?_
  obtain ⟨bm, N, nm, qn, bs, hdct, sn, sub, ab, col, dd, k0, k1, k2, k3, k5, mN, hC, hN, hni, T⟩ := exc_obj I.kIn q
  show wpAny _ _ (call (.ref C) []) _ _ _
  refine wpAny_call_exc_subT F T hC hN hni (fun h' e hm => ?_) (by show 0 ≤ sizeLine; exact Nat.zero_le _)
  exact mk_of I hm r h (I.hok.gone hm.new)
end
end NW

/-! Own rules: len(set(x)), x a text. -/
namespace NW
open PySem PySem.Spec PyProof.Rows L2

/-- how many different signs stand in the first i of xs -/
def dif (f : Nat → Nat) : Nat → Nat
  | 0 => 0
  | i + 1 => if (List.range i).any (fun j => f j == f i) = true then dif f i else dif f i + 1
theorem dif_le (f : Nat → Nat) : ∀ i, dif f i ≤ i
  | 0 => Nat.le_refl _
  | i + 1 => by
    unfold dif
    have h := dif_le f i
    split <;> omega
def sg (c : Nat) : Str := ⟨#[c]⟩
theorem sg_inj {a b : Nat} (h : sg a = sg b) : a = b := by
  unfold sg at h
  injection h with h
  simpa using h
def had (f : Nat → Nat) (i : Nat) (k : Str) : Bool := (List.range i).any fun j => decide (k = sg (f j))
theorem had_sg (f : Nat → Nat) (i c : Nat) : had f i (sg c) = (List.range i).any fun j => f j == c := by
  unfold had
  congr 1
  funext j
  by_cases h : f j = c
  · subst h; simp
  · have h1 : ¬ sg c = sg (f j) := fun e => h (sg_inj e).symm
    rw [decide_eq_false h1]
    exact (beq_eq_false_iff_ne.mpr h).symm
theorem had_succ (f : Nat → Nat) (i : Nat) (k : Str) : had f (i + 1) k = (had f i k || decide (k = sg (f i))) := by
  unfold had
  rw [List.range_succ, List.any_append]
  simp

section
variable {prog : Program} {w : World} {A : Around} {R : Result → Shared → Prop} {I : Addr} {fp wr : List Addr} {G : Array GenState → Array GenState → Prop} {n : Nat} {P : Nat → Value → Prop} {St : Nat → Shared → Prop}
theorem loopSigns (W : WalksS prog w A.in1 I fp wr G n P St) (S : Addr) (hSf : S ∉ fp) (f : Nat → Nat) (hn1 : n < 4000)
    (hval : ∀ i v, P i v → ∃ t, v = .str (sg (f i)) t) :
    ∀ (k i : Nat) (s : Shared), n - i = k → i ≤ n → St i s →
      s.heap.SetOf (PySem.strKind prog w) S (had f i) (dif f i) →
      (∀ s', Moved (S :: wr) G s s' → s'.heap.SetOf (PySem.strKind prog w) S (had f n) (dif f n) → R (.ok (.ret .none)) s') →
      codeAny (model prog w) A (.builtin "set.update.loop" ⟨[.ref S, .ref I], []⟩) R s := by
  have hSw : S ∉ wr := fun h => hSf (W.sub _ h)
  have hsub : ∀ b ∈ wr, b ∈ S :: wr := fun b hb => List.mem_cons_of_mem _ hb
  intro k
  induction k with
  | zero =>
    intro i s hk hi hst hS hR
    obtain rfl : i = n := by omega
    refine codeAny_builtin PyProof.Rows.F.entry_set_update_loop ?_
    rw [Around.under_plainId PyProof.Rows.F.plain_set_update_loop _]
    show wpAny _ A.in1 (pyNext (.ref I) >>= _) _ _ s
    refine wpAny_bind (W.done s _ _ hst fun s' hm => ?_)
    show wpAny _ A.in1 (ret Value.none) _ _ s'
    exact wpAny_pure (hR s' (hm.mono hsub) (by
      obtain ⟨o, es, ep, t, ho, rest⟩ := hS
      exact ⟨o, es, ep, t, hm.heap S _ hSw ho, rest⟩))
  | succ k ih =>
    intro i s hk hi hst hS hR
    have hlt : i < n := by omega
    refine codeAny_builtin PyProof.Rows.F.entry_set_update_loop ?_
    rw [Around.under_plainId PyProof.Rows.F.plain_set_update_loop _]
    show wpAny _ A.in1 (pyNext (.ref I) >>= _) _ _ s
    refine wpAny_bind (W.item i s _ _ hlt hst fun v s' hP hst' hm => ?_)
    obtain ⟨t, rfl⟩ := hval i v hP
    have hS' : s'.heap.SetOf (PySem.strKind prog w) S (had f i) (dif f i) := by
      obtain ⟨o, es, ep, tb, ho, rest⟩ := hS
      exact ⟨o, es, ep, tb, hm.heap S _ hSw ho, rest⟩
    show wpAny _ A.in1 (holding [Value.str (sg (f i)) t] (setAdd S (.str (sg (f i)) t)) >>= _) _ _ s'
    refine wpAny_bind (wpAny_holding ?_)
    unfold setAdd
    refine wpAny_holding ?_
    refine wpAny_bind ((PySem.strKind prog w).pyHash (k := sg (f i)) (strKind_is _ _ _ _) ?_)
    refine wpAny_setAddHashed_of (knd := PySem.strKind prog w) (s := { s' with toks := s'.toks + 1 }) (strKind_is _ _ _ _) rfl hS' (by have := dif_le f i; unfold scanBound; omega) fun h' hsb hS2 => ?_
    have hSi : h'.SetOf (PySem.strKind prog w) S (had f (i + 1)) (dif f (i + 1)) := by
      refine SetOf_congr hS2 (fun k' => (had_succ f i k').symm) ?_
      rw [had_sg]
      rfl
    refine wpAny_pure ⟨plainId_quiet PyProof.Rows.F.plain_set_update_loop _, ih (i + 1) _ (by omega) hlt (W.frame _ s' _ _ hst' (Nat.le_succ _) fun b hb o e => ?_) hSi fun s'' hm'' hS'' => ?_⟩
    · rw [hsb.2 b (fun h : b = S => hSf (by rw [← h]; exact hb))]; exact e
    · refine hR s'' (Moved.trans W.gtrans ((hm.mono hsub).then_heap (Nat.le_succ _) fun b o hb e => ?_) hm'') hS''
      rw [hsb.2 b (fun h : b = S => hb (by rw [h]; exact List.mem_cons_self))]; exact e
end

section
variable {prog : Program} {w : World} {A : Around} {E : Value → Shared → Prop} {s : Shared}
theorem walks_text (hh : A.handled = none) (I : Addr) (x : Str) (t : Tok) :
    Walks prog w A I [I] [I] x.cps.size (SignAt x) (fun i h => h.IsStrIter I (strIterType x) x t i) := by
  cases ha : x.cps.all (· < 128)
  · simp only [strIterType, ha, Bool.false_eq_true, if_false]
    exact .strWide hh I x t
  · simp only [strIterType, ha, if_true]
    exact .strAscii hh I x t
theorem call_set_text {x : Str} {t : Tok} {Q : Value → Shared → Prop}
    (hh : A.handled = none) (hn1 : x.cps.size < 4000)
    (h : ∀ (h' : Heap) (tk : Nat), h'.SetOf (PySem.strKind prog w) s.heap.objs.size (had (fun i => x.cps.getD i 0) x.cps.size) (dif (fun i => x.cps.getD i 0) x.cps.size) →
      (∀ b o, b < s.heap.objs.size → s.heap.get? b = some o → h'.get? b = some o) → Q (.ref s.heap.objs.size) { s with heap := h', toks := tk }) :
    wpAny (model prog w) A (call (.type "set") [.str x t]) Q E s := by
  obtain ⟨c, tl, hmro⟩ := PySem.F.called_set.mro
  have hmade := PySem.F.called_set.made
  have hsub := PySem.F.called_set.sub
  refine wpAny_call (codeAny_of_tree ?_)
  show wpAny _ _ (callAny (.type "set") _) _ _ _
  refine wpAny_pure ⟨Code.quiet_builtin _ (by decide +kernel), codeAny_builtin PySem.F.entry_type_call ?_⟩
  rw [Around.under_plain (weight_type_call_type "set" [.str x t] []) rfl]
  have h1 := PySem.F.called_set.notType
  have h2 := PySem.F.called_set.canCreate
  have hct := PySem.F.typeCall_set_1 (.str x t)
  repeat (any_goals (first | assumption | wp_step))
  refine codeAny_mono (code_set_new_1 (.str x t) (E := E) (Q₁ := fun obj s₁ => ∃ led : Bool, obj = .ref s.heap.objs.size ∧ s₁ = { s with heap := s.heap.push { cls := .type "set", dict := none, data := .set #[] 0 (.fresh 0 0 led) } }) fun led => ⟨led, rfl, rfl⟩) fun r s₁ hr => ?_
  cases r with
  | error e => exact hr
  | ok fl =>
    cases fl with
    | ret obj =>
      obtain ⟨led, rfl, rfl⟩ := hr
      have hS : (s.heap.push { cls := .type "set", dict := none, data := .set #[] 0 (.fresh 0 0 led) }).get? s.heap.objs.size = some { cls := .type "set", dict := none, data := .set #[] 0 (.fresh 0 0 led) } := Heap.get?_push_size _ rfl
      have hT : Shared.TypeIs { s with heap := s.heap.push { cls := .type "set", dict := none, data := .set #[] 0 (.fresh 0 0 led) } } (.ref s.heap.objs.size) "set" := ⟨_, hS, rfl⟩
      have hli := PySem.F.called_set.init.lookup
      have hbi := PySem.F.called_set.init.bind (.ref s.heap.objs.size)
      repeat (any_goals (first | assumption | wp_step))
      refine codeAny_mono (codeAny_call_builtin (R := wants (fun r s₂ => r = .none ∧ ∃ h' tk, s₂ = { s with heap := h', toks := tk } ∧
          h'.SetOf (PySem.strKind prog w) s.heap.objs.size (had (fun i => x.cps.getD i 0) x.cps.size) (dif (fun i => x.cps.getD i 0) x.cps.size) ∧
          (∀ b o, b < s.heap.objs.size → s.heap.get? b = some o → h'.get? b = some o)) E) PySem.F.called_set.init.plain PySem.F.entry_set_init (check_set_init_1 hT ?_)) fun r₂ s₂ hr₂ => ?_
      · have hsls := PySem.F.sub_str_set
        have hslf := PySem.F.sub_str_frozenset
        have hne : (Value.type "str" == Value.type "dict") = false := by decide
        unfold Builtin.«set.__init__» noKeywords Builtin.Frozenset.updateFrom
        generalize hPI : pyIter = PI
        wp_walk
        subst hPI
        refine wpAny_pyIter_strU ?_
        refine wpAny_bind (wpAny_runValue ?_)
        have hh3 : A.in1.in1.in1.handled = none := by simp [hh]
        have hSf : s.heap.objs.size ∉ [(s.heap.push { cls := .type "set", dict := none, data := .set #[] 0 (.fresh 0 0 led) }).objs.size] := by
          rw [Heap.size_push]; simp only [List.mem_cons, List.mem_singleton, List.not_mem_nil, or_false]
          exact Nat.ne_of_lt (Nat.lt_succ_self _)
        have hval : ∀ (i : Nat) (v : Value), SignAt x i v → ∃ t, v = .str (sg (x.cps.getD i 0)) t := fun i v ⟨c, u, hc, hv⟩ => ⟨u, by
          rw [hv]
          have e : x.cps.getD i 0 = c := by simp [Array.getD_eq_getD_getElem?, hc]
          rw [e]
          rfl⟩
        refine loopSigns ((walks_text hh3 _ x t).toS) s.heap.objs.size
          hSf (fun i => x.cps.getD i 0) hn1 hval (x.cps.size - 0) 0 _ (by omega) (Nat.zero_le _)
          ⟨_, Heap.get?_push_size _ rfl, rfl, rfl⟩ ?hS0 ?hR
        case hS0 =>
          have hget : ((s.heap.push { cls := .type "set", dict := none, data := .set #[] 0 (.fresh 0 0 led) }).push { cls := .type (strIterType x), data := .fields #[.str x t, .int 0 0] }).get? s.heap.objs.size
              = some { cls := .type "set", dict := none, data := .set #[] 0 (.fresh 0 0 led) } := Heap.get?_push_of_some _ hS
          exact PyProof.Rows.SetOf_congr ((PyProof.Rows.setObjOf_fresh (knd := PySem.strKind prog w) led).setOf hget (by unfold scanBound; omega)) (fun _ => rfl) rfl
        case hR =>
          intro s' hm hS'
          obtain ⟨h', g', d', tk', os'⟩ := s'
          have eg : g' = s.gens := hm.gens
          have ed : d' = s.drawn := hm.drawn
          have eo : os' = s.os := hm.os
          subst eg; subst ed; subst eo
          show wpAny _ _ _ _ _ _
          refine wpAny_pure ?_
          show wpAny _ _ (ret Value.none) _ _ _
          refine wpAny_pure ⟨rfl, h', tk', rfl, hS', fun b o hb e => ?_⟩
          have hb1 : b ≠ s.heap.objs.size := Nat.ne_of_lt hb
          have hb2 : b ≠ (s.heap.push { cls := .type "set", dict := none, data := .set #[] 0 (.fresh 0 0 led) }).objs.size := by
            rw [Heap.size_push]; exact Nat.ne_of_lt (Nat.lt_succ_of_lt hb)
          exact hm.heap b o (by simp only [List.mem_cons, List.mem_singleton, List.not_mem_nil, or_false, not_or]; exact ⟨hb1, hb2⟩) (Heap.get?_push_of_some _ (Heap.get?_push_of_some _ e))
      · cases r₂ with
        | error e => exact hr₂
        | ok fl₂ =>
          cases fl₂ with
          | ret r =>
            obtain ⟨rfl, h', tk, rfl, hS', hk'⟩ := hr₂
            repeat (any_goals (first | assumption | wp_step))
            exact h _ _ hS' hk'
          | _ => exact hr₂.elim
    | _ => exact hr.elim
end

section
variable {X : Cx}
/-- len(set(x)), x a text -/
def tLenSetT (ta : TE) : TE := fun σ H Q => ta σ H fun v H1 => ∃ x : Str, v = .str x ∧ x.cps.size < 4000 ∧ Q (.int (dif (fun i => x.cps.getD i 0) x.cps.size : Nat)) H1
theorem pe_lenSetT {a : Expr} {ta : TE} {p p2 q pos : Pos} (hc : X.calm = true) (hg : Gl X "len") (hm : X.mg "len" = none) (hg2 : Gl X "set") (hm2 : X.mg "set" = none) (ha : PE X a ta)
    (na : starEach [a] X.env = (false, eval a X.env) :: starEach [] X.env := by rfl) : PE X (.Call (.Name "len" p) [.Call (.Name "set" p2) [a] [] q] [] pos) (tLenSetT ta) := by
  refine ⟨fun pins s σ H Q I h => ?_⟩
  refine Call_ (ld_blt I hg hm boot_len ?_)
  refine PyProof.Rows.callWith_builtin1 (PyProof.Rows.args_cons ?_ rfl) rfl rfl
  refine Call_ (ld_blt I hg2 hm2 boot_set ?_)
  refine PyProof.Rows.callWith_type1 (PyProof.Rows.args_cons (thn (ha.run pins s σ H _ I h) fun v s1 ⟨y, H1, I1, r1, q1⟩ => PyProof.Rows.args_nil ?_) na) na rfl
  obtain ⟨x, rfl, h1, q1⟩ := q1
  obtain ⟨t, rfl⟩ := r1
  refine call_set_text (I1.ok.hd hc) h1 fun h' tk hS hk => ?_
  refine PyProof.Rows.args_nil ?_
  obtain ⟨o, es, ep, t, ho, hex, hd, _, _, _, hf, hn⟩ := hS
  have I2 : Inv X pins σ H1 { s1 with heap := h', toks := tk } := I1.kept fun b o e => hk b o (Heap.lt_size e) e
  have hle := dif_le (fun i => x.cps.getD i 0) x.cps.size
  refine call_len_set ho hex hd hf (by rw [hn]; omega) ⟨.int (dif (fun i => x.cps.getD i 0) x.cps.size : Nat), H1, I2.tok _, ⟨_, by rw [hn]⟩, q1⟩
end
end NW

/-! Own rules: x[lo:hi:2] of a text. -/
namespace NW
open PySem PySem.Spec PyProof.Rows L2

/-- the signs at every second place -/
def stepS (z : Str) (lo hi : Option Int) (c : Int) : Str := ⟨((Builtin.Str.strSliceIndices lo hi c z.length).filterMap (z.cps[·]?)).toArray⟩
def tStepS (te : TE) (tl th : TO) (c : Int) : TE := fun σ H Q => te σ H fun v H1 => tl σ H1 fun lo H2 => th σ H2 fun hi H3 => ∃ z : Str, v = .str z ∧ (stepS z lo hi c).length ≤ sizeLine ∧ Q (.str (stepS z lo hi c)) H3
section
variable {X : Cx} {e : Expr} {te : TE} {lo hi : Option Expr} {tl th : TO}
theorem pe_stepS {c : Int} {k : Nat} {p1 p2 pos : Pos} (hc : 2 ≤ c) (he : PE X e te) (hl : PO X lo tl) (hu : PO X hi th) :
    PE X (.Subscript e (.Slice lo hi (some (.Constant (.int c) k p1)) p2) pos) (tStepS te tl th c) := by
  refine ⟨fun pins s σ H Q I h => ?_⟩
  refine Subscript_ (thn (he.run pins s σ H _ I h) fun v s1 ⟨x, H1, I1, r1, q1⟩ => ?_)
  have hst : PO X (some (.Constant (.int c) k p1)) (tPart (tC (.int c))) := po_some pe_int
  refine wpAny_Slice (thn (hl.run pins s1 σ H1 _ I1 q1) fun vl s2 ⟨l, H2, I2, pl, q2⟩ => thn (hu.run pins s2 σ H2 _ I2 q2) fun vu s3 ⟨u, H3, I3, pu, q3⟩ => ?_)
  refine thn (hst.run pins s3 σ H3 (fun o H4 => o = some c ∧ H4 = H3) I3 ⟨c, rfl, rfl, rfl⟩) fun vs s4 ⟨o, H4, I4, ps, eo, e4⟩ => ?_
  subst eo e4
  obtain ⟨z, rfl, hz, q⟩ := q3
  obtain ⟨t, rfl⟩ := r1
  obtain ⟨l, rfl, rfl⟩ := IsPart.raw pl
  obtain ⟨u, rfl, rfl⟩ := IsPart.raw pu
  obtain ⟨w', rfl, hw⟩ := IsPart.raw ps
  have I5 : Inv X pins σ H4 { s4 with heap := s4.heap.push { cls := .type "slice", data := .fields #[partValue l, partValue u, partValue w'] } } := I4.kept (t' := s4.toks) fun b ob q => Heap.get?_push_of_some _ q
  show wpAny (model X.prog X.w) X.A (subscriptTail e (.Slice lo hi (some (.Constant (.int c) k p1)) p2) (.str z t) (.ref s4.heap.objs.size)) (EP X pins σ Q) X.xe { s4 with heap := s4.heap.push { cls := .type "slice", data := .fields #[partValue l, partValue u, partValue w'] } }
  have hstep : (w'.map (·.1)).getD 1 = c := by rw [hw]; rfl
  refine tail_any (ops := [.ref s4.heap.objs.size, .str z t]) (typeIs_str _ _ _) PySem.F.slot_str_getitem.lookup ?_ (by with_unfolding_all rfl)
  refine wpAny_getItem_str_slice (l := l) (u := u) (st := w') ⟨_, Heap.get?_push_size _ rfl, rfl, rfl⟩ (by rw [hstep]; exact beq_eq_false_iff_ne.mpr (by omega)) ?_
  have e0 : sliceMade z t l u w' = Made.str (stepS z (l.map (·.1)) (u.map (·.1)) c) := by
    unfold sliceMade
    rw [if_neg]
    · unfold slicePicked stepS
      rw [hstep]
    · rw [hstep, Bool.and_eq_true, not_and]
      intro h
      exact absurd (beq_iff_eq.mp h) (by omega)
  rw [e0]
  exact ⟨hz, .str _, H4, I5.tok _, ⟨_, rfl⟩, q⟩
end
theorem ix_even : Builtin.Str.strSliceIndices none none 2 4 = [0, 2] := by decide +kernel
theorem ix_odd : Builtin.Str.strSliceIndices (some 1) none 2 4 = [1, 3] := by decide +kernel
theorem stepS_even {a b c d : Nat} : stepS ⟨#[a, b, c, d]⟩ none none 2 = ⟨#[a, c]⟩ := by
  show (⟨((Builtin.Str.strSliceIndices none none 2 4).filterMap ((#[a, b, c, d] : Array Nat)[·]?)).toArray⟩ : Str) = _
  rw [ix_even]
  rfl
theorem stepS_odd {a b c d : Nat} : stepS ⟨#[a, b, c, d]⟩ (some 1) none 2 = ⟨#[b, d]⟩ := by
  show (⟨((Builtin.Str.strSliceIndices (some 1) none 2 4).filterMap ((#[a, b, c, d] : Array Nat)[·]?)).toArray⟩ : Str) = _
  rw [ix_odd]
  rfl
end NW

/-! Texts as lists of signs; readings one rule at a time; heaps. -/
namespace NW
open PySem PySem.Spec PyProof.Rows L2

/-! ### texts -/
def tx (l : List Nat) : Str := ⟨l.toArray⟩
theorem tx_append (l m : List Nat) : tx l ++ tx m = tx (l ++ m) := by
  show (⟨l.toArray ++ m.toArray⟩ : Str) = ⟨(l ++ m).toArray⟩
  simp
theorem tx_length (l : List Nat) : (tx l).length = l.length := by
  show l.toArray.size = _
  simp
theorem tx_size (l : List Nat) : (tx l).cps.size = l.length := tx_length l
theorem tx_list (l : List Nat) : (tx l).cps.toList = l := rfl
theorem tx_get (l : List Nat) (i : Nat) : (tx l).cps[i]? = l[i]? := by
  show l.toArray[i]? = l[i]?
  simp
theorem tx_inj {l m : List Nat} (h : tx l = tx m) : l = m := by
  have := congrArg (fun s => s.cps.toList) h
  simpa [tx_list] using this
theorem tx_eq {l m : List Nat} : tx l = tx m ↔ l = m := ⟨tx_inj, fun h => by rw [h]⟩
theorem tx_of (s : Str) : s = tx s.cps.toList := by
  show s = ⟨s.cps.toList.toArray⟩
  simp
theorem sg_tx (c : Nat) : sg c = tx [c] := rfl
theorem one_tx (c : Nat) : (⟨#[c]⟩ : Str) = tx [c] := rfl
theorem empty_tx : ("" : Str) = tx [] := by decide +kernel

/-! ### rules by values in one -/
section
variable {X : Cx}
def rAddA : R2 := fun x y H Q => rI0 (fun i j => .int (i + j)) x y H Q ∨ (∃ i j, x = .str i ∧ y = .str j ∧ i.length + j.length ≤ sizeLine ∧ Q (.str (i ++ j)) H) ∨ rCat x y H Q
theorem op_addA : OpR X (binaryOp .Add) rAddA := op_add.or (op_add_str.or op_cat)
def rSlA2 (K : PySem.W.Frag) : V → Option Int → Option Int → Hp → VK → Prop := fun x lo hi H Q => rSlL K x lo hi H Q ∨ rSlS x lo hi H Q
theorem sl_any : SlR X (rSlA2 X.K) := SlR.or sl_list sl_str
def rLenA (K : PySem.W.Frag) : List V → Hp → VK → Prop := fun xs H Q => ∃ x n, xs = [x] ∧ LenV K x H n ∧ Q (.int (n : Nat)) H
theorem call_lenA : CallR X (.builtin "len") (rLenA X.K) := call_len
def rAbs : List V → Hp → VK → Prop := fun xs H Q => ∃ i, xs = [.int i] ∧ Q (.int (if i < 0 then -i else i)) H
theorem call_absA : CallR X (.builtin "abs") rAbs := call_abs
def rInt : List V → Hp → VK → Prop := fun xs H Q => (∃ i, xs = [.int i] ∧ Q (.int i) H) ∨ ∃ k, xs = [.bl k] ∧ Q (.int (if k then 1 else 0)) H
theorem call_intA : CallR X (.type "int") rInt := call_int1
def rInSg : R2 := fun x y H Q => ∃ (c : Nat) (z : Str), x = .str ⟨#[c]⟩ ∧ y = .str z ∧ Q (.bl (decide (c ∈ z.cps.toList))) H
theorem op_inSg : OpR X (compareOp .In) rInSg := op_in_sign
def rNotInSg : R2 := fun x y H Q => ∃ (c : Nat) (z : Str), x = .str ⟨#[c]⟩ ∧ y = .str z ∧ Q (.bl (!decide (c ∈ z.cps.toList))) H
theorem op_notInSg : OpR X (compareOp .NotIn) rNotInSg := op_notIn_sign
def rListA (K : PySem.W.Frag) : List V → Hp → VK → Prop := fun xs H Q => ∃ p ys, xs = [.ref p] ∧ (SqL K H p ys ∨ SqT K H p ys) ∧ ∀ l, H l = none → Q (.ref l) (upd H l (.lst ys))
theorem call_listA : CallR X (.type "list") (rListA X.K) := call_list_of
/-! the same with the written part told -/
section
variable {K : PySem.W.Frag}
theorem ix_seqK (h : X.K = K) : IxR X (rIx K) := h ▸ ix_seq
theorem sl_anyK (h : X.K = K) : SlR X (rSlA2 K) := h ▸ sl_any
theorem call_lenK (h : X.K = K) : CallR X (.builtin "len") (rLenA K) := h ▸ call_lenA
theorem call_isiK1 (h : X.K = K) : CallR X (.builtin "isinstance") (rIsi K) := h ▸ call_isi
theorem cr_allK (h : X.K = K) (hc : X.calm = true) : CallR X (.builtin "all") (rAll K) := h ▸ cr_all hc
theorem cr_anyK (h : X.K = K) (hc : X.calm = true) : CallR X (.builtin "any") (rAny K) := h ▸ cr_any hc
theorem cr_sumK (h : X.K = K) (hc : X.calm = true) : CallR X (.builtin "sum") (rSum K) := h ▸ cr_sum hc
theorem call_listK (h : X.K = K) : CallR X (.type "list") (rListA K) := h ▸ call_listA
theorem op_eqDK (h : X.K = K) (hu : X.A.units + 64 < cLine) : OpR X (compareOp .Eq) (rEqD K) := h ▸ op_eqD hu
theorem op_neDK (h : X.K = K) (hu : X.A.units + 64 < cLine) : OpR X (compareOp .NotEq) (rNeD K) := h ▸ op_neD hu
theorem op_in_seqK (h : X.K = K) : OpR X (compareOp .In) (rIn K false) := h ▸ op_in_seq
theorem op_notIn_seqK (h : X.K = K) : OpR X (compareOp .NotIn) (rIn K true) := h ▸ op_notIn_seq
theorem pe_fldK {e : Expr} {ta : TE} {f : Str} {pos : Pos} (h : X.K = K) (he : PE X e ta) (hb : attributeBase e f X.env (eval e X.env) = eval e X.env) : PE X (.Attribute e f pos) (tFld K ta f) := h ▸ pe_fld he hb
theorem pi_listK {tg l : Expr} {tl : TE} (h : X.K = K) (hl : PE X l tl) : PI X tg l (iList K tl) := h ▸ pi_list hl
theorem pi_tupK {tg l : Expr} {tl : TE} (h : X.K = K) (hl : PE X l tl) : PI X tg l (iTup K tl) := h ▸ pi_tup hl
theorem pg_tupK {es : List Expr} {k : Nat} {pos : Pos} {t : TGs} {n : Nat} (h : X.K = K) (hc : X.calm = true) (hg : PGs X es t)
    (hn : (assignEach es X.env).length = n := by rfl) (hst : (assignEach es X.env).findIdx? (·.1) = none := by rfl) : PG X (.Tuple es k pos) (gTup K n t) := h ▸ pg_tup hc hg hn hst
theorem pe_bmK {T name : String} {id : String} {r : V → List V → Hp → VK → Prop} {o e : Expr} {es : List Expr} {to : TE} {t : TA} {nm : Str} {apos cpos : Pos}
    (h : X.K = K) (p : PE X (.Call (.Attribute o nm apos) (e :: es) [] cpos) (tBM X.K T r to t)) : PE X (.Call (.Attribute o nm apos) (e :: es) [] cpos) (tBM K T r to t) := h ▸ p
theorem pe_bm0K {T : String} {r : V → List V → Hp → VK → Prop} {o : Expr} {to : TE} {nm : Str} {apos cpos : Pos}
    (h : X.K = K) (p : PE X (.Call (.Attribute o nm apos) [] [] cpos) (tBM0 X.K T r to)) : PE X (.Call (.Attribute o nm apos) [] [] cpos) (tBM0 K T r to) := h ▸ p
end
theorem hu64 {A : Around} {k : Nat} (hr : Room k A) : A.units + 64 < cLine := by have := hr.un; omega
theorem hu65 {A : Around} {k : Nat} (hr : Room k A) : A.units + 65 < cLine := by have := hr.un; omega
end

/-! ### readings, one rule at a time -/
section
variable {σ : L2.St} {H : Hp} {Q : VK} {D : Ends} {ta tb te tc : TE} {t u : TT} {tA : TA} {ts tu tw : TS} {g : TG} {QT : Bool → Hp → Prop} {QA : List V → Hp → Prop} {QO : Option Int → Hp → Prop}
theorem rd_seq (h : ts { D with nx := tu D } σ H) : tSeq ts tu D σ H := h
theorem rd_asg (h : te σ H fun x H1 => g x σ H1 D.nx) : tAsg te g D σ H := h
theorem rd_name {i : Nat} {v : V} {q : L2.St → Hp → Prop} (h : q (σ.set i (some v)) H) : gName i v σ H q := h
theorem rd_ret (h : te σ H D.rt) : tRet te D σ H := h
theorem rd_drop (h : te σ H fun _ H1 => D.nx σ H1) : tDrop te D σ H := h
theorem rd_next (h : D.nx σ H) : tNext D σ H := h
theorem rd_ifS (h : t σ H fun b H1 => if b = true then ts D σ H1 else tu D σ H1) : tIfS t ts tu D σ H := h
theorem rd_var {i : Nat} {v : V} (e : σ[i]? = some (some v)) (h : Q v H) : tVar i σ H Q := ⟨v, e, h⟩
theorem rd_c {v : V} (h : Q v H) : tC v σ H Q := h
theorem rd_op {r : R2} (h : ta σ H fun x H1 => tb σ H1 fun y H2 => r x y H2 Q) : tOp r ta tb σ H Q := h
theorem rd_un {r : V → Hp → VK → Prop} (h : ta σ H fun x H1 => r x H1 Q) : tUn r ta σ H Q := h
theorem rd_test (h : te σ H fun x H1 => ∃ k, x = .bl k ∧ QT k H1) : tTest te σ H QT := h
theorem rd_B (h : te σ H fun x H1 => ∃ k, x = .bl k ∧ QT k H1) : tB te σ H QT := h
theorem rd_bl {b : Bool} (h : QT b H) : ∃ k, (V.bl b) = .bl k ∧ QT k H := ⟨b, rfl, h⟩
theorem rd_not (h : t σ H fun c H1 => QT (!c) H1) : tNot t σ H QT := h
theorem rd_and (h : t σ H fun c H1 => if c = true then u σ H1 QT else QT false H1) : tAnd t u σ H QT := h
theorem rd_or (h : t σ H fun c H1 => if c = true then QT true H1 else u σ H1 QT) : tOr t u σ H QT := h
theorem rd_andV (h : ta σ H fun x H1 => ∃ c, x = .bl c ∧ if c = true then tb σ H1 Q else Q (.bl false) H1) : tAndV ta tb σ H Q := h
theorem rd_orV (h : ta σ H fun x H1 => ∃ c, x = .bl c ∧ if c = true then Q (.bl true) H1 else tb σ H1 Q) : tOrV ta tb σ H Q := h
theorem rd_notV (h : ta σ H fun x H1 => ∃ c, x = .bl c ∧ Q (.bl (!c)) H1) : tNotV ta σ H Q := h
theorem rd_blI {b : Bool} {P : Bool → Prop} (h : P b) : ∃ k, (V.bl b) = .bl k ∧ P k := ⟨b, rfl, h⟩
theorem rd_if (h : t σ H fun c H1 => if c = true then ta σ H1 Q else tb σ H1 Q) : tIf t ta tb σ H Q := h
theorem rd_nil (h : QA [] H) : tNil σ H QA := h
theorem rd_cons (h : te σ H fun x H1 => tA σ H1 fun xs H2 => QA (x :: xs) H2) : tCons te tA σ H QA := h
theorem rd_cb {r : List V → Hp → VK → Prop} (h : tA σ H fun vs H1 => r vs H1 Q) : tCB r tA σ H Q := h
theorem rd_tup (h : tA σ H fun xs H1 => xs.length ≤ sizeLine ∧ ∀ p, H1 p = none → Q (.ref p) (upd H1 p (.tup xs))) : tTup tA σ H Q := h
theorem rd_lst (h : tA σ H fun xs H1 => xs.length ≤ sizeLine ∧ ∀ p, H1 p = none → Q (.ref p) (upd H1 p (.lst xs))) : tLst tA σ H Q := h
theorem rd_sl {r : V → Option Int → Option Int → Hp → VK → Prop} {tl th : TO} (h : te σ H fun x H1 => tl σ H1 fun l H2 => th σ H2 fun v H3 => r x l v H3 Q) : tSl r te tl th σ H Q := h
theorem rd_none (h : QO none H) : tNoPart σ H QO := h
theorem rd_some (h : te σ H fun x H1 => ∃ i, x = .int i ∧ QO (some i) H1) : tPart te σ H QO := h
theorem rd_int {i : Int} {P : Int → Prop} (h : P i) : ∃ k, (V.int i) = .int k ∧ P k := ⟨i, rfl, h⟩
theorem rd_callS {sp : Sp} {E : L2.St → XK} (h : tA σ H fun vs H1 => sp vs H1 Q (E σ)) : tCallS sp E tA σ H Q := h
theorem rd_call {sp : Sp} {dvs : List V} {E : XK} (h : tA σ H fun vs H1 => sp (vs ++ dvs) H1 Q E) : tCall sp dvs E tA σ H Q := h
theorem rd_fld {K : PySem.W.Frag} {f : Str} (h : te σ H fun x H1 => ∃ a C dx fs v, x = .ref a ∧ H1 a = some (.ins C dx fs) ∧ Cls K C ∧ NoAttr K C f ∧ fs.lookup f = some v ∧ Q v H1) : tFld K te f σ H Q := h
theorem rd_meth {C : Addr} {m : Str} {sp : Sp} {dvs : List V} {E : XK} (h : te σ H fun x H1 => ∃ a dx fs, x = .ref a ∧ H1 a = some (.ins C dx fs) ∧ fs.lookup m = none ∧ tA σ H1 fun vs H2 => sp (x :: (vs ++ dvs)) H2 Q E) : tMeth C m sp dvs E te tA σ H Q := h
theorem rd_din {td ty : TE} (h : ty σ H fun y H1 => td σ H1 fun x H2 => ∃ a o, x = .ref a ∧ DGet H2 a y o ∧ Q (.bl o.isSome) H2) : tDIn ty td σ H Q := h
theorem rd_dnotin {td ty : TE} (h : ty σ H fun y H1 => td σ H1 fun x H2 => ∃ a o, x = .ref a ∧ DGet H2 a y o ∧ Q (.bl (!o.isSome)) H2) : tDNotIn ty td σ H Q := h
theorem rd_dget {td ty : TE} (h : td σ H fun x H1 => ty σ H1 fun y H2 => ∃ a v, x = .ref a ∧ DGet H2 a y (some v) ∧ Q v H2) : tDGet td ty σ H Q := h
theorem rd_dput {td ty tv : TE} (h : tv σ H fun v H1 => td σ H1 fun x H2 => ty σ H2 fun y H3 => ∃ a H4, x = .ref a ∧ DPut H3 a y v H4 ∧ D.nx σ H4) : sDPut td ty tv D σ H := h
theorem rd_sfld {K : PySem.W.Frag} {f : Str} {tv : TE} (h : tv σ H fun y H1 => ta σ H1 fun x H2 => ∃ a C dx fs, x = .ref a ∧ H2 a = some (.ins C dx fs) ∧ Cls K C ∧ NoAttr K C f ∧ fs.length < 1000 ∧
  D.nx σ (upd H2 a (.ins C dx (putF f y fs)))) : sFld K ta tv f D σ H := h
theorem rd_make {C : Addr} {sp : Sp} {dvs : List V} {E : XK} (h : tA σ H fun vs H1 => ∀ x dx, H1 x = none → H1 dx = none → dx ≠ x →
  sp (.ref x :: (vs ++ dvs)) (upd (upd H1 dx (.own x)) x (.ins C dx [])) (fun v H2 => v = .non ∧ Q (.ref x) H2) E) : tMake C sp dvs E tA σ H Q := h
theorem rd_chain {r r' : R2} {tc : TE} (h : ta σ H fun x H1 => tb σ H1 fun y H2 => r x y H2 fun z H3 => ∃ k, z = .bl k ∧ (if k = true then tc σ H3 fun w' H4 => r' y w' H4 Q else Q (.bl false) H3)) : tChain r r' ta tb tc σ H Q := h
theorem rd_step {tl th : TO} {c : Int} (h : te σ H fun v H1 => tl σ H1 fun lo H2 => th σ H2 fun hi H3 => ∃ z : Str, v = .str z ∧ (stepS z lo hi c).length ≤ sizeLine ∧ Q (.str (stepS z lo hi c)) H3) : tStepS te tl th c σ H Q := h
theorem rd_setl (h : te σ H fun v H1 => ∃ x : Str, v = .str x ∧ x.cps.size < 4000 ∧ Q (.int (dif (fun i => x.cps.getD i 0) x.cps.size : Nat)) H1) : tLenSetT te σ H Q := h
theorem rd_sub {to ti : TE} {ts : TSet} {v : V} {q : L2.St → Hp → Prop} (h : to σ H fun o H1 => ti σ H1 fun i H2 => ts o i v H2 fun H3 => q σ H3) : gSub to ti ts v σ H q := h
theorem rd_bm {K : PySem.W.Frag} {T : String} {r : V → List V → Hp → VK → Prop} (h : te σ H fun x H1 => tyV K T x H1 ∧ tA σ H1 fun xs H2 => r x xs H2 Q) : tBM K T r te tA σ H Q := h
theorem rd_bm0 {K : PySem.W.Frag} {T : String} {r : V → List V → Hp → VK → Prop} (h : te σ H fun x H1 => tyV K T x H1 ∧ r x [] H1 Q) : tBM0 K T r te σ H Q := h
/-! by values -/
theorem rI0_i {g : Int → Int → V} {i j : Int} (h : Q (g i j) H) : rI0 g (.int i) (.int j) H Q := ⟨i, j, rfl, rfl, h⟩
theorem rI_i {C : Int → Int → Prop} {g : Int → Int → V} {i j : Int} (c : C i j) (h : Q (g i j) H) : rI C g (.int i) (.int j) H Q := ⟨i, j, rfl, rfl, c, h⟩
theorem rAdd_i {i j : Int} (h : Q (.int (i + j)) H) : rAddA (.int i) (.int j) H Q := .inl ⟨i, j, rfl, rfl, h⟩
theorem rAdd_s {l m : List Nat} (z : l.length + m.length ≤ 100000) (h : Q (.str (tx (l ++ m))) H) : rAddA (.str (tx l)) (.str (tx m)) H Q :=
  .inr (.inl ⟨tx l, tx m, rfl, rfl, by rw [tx_length, tx_length]; exact Nat.le_trans z (by decide), by rw [tx_append]; exact h⟩)
theorem rAdd_l {a b : Addr} {xs ys : List V} (ha : H a = some (.lst xs)) (hb : H b = some (.lst ys)) (z : xs.length + ys.length ≤ 100000) (h : ∀ p, H p = none → Q (.ref p) (upd H p (.lst (xs ++ ys)))) : rAddA (.ref a) (.ref b) H Q :=
  .inr (.inr ⟨a, b, xs, ys, rfl, rfl, ha, hb, Nat.le_trans z (by decide), h⟩)
theorem rEq_v {x y : V} (e : scal x y = true) (h : Q (.bl (decide (x = y))) H) : rEq x y H Q := ⟨e, h⟩
theorem rNe_v {x y : V} (e : scal x y = true) (h : Q (.bl (!decide (x = y))) H) : rNe x y H Q := ⟨e, h⟩
theorem rU_i {g : Int → V} {i : Int} (h : Q (g i) H) : rU g (.int i) H Q := ⟨i, rfl, h⟩
theorem rIx_l {K : PySem.W.Frag} {p : Addr} {xs : List V} {i : Int} {v : V} (hs : SqL K H p xs) (e : atI xs i = some v) (h : Q v H) : rIx K (.ref p) (.int i) H Q := .inl ⟨p, xs, i, v, rfl, rfl, hs, e, h⟩
theorem rIx_t {K : PySem.W.Frag} {p : Addr} {xs : List V} {i : Int} {v : V} (hs : SqT K H p xs) (e : atI xs i = some v) (h : Q v H) : rIx K (.ref p) (.int i) H Q := .inr (.inl ⟨p, xs, i, v, rfl, rfl, hs, e, h⟩)
theorem rIx_s {K : PySem.W.Frag} {l : List Nat} {i : Int} {c : Nat} (z : l.length ≤ 100000) (e : atI l i = some c) (h : Q (.str (tx [c])) H) : rIx K (.str (tx l)) (.int i) H Q :=
  .inr (.inr ⟨tx l, i, c, rfl, rfl, by rw [tx_length]; exact Nat.le_trans z (by decide), e, h⟩)
theorem len_s {K : PySem.W.Frag} {l : List Nat} (z : l.length ≤ 100000) (h : Q (.int (l.length : Nat)) H) : rLenA K [V.str (tx l)] H Q :=
  ⟨_, l.length, rfl, ⟨by rw [tx_length]; exact Nat.le_trans z (by decide), (tx_length l).symm⟩, h⟩
theorem len_l {K : PySem.W.Frag} {p : Addr} {xs : List V} (hs : SqL K H p xs) (h : Q (.int (xs.length : Nat)) H) : rLenA K [V.ref p] H Q := ⟨_, xs.length, rfl, .inl ⟨xs, hs, rfl⟩, h⟩
theorem len_t {K : PySem.W.Frag} {p : Addr} {xs : List V} (hs : SqT K H p xs) (h : Q (.int (xs.length : Nat)) H) : rLenA K [V.ref p] H Q := ⟨_, xs.length, rfl, .inr ⟨xs, hs, rfl⟩, h⟩
theorem in_sg {c : Nat} {l : List Nat} (h : Q (.bl (decide (c ∈ l))) H) : rInSg (V.str (tx [c])) (V.str (tx l)) H Q := ⟨c, tx l, rfl, rfl, h⟩
theorem notin_sg {c : Nat} {l : List Nat} (h : Q (.bl (!decide (c ∈ l))) H) : rNotInSg (V.str (tx [c])) (V.str (tx l)) H Q := ⟨c, tx l, rfl, rfl, h⟩
theorem abs_i {i : Int} (h : Q (.int (if i < 0 then -i else i)) H) : rAbs [.int i] H Q := ⟨i, rfl, h⟩
theorem int_i {i : Int} (h : Q (.int i) H) : rInt [.int i] H Q := .inl ⟨i, rfl, h⟩
theorem int_b {b : Bool} (h : Q (.int (if b then 1 else 0)) H) : rInt [.bl b] H Q := .inr ⟨b, rfl, h⟩
theorem list_l {K : PySem.W.Frag} {p : Addr} {ys : List V} (hs : SqL K H p ys) (h : ∀ l, H l = none → Q (.ref l) (upd H l (.lst ys))) : rListA K [.ref p] H Q := ⟨p, ys, rfl, .inl hs, h⟩
end

/-! ### heaps -/
theorem Same.get {H H1 : Hp} {a : Addr} {o : HO} (s : Same H H1) (h : H a = some o) : H1 a = some o := s a o h
theorem upd_keep {H : Hp} {a p : Addr} {o u : HO} (n : H p = none) (h : H a = some o) : upd H p u a = some o := by rw [upd_ne (ne_of_none h n)]; exact h
theorem upd_oth {H : Hp} {a p : Addr} {o u : HO} (n : a ≠ p) (h : H a = some o) : upd H p u a = some o := by rw [upd_ne n]; exact h
theorem Same.new {H : Hp} {p : Addr} {o : HO} (n : H p = none) : Same H (upd H p o) := fun _ _ h => upd_keep n h
theorem Same.mut {H H' : Hp} {p : Addr} {o : HO} (s : Same H H') (n : H p = none) : Same H (upd H' p o) := fun a u h => by rw [upd_ne (ne_of_none h n)]; exact s a u h
theorem Same.seqT {K : PySem.W.Frag} {H H' : Hp} {a : Addr} {xs : List V} (e : Same H H') (h : SqT K H a xs) : SqT K H' a xs := Evl.ex_t e h
theorem scal_str {x y : Str} : scal (.str x) (.str y) = true := rfl
theorem decide_str {l m : List Nat} : decide (V.str (tx l) = V.str (tx m)) = decide (l = m) := by
  by_cases h : l = m
  · subst h; simp
  · have h1 : ¬ (V.str (tx l) = V.str (tx m)) := fun e => h (tx_inj (V.str.inj e))
    rw [decide_eq_false h, decide_eq_false h1]
theorem decide_int {i j : Int} : decide (V.int i = V.int j) = decide (i = j) := by
  by_cases h : i = j
  · subst h; simp
  · have h1 : ¬ (V.int i = V.int j) := fun e => h (V.int.inj e)
    rw [decide_eq_false h, decide_eq_false h1]
end NW

/-! Comprehensions over texts, and over two texts at once, by what their parts evaluate to. -/
namespace NW
open PySem PySem.Spec PyProof.Rows L2 Evl

theorem range_getD {α : Type} (d : α) (l : List α) : (List.range l.length).map (fun i => l.getD i d) = l := by
  apply List.ext_getElem?
  intro i
  rw [List.getElem?_map]
  by_cases h : i < l.length
  · rw [List.getElem?_range h, List.getElem?_eq_getElem h]
    simp [List.getD, List.getElem?_eq_getElem h]
  · have h1 : l.length ≤ i := Nat.le_of_not_lt h
    rw [List.getElem?_eq_none h1, List.getElem?_eq_none (by simpa using h1)]
    rfl
theorem given_getD {α : Type} (d : α) (l : List α) (p : α → Bool) (v : α → V) : given l.length (fun i => p (l.getD i d)) (fun i => v (l.getD i d)) = (l.filter p).map v := by
  unfold given
  conv => rhs; rw [← range_getD d l]
  rw [List.filter_map, List.map_map]
  rfl
section
variable {K : PySem.W.Frag} {σ : L2.St} {H H' : Hp} {ta tb te tl : TE} {t : TT} {x y z v : V} {g : TG}
theorem rd_L {xs : List V} {Q : VK} (h : EvL te σ H xs) (k : ∀ p H1, H p = none → Same H H1 → H1 p = some (.lst xs) → Q (.ref p) H1) : te σ H Q := h H (Ex.refl H) Q k
theorem rd_E {v : V} {Q : VK} (h : Ev te σ H v) (k : ∀ H1, Same H H1 → Q v H1) : te σ H Q := h H (Ex.refl H) Q k
theorem ev_yes : EvT tYes σ H true := fun H1 _ Q q => q H1 (Ex.refl H1)
/-- [te for j in text if t] -/
theorem el_lcS {l : List Nat} {j : Nat} {vs : List Nat} (p : Nat → Bool) (v : Nat → V) (h : Ev tl σ H (.str (tx l))) (hz : l.length ≤ 40000) (hw : ∀ x, wipe ((wipe σ vs).set j (some x)) vs = wipe σ vs)
    (ht : ∀ c ∈ l, ∀ H1, Ex H H1 → EvT t ((wipe σ vs).set j (some (.str (tx [c])))) H1 (p c)) (he : ∀ c ∈ l, ∀ H1, Ex H H1 → p c = true → Ev te ((wipe σ vs).set j (some (.str (tx [c])))) H1 (v c)) :
    EvL (tLc (iStr tl) (gName j) t te vs) σ H ((l.filter p).map v) := fun H0 e Q q => h H0 e _ fun H1 e1 => ⟨tx l, rfl, fun Dl hD => by
  have hn : (tx l).cps.size = l.length := tx_size l
  refine lc_it (G := fun _ => True) (walk_str (z := tx l)) (Cw H1 (fun i => p (l.getD i 0)) (fun i => v (l.getD i 0)) Dl) ⟨hD, Ex.new hD, upd_same⟩ (fun _ _ _ _ => trivial) (fun i x H' H'' hi pv hy => ?_) (fun H' pv => ?_)
  · obtain ⟨rfl, c, hc, rfl⟩ := hy
    rw [tx_get] at hc
    have hm : c ∈ l := List.mem_of_getElem? hc
    have hd : l.getD i 0 = c := by simp [List.getD, hc]
    refine ⟨hw _, ?_⟩
    have hi' : i < 50000 := by rw [hn] at hi; omega
    refine cw_turn pv hi' ?_ ?_
    · show EvT t _ H1 (p (l.getD i 0))
      rw [hd]
      exact ht c hm H1 (e.trans e1)
    · intro hf
      have hf' : p (l.getD i 0) = true := hf
      rw [hd] at hf'
      show Ev te _ H1 (v (l.getD i 0))
      rw [hd]
      exact he c hm H1 (e.trans e1) hf'
  · obtain ⟨p1, p2, p3⟩ := pv
    rw [hn, given_getD] at p3
    exact q Dl H' (fresh_back e1 p1) (e1.trans p2) p3⟩
/-- [te for a, b in zip(text, text)] -/
theorem el_lcZ {l m : List Nat} {a b : Nat} {vs : List Nat} {tz : TA} (v : Nat → Nat → V) (h : EvA tz σ H [.str (tx l), .str (tx m)]) (hlm : l.length = m.length) (hz : l.length ≤ 40000)
    (hw : ∀ x y, wipe (((wipe σ vs).set a (some x)).set b (some y)) vs = wipe σ vs)
    (hg : ∀ x y T σ' H' (R : L2.St → Hp → Prop), H' T = some (.tup [x, y]) → R ((σ'.set a (some x)).set b (some y)) H' → g (.ref T) σ' H' R)
    (he : ∀ c d H1, Ex H H1 → Ev te (((wipe σ vs).set a (some (.str (tx [c])))).set b (some (.str (tx [d])))) H1 (v c d)) :
    EvL (tLc (iZipS tz) g tYes te vs) σ H ((l.zip m).map fun p => v p.1 p.2) := fun H0 e Q q => h H0 e _ fun H1 e1 => ⟨tx l, tx m, rfl, fun Dl hD => by
  have hn : min (tx l).cps.size (tx m).cps.size = l.length := by rw [tx_size, tx_size]; omega
  have key : ((l.zip m).map fun p => v p.1 p.2) = given l.length (fun _ => true) (fun i => v (l.getD i 0) (m.getD i 0)) := by
    unfold given
    rw [List.filter_eq_self.mpr (fun _ _ => rfl)]
    apply List.ext_getElem?
    intro i
    rw [List.getElem?_map, List.getElem?_map]
    by_cases hi : i < l.length
    · have hi2 : i < m.length := by omega
      rw [List.getElem?_range hi]
      have : (l.zip m)[i]? = some (l[i], m[i]) := by
        rw [List.getElem?_zip_eq_some]
        exact ⟨List.getElem?_eq_getElem hi, List.getElem?_eq_getElem hi2⟩
      rw [this]
      simp [List.getD, List.getElem?_eq_getElem hi, List.getElem?_eq_getElem hi2]
    · have h1 : (l.zip m).length ≤ i := by rw [List.length_zip]; omega
      rw [List.getElem?_eq_none h1, List.getElem?_eq_none (by simpa using hi)]
      rfl
  refine lc_it (G := fun _ => True) (walk_zipS (x := tx l) (y := tx m)) (Cw H1 (fun _ => true) (fun i => v (l.getD i 0) (m.getD i 0)) Dl) ⟨hD, Ex.new hD, upd_same⟩ (fun _ _ _ _ => trivial) (fun i x H' H'' hi pv hy => ?_) (fun H' pv => ?_)
  · obtain ⟨T, c, d, rfl, hT, rfl, hc, hd⟩ := hy
    rw [tx_get] at hc hd
    have hc' : l.getD i 0 = c := by simp [List.getD, hc]
    have hd' : m.getD i 0 = d := by simp [List.getD, hd]
    refine hg _ _ T _ _ _ upd_same ⟨hw _ _, ?_⟩
    have hi' : i < 50000 := by rw [hn] at hi; omega
    obtain ⟨p1, p2, p3⟩ := pv
    have pv' : Cw H1 (fun _ => true) (fun i => v (l.getD i 0) (m.getD i 0)) Dl i (upd H' T (.tup [.str ⟨#[c]⟩, .str ⟨#[d]⟩])) := ⟨p1, p2.trans (Ex.new hT), by rw [upd_ne (ne_of_none p3 hT)]; exact p3⟩
    refine cw_turn pv' hi' ev_yes fun _ => ?_
    show Ev te _ H1 (v (l.getD i 0) (m.getD i 0))
    rw [hc', hd']
    exact he c d H1 (e.trans e1)
  · obtain ⟨p1, p2, p3⟩ := pv
    rw [key] at q
    rw [hn] at p3
    exact q Dl H' (fresh_back e1 p1) (e1.trans p2) p3⟩
end
end NW
namespace NW
open PySem PySem.Spec PyProof.Rows L2 Evl
theorem cut_from1 (xs : List V) : cutV xs (some 1) none = xs.drop 1 := by
  unfold cutV HT.sIx
  cases xs with
  | nil => rfl
  | cons x r =>
    simp
theorem cut_to1 (xs : List V) : cutV xs none (some 1) = xs.take 1 := by
  unfold cutV HT.sIx
  cases xs with
  | nil => rfl
  | cons x r =>
    simp
end NW

/-! Data: lists of ints and of texts, as == sees them. -/
namespace NW
open PySem PySem.Spec PyProof.Rows L2

def dInt (k : Nat) : PyData := .int (k : Nat)
def dTx (l : List Nat) : PyData := .str (tx l)
/-- kinds of items that == tells apart just as = does -/
structure Item {α : Type} (f : α → PyData) (n : Nat) (ok : α → Prop) : Prop where
  lay : ∀ a, ok a → (f a).canLay0 = true
  dep : ∀ a, (f a).depth ≤ n
  eqv : ∀ a b, PyData.eqv (f a) (f b) = true ↔ a = b
section
variable {α : Type} {f : α → PyData} {n : Nat} {ok : α → Prop}
theorem layAll (I : Item f n ok) : ∀ xs : List α, (∀ a ∈ xs, ok a) → PyData.canLayAll0 (xs.map f) = true
  | [], _ => by simp [PyData.canLayAll0]
  | a :: r, h => by simp [PyData.canLayAll0, I.lay a (h a List.mem_cons_self), layAll I r (fun b hb => h b (List.mem_cons_of_mem _ hb))]
theorem depAll (I : Item f n ok) : ∀ xs : List α, PyData.depthAll (xs.map f) ≤ n
  | [] => by simp [PyData.depthAll]
  | a :: r => by
    have h1 := I.dep a
    have h2 := depAll I r
    simp only [List.map_cons, PyData.depthAll]
    omega
theorem eqvAll_iff (I : Item f n ok) : ∀ xs ys : List α, PyData.eqvAll (xs.map f) (ys.map f) = true ↔ xs = ys
  | [], [] => by simp [PyData.eqvAll]
  | [], b :: r => by simp [PyData.eqvAll]
  | a :: r, [] => by simp [PyData.eqvAll]
  | a :: r, b :: q => by
    simp only [List.map_cons, PyData.eqvAll, Bool.and_eq_true, I.eqv, eqvAll_iff I r q, List.cons.injEq]
end
def dList {α : Type} (f : α → PyData) (xs : List α) : PyData := .list (xs.map f)
def dTup {α : Type} (f : α → PyData) (xs : List α) : PyData := .tuple (xs.map f)
def okInt : Nat → Prop := fun _ => True
def okTx : List Nat → Prop := fun l => PyData.strOk (tx l) = true
def okAll {α : Type} (ok : α → Prop) : List α → Prop := fun xs => ∀ a ∈ xs, ok a
theorem item_int : Item dInt 1 okInt := by
  refine ⟨fun a _ => by simp [dInt, PyData.canLay0], fun a => by simp [dInt, PyData.depth], fun a b => ?_⟩
  unfold dInt
  simp only [PyData.eqv, beq_iff_eq]
  omega
theorem item_tx : Item dTx 1 okTx := by
  refine ⟨fun a h => by simp only [dTx, PyData.canLay0]; exact h, fun a => by simp [dTx, PyData.depth], fun a b => ?_⟩
  unfold dTx
  simp only [PyData.eqv, beq_iff_eq]
  exact tx_eq
section
variable {α : Type} {f : α → PyData} {n : Nat} {ok : α → Prop}
theorem item_list (I : Item f n ok) : Item (dList f) (n + 1) (okAll ok) := by
  refine ⟨fun a h => ?_, fun a => ?_, fun a b => ?_⟩
  · simp only [dList, PyData.canLay0]; exact layAll I a h
  · have := depAll I a
    simp only [dList, PyData.depth]; omega
  · simp only [dList, PyData.eqv]; exact eqvAll_iff I a b
theorem item_tup (I : Item f n ok) : Item (dTup f) (n + 1) (okAll ok) := by
  refine ⟨fun a h => ?_, fun a => ?_, fun a b => ?_⟩
  · simp only [dTup, PyData.canLay0]; exact layAll I a h
  · have := depAll I a
    simp only [dTup, PyData.depth]; omega
  · simp only [dTup, PyData.eqv]; exact eqvAll_iff I a b
theorem Item.shaped (I : Item f n ok) (h : n ≤ 64) (a : α) (o : ok a) : SeqAt.shaped (f a) = true := by
  show ((f a).canLay0 && decide ((f a).depth ≤ 64)) = true
  rw [Bool.and_eq_true]
  exact ⟨I.lay a o, decide_eq_true (Nat.le_trans (I.dep a) h)⟩
theorem Item.eqd [DecidableEq α] (I : Item f n ok) (a b : α) : PyData.eqv (f a) (f b) = decide (a = b) := by
  by_cases h : a = b
  · rw [decide_eq_true h, (I.eqv a b).mpr h]
  · rw [decide_eq_false h, Bool.eq_false_iff]
    exact fun e => h ((I.eqv a b).mp e)
end
theorem ok_ints (ns : List Nat) : okAll okInt ns := fun _ _ => trivial
def vInts (ns : List Nat) : List V := ns.map fun k => .int (k : Nat)
def vTxs (cs : List (List Nat)) : List V := cs.map fun c => .str (tx c)
theorem dpAll_ints {K : PySem.W.Frag} {H : Hp} : ∀ ns : List Nat, DpAll K H (vInts ns) (ns.map dInt)
  | [] => .nil
  | n :: r => .cons (.int _) (dpAll_ints r)
theorem dpAll_txs {K : PySem.W.Frag} {H : Hp} : ∀ cs : List (List Nat), DpAll K H (vTxs cs) (cs.map dTx)
  | [] => .nil
  | n :: r => .cons (.str _) (dpAll_txs r)
theorem dp_ints {K : PySem.W.Frag} {H : Hp} {a : Addr} {ns : List Nat} (h : SqL K H a (vInts ns)) : Dp K H (.ref a) (dList dInt ns) := .lst h (dpAll_ints ns)
theorem dp_txs {K : PySem.W.Frag} {H : Hp} {a : Addr} {cs : List (List Nat)} (h : SqL K H a (vTxs cs)) : Dp K H (.ref a) (dList dTx cs) := .lst h (dpAll_txs cs)
section
variable {K : PySem.W.Frag} {H : Hp} {Q : VK}
theorem eqD_of {α : Type} [DecidableEq α] {f : α → PyData} {n : Nat} {ok : α → Prop} (I : Item f n ok) (hn : n ≤ 64) {x y : V} {a b : α} (oa : ok a) (ob : ok b) (hx : Dp K H x (f a)) (hy : Dp K H y (f b)) (h : Q (.bl (decide (a = b))) H) : rEqD K x y H Q :=
  ⟨f a, f b, hx, hy, I.shaped hn a oa, I.shaped hn b ob, by rw [I.eqd]; exact h⟩
theorem neD_of {α : Type} [DecidableEq α] {f : α → PyData} {n : Nat} {ok : α → Prop} (I : Item f n ok) (hn : n ≤ 64) {x y : V} {a b : α} (oa : ok a) (ob : ok b) (hx : Dp K H x (f a)) (hy : Dp K H y (f b)) (h : Q (.bl (!decide (a = b))) H) : rNeD K x y H Q :=
  ⟨f a, f b, hx, hy, I.shaped hn a oa, I.shaped hn b ob, by rw [I.eqd]; exact h⟩
end
theorem vTxs_get {cs : List (List Nat)} {i : Nat} (h : i < cs.length) : (vTxs cs)[i]? = some (.str (tx (cs.getD i []))) := by
  unfold vTxs
  rw [List.getElem?_map, List.getElem?_eq_getElem h]
  simp [List.getD, List.getElem?_eq_getElem h]
theorem vTxs_len (cs : List (List Nat)) : (vTxs cs).length = cs.length := by unfold vTxs; rw [List.length_map]
theorem vInts_len (ns : List Nat) : (vInts ns).length = ns.length := by unfold vInts; rw [List.length_map]
theorem vTxs_app (a b : List (List Nat)) : vTxs a ++ vTxs b = vTxs (a ++ b) := by unfold vTxs; rw [List.map_append]
theorem getD_mem {α : Type} {xs : List α} {i : Nat} {d : α} (h : i < xs.length) : xs.getD i d ∈ xs := by
  simp [List.getD, List.getElem?_eq_getElem h]
end NW

/-! Comprehensions with two fors, dict comprehensions, loops over texts; sets. -/
namespace NW
open PySem PySem.Spec PyProof.Rows L2 Evl

theorem rd_yes {σ : L2.St} {H : Hp} {Q : Bool → Hp → Prop} (h : Q true H) : tYes σ H Q := h
def vSgs (l : List Nat) : List V := l.map fun c => .str (tx [c])
theorem vSgs_len (l : List Nat) : (vSgs l).length = l.length := by unfold vSgs; rw [List.length_map]
theorem vSgs_get {l : List Nat} {i c : Nat} (h : l[i]? = some c) : (vSgs l)[i]? = some (.str (tx [c])) := by unfold vSgs; rw [List.getElem?_map, h]; rfl
theorem walk_sgs (l : List Nat) : Walk (Its (tx l)) (vSgs l).length (fun _ => True) (YAt (vSgs l)) := by
  have e : (vSgs l).length = (tx l).cps.size := by rw [vSgs_len, tx_size]
  rw [e]
  refine (walk_str (z := tx l)).mono (fun _ h => h) (fun i H x H' _ _ hy => ?_)
  obtain ⟨h1, c, hc, rfl⟩ := hy
  rw [tx_get] at hc
  exact ⟨h1, vSgs_get hc⟩
/-- what is walked: wi comes to J, of the items xs -/
structure Wk (wi : TI) (σ : L2.St) (H : Hp) (J : It) (G : Hp → Prop) (xs : List V) : Prop where
  walk : Walk J xs.length G (YAt xs)
  all : ∀ H2, Ex H H2 → G H2
  go : ∀ H1, Ex H H1 → ∀ R : It → Hp → Prop, (∀ H2, Ex H1 H2 → R J H2) → wi σ H1 R
section
variable {K : PySem.W.Frag} {σ : L2.St} {H H' : Hp} {ta tb te tl tk tv : TE} {t t1 : TT} {v : V} {wi wi1 : TI} {J J1 : It} {G G1 : Hp → Prop} {xs ys : List V}
theorem wk_str {l : List Nat} (h : Ev tl σ H (.str (tx l))) : Wk (iStr tl) σ H (Its (tx l)) (fun _ => True) (vSgs l) :=
  ⟨walk_sgs l, fun _ _ => trivial, fun H1 e R r => h H1 e _ fun H2 e2 => ⟨tx l, rfl, r H2 e2⟩⟩
theorem wk_list {a : Addr} (h : Ev tl σ H (.ref a)) (hs : SqL K H a xs) : Wk (iList K tl) σ H (Itl K a) (fun H => SqL K H a xs) xs :=
  ⟨walk_list, fun _ e => ex_l e hs, fun H1 e R r => h H1 e _ fun H2 e2 => ⟨a, rfl, ⟨xs, ex_l (e.trans e2) hs⟩, r H2 e2⟩⟩
theorem Wk.mono (h : Wk wi σ H J G xs) (e : Ex H H') : Wk wi σ H' J G xs := ⟨h.walk, fun H2 e2 => h.all H2 (e.trans e2), fun H1 e1 R r => h.go H1 (e.trans e1) R r⟩
/-- [te for j in .. if t] -/
theorem el_lc {j : Nat} {vs : List Nat} (hwk : Wk wi σ H J G xs) (p : V → Bool) (v : V → V) (hz : xs.length ≤ 40000) (hw : ∀ x, wipe ((wipe σ vs).set j (some x)) vs = wipe σ vs)
    (ht : ∀ x ∈ xs, ∀ H1, Ex H H1 → EvT t ((wipe σ vs).set j (some x)) H1 (p x)) (he : ∀ x ∈ xs, ∀ H1, Ex H H1 → p x = true → Ev te ((wipe σ vs).set j (some x)) H1 (v x)) :
    EvL (tLc wi (gName j) t te vs) σ H ((xs.filter p).map v) := fun H0 e Q q => hwk.go H0 e _ fun H1 e1 Dl hD => by
  refine lc_it (G := G) hwk.walk (Cw H1 (fun i => p (xs.getD i .non)) (fun i => v (xs.getD i .non)) Dl) ⟨hD, Ex.new hD, upd_same⟩ (fun _ _ _ pv => hwk.all _ ((e.trans e1).trans pv.2.1)) (fun i x H' H'' hi pv hy => ?_) (fun H' pv => ?_)
  · obtain ⟨rfl, hx⟩ := hy
    have hm : x ∈ xs := List.mem_of_getElem? hx
    have hd : xs.getD i .non = x := by simp [List.getD, hx]
    refine ⟨hw _, cw_turn pv (by omega) ?_ ?_⟩
    · show EvT t _ H1 (p (xs.getD i .non))
      rw [hd]
      exact ht x hm H1 (e.trans e1)
    · intro hf
      have hf' : p (xs.getD i .non) = true := hf
      rw [hd] at hf'
      show Ev te _ H1 (v (xs.getD i .non))
      rw [hd]
      exact he x hm H1 (e.trans e1) hf'
  · obtain ⟨p1, p2, p3⟩ := pv
    rw [given_getD] at p3
    exact q Dl H' (fresh_back e1 p1) (e1.trans p2) p3
theorem take_succ_get {α : Type} {l : List α} {i : Nat} {x : α} (h : l[i]? = some x) : l.take (i + 1) = l.take i ++ [x] := by
  rw [List.take_succ, h]
  rfl
theorem flat_len {xs : List V} {ys : List V} (p : V → V → Bool) (v : V → V → V) (i : Nat) : ((xs.take i).flatMap fun x => (ys.filter (p x)).map (v x)).length ≤ i * ys.length := by
  have h : ∀ l : List V, (l.flatMap fun x => (ys.filter (p x)).map (v x)).length ≤ l.length * ys.length := by
    intro l
    induction l with
    | nil => simp
    | cons x r ih =>
      have h1 := List.length_filter_le (p x) ys
      rw [List.flatMap_cons, List.length_append, List.length_map, List.length_cons, Nat.succ_mul]
      omega
  refine Nat.le_trans (h _) (Nat.mul_le_mul_right _ ?_)
  rw [List.length_take]
  omega
/-- [te for j in .. for j1 in .. if t1] -/
theorem el_lc2 {j j1 : Nat} {vs vs1 : List Nat} (hwk : Wk wi σ H J G xs) (hwk1 : ∀ x ∈ xs, Wk wi1 ((wipe σ vs).set j (some x)) H J1 G1 ys) (p : V → V → Bool) (v : V → V → V) (hz : xs.length * ys.length ≤ 40000)
    (hw : ∀ x, wipe ((wipe σ vs).set j (some x)) vs = wipe σ vs) (hw1 : ∀ x y, wipe ((wipe ((wipe σ vs).set j (some x)) vs1).set j1 (some y)) vs1 = wipe ((wipe σ vs).set j (some x)) vs1)
    (ht : ∀ x ∈ xs, ∀ y ∈ ys, ∀ H1, Ex H H1 → EvT t1 ((wipe ((wipe σ vs).set j (some x)) vs1).set j1 (some y)) H1 (p x y))
    (he : ∀ x ∈ xs, ∀ y ∈ ys, ∀ H1, Ex H H1 → p x y = true → Ev te ((wipe ((wipe σ vs).set j (some x)) vs1).set j1 (some y)) H1 (v x y)) :
    EvL (tLc2 wi (gName j) tYes wi1 (gName j1) t1 te vs vs1) σ H (xs.flatMap fun x => (ys.filter (p x)).map (v x)) := fun H0 e Q q => hwk.go H0 e _ fun H1 e1 Dl hD => by
  refine ⟨fun i m H' => m = xs.length - i ∧ i ≤ xs.length ∧ Ex H1 H' ∧ H' Dl = some (.lst ((xs.take i).flatMap fun x => (ys.filter (p x)).map (v x))), ⟨xs.length, by omega, Nat.zero_le _, Ex.new hD, by rw [upd_same]; rfl⟩, ?_⟩
  rintro i m H' ⟨rfl, hi, ex, hd⟩
  by_cases hlt : i < xs.length
  · refine .inr ⟨hwk.walk.goes i H' hlt (hwk.all _ ((e.trans e1).trans ex)), fun H2 => Ex H1 H2 ∧ H2 Dl = some (.lst ((xs.take (i + 1)).flatMap fun x => (ys.filter (p x)).map (v x))), fun H2 n => ⟨xs.length - (i + 1), by omega, rfl, hlt, n.1, n.2⟩, fun x H2 hy => ?_⟩
    obtain ⟨rfl, hx⟩ := hwk.walk.yields i H' x H2 hlt (hwk.all _ ((e.trans e1).trans ex)) hy
    have hm : x ∈ xs := List.mem_of_getElem? hx
    have w1 := hwk1 x hm
    refine ⟨hw x, rd_yes (iteT ?_)⟩
    have eH : Ex H H2 := (e.trans e1).trans ex
    refine w1.go H2 eH _ fun H3 e3 => ?_
    refine ⟨fun k m H4 => m = ys.length - k ∧ k ≤ ys.length ∧ Ex H1 H4 ∧ H4 Dl = some (.lst (((xs.take i).flatMap fun x => (ys.filter (p x)).map (v x)) ++ ((ys.take k).filter (p x)).map (v x))), ⟨ys.length, by omega, Nat.zero_le _, ex.trans e3, by rw [e3 _ _ hd]; simp⟩, ?_⟩
    rintro k m H4 ⟨rfl, hk, ex4, hd4⟩
    by_cases hlk : k < ys.length
    · refine .inr ⟨w1.walk.goes k H4 hlk (w1.all _ ((e.trans e1).trans ex4)), fun H5 => Ex H1 H5 ∧ H5 Dl = some (.lst (((xs.take i).flatMap fun x => (ys.filter (p x)).map (v x)) ++ ((ys.take (k + 1)).filter (p x)).map (v x))), fun H5 n => ⟨ys.length - (k + 1), by omega, rfl, hlk, n.1, n.2⟩, fun y H5 hy => ?_⟩
      obtain ⟨rfl, hy2⟩ := w1.walk.yields k H4 y H5 hlk (w1.all _ ((e.trans e1).trans ex4)) hy
      have hmy : y ∈ ys := List.mem_of_getElem? hy2
      refine ⟨hw1 x y, ?_⟩
      have e5 : Ex H H5 := (e.trans e1).trans ex4
      refine ht x hm y hmy H1 (e.trans e1) H5 ex4 _ fun H6 e6 => ?_
      have hd6 := e6 _ _ hd4
      cases hp : p x y with
      | true =>
        refine iteT ?_
        refine he x hm y hmy H1 (e.trans e1) hp H6 (ex4.trans e6) _ fun H7 e7 => ⟨_, e7 _ _ hd6, ?_, ?_⟩
        · have h1 := flat_len (xs := xs) (ys := ys) p v i
          have h2 := List.length_filter_le (p x) (ys.take k)
          rw [List.length_append, List.length_map]
          rw [List.length_take] at h2
          have h3 : (i + 1) * ys.length ≤ xs.length * ys.length := Nat.mul_le_mul_right _ hlt
          rw [Nat.succ_mul] at h3
          exact sz_lt (by omega)
        · have eD : Ex H1 (upd H7 Dl (.lst (((xs.take i).flatMap fun x => (ys.filter (p x)).map (v x)) ++ ((ys.take k).filter (p x)).map (v x) ++ [v x y]))) := Ex.mut ((ex4.trans e6).trans e7) hD
          refine ⟨eD, ?_⟩
          rw [upd_same, take_succ_get hy2, List.filter_append, List.map_append, List.append_assoc]
          simp [hp]
      | false =>
        refine iteF ?_
        refine ⟨ex4.trans e6, ?_⟩
        rw [hd6, take_succ_get hy2, List.filter_append]
        simp [hp]
    · obtain rfl : k = ys.length := by omega
      refine .inl ⟨w1.walk.stops H4 (w1.all _ ((e.trans e1).trans ex4)), ex4, ?_⟩
      rw [hd4, take_succ_get hx, List.flatMap_append, List.take_length]
      simp
  · obtain rfl : i = xs.length := by omega
    refine .inl ⟨hwk.walk.stops H' (hwk.all _ ((e.trans e1).trans ex)), q Dl H' (fresh_back e1 hD) (e1.trans ex) ?_⟩
    rw [hd, List.take_length]
/-- {tk: tv for j in ..} -/
def dcRun (k : V → Key) (v : V → V) (xs : List V) : List (Key × V) := xs.foldl (fun acc x => putK acc (k x) (v x)) []
theorem dcRun_len (k : V → Key) (v : V → V) (xs : List V) : (dcRun k v xs).length ≤ xs.length := by
  have h : ∀ (l : List V) (acc : List (Key × V)), (l.foldl (fun acc x => putK acc (k x) (v x)) acc).length ≤ acc.length + l.length := by
    intro l
    induction l with
    | nil => intro acc; simp
    | cons x r ih =>
      intro acc
      have h1 := ih (putK acc (k x) (v x))
      have h2 := length_putK acc (k x) (v x)
      rw [List.foldl_cons, List.length_cons]
      omega
  have := h xs []
  simpa [dcRun] using this
theorem dcRun_succ {k : V → Key} {v : V → V} {xs : List V} {i : Nat} {x : V} (h : xs[i]? = some x) : dcRun k v (xs.take (i + 1)) = putK (dcRun k v (xs.take i)) (k x) (v x) := by
  unfold dcRun
  rw [take_succ_get h, List.foldl_append]
  rfl
theorem rd_dc {j : Nat} {vs : List Nat} {Q : VK} (hwk : Wk wi σ H J G xs) (k : V → Key) (v : V → V) (hz : xs.length ≤ 40000) (hw : ∀ x, wipe ((wipe σ vs).set j (some x)) vs = wipe σ vs)
    (hk : ∀ x ∈ xs, ∀ H1, Ex H H1 → Ev tk ((wipe σ vs).set j (some x)) H1 (kV (k x))) (he : ∀ x ∈ xs, ∀ H1, Ex H H1 → Ev tv ((wipe σ vs).set j (some x)) H1 (v x))
    (q : ∀ p H1, H p = none → Same H H1 → H1 p = some (.dK (dcRun k v xs)) → Q (.ref p) H1) : tDc wi (gName j) tYes tk tv vs σ H Q := hwk.go H (Ex.refl H) _ fun H1 e1 Dl hD => by
  refine ⟨fun i m H' => m = xs.length - i ∧ i ≤ xs.length ∧ Ex H1 H' ∧ H' Dl = some (.dK (dcRun k v (xs.take i))), ⟨xs.length, by omega, Nat.zero_le _, Ex.new hD, by rw [upd_same]; rfl⟩, ?_⟩
  rintro i m H' ⟨rfl, hi, ex, hd⟩
  by_cases hlt : i < xs.length
  · refine .inr ⟨hwk.walk.goes i H' hlt (hwk.all _ (e1.trans ex)), fun H2 => Ex H1 H2 ∧ H2 Dl = some (.dK (dcRun k v (xs.take (i + 1)))), fun H2 n => ⟨xs.length - (i + 1), by omega, rfl, hlt, n.1, n.2⟩, fun x H2 hy => ?_⟩
    obtain ⟨rfl, hx⟩ := hwk.walk.yields i H' x H2 hlt (hwk.all _ (e1.trans ex)) hy
    have hm : x ∈ xs := List.mem_of_getElem? hx
    refine ⟨hw x, rd_yes (iteT ?_)⟩
    refine hk x hm H1 e1 H2 ex _ fun H3 e3 => he x hm H1 e1 H3 (ex.trans e3) _ fun H4 e4 => ⟨_, k x, rfl, e4 _ _ (e3 _ _ hd), ?_, ?_⟩
    · have h1 := dcRun_len k v (xs.take i)
      rw [List.length_take] at h1
      exact sz_lt (by omega)
    · refine ⟨Ex.mut ((ex.trans e3).trans e4) hD, ?_⟩
      rw [upd_same, dcRun_succ hx]
  · obtain rfl : i = xs.length := by omega
    refine .inl ⟨hwk.walk.stops H' (hwk.all _ (e1.trans ex)), q Dl H' (fresh_back e1 hD) (e1.trans ex) ?_⟩
    rw [hd, List.take_length]
theorem dcRun_nodup {k : V → Key} {v : V → V} : ∀ {xs : List V}, (xs.map k).Nodup → dcRun k v xs = xs.map fun x => (k x, v x) := by
  have key : ∀ (l : List V) (acc : List (Key × V)), (l.map k).Nodup → (∀ x ∈ l, valV acc (k x) = none) → l.foldl (fun acc x => putK acc (k x) (v x)) acc = acc ++ l.map fun x => (k x, v x) := by
    intro l
    induction l with
    | nil => intro acc _ _; simp
    | cons x r ih =>
      intro acc hn hv
      rw [List.map_cons, List.nodup_cons] at hn
      rw [List.foldl_cons, putK_new _ (hv x List.mem_cons_self), ih _ hn.2 (fun y hy => ?_)]
      · simp
      · have hne : ¬ k x = k y := fun e => hn.1 (by rw [e]; exact List.mem_map.mpr ⟨y, hy, rfl⟩)
        have h0 := hv y (List.mem_cons_of_mem _ hy)
        unfold valV at h0 ⊢
        rw [Option.map_eq_none_iff] at h0 ⊢
        rw [List.find?_append, h0]
        simp [hne]
  intro xs h
  have := key xs [] h (fun _ _ => rfl)
  simpa [dcRun] using this
/-- a for loop over such a thing -/
theorem rd_for {g : TG} {tb : TS} {D : Ends} (hwk : Wk wi σ H J G xs) (Pv : Nat → L2.St → Hp → Prop) (h0 : ∀ H1, Same H H1 → Pv 0 σ H1) (hG : ∀ i σ' H', i ≤ xs.length → Pv i σ' H' → G H')
    (hs : ∀ i x σ' H', xs[i]? = some x → Pv i σ' H' → g x σ' H' fun σ2 H2 => tb { D with nx := Pv (i + 1), ct := Pv (i + 1), bk := D.nx } σ2 H2) (hd : ∀ σ' H', Pv xs.length σ' H' → D.nx σ' H') : tFor wi g tb D σ H :=
  hwk.go H (Ex.refl H) _ fun H1 e1 => for_it (G := G) hwk.walk Pv (h0 H1 e1) hG (fun i x σ' H' H'' hi pv hy => by
    obtain ⟨rfl, hx⟩ := hy
    exact hs i x σ' H'' hx pv) hd
theorem rd_sadd {P : Program} {w : World} {to : TE} {tA : TA} {Q : VK} (h : to σ H fun x H1 => (∃ a S n, x = V.ref a ∧ H1 a = some (SetK P w a S n)) ∧ tA σ H1 fun xs H2 => rSAddK P w x xs H2 Q) : tSAddK P w to tA σ H Q := h
theorem rd_forT {g : TG} {tb : TS} {D : Ends} (h : wi σ H fun J H1 => ∃ W : Nat → Nat → L2.St → Hp → Prop, (∃ m, W 0 m σ H1) ∧ ∀ i m σ H, W i m σ H →
  (J.stop i H ∧ D.nx σ H) ∨ (J.go i H ∧ ∃ N : L2.St → Hp → Prop, (∀ σ' H', N σ' H' → ∃ m', m' < m ∧ W (i + 1) m' σ' H') ∧ ∀ x H', J.yld i H x H' → g x σ H' fun σ2 H2 => tb { D with nx := N, ct := N, bk := D.nx } σ2 H2)) : tFor wi g tb D σ H := h
end
end NW

/-! Slices of lists and texts; comprehensions over new lists. -/
namespace NW
open PySem PySem.Spec PyProof.Rows L2 Evl
theorem cutV_to (xs : List V) (k : Nat) : cutV xs none (some (k : Int)) = xs.take k := by
  unfold cutV
  rw [HT.sIx_none, HT.sIx_nat, List.drop_zero, Nat.sub_zero]
  by_cases h : k ≤ xs.length
  · rw [Nat.min_eq_left h]
  · rw [Nat.min_eq_right (by omega), List.take_length, List.take_of_length_le (by omega)]
theorem cutV_from (xs : List V) (k : Nat) : cutV xs (some (k : Int)) none = xs.drop k := by
  unfold cutV
  rw [HT.sIx_none, HT.sIx_nat]
  by_cases h : k ≤ xs.length
  · rw [Nat.min_eq_left h, List.take_of_length_le (by rw [List.length_drop]; omega)]
  · rw [Nat.min_eq_right (by omega), List.drop_length, List.drop_of_length_le (by omega)]
    simp
theorem cutS_to (l : List Nat) (k : Nat) : cutS (tx l) none (some (k : Int)) = tx (l.take k) := by
  unfold cutS tx
  simp only [HT.sIx_none, HT.sIx_nat, Nat.sub_zero]
  show (⟨_⟩ : Str) = _
  congr 1
  simp [Str.length]
theorem cutS_from (l : List Nat) (k : Nat) : cutS (tx l) (some (k : Int)) none = tx (l.drop k) := by
  unfold cutS tx
  simp only [HT.sIx_none, HT.sIx_nat]
  show (⟨_⟩ : Str) = _
  congr 1
  simp [Str.length]
  by_cases h : k ≤ l.length
  · rw [Nat.min_eq_left h, List.take_of_length_le (by rw [List.length_drop]; omega)]
  · rw [Nat.min_eq_right (by omega)]
    simp
    omega
section
variable {K : PySem.W.Frag} {σ : L2.St} {H H' : Hp} {ta tb te tl tk tv : TE} {t t1 : TT} {v : V} {xs ys : List V} {Q : VK}
theorem el_slA {tl th : TO} {a : Addr} {lo hi : Option Int} (h : Ev te σ H (.ref a)) (h1 : EvO tl σ H lo) (h2 : EvO th σ H hi) (hs : SqL K H a xs) : EvL (tSl (rSlA2 K) te tl th) σ H (cutV xs lo hi) := fun H1 e _ q =>
  h H1 e _ fun H2 e2 => h1 H2 (e.trans e2) _ fun H3 e3 => h2 H3 ((e.trans e2).trans e3) _ fun H4 e4 =>
    .inl ⟨a, xs, rfl, ex_l (((e.trans e2).trans e3).trans e4) hs, fun p hp => q p _ (fresh_back ((e2.trans e3).trans e4) hp) (((e2.trans e3).trans e4).trans (Ex.new hp)) upd_same⟩
theorem el_lcN {j : Nat} {vs : List Nat} (p : V → Bool) (v : V → V) (h : EvL tl σ H xs) (hz : xs.length ≤ 40000) (hw : ∀ x, wipe ((wipe σ vs).set j (some x)) vs = wipe σ vs)
    (ht : ∀ x ∈ xs, ∀ H1, Ex H H1 → EvT t ((wipe σ vs).set j (some x)) H1 (p x)) (he : ∀ x ∈ xs, ∀ H1, Ex H H1 → p x = true → Ev te ((wipe σ vs).set j (some x)) H1 (v x)) :
    EvL (tLc (iList K tl) (gName j) t te vs) σ H ((xs.filter p).map v) := by
  rw [← given_getD (d := V.non) xs p v]
  refine el_lcNL _ _ h hz hw (fun i x H1 e hx => ?_) (fun i x H1 e hx hf => ?_)
  · have hd : xs.getD i .non = x := by simp [List.getD, hx]
    show EvT t _ H1 (p (xs.getD i .non))
    rw [hd]
    exact ht x (List.mem_of_getElem? hx) H1 e
  · have hd : xs.getD i .non = x := by simp [List.getD, hx]
    have hf' : p (xs.getD i .non) = true := hf
    rw [hd] at hf'
    show Ev te _ H1 (v (xs.getD i .non))
    rw [hd]
    exact he x (List.mem_of_getElem? hx) H1 e hf'
theorem sl_s {l : List Nat} {lo hi : Option Int} {m : List Nat} (e : cutS (tx l) lo hi = tx m) (z : l.length ≤ 100000) (h : Q (.str (tx m)) H) : rSlA2 K (.str (tx l)) lo hi H Q :=
  .inr ⟨tx l, rfl, by rw [tx_length]; exact Nat.le_trans z (by decide), by rw [e]; exact h⟩
theorem sl_l {a : Addr} {lo hi : Option Int} (hs : SqL K H a xs) (h : ∀ p, H p = none → Q (.ref p) (upd H p (.lst (cutV xs lo hi)))) : rSlA2 K (.ref a) lo hi H Q := .inl ⟨a, xs, rfl, hs, h⟩
/-- for i in range(n) -/
theorem rd_rng {j : Nat} {tb : TS} {D : Ends} {tA : TA} {n : Nat} (hn : n ≤ 100000) (h : EvA tA σ H [.int (n : Nat)]) (Pv : Nat → L2.St → Hp → Prop) (h0 : ∀ H1, Same H H1 → Pv 0 σ H1)
    (hs : ∀ (i : Nat) σ' H', i < n → Pv i σ' H' → tb { D with nx := Pv (i + 1), ct := Pv (i + 1), bk := D.nx } (σ'.set j (some (.int (i : Nat)))) H') (hd : ∀ σ' H', Pv n σ' H' → D.nx σ' H') : tFor (iRng1 tA) (gName j) tb D σ H :=
  s_forR1 h ⟨by omega, by omega⟩ Pv h0 (fun i σ' H' hi p => hs i σ' H' (by omega) p) (fun σ' H' p => hd σ' H' (by simpa using p))
end
end NW

/-! list(text), tuple(text). -/
namespace NW
open PySem PySem.Spec PyProof.Rows L2 Evl
theorem vals_sgs {l : List Nat} {acc : Array Value} (h : ItemsOf (SignAt (tx l)) acc (tx l).cps.size) : Vals (vSgs l) acc.toList := by
  obtain ⟨h1, h2⟩ := h
  rw [tx_size] at h1
  refine vals_of_at (by rw [vSgs_len, ← h1]; exact (Array.length_toList (xs := acc)).symm) fun j x u hx hu => ?_
  obtain ⟨c, t, hc, rfl⟩ := h2 j u (by rw [← hu, Array.getElem?_toList])
  rw [tx_get] at hc
  rw [vSgs_get hc] at hx
  cases hx
  exact ⟨t, rfl⟩
section
variable {X : Cx}
def rListS : List V → Hp → VK → Prop := fun xs H Q => ∃ l : List Nat, xs = [.str (tx l)] ∧ l.length ≤ 100000 ∧ ∀ p, H p = none → Q (.ref p) (upd H p (.lst (vSgs l)))
theorem call_listS (hc : X.calm = true) : CallR X (.type "list") rListS := by
  intro pins s σ H xs us Q I r h
  obtain ⟨l, rfl, hz, q⟩ := h
  obtain ⟨u, rfl, rx⟩ := vals1 r
  obtain ⟨t, rfl⟩ := rx
  have hn : (tx l).cps.size ≤ sizeLine := by rw [tx_size]; exact Nat.le_trans hz (by decide)
  refine call_list_str (I.ok.hd hc) (tx l) t (fun h' tk acc c' hk e hi => ?_) hn
  refine ⟨.ref s.heap.objs.size, _, I.laid (t' := tk) hk (Nat.le_refl _) (show ObjOk X.prog X.w _ _ _ (.lst (vSgs l)) from ⟨?_, acc.toList, c', vals_sgs hi, ?_⟩), rfl, q _ (I.hok.fresh (Nat.le_refl _))⟩
  · rw [vSgs_len, ← tx_size]; exact hn
  · rw [Array.toArray_toList]; exact e
def rTupS : List V → Hp → VK → Prop := fun xs H Q => ∃ l : List Nat, xs = [.str (tx l)] ∧ l.length ≤ 100000 ∧ ∀ p H', H p = none → Same H H' → H' p = some (.tup (vSgs l)) → Q (.ref p) H'
theorem call_tupS (hc : X.calm = true) : CallR X (.type "tuple") rTupS := by
  intro pins s σ H xs us Q I r h
  obtain ⟨l, rfl, hz, q⟩ := h
  obtain ⟨u, rfl, rx⟩ := vals1 r
  obtain ⟨t, rfl⟩ := rx
  have hn : (tx l).cps.size ≤ sizeLine := by rw [tx_size]; exact Nat.le_trans hz (by decide)
  refine call_tuple_str (I.ok.hd hc) (tx l) t (fun h' tk acc hk hi => ?_) hn
  have I2 : Inv X pins σ H { s with heap := h', toks := tk } := I.kept hk
  refine ⟨.ref h'.objs.size, upd H h'.objs.size (.tup (vSgs l)), I2.laid (t' := tk) (fun c o e => Heap.get?_push_of_some _ e) (Nat.le_refl _) (show ObjOk X.prog X.w _ _ _ (.tup (vSgs l)) from ⟨?_, acc.toList, vals_sgs hi, ?_⟩), rfl, q _ _ (I2.hok.fresh (Nat.le_refl _)) (Same.new (I2.hok.fresh (Nat.le_refl _))) upd_same⟩
  · rw [vSgs_len, ← tx_size]; exact hn
  · rw [Array.toArray_toList]; exact IsTup.new _ _
def rListB (K : PySem.W.Frag) : List V → Hp → VK → Prop := fun xs H Q => rListA K xs H Q ∨ rListS xs H Q
theorem call_listB {K : PySem.W.Frag} (h : X.K = K) (hc : X.calm = true) : CallR X (.type "list") (rListB K) := CallR.or (call_listK h) (call_listS hc)
end
section
variable {K : PySem.W.Frag} {H : Hp} {Q : VK}
theorem list_t {l : List Nat} (hz : l.length ≤ 100000) (h : ∀ p, H p = none → Q (.ref p) (upd H p (.lst (vSgs l)))) : rListB K [.str (tx l)] H Q := .inr ⟨l, rfl, hz, h⟩
theorem list_b {p : Addr} {ys : List V} (hs : SqL K H p ys) (h : ∀ l, H l = none → Q (.ref l) (upd H l (.lst ys))) : rListB K [.ref p] H Q := .inl (list_l hs h)
theorem tup_t {l : List Nat} (hz : l.length ≤ 100000) (h : ∀ p H', H p = none → Same H H' → H' p = some (.tup (vSgs l)) → Q (.ref p) H') : rTupS [.str (tx l)] H Q := ⟨l, rfl, hz, h⟩
end
section
variable {σ : L2.St} {H : Hp} {Q : VK} {D : Ends}
theorem rd_dnewK (h : ∀ p, H p = none → Q (.ref p) (upd H p (.dK []))) : tDNewK σ H Q := h
def rFindS : V → List V → Hp → VK → Prop := fun x xs H Q => ∃ a b, x = .str a ∧ xs = [.str b] ∧ Q (.int (Txt.find a b)) H
theorem mt_findA {X : Cx} : MtR X "str.find" rFindS := mt_find
def rUpS : V → List V → Hp → VK → Prop := fun x xs H Q => ∃ a, x = .str a ∧ xs = [] ∧ a.length ≤ 5592405 ∧ Q (.str (Txt.upper a)) H
theorem mt_upperA {X : Cx} : MtR X "str.upper" rUpS := mt_upper
def rLoS : V → List V → Hp → VK → Prop := fun x xs H Q => ∃ a, x = .str a ∧ xs = [] ∧ a.length ≤ 5592405 ∧ Q (.str (Txt.lower a)) H
theorem mt_lowerA {X : Cx} : MtR X "str.lower" rLoS := mt_lower
theorem ty_str {K : PySem.W.Frag} {z : Str} : tyV K "str" (.str z) H := rfl
theorem find_s {x y : Str} (h : Q (.int (Txt.find x y)) H) : rFindS (.str x) [.str y] H Q := ⟨x, y, rfl, rfl, h⟩
theorem put_l {l : Addr} {xs : List V} {y : V} (hl : H l = some (.lst xs)) (z : xs.length ≤ 100000) (h : Q .non (upd H l (.lst (xs ++ [y])))) : rAppend (.ref l) [y] H Q :=
  ⟨l, xs, y, rfl, rfl, hl, Nat.lt_of_le_of_lt z (by decide), h⟩
theorem ty_lst {K : PySem.W.Frag} {l : Addr} {xs : List V} (hl : SqL K H l xs) : tyV K "list" (.ref l) H := .inl ⟨rfl, xs, hl⟩
end
theorem both {c : Bool} {A B : Prop} (h1 : A) (h2 : B) : if c = true then A else B := by cases c <;> simp [h1, h2]
theorem rd_tyS {K : PySem.W.Frag} {z : Str} {H : Hp} {p : Prop} (h : p) : tyV K "str" (.str z) H ∧ p := ⟨rfl, h⟩
theorem atI_end {α : Type} {l : List α} (h : l ≠ []) : ∃ c ∈ l, atI l (-1) = some c ∧ ∃ r, l = r ++ [c] := by
  obtain ⟨r, c, rfl⟩ : ∃ r c, l = r ++ [c] := ⟨l.dropLast, l.getLast h, (List.dropLast_concat_getLast h).symm⟩
  exact ⟨c, by simp, atI_last r c, r, rfl⟩
theorem atI_0 {α : Type} {l : List α} (h : l ≠ []) : ∃ c ∈ l, atI l 0 = some c := by
  match l, h with
  | a :: r, _ => exact ⟨a, List.mem_cons_self, atI_nat (xs := a :: r) (j := 0) rfl⟩
section
variable {X : Cx} {K : PySem.W.Frag}
theorem pe_bmA {T : String} {r : V → List V → Hp → VK → Prop} {o e : Expr} {es : List Expr} {to : TE} {t : TA} {nm : Str} {apos cpos : Pos}
    (h : X.K = K) (p : PE X (.Call (.Attribute o nm apos) (e :: es) [] cpos) (tBM X.K T r to t)) : PE X (.Call (.Attribute o nm apos) (e :: es) [] cpos) (tBM K T r to t) := h ▸ p
end
def dBl (b : Bool) : PyData := .bool b
theorem item_bl : Item dBl 1 (fun _ => True) := by
  refine ⟨fun a _ => by simp [dBl, PyData.canLay0], fun a => by simp [dBl, PyData.depth], fun a b => ?_⟩
  unfold dBl
  simp [PyData.eqv]
def vBls (bs : List Bool) : List V := bs.map V.bl
theorem dpAll_bls {K : PySem.W.Frag} {H : Hp} : ∀ bs : List Bool, DpAll K H (vBls bs) (bs.map dBl)
  | [] => .nil
  | b :: r => .cons (.bl _) (dpAll_bls r)
theorem dp_bls {K : PySem.W.Frag} {H : Hp} {a : Addr} {bs : List Bool} (h : SqL K H a (vBls bs)) : Dp K H (.ref a) (dList dBl bs) := .lst h (dpAll_bls bs)
def rInTD (K : PySem.W.Frag) : R2 := fun x y H Q => ∃ d ds, Dp K H x d ∧ Dp K H y (.tuple ds) ∧ SeqAt.shaped d = true ∧ SeqAt.shaped (.tuple ds) = true ∧ Q (.bl (ds.any fun z => PyData.eqv z d)) H
theorem op_inTD {X : Cx} (hu : X.A.units + 65 < cLine) : OpR X (compareOp .In) (rInTD X.K) := by
  intro pins s σ H x y v u Q I rx ry h
  obtain ⟨d, ds, hd, he, sd, se, q⟩ := h
  obtain ⟨as, r1⟩ := Dp.reads I d x v hd rx
  obtain ⟨bs, r2⟩ := Dp.reads I (.tuple ds) y u he ry
  exact SeqAt.in_tuple_reads r2 r1 (SeqAt.canLay_of_shaped se) (SeqAt.canLay_of_shaped sd) (room_in_shaped sd hu) ⟨.bl _, H, I, rfl, q⟩
theorem op_inTDK {X : Cx} {K : PySem.W.Frag} (h : X.K = K) (hu : X.A.units + 65 < cLine) : OpR X (compareOp .In) (rInTD K) := h ▸ op_inTD hu
theorem vSgs_txs (l : List Nat) : vSgs l = vTxs (l.map fun c => [c]) := by
  unfold vSgs vTxs
  rw [List.map_map]
  rfl
theorem exm_of {K : PySem.W.Frag} {c x : Addr} {b : Bool} (h1 : PySem.W.subIn K (.ref c) (.type "BaseException") = some true) (h2 : PySem.W.isClsIn K c = true) (h3 : PySem.W.typeIn K (.ref c) = some (.type "type"))
    (h4 : PySem.W.subIn K (.ref x) (.ref c) = some b) : PySem.W.exmOne K (.ref x) (.ref c) = some b := by
  have e1 : (PySem.W.subIn K (.ref c) (.type "BaseException") == some true) = true := by rw [h1] <;> rfl
  have e2 : ((PySem.W.clsIn K c).isSome && PySem.W.typeIn K (.ref c) == some (.type "type")) = true := by
    have h2' : (PySem.W.clsIn K c).isSome = true := h2
    rw [h2', h3] <;> rfl
  show (if (PySem.W.subIn K (.ref c) (.type "BaseException") == some true) = true then (if ((PySem.W.clsIn K c).isSome && PySem.W.typeIn K (.ref c) == some (.type "type")) = true then PySem.W.subIn K (.ref x) (.ref c) else none) else none) = some b
  rw [if_pos e1, if_pos e2]
  exact h4
end NW

/-! Comprehensions over a dict's items; what is locked meanwhile. -/
namespace NW
open PySem PySem.Spec PyProof.Rows L2 Evl
section
variable {K : PySem.W.Frag} {σ : L2.St} {H H' : Hp} {td te : TE} {t : TT} {g : TG}
theorem rd_lockE {t : TE} {Q : VK} (d : Addr) (u : HO) (hd : H d = some u) (m : Mut (some u)) (h : ∀ od, t σ (upd H d (.frz od u)) fun v H' => H' d = some (.frz od u) ∧ Q v (upd H' d u)) : tLockE t σ H Q := ⟨d, u, hd, m, h⟩
theorem lock_back {d : Addr} {u x : HO} {H1 : Hp} (hd : H d = some u) (s : Same (upd H d x) H1) : Same H (upd H1 d u) := fun b o e => by
  by_cases hb : b = d
  · rw [hb, upd_same, ← hd, ← hb]
    exact e.symm ▸ rfl
  · rw [upd_ne hb]
    exact s b o (by rw [upd_ne hb]; exact e)
theorem lock_free {d p : Addr} {x : HO} (h : upd H d x p = none) : p ≠ d ∧ H p = none := by
  have n : p ≠ d := fun e => by rw [e, upd_same] at h; cases h
  exact ⟨n, by rwa [upd_ne n] at h⟩
def kv0 : Key × V := (Sum.inl 0, .non)
/-- [te for a, b in d.items() if t] -/
theorem el_lcI {d : Addr} {od : Obj} {kvs : List (Key × V)} {a b : Nat} {vs : List Nat} (p : Key × V → Bool) (v : Key × V → V) (h : Ev td σ H (.ref d)) (hd : H d = some (.frz od (.dK kvs))) (hz : kvs.length ≤ 40000)
    (hw : ∀ x y, wipe (((wipe σ vs).set a (some x)).set b (some y)) vs = wipe σ vs)
    (hg : ∀ x y T σ' H' (R : L2.St → Hp → Prop), H' T = some (.tup [x, y]) → R ((σ'.set a (some x)).set b (some y)) H' → g (.ref T) σ' H' R)
    (ht : ∀ kv ∈ kvs, ∀ H1, Ex H H1 → EvT t (((wipe σ vs).set a (some (kV kv.1))).set b (some kv.2)) H1 (p kv))
    (he : ∀ kv ∈ kvs, ∀ H1, Ex H H1 → p kv = true → Ev te (((wipe σ vs).set a (some (kV kv.1))).set b (some kv.2)) H1 (v kv)) :
    EvL (tLc (iItems td) g t te vs) σ H ((kvs.filter p).map v) := fun H0 e Q q => h H0 e _ fun H1 e1 => ⟨d, od, kvs, rfl, e1 _ _ (e _ _ hd), fun Dl hD => by
  have hd1 : H1 d = some (.frz od (.dK kvs)) := e1 _ _ (e _ _ hd)
  refine lc_it (G := fun H => H d = some (.frz od (.dK kvs))) (walk_items (d := d) (o := od) (kvs := kvs)) (Cw H1 (fun i => p (kvs.getD i kv0)) (fun i => v (kvs.getD i kv0)) Dl) ⟨hD, Ex.new hD, upd_same⟩ (fun _ _ _ pv => pv.2.1 _ _ hd1) (fun i x H' H'' hi pv hy => ?_) (fun H' pv => ?_)
  · obtain ⟨T, k, w, rfl, hT, rfl, hk, hv⟩ := hy
    have hx : kvs[i]? = some (kvs.getD i kv0) := by simp [List.getD, List.getElem?_eq_getElem hi]
    have hk' : (kvs[i]?).map (fun kv => kV kv.1) = some k := hk
    have hv' : (kvs[i]?).map Prod.snd = some w := hv
    rw [hx] at hk' hv'
    cases hk'
    cases hv'
    have hm : kvs.getD i kv0 ∈ kvs := List.mem_of_getElem? hx
    refine hg _ _ T _ _ _ upd_same ⟨hw _ _, ?_⟩
    have hi' : i < 50000 := by omega
    obtain ⟨p1, p2, p3⟩ := pv
    have pv' : Cw H1 (fun i => p (kvs.getD i kv0)) (fun i => v (kvs.getD i kv0)) Dl i (upd H' T (.tup [kV (kvs.getD i kv0).1, (kvs.getD i kv0).2])) := ⟨p1, p2.trans (Ex.new hT), by rw [upd_ne (ne_of_none p3 hT)]; exact p3⟩
    exact cw_turn pv' hi' (ht _ hm H1 (e.trans e1)) fun hf => he _ hm H1 (e.trans e1) hf
  · obtain ⟨p1, p2, p3⟩ := pv
    rw [given_getD] at p3
    exact q Dl H' (fresh_back e1 p1) (e1.trans p2) p3⟩
theorem rd_rev {j n : Nat} {tb : TS} {D : Ends} (hn : n ≤ 100000) (h : Ev te σ H (.int (n : Nat))) (Pv : Nat → L2.St → Hp → Prop) (h0 : ∀ H1, Same H H1 → Pv 0 σ H1)
    (hs : ∀ (i : Nat) σ' H', i < n → Pv i σ' H' → tb { D with nx := Pv (i + 1), ct := Pv (i + 1), bk := D.nx } (σ'.set j (some (.int ((n - 1 - i : Nat) : Int)))) H') (hd : ∀ σ' H', Pv n σ' H' → D.nx σ' H') : tFor (iRevR (tRg1 te)) (gName j) tb D σ H := by
  refine h H (Ex.refl H) _ fun H1 e1 => ⟨(n : Nat), rfl, by omega, by omega, by omega, by omega, ?_⟩
  have e : (((n : Nat) : Int) - 0).toNat = n := by omega
  rw [e]
  refine for_it (G := fun _ => True) walk_rangeC Pv (h0 H1 e1) (fun _ _ _ _ _ => trivial) (fun i x σ' H' H'' hi pv hy => ?_) hd
  obtain ⟨rfl, rfl⟩ := hy
  have e2 : (0 : Int) + ((n : Nat) : Int) - 1 + (i : Nat) * (-1) = ((n - 1 - i : Nat) : Int) := by omega
  show tb _ (σ'.set j (some (.int ((0 : Int) + ((n : Nat) : Int) - 1 + (i : Nat) * (-1))))) _
  rw [e2]
  exact hs i σ' _ hi pv
theorem rd_rv {l : Addr} {xs : List V} {Q : VK} (hl : H l = some (.lst xs)) (h : Q .non (upd H l (.lst xs.reverse))) : rReverse (.ref l) [] H Q := ⟨l, xs, rfl, rfl, hl, h⟩
end
section
variable {X : Cx}
/-- name = {..} by a comprehension, on one line, the name a local -/
theorem ps_setDc {i : Nat} {y : Str} {py : Pos} {kx vx tg iter : Expr} {ifs : List Expr} {scope : Scope} {own : List (Str × Nat)} {pos spos : Pos} {wi : TI} {g : TG} {tt : TT} {tk tv : TE} (hc : X.calm = true) (hN : X.N.Nodup) (hy : X.N[i]? = some y) (hyl : X.env.scope.names.lookup y = some .local)
    (hsw : swapsWith (.DictComp kx vx [⟨tg, iter, ifs, 0⟩] scope pos) (some (.Name y py)) spos.line X.env = pure true) (hi : PI X tg iter wi) (ok : BlkOk X.N X.env.scope scope own)
    (hg : ∀ (s : Shared) (H : Hp) (C : Addr) (cl : List (Str × Addr)) (fp : List Addr), PG (X.blk s H scope (compEnvC scope cl C X.env) fp) tg g) (ht : ∀ (s : Shared) (H : Hp) (C : Addr) (cl : List (Str × Addr)) (fp : List Addr), PTs (X.blk s H scope (compEnvC scope cl C X.env) fp) ifs tt)
    (hk : ∀ (s : Shared) (H : Hp) (C : Addr) (cl : List (Str × Addr)) (fp : List Addr), PE (X.blk s H scope (compEnvC scope cl C X.env) fp) kx tk)
    (he : ∀ (s : Shared) (H : Hp) (C : Addr) (cl : List (Str × Addr)) (fp : List Addr), PE (X.blk s H scope (compEnvC scope cl C X.env) fp) vx tv) (hs : ∀ x, foldedSetIterable iter X.env x = pure x := by intro _; rfl) :
    PS X (.Assign [.Name y py] (.DictComp kx vx [⟨tg, iter, ifs, 0⟩] scope pos) spos) (tAsg (tDc wi g tt tk tv (own.map (·.2))) (gName i)) := by
  refine ⟨fun pins s σ H D I h => ?_⟩
  rw [exec_Assign_Name_used _ _ _ _ hsw]
  refine wpAny_bind (wpAny_standAt (wpAny_bind ?_))
  show wpAny _ X.A (do let _ ← comprehension (.DictComp kx vx [⟨tg, iter, ifs, 0⟩] scope pos) scope X.env (firstIterPos [⟨tg, iter, ifs, 0⟩] pos) newDict false (eval iter X.env) (some (assign (.Name y py) X.env))) _ _ s
  have h : tDc wi g tt tk tv (own.map (·.2)) σ H (fun x H1 => gName i x σ H1 D.nx) := h
  refine wpAny_bind (thn (dc_core (Qf := fun _ s' => SP X pins D .next s') hc hN I hi ok hg ht hk he hs h fun L C s' m H' I' q hn f => ?_) fun _ s' hq => wpAny_pure (wpAny_pure hq))
  show wpAny _ _ (assign (.Name y py) X.env (.ref L)) _ _ _
  refine wpAny_assign_Name (store_ok2 (v := V.ref L) I' hN hy (.inl hyl) rfl (fun s2 I2 ⟨a, sb, ha⟩ => ?_) (.inr hyl))
  obtain ⟨f0, f1, f2, f3, f4, f5⟩ := f
  have haC : C ≠ a := by
    rcases ha with z | z
    · rw [z]; exact f1
    · exact fun e => f4 y a z e.symm
  refine ⟨m, hn.sameBut sb haC, fun h3 sb3 => ?_⟩
  exact ⟨_, H', I2.turned (t' := s2.toks) (fun b o hb e => (sb3.2 b hb).trans e) f0 f1 f3 f4 f5, q⟩
theorem swd_true {kx vx : Expr} {gs : List Comprehension} {scope : Scope} {pos py : Pos} {y : Str} {l : Nat} {env : Env} (hk : env.scope.kind = .function) (hy : env.scope.names.lookup y = some .local) (hl : (py.line == pos.line) = true)
    (ha : (scope.names.any fun (n, k) => n == y && (k == .local || k == .cell)) = false) : swapsWith (.DictComp kx vx gs scope pos) (some (.Name y py)) l env = pure true := by
  have ky : env.kindOf y = some .local := hy
  have hb : env.blockKind = .function := by unfold Env.blockKind; rw [hk]; rfl
  unfold swapsWith
  simp only [hb, ky, ha, Expr.pos, hl]
  rfl
end
end NW

/-! Comprehensions over a dict's items that make new objects. -/
namespace NW
open PySem PySem.Spec PyProof.Rows L2 Evl
def Pairs {α β : Type} (R : α → β → Prop) (xs : List α) (ys : List β) : Prop := xs.length = ys.length ∧ ∀ (i : Nat) (x : α) (y : β), xs[i]? = some x → ys[i]? = some y → R x y
theorem Pairs.nil {α β : Type} {R : α → β → Prop} : Pairs R [] [] := ⟨rfl, fun _ _ _ h => by cases h⟩
theorem Pairs.mono {α β : Type} {R S : α → β → Prop} {xs : List α} {ys : List β} (p : Pairs R xs ys) (h : ∀ x y, R x y → S x y) : Pairs S xs ys := ⟨p.1, fun i x y a b => h x y (p.2 i x y a b)⟩
theorem Pairs.snoc {α β : Type} {R : α → β → Prop} {xs : List α} {ys : List β} {x : α} {y : β} (p : Pairs R xs ys) (h : R x y) : Pairs R (xs ++ [x]) (ys ++ [y]) := by
  obtain ⟨hl, p⟩ := p
  refine ⟨by rw [List.length_append, List.length_append, hl]; rfl, fun i a b ha hb => ?_⟩
  by_cases hi : i < xs.length
  · rw [List.getElem?_append_left hi] at ha
    rw [List.getElem?_append_left (by omega)] at hb
    exact p i a b ha hb
  · rw [List.getElem?_append_right (by omega)] at ha
    rw [List.getElem?_append_right (by omega), ← hl] at hb
    have : i - xs.length = 0 := by
      have := (List.getElem?_eq_some_iff.mp ha).1
      simp at this
      omega
    rw [this] at ha hb
    cases ha
    cases hb
    exact h
section
variable {K : PySem.W.Frag} {σ : L2.St} {H H' : Hp} {td te : TE} {t : TT} {g : TG} {Q : VK}
theorem rd_lcI {d : Addr} {od : Obj} {kvs : List (Key × V)} {a b : Nat} {vs : List Nat} (p : Key × V → Bool) (Rl : Hp → Key × V → V → Prop) (h : Ev td σ H (.ref d)) (hd : H d = some (.frz od (.dK kvs))) (hz : kvs.length ≤ 40000)
    (hw : ∀ x y, wipe (((wipe σ vs).set a (some x)).set b (some y)) vs = wipe σ vs)
    (hg : ∀ x y T σ' H' (R : L2.St → Hp → Prop), H' T = some (.tup [x, y]) → R ((σ'.set a (some x)).set b (some y)) H' → g (.ref T) σ' H' R)
    (ht : ∀ kv ∈ kvs, ∀ H1, Ex H H1 → EvT t (((wipe σ vs).set a (some (kV kv.1))).set b (some kv.2)) H1 (p kv))
    (he : ∀ kv ∈ kvs, ∀ H1, Ex H H1 → p kv = true → ∀ Q' : VK, (∀ v H2, Ex H1 H2 → Rl H2 kv v → Q' v H2) → te (((wipe σ vs).set a (some (kV kv.1))).set b (some kv.2)) H1 Q')
    (hx : ∀ H1 H2 kv v, Ex H1 H2 → Rl H1 kv v → Rl H2 kv v) (hm : ∀ H1 D xs o kv v, H1 D = some (.lst xs) → Rl H1 kv v → Rl (upd H1 D o) kv v)
    (q : ∀ P H1 us, H P = none → Ex H H1 → H1 P = some (.lst us) → Pairs (Rl H1) (kvs.filter p) us → Q (.ref P) H1) : tLc (iItems td) g t te vs σ H Q :=
  h H (Ex.refl H) _ fun H1 e1 => ⟨d, od, kvs, rfl, e1 _ _ hd, fun Dl hD => by
  have hd1 : H1 d = some (.frz od (.dK kvs)) := e1 _ _ hd
  refine lc_it (G := fun H => H d = some (.frz od (.dK kvs))) (walk_items (d := d) (o := od) (kvs := kvs)) (fun i H' => Ex H1 H' ∧ ∃ acc, H' Dl = some (.lst acc) ∧ acc.length ≤ i ∧ Pairs (Rl H') ((kvs.take i).filter p) acc)
    ⟨Ex.new hD, [], upd_same, Nat.le_refl _, Pairs.nil⟩ (fun _ _ _ pv => pv.1 _ _ hd1) (fun i x H' H'' hi pv hy => ?_) (fun H' pv => ?_)
  · obtain ⟨T, k, w, rfl, hT, rfl, hk, hv⟩ := hy
    have hxi : kvs[i]? = some (kvs.getD i kv0) := by simp [List.getD, List.getElem?_eq_getElem hi]
    have hk' : (kvs[i]?).map (fun kv => kV kv.1) = some k := hk
    have hv' : (kvs[i]?).map Prod.snd = some w := hv
    rw [hxi] at hk' hv'
    cases hk'
    cases hv'
    have hmm : kvs.getD i kv0 ∈ kvs := List.mem_of_getElem? hxi
    refine hg _ _ T _ _ _ upd_same ⟨hw _ _, ?_⟩
    obtain ⟨p1, acc, p2, p3, p4⟩ := pv
    have p1' : Ex H1 (upd H' T (.tup [kV (kvs.getD i kv0).1, (kvs.getD i kv0).2])) := p1.trans (Ex.new hT)
    refine ht _ hmm H1 e1 _ p1' _ fun H3 e3 => ?_
    have p2' := e3 _ _ (upd_keep hT p2 : upd H' T (.tup [kV (kvs.getD i kv0).1, (kvs.getD i kv0).2]) Dl = some (.lst acc))
    have p4' : Pairs (Rl H3) ((kvs.take i).filter p) acc := p4.mono fun kv v r => hx _ _ _ _ ((Ex.new hT).trans e3) r
    cases hp : p (kvs.getD i kv0) with
    | false =>
      refine iteF ⟨p1'.trans e3, acc, p2', by omega, ?_⟩
      rw [take_succ_get hxi, List.filter_append]
      have e5 : [kvs.getD i kv0].filter p = [] := by rw [List.filter_cons, hp]; rfl
      rw [e5, List.append_nil]
      exact p4'
    | true =>
      refine iteT (he _ hmm H3 (e1.trans (p1'.trans e3)) hp _ fun v H4 e4 r => ⟨acc, e4 _ _ p2', sz_lt (by omega), (NW.Same.mut ((p1'.trans e3).trans e4) hD : Ex H1 _), acc ++ [v], upd_same, by rw [List.length_append]; exact Nat.add_le_add_right p3 1, ?_⟩)
      rw [take_succ_get hxi, List.filter_append]
      have e5 : [kvs.getD i kv0].filter p = [kvs.getD i kv0] := by rw [List.filter_cons, hp]; rfl
      rw [e5]
      exact ((p4'.mono fun kv u r => hx _ _ _ _ e4 r).snoc r).mono fun kv u r => hm _ _ _ _ _ _ (e4 _ _ p2') r
  · obtain ⟨p1, acc, p2, p3, p4⟩ := pv
    rw [List.take_length] at p4
    exact q Dl H' acc (fresh_back e1 hD) (e1.trans p1) p2 p4⟩
end
def ipA : TIp := fun x y H Q => (∃ i j, x = .int i ∧ y = .int j ∧ Q (.int (i + j)) H) ∨ ∃ i j, x = .str i ∧ y = .str j ∧ i.length + j.length ≤ sizeLine ∧ Q (.str (i ++ j)) H
theorem ip_addA {X : Cx} : PIp X .Add ipA := by
  intro pins s σ H x y v u Q I r1 r2 h
  rcases h with h | h
  · exact ip_add pins s σ H x y v u Q I r1 r2 h
  · exact iop_add_str pins s σ H x y v u Q I r1 r2 h
theorem ipA_s {l m : List Nat} {H : Hp} {Q : VK} (z : l.length + m.length ≤ 100000) (h : Q (.str (tx (l ++ m))) H) : ipA (.str (tx l)) (.str (tx m)) H Q :=
  .inr ⟨tx l, tx m, rfl, rfl, by rw [tx_length, tx_length]; exact Nat.le_trans z (by decide), by rw [tx_append]; exact h⟩
end NW

/-! isinstance of what an except clause holds; numbers: bit_length, ranges of what a call gives, whiles. -/
namespace NW
open PySem PySem.Spec PyProof.Rows L2 Evl
/-- isinstance(e, c), e what the suite holds -/
def rIsEx (K : PySem.W.Frag) (cls : Value) (d : Option Addr) (a : Addr) : List V → Hp → VK → Prop := fun xs H Q => ∃ (D : Addr) (c : V) (cv : Value) (b : Bool), cls = .ref D ∧ d = none ∧ ExcC K D ∧ xs = [.ref a, c] ∧ (∀ u, RelV c u → u = cv) ∧ PySem.W.kitOne K (.ref D) cv = some b ∧ Q (.bl b) H
theorem call_isEx {X : Cx} {K : PySem.W.Frag} (h : X.K = K) {a : Addr} {oe : Obj} {cls : Value} {d : Option Addr} {pn : List (Addr × Obj)} (hz : Zc cls d oe) (hf : ∃ vs, oe.data = .fields vs) : CallR (X.suite a ((a, oe) :: pn)) (.builtin "isinstance") (rIsEx K cls d a) := by
  subst h
  intro pins s σ H xs us Q I r hh
  obtain ⟨D, c, cv, b, rfl, rfl, C, rfl, hcv, e, q⟩ := hh
  exact call_isE C hz hf pins s σ H _ us Q I r ⟨c, cv, b, rfl, hcv, e, q⟩
theorem kit_self {K : PySem.W.Frag} {t : Value} : PySem.W.kitOne K t t = some true := by
  unfold PySem.W.kitOne
  rw [if_pos (by simp)]
theorem kit_own {K : PySem.W.Frag} {x c : Addr} {b : Bool} (h2 : PySem.W.isClsIn K c = true) (h3 : PySem.W.typeIn K (.ref c) = some (.type "type")) (h4 : PySem.W.subIn K (.ref x) (.ref c) = some b) (h5 : x = c → b = true) : PySem.W.kitOne K (.ref x) (.ref c) = some b := by
  have e2 : ((PySem.W.clsIn K c).isSome && PySem.W.typeIn K (.ref c) == some (.type "type")) = true := by
    have h2' : (PySem.W.clsIn K c).isSome = true := h2
    rw [h2', h3] <;> rfl
  unfold PySem.W.kitOne
  by_cases e : x = c
  · subst e
    rw [if_pos (by simp), h5 rfl]
  · rw [if_neg (by simpa using e)]
    show (if ((PySem.W.clsIn K c).isSome && PySem.W.typeIn K (.ref c) == some (.type "type")) = true then PySem.W.subIn K (.ref x) (.ref c) else none) = some b
    rw [if_pos e2]
    exact h4
section
variable {σ : L2.St} {H : Hp} {Q : VK} {D : Ends} {te : TE} {tA : TA} {tu : TS} {t : TT}
theorem rd_bits (h : te σ H fun x H1 => ∃ i, x = .int i ∧ Q (.int (Builtin.Int.intBits i : Nat)) H1) : tBits te σ H Q := h
theorem rd_aug {i : Nat} {ti : TIp} (x : V) (e : σ[i]? = some (some x)) (h : te σ H fun y H1 => ti x y H1 fun z H2 => D.nx (σ.set i (some z)) H2) : tAug i te ti D σ H := ⟨x, e, h⟩
theorem ipA_i {i j : Int} (h : Q (.int (i + j)) H) : ipA (.int i) (.int j) H Q := .inl ⟨i, j, rfl, rfl, h⟩
theorem ipI_i {g : Int → Int → Int} {i j : Int} (h : Q (.int (g i j)) H) : ipI g (.int i) (.int j) H Q := ⟨i, j, rfl, rfl, h⟩
/-- for j in range(what a call gives) -/
theorem rd_rngC {j : Nat} (h : tA σ H fun vs H1 => ∃ n : Nat, vs = [.int (n : Nat)] ∧ n ≤ 100000 ∧ ∃ Pv : Nat → L2.St → Hp → Prop, Pv 0 σ H1 ∧
    (∀ (i : Nat) σ' H', i < n → Pv i σ' H' → tu { D with nx := Pv (i + 1), ct := Pv (i + 1), bk := D.nx } (σ'.set j (some (.int (i : Nat)))) H') ∧ ∀ σ' H', Pv n σ' H' → D.nx σ' H') (mono : ∀ (Q Q' : List V → Hp → Prop), (∀ vs H1, Q vs H1 → Q' vs H1) → tA σ H Q → tA σ H Q') : tFor (iRng1 tA) (gName j) tu D σ H := by
  refine mono _ _ (fun vs H1 hq => ?_) h
  obtain ⟨n, rfl, hn, Pv, h0, hs, hd⟩ := hq
  refine ⟨(n : Nat), rfl, by omega, by omega, for_range (lo := 0) (n := n) Pv h0 (fun i σ' H' hi p => ?_) hd⟩
  have e0 : (0 : Int) + (i : Int) = (i : Int) := Int.zero_add _
  show tu { D with nx := Pv (i + 1), ct := Pv (i + 1), bk := D.nx } (σ'.set j (some (.int ((0 : Int) + (i : Int))))) H'
  rw [e0]
  exact hs i σ' H' hi p
/-- the range's end is told: what stands behind -/
theorem rng_at {H1 : Hp} {j n : Nat} (hn : n ≤ 100000) (Pv : Nat → L2.St → Hp → Prop) (h0 : Pv 0 σ H1)
    (hs : ∀ (i : Nat) σ' H', i < n → Pv i σ' H' → tu { D with nx := Pv (i + 1), ct := Pv (i + 1), bk := D.nx } (σ'.set j (some (.int (i : Nat)))) H') (hd : ∀ σ' H', Pv n σ' H' → D.nx σ' H') :
    ∃ k : Int, [V.int (n : Nat)] = [.int k] ∧ -(2 ^ 62) ≤ k ∧ k < 2 ^ 62 ∧ (∃ W : Nat → Nat → L2.St → Hp → Prop, (∃ m, W 0 m σ H1) ∧ ∀ i m σ H, W i m σ H →
  ((Itr 0 k.toNat).stop i H ∧ D.nx σ H) ∨ ((Itr 0 k.toNat).go i H ∧ ∃ N : L2.St → Hp → Prop, (∀ σ' H', N σ' H' → ∃ m', m' < m ∧ W (i + 1) m' σ' H') ∧ ∀ x H', (Itr 0 k.toNat).yld i H x H' → gName j x σ H' fun σ2 H2 => tu { D with nx := N, ct := N, bk := D.nx } σ2 H2)) := by
  refine ⟨(n : Nat), rfl, by omega, by omega, for_range (lo := 0) (n := n) Pv h0 (fun i σ' H' hi p => ?_) hd⟩
  have e0 : (0 : Int) + (i : Int) = (i : Int) := Int.zero_add _
  show tu { D with nx := Pv (i + 1), ct := Pv (i + 1), bk := D.nx } (σ'.set j (some (.int ((0 : Int) + (i : Int))))) H'
  rw [e0]
  exact hs i σ' H' hi p
theorem rd_for1 {j : Nat} (h : tA σ H fun vs H1 => ∃ k : Int, vs = [.int k] ∧ -(2 ^ 62) ≤ k ∧ k < 2 ^ 62 ∧ (∃ W : Nat → Nat → L2.St → Hp → Prop, (∃ m, W 0 m σ H1) ∧ ∀ i m σ H, W i m σ H →
  ((Itr 0 k.toNat).stop i H ∧ D.nx σ H) ∨ ((Itr 0 k.toNat).go i H ∧ ∃ N : L2.St → Hp → Prop, (∀ σ' H', N σ' H' → ∃ m', m' < m ∧ W (i + 1) m' σ' H') ∧ ∀ x H', (Itr 0 k.toNat).yld i H x H' → gName j x σ H' fun σ2 H2 => tu { D with nx := N, ct := N, bk := D.nx } σ2 H2))) : tFor (iRng1 tA) (gName j) tu D σ H := h
/-- while, by a measure of the state -/
theorem rd_while (Pv : L2.St → Hp → Prop) (μ : L2.St → Nat) (h0 : Pv σ H)
    (hs : ∀ σ' H', Pv σ' H' → ∃ b, EvT t σ' H' b ∧ (b = true → ∀ H1, Ex H' H1 → tu { D with nx := fun σ2 H2 => Pv σ2 H2 ∧ μ σ2 < μ σ', ct := fun σ2 H2 => Pv σ2 H2 ∧ μ σ2 < μ σ', bk := D.nx } σ' H1) ∧ (b = false → ∀ H1, Ex H' H1 → D.nx σ' H1)) : tWhile t tu D σ H := by
  refine s_while (fun m σ' H' => m = μ σ' ∧ Pv σ' H') (μ σ) ⟨rfl, h0⟩ ?_
  rintro m σ' H' ⟨rfl, p⟩
  obtain ⟨b, hb, h1, h2⟩ := hs σ' H' p
  exact ⟨b, hb, fun e H1 x => ⟨_, fun σ2 H2 q => ⟨_, q.2, rfl, q.1⟩, h1 e H1 x⟩, h2⟩
/-- except x as n -/
theorem as_hit {K : PySem.W.Frag} {Wo : WX} {c x : Value} {d : Option Addr} {i : Nat} {ts : Addr → Value → Option Addr → TS}
    (h : PySem.W.exmOne K x c = some true) (k : ∀ a, H a = none → ts a x d { nx := fun σ' H' => D.nx (σ'.set i none) H', rt := D.rt, bk := fun σ' H' => D.bk (σ'.set i none) H', ct := fun σ' H' => D.ct (σ'.set i none) H' } (σ.set i (some (.ref a))) H) : WE (wAs K c i ts Wo D) σ x d H :=
  ⟨true, h, fun _ => k, fun e => (by cases e)⟩
/-- [te for j in range(lo, n) if t] -/
theorem el_lcR2 {j : Nat} {vs : List Nat} {lo n : Int} {te : TE} (f : Nat → Bool) (v : Nat → V) (h : EvA tA σ H [.int lo, .int n]) (hn : 0 ≤ lo ∧ lo ≤ 40000 ∧ -40000 ≤ n ∧ n ≤ 40000) (hw : ∀ x, wipe ((wipe σ vs).set j (some x)) vs = wipe σ vs)
    (ht : ∀ (i : Nat) H1, Ex H H1 → lo + (i : Int) < n → EvT t ((wipe σ vs).set j (some (.int (lo + (i : Int))))) H1 (f i)) (he : ∀ (i : Nat) H1, Ex H H1 → lo + (i : Int) < n → f i = true → Ev te ((wipe σ vs).set j (some (.int (lo + (i : Int))))) H1 (v i)) :
    EvL (tLc (iRng2 tA) (gName j) t te vs) σ H (given (n - lo).toNat f v) := fun H0 e Q q => h H0 e _ fun H1 e1 => ⟨lo, n, rfl, ⟨by omega, by omega, by omega, by omega⟩, fun Dl hD =>
  lc_range (lo := lo) (n := (n - lo).toNat) (Cw H1 f v Dl) ⟨hD, Ex.new hD, upd_same⟩ (fun i H' hi p =>
    ⟨hw _, cw_turn p (by omega) (ht i H1 (e.trans e1) (by omega)) (fun hf => he i H1 (e.trans e1) (by omega) hf)⟩) (fun H' p => q Dl H' (fresh_back e1 p.1) (e1.trans p.2.1) p.2.2)⟩
end
end NW

/-! Comprehensions whose turns change what stands; loops over the list that a call gives. -/
namespace NW
open PySem PySem.Spec PyProof.Rows L2 Evl
section
variable {K : PySem.W.Frag} {σ : L2.St} {H : Hp} {Q : VK} {D : Ends} {te tl : TE} {tA : TA} {tu : TS} {t : TT} {g : TG}
/-- [te for j in range(n)], each turn by a word -/
theorem rd_lcM {j : Nat} {vs : List Nat} {n : Int} (h : EvA tA σ H [.int n]) (hn : 0 ≤ n ∧ n ≤ 40000) (hw : ∀ x, wipe ((wipe σ vs).set j (some x)) vs = wipe σ vs) (Pv : Addr → Nat → List V → Hp → Prop)
    (h0 : ∀ H1 L, Same H H1 → H1 L = none → Pv L 0 [] (upd H1 L (.lst [])))
    (hs : ∀ L (i : Nat) acc H' (Q' : VK), (i : Int) < n → acc.length = i → Pv L i acc H' → H' L = some (.lst acc) → (∀ y H4, H4 L = some (.lst acc) → Pv L (i + 1) (acc ++ [y]) (upd H4 L (.lst (acc ++ [y]))) → Q' y H4) → te ((wipe σ vs).set j (some (.int (i : Int)))) H' Q')
    (hd : ∀ L acc H', acc.length = n.toNat → Pv L n.toNat acc H' → H' L = some (.lst acc) → Q (.ref L) H') : tLc (iRng1 tA) (gName j) tYes te vs σ H Q :=
  h H (Ex.refl H) _ fun H1 e1 => ⟨n, rfl, by omega, by omega, fun L hL =>
  lc_range (lo := 0) (n := n.toNat) (fun i H' => ∃ acc, acc.length = i ∧ Pv L i acc H' ∧ H' L = some (.lst acc)) ⟨[], rfl, h0 H1 L e1 hL, upd_same⟩ (fun i H' hi p => by
    obtain ⟨acc, hl, p, hL'⟩ := p
    have e0 : (0 : Int) + (i : Int) = (i : Int) := Int.zero_add _
    show wipe ((wipe σ vs).set j (some (.int ((0 : Int) + (i : Int))))) vs = wipe σ vs ∧ tYes ((wipe σ vs).set j (some (.int ((0 : Int) + (i : Int))))) H' fun b H3 => if b = true then te ((wipe σ vs).set j (some (.int ((0 : Int) + (i : Int))))) H3 fun y H4 => ∃ acc, H4 L = some (.lst acc) ∧ acc.length < sizeLine ∧ ∃ acc', acc'.length = i + 1 ∧ Pv L (i + 1) acc' (upd H4 L (.lst (acc ++ [y]))) ∧ upd H4 L (.lst (acc ++ [y])) L = some (.lst acc') else ∃ acc', acc'.length = i + 1 ∧ Pv L (i + 1) acc' H3 ∧ H3 L = some (.lst acc')
    rw [e0]
    refine ⟨hw _, rd_yes (iteT ?_)⟩
    refine hs L i acc H' _ (by omega) hl p hL' fun y H4 h4 p4 => ⟨acc, h4, sz_lt (by omega), acc ++ [y], by rw [List.length_append, hl]; rfl, p4, upd_same⟩) (fun H' p => by
      obtain ⟨acc, hl, p, hL'⟩ := p
      exact hd L acc H' hl p hL')⟩
theorem rd_nx {n b c : L2.St → Hp → Prop} {r : VK} {σ : L2.St} {H : Hp} (h : n σ H) : ({ nx := n, rt := r, bk := b, ct := c } : Ends).nx σ H := h
/-- for x in what a call gives -/
theorem rd_forL (h : tl σ H fun x H1 => ∃ a, x = .ref a ∧ (∃ xs, SqL K H1 a xs) ∧ ∃ W : Nat → Nat → L2.St → Hp → Prop, (∃ m, W 0 m σ H1) ∧ ∀ i m σ H, W i m σ H →
  ((Itl K a).stop i H ∧ D.nx σ H) ∨ ((Itl K a).go i H ∧ ∃ N : L2.St → Hp → Prop, (∀ σ' H', N σ' H' → ∃ m', m' < m ∧ W (i + 1) m' σ' H') ∧ ∀ x H', (Itl K a).yld i H x H' → g x σ H' fun σ2 H2 => tu { D with nx := N, ct := N, bk := D.nx } σ2 H2)) : tFor (iList K tl) g tu D σ H := h
theorem lst_at {H1 : Hp} {a : Addr} {xs : List V} (hs : SqL K H1 a xs) (Pv : Nat → L2.St → Hp → Prop) (h0 : Pv 0 σ H1) (hG : ∀ i σ' H', i ≤ xs.length → Pv i σ' H' → SqL K H' a xs)
    (hn : ∀ i x σ' H', xs[i]? = some x → Pv i σ' H' → g x σ' H' fun σ2 H2 => tu { D with nx := Pv (i + 1), ct := Pv (i + 1), bk := D.nx } σ2 H2) (hd : ∀ σ' H', Pv xs.length σ' H' → D.nx σ' H') :
    ∃ a', V.ref a = .ref a' ∧ (∃ xs, SqL K H1 a' xs) ∧ ∃ W : Nat → Nat → L2.St → Hp → Prop, (∃ m, W 0 m σ H1) ∧ ∀ i m σ H, W i m σ H →
  ((Itl K a').stop i H ∧ D.nx σ H) ∨ ((Itl K a').go i H ∧ ∃ N : L2.St → Hp → Prop, (∀ σ' H', N σ' H' → ∃ m', m' < m ∧ W (i + 1) m' σ' H') ∧ ∀ x H', (Itl K a').yld i H x H' → g x σ H' fun σ2 H2 => tu { D with nx := N, ct := N, bk := D.nx } σ2 H2) := by
  refine ⟨a, rfl, ⟨xs, hs⟩, for_it (G := fun H => SqL K H a xs) walk_list Pv h0 hG (fun i x σ' H' H'' hi p hy => ?_) hd⟩
  obtain ⟨rfl, hx⟩ := hy
  exact hn i x σ' _ hx p
end
end NW

/-! Indexes in texts and lists of texts; comprehensions that make new objects, over any walk. -/
namespace NW
open PySem PySem.Spec PyProof.Rows L2 Evl
section
variable {K : PySem.W.Frag} {σ : L2.St} {H : Hp} {Q : VK} {D : Ends} {te tl : TE} {tA : TA} {tu : TS} {t : TT} {g : TG}
def rIdxS : V → List V → Hp → VK → Prop := fun x xs H Q => ∃ a b i rest, x = .str a ∧ xs = [.str b] ∧ Builtin.Str.occurrences a b 0 a.length 1 = i :: rest ∧ Q (.int (i : Nat)) H
theorem mt_sindexA {X : Cx} : MtR X "str.index" rIdxS := mt_sindex
theorem occ_one {l : List Nat} {c j : Nat} (hn : l.Nodup) (hj : l[j]? = some c) : ∃ rest, Builtin.Str.occurrences (tx l) (tx [c]) 0 (tx l).length 1 = j :: rest := by
  have h1 : (!(Builtin.Str.occurrences (tx l) (tx [c]) 0 (tx l).length 1).isEmpty) = true := by
    have := StrLaws.found_one (tx l) c
    rw [show (⟨#[c]⟩ : Str) = tx [c] from rfl] at this
    rw [this]
    exact decide_eq_true (List.mem_of_getElem? hj)
  cases ho : Builtin.Str.occurrences (tx l) (tx [c]) 0 (tx l).length 1 with
  | nil => rw [ho] at h1; cases h1
  | cons i r =>
    have h2 := StrLaws.occ_spec (tx l) (tx [c]) 0 (tx l).length 1 i (by rw [ho]; exact List.mem_cons_self)
    have h3 := (StrLaws.subAt_one (tx l) c i).mp h2
    have h3 : l[i]? = some c := h3
    have hi := (List.getElem?_eq_some_iff.mp h3).1
    have hjl := (List.getElem?_eq_some_iff.mp hj).1
    have e : i = j := (List.getElem?_inj hi hn).mp (h3.trans hj.symm)
    exact ⟨r, by rw [e]⟩
theorem index_s {l : List Nat} {c j : Nat} (hn : l.Nodup) (hj : l[j]? = some c) (h : Q (.int (j : Nat)) H) : rIdxS (.str (tx l)) [.str (tx [c])] H Q := by
  obtain ⟨r, hr⟩ := occ_one hn hj
  exact ⟨tx l, tx [c], j, r, rfl, rfl, hr, h⟩
theorem mt_indexK {X : Cx} (h : X.K = K) : MtR X "list.index" (rIndex K) := h ▸ mt_index
theorem flat_txs : ∀ cs : List (List Nat), (vTxs cs).all flatV = true
  | [] => rfl
  | c :: r => by
    show (flatV (V.str (tx c)) && (vTxs r).all flatV) = true
    rw [flat_txs r]
    rfl
theorem eqV_tx {a b : List Nat} : eqV (.str (tx a)) (.str (tx b)) = decide (a = b) := by
  by_cases h : a = b
  · subst h
    rw [decide_eq_true rfl]
    show decide (tx a = tx a) = true
    simp
  · rw [decide_eq_false h]
    show decide (tx a = tx b) = false
    exact decide_eq_false fun e => h (tx_inj e)
theorem index_l {a : Addr} {cs : List (List Nat)} {m : List Nat} {j : Nat} (hs : SqL K H a (vTxs cs)) (hj : cs[j]? = some m) (hf : ∀ i, i < j → cs[i]? ≠ some m) (h : Q (.int (j : Nat)) H) : rIndex K (.ref a) [.str (tx m)] H Q := by
  refine ⟨a, vTxs cs, .str (tx m), j, .str (tx m), rfl, rfl, hs, rfl, flat_txs cs, ?_, by rw [eqV_tx, decide_eq_true rfl], fun i z hi hz => ?_, h⟩
  · unfold vTxs
    rw [List.getElem?_map, hj]
    rfl
  · unfold vTxs at hz
    rw [List.getElem?_map] at hz
    cases hc : cs[i]? with
    | none => rw [hc] at hz; cases hz
    | some c =>
      rw [hc] at hz
      cases hz
      rw [eqV_tx]
      exact decide_eq_false fun e => hf i hi (by rw [hc, e])
theorem inV_txs (m : List Nat) : ∀ cs : List (List Nat), inV (.str (tx m)) (vTxs cs) = decide (m ∈ cs)
  | [] => rfl
  | c :: r => by
    have ih := inV_txs m r
    have e1 : inV (.str (tx m)) (vTxs (c :: r)) = (eqV (.str (tx c)) (.str (tx m)) || inV (.str (tx m)) (vTxs r)) := rfl
    rw [e1, ih, eqV_tx]
    by_cases h : c = m
    · subst h; simp
    · have h2 : ¬ m = c := fun e => h e.symm
      rw [decide_eq_false h, Bool.false_or]
      simp [h2]
theorem in_txs {a : Addr} {cs : List (List Nat)} {m : List Nat} {neg : Bool} (hs : SqL K H a (vTxs cs)) (h : Q (.bl (if neg then !decide (m ∈ cs) else decide (m ∈ cs))) H) : rIn K neg (.str (tx m)) (.ref a) H Q :=
  ⟨a, vTxs cs, rfl, .inl hs, rfl, flat_txs cs, by rw [inV_txs]; exact h⟩
/-- [te for j in ..], new objects -/
theorem rd_lcR {wi : TI} {J : It} {G : Hp → Prop} {xs : List V} {j : Nat} {vs : List Nat} (hwk : Wk wi σ H J G xs) (Rl : Hp → V → V → Prop) (hz : xs.length ≤ 40000) (hw : ∀ x, wipe ((wipe σ vs).set j (some x)) vs = wipe σ vs)
    (he : ∀ x ∈ xs, ∀ H1, Ex H H1 → ∀ Q' : VK, (∀ v H2, Ex H1 H2 → Rl H2 x v → Q' v H2) → te ((wipe σ vs).set j (some x)) H1 Q')
    (hx : ∀ H1 H2 x v, Ex H1 H2 → Rl H1 x v → Rl H2 x v) (hm : ∀ H1 L xs o x v, H1 L = some (.lst xs) → Rl H1 x v → Rl (upd H1 L o) x v)
    (q : ∀ P H1 us, H P = none → Ex H H1 → H1 P = some (.lst us) → Pairs (Rl H1) xs us → Q (.ref P) H1) : tLc wi (gName j) tYes te vs σ H Q :=
  hwk.go H (Ex.refl H) _ fun H1 e1 Dl hD => by
  refine lc_it (G := G) hwk.walk (fun i H' => Ex H1 H' ∧ ∃ acc, H' Dl = some (.lst acc) ∧ acc.length ≤ i ∧ Pairs (Rl H') (xs.take i) acc)
    ⟨Ex.new hD, [], upd_same, Nat.le_refl _, Pairs.nil⟩ (fun _ _ _ pv => hwk.all _ (e1.trans pv.1)) (fun i x H' H'' hi pv hy => ?_) (fun H' pv => ?_)
  · obtain ⟨rfl, hxi⟩ := hy
    have hmm : x ∈ xs := List.mem_of_getElem? hxi
    obtain ⟨p1, acc, p2, p3, p4⟩ := pv
    refine ⟨hw _, rd_yes (iteT ?_)⟩
    refine he x hmm _ (e1.trans p1) _ fun v H4 e4 r => ⟨acc, e4 _ _ p2, sz_lt (by omega), (NW.Same.mut (p1.trans e4) hD : Ex H1 _), acc ++ [v], upd_same, by rw [List.length_append]; exact Nat.add_le_add_right p3 1, ?_⟩
    rw [take_succ_get hxi]
    exact ((p4.mono fun kv u r => hx _ _ _ _ e4 r).snoc r).mono fun kv u r => hm _ _ _ _ _ _ (e4 _ _ p2) r
  · obtain ⟨p1, acc, p2, p3, p4⟩ := pv
    rw [List.take_length] at p4
    exact q Dl H' acc (fresh_back e1 hD) (e1.trans p1) p2 p4
end
/-! text * number -/
def rRepS : R2 := fun x y H Q => ∃ (l : List Nat) (k : Nat), x = .str (tx l) ∧ y = .int (k : Nat) ∧ l.length * k ≤ 100000 ∧ k ≤ 100000 ∧ Q (.str (tx (List.replicate k l).flatten)) H
theorem fold_tx (l : List Nat) : ∀ (k : Nat) (a : List Nat), (List.replicate k l.toArray).foldl (fun x1 x2 => x1 ++ x2) a.toArray = (a ++ (List.replicate k l).flatten).toArray
  | 0, a => by simp
  | k + 1, a => by
    rw [List.replicate_succ, List.foldl_cons, List.append_toArray, fold_tx l k]
    simp [List.replicate_succ]
theorem mul_tx (l : List Nat) (k : Nat) : Txt.mul (tx l) (k : Nat) = tx (List.replicate k l).flatten := by
  unfold Txt.mul
  by_cases h0 : k = 0
  · subst h0
    rfl
  · rw [if_neg (by omega)]
    by_cases h1 : k = 1
    · subst h1
      simp
    · have e1 : (((k : Nat) : Int) == 1) = false := by simpa using (by omega : ¬ ((k : Nat) : Int) = 1)
      rw [e1, Bool.false_or]
      have e2 : ((tx l).length == 0) = decide (l.length = 0) := by rw [tx_length]; rfl
      rw [e2]
      by_cases hl : l = []
      · subst hl
        rw [if_pos (by simp)]
        simp
      · rw [decide_eq_false (by intro e; exact hl (List.eq_nil_of_length_eq_zero e)), if_neg Bool.false_ne_true]
        have := fold_tx l k []
        show (⟨_⟩ : Str) = ⟨_⟩
        congr 1
theorem op_repS {X : Cx} : OpR X (binaryOp .Mult) rRepS := by
  intro pins s σ H x y v u Q I rx ry h
  obtain ⟨l, k, rfl, rfl, hz, hk, q⟩ := h
  obtain ⟨t, rfl⟩ := rx
  obtain ⟨t', rfl⟩ := ry
  refine SB.mul ⟨?_, fun h1 _ h2 => ?_, fun _ _ => ?_⟩ fun t2 n => ⟨.str _, H, I.tok _, ⟨_, rfl⟩, ?_⟩
  · rw [decide_eq_false (by omega), decide_eq_false (by omega)]
    rfl
  · rw [tx_length] at h2
    have h3 : (((l.length : Nat) : Int)) * ((k : Nat) : Int) ≤ 100000 := by
      have : ((l.length * k : Nat) : Int) ≤ 100000 := by omega
      rwa [Int.natCast_mul] at this
    have h4 : ((l.length : Nat) : Int) ≤ (2 ^ 63 - 1) / ((k : Nat) : Int) := (Int.le_ediv_iff_mul_le (by omega)).mpr (by omega)
    omega
  · rw [tx_length]
    have e : ((k : Nat) : Int).toNat = k := by omega
    rw [e]
    have hs : l.length * k ≤ sizeLine := Nat.le_trans hz (by decide)
    show decide (l.length * k > sizeLine) = false
    exact decide_eq_false (by omega)
  · rw [mul_tx]
    exact q
theorem rep_s {l : List Nat} {k : Nat} {H : Hp} {Q : VK} (hz : l.length * k ≤ 100000) (hk : k ≤ 100000) (h : Q (.str (tx (List.replicate k l).flatten)) H) : rRepS (.str (tx l)) (.int (k : Nat)) H Q := ⟨l, k, rfl, rfl, hz, hk, h⟩
/-! except clauses -/
theorem hd_hit {K : PySem.W.Frag} {W : WX} {D : Ends} {σ : L2.St} {H : Hp} {c x : Value} {d : Option Addr} {ts : Addr → Value → Option Addr → TS} {r : List (Value × (Addr → Value → Option Addr → TS))}
    (h : PySem.W.exmOne K x c = some true) (k : ∀ a, H a = none → ts a x d D σ H) : WE (wMany K W D ((c, ts) :: r)) σ x d H := ⟨true, h, fun _ => k, fun e => by cases e⟩
theorem hd_miss {K : PySem.W.Frag} {W : WX} {D : Ends} {σ : L2.St} {H : Hp} {c x : Value} {d : Option Addr} {ts : Addr → Value → Option Addr → TS} {r : List (Value × (Addr → Value → Option Addr → TS))}
    (h : PySem.W.exmOne K x c = some false) (k : WE (wMany K W D r) σ x d H) : WE (wMany K W D ((c, ts) :: r)) σ x d H := ⟨false, h, fun e => (by cases e), fun _ => k⟩
end NW

/-! Texts and lists backwards; walks over the keys of a dict. -/
namespace NW
open PySem PySem.Spec PyProof.Rows L2 Evl
def tRevT (te : TE) : TE := fun σ H Q => te σ H fun v H1 => ∃ l : List Nat, v = .str (tx l) ∧ l.length ≤ 100000 ∧ Q (.str (tx l.reverse)) H1
theorem stepS_rev (l : List Nat) : stepS (tx l) none none (-1) = tx l.reverse := by
  unfold stepS
  rw [picked_rev, tx_length, List.filterMap_map]
  show (⟨_⟩ : Str) = ⟨_⟩
  congr 2
  apply List.ext_getElem?
  intro i
  have key : ∀ L : List Nat, (∀ k ∈ L, k < l.length) → L.filterMap ((fun i => (tx l).cps[i]?) ∘ fun k => l.length - 1 - k) = L.map fun k => l.getD (l.length - 1 - k) 0 := by
    intro L
    induction L with
    | nil => intro _; rfl
    | cons k r ih =>
      intro hL
      have hk := hL k List.mem_cons_self
      have e1 : ((fun i => (tx l).cps[i]?) ∘ fun k => l.length - 1 - k) k = some (l.getD (l.length - 1 - k) 0) := by
        show (tx l).cps[l.length - 1 - k]? = some (l.getD (l.length - 1 - k) 0)
        rw [tx_get]
        simp [List.getD, List.getElem?_eq_getElem (show l.length - 1 - k < l.length by omega)]
      rw [List.filterMap_cons_some e1, List.map_cons, ih fun x hx => hL x (List.mem_cons_of_mem _ hx)]
  have e := key (List.range l.length) fun k hk => List.mem_range.mp hk
  rw [e, List.getElem?_map]
  by_cases h : i < l.length
  · rw [List.getElem?_range h, List.getElem?_reverse h]
    show some (l.getD (l.length - 1 - i) 0) = _
    simp [List.getD, List.getElem?_eq_getElem (show l.length - 1 - i < l.length by omega)]
  · rw [List.getElem?_eq_none (by simpa using h), List.getElem?_eq_none (by simpa using h)]
    rfl
section
variable {X : Cx} {e : Expr} {te : TE}
theorem pe_revT {k : Nat} {p1 p2 p3 pos : Pos} (he : PE X e te) : PE X (.Subscript e (.Slice none none (some (.UnaryOp .USub (.Constant (.int 1) k p1) p2)) p3) pos) (tRevT te) := by
  refine ⟨fun pins s σ H Q I h => ?_⟩
  refine Subscript_ (thn (he.run pins s σ H _ I h) fun v s1 ⟨x, H1, I1, r1, q1⟩ => ?_)
  have hno : PO X none tNoPart := po_none
  have hst : PO X (some (.UnaryOp .USub (.Constant (.int 1) k p1) p2)) (tPart (tUn (rU fun i => .int (-i)) (tC (.int 1)))) := po_some (pe_un un_neg pe_int)
  obtain ⟨l0, rfl, hz, q⟩ := q1
  refine wpAny_Slice (thn (hno.run pins s1 σ H1 (fun o H2 => o = none ∧ H2 = H1) I1 ⟨rfl, rfl⟩) fun vl s2 ⟨l, H2, I2, pl, e2⟩ => thn (hno.run pins s2 σ H2 (fun o H3 => o = none ∧ H3 = H2) I2 ⟨rfl, rfl⟩) fun vu s3 ⟨u, H3, I3, pu, e3⟩ => ?_)
  refine thn (hst.run pins s3 σ H3 (fun o H4 => o = some (-1) ∧ H4 = H3) I3 ⟨1, rfl, -1, rfl, rfl, rfl⟩) fun vs s4 ⟨o, H4, I4, ps, e4⟩ => ?_
  obtain ⟨rfl, rfl⟩ := e2
  obtain ⟨rfl, rfl⟩ := e3
  obtain ⟨rfl, rfl⟩ := e4
  obtain ⟨t, rfl⟩ := r1
  obtain ⟨l, rfl, hl⟩ := IsPart.raw pl
  obtain ⟨u, rfl, hu⟩ := IsPart.raw pu
  obtain ⟨w', rfl, hw⟩ := IsPart.raw ps
  have I5 : Inv X pins σ H4 { s4 with heap := s4.heap.push { cls := .type "slice", data := .fields #[partValue l, partValue u, partValue w'] } } := I4.kept (t' := s4.toks) fun b ob q => Heap.get?_push_of_some _ q
  show wpAny (model X.prog X.w) X.A (subscriptTail e (.Slice none none (some (.UnaryOp .USub (.Constant (.int 1) k p1) p2)) p3) (.str (tx l0) t) (.ref s4.heap.objs.size)) (EP X pins σ Q) X.xe { s4 with heap := s4.heap.push { cls := .type "slice", data := .fields #[partValue l, partValue u, partValue w'] } }
  have hstep : (w'.map (·.1)).getD 1 = -1 := by rw [hw]; rfl
  refine tail_any (ops := [.ref s4.heap.objs.size, .str (tx l0) t]) (typeIs_str _ _ _) PySem.F.slot_str_getitem.lookup ?_ (by with_unfolding_all rfl)
  refine wpAny_getItem_str_slice (l := l) (u := u) (st := w') ⟨_, Heap.get?_push_size _ rfl, rfl, rfl⟩ (by rw [hstep]; rfl) ?_
  have e0 : sliceMade (tx l0) t l u w' = Made.str (stepS (tx l0) none none (-1)) := by
    unfold sliceMade
    rw [if_neg]
    · unfold slicePicked stepS
      rw [hstep, hl, hu]
    · rw [hstep, Bool.and_eq_true, not_and]
      intro h
      exact absurd (beq_iff_eq.mp h) (by omega)
  rw [e0, stepS_rev]
  have hz' : (tx l0.reverse).length ≤ sizeLine := by rw [tx_length, List.length_reverse]; exact Nat.le_trans hz (by decide)
  exact ⟨hz', .str _, H4, I5.tok _, ⟨_, rfl⟩, q⟩
theorem pe_revLK {K : PySem.W.Frag} (h : X.K = K) {k : Nat} {p1 p2 p3 pos : Pos} (he : PE X e te) : PE X (.Subscript e (.Slice none none (some (.UnaryOp .USub (.Constant (.int 1) k p1) p2)) p3) pos) (tRevL K te) := h ▸ pe_revL he
end
section
variable {K : PySem.W.Frag} {σ : L2.St} {H : Hp} {Q : VK} {te td : TE}
theorem ev_revT {l : List Nat} (h : Ev te σ H (.str (tx l))) (hz : l.length ≤ 100000) : Ev (tRevT te) σ H (.str (tx l.reverse)) := fun H1 e1 Q q => h H1 e1 _ fun H2 e2 => ⟨l, rfl, hz, q H2 e2⟩
theorem rd_revL {a : Addr} {xs : List V} (h : Ev te σ H (.ref a)) (hs : SqL K H a xs) (k : ∀ p H1, H p = none → Same H H1 → H1 p = some (.lst xs.reverse) → Q (.ref p) H1) : tRevL K te σ H Q :=
  h H (Ex.refl H) _ fun H1 e1 => ⟨a, xs, rfl, ex_l e1 hs, fun p hp => k p _ (fresh_back e1 hp) (e1.trans (Ex.new hp)) upd_same⟩
/-- the keys of a dict that is locked -/
def keysV (kvs : List (Key × V)) : List V := kvs.map fun kv => kV kv.1
theorem wk_keys {d : Addr} {od : Obj} {kvs : List (Key × V)} (h : Ev td σ H (.ref d)) (hd : H d = some (.frz od (.dK kvs))) : Wk (iKeys td) σ H (Itk d od kvs) (fun H => H d = some (.frz od (.dK kvs))) (keysV kvs) where
  walk := by
    have e : (keysV kvs).length = kvs.length := by unfold keysV; rw [List.length_map]
    rw [e]
    refine (walk_keys (d := d) (o := od) (kvs := kvs)).mono (fun _ h => h) (fun i H x H' _ _ hy => ?_)
    obtain ⟨h1, k, v, hk, rfl⟩ := hy
    refine ⟨h1, ?_⟩
    unfold keysV
    rw [List.getElem?_map, hk]
    rfl
  all := fun H2 e => e _ _ hd
  go := fun H1 e R r => h H1 e _ fun H2 e2 => ⟨d, od, rfl, .inl ⟨kvs, (e.trans e2) _ _ hd, r H2 e2⟩⟩
theorem DGet.f {H : Hp} {a : Addr} {od : Obj} {kvs : List (Key × V)} {k : Key} (e : H a = some (.frz od (.dK kvs))) : DGet H a (kV k) (valV kvs k) := .inl ⟨kvs, k, .inr ⟨od, e⟩, rfl, rfl⟩
end
end NW

/-! Lists of numbers, one greater than the other. -/
namespace NW
open PySem PySem.Spec PyProof.Rows L2 Evl
def rGtD (K : PySem.W.Frag) : R2 := fun x y H Q => ∃ d e, Dp K H x d ∧ Dp K H y e ∧ PySem.W.alike d e = true ∧ d ≠ .none ∧ min d.depth e.depth ≤ 64 ∧ Q (.bl (PySem.W.dataLt e d)) H
theorem op_gtD {X : Cx} (hu : X.A.units + 65 < cLine) : OpR X (compareOp .Gt) (rGtD X.K) := by
  intro pins s σ H x y v u Q I rx ry h
  obtain ⟨d, e, hd, he, ha, hn, hm, q⟩ := h
  obtain ⟨as, r1⟩ := Dp.reads I d x v hd rx
  obtain ⟨bs, r2⟩ := Dp.reads I e y u he ry
  exact PySem.W.gt_data r1 r2 ha hn (by omega) ⟨.bl _, H, I, rfl, q⟩
theorem op_gtDK {X : Cx} {K : PySem.W.Frag} (h : X.K = K) (hu : X.A.units + 65 < cLine) : OpR X (compareOp .Gt) (rGtD K) := h ▸ op_gtD hu
/-- one list of numbers ahead of another of the same length -/
def ltN : List Nat → List Nat → Bool
  | x :: xs, y :: ys => if x = y then ltN xs ys else decide (x < y)
  | _, _ => false
theorem alike_ints : ∀ a b : List Nat, PySem.W.alikeAll (a.map dInt) (b.map dInt) = true
  | [], _ => by simp [PySem.W.alikeAll]
  | _ :: _, [] => by simp [PySem.W.alikeAll]
  | x :: a, y :: b => by
    simp only [List.map_cons, PySem.W.alikeAll, Bool.and_eq_true]
    exact ⟨rfl, alike_ints a b⟩
theorem lt_ints : ∀ a b : List Nat, a.length = b.length → PySem.W.dataLt (dList dInt a) (dList dInt b) = ltN a b
  | [], [], _ => by
    show PySem.W.dataLt (.list []) (.list []) = false
    rw [PySem.W.dataLt_list]
    decide +kernel
  | x :: a, y :: b, h => by
    have ih := lt_ints a b (by simpa using h)
    have ea : PySem.W.dataLt (dList dInt (x :: a)) (dList dInt (y :: b)) = PyProof.Rows.lexLt itemOrd (PySem.W.keyToksAll (dInt x :: a.map dInt)) (PySem.W.keyToksAll (dInt y :: b.map dInt)) := PySem.W.dataLt_list _ _
    have eb : PySem.W.dataLt (dList dInt a) (dList dInt b) = PyProof.Rows.lexLt itemOrd (PySem.W.keyToksAll (a.map dInt)) (PySem.W.keyToksAll (b.map dInt)) := PySem.W.dataLt_list _ _
    rw [ea]
    show _ = if x = y then ltN a b else decide (x < y)
    by_cases e : x = y
    · subst e
      rw [if_pos rfl, ← ih, eb]
      exact PySem.W.dataLt_all_yes (x := dInt x) (y := dInt x) rfl ((item_int.eqv x x).mpr rfl)
    · rw [if_neg e]
      have he : PyData.eqv (dInt x) (dInt y) = false := by
        rw [Bool.eq_false_iff]
        exact fun q => e ((item_int.eqv x y).mp q)
      rw [PySem.W.dataLt_all_no (x := dInt x) (y := dInt y) rfl he]
      show PySem.W.dataLt (.int (x : Nat)) (.int (y : Nat)) = _
      rw [PySem.W.dataLt_int]
      by_cases q : x < y
      · rw [decide_eq_true q, decide_eq_true (by omega)]
      · rw [decide_eq_false q, decide_eq_false (by omega)]
theorem gt_ints {K : PySem.W.Frag} {H : Hp} {Q : VK} {x y : V} {a b : List Nat} (hx : Dp K H x (dList dInt a)) (hy : Dp K H y (dList dInt b)) (hl : a.length = b.length) (h : Q (.bl (ltN b a)) H) : rGtD K x y H Q := by
  refine ⟨dList dInt a, dList dInt b, hx, hy, alike_ints a b, (fun e => by cases e), ?_, by rw [lt_ints b a hl.symm]; exact h⟩
  have := (item_list item_int).dep a
  omega
theorem ltN_irr : ∀ a : List Nat, ltN a a = false
  | [] => rfl
  | x :: a => by
    show (if x = x then ltN a a else _) = false
    rw [if_pos rfl]
    exact ltN_irr a
theorem ltN_asym : ∀ {a b : List Nat}, ltN a b = true → ltN b a = false
  | [], _, h => by cases h
  | _ :: _, [], h => by cases h
  | x :: a, y :: b, h => by
    have h : (if x = y then ltN a b else decide (x < y)) = true := h
    show (if y = x then ltN b a else decide (y < x)) = false
    by_cases e : x = y
    · subst e
      rw [if_pos rfl] at h ⊢
      exact ltN_asym h
    · rw [if_neg e] at h
      have := of_decide_eq_true h
      rw [if_neg (fun q => e q.symm)]
      exact decide_eq_false (by omega)
/-- text.find of one sign that stands there, no sign twice -/
theorem find_nd {l : List Nat} {c j : Nat} (hn : l.Nodup) (hj : l[j]? = some c) : Txt.find (tx l) (tx [c]) = ((j : Nat) : Int) := by
  obtain ⟨r, hr⟩ := occ_one hn hj
  unfold Txt.find
  rw [hr]
theorem eqV_int {a b : Nat} : eqV (.int (a : Nat)) (.int (b : Nat)) = decide (a = b) := by
  by_cases h : a = b
  · subst h
    rw [decide_eq_true rfl]
    show decide (((a : Nat) : Int) = ((a : Nat) : Int)) = true
    simp
  · rw [decide_eq_false h]
    show decide (((a : Nat) : Int) = ((b : Nat) : Int)) = false
    exact decide_eq_false fun e => h (by omega)
theorem inV_ints (m : Nat) : ∀ cs : List Nat, inV (.int (m : Nat)) (vInts cs) = decide (m ∈ cs)
  | [] => rfl
  | c :: r => by
    have ih := inV_ints m r
    have e1 : inV (.int (m : Nat)) (vInts (c :: r)) = (eqV (.int (c : Nat)) (.int (m : Nat)) || inV (.int (m : Nat)) (vInts r)) := rfl
    rw [e1, ih, eqV_int]
    by_cases h : c = m
    · subst h; simp
    · have h2 : ¬ m = c := fun e => h e.symm
      rw [decide_eq_false h, Bool.false_or]
      simp [h2]
theorem flat_ints : ∀ cs : List Nat, (vInts cs).all flatV = true
  | [] => rfl
  | c :: r => by
    show (flatV (V.int (c : Nat)) && (vInts r).all flatV) = true
    rw [flat_ints r]
    rfl
theorem in_ints {K : PySem.W.Frag} {H : Hp} {Q : VK} {a : Addr} {cs : List Nat} {m : Nat} {neg : Bool} (hs : SqL K H a (vInts cs)) (h : Q (.bl (if neg then !decide (m ∈ cs) else decide (m ∈ cs))) H) : rIn K neg (.int (m : Nat)) (.ref a) H Q :=
  ⟨a, vInts cs, rfl, .inl hs, rfl, flat_ints cs, by rw [inV_ints]; exact h⟩
/-- [te for j in what a call gives, if t] -/
theorem el_lcL {K : PySem.W.Frag} {σ : L2.St} {H : Hp} {te tl : TE} {t : TT} {xs : List V} {j : Nat} {vs : List Nat} (h : EvL tl σ H xs) (p : V → Bool) (v : V → V) (hz : xs.length ≤ 40000) (hw : ∀ x, wipe ((wipe σ vs).set j (some x)) vs = wipe σ vs)
    (ht : ∀ x ∈ xs, ∀ H1, Ex H H1 → EvT t ((wipe σ vs).set j (some x)) H1 (p x)) (he : ∀ x ∈ xs, ∀ H1, Ex H H1 → p x = true → Ev te ((wipe σ vs).set j (some x)) H1 (v x)) :
    EvL (tLc (iList K tl) (gName j) t te vs) σ H ((xs.filter p).map v) := fun H0 e Q q => h H0 e _ fun a H1 ha e1 h1 => ⟨a, rfl, ⟨xs, SqL.of h1⟩, fun Dl hD => by
  refine lc_it (G := fun H => SqL K H a xs) walk_list (Cw H1 (fun i => p (xs.getD i .non)) (fun i => v (xs.getD i .non)) Dl) ⟨hD, Ex.new hD, upd_same⟩ (fun _ _ _ pv => ex_l pv.2.1 (SqL.of h1)) (fun i x H' H'' hi pv hy => ?_) (fun H' pv => ?_)
  · obtain ⟨rfl, hx⟩ := hy
    have hm : x ∈ xs := List.mem_of_getElem? hx
    have hd : xs.getD i .non = x := by simp [List.getD, hx]
    refine ⟨hw _, cw_turn pv (by omega) ?_ ?_⟩
    · show EvT t _ H1 (p (xs.getD i .non))
      rw [hd]
      exact ht x hm H1 (e.trans e1)
    · intro hf
      have hf' : p (xs.getD i .non) = true := hf
      rw [hd] at hf'
      show Ev te _ H1 (v (xs.getD i .non))
      rw [hd]
      exact he x hm H1 (e.trans e1) hf'
  · obtain ⟨p1, p2, p3⟩ := pv
    rw [given_getD] at p3
    exact q Dl H' (fresh_back e1 p1) (e1.trans p2) p3⟩
end NW

/-! sorted of texts, of lists of numbers, of pairs of numbers, however many; list.pop(i). -/
namespace NW
open PySem PySem.Spec PyProof.Rows L2 Evl
theorem vals_each {β : Type} (vf : β → V) : ∀ {bs : List β} {us : List Value}, Vals (bs.map vf) us → PySem.W.EachIs (fun u b => RelV (vf b) u) us bs
  | [], us, h => by
    have h : Vals [] us := h
    cases h
    exact .nil
  | b :: r, us, h => by
    have h : Vals (vf b :: r.map vf) us := h
    cases h with
    | cons h1 h2 => exact .cons h1 (vals_each vf h2)
theorem each_vals {β : Type} (vf : β → V) : ∀ {bs : List β} {us : List Value}, PySem.W.EachIs (fun u b => RelV (vf b) u) us bs → Vals (bs.map vf) us
  | _, _, .nil => .nil
  | _, _, .cons h t => .cons h (each_vals vf t)
theorem each_and {β : Type} {R : Value → β → Prop} {S : Value → β → Prop} : ∀ {us : List Value} {bs : List β}, PySem.W.EachIs R us bs → (∀ u b, b ∈ bs → R u b → S u b) → PySem.W.EachIs S us bs
  | _, _, .nil, _ => .nil
  | _, _, .cons h t, f => .cons (f _ _ List.mem_cons_self h) (each_and t fun u b hb => f u b (List.mem_cons_of_mem _ hb))
/-- sorted(xs), xs any data that can be told apart -/
def rSortD (K : PySem.W.Frag) : List V → Hp → VK → Prop := fun xs H Q => ∃ (a : Addr) (β : Type) (bs : List β) (vf : β → V) (enc : β → PyData), xs = [V.ref a] ∧ SqL K H a (bs.map vf) ∧ (∀ b ∈ bs, Dp K H (vf b) (enc b)) ∧ PySem.W.AllAlike (bs.map enc) ∧ PySem.W.Sortable (bs.map enc) ∧ (∀ b ∈ bs, (enc b).depth ≤ 62) ∧
  ∀ p, H p = none → Q (.ref p) (upd H p (.lst ((bs.mergeSort (PySem.W.dataLe false enc)).map vf)))
theorem cr_sortedD {X : Cx} (hu : X.A.units + 64 < cLine) : CallR X (.builtin "sorted") (rSortD X.K) := by
  intro pins s σ H vs us Q I r h
  obtain ⟨a, β, bs, vf, enc, rfl, hs, hd, hal, hk, hdep, q⟩ := h
  obtain ⟨its, rv, hl, hz⟩ := I.list hs
  rw [Vals.ref1 r]
  have hz' : bs.length ≤ sizeLine := by rw [List.length_map] at hz; exact hz
  have e : PySem.W.EachIs (fun u b => RelV (vf b) u) its bs := vals_each vf rv
  have er : PySem.W.EachIs (fun u b => ∃ as, Reads s.heap u (enc b) as) its bs := each_and e fun u b hb hr => Dp.reads I (enc b) (vf b) u (hd b hb) hr
  refine PySem.W.sorted_data hl.isList e er hal hk hz' (fun b hb => by have := hdep b hb; omega) fun out hlen ho => ?_
  obtain ⟨ep, he'⟩ := PyProof.Rows.sortedAll_at s.heap its out.toArray
  exact ⟨.ref _, upd H (s.heap.objs.size + 1) (.lst ((bs.mergeSort (PySem.W.dataLe false enc)).map vf)), I.laid (t' := s.toks) (fun _ _ => PyProof.Rows.sortedAll_old) (Nat.le_succ _) ⟨by rw [List.length_map, List.length_mergeSort]; exact hz', out, ep, each_vals vf ho, he'⟩, rfl, q _ (I.hok.fresh (Nat.le_succ _))⟩
theorem cr_sortedDK {X : Cx} {K : PySem.W.Frag} (h : X.K = K) (hu : X.A.units + 64 < cLine) : CallR X (.builtin "sorted") (rSortD K) := h ▸ cr_sortedD hu
/-! the orders -/
theorem sort_same {α : Type} {le : α → α → Bool} (tr : ∀ a b c, le a b = true → le b c = true → le a c = true) (to : ∀ a b, (le a b || le b a) = true) (an : ∀ a b, le a b = true → le b a = true → a = b) {xs ys : List α} (h : xs.Perm ys) : xs.mergeSort le = ys.mergeSort le := by
  have p1 := List.pairwise_mergeSort (le := le) tr to xs
  have p2 := List.pairwise_mergeSort (le := le) tr to ys
  have pp : (xs.mergeSort le).Perm (ys.mergeSort le) := (List.mergeSort_perm xs le).trans (h.trans (List.mergeSort_perm ys le).symm)
  exact pp.eq_of_pairwise (fun a b _ _ h1 h2 => an a b h1 h2) p1 p2
theorem le_tx : PySem.W.dataLe false dTx = fun a b : List Nat => decide (a ≤ b) := by
  have h := PySem.W.dataLe_str (β := List Nat) tx
  have e : (fun b : List Nat => PyData.str (tx b)) = dTx := rfl
  rw [e] at h
  rw [h]
  funext a b
  have h1 : ∀ c : List Nat, (tx c).cps.toList = c := fun c => rfl
  rw [h1, h1]
theorem sort_tx {xs ys : List (List Nat)} (h : xs.Perm ys) : xs.mergeSort (PySem.W.dataLe false dTx) = ys.mergeSort (PySem.W.dataLe false dTx) := by
  refine sort_same (fun a b c => ?_) (fun a b => ?_) (fun a b => ?_) h
  · rw [le_tx]
    simp only [decide_eq_true_eq]
    exact fun h1 h2 => List.le_trans h1 h2
  · rw [le_tx]
    simp only [Bool.or_eq_true, decide_eq_true_eq]
    exact List.le_total a b
  · rw [le_tx]
    simp only [decide_eq_true_eq]
    exact fun h1 h2 => List.le_antisymm h1 h2
section
variable {K : PySem.W.Frag} {H : Hp} {Q : VK}
theorem sort_txs {a : Addr} {cs : List (List Nat)} (hs : SqL K H a (vTxs cs)) (h : ∀ p, H p = none → Q (.ref p) (upd H p (.lst (vTxs (cs.mergeSort (PySem.W.dataLe false dTx)))))) : rSortD K [.ref a] H Q :=
  ⟨a, List Nat, cs, fun c => .str (tx c), dTx, rfl, hs, fun b _ => .str _, PySem.W.AllAlike.of fun _ _ => rfl, PySem.W.Sortable.others fun _ => ⟨fun e => (by cases e), fun _ e => (by cases e)⟩, fun b _ => by have := item_tx.dep b; omega, h⟩
theorem pop_at {l : Addr} {xs : List V} {k : Nat} {y : V} (hl : H l = some (.lst xs)) (hz : xs.length ≤ 100000) (hy : xs[k]? = some y) (h : Q y (upd H l (.lst (xs.eraseIdx k)))) : rPopAt (.ref l) [.int (k : Nat)] H Q := by
  have hk := (List.getElem?_eq_some_iff.mp hy).1
  refine ⟨l, xs, (k : Nat), k, y, rfl, rfl, hl, by omega, by omega, ?_, hy, h⟩
  have h1 : ¬ (((k : Nat) : Int) < 0) := by omega
  unfold seqIndex?
  rw [if_neg h1]
  show (if (decide (0 ≤ ((k : Nat) : Int)) && decide (((k : Nat) : Int) < ((xs.length : Nat) : Int))) = true then some (((k : Nat) : Int)).toNat else none) = some k
  rw [decide_eq_true (by omega), decide_eq_true (by omega)]
  rfl
end
def rJoinK (K : PySem.W.Frag) : V → List V → Hp → VK → Prop := fun x xs H Q => ∃ a p, ∃ ys : List Str, x = .str a ∧ xs = [.ref p] ∧ (SqL K H p (ys.map V.str) ∨ SqT K H p (ys.map V.str)) ∧ (ys.map (·.length)).sum + ys.length * a.length ≤ 16777216 ∧ Q (.str (Txt.join a ys)) H
theorem mt_joinK {K : PySem.W.Frag} {X : Cx} (h : X.K = K) : MtR X "str.join" (rJoinK K) := h ▸ mt_join
theorem joinL_sgs : ∀ cs : List Nat, TL.joinL [] (cs.map fun c => [c]) = cs
  | [] => rfl
  | [_] => rfl
  | c :: d :: r => by
    show [c] ++ ([] ++ TL.joinL [] ((d :: r).map fun c => [c])) = _
    rw [joinL_sgs (d :: r)]
    rfl
theorem join_sgs (cs : List Nat) : Txt.join (tx []) (cs.map fun c => tx [c]) = tx cs := by
  refine TL.ext_tl ?_
  rw [TL.join_eq, TL.tl_join, List.map_map]
  exact joinL_sgs cs
section
variable {K : PySem.W.Frag} {H : Hp} {Q : VK}
theorem join_l {p : Addr} {cs : List Nat} (hs : SqL K H p (vSgs cs)) (hz : cs.length ≤ 100000) (h : Q (.str (tx cs)) H) : rJoinK K (.str (tx [])) [.ref p] H Q := by
  have e : vSgs cs = (cs.map fun c => tx [c]).map V.str := by
    unfold vSgs
    rw [List.map_map]
    rfl
  refine ⟨tx [], p, cs.map fun c => tx [c], rfl, rfl, .inl (by rw [← e]; exact hs), ?_, by rw [join_sgs]; exact h⟩
  have h1 : ∀ l : List Nat, ((l.map fun c => tx [c]).map (·.length)).sum = l.length := by
    intro l
    induction l with
    | nil => rfl
    | cons a r ih =>
      rw [List.map_cons, List.map_cons, List.sum_cons, ih, List.length_cons]
      have : (tx [a]).length = 1 := tx_length [a]
      rw [this]
      omega
  rw [h1, tx_length]
  simp
  omega
end
end NW

/-! Calls of a def whose last parameters have defaults; x[i] |= e of lists of numbers. -/
namespace NW
open PySem PySem.Spec PyProof.Rows L2

section
variable {X : Cx} {CX : CXT} {k : Nat} {f C : Addr} {fd : FuncData} {ps : List Str} {sp : Sp} {E : L2.St → XK} {x m : Str} {p pos apos : Pos} {e o : Expr} {es : List Expr} {ta : TE} {t : TA} {dvs : List V} {ds : List Value}
theorem run_fnSD {pins : List (Addr × Obj)} {σ : L2.St} {H : Hp} {s : Shared} {Q : VK} {us : List Value} {vs : List V} (F : FnOk X.prog X.w X.K X.mg X.base CX k f fd ps sp) (hr : Room k X.A) (hb : Binds X.K fd ps ds) (hd : Vals dvs ds) (hx : PassesAt CX X σ (E σ))
    (I : Inv X pins σ H s) (r : Vals vs us) (h : sp (vs ++ dvs) H Q (E σ)) : wpAny (model X.prog X.w) X.A (call (.ref f) us) (EP X pins σ Q) X.xe s := by
  have r2 : Vals (vs ++ dvs) (us ++ ds) := r.append hd
  have hl : (us ++ ds).length = ps.length := by rw [← r2.length]; exact F.len _ _ _ _ h
  refine wpAny_call (codeAny_mono (F.run X.A X.stack s H ⟨us, []⟩ (us ++ ds) (vs ++ dvs) Q (E σ) hr I.env0 (hb s us I.kIn hl) r2 h) fun r s' hq => ?_)
  cases r with
  | error e => exact hx pins H s e s' I hq
  | ok fl =>
    cases fl with
    | ret u => exact I.after hq
    | next => exact False.elim hq
    | brk => exact False.elim hq
    | cont => exact False.elim hq
def tCallSD (sp : Sp) (dvs : List V) (E : L2.St → XK) (t : TA) : TE := fun σ H Q => t σ H fun vs H1 => sp (vs ++ dvs) H1 Q (E σ)
theorem pe_callSD (F : FnOk X.prog X.w X.K X.mg X.base CX k f fd ps sp) (hr : Room k X.A) (hg : Gl X x) (hm : X.mg x = some (.ref f)) (hk : PySem.W.keepIn X.K (.ref f) = true) (hb : ∃ ds, Vals dvs ds ∧ Binds X.K fd ps ds) (hx : ∀ σ, PassesAt CX X σ (E σ))
    (ha : PA X (e :: es) t) (hdb : (x == ("__debug__" : Str)) = false := by decide) (he : starEach (e :: es) X.env = (false, eval e X.env) :: starEach es X.env := by rfl) (hpl : (backTo pos (starEach es X.env)).any (·.1) = false := by rfl) :
    PE X (.Call (.Name x p) (e :: es) [] pos) (tCallSD sp dvs E t) := by
  obtain ⟨ds, hd, hb⟩ := hb
  refine ⟨fun pins s σ H Q I h => ?_⟩
  refine wpAny_Call_Name_kw (ld_glob I hg hm ?_ hdb)
  refine PySem.W.callWith_K (h₀ := X.base) I.ok.mod.kin hk (thn (ha.run pos pins s σ H _ I h) fun us s1 ⟨vs, H1, I1, r, q⟩ => ⟨I1.kIn, ?_⟩) he hpl
  exact run_fnSD F hr hb hd (hx σ) I1 r q
theorem rd_callSD {sp : Sp} {E : L2.St → XK} {tA : TA} {σ : L2.St} {H : Hp} {Q : VK} (h : tA σ H fun vs H1 => sp (vs ++ dvs) H1 Q (E σ)) : tCallSD sp dvs E tA σ H Q := h
end
/-! a def with one default, as it stands behind the top -/
section
variable {K : PySem.W.Frag} {x qual : Str} {st : Stmt} {f : Addr} {fd : FuncData}
abbrev FunO (K : PySem.W.Frag) (x qual : Str) (st : Stmt) (dvs : List V) (f : Addr) (fd : FuncData) : Prop := FunD K x qual (defArgs st) (defBody st) (defScope st) dvs [] f fd
theorem funo_mk {oc oe : Value} {od oo an : Option Addr} {osl ose : Array (Option Value)} {kV doc pm cdv ct : Value} {T : Addr} {its : List Value} {n : Nat} {dvs : List V}
    (l : K.lookup f = some ⟨oc, od, .func (PySem.W.fnOf x qual (defArgs st) (defBody st) (defScope st) (.ref T) kV doc pm an cdv ct), osl⟩)
    (c : PySem.W.codeIn K cdv qual = true) (k : PySem.W.keepIn K (.ref f) = true) (lT : K.lookup T = some ⟨oe, oo, .seq its.toArray n, ose⟩) (hd : dvs ≠ []) (hv : Vals dvs its) :
    FunO K x qual st dvs f (PySem.W.fnOf x qual (defArgs st) (defBody st) (defScope st) (.ref T) kV doc pm an cdv ct) :=
  ⟨⟨oc, od, .ref T, kV, doc, pm, an, cdv, ct, osl, rfl, l, c, .inr ⟨hd, T, _, its, n, rfl, lT, rfl, hv⟩, .inl rfl⟩, k⟩
theorem binds_full {ps : List Str} (h : ∃ ds, Vals [] ds ∧ Binds K fd ps ds) : Binds K fd ps [] := by
  obtain ⟨ds, hd, hb⟩ := h
  cases hd
  exact hb
end
/-! x[i] |= e of lists -/
section
variable {X : Cx} {K : PySem.W.Frag} {H : Hp} {σ : L2.St} {D : Ends}
def rGetL (K : PySem.W.Frag) : V → V → Hp → VK → Prop := fun o i H Q => ∃ p xs, ∃ k : Nat, ∃ v, o = .ref p ∧ i = .int (k : Nat) ∧ SqL K H p xs ∧ xs[k]? = some v ∧ Q v H
theorem get_list0 (h : X.K = K) : PGet X (rGetL K) := by
  subst h
  intro pins s σ H o i ov iv Q I ro ri h
  obtain ⟨p, xs, k, v, rfl, rfl, hq, he, q⟩ := h
  cases ro
  obtain ⟨t, rfl⟩ := ri
  obtain ⟨its, r, pl, hz⟩ := I.list hq
  obtain ⟨w, ew, rw'⟩ := r.get he
  have hl := r.length
  have hn := line63
  have hk := (List.getElem?_eq_some_iff.mp he).1
  exact wpAny_getItem_list pl.isList (by omega) (by omega) (by rw [Int.toNat_natCast]; simpa using ew) ⟨v, H, I, rw', q⟩
theorem rd_augS {to ti te : TE} {tget : V → V → Hp → VK → Prop} {tip : TIp} {tset : TSet}
    (h : to σ H fun o H1 => ti σ H1 fun i H2 => tget o i H2 fun x H3 => te σ H3 fun y H4 => tip x y H4 fun z H5 => tset o i z H5 fun H6 => D.nx σ H6) : tAugS to ti te tget tip tset D σ H := h
theorem get_l {p : Addr} {xs : List V} {k : Nat} {v : V} {Q : VK} (hq : SqL K H p xs) (he : xs[k]? = some v) (h : Q v H) : rGetL K (.ref p) (.int (k : Nat)) H Q := ⟨p, xs, k, v, rfl, rfl, hq, he, h⟩
theorem set_l {p : Addr} {xs : List V} {k : Nat} {v : V} {Q : Hp → Prop} (hp : H p = some (.lst xs)) (hk : k < xs.length) (h : Q (upd H p (.lst (xs.set k v)))) : rSetL (.ref p) (.int (k : Nat)) v H Q := by
  refine ⟨p, xs, k, k, rfl, rfl, hp, ?_, h⟩
  unfold ixN
  simp [hk]
theorem pi_enumK {e : Expr} {ta : TA} {p pos tpos : Pos} {elts : List Expr} {kk : Nat} (h : X.K = K) (hg : Gl X "enumerate") (hm : X.mg "enumerate" = none) (ha : PA X [e] ta) (hs : starEach [e] X.env = [(false, eval e X.env)] := by rfl) :
    PI X (.Tuple elts kk tpos) (.Call (.Name "enumerate" p) [e] [] pos) (iEnum K ta) := h ▸ pi_enum hg hm ha hs
def rTupL (K : PySem.W.Frag) : List V → Hp → VK → Prop := fun xs H Q => ∃ p ys, xs = [.ref p] ∧ ((SqL K H p ys ∧ ∀ l, H l = none → Q (.ref l) (upd H l (.tup ys))) ∨ (SqT K H p ys ∧ Q (.ref p) H))
theorem call_tupLK (h : X.K = K) : CallR X (.type "tuple") (rTupL K) := h ▸ call_tuple_of
theorem tup_l {p : Addr} {ys : List V} {Q : VK} (hs : SqL K H p ys) (h : ∀ l, H l = none → Q (.ref l) (upd H l (.tup ys))) : rTupL K [.ref p] H Q := ⟨p, ys, rfl, .inl ⟨hs, h⟩⟩
end
/-! {tk: tv for a, b in enumerate(xs)} -/
section
open Evl
variable {K : PySem.W.Frag} {σ : L2.St} {H : Hp} {tk tv : TE} {ta : TA} {g : TG}
theorem rd_dcE {a b : Nat} {vs : List Nat} {p : Addr} {xs : List V} {Q : VK} (h : EvA ta σ H [.ref p]) (hs : SqL K H p xs) (kf : Nat → Key) (vf : Nat → V) (hz : xs.length ≤ 40000)
    (hinj : ∀ i j, i < xs.length → j < xs.length → kf i = kf j → i = j)
    (hw : ∀ x y, wipe (((wipe σ vs).set a (some x)).set b (some y)) vs = wipe σ vs)
    (hg : ∀ x y T σ' H' (R : L2.St → Hp → Prop), H' T = some (.tup [x, y]) → R ((σ'.set a (some x)).set b (some y)) H' → g (.ref T) σ' H' R)
    (hk : ∀ i x, xs[i]? = some x → ∀ H1, Ex H H1 → Ev tk (((wipe σ vs).set a (some (.int (i : Nat)))).set b (some x)) H1 (kV (kf i)))
    (he : ∀ i x, xs[i]? = some x → ∀ H1, Ex H H1 → Ev tv (((wipe σ vs).set a (some (.int (i : Nat)))).set b (some x)) H1 (vf i))
    (q : ∀ d H1, H d = none → Same H H1 → H1 d = some (.dK ((List.range xs.length).map fun i => (kf i, vf i))) → Q (.ref d) H1) : tDc (iEnum K ta) g tYes tk tv vs σ H Q := h H (Ex.refl H) _ fun H1 e1 => ⟨p, xs, rfl, ex_l e1 hs, fun Dl hD => by
  have W := walk_enum (K := K) (a := p) (xs := xs)
  refine ⟨fun i m H' => m = xs.length - i ∧ i ≤ xs.length ∧ Ex H1 H' ∧ H' Dl = some (.dK ((List.range i).map fun i => (kf i, vf i))), ⟨xs.length, by omega, Nat.zero_le _, Ex.new hD, by rw [upd_same]; rfl⟩, ?_⟩
  rintro i m H' ⟨rfl, hi, ex, hd⟩
  by_cases hlt : i < xs.length
  · refine .inr ⟨W.goes i H' hlt (ex_l (e1.trans ex) hs), fun H2 => Ex H1 H2 ∧ H2 Dl = some (.dK ((List.range (i + 1)).map fun i => (kf i, vf i))), fun H2 n => ⟨xs.length - (i + 1), by omega, rfl, hlt, n.1, n.2⟩, fun x H2 hy => ?_⟩
    obtain ⟨T, x1, x2, rfl, hT, rfl, h1, h2⟩ := W.yields i H' x H2 hlt (ex_l (e1.trans ex) hs) hy
    cases h1
    refine hg _ _ T _ _ _ upd_same ⟨hw _ _, rd_yes (iteT ?_)⟩
    have exT : Ex H1 (upd H' T (.tup [.int (i : Nat), x2])) := ex.trans (Ex.new hT)
    have hdT : upd H' T (.tup [.int (i : Nat), x2]) Dl = some (.dK ((List.range i).map fun i => (kf i, vf i))) := by rw [upd_ne (ne_of_none hd hT)]; exact hd
    refine hk i x2 h2 H1 e1 _ exT _ fun H3 e3 => he i x2 h2 H1 e1 H3 (exT.trans e3) _ fun H4 e4 => ⟨_, kf i, rfl, e4 _ _ (e3 _ _ hdT), ?_, ?_⟩
    · rw [List.length_map, List.length_range]
      exact sz_lt (by omega)
    · refine ⟨Ex.mut ((exT.trans e3).trans e4) hD, ?_⟩
      rw [upd_same, putK_new, List.range_succ, List.map_append]
      · rfl
      · unfold valV
        rw [Option.map_eq_none_iff, List.find?_eq_none]
        intro z hz
        obtain ⟨j, hj, rfl⟩ := List.mem_map.mp hz
        have hj := List.mem_range.mp hj
        simp only [decide_eq_true_eq]
        intro e
        have := hinj j i (by omega) hlt e
        omega
  · obtain rfl : i = xs.length := by omega
    exact .inl ⟨W.stops H' (ex_l (e1.trans ex) hs), q Dl H' (fresh_back e1 hD) (e1.trans ex) hd⟩⟩
end
end NW

/-! Walks over what a call gives, over ranges and tuples; comprehensions with two fors, the second one over what hangs on the first. -/
namespace NW
open PySem PySem.Spec PyProof.Rows L2 Evl
/-- wi walks over ys, whatever it makes for it -/
def WkX (wi : TI) (σ : L2.St) (H : Hp) (ys : List V) : Prop := ∀ H1, Ex H H1 → ∀ R : It → Hp → Prop, (∀ J H2, Ex H1 H2 → (∃ G, Walk J ys.length G (YAt ys) ∧ ∀ H3, Ex H H3 → (∀ b o, H1 b = none → H2 b = some o → H3 b = some o) → G H3) → R J H2) → wi σ H1 R
section
variable {K : PySem.W.Frag} {σ : L2.St} {H H' : Hp} {ta : TA} {tb te tl tk tv : TE} {t t1 : TT} {wi wi1 : TI} {J J1 : It} {G G1 : Hp → Prop} {xs ys : List V}
theorem WkX.mono (h : WkX wi σ H xs) (e : Ex H H') : WkX wi σ H' xs := fun H1 e1 R r => h H1 (e.trans e1) R fun J H2 e2 ⟨G, W, WG⟩ => r J H2 e2 ⟨G, W, fun H3 e3 kn => WG H3 (e.trans e3) kn⟩
theorem wkx_wk (h : Wk wi σ H J G xs) : WkX wi σ H xs := fun H1 e1 R r => h.go H1 e1 R fun H2 e2 => r J H2 e2 ⟨G, h.walk, fun H3 e3 _ => h.all H3 e3⟩
theorem wkx_L (h : EvL tl σ H xs) : WkX (iList K tl) σ H xs := fun H1 e1 R r => h H1 e1 _ fun p H2 hp e2 h2 => ⟨p, rfl, ⟨xs, SqL.of h2⟩, r _ H2 e2 ⟨_, walk_list, fun H3 _ kn => SqL.of (kn _ _ hp h2)⟩⟩
theorem wk_tup {a : Addr} (h : Ev tl σ H (.ref a)) (hs : SqT K H a xs) : Wk (iTup K tl) σ H (Itt K a) (fun H => SqT K H a xs) xs :=
  ⟨walk_tup, fun _ e => ex_t e hs, fun H1 e R r => h H1 e _ fun H2 e2 => ⟨a, rfl, ⟨xs, ex_t (e.trans e2) hs⟩, r H2 e2⟩⟩
theorem vInts_get {l : List Nat} {i c : Nat} (h : l[i]? = some c) : (vInts l)[i]? = some (.int (c : Nat)) := by unfold vInts; rw [List.getElem?_map, h]; rfl
theorem walk_rng (n : Nat) : Walk (Itr 0 n) (vInts (List.range n)).length (fun _ => True) (YAt (vInts (List.range n))) := by
  have e : (vInts (List.range n)).length = n := by rw [vInts_len, List.length_range]
  rw [e]
  refine (walk_range (lo := 0) (n := n)).mono (fun _ h => h) (fun i H x H' hi _ hy => ?_)
  obtain ⟨h1, rfl⟩ := hy
  refine ⟨h1, ?_⟩
  have e0 : (0 : Int) + (i : Nat) = ((i : Nat) : Int) := Int.zero_add _
  show _ = some (V.int ((0 : Int) + (i : Nat)))
  rw [e0]
  exact vInts_get (by rw [List.getElem?_range hi])
theorem wk_rng1 {n : Nat} (h : EvA ta σ H [.int (n : Nat)]) (hn : n ≤ 100000) : Wk (iRng1 ta) σ H (Itr 0 n) (fun _ => True) (vInts (List.range n)) :=
  ⟨walk_rng n, fun _ _ => trivial, fun H1 e R r => h H1 e _ fun H2 e2 => ⟨(n : Nat), rfl, by omega, by omega, by
    rw [Int.toNat_natCast]
    exact r H2 e2⟩⟩
theorem flatX_len {ys : V → List V} {m : Nat} (p : V → V → Bool) (v : V → V → V) (hy : ∀ x ∈ xs, (ys x).length ≤ m) (i : Nat) : ((xs.take i).flatMap fun x => ((ys x).filter (p x)).map (v x)).length ≤ i * m := by
  have h : ∀ l : List V, (∀ x ∈ l, (ys x).length ≤ m) → (l.flatMap fun x => ((ys x).filter (p x)).map (v x)).length ≤ l.length * m := by
    intro l
    induction l with
    | nil => simp
    | cons x r ih =>
      intro hl
      have h1 := List.length_filter_le (p x) (ys x)
      have h2 := hl x List.mem_cons_self
      have h3 := ih fun y hy => hl y (List.mem_cons_of_mem _ hy)
      rw [List.flatMap_cons, List.length_append, List.length_map, List.length_cons, Nat.succ_mul]
      omega
  refine Nat.le_trans (h _ fun x hx => hy x (List.mem_of_mem_take hx)) (Nat.mul_le_mul_right _ ?_)
  rw [List.length_take]
  omega
/-- [te for j in .. for j1 in .. if t1], the second walk hangs on the first one -/
theorem el_lc2X {j j1 : Nat} {vs vs1 : List Nat} {ys : V → List V} {m : Nat} (hwk : WkX wi σ H xs) (hwk1 : ∀ x ∈ xs, WkX wi1 ((wipe σ vs).set j (some x)) H (ys x)) (p : V → V → Bool) (v : V → V → V)
    (hm : ∀ x ∈ xs, (ys x).length ≤ m) (hz : xs.length * m ≤ 40000)
    (hw : ∀ x, wipe ((wipe σ vs).set j (some x)) vs = wipe σ vs) (hw1 : ∀ x y, wipe ((wipe ((wipe σ vs).set j (some x)) vs1).set j1 (some y)) vs1 = wipe ((wipe σ vs).set j (some x)) vs1)
    (ht : ∀ x ∈ xs, ∀ y ∈ ys x, ∀ H1, Ex H H1 → EvT t1 ((wipe ((wipe σ vs).set j (some x)) vs1).set j1 (some y)) H1 (p x y))
    (he : ∀ x ∈ xs, ∀ y ∈ ys x, ∀ H1, Ex H H1 → p x y = true → Ev te ((wipe ((wipe σ vs).set j (some x)) vs1).set j1 (some y)) H1 (v x y)) :
    EvL (tLc2 wi (gName j) tYes wi1 (gName j1) t1 te vs vs1) σ H (xs.flatMap fun x => ((ys x).filter (p x)).map (v x)) := fun H0 e Q q => hwk H0 e _ fun J H1 e1 ⟨G, W, WG⟩ Dl hD => by
  refine ⟨fun i m H' => m = xs.length - i ∧ i ≤ xs.length ∧ Ex H1 H' ∧ H' Dl = some (.lst ((xs.take i).flatMap fun x => ((ys x).filter (p x)).map (v x))), ⟨xs.length, by omega, Nat.zero_le _, Ex.new hD, by rw [upd_same]; rfl⟩, ?_⟩
  rintro i m' H' ⟨rfl, hi, ex, hd⟩
  by_cases hlt : i < xs.length
  · refine .inr ⟨W.goes i H' hlt (WG _ ((e.trans e1).trans ex) fun b o _ hb => ex _ _ hb), fun H2 => Ex H1 H2 ∧ H2 Dl = some (.lst ((xs.take (i + 1)).flatMap fun x => ((ys x).filter (p x)).map (v x))), fun H2 n => ⟨xs.length - (i + 1), by omega, rfl, hlt, n.1, n.2⟩, fun x H2 hy => ?_⟩
    obtain ⟨rfl, hx⟩ := W.yields i H' x H2 hlt (WG _ ((e.trans e1).trans ex) fun b o _ hb => ex _ _ hb) hy
    have hmx : x ∈ xs := List.mem_of_getElem? hx
    refine ⟨hw x, rd_yes (iteT ?_)⟩
    have eH : Ex H H2 := (e.trans e1).trans ex
    refine hwk1 x hmx H2 eH _ fun J1 H3 e3 ⟨G1, W1, WG1⟩ => ?_
    refine ⟨fun k m H4 => m = (ys x).length - k ∧ k ≤ (ys x).length ∧ (∀ b o, H2 b = none → H3 b = some o → H4 b = some o) ∧ Ex H1 H4 ∧ H4 Dl = some (.lst (((xs.take i).flatMap fun x => ((ys x).filter (p x)).map (v x)) ++ (((ys x).take k).filter (p x)).map (v x))), ⟨(ys x).length, by omega, Nat.zero_le _, fun b o _ h => h, ex.trans e3, by rw [e3 _ _ hd]; simp⟩, ?_⟩
    rintro k m'' H4 ⟨rfl, hk, ex3, ex4, hd4⟩
    by_cases hlk : k < (ys x).length
    · refine .inr ⟨W1.goes k H4 hlk (WG1 _ ((e.trans e1).trans ex4) ex3), fun H5 => ((∀ b o, H2 b = none → H3 b = some o → H5 b = some o) ∧ Ex H1 H5 ∧ H5 Dl = some (.lst (((xs.take i).flatMap fun x => ((ys x).filter (p x)).map (v x)) ++ (((ys x).take (k + 1)).filter (p x)).map (v x)))), fun H5 n => ⟨(ys x).length - (k + 1), by omega, rfl, hlk, n.1, n.2.1, n.2.2⟩, fun y H5 hy => ?_⟩
      obtain ⟨rfl, hy2⟩ := W1.yields k H4 y H5 hlk (WG1 _ ((e.trans e1).trans ex4) ex3) hy
      have hmy : y ∈ ys x := List.mem_of_getElem? hy2
      refine ⟨hw1 x y, ?_⟩
      have e5 : Ex H H5 := (e.trans e1).trans ex4
      refine ht x hmx y hmy H1 (e.trans e1) H5 ex4 _ fun H6 e6 => ?_
      have hd6 := e6 _ _ hd4
      cases hp : p x y with
      | true =>
        refine iteT ?_
        refine he x hmx y hmy H1 (e.trans e1) hp H6 (ex4.trans e6) _ fun H7 e7 => ⟨_, e7 _ _ hd6, ?_, ?_⟩
        · have h1 := flatX_len (xs := xs) (ys := ys) (m := m) p v hm i
          have h2 := List.length_filter_le (p x) ((ys x).take k)
          have h4 := hm x hmx
          rw [List.length_append, List.length_map]
          rw [List.length_take] at h2
          have h3 : (i + 1) * m ≤ xs.length * m := Nat.mul_le_mul_right _ hlt
          rw [Nat.succ_mul] at h3
          exact sz_lt (by omega)
        · refine ⟨?_, ?_, ?_⟩
          · intro b o hn hb
            have hbn : b ≠ Dl := fun z => by rw [z, hd] at hn; cases hn
            rw [upd_ne hbn]
            exact e7 _ _ (e6 _ _ (ex3 _ _ hn hb))
          · exact Ex.mut ((ex4.trans e6).trans e7) hD
          · rw [upd_same, take_succ_get hy2, List.filter_append, List.map_append, List.append_assoc]
            simp [hp]
      | false =>
        refine iteF ?_
        refine ⟨fun b o hn hb => e6 _ _ (ex3 _ _ hn hb), ex4.trans e6, ?_⟩
        rw [hd6, take_succ_get hy2, List.filter_append]
        simp [hp]
    · obtain rfl : k = (ys x).length := by omega
      refine .inl ⟨W1.stops H4 (WG1 _ ((e.trans e1).trans ex4) ex3), ex4, ?_⟩
      rw [hd4, take_succ_get hx, List.flatMap_append, List.take_length]
      simp
  · obtain rfl : i = xs.length := by omega
    refine .inl ⟨W.stops H' (WG _ ((e.trans e1).trans ex) fun b o _ hb => ex _ _ hb), q Dl H' (fresh_back e1 hD) (e1.trans ex) ?_⟩
    rw [hd, List.take_length]
end
end NW

/-! zip(*lists), walked with one name: the iterators one by one, whatever their number (at most four when it begins). -/
namespace NW
open PySem PySem.Spec PyProof.Rows L2
abbrev Ent := Addr × Addr × Array Value
def ZAt (Ls : List Ent) (i : Nat) (h : Heap) : Prop := ∀ x ∈ Ls, h.IsListIter x.1 x.2.1 i ∧ h.IsList x.2.1 x.2.2
structure SepN (z TI TO : Addr) (Ls : List Ent) : Prop where
  TIz : TI ≠ z
  TOz : TO ≠ z
  TITO : TI ≠ TO
  nd : (Ls.map (·.1)).Nodup
  a1 : ∀ x ∈ Ls, x.1 ≠ z ∧ x.1 ≠ TI ∧ x.1 ≠ TO ∧ x.2.1 ≠ z ∧ x.2.1 ≠ TO
  a2 : ∀ x ∈ Ls, ∀ y ∈ Ls, x.1 ≠ y.2.1
def refsN (Ls : List Ent) : Array Value := (Ls.map fun x => Value.ref x.1).toArray
abbrev IsTupN (h : Heap) (T : Addr) (vs : Array Value) : Prop := h.get? T = some { cls := .type "tuple", data := .seq vs }
/-- a zip, whatever tuple it made last -/
abbrev IsZipG (h : Heap) (z TI TO : Addr) (f0 f1 : Value) : Prop := h.get? z = some { cls := .type "zip", data := .fields #[f0, f1, .bool false, .ref TI, .ref TO] }
/-- the first k iterators were asked, the others were not -/
structure ZMid (Ls : List Ent) (i k : Nat) (z TO : Addr) (h0 h : Heap) : Prop where
  at_ : ∀ j x, Ls[j]? = some x → h.IsListIter x.1 x.2.1 (if j < k then i + 1 else i) ∧ h.IsList x.2.1 x.2.2
  sz : h.objs.size = h0.objs.size
  kp : ∀ c o, c ≠ z → c ≠ TO → (∀ x ∈ Ls, c ≠ x.1) → h0.get? c = some o → h.get? c = some o
section
variable {prog : Program} {w : World} {A : Around} {E : Value → Shared → Prop} {z TI TO : Addr} {Ls : List Ent} {n i k : Nat}
theorem ent_ne (S : SepN z TI TO Ls) {j k : Nat} {x y : Ent} (hx : Ls[j]? = some x) (hy : Ls[k]? = some y) (h : j ≠ k) : x.1 ≠ y.1 := fun e => h (by
  have h1 : (Ls.map (·.1))[j]? = some x.1 := by rw [List.getElem?_map, hx]; rfl
  have h2 : (Ls.map (·.1))[k]? = some x.1 := by rw [List.getElem?_map, hy, e]; rfl
  exact (List.getElem?_inj (List.getElem?_eq_some_iff.mp h1).1 S.nd).mp (h1.trans h2.symm))
/-- the k-th iterator is asked -/
theorem ask_item {h0 hp : Heap} {g : Array GenState} {d : Drawn} {tk : Nat} {os : OsState} {x : Ent} {Q : Value → Shared → Prop} (hh : A.handled = none) (S : SepN z TI TO Ls) (hx : Ls[k]? = some x) (hi : i < x.2.2.size) (M : ZMid Ls i k z TO h0 hp)
    (q : ∀ v h' tk', x.2.2[i]? = some v → ZMid Ls i (k + 1) z TO h0 h' → (∀ c o, (∀ y ∈ Ls, c ≠ y.1) → hp.get? c = some o → h'.get? c = some o) → Q v ⟨h', g, d, tk', os⟩) :
    wpAny (model prog w) A (Builtin.SmallTypes.nextOf (.ref x.1)) Q E ⟨hp, g, d, tk, os⟩ := by
  have hm := List.mem_of_getElem? hx
  have st := M.at_ k x hx
  rw [if_neg (Nat.lt_irrefl k)] at st
  have D := Draws.list (prog := prog) (w := w) hh x.1 x.2.1 (fun e => S.a2 x hm x hm e.symm) x.2.2
  refine D.item i _ _ _ hi st fun v h' tk' hv st' sb => ?_
  have sb : Heap.SameBut x.1 hp h' := sb
  refine q v h' tk' hv ⟨fun j y hy => ?_, ?_, fun c o c1 c2 c3 e => ?_⟩ fun c o c3 e => sb.extBut _ _ (c3 x hm) e
  · by_cases e : j = k
    · subst e
      have exy : y = x := Option.some.inj (hy.symm.trans hx)
      subst exy
      rw [if_pos (Nat.lt_succ_self _)]
      exact st'
    · have hym := List.mem_of_getElem? hy
      have e2 : (if j < k + 1 then i + 1 else i) = (if j < k then i + 1 else i) := by
        by_cases h1 : j < k
        · rw [if_pos h1, if_pos (by omega)]
        · rw [if_neg h1, if_neg (by omega)]
      rw [e2]
      have m := M.at_ j y hy
      exact ⟨m.1.at fun o h => sb.extBut _ _ (ent_ne S hy hx e) h, m.2.at fun o h => sb.extBut _ _ (fun z => S.a2 x hm y hym z.symm) h⟩
  · rw [sb.1]; exact M.sz
  · exact sb.extBut _ _ (c3 x hm) (M.kp c o c1 c2 c3 e)
theorem alive_at {M : Model} {s : Shared} {a : Addr} {Q : Option Obj → Shared → Prop} (h : Q (s.heap.get? a) s) : wpAny M A (loadIfAlive a) Q E s := by
  intro Γ p _
  unfold loadIfAlive
  rw [Sem.wp_loadIfAlive]
  simpa using h
theorem ZMid.but (S : SepN z TI TO Ls) {h0 h h' : Heap} (M : ZMid Ls i k z TO h0 h) (sb : Heap.SameBut TO h h') : ZMid Ls i k z TO h0 h' :=
  ⟨fun j x hx => ⟨(M.at_ j x hx).1.at fun o e => sb.extBut _ _ (S.a1 x (List.mem_of_getElem? hx)).2.2.1 e, (M.at_ j x hx).2.at fun o e => sb.extBut _ _ (S.a1 x (List.mem_of_getElem? hx)).2.2.2.2 e⟩, sb.1.trans M.sz, fun c o c1 c2 c3 e => sb.extBut _ _ c2 (M.kp c o c1 c2 c3 e)⟩
theorem ZMid.butz (S : SepN z TI TO Ls) {h0 h h' : Heap} (M : ZMid Ls i k z TO h0 h) (sb : Heap.SameBut z h h') : ZMid Ls i k z TO h0 h' :=
  ⟨fun j x hx => ⟨(M.at_ j x hx).1.at fun o e => sb.extBut _ _ (S.a1 x (List.mem_of_getElem? hx)).1 e, (M.at_ j x hx).2.at fun o e => sb.extBut _ _ (S.a1 x (List.mem_of_getElem? hx)).2.2.2.1 e⟩, sb.1.trans M.sz, fun c o c1 c2 c3 e => sb.extBut _ _ c1 (M.kp c o c1 c2 c3 e)⟩
theorem ZMid.push {h0 h : Heap} {ob : Obj} (M : ZMid Ls i k z TO h0 h) : ∀ j x, Ls[j]? = some x → (h.push ob).IsListIter x.1 x.2.1 (if j < k then i + 1 else i) ∧ (h.push ob).IsList x.2.1 x.2.2 :=
  fun j x hx => ⟨(M.at_ j x hx).1.at fun o e => Heap.get?_push_of_some _ e, (M.at_ j x hx).2.at fun o e => Heap.get?_push_of_some _ e⟩
theorem refs_idx {x : Ent} (hx : Ls[k]? = some x) : (refsN Ls).toList.zipIdx.drop k = (Value.ref x.1, k) :: (refsN Ls).toList.zipIdx.drop (k + 1) := by
  have hk := (List.getElem?_eq_some_iff.mp hx).1
  have hl : k < (refsN Ls).toList.zipIdx.length := by simp [refsN, hk]
  rw [List.drop_eq_getElem_cons hl]
  congr 1
  have : (refsN Ls).toList[k]'(by simpa [refsN] using hk) = Value.ref x.1 := by
    have h2 : Ls[k] = x := (List.getElem?_eq_some_iff.mp hx).2
    simp [refsN, h2]
  simp [this]
theorem zipN_next {hp : Heap} {g : Array GenState} {d : Drawn} {tk0 : Nat} {os : OsState} {f0 : Value} {f1 : Bool} {Q : Value → Shared → Prop} (hh : A.handled = none) (S : SepN z TI TO Ls) (h0 : Ls ≠ []) (hs : ∀ x ∈ Ls, x.2.2.size = n) (hi : i < n) (hn : Ls.length ≤ 1000)
    (hf : f0 = .none ∨ ∃ a, f0 = rawInt a)
    (hz : IsZipG hp z TI TO f0 (.bool f1)) (hTI : IsTupN hp TI (refsN Ls)) (hTO : ∃ vs, IsTupN hp TO vs ∧ vs.size = Ls.length) (st : ZAt Ls i hp)
    (q : ∀ (vs : Array Value) h' tk' a f1', vs.size = Ls.length → (∀ (j : Nat) (x : Ent), Ls[j]? = some x → vs[j]? = x.2.2[i]?) → IsZipG h' z TI TO (rawInt a) (.bool f1') → (∃ vs', IsTupN h' TO vs' ∧ vs'.size = Ls.length) → ZAt Ls (i + 1) h' → IsTupN h' hp.objs.size vs → h'.objs.size = hp.objs.size + 1 →
      (∀ c o, c ≠ z → c ≠ TO → (∀ x ∈ Ls, c ≠ x.1) → hp.get? c = some o → h'.get? c = some o) → Q (.ref hp.objs.size) ⟨h', g, d, tk', os⟩) :
    wpAny (model prog w) A (Builtin.«zip.__next__» ⟨[.ref z], []⟩) (fun fin s' => ∃ v, fin = .done (.ret v) ∧ Q v s') E ⟨hp, g, d, tk0, os⟩ := by
  obtain ⟨vs0, hTO, hsz0⟩ := hTO
  have hMS : ∀ {h : Heap}, ZMid Ls i 0 z TO hp h → ZMid Ls i 0 z TO hp h := fun x => x
  show wpAny _ _ (field (.ref z) 2 >>= _) _ _ _
  refine wpAny_bind (wpAny_field hz rfl (x := .bool false) rfl ?_)
  show wpAny _ _ (field (.ref z) 3 >>= _) _ _ _
  refine wpAny_bind (wpAny_field hz rfl (x := .ref TI) rfl ?_)
  refine wpAny_bind (wpAny_seqItems hTI rfl ?_)
  dsimp only
  have hne : (refsN Ls).isEmpty = false := by
    cases Ls with
    | nil => exact absurd rfl h0
    | cons a r => rfl
  have hlen : (refsN Ls).toList.zipIdx.length = Ls.length := by simp [refsN]
  rw [hne]
  show wpAny _ _ (Builtin.SmallTypes.ownedTupleIsFree (.ref z) >>= _) _ _ _
  have M0 : ∀ (h : Heap), Heap.SameBut z hp h → ZMid Ls i 0 z TO hp h := fun h sb => ⟨fun j x hx => by
    have hm := List.mem_of_getElem? hx
    have s1 := st x hm
    have a1 := S.a1 x hm
    rw [if_neg (Nat.not_lt_zero _)]
    exact ⟨s1.1.at fun o e => sb.extBut _ _ a1.1 e, s1.2.at fun o e => sb.extBut _ _ a1.2.2.2.1 e⟩, sb.1, fun c o c1 _ _ e => sb.extBut _ _ c1 e⟩
  refine wpAny_bind ?_
  refine wpAny_mono (Q := fun r s' => ∃ f0' f1' h, s' = (⟨h, g, d, tk0, os⟩ : Shared) ∧ IsZipG h z TI TO f0' (.bool f1') ∧ Heap.SameBut z hp h ∧ (r = true ∨ ∃ c, f0' = rawInt c)) ?_ (fun a s' hs' => ?_) (fun _ _ x => x)
  · unfold Builtin.SmallTypes.ownedTupleIsFree
    refine wpAny_bind (wpAny_field hz rfl (x := f0) rfl ?_)
    rcases hf with rfl | ⟨a, rfl⟩
    · exact wpAny_pure ⟨_, _, hp, rfl, hz, Heap.SameBut.refl _ _, .inl rfl⟩
    · refine wpAny_bind (alive_at ?_)
      by_cases hal : (hp.get? a.toNat).isNone = true
      · dsimp only
        rw [if_pos hal]
        exact wpAny_pure ⟨_, _, hp, rfl, hz, Heap.SameBut.refl _ _, .inl rfl⟩
      · dsimp only
        rw [if_neg hal]
        refine wpAny_bind (wpAny_field hz rfl (x := .bool f1) rfl ?_)
        cases f1 with
        | true => exact wpAny_pure ⟨_, _, hp, rfl, hz, Heap.SameBut.refl _ _, .inr ⟨a, rfl⟩⟩
        | false =>
          refine wpAny_bind (wpAny_setField_rec hz (by simp) fun g0 hz0 hs0 => ?_)
          exact wpAny_pure ⟨rawInt a, true, g0, rfl, hz0, hs0, .inr ⟨a, rfl⟩⟩
  obtain ⟨f0', f1', h, rfl, hz1, sb1, hfb⟩ := hs'
  have M1 := M0 h sb1
  have hTI1 : IsTupN h TI (refsN Ls) := sb1.extBut _ _ S.TIz hTI
  have hTO1 : IsTupN h TO vs0 := sb1.extBut _ _ S.TOz hTO
  cases a with
  | true =>
    simp only [if_true]
    refine wpAny_bind (wpAny_rule ?_)
    refine wpAny_bind (wpAny_field hz1 rfl (x := .ref TO) rfl ?_)
    refine wpAny_bind (wpAny_setField_rec hz1 (by simp) fun g0 hz0 hs0 => ?_)
    replace hz0 : IsZipG g0 z TI TO .ellipsis (.bool f1') := hz0
    replace hs0 : Heap.SameBut z h g0 := hs0
    refine wpAny_bind (wpAny_mono (wpAny_forIn_list _ (fun rest b s' => b = (none, ()) ∧ ∃ k h' tk' vs, k ≤ Ls.length ∧ rest = (refsN Ls).toList.zipIdx.drop k ∧ s' = (⟨h', g, d, tk', os⟩ : Shared) ∧ ZMid Ls i k z TO hp h' ∧ IsZipG h' z TI TO .ellipsis (.bool f1') ∧ IsTupN h' TO vs ∧ vs.size = Ls.length ∧ (∀ (j : Nat) (x : Ent), j < k → Ls[j]? = some x → vs[j]? = x.2.2[i]?))
      (fun b s' => b = (none, ()) ∧ ∃ h' tk' vs, s' = (⟨h', g, d, tk', os⟩ : Shared) ∧ ZMid Ls i Ls.length z TO hp h' ∧ IsZipG h' z TI TO .ellipsis (.bool f1') ∧ IsTupN h' TO vs ∧ vs.size = Ls.length ∧ (∀ (j : Nat) (x : Ent), Ls[j]? = some x → vs[j]? = x.2.2[i]?)) (fun y rest b s' hI => ?_) (fun b s' hI => ?_) _ _ ?_) (fun b s' hb => ?_) fun _ _ x => x)
    · obtain ⟨rfl, k, h', tk', vs, hk, rfl', rfl, M, hz', hT', hv, hval⟩ := hI
      have hkl : k < Ls.length := by
        refine Nat.lt_of_not_le fun e => ?_
        rw [List.drop_of_length_le (by rw [hlen]; exact e)] at rfl'
        cases rfl'
      have hx : Ls[k]? = some Ls[k] := List.getElem?_eq_getElem hkl
      generalize Ls[k] = x at hx
      rw [refs_idx hx] at rfl'
      injection rfl' with e1 e2
      subst e1 e2
      have hm := List.mem_of_getElem? hx
      have a1 := S.a1 x hm
      refine wpAny_bind (wpAny_onRaise ?_)
      show wpAny _ _ (Builtin.SmallTypes.nextOf (.ref x.1) >>= _) _ _ ⟨h', g, d, tk', os⟩
      refine wpAny_bind (ask_item hh S hx (by rw [hs x hm]; exact hi) M fun v h2 tk2 hv2 M2 kp2 => wpAny_pure ?_)
      have hz2 := kp2 z _ (fun y hy e => (S.a1 y hy).1 e.symm) hz'
      have hT2 := kp2 TO _ (fun y hy e => (S.a1 y hy).2.2.1 e.symm) hT'
      refine wpAny_bind (wpAny_seqItems (s := ⟨h2, g, d, tk2, os⟩) hT2 rfl ?_)
      refine wpAny_bind (wpAny_updateSeq (s := ⟨h2, g, d, tk2, os⟩) hT2 rfl ?_ (by rw [hv]; exact Nat.le_trans hn (by decide)) (by rw [Array.size_setIfInBounds, hv]; exact Nat.le_trans hn (by decide)))
      refine wpAny_bind (wpAny_letGo (wpAny_pure ?_))
      have sbT : Heap.SameBut TO h2 (h2.update TO (Obj.mapSeq (·.setIfInBounds k v))) := Heap.SameBut.update ..
      have hgT : IsTupN (h2.update TO (Obj.mapSeq (·.setIfInBounds k v))) TO (vs.setIfInBounds k v) := by
        show Heap.get? _ _ = _
        rw [Heap.get?_update_self _ hT2 rfl]
        simp [Obj.mapSeq]
      refine ⟨rfl, k + 1, _, tk2, vs.setIfInBounds k v, hkl, rfl, rfl, M2.but S sbT, sbT.extBut _ _ S.TOz.symm hz2, hgT, by rw [Array.size_setIfInBounds, hv], fun j y hj hy => ?_⟩
      by_cases ej : j = k
      · subst ej
        have : y = x := Option.some.inj (hy.symm.trans hx)
        subst this
        rw [hv2, Array.getElem?_setIfInBounds_self_of_lt (by rw [hv]; exact hkl)]
      · rw [Array.getElem?_setIfInBounds_ne (fun e => ej e.symm)]
        exact hval j y (by omega) hy
    · obtain ⟨rfl, k, h', tk', vs, hk, rfl', rfl, M, hz', hT', hv, hval⟩ := hI
      have ek : k = Ls.length := by
        refine Nat.le_antisymm hk (Nat.le_of_not_lt fun e => ?_)
        have := congrArg List.length rfl'
        rw [List.length_drop, hlen] at this
        simp at this
        omega
      subst ek
      exact ⟨rfl, h', tk', vs, rfl, M, hz', hT', hv, fun j y hy => hval j y (List.getElem?_eq_some_iff.mp hy).1 hy⟩
    · exact ⟨rfl, 0, g0, tk0, vs0, Nat.zero_le _, rfl, rfl, M1.butz S hs0, hz0, hs0.extBut _ _ S.TOz hTO1, hsz0, fun j _ hj => absurd hj (Nat.not_lt_zero _)⟩
    · obtain ⟨rfl, h', tk', vs, rfl, M, hz', hT', hv, hval⟩ := hb
      dsimp only
      refine wpAny_bind (wpAny_seqItems (s := ⟨h', g, d, tk', os⟩) hT' rfl ?_)
      refine wpAny_bind (wpAny_newTuple ?_ (by rw [Array.length_toList, hv]; exact Nat.le_trans hn (by decide)))
      have hpu : h'.objs.size = hp.objs.size := M.sz
      have hzlt : z < h'.objs.size := Heap.lt_size hz'
      show wpAny _ _ (Builtin.SmallTypes.ownedTupleHandOut (.ref z) (.ref h'.objs.size) >>= _) _ _ ⟨h'.push { cls := .type "tuple", data := .seq vs.toList.toArray }, g, d, tk', os⟩
      refine wpAny_bind ?_
      unfold Builtin.SmallTypes.ownedTupleHandOut
      have z6 : IsZipG (h'.push { cls := .type "tuple", data := .seq vs.toList.toArray }) z TI TO .ellipsis (.bool f1') := Heap.get?_push_of_some _ hz'
      refine wpAny_bind (wpAny_setField_rec z6 (by simp) fun h7 z7 s7 => ?_)
      replace z7 : IsZipG h7 z TI TO (rawInt h'.objs.size) (.bool f1') := z7
      refine wpAny_setField_rec z7 (by simp) fun h8 z8 s8 => ?_
      replace z8 : IsZipG h8 z TI TO (rawInt h'.objs.size) (.bool false) := z8
      replace s7 : Heap.SameBut z (h'.push { cls := .type "tuple", data := .seq vs.toList.toArray }) h7 := s7
      replace s8 : Heap.SameBut z h7 h8 := s8
      have up : ∀ c o, c ≠ z → h'.get? c = some o → h8.get? c = some o := fun c o c1 e => s8.extBut _ _ c1 (s7.extBut _ _ c1 (Heap.get?_push_of_some _ e))
      refine wpAny_pure ⟨_, rfl, ?_⟩
      show Q (.ref h'.objs.size) ⟨h8, g, d, tk', os⟩
      rw [hpu]
      refine q vs h8 tk' _ false hv hval z8 ⟨vs, up _ _ S.TOz hT', hv⟩ (fun x hx => ?_) ?_ ?_ (fun c o c1 c2 c3 e => up c o c1 (M.kp c o c1 c2 c3 e))
      · obtain ⟨j, hj⟩ := List.mem_iff_getElem?.mp hx
        have m := M.at_ j x hj
        rw [if_pos (List.getElem?_eq_some_iff.mp hj).1] at m
        exact ⟨m.1.at fun o e => up _ _ (S.a1 x hx).1 e, m.2.at fun o e => up _ _ (S.a1 x hx).2.2.2.1 e⟩
      · rw [← hpu]
        have := s8.extBut _ _ (Nat.ne_of_gt hzlt) (s7.extBut _ _ (Nat.ne_of_gt hzlt) (Heap.get?_push_size _ rfl))
        rw [Array.toArray_toList] at this
        exact this
      · rw [s8.1, s7.1, Heap.size_push, hpu]
  | false =>
    rw [if_neg (by decide)]
    rw [← Array.forIn_toList]
    refine wpAny_bind (wpAny_mono (wpAny_forIn_list _ (fun rest b s' => b.1 = none ∧ ∃ k h' tk', k ≤ Ls.length ∧ rest = (refsN Ls).toList.drop k ∧ s' = (⟨h', g, d, tk', os⟩ : Shared) ∧ ZMid Ls i k z TO hp h' ∧ IsZipG h' z TI TO f0' (.bool f1') ∧ IsTupN h' TO vs0 ∧ b.2.size = k ∧ (∀ (j : Nat) (x : Ent), j < k → Ls[j]? = some x → b.2[j]? = x.2.2[i]?))
      (fun b s' => b.1 = none ∧ ∃ h' tk', s' = (⟨h', g, d, tk', os⟩ : Shared) ∧ ZMid Ls i Ls.length z TO hp h' ∧ IsZipG h' z TI TO f0' (.bool f1') ∧ IsTupN h' TO vs0 ∧ b.2.size = Ls.length ∧ (∀ (j : Nat) (x : Ent), Ls[j]? = some x → b.2[j]? = x.2.2[i]?)) (fun y rest b s' hI => ?_) (fun b s' hI => ?_) _ _ ?_) (fun b s' hb => ?_) fun _ _ x => x)
    · obtain ⟨b1, bs⟩ := b
      obtain ⟨rfl, k, h', tk', hk, rfl', rfl, M, hz', hT', hv, hval⟩ := hI
      dsimp only at hv hval
      have hlen2 : (refsN Ls).toList.length = Ls.length := by simp [refsN]
      have hkl : k < Ls.length := by
        refine Nat.lt_of_not_le fun e => ?_
        rw [List.drop_of_length_le (by rw [hlen2]; exact e)] at rfl'
        cases rfl'
      have hx : Ls[k]? = some Ls[k] := List.getElem?_eq_getElem hkl
      have hd : (refsN Ls).toList.drop k = Value.ref (Ls[k]).1 :: (refsN Ls).toList.drop (k + 1) := by
        rw [List.drop_eq_getElem_cons (by rw [hlen2]; exact hkl)]
        simp [refsN]
      generalize Ls[k] = x at hx hd
      rw [hd] at rfl'
      injection rfl' with e1 e2
      subst e1 e2
      have hm := List.mem_of_getElem? hx
      refine wpAny_bind (wpAny_holding ?_)
      show wpAny _ _ (Builtin.SmallTypes.nextOf (.ref x.1) >>= _) _ _ ⟨h', g, d, tk', os⟩
      refine wpAny_bind (ask_item hh S hx (by rw [hs x hm]; exact hi) M fun v h2 tk2 hv2 M2 kp2 => wpAny_pure ?_)
      have hz2 := kp2 z _ (fun y hy e => (S.a1 y hy).1 e.symm) hz'
      have hT2 := kp2 TO _ (fun y hy e => (S.a1 y hy).2.2.1 e.symm) hT'
      refine wpAny_pure ⟨rfl, k + 1, h2, tk2, hkl, rfl, rfl, M2, hz2, hT2, by show (bs.push v).size = k + 1; rw [Array.size_push, hv], fun j y hj hy => ?_⟩
      show (bs.push v)[j]? = _
      by_cases ej : j = k
      · subst ej
        have : y = x := Option.some.inj (hy.symm.trans hx)
        subst this
        rw [hv2, Array.getElem?_push, if_pos hv.symm]
      · rw [Array.getElem?_push, if_neg (by rw [hv]; exact ej)]
        exact hval j y (by omega) hy
    · obtain ⟨hb1, k, h', tk', hk, rfl', rfl, M, hz', hT', hv, hval⟩ := hI
      have hlen2 : (refsN Ls).toList.length = Ls.length := by simp [refsN]
      have ek : k = Ls.length := by
        refine Nat.le_antisymm hk (Nat.le_of_not_lt fun e => ?_)
        have := congrArg List.length rfl'
        rw [List.length_drop, hlen2] at this
        simp at this
        omega
      subst ek
      exact ⟨hb1, h', tk', rfl, M, hz', hT', hv, fun j y hy => hval j y (List.getElem?_eq_some_iff.mp hy).1 hy⟩
    · exact ⟨rfl, 0, h, tk0, Nat.zero_le _, rfl, rfl, M1, hz1, hTO1, rfl, fun j _ hj => absurd hj (Nat.not_lt_zero _)⟩
    · obtain ⟨b1, bs⟩ := b
      obtain ⟨rfl, h', tk', rfl, M, hz', hT', hv, hval⟩ := hb
      dsimp only at hv hval ⊢
      refine wpAny_bind (wpAny_newTuple ?_ (by rw [Array.length_toList, hv]; exact Nat.le_trans hn (by decide)))
      have hpu : h'.objs.size = hp.objs.size := M.sz
      have hzlt : z < h'.objs.size := Heap.lt_size hz'
      obtain ⟨c0, rfl⟩ : ∃ c, f0' = rawInt c := hfb.resolve_left (by decide)
      refine wpAny_pure ⟨_, rfl, ?_⟩
      show Q (.ref h'.objs.size) ⟨h'.push { cls := .type "tuple", data := .seq bs.toList.toArray }, g, d, tk', os⟩
      have up : ∀ c o, h'.get? c = some o → (h'.push { cls := .type "tuple", data := .seq bs.toList.toArray }).get? c = some o := fun c o e => Heap.get?_push_of_some _ e
      rw [Array.toArray_toList] at up ⊢
      rw [hpu]
      refine q bs _ tk' c0 f1' hv hval (up _ _ hz') ⟨vs0, up _ _ hT', hsz0⟩ (fun x hx => ?_) ?_ ?_ (fun c o c1 c2 c3 e => up c o (M.kp c o c1 c2 c3 e))
      · obtain ⟨j, hj⟩ := List.mem_iff_getElem?.mp hx
        have m := M.at_ j x hj
        rw [if_pos (List.getElem?_eq_some_iff.mp hj).1] at m
        exact ⟨m.1.at fun o e => up _ _ e, m.2.at fun o e => up _ _ e⟩
      · rw [← hpu]
        exact Heap.get?_push_size _ rfl
      · rw [Heap.size_push, hpu]
theorem zipN_end {hp : Heap} {g : Array GenState} {d : Drawn} {tk0 : Nat} {os : OsState} {f0 : Value} {f1 : Bool} {Q : Fin → Shared → Prop} (hh : A.handled = none) (S : SepN z TI TO Ls) (h0 : Ls ≠ []) (hs : ∀ (x : Ent), x ∈ Ls → x.2.2.size = n)
    (hf : f0 = .none ∨ ∃ a, f0 = rawInt a)
    (hz : IsZipG hp z TI TO f0 (.bool f1)) (hTI : IsTupN hp TI (refsN Ls)) (st : ZAt Ls n hp)
    (hE : ∀ h' tk' e, (∀ c o, c ≠ z → c ≠ TO → (∀ (x : Ent), x ∈ Ls → c ≠ x.1) → hp.get? c = some o → h'.get? c = some o) → (∃ o, h'.get? e = some o ∧ o.cls = .type "StopIteration") → E (.ref e) ⟨h', g, d, tk', os⟩) :
    wpAny (model prog w) A (Builtin.«zip.__next__» ⟨[.ref z], []⟩) Q E ⟨hp, g, d, tk0, os⟩ := by
  show wpAny _ _ (field (.ref z) 2 >>= _) _ _ _
  refine wpAny_bind (wpAny_field hz rfl (x := .bool false) rfl ?_)
  show wpAny _ _ (field (.ref z) 3 >>= _) _ _ _
  refine wpAny_bind (wpAny_field hz rfl (x := .ref TI) rfl ?_)
  refine wpAny_bind (wpAny_seqItems hTI rfl ?_)
  dsimp only
  have hne : (refsN Ls).isEmpty = false := by
    cases Ls with
    | nil => exact absurd rfl h0
    | cons a r => rfl
  rw [hne]
  obtain ⟨x, r, rfl⟩ := List.exists_cons_of_ne_nil h0
  have hm : x ∈ x :: r := List.mem_cons_self
  have a1 := S.a1 x hm
  show wpAny _ _ (Builtin.SmallTypes.ownedTupleIsFree (.ref z) >>= _) _ _ _
  refine wpAny_bind ?_
  refine wpAny_mono (Q := fun r s' => ∃ f0' f1' h, s' = (⟨h, g, d, tk0, os⟩ : Shared) ∧ IsZipG h z TI TO f0' (.bool f1') ∧ Heap.SameBut z hp h) ?_ (fun a s' hs' => ?_) (fun _ _ x => x)
  · unfold Builtin.SmallTypes.ownedTupleIsFree
    refine wpAny_bind (wpAny_field hz rfl (x := f0) rfl ?_)
    rcases hf with rfl | ⟨a, rfl⟩
    · exact wpAny_pure ⟨_, _, hp, rfl, hz, Heap.SameBut.refl _ _⟩
    · refine wpAny_bind (alive_at ?_)
      by_cases hal : (hp.get? a.toNat).isNone = true
      · dsimp only
        rw [if_pos hal]
        exact wpAny_pure ⟨_, _, hp, rfl, hz, Heap.SameBut.refl _ _⟩
      · dsimp only
        rw [if_neg hal]
        refine wpAny_bind (wpAny_field hz rfl (x := .bool f1) rfl ?_)
        cases f1 with
        | true => exact wpAny_pure ⟨_, _, hp, rfl, hz, Heap.SameBut.refl _ _⟩
        | false =>
          refine wpAny_bind (wpAny_setField_rec hz (by simp) fun g0 hz0 hs0 => ?_)
          exact wpAny_pure ⟨rawInt a, true, g0, rfl, hz0, hs0⟩
  obtain ⟨f0', f1', h, rfl, hz1, sb1⟩ := hs'
  have D := Draws.list (prog := prog) (w := w) hh x.1 x.2.1 (fun e => S.a2 x hm x hm e.symm) x.2.2
  have st1 := st x hm
  rw [← hs x hm] at st1
  cases a with
  | true =>
    simp only [if_true]
    refine wpAny_bind (wpAny_rule ?_)
    refine wpAny_bind (wpAny_field hz1 rfl (x := .ref TO) rfl ?_)
    refine wpAny_bind (wpAny_setField_rec hz1 (by simp) fun g0 hz0 hs0 => ?_)
    replace hz0 : IsZipG g0 z TI TO .ellipsis (.bool f1') := hz0
    replace hs0 : Heap.SameBut z h g0 := hs0
    have ez : (refsN (x :: r)).toList.zipIdx = (Value.ref x.1, 0) :: (refsN r).toList.zipIdx 1 := by simp [refsN]
    rw [ez, List.forIn_cons]
    refine wpAny_bind (wpAny_bind (wpAny_bind (wpAny_onRaise ?_)))
    show wpAny _ _ (Builtin.SmallTypes.nextOf (.ref x.1) >>= _) _ _ ⟨g0, g, d, tk0, os⟩
    refine wpAny_bind (D.done ⟨g0, g, d, tk0, os⟩ _ _ ⟨st1.1.at fun o e => hs0.extBut _ _ a1.1 (sb1.extBut _ _ a1.1 e), st1.2.at fun o e => hs0.extBut _ _ a1.2.2.2.1 (sb1.extBut _ _ a1.2.2.2.1 e)⟩ fun q e hq he => ?_)
    replace hq : Heap.ExtBut x.1 g0 q := hq
    obtain ⟨oe, hoe, hce⟩ := he
    replace hoe : q.get? e = some oe := hoe
    have hzq : IsZipG q z TI TO .ellipsis (.bool f1') := hq _ _ (Ne.symm a1.1) hz0
    have hez : e ≠ z := fun y => by subst y; rw [hzq] at hoe; cases hoe; simp at hce
    refine wpAny_setField_rec (s := ⟨q, g, d, tk0, os⟩) hzq (by simp) fun q' _ hq' => ?_
    replace hq' : Heap.SameBut z q q' := hq'
    exact hE q' tk0 e (fun c o cz cT cx y => hq'.extBut _ _ cz (hq _ _ (cx x hm) (hs0.extBut _ _ cz (sb1.extBut _ _ cz y)))) ⟨oe, hq'.extBut _ _ hez hoe, hce⟩
  | false =>
    rw [if_neg (by decide)]
    rw [← Array.forIn_toList]
    have ez : (refsN (x :: r)).toList = Value.ref x.1 :: (refsN r).toList := by simp [refsN]
    rw [ez, List.forIn_cons]
    refine wpAny_bind (wpAny_bind (wpAny_bind (wpAny_holding ?_)))
    show wpAny _ _ (Builtin.SmallTypes.nextOf (.ref x.1) >>= _) _ _ ⟨h, g, d, tk0, os⟩
    refine wpAny_bind (D.done ⟨h, g, d, tk0, os⟩ _ _ ⟨st1.1.at fun o e => sb1.extBut _ _ a1.1 e, st1.2.at fun o e => sb1.extBut _ _ a1.2.2.2.1 e⟩ fun q e hq he => ?_)
    replace hq : Heap.ExtBut x.1 h q := hq
    exact hE q tk0 e (fun c o cz cT cx y => hq _ _ (cx x hm) (sb1.extBut _ _ cz y)) he
end
section
variable {prog : Program} {w : World} {A : Around} {E : Value → Shared → Prop} {z TI TO : Addr} {Ls : List Ent} {n i k : Nat}
theorem pyNext_zipN {s : Shared} {f0 : Value} {f1 : Bool} {Q : Option Value → Shared → Prop} (hh : A.handled = none) (S : SepN z TI TO Ls) (h0 : Ls ≠ []) (hs : ∀ (x : Ent), x ∈ Ls → x.2.2.size = n) (hi : i < n) (hn : Ls.length ≤ 1000)
    (hf : f0 = .none ∨ ∃ a, f0 = rawInt a)
    (hz : IsZipG s.heap z TI TO f0 (.bool f1)) (hTI : IsTupN s.heap TI (refsN Ls)) (hTO : ∃ vs, IsTupN s.heap TO vs ∧ vs.size = Ls.length) (st : ZAt Ls i s.heap)
    (q : ∀ (vs : Array Value) h' tk' a f1', vs.size = Ls.length → (∀ (j : Nat) (x : Ent), Ls[j]? = some x → vs[j]? = x.2.2[i]?) → IsZipG h' z TI TO (rawInt a) (.bool f1') → (∃ vs', IsTupN h' TO vs' ∧ vs'.size = Ls.length) → ZAt Ls (i + 1) h' → IsTupN h' s.heap.objs.size vs → h'.objs.size = s.heap.objs.size + 1 →
      (∀ c o, c ≠ z → c ≠ TO → (∀ (x : Ent), x ∈ Ls → c ≠ x.1) → s.heap.get? c = some o → h'.get? c = some o) → Q (some (.ref s.heap.objs.size)) { s with heap := h', toks := tk' }) :
    wpAny (model prog w) A (pyNext (.ref z)) Q E s := by
  have hT : s.TypeIs (.ref z) "zip" := ⟨_, hz, rfl⟩
  obtain ⟨hp, g, d, tk0, os⟩ := s
  unfold pyNext
  exact wpAny_bind (wpAny_attempt (wpAny_callSpecial?_slot (name := Str.ofString "__next__") hT F.slot_zip_next
    (wpAny_call_entry F.slot_zip_next hT F.entry_zip_next
      (zipN_next (by simpa using hh) S h0 hs hi hn hf hz hTI hTO st fun vs h' tk' a f1' b1 b2 b3 b4 b5 b6 b7 b8 => wpAny_pure (q vs h' tk' a f1' b1 b2 b3 b4 b5 b6 b7 b8)) (F.args_zip_next_1 _))))
theorem pyNext_zipN_end {s : Shared} {f0 : Value} {f1 : Bool} {Q : Option Value → Shared → Prop} (hh : A.handled = none) (S : SepN z TI TO Ls) (h0 : Ls ≠ []) (hs : ∀ (x : Ent), x ∈ Ls → x.2.2.size = n)
    (hf : f0 = .none ∨ ∃ a, f0 = rawInt a)
    (hz : IsZipG s.heap z TI TO f0 (.bool f1)) (hTI : IsTupN s.heap TI (refsN Ls)) (st : ZAt Ls n s.heap)
    (q : ∀ h' tk', (∀ c o, c ≠ z → c ≠ TO → (∀ (x : Ent), x ∈ Ls → c ≠ x.1) → s.heap.get? c = some o → h'.get? c = some o) → Q none { s with heap := h', toks := tk' }) :
    wpAny (model prog w) A (pyNext (.ref z)) Q E s := by
  have hT : s.TypeIs (.ref z) "zip" := ⟨_, hz, rfl⟩
  obtain ⟨hp, g, d, tk0, os⟩ := s
  unfold pyNext
  refine wpAny_bind (wpAny_attempt (wpAny_callSpecial?_slot (name := Str.ofString "__next__") hT F.slot_zip_next
    (wpAny_call_entry F.slot_zip_next hT F.entry_zip_next (zipN_end (by simpa using hh) S h0 hs hf hz hTI st fun h' tk e hk he => ?_) (F.args_zip_next_1 _))))
  obtain ⟨o, ho, hc⟩ := he
  refine wpAny_bind (wpAny_isInstance (T := "StopIteration") (b := true) ⟨o, ho, hc⟩ isSubtype_stop ?_)
  exact wpAny_pure (q _ _ hk)
/-! zip(*lists) begins -/
def itObj (l : Addr) : Obj := { cls := .type "list_iterator", data := .fields #[.ref l, .int 0 0] }
def pushIts (h : Heap) (ls : List (Addr × Array Value)) : Heap := ls.foldl (fun h l => h.push (itObj l.1)) h
theorem pushIts_size : ∀ (ls : List (Addr × Array Value)) (h : Heap), (pushIts h ls).objs.size = h.objs.size + ls.length
  | [], h => rfl
  | l :: r, h => by
    show (pushIts (h.push (itObj l.1)) r).objs.size = _
    rw [pushIts_size r, Heap.size_push, List.length_cons]
    omega
theorem pushIts_keep : ∀ (ls : List (Addr × Array Value)) (h : Heap) {c : Addr} {o : Obj}, h.get? c = some o → (pushIts h ls).get? c = some o
  | [], h, c, o, e => e
  | l :: r, h, c, o, e => pushIts_keep r _ (Heap.get?_push_of_some _ e)
theorem pushIts_at : ∀ (ls : List (Addr × Array Value)) (h : Heap) (j : Nat) (l : Addr × Array Value), ls[j]? = some l → (pushIts h ls).get? (h.objs.size + j) = some (itObj l.1)
  | [], h, j, l, e => by simp at e
  | a :: r, h, 0, l, e => by
    have : a = l := by simpa using e
    subst this
    exact pushIts_keep r _ (Heap.get?_push_size _ rfl)
  | a :: r, h, j + 1, l, e => by
    have := pushIts_at r (h.push (itObj a.1)) j l (by simpa using e)
    rw [Heap.size_push] at this
    show (pushIts (h.push (itObj a.1)) r).get? (h.objs.size + (j + 1)) = _
    rw [← this]
    congr 1
    show h.objs.size + (j + 1) = h.objs.size + 1 + j
    omega
def entsOf (b : Nat) (ls : List (Addr × Array Value)) : List Ent := ls.zipIdx.map fun x => (b + x.2, x.1.1, x.1.2)
theorem entsOf_get {b : Nat} {ls : List (Addr × Array Value)} {j : Nat} {x : Ent} : (entsOf b ls)[j]? = some x ↔ ∃ l, ls[j]? = some l ∧ x = (b + j, l.1, l.2) := by
  unfold entsOf
  rw [List.getElem?_map, List.getElem?_zipIdx]
  cases ls[j]? with
  | none => simp
  | some l => simp; exact eq_comm
theorem iterAll_lists {g : Array GenState} {d : Drawn} {tk : Nat} {os : OsState} (ls : List (Addr × Array Value)) {hp : Heap} {Q : List Value → Shared → Prop} (hl : ∀ l ∈ ls, hp.IsList l.1 l.2)
    (q : Q ((List.range ls.length).map fun j => .ref (hp.objs.size + j)) ⟨pushIts hp ls, g, d, tk, os⟩) : wpAny (model prog w) A (Builtin.SmallTypes.iterAll (ls.map fun l => .ref l.1)) Q E ⟨hp, g, d, tk, os⟩ := by
  unfold Builtin.SmallTypes.iterAll
  refine wpAny_bind (wpAny_mono (wpAny_forIn_list _ (fun rest b s' => ∃ k, k ≤ ls.length ∧ rest = (ls.map fun l => Value.ref l.1).drop k ∧ s' = (⟨pushIts hp (ls.take k), g, d, tk, os⟩ : Shared) ∧ b.toList = (List.range k).map fun j => .ref (hp.objs.size + j))
    (fun b s' => s' = (⟨pushIts hp ls, g, d, tk, os⟩ : Shared) ∧ b.toList = (List.range ls.length).map fun j => .ref (hp.objs.size + j)) (fun y rest b s' hI => ?_) (fun b s' hI => ?_) _ _ ?_) (fun b s' hb => ?_) fun _ _ x => x)
  · obtain ⟨k, hk, hr, rfl, hb⟩ := hI
    have hkl : k < ls.length := by
      refine Nat.lt_of_not_le fun e => ?_
      rw [List.drop_of_length_le (by rw [List.length_map]; exact e)] at hr
      cases hr
    have hx : ls[k]? = some ls[k] := List.getElem?_eq_getElem hkl
    have hd : (ls.map fun l => Value.ref l.1).drop k = Value.ref (ls[k]).1 :: (ls.map fun l => Value.ref l.1).drop (k + 1) := by
      rw [List.drop_eq_getElem_cons (by rw [List.length_map]; exact hkl)]
      simp
    generalize ls[k] = x at hx hd
    rw [hd] at hr
    injection hr with e1 e2
    subst e1 e2
    refine wpAny_bind (wpAny_holding (wpAny_pyIter_list ((hl x (List.mem_of_getElem? hx)).at fun o e => pushIts_keep _ _ e) (wpAny_pure ?_)))
    have et : pushIts hp (ls.take (k + 1)) = (pushIts hp (ls.take k)).push (itObj x.1) := by
      unfold pushIts
      rw [take_succ_get hx, List.foldl_append]
      rfl
    refine ⟨k + 1, hkl, rfl, ?_, ?_⟩
    · rw [et]; rfl
    · show (b.push _).toList = _
      rw [Array.toList_push, hb, List.range_succ, List.map_append]
      congr 1
      show [Value.ref (pushIts hp (ls.take k)).objs.size] = _
      rw [pushIts_size, List.length_take, Nat.min_eq_left (Nat.le_of_lt hkl)]
      rfl
  · obtain ⟨k, hk, hr, rfl, hb⟩ := hI
    have ek : k = ls.length := by
      refine Nat.le_antisymm hk (Nat.le_of_not_lt fun e => ?_)
      have := congrArg List.length hr
      rw [List.length_drop, List.length_map] at this
      simp at this
      omega
    subst ek
    rw [List.take_length]
    exact ⟨rfl, hb⟩
  · exact ⟨0, Nat.zero_le _, rfl, rfl, rfl⟩
  · obtain ⟨rfl, hb⟩ := hb
    exact wpAny_pure (hb ▸ q)
end
section
variable {prog : Program} {w : World} {A : Around} {E : Value → Shared → Prop}
abbrev gT (h : Heap) (ls : List (Addr × Array Value)) : Heap := (pushIts h ls).push { cls := .type "tuple", data := .seq ((List.range ls.length).map fun j => Value.ref (h.objs.size + j)).toArray }
abbrev gO (h : Heap) (ls : List (Addr × Array Value)) : Heap := (gT h ls).push { cls := .type "tuple", data := .seq (((List.range ls.length).map fun j => Value.ref (h.objs.size + j)).map fun _ => Value.none).toArray }
abbrev gZ (h : Heap) (ls : List (Addr × Array Value)) : Heap := (gO h ls).push { cls := .type "zip", data := .fields #[.none, .bool false, .bool false, .ref (pushIts h ls).objs.size, .ref (gT h ls).objs.size] }
theorem meets_zip_newN (ls : List (Addr × Array Value)) (hn : ls.length ≤ 1000) :
    Meets (Builtin.«zip.__new__» ⟨.type "zip" :: ls.map fun l => .ref l.1, []⟩) (fun _ R s => (∀ l ∈ ls, s.heap.IsList l.1 l.2) ∧
      R (.ok (.ret (.ref (gO s.heap ls).objs.size))) { s with heap := gZ s.heap ls }) :=
  .of_wp fun prog w A R s h => by
    obtain ⟨hp, g, d, tk, os⟩ := s; obtain ⟨h1, h⟩ := h
    have hsub := sub_zip
    have q1 : ∀ {A' : Around} {E : Value → Shared → Prop} {Q : List Value → Shared → Prop}, Q ((List.range ls.length).map fun j => .ref (hp.objs.size + j)) ⟨pushIts hp ls, g, d, tk, os⟩ → wpAny (model prog w) A' (Builtin.SmallTypes.iterAll (ls.map fun l => .ref l.1)) Q E ⟨hp, g, d, tk, os⟩ :=
      fun q => iterAll_lists ls h1 q
    have hz1 : ((List.range ls.length).map fun j => Value.ref (hp.objs.size + j)).length ≤ sizeLine := by rw [List.length_map, List.length_range]; exact Nat.le_trans hn (by decide)
    have hz2 : (((List.range ls.length).map fun j => Value.ref (hp.objs.size + j)).map fun _ => Value.none).length ≤ sizeLine := by rw [List.length_map]; exact hz1
    have q2 : ∀ {A' : Around} {E : Value → Shared → Prop} {Q : Value → Shared → Prop}, Q (.ref (pushIts hp ls).objs.size) ⟨gT hp ls, g, d, tk, os⟩ → wpAny (model prog w) A' (newTuple ((List.range ls.length).map fun j => Value.ref (hp.objs.size + j))) Q E ⟨pushIts hp ls, g, d, tk, os⟩ :=
      fun q => wpAny_newTuple q hz1
    have q3 : ∀ {A' : Around} {E : Value → Shared → Prop} {Q : Value → Shared → Prop}, Q (.ref (gT hp ls).objs.size) ⟨gO hp ls, g, d, tk, os⟩ → wpAny (model prog w) A' (newTuple (((List.range ls.length).map fun j => Value.ref (hp.objs.size + j)).map fun _ => Value.none)) Q E ⟨gT hp ls, g, d, tk, os⟩ :=
      fun q => wpAny_newTuple q hz2
    wp_walk using q1, q2, q3
    exact ⟨_, rfl, h⟩
theorem typeCall_zip (vs : List Value) : checkTypeCall "zip" ⟨vs, []⟩ = pure () := by kernel_rfl
theorem newCall_zip : ∀ (vs : List Value), vs ≠ [] → vs.length ≤ 4 → checkBuiltinCall "zip.__new__" ⟨.type "zip" :: vs, []⟩ = pure ()
  | [a], _, _ => by kernel_rfl
  | [a, b], _, _ => by kernel_rfl
  | [a, b, c], _, _ => by kernel_rfl
  | [a, b, c, d], _, _ => by kernel_rfl
  | [], h, _ => absurd rfl h
  | a :: b :: c :: d :: e :: r, _, h => absurd h (by simp)
theorem objInit_zip (obj : Value) (vs : List Value) : argsOk "object.__init__" ⟨obj :: vs, []⟩ := by unfold argsOk; kernel_rfl
/-- zip(*lists): at most four, as new cells -/
theorem zip_beginsN {s : Shared} {Q : Value → Shared → Prop} (ls : List (Addr × Array Value)) (h0 : ls ≠ []) (hn : ls.length ≤ 4) (hl : ∀ l ∈ ls, s.heap.IsList l.1 l.2)
    (h : ∀ h' b z TI TO, b = s.heap.objs.size → z = b + ls.length + 2 → TI = b + ls.length → TO = b + ls.length + 1 → IsZipG h' z TI TO .none (.bool false) → IsTupN h' TI (refsN (entsOf b ls)) → (∃ vs, IsTupN h' TO vs ∧ vs.size = (entsOf b ls).length) → ZAt (entsOf b ls) 0 h' → h'.objs.size = b + ls.length + 3 →
      (∀ c o, s.heap.get? c = some o → h'.get? c = some o) → Q (.ref z) { s with heap := h' }) :
    wpAny (model prog w) A (call (.type "zip") (ls.map fun l => .ref l.1)) Q E s := by
  refine callType_new F.called_zip (by decide) (typeCall_zip _) (newCall_zip _ (by simpa using h0) (by rw [List.length_map]; exact hn)) (fun obj => objInit_zip obj _) F.entry_zip_new
    (meets_zip_newN ls (by omega)) ⟨hl, ?_⟩
  have zI := pushIts_size ls s.heap
  have zT : (gT s.heap ls).objs.size = s.heap.objs.size + ls.length + 1 := by rw [Heap.size_push, zI]
  have zO : (gO s.heap ls).objs.size = s.heap.objs.size + ls.length + 2 := by rw [Heap.size_push, zT]
  have zZ : (gZ s.heap ls).objs.size = s.heap.objs.size + ls.length + 3 := by rw [Heap.size_push, zO]
  have gz : (gZ s.heap ls).get? (gO s.heap ls).objs.size = some { cls := .type "zip", data := .fields #[.none, .bool false, .bool false, .ref (pushIts s.heap ls).objs.size, .ref (gT s.heap ls).objs.size] } := Heap.get?_push_size _ rfl
  have go : (gZ s.heap ls).get? (gT s.heap ls).objs.size = some { cls := .type "tuple", data := .seq (((List.range ls.length).map fun j => Value.ref (s.heap.objs.size + j)).map fun _ => Value.none).toArray } := Heap.get?_push_of_some _ (Heap.get?_push_size _ rfl)
  have gt : (gZ s.heap ls).get? (pushIts s.heap ls).objs.size = some { cls := .type "tuple", data := .seq ((List.range ls.length).map fun j => Value.ref (s.heap.objs.size + j)).toArray } := Heap.get?_push_of_some _ (Heap.get?_push_of_some _ (Heap.get?_push_size _ rfl))
  have kp : ∀ c o, (pushIts s.heap ls).get? c = some o → (gZ s.heap ls).get? c = some o := fun c o e => Heap.get?_push_of_some _ (Heap.get?_push_of_some _ (Heap.get?_push_of_some _ e))
  rw [zO, zT, zI] at gz
  rw [zT] at go
  rw [zI] at gt
  have el : (entsOf s.heap.objs.size ls).length = ls.length := by unfold entsOf; rw [List.length_map, List.length_zipIdx]
  have er : refsN (entsOf s.heap.objs.size ls) = ((List.range ls.length).map fun j => Value.ref (s.heap.objs.size + j)).toArray := by
    unfold refsN
    congr 1
    refine List.ext_getElem? fun j => ?_
    rw [List.getElem?_map, List.getElem?_map]
    by_cases hj : j < ls.length
    · rw [(entsOf_get (b := s.heap.objs.size) (ls := ls) (j := j) (x := (s.heap.objs.size + j, ls[j].1, ls[j].2))).mpr ⟨ls[j], List.getElem?_eq_getElem hj, rfl⟩, List.getElem?_range hj]
      rfl
    · rw [List.getElem?_eq_none (by rw [el]; omega), List.getElem?_eq_none (by rw [List.length_range]; omega)]
      rfl
  show _ ∧ _
  rw [zO]
  refine ⟨⟨_, gz, rfl⟩, h _ _ _ _ _ rfl rfl rfl rfl gz (by rw [er]; exact gt) ⟨_, go, by rw [el]; simp⟩ (fun x hx => ?_) zZ fun c o e => kp _ _ (pushIts_keep ls _ e)⟩
  obtain ⟨j, hj⟩ := List.mem_iff_getElem?.mp hx
  obtain ⟨l, hl1, rfl⟩ := entsOf_get.mp hj
  exact ⟨⟨_, kp _ _ (pushIts_at ls s.heap j l hl1), rfl, rfl⟩, (hl l (List.mem_of_getElem? hl1)).at fun o e => kp _ _ (pushIts_keep ls _ e)⟩
theorem sep_of {b : Nat} {ls : List (Addr × Array Value)} (hl : ∀ l ∈ ls, @LT.lt Nat _ l.1 b) : SepN (b + ls.length + 2 : Nat) (b + ls.length : Nat) (b + ls.length + 1 : Nat) (entsOf b ls) := by
  refine ⟨?_, ?_, ?_, ?_, fun x hx => ?_, fun x hx y hy => ?_⟩
  · exact fun e => absurd (show @Eq Nat (b + ls.length) (b + ls.length + 2) from e) (by omega)
  · exact fun e => absurd (show @Eq Nat (b + ls.length + 1) (b + ls.length + 2) from e) (by omega)
  · exact fun e => absurd (show @Eq Nat (b + ls.length) (b + ls.length + 1) from e) (by omega)
  · have e : (entsOf b ls).map (·.1) = (List.range ls.length).map fun j => b + j := by
      refine List.ext_getElem? fun j => ?_
      rw [List.getElem?_map, List.getElem?_map]
      by_cases hj : j < ls.length
      · rw [(entsOf_get (b := b) (ls := ls) (j := j) (x := (b + j, ls[j].1, ls[j].2))).mpr ⟨ls[j], List.getElem?_eq_getElem hj, rfl⟩, List.getElem?_range hj]
        rfl
      · have el : (entsOf b ls).length = ls.length := by unfold entsOf; rw [List.length_map, List.length_zipIdx]
        rw [List.getElem?_eq_none (by rw [el]; omega), List.getElem?_eq_none (by rw [List.length_range]; omega)]
        rfl
    rw [e]
    unfold List.Nodup
    rw [List.pairwise_map]
    exact List.pairwise_lt_range.imp fun {x y} h e => absurd (show @Eq Nat (b + x) (b + y) from e) (by omega)
  · obtain ⟨j, hj⟩ := List.mem_iff_getElem?.mp hx
    obtain ⟨l, hl1, rfl⟩ := entsOf_get.mp hj
    have hjl := (List.getElem?_eq_some_iff.mp hl1).1
    have h1 := hl l (List.mem_of_getElem? hl1)
    refine ⟨?_, ?_, ?_, ?_, ?_⟩
    · exact fun e => absurd (show @Eq Nat (b + j) (b + ls.length + 2) from e) (by omega)
    · exact fun e => absurd (show @Eq Nat (b + j) (b + ls.length) from e) (by omega)
    · exact fun e => absurd (show @Eq Nat (b + j) (b + ls.length + 1) from e) (by omega)
    · exact fun e => absurd (show @Eq Nat ((l.1 : Nat)) (b + ls.length + 2) from e) (by omega)
    · exact fun e => absurd (show @Eq Nat ((l.1 : Nat)) (b + ls.length + 1) from e) (by omega)
  · obtain ⟨j, hj⟩ := List.mem_iff_getElem?.mp hx
    obtain ⟨l, hl1, rfl⟩ := entsOf_get.mp hj
    obtain ⟨i, hi⟩ := List.mem_iff_getElem?.mp hy
    obtain ⟨m, hm1, rfl⟩ := entsOf_get.mp hi
    have h1 := hl m (List.mem_of_getElem? hm1)
    exact fun e => absurd (show @Eq Nat (b + j) ((m.1 : Nat)) from e) (by omega)
end
/-! zip(*lists), walked with one name -/
/-- the lists at these addresses, all of one length -/
def LsAt (K : PySem.W.Frag) (H : Hp) (as : List Addr) (xss : List (List V)) (n : Nat) : Prop := as.length = xss.length ∧ ∀ (k : Nat) (a : Addr) (xs : List V), as[k]? = some a → xss[k]? = some xs → SqL K H a xs ∧ xs.length = n
def ItzN (K : PySem.W.Frag) (as : List Addr) (n : Nat) : It :=
  ⟨fun i H => i < n ∧ ∃ xss, LsAt K H as xss n,
   fun i H v H' => ∃ T row, v = .ref T ∧ H T = none ∧ H' = upd H T (.tup row) ∧ ∀ xss, LsAt K H as xss n → row = xss.map fun xs => xs.getD i .non,
   fun i H => i = n ∧ ∃ xss, LsAt K H as xss n⟩
theorem vals_of : ∀ {xs : List V} {us : List Value}, xs.length = us.length → (∀ (j : Nat) x u, xs[j]? = some x → us[j]? = some u → RelV x u) → Vals xs us
  | [], [], _, _ => .nil
  | [], u :: us, h, _ => by cases h
  | x :: xs, [], h, _ => by cases h
  | x :: xs, u :: us, h, r => .cons (r 0 x u rfl rfl) (vals_of (by simpa using h) fun j y w a b => r (j + 1) y w a b)
def refsA (its : List Addr) : Array Value := (its.map fun a => Value.ref a).toArray
def tnN (z TI TO : Addr) (its as : List Addr) (i : Nat) (h : Heap) : Prop :=
  (∃ f0 f1, (f0 = Value.none ∨ ∃ a, f0 = rawInt a) ∧ IsZipG h z TI TO f0 (.bool f1)) ∧ IsTupN h TI (refsA its) ∧ (∃ vs, IsTupN h TO vs ∧ vs.size = its.length) ∧ ∀ (k : Nat) it a, its[k]? = some it → as[k]? = some a → h.IsListIter it a i
/-- what lies apart -/
structure SepA (z TI TO : Addr) (its as : List Addr) : Prop where
  TIz : TI ≠ z
  TOz : TO ≠ z
  TITO : TI ≠ TO
  nd : its.Nodup
  a1 : ∀ x ∈ its, x ≠ z ∧ x ≠ TI ∧ x ≠ TO
  a2 : ∀ y ∈ as, y ≠ z ∧ y ≠ TO
  a3 : ∀ x ∈ its, ∀ y ∈ as, x ≠ y
  len : its.length = as.length
  ne : as ≠ []
  le : as.length ≤ 1000
theorem ents_ex {K : PySem.W.Frag} {X : Cx} {pins : List (Addr × Obj)} {σ : L2.St} {H : Hp} {s : Shared} (hK : X.K = K) (I : Inv X pins σ H s) : ∀ {as its : List Addr} {xss : List (List V)} {n : Nat}, its.length = as.length → LsAt K H as xss n →
    ∃ Ls : List Ent, Ls.map (·.1) = its ∧ Ls.map (fun x => x.2.1) = as ∧ (∀ x ∈ Ls, x.2.2.size = n ∧ s.heap.IsList x.2.1 x.2.2) ∧ ∀ (j : Nat) (x : Ent) (xs : List V), Ls[j]? = some x → xss[j]? = some xs → Vals xs x.2.2.toList
  | [], its, xss, n, h, l => by
    have : its = [] := List.eq_nil_of_length_eq_zero h
    subst this
    exact ⟨[], rfl, rfl, fun x hx => (List.not_mem_nil hx).elim, fun j x xs e => by simp at e⟩
  | a :: as, it :: its, [], n, h, l => by have := l.1; simp at this
  | a :: as, [], xss, n, h, l => by simp at h
  | a :: as, it :: its, xs :: xss, n, h, l => by
    obtain ⟨Ls, h1, h2, h3, h4⟩ := ents_ex hK I (as := as) (its := its) (xss := xss) (n := n) (by simpa using h) ⟨by have := l.1; simpa using this, fun k b ys e1 e2 => l.2 (k + 1) b ys e1 e2⟩
    obtain ⟨hq, hl⟩ := l.2 0 a xs rfl rfl
    subst hK
    obtain ⟨us, r, pl, hz⟩ := I.list hq
    refine ⟨(it, a, us.toArray) :: Ls, by simp [h1], by simp [h2], fun x hx => ?_, fun j x ys e1 e2 => ?_⟩
    · rcases List.mem_cons.mp hx with rfl | hx
      · exact ⟨by show us.toArray.size = n; rw [List.size_toArray, ← r.length, hl], pl.isList⟩
      · exact h3 x hx
    · cases j with
      | zero =>
        have e1 : (it, a, us.toArray) = x := by simpa using e1
        have e2 : xs = ys := by simpa using e2
        subst e1 e2
        simpa using r
      | succ j => exact h4 j x ys (by simpa using e1) (by simpa using e2)
theorem sepN_of {z TI TO : Addr} {Ls : List Ent} (S : SepA z TI TO (Ls.map (·.1)) (Ls.map fun x => x.2.1)) : SepN z TI TO Ls :=
  ⟨S.TIz, S.TOz, S.TITO, S.nd, fun x hx => by
    have a := S.a1 x.1 (List.mem_map.mpr ⟨x, hx, rfl⟩)
    have b := S.a2 x.2.1 (List.mem_map.mpr ⟨x, hx, rfl⟩)
    exact ⟨a.1, a.2.1, a.2.2, b.1, b.2⟩, fun x hx y hy => S.a3 _ (List.mem_map.mpr ⟨x, hx, rfl⟩) _ (List.mem_map.mpr ⟨y, hy, rfl⟩)⟩
theorem letGo_name {M : Model} {A : Around} {E : Value → Shared → Prop} {s : Shared} {x : Str} {p : Pos} {it u : Value} {Q : Unit → Shared → Prop} (h : Q () s) : wpAny M A (letOwnedTupleGo (.Name x p) it u) Q E s := wpAny_pure h
theorem turn_zipN {P : Program} {w : World} {K : PySem.W.Frag} {x : Str} {p : Pos} {z TI TO : Addr} {its as : List Addr} {n : Nat} (S : SepA z TI TO its as) :
    Turn P w K (.Name x p) (ItzN K as n) (z :: TI :: TO :: its) z (tnN z TI TO its as) where
  mem := by simp
  obj := fun i h st b hb => by
    obtain ⟨⟨f0, f1, _, hz⟩, hTI, ⟨vs, hTO, _⟩, hit⟩ := st
    rcases List.mem_cons.mp hb with q | hb
    · rw [q]; exact ⟨_, hz, fun v q => nomatch q⟩
    rcases List.mem_cons.mp hb with q | hb
    · rw [q]; exact ⟨_, hTI, fun v q => nomatch q⟩
    rcases List.mem_cons.mp hb with q | hb
    · rw [q]; exact ⟨_, hTO, fun v q => nomatch q⟩
    obtain ⟨k, hk⟩ := List.mem_iff_getElem?.mp hb
    have hkl := (List.getElem?_eq_some_iff.mp hk).1
    obtain ⟨o, e, c, d⟩ := hit k b _ hk (List.getElem?_eq_getElem (show k < as.length by rw [← S.len]; exact hkl))
    exact ⟨o, e, fun v q => by rw [d] at q; cases q⟩
  keep := fun i h h' st k => by
    obtain ⟨⟨f0, f1, hf, hz⟩, hTI, ⟨vs, hTO, hv⟩, hit⟩ := st
    exact ⟨⟨f0, f1, hf, k z (by simp) _ hz⟩, k TI (by simp) _ hTI, ⟨vs, k TO (by simp) _ hTO, hv⟩, fun j it a e1 e2 => (hit j it a e1 e2).at fun o e => k it (by simp [List.mem_of_getElem? e1]) o e⟩
  item := by
    intro X hP hw hK hc i pins s σ H E I hf st hg
    subst hP hw
    obtain ⟨⟨f0, f1, hf0, hz⟩, hTI, ⟨vs, hTO, hv⟩, hit⟩ := st
    obtain ⟨hi, xss, hl⟩ := hg
    obtain ⟨Ls, e1, e2, h3, h4⟩ := ents_ex hK I S.len hl
    have Sn : SepN z TI TO Ls := sepN_of (by rw [e1, e2]; exact S)
    have hlen : Ls.length = its.length := by rw [← e1, List.length_map]
    have hne : Ls ≠ [] := fun e => by
      rw [e] at e2
      exact S.ne e2.symm
    have er : refsN Ls = refsA its := by unfold refsN refsA; rw [← e1, List.map_map]; rfl
    have hxl : xss.length = Ls.length := by rw [hlen, S.len, hl.1]
    refine pyNext_zipN (f0 := f0) (f1 := f1) (n := n) (i := i) (I.ok.hd hc) Sn hne (fun y hy => (h3 y hy).1) hi (by rw [hlen, S.len]; exact S.le) hf0 hz (by rw [er]; exact hTI) ⟨vs, hTO, by rw [hv, hlen]⟩ (fun y hy => ⟨?_, (h3 y hy).2⟩) fun ws h' tk' a f1' q1 q2 q3 q4 q5 q6 q7 q8 => ⟨.ref s.heap.objs.size, rfl, letGo_name ?_⟩
    · obtain ⟨j, hj⟩ := List.mem_iff_getElem?.mp hy
      refine hit j y.1 y.2.1 (by rw [← e1, List.getElem?_map, hj]; rfl) (by rw [← e2, List.getElem?_map, hj]; rfl)
    · have hTn : H s.heap.objs.size = none := I.hok.fresh (Nat.le_refl _)
      have hrow : Vals (xss.map fun xs => xs.getD i .non) ws.toList := by
        refine vals_of (by rw [List.length_map, hxl]; simp [q1]) fun j v u hv' hu => ?_
        rw [List.getElem?_map] at hv'
        cases hxs : xss[j]? with
        | none => rw [hxs] at hv'; cases hv'
        | some xs =>
          rw [hxs] at hv'
          have hv' := Option.some.inj hv'
          have hjl : j < Ls.length := by rw [← hxl]; exact (List.getElem?_eq_some_iff.mp hxs).1
          have hx : Ls[j]? = some Ls[j] := List.getElem?_eq_getElem hjl
          have hval := h4 j _ xs hx hxs
          have q := q2 j _ hx
          rw [← Array.getElem?_toList, hu] at q
          have hxn : xs.length = n := by
            have := hval.length
            rw [this, Array.length_toList]
            exact (h3 _ (List.mem_of_getElem? hx)).1
          obtain ⟨u', hu', ru⟩ := hval.get (List.getElem?_eq_getElem (show i < xs.length by omega))
          rw [Array.getElem?_toList] at hu'
          rw [hu'] at q
          rw [← Option.some.inj q] at ru
          rw [← hv']
          simp only [List.getD, List.getElem?_eq_getElem (show i < xs.length by omega)]
          exact ru
      have new : ObjOk X.prog X.w (upd H s.heap.objs.size (.tup (xss.map fun xs => xs.getD i .non))) h' s.heap.objs.size (.tup (xss.map fun xs => xs.getD i .non)) :=
        ⟨by rw [List.length_map, hxl, hlen, S.len]; exact Nat.le_trans S.le (by decide), ws.toList, hrow, ⟨_, q6, rfl, 0, by simp⟩⟩
      have I1 : Inv X pins σ (upd H s.heap.objs.size (.tup (xss.map fun xs => xs.getD i .non))) { s with heap := h', toks := tk' } :=
        I.turnedNew (ch := z :: TI :: TO :: its) (fun b o hb e => q8 b o (fun e' => hb (by simp [e'])) (fun e' => hb (by simp [e'])) (fun y hy e' => hb (by
          have : y.1 ∈ its := by rw [← e1]; exact List.mem_map.mpr ⟨y, hy, rfl⟩
          rw [e']
          exact List.mem_cons_of_mem _ (List.mem_cons_of_mem _ (List.mem_cons_of_mem _ this)))) e) hf (Nat.le_refl _) new
      refine ⟨.ref s.heap.objs.size, _, I1, rfl, ⟨_, _, rfl, hTn, rfl, fun yss hy => ?_⟩, ⟨⟨_, f1', .inr ⟨a, rfl⟩, q3⟩, ?_, ?_, fun j it b h5 h6 => ?_⟩, fun b hb => ?_⟩
      · have : xss = yss := by
          refine List.ext_getElem? fun j => ?_
          by_cases hj : j < as.length
          · have ha := List.getElem?_eq_getElem hj
            have g1 : xss[j]? = some (xss[j]'(by rw [← hl.1]; exact hj)) := List.getElem?_eq_getElem _
            have g2 : yss[j]? = some (yss[j]'(by rw [← hy.1]; exact hj)) := List.getElem?_eq_getElem _
            have s1 := (hl.2 j _ _ ha g1).1
            have s2 := (hy.2 j _ _ ha g2).1
            rw [g1, g2]
            subst hK
            rw [I.list_inj s1 s2]
          · rw [List.getElem?_eq_none (by rw [← hl.1]; omega), List.getElem?_eq_none (by rw [← hy.1]; omega)]
        rw [this]
      · refine q8 TI _ S.TIz S.TITO (fun y hy e' => ?_) hTI
        have : y.1 ∈ its := by rw [← e1]; exact List.mem_map.mpr ⟨y, hy, rfl⟩
        exact (S.a1 _ this).2.1 e'.symm
      · obtain ⟨vs', a1, a2⟩ := q4
        exact ⟨vs', a1, by rw [a2, hlen]⟩
      · have hjl := (List.getElem?_eq_some_iff.mp h5).1
        have hx : Ls[j]? = some Ls[j] := List.getElem?_eq_getElem (by rw [hlen]; exact hjl)
        have m := (q5 _ (List.mem_of_getElem? hx)).1
        have e3 : (Ls[j]).1 = it := by
          have : (Ls.map (·.1))[j]? = some (Ls[j]).1 := by rw [List.getElem?_map, hx]; rfl
          rw [e1, h5] at this
          exact (Option.some.inj this).symm
        have e4 : (Ls[j]).2.1 = b := by
          have : (Ls.map fun x => x.2.1)[j]? = some (Ls[j]).2.1 := by rw [List.getElem?_map, hx]; rfl
          rw [e2, h6] at this
          exact (Option.some.inj this).symm
        rw [e3, e4] at m
        exact m
      · have hbn := (hf b hb).1
        have hne2 : b ≠ s.heap.objs.size := by
          obtain ⟨o, ho, _⟩ : ∃ o, s.heap.get? b = some o ∧ True := by
            rcases List.mem_cons.mp hb with q | hb
            · rw [q]; exact ⟨_, hz, trivial⟩
            rcases List.mem_cons.mp hb with q | hb
            · rw [q]; exact ⟨_, hTI, trivial⟩
            rcases List.mem_cons.mp hb with q | hb
            · rw [q]; exact ⟨_, hTO, trivial⟩
            obtain ⟨k, hk⟩ := List.mem_iff_getElem?.mp hb
            have hkl := (List.getElem?_eq_some_iff.mp hk).1
            obtain ⟨o, e, c, d⟩ := hit k b _ hk (List.getElem?_eq_getElem (show k < as.length by rw [← S.len]; exact hkl))
            exact ⟨o, e, trivial⟩
          exact Nat.ne_of_lt (Heap.lt_size ho)
        rw [upd_ne hne2]
        exact hbn
  done := by
    intro X hP hw hK hc i pins s σ H E I hf st hg
    subst hP hw
    obtain ⟨⟨f0, f1, hf0, hz⟩, hTI, ⟨vs, hTO, hv⟩, hit⟩ := st
    obtain ⟨rfl, xss, hl⟩ := hg
    obtain ⟨Ls, e1, e2, h3, h4⟩ := ents_ex hK I S.len hl
    have Sn : SepN z TI TO Ls := sepN_of (by rw [e1, e2]; exact S)
    have hne : Ls ≠ [] := fun e => by
      rw [e] at e2
      exact S.ne e2.symm
    have er : refsN Ls = refsA its := by unfold refsN refsA; rw [← e1, List.map_map]; rfl
    refine pyNext_zipN_end (f0 := f0) (f1 := f1) (I.ok.hd hc) Sn hne (fun y hy => (h3 y hy).1) hf0 hz (by rw [er]; exact hTI) (fun y hy => ⟨?_, (h3 y hy).2⟩) fun h' tk' q => ⟨rfl, ?_⟩
    · obtain ⟨j, hj⟩ := List.mem_iff_getElem?.mp hy
      refine hit j y.1 y.2.1 (by rw [← e1, List.getElem?_map, hj]; rfl) (by rw [← e2, List.getElem?_map, hj]; rfl)
    · exact I.turnedL (t' := tk') (ch := z :: TI :: TO :: its) (fun b o hb e => q b o (fun e' => hb (by simp [e'])) (fun e' => hb (by simp [e'])) (fun y hy e' => hb (by
          have : y.1 ∈ its := by rw [← e1]; exact List.mem_map.mpr ⟨y, hy, rfl⟩
          rw [e']
          exact List.mem_cons_of_mem _ (List.mem_cons_of_mem _ (List.mem_cons_of_mem _ this)))) e) hf
  self := fun A i s Q E st h => by
    obtain ⟨⟨f0, f1, _, hz⟩, _⟩ := st
    have hT : s.TypeIs (.ref z) "zip" := ⟨_, hz, rfl⟩
    exact wpAny_pyIter_slot hT F.slot_zip_iter (wpAny_call_entry F.slot_zip_iter hT F.entry_zip_iter (wpAny_pure ⟨_, rfl, "zip", _, hT, F.slot_zip_next.lookup, h⟩) (F.args_zip_iter_1 _))
section
variable {X : Cx}
/-- for x in zip(*e): e a list of one to four lists of one length -/
def iZipN (K : PySem.W.Frag) (te : TE) : TI := fun σ H R => te σ H fun v H1 => ∃ a as xss, ∃ n : Nat, v = .ref a ∧ SqL K H1 a (as.map V.ref) ∧ LsAt K H1 as xss n ∧ as ≠ [] ∧ as.length ≤ 4 ∧ R (ItzN K as n) H1
theorem keeper_zip {M : Model} {h : Heap} : ∃ k, (k = Keeper.frame ∨ k = Keeper.machine ∨ k = Keeper.boundFrame) ∧ PySem.W.Looks M h (keeperOf (.type "zip")) k :=
  ⟨_, by first | exact .inl rfl | exact .inr (.inl rfl) | exact .inr (.inr rfl), PySem.W.Looks.of_pure rfl⟩
theorem pi_zipN {K : PySem.W.Frag} {e : Expr} {te : TE} {x : Str} {p p2 pos tpos : Pos} (hK : X.K = K) (hg : Gl X "zip") (hm : X.mg "zip" = none) (he : PE X e te)
    (hs : starEach [.Starred e p2] X.env = [(true, eval e X.env)] := by rfl) :
    PI X (.Name x tpos) (.Call (.Name "zip" p) [.Starred e p2] [] pos) (iZipN K te) := by
  subst hK
  refine ⟨fun pins s σ H R I h => ?_⟩
  refine Call_ (ld_blt I hg hm PyProof.Rows.boot_zip ?_)
  rw [hs]
  refine PySem.W.ks_call (P := fun _ => True) rfl (fun _ _ => keeper_zip) (PySem.W.ks_lone (thn (he.run pins s σ H _ I h) fun v s1 ⟨y, H1, I1, ry, q1⟩ => ?_))
  obtain ⟨a, as, xss, n, rfl, hq, hl, hne, hle, q⟩ := q1
  obtain rfl : v = Value.ref a := ry
  refine StX.star_any I1 (.inr hq) fun us s2 I2 rv => ⟨trivial, ?_⟩
  have hus : ∀ {as : List Addr} {us : List Value}, Vals (as.map V.ref) us → us = as.map Value.ref := by
    intro as
    induction as with
    | nil => intro us r; cases r; rfl
    | cons b r ih =>
      intro us rv
      cases rv with
      | cons h1 h2 => rw [List.map_cons, ← ih h2]; congr 1
  rw [hus rv]
  obtain ⟨Ls, e1, e2, h3, _⟩ := ents_ex rfl I2 (its := as) rfl hl
  have hls : (Ls.map fun x => (x.2.1, x.2.2)).map (fun l : Addr × Array Value => Value.ref l.1) = as.map Value.ref := by
    rw [List.map_map, ← e2, List.map_map]
    rfl
  have hlen : (Ls.map fun x => (x.2.1, x.2.2)).length = as.length := by rw [List.length_map, ← e2, List.length_map]
  have hall : ∀ l ∈ Ls.map (fun x => (x.2.1, x.2.2)), s2.heap.IsList l.1 l.2 := fun l hl' => by
    obtain ⟨x, hx, rfl⟩ := List.mem_map.mp hl'
    exact (h3 x hx).2
  show wpAny _ _ (call (.type "zip") (as.map Value.ref)) _ _ s2
  rw [← hls]
  refine zip_beginsN _ (by intro e; rw [e] at hlen; exact hne (List.eq_nil_of_length_eq_zero hlen.symm)) (by rw [hlen]; exact hle) hall fun h' b z TI TO hb hz hTI hTO g1 g2 g3 g4 g5 kp => ?_
  have hmem : ∀ l ∈ Ls.map (fun x => (x.2.1, x.2.2)), @LT.lt Nat _ l.1 b := fun l hl' => by
    obtain ⟨o, ho, _⟩ := hall l hl'
    rw [hb]
    exact Heap.lt_size ho
  have Sn : SepN z TI TO (entsOf b (Ls.map fun x => (x.2.1, x.2.2))) := by
    rw [hz, hTI, hTO]
    exact sep_of hmem
  have hEs : ∀ y ∈ entsOf b (Ls.map fun x => (x.2.1, x.2.2)), @LE.le Nat _ b y.1 := fun y hy => by
    obtain ⟨j, hj⟩ := List.mem_iff_getElem?.mp hy
    obtain ⟨l, _, rfl⟩ := entsOf_get.mp hj
    exact Nat.le_add_right _ _
  have eits : (entsOf b (Ls.map fun x => (x.2.1, x.2.2))).length = as.length := by unfold entsOf; rw [List.length_map, List.length_zipIdx, hlen]
  have eas : (entsOf b (Ls.map fun x => (x.2.1, x.2.2))).map (fun x => x.2.1) = as := by
    rw [← e2]
    refine List.ext_getElem? fun j => ?_
    rw [List.getElem?_map, List.getElem?_map]
    cases hj : Ls[j]? with
    | none =>
      rw [List.getElem?_eq_none (by rw [eits, ← e2, List.length_map]; exact List.getElem?_eq_none_iff.mp hj)]
    | some x =>
      rw [(entsOf_get (b := b) (ls := Ls.map fun x => (x.2.1, x.2.2)) (j := j) (x := (b + j, x.2.1, x.2.2))).mpr ⟨(x.2.1, x.2.2), by rw [List.getElem?_map, hj]; rfl, rfl⟩]
      rfl
  generalize entsOf b (Ls.map fun x => (x.2.1, x.2.2)) = Es at g2 g3 g4 Sn eits eas hEs
  have I3 : Inv X pins σ H1 { s2 with heap := h' } := I2.kept (t' := s2.toks) kp
  have SA : SepA z TI TO (Es.map (·.1)) as := ⟨Sn.TIz, Sn.TOz, Sn.TITO, Sn.nd, fun y hy => by
      obtain ⟨x, hx, rfl⟩ := List.mem_map.mp hy
      exact ⟨(Sn.a1 x hx).1, (Sn.a1 x hx).2.1, (Sn.a1 x hx).2.2.1⟩, fun y hy => by
      rw [← eas] at hy
      obtain ⟨x, hx, rfl⟩ := List.mem_map.mp hy
      exact ⟨(Sn.a1 x hx).2.2.2.1, (Sn.a1 x hx).2.2.2.2⟩, fun u hu v hv => by
      rw [← eas] at hv
      obtain ⟨x, hx, rfl⟩ := List.mem_map.mp hu
      obtain ⟨y, hy, rfl⟩ := List.mem_map.mp hv
      exact Sn.a2 x hx y hy, by rw [List.length_map, eits], hne, by omega⟩
  have st : tnN z TI TO (Es.map (·.1)) as 0 h' := ⟨⟨_, _, .inl rfl, g1⟩, by
      have : refsA (Es.map (·.1)) = refsN Es := by unfold refsA refsN; rw [List.map_map]; rfl
      rw [this]; exact g2, by
      obtain ⟨vs, a1, a2⟩ := g3
      exact ⟨vs, a1, by rw [a2, List.length_map]⟩, fun k it c h1 h2 => by
      rw [← eas] at h2
      rw [List.getElem?_map] at h1 h2
      cases hk : Es[k]? with
      | none => rw [hk] at h1; cases h1
      | some x =>
        rw [hk] at h1 h2
        have h1 := Option.some.inj h1
        have h2 := Option.some.inj h2
        subst h1 h2
        exact (g4 x (List.mem_of_getElem? hk)).1⟩
  have T := turn_zipN (P := X.prog) (w := X.w) (K := X.K) (x := x) (p := tpos) (n := n) SA
  have hself := T.self X.A 0 { s2 with heap := h' }
  refine hself _ _ st ⟨z, _, _, _, H1, rfl, I3, T, st, fun c hc => ?_, q⟩
  have hge : @LE.le Nat _ s2.heap.objs.size c := by
    rw [← hb]
    rcases List.mem_cons.mp hc with e | hc
    · rw [e, hz]; exact Nat.le_trans (Nat.le_add_right _ _) (Nat.le_add_right _ _)
    rcases List.mem_cons.mp hc with e | hc
    · rw [e, hTI]; exact Nat.le_add_right _ _
    rcases List.mem_cons.mp hc with e | hc
    · rw [e, hTO]; exact Nat.le_trans (Nat.le_add_right _ _) (Nat.le_add_right _ _)
    obtain ⟨y, hy, rfl⟩ := List.mem_map.mp hc
    exact hEs y hy
  exact I2.fpOk hge (I2.hok.fresh hge)
end
end NW

/-! Comprehensions over any walk, by the place of the item: values, new objects; items that are new tuples (zip, enumerate, zip(*lists)); a block within a block. -/
namespace NW
open PySem PySem.Spec PyProof.Rows L2 Evl
/-- each item a new tuple -/
def YTup (rows : List (List V)) : Nat → Hp → V → Hp → Prop := fun i H v H' => ∃ T row, rows[i]? = some row ∧ v = .ref T ∧ H T = none ∧ H' = upd H T (.tup row)
def WkT (wi : TI) (σ : L2.St) (H : Hp) (rows : List (List V)) : Prop := ∀ H1, Ex H H1 → ∀ R : It → Hp → Prop, (∀ J H2, Ex H1 H2 → (∃ G, Walk J rows.length G (YTup rows) ∧ ∀ H3, Ex H H3 → (∀ b o, H1 b = none → H2 b = some o → H3 b = some o) → G H3) → R J H2) → wi σ H1 R
section
variable {K : PySem.W.Frag} {σ : L2.St} {H H' : Hp} {ta : TA} {tb te tl tk tv : TE} {t t1 : TT} {wi wi1 : TI} {g : TG} {xs ys : List V} {rows : List (List V)}
theorem range_take {v : Nat → V} {n i : Nat} (h : i < n) : (List.range (i + 1)).map v = (List.range i).map v ++ [v i] := by
  rw [List.range_succ, List.map_append]
  rfl
/-- [te for j in ..], the value by the item's place -/
theorem el_lcX {j : Nat} {vs : List Nat} (h : WkX wi σ H xs) (v : Nat → V) (hz : xs.length ≤ 40000) (hw : ∀ x, wipe ((wipe σ vs).set j (some x)) vs = wipe σ vs)
    (he : ∀ i x, xs[i]? = some x → ∀ H1, Ex H H1 → Ev te ((wipe σ vs).set j (some x)) H1 (v i)) : EvL (tLc wi (gName j) tYes te vs) σ H ((List.range xs.length).map v) := fun H0 e Q q => h H0 e _ fun J H1 e1 ⟨G, W, WG⟩ Dl hD => by
  refine lc_it (G := G) W (fun i H' => Ex H1 H' ∧ H' Dl = some (.lst ((List.range i).map v))) ⟨Ex.new hD, by rw [upd_same]; rfl⟩ (fun _ _ _ pv => WG _ ((e.trans e1).trans pv.1) fun b o _ hb => pv.1 _ _ hb) (fun i x H' H'' hi pv hy => ?_) (fun H' pv => ?_)
  · obtain ⟨rfl, hx⟩ := hy
    refine ⟨hw _, rd_yes (iteT ?_)⟩
    refine he i x hx H1 (e.trans e1) _ pv.1 _ fun H4 e4 => ⟨_, e4 _ _ pv.2, ?_, Ex.mut (pv.1.trans e4) hD, ?_⟩
    · rw [List.length_map, List.length_range]
      exact sz_lt (by omega)
    · rw [upd_same, range_take hi]
  · exact q Dl H' (fresh_back e1 hD) (e1.trans pv.1) pv.2
/-- [te for j in ..], new objects, by the item's place -/
theorem rd_lcXR {j : Nat} {vs : List Nat} {Q : VK} (h : WkX wi σ H xs) (R : Addr → Hp → Nat → V → Prop) (hz : xs.length ≤ 40000) (hw : ∀ x, wipe ((wipe σ vs).set j (some x)) vs = wipe σ vs)
    (he : ∀ i x, xs[i]? = some x → ∀ H1 D acc, Ex H H1 → H1 D = some (.lst acc) → ∀ Q' : VK, (∀ v H2, Ex H1 H2 → R D H2 i v → Q' v H2) → te ((wipe σ vs).set j (some x)) H1 Q')
    (hx : ∀ D H1 H2 i v, Ex H1 H2 → R D H1 i v → R D H2 i v) (hm : ∀ D H1 o i v, R D H1 i v → R D (upd H1 D o) i v)
    (q : ∀ P H1 us, H P = none → Ex H H1 → H1 P = some (.lst us) → us.length = xs.length → (∀ (i : Nat) u, us[i]? = some u → R P H1 i u) → Q (.ref P) H1) : tLc wi (gName j) tYes te vs σ H Q :=
  h H (Ex.refl H) _ fun J H1 e1 ⟨G, W, WG⟩ Dl hD => by
  refine lc_it (G := G) W (fun i H' => Ex H1 H' ∧ ∃ acc, H' Dl = some (.lst acc) ∧ acc.length = i ∧ ∀ (k : Nat) u, acc[k]? = some u → R Dl H' k u) ⟨Ex.new hD, [], upd_same, rfl, fun k u e => by simp at e⟩ (fun _ _ _ pv => WG _ (e1.trans pv.1) fun b o _ hb => pv.1 _ _ hb) (fun i x H' H'' hi pv hy => ?_) (fun H' pv => ?_)
  · obtain ⟨rfl, hxi⟩ := hy
    obtain ⟨p1, acc, p2, p3, p4⟩ := pv
    refine ⟨hw _, rd_yes (iteT ?_)⟩
    refine he i x hxi _ Dl acc (e1.trans p1) p2 _ fun v H4 e4 r => ⟨acc, e4 _ _ p2, sz_lt (by omega), (Ex.mut (p1.trans e4) hD : Ex H1 _), acc ++ [v], upd_same, by rw [List.length_append, p3]; rfl, fun k u hk => ?_⟩
    by_cases hki : k < acc.length
    · rw [List.getElem?_append_left hki] at hk
      exact hm _ _ _ _ _ (hx _ _ _ _ _ e4 (p4 k u hk))
    · rw [List.getElem?_append_right (by omega)] at hk
      have hk0 : k - acc.length = 0 := by
        refine Nat.eq_zero_of_not_pos fun hp => ?_
        rw [List.getElem?_eq_none (by simp; omega)] at hk
        cases hk
      rw [hk0] at hk
      have hk := Option.some.inj hk
      subst hk
      have : k = i := by omega
      subst this
      exact hm _ _ _ _ _ r
  · obtain ⟨p1, acc, p2, p3, p4⟩ := pv
    exact q Dl H' acc (fresh_back e1 hD) (e1.trans p1) p2 p3 p4
/-- [te for j in ..], the items new tuples, new objects -/
theorem rd_lcTR {j : Nat} {vs : List Nat} {Q : VK} (h : WkT wi σ H rows) (R : Addr → Hp → Nat → V → Prop) (hz : rows.length ≤ 40000) (hw : ∀ x, wipe ((wipe σ vs).set j (some x)) vs = wipe σ vs)
    (he : ∀ i row, rows[i]? = some row → ∀ H1 D acc T, Ex H H1 → H1 D = some (.lst acc) → H1 T = some (.tup row) → ∀ Q' : VK, (∀ v H2, Ex H1 H2 → R D H2 i v → Q' v H2) → te ((wipe σ vs).set j (some (.ref T))) H1 Q')
    (hx : ∀ D H1 H2 i v, Ex H1 H2 → R D H1 i v → R D H2 i v) (hm : ∀ D H1 o i v, R D H1 i v → R D (upd H1 D o) i v)
    (q : ∀ P H1 us, H P = none → Ex H H1 → H1 P = some (.lst us) → us.length = rows.length → (∀ (i : Nat) u, us[i]? = some u → R P H1 i u) → Q (.ref P) H1) : tLc wi (gName j) tYes te vs σ H Q :=
  h H (Ex.refl H) _ fun J H1 e1 ⟨G, W, WG⟩ Dl hD => by
  refine lc_it (G := G) W (fun i H' => Ex H1 H' ∧ ∃ acc, H' Dl = some (.lst acc) ∧ acc.length = i ∧ ∀ (k : Nat) u, acc[k]? = some u → R Dl H' k u) ⟨Ex.new hD, [], upd_same, rfl, fun k u e => by simp at e⟩ (fun _ _ _ pv => WG _ (e1.trans pv.1) fun b o _ hb => pv.1 _ _ hb) (fun i x H' H'' hi pv hy => ?_) (fun H' pv => ?_)
  · obtain ⟨T, row, hri, rfl, hT, rfl⟩ := hy
    obtain ⟨p1, acc, p2, p3, p4⟩ := pv
    have eT : Ex H1 (upd H' T (.tup row)) := p1.trans (Ex.new hT)
    have nDT : Dl ≠ T := ne_of_none p2 hT
    refine ⟨hw _, rd_yes (iteT ?_)⟩
    refine he i row hri _ Dl acc T (e1.trans eT) (by rw [upd_ne nDT]; exact p2) upd_same _ fun v H4 e4 r => ⟨acc, e4 _ _ (by rw [upd_ne nDT]; exact p2), sz_lt (by omega), (Ex.mut (eT.trans e4) hD : Ex H1 _), acc ++ [v], upd_same, by rw [List.length_append, p3]; rfl, fun k u hk => ?_⟩
    by_cases hki : k < acc.length
    · rw [List.getElem?_append_left hki] at hk
      exact hm _ _ _ _ _ (hx _ _ _ _ _ e4 (hx _ _ _ _ _ (Ex.new hT) (p4 k u hk)))
    · rw [List.getElem?_append_right (by omega)] at hk
      have hk0 : k - acc.length = 0 := by
        refine Nat.eq_zero_of_not_pos fun hp => ?_
        rw [List.getElem?_eq_none (by simp; omega)] at hk
        cases hk
      rw [hk0] at hk
      have hk := Option.some.inj hk
      subst hk
      have : k = i := by omega
      subst this
      exact hm _ _ _ _ _ r
  · obtain ⟨p1, acc, p2, p3, p4⟩ := pv
    exact q Dl H' acc (fresh_back e1 hD) (e1.trans p1) p2 p3 p4
/-- [te for a, b in ..], the items new pairs, values by the place -/
theorem el_lcT2 {a b : Nat} {vs : List Nat} (h : WkT wi σ H rows) (v : Nat → V) (hz : rows.length ≤ 40000) (h2 : ∀ r ∈ rows, ∃ x y, r = [x, y])
    (hw : ∀ x y, wipe (((wipe σ vs).set a (some x)).set b (some y)) vs = wipe σ vs)
    (hg : ∀ x y T σ' H' (R : L2.St → Hp → Prop), H' T = some (.tup [x, y]) → R ((σ'.set a (some x)).set b (some y)) H' → g (.ref T) σ' H' R)
    (he : ∀ i x y, rows[i]? = some [x, y] → ∀ H1, Ex H H1 → Ev te (((wipe σ vs).set a (some x)).set b (some y)) H1 (v i)) : EvL (tLc wi g tYes te vs) σ H ((List.range rows.length).map v) := fun H0 e Q q => h H0 e _ fun J H1 e1 ⟨G, W, WG⟩ Dl hD => by
  refine lc_it (G := G) W (fun i H' => Ex H1 H' ∧ H' Dl = some (.lst ((List.range i).map v))) ⟨Ex.new hD, by rw [upd_same]; rfl⟩ (fun _ _ _ pv => WG _ ((e.trans e1).trans pv.1) fun b o _ hb => pv.1 _ _ hb) (fun i x H' H'' hi pv hy => ?_) (fun H' pv => ?_)
  · obtain ⟨T, row, hri, rfl, hT, rfl⟩ := hy
    obtain ⟨x, y, rfl⟩ := h2 row (List.mem_of_getElem? hri)
    have eT : Ex H1 (upd H' T (.tup [x, y])) := pv.1.trans (Ex.new hT)
    have nDT : Dl ≠ T := ne_of_none pv.2 hT
    refine hg _ _ T _ _ _ upd_same ⟨hw _ _, rd_yes (iteT ?_)⟩
    refine he i x y hri H1 (e.trans e1) _ eT _ fun H4 e4 => ⟨_, e4 _ _ (by rw [upd_ne nDT]; exact pv.2), ?_, Ex.mut (eT.trans e4) hD, ?_⟩
    · rw [List.length_map, List.length_range]
      exact sz_lt (by omega)
    · rw [upd_same, range_take hi]
  · exact q Dl H' (fresh_back e1 hD) (e1.trans pv.1) pv.2
/-- zip of two lists -/
theorem wkt_zip {a b : Addr} (h : EvA ta σ H [.ref a, .ref b]) (ha : SqL K H a xs) (hb : SqL K H b ys) : WkT (iZip K ta) σ H (List.zipWith (fun x y => [x, y]) xs ys) := fun H1 e1 R r => h H1 e1 _ fun H2 e2 => ⟨a, b, xs, ys, rfl, ex_l (e1.trans e2) ha, ex_l (e1.trans e2) hb, r _ H2 e2 ⟨fun H => SqL K H a xs ∧ SqL K H b ys, by
  have hl : (List.zipWith (fun x y => [x, y]) xs ys).length = min xs.length ys.length := List.length_zipWith
  refine (walk_zip hl).mono (fun _ h => h) fun i H x H' hi _ hy => ?_
  obtain ⟨T, x, y, h1, h2, h3, h4, h5⟩ := hy
  exact ⟨T, [x, y], by have h4 : xs[i]? = some x := h4; have h5 : ys[i]? = some y := h5; rw [List.getElem?_zipWith, h4, h5], h1, h2, h3⟩, fun H3 e3 _ => ⟨ex_l e3 ha, ex_l e3 hb⟩⟩⟩
theorem pi_zipK {X : Cx} {e e2 : Expr} {p pos tpos : Pos} {elts : List Expr} {kk : Nat} (h : X.K = K) (hg : Gl X "zip") (hm : X.mg "zip" = none) (ha : PA X [e, e2] ta)
    (hs : starEach [e, e2] X.env = (false, eval e X.env) :: starEach [e2] X.env := by rfl) (hpl : (backTo pos (starEach [e2] X.env)).any (·.1) = false := by rfl) :
    PI X (.Tuple elts kk tpos) (.Call (.Name "zip" p) [e, e2] [] pos) (iZip K ta) := h ▸ pi_zip hg hm ha hs hpl
/-- zip(*lists) -/
theorem wkt_zipN {a : Addr} {as : List Addr} {xss : List (List V)} {n : Nat} (h : Ev te σ H (.ref a)) (ha : SqL K H a (as.map V.ref)) (hl : LsAt K H as xss n) (hne : as ≠ []) (hle : as.length ≤ 4) :
    WkT (iZipN K te) σ H ((List.range n).map fun i => xss.map fun xs => xs.getD i .non) := fun H1 e1 R r => h H1 e1 _ fun H2 e2 => by
  have mono : ∀ {H3}, Ex H H3 → LsAt K H3 as xss n := fun {H3} e3 => ⟨hl.1, fun k b ys h1 h2 => ⟨ex_l e3 (hl.2 k b ys h1 h2).1, (hl.2 k b ys h1 h2).2⟩⟩
  refine ⟨a, as, xss, n, rfl, ex_l (e1.trans e2) ha, mono (e1.trans e2), hne, hle, r _ H2 e2 ⟨fun H => LsAt K H as xss n, ?_, fun H3 e3 _ => mono e3⟩⟩
  have hlen : ((List.range n).map fun i => xss.map fun xs => xs.getD i .non).length = n := by rw [List.length_map, List.length_range]
  rw [hlen]
  refine ⟨fun i H hi g => ⟨hi, xss, g⟩, fun H g => ⟨rfl, xss, g⟩, fun i H x H' hi g hy => ?_⟩
  obtain ⟨T, row, h1, h2, h3, h4⟩ := hy
  refine ⟨T, row, ?_, h1, h2, h3⟩
  rw [List.getElem?_map, List.getElem?_range hi, h4 xss g]
  rfl
/-- enumerate(list) -/
theorem wkt_enum {a : Addr} (h : EvA ta σ H [.ref a]) (ha : SqL K H a xs) : WkT (iEnum K ta) σ H (xs.mapIdx fun i x => [.int (i : Nat), x]) := fun H1 e1 R r => h H1 e1 _ fun H2 e2 => ⟨a, xs, rfl, ex_l (e1.trans e2) ha, r _ H2 e2 ⟨fun H => SqL K H a xs, by
  have hl : (xs.mapIdx fun i x => [V.int (i : Nat), x]).length = xs.length := List.length_mapIdx
  rw [hl]
  refine (walk_enum (K := K) (a := a) (xs := xs)).mono (fun _ h => h) fun i H x H' hi _ hy => ?_
  obtain ⟨T, x, y, h1, h2, h3, h4, h5⟩ := hy
  cases h4
  exact ⟨T, [.int (i : Nat), y], by have h5 : xs[i]? = some y := h5; rw [List.getElem?_mapIdx, h5]; rfl, h1, h2, h3⟩, fun H3 e3 _ => ex_l e3 ha⟩⟩
end
/-! a block within a block -/
theorem relabel_cf {env : Env} : ∀ {names : List (Str × NameKind)} {x : Str}, (names.lookup x = some .cell ∨ names.lookup x = some .free) →
    ((names.map fun (n, k) => if (k == NameKind.free && env.scope.kind == .function && env.kindOf n == some .cell) then (n, NameKind.cell) else (n, k)).lookup x = some .cell ∨ (names.map fun (n, k) => if (k == NameKind.free && env.scope.kind == .function && env.kindOf n == some .cell) then (n, NameKind.cell) else (n, k)).lookup x = some .free)
  | [], x, h => by rcases h with h | h <;> cases h
  | (n, k) :: r, x, h => by
    rw [List.map_cons]
    by_cases e : x = n
    · subst e
      have h1 : List.lookup x ((x, k) :: r) = some k := by rw [List.lookup_cons, beq_self_eq_true]
      rw [h1] at h
      by_cases c : (k == NameKind.free && env.scope.kind == .function && env.kindOf x == some .cell) = true
      · refine .inl ?_
        show List.lookup x ((if (k == NameKind.free && env.scope.kind == .function && env.kindOf x == some .cell) = true then (x, NameKind.cell) else (x, k)) :: _) = _
        rw [if_pos c, List.lookup_cons, beq_self_eq_true]
      · have h2 : List.lookup x ((if (k == NameKind.free && env.scope.kind == .function && env.kindOf x == some .cell) = true then (x, NameKind.cell) else (x, k)) :: r.map fun (n, k) => if (k == NameKind.free && env.scope.kind == .function && env.kindOf n == some .cell) then (n, NameKind.cell) else (n, k)) = some k := by
          rw [if_neg c, List.lookup_cons, beq_self_eq_true]
        rcases h with h | h
        · exact .inl (h2.trans h)
        · exact .inr (h2.trans h)
    · have hb : (x == n) = false := beq_eq_false_iff_ne.mpr e
      have h1 : List.lookup x ((n, k) :: r) = List.lookup x r := by rw [List.lookup_cons, hb]
      rw [h1] at h
      have ih := relabel_cf (env := env) h
      have h2 : ∀ q : Str × NameKind, q.1 = n → ∀ t : List (Str × NameKind), List.lookup x (q :: t) = List.lookup x t := fun q hq t => by
        obtain ⟨q1, q2⟩ := q
        have hq : q1 = n := hq
        subst hq
        rw [List.lookup_cons, hb]
      have hq : ∀ t : List (Str × NameKind), List.lookup x ((if (k == NameKind.free && env.scope.kind == .function && env.kindOf n == some .cell) = true then (n, NameKind.cell) else (n, k)) :: t) = List.lookup x t := fun t => h2 _ (by split <;> rfl) t
      have h3 := hq (r.map fun (n, k) => if (k == NameKind.free && env.scope.kind == .function && env.kindOf n == some .cell) then (n, NameKind.cell) else (n, k))
      rcases ih with ih | ih
      · exact .inl (h3.trans ih)
      · exact .inr (h3.trans ih)
theorem blkIn {X : Cx} {s0 : Shared} {H0 : Hp} {C0 : Addr} {cl0 : List (Str × Addr)} {fp0 : List Addr} {sc0 scope : Scope} {own : List (Str × Nat)} (h : BlkOk X.N sc0 scope own) :
    BlkOk (X.blk s0 H0 sc0 (compEnvC sc0 cl0 C0 X.env) fp0).N (X.blk s0 H0 sc0 (compEnvC sc0 cl0 C0 X.env) fp0).env.scope scope own :=
  ⟨h.kind, h.uniq, h.ix, fun y hy hf => relabel_cf (h.free y hy hf), h.own⟩
end NW

/-! str(whole number), its figures. -/
namespace NW
open PySem PySem.Spec PyProof.Rows L2 Evl PySem.NumText
def rStrI : List V → Hp → VK → Prop := fun xs H Q => ∃ i, xs = [.int i] ∧ i.natAbs.log2 < 1920 ∧ Q (.str (toString i)) H
theorem call_strI {X : Cx} : CallR X (.type "str") rStrI := call_str_int
def figsN (m : Nat) : List Nat := (Nat.toDigits 10 m).map Char.toNat
theorem str_figs (m : Nat) : (PySem.Str.ofString (toString ((m : Nat) : Int))) = tx (figsN m) := by
  rw [tx_of (PySem.Str.ofString (toString ((m : Nat) : Int)))]
  congr 1
  exact PySem.W.KIN.signs_num m
theorem figs_val (m : Nat) : digitsVal (figsN m) = m := PySem.W.KIN.val_back m
theorem figs_dig {m c : Nat} (h : c ∈ figsN m) : 48 ≤ c ∧ c ≤ 57 := by
  obtain ⟨ch, hch, e⟩ := List.mem_map.mp h
  have r := digit_range (Nat.isDigit_of_mem_toDigits (by decide) (by decide) hch)
  rw [← e]
  exact r
theorem str_i {m : Nat} {H : Hp} {Q : VK} (hz : m.log2 < 1920) (h : Q (.str (tx (figsN m))) H) : rStrI [.int (m : Nat)] H Q :=
  ⟨_, rfl, by rw [Int.natAbs_natCast]; exact hz, by
    show Q (.str (PySem.Str.ofString (toString ((m : Nat) : Int)))) H
    rw [str_figs]
    exact h⟩
end NW

/-! try with several except clauses, some of which name the exception; * of two wide whole numbers. -/
namespace NW
open PySem PySem.Spec PyProof.Rows L2
abbrev Cl := Value × Option Nat × (Addr → Value → Option Addr → TS)
def endsNo (D : Ends) (i : Nat) : Ends := { nx := fun σ' H' => D.nx (σ'.set i none) H', rt := D.rt, bk := fun σ' H' => D.bk (σ'.set i none) H', ct := fun σ' H' => D.ct (σ'.set i none) H' }
/-- what one clause wishes that is hit -/
def wHit (D : Ends) : Option Nat → (Addr → Value → Option Addr → TS) → WX
  | none, ts => fun cls d σ H => ∀ a, H a = none → ts a cls d D σ H
  | some i, ts => fun cls d σ H => ∀ a, H a = none → ts a cls d (endsNo D i) (σ.set i (some (.ref a))) H
def wMix (K : PySem.W.Frag) (Wout : WX) (D : Ends) : List Cl → WX
  | [] => Wout
  | (c, o, ts) :: r => fun cls d σ H => ∃ b, PySem.W.exmOne K cls c = some b ∧ (b = true → wHit D o ts cls d σ H) ∧ (b = false → wMix K Wout D r cls d σ H)
/-- the name that a clause gives, and its place -/
inductive NameOk (X : Cx) : Option Str → Option Nat → Prop
  | no : NameOk X none none
  | as {n : Str} {i : Nat} (hi : X.N[i]? = some n) (hl : X.env.kindOf n = some .local) : NameOk X (some n) (some i)
inductive HdsMix (X : Cx) : List ExceptHandler → List Cl → Prop
  | nil : HdsMix X [] []
  | cons {x : Str} {c : Value} {o : Option Str} {p : Option Nat} {ts : Addr → Value → Option Addr → TS} {b₀ : Stmt} {suite : List Stmt} {np pos' : Pos} {hds : List ExceptHandler} {l : List Cl} (hc : Names X x c) (ho : NameOk X o p)
      (hsu : ∀ (a : Addr) (oe : Obj) (cls : Value) (d : Option Addr) (pn : List (Addr × Obj)), Zc cls d oe → (∃ vs, oe.data = .fields vs) → PSs (X.suite a ((a, oe) :: pn)) (b₀ :: suite) (ts a cls d)) (r : HdsMix X hds l) :
      HdsMix X (.ExceptHandler (some (.Name x np)) o (b₀ :: suite) pos' :: hds) ((c, p, ts) :: l)
section
variable {X : Cx} {body : List Stmt} {h₀ : ExceptHandler} {hds : List ExceptHandler} {l : List Cl} {pos : Pos} {tb : WX → TS} {Wout : WX}
theorem sp_map {Y Z : Cx} {p1 p2 : List (Addr × Obj)} {D : Ends} {f : Flow} {s : Shared} (k : ∀ σ H, L2.Inv Y p1 σ H s → L2.Inv Z p2 σ H s) (h : SP Y p1 D f s) : SP Z p2 D f s := by
  cases f with
  | next => obtain ⟨σ, H, I, q⟩ := h; exact ⟨σ, H, k σ H I, q⟩
  | brk => obtain ⟨σ, H, I, q⟩ := h; exact ⟨σ, H, k σ H I, q⟩
  | cont => obtain ⟨σ, H, I, q⟩ := h; exact ⟨σ, H, k σ H I, q⟩
  | ret u => obtain ⟨v, σ, H, I, r, q⟩ := h; exact ⟨v, σ, H, k σ H I, r, q⟩
theorem ps_try_mix (hs : X.stack = X.env :: X.outer) (hf : X.env.frame = some X.env.locals) (hN : X.N.Nodup) (tk : Takes X Wout)
    (hb : ∀ (W : WX) (pn : List (Addr × Obj)) (xe : Value → Shared → Prop), Takes (X.tr pn xe) W → PassesOwn (model X.prog X.w) X.A X.env xe → PSs (X.tr pn xe) body (tb W))
    (hh : HdsMix X (h₀ :: hds) l) : PS X (.Try body (h₀ :: hds) [] [] pos) (fun D σ H => tb (wMix X.K Wout D l) D σ H) := by
  refine ⟨fun pins s σ H D I h => ?_⟩
  have ok := I.ok
  have hfr : X.A.frames = some (X.env :: X.outer) := by rw [ok.frames, hs]
  refine wpAny_Try_except ?_
  refine wpAny_mono ((hb (wMix X.K Wout D l) (X.pn ++ pins) (fun e s₁ => wpAny (model X.prog X.w) X.A (noteFrame e X.env) (fun _ s₂ => wpAny (model X.prog X.w) X.A (setFlight e none) (fun _ s₃ =>
    wpAny (model X.prog X.w) X.A (handleBy e X.env (h₀ :: hds)) (SP X pins D) X.xe s₃) X.xe s₂) X.xe s₁) (fun u s' xx => ?_) PassesOwn.looking).run [] s σ H D (I.toTry _) h) (fun f s1 hsp => ?_) (fun e s1 he => he)
  rotate_left
  · have hsp' : SP X pins D f s1 := sp_map (fun σ' H' J' => J'.ofTry ok) hsp
    cases f with
    | next => exact wpAny_execs_nil hsp'
    | brk => exact hsp'
    | cont => exact hsp'
    | ret u => exact hsp'
  obtain ⟨a, B, sI, pins', σ', H', cls, d, rfl, J', nb, up, sky, na, os, ag, w⟩ := xx
  have J : Inv X pins σ' H' sI := J'.ofTry ok
  have sky' : Sky B (X.env :: X.outer) a (Zc cls d) X.env.locals s'.heap := by rw [← hs]; exact sky
  show wpAny (model X.prog X.w) X.A (noteFrame (.ref a) X.env) _ _ _
  refine Sky.land Zc.steady hfr hf sky' fun h3 fl3 up3 => ?_
  have up13 := up.trans up3
  have J3 : Inv X pins σ' H' { s' with heap := h3 } := J.landed nb fl3.1 up13 os ag
  obtain ⟨oe3, vs3, he3, hz3, hd3⟩ := fl3.there
  have nfr : a ∉ frs (X.env :: X.outer) := fun hm => by
    obtain ⟨_, o', e', hnf⟩ := fl3.2.2.1.mem hm
    rw [he3] at e'; cases e'
    exact hnf _ hd3
  have nL : a ≠ X.env.locals := fun z => nfr (List.mem_filterMap.mpr ⟨X.env, List.mem_cons_self, by rw [hf, z]⟩)
  have nF : a ∉ X.fs := fun hm => by
    obtain ⟨e, he, q⟩ := List.mem_filterMap.mp hm
    exact nfr (List.mem_filterMap.mpr ⟨e, List.mem_cons_of_mem _ he, q⟩)
  have S3 := J3.suite he3 hd3 na nL nF
  have LT : PySem.W.Looks (model X.prog X.w) h3 (typeOf (.ref a)) cls := fun A Q E s k q => wpAny_typeOf_ref (k _ _ he3) (by rw [hz3.1]; exact q)
  suffices go : ∀ {hs' : List ExceptHandler} {l' : List Cl}, HdsMix X hs' l' → wMix X.K Wout D l' cls d σ' H' → wpAny (model X.prog X.w) X.A (handleBy (.ref a) X.env hs') (SP X pins D) X.xe { s' with heap := h3 } from go hh w
  intro hs' l' hk
  induction hk with
  | nil =>
    intro w
    refine wpAny_handleBy_nil ?_
    obtain ⟨k1, k2, k3, oe, vs, T, oT, ts', he, hz, hd, h1, hr⟩ := id fl3
    unfold PySem.passOn
    refine wpAny_bind (wpAny_field he hd h1 ?_)
    rw [if_neg (show ¬ ((Value.ref T == Value.none) = true) from by simp)]
    have fin : wpAny (model X.prog X.w) X.A (setFlight (.ref a) X.env.frame) (fun _ s4 => wpAny (model X.prog X.w) X.A (throw (.ref a) : Sem Flow) (SP X pins D) X.xe s4) X.xe { s' with heap := h3 } := by
      rw [hf]
      exact HandSPX.setFlight_upZ fl3 fun h4 hh4 up4 => wpAny_throw (tk _ _ ⟨a, B, sI, pins, σ', H', cls, d, rfl, J, nb, up13.trans up4, .inr (.inr (by rw [hs]; exact hh4)), na, os, ag, w⟩)
    first
      | exact wpAny_bind (wpAny_pure (wpAny_bind fin))
      | exact wpAny_bind fin
  | @cons x c o p ts b₀ suite np pos' hds2 l2 hc ho hsu r ih =>
    rintro ⟨b, hb1, hyes, hno⟩
    have LM := PySem.W.exm_one (M := model X.prog X.w) (J3.kIn) LT hb1
    refine wpAny_handleBy_cons (codeAny_handlers_test ?_) (by intro q; cases q)
    have test : ∀ {Q : Value → Shared → Prop} {E : Value → Shared → Prop}, Q c { s' with heap := h3 } → wpAny (model X.prog X.w) (X.A.mark (some (.ref a))) (eval (.Name x np) X.env) Q E { s' with heap := h3 } := fun {Q E} q => by
      obtain ⟨hg, hdbg, hm | ⟨hm, hv, hnn⟩⟩ := hc
      · exact ld_glob (X := X.suite a ((a, oe3) :: (X.pn ++ pins))) S3 hg hm q hdbg
      · exact ld_blt (X := X.suite a ((a, oe3) :: (X.pn ++ pins))) S3 hg hm hv q hnn hdbg
    refine test (LM.here ?_)
    cases b with
    | false => exact ih (hno rfl)
    | true =>
      cases ho with
      | no =>
        refine codeAny_handlers_suite (HandSPX.lands_againZ fl3 fun h4 fl4 up4 => ?_)
        have J4 : Inv X pins σ' H' { s' with heap := h4 } := J.landed nb fl4.1 (up13.trans up4) os ag
        obtain ⟨oe4, vs4, he4, hz4, hd4⟩ := fl4.there
        have S4 := J4.suite he4 hd4 na nL nF
        exact wpAny_mono ((hsu a oe4 cls d (X.pn ++ pins) hz4 ⟨_, hd4⟩).run [] _ _ H' _ S4 (hyes rfl a na)) (fun f s6 hsp => sp_map (fun σ6 H6 S6 => S6.unsuite ok) hsp) (fun _ _ z => False.elim z)
      | @as n i hi hln =>
        refine codeAny_handlers_suite_as (HandSPX.lands_againZ fl3 fun h4 fl4 up4 => ?_)
        have J4 : Inv X pins σ' H' { s' with heap := h4 } := J.landed nb fl4.1 (up13.trans up4) os ag
        obtain ⟨oe4, vs4, he4, hz4, hd4⟩ := fl4.there
        have S4 := J4.suite he4 hd4 na nL nF
        refine store_ok (X := X.suite a ((a, oe4) :: (X.pn ++ pins))) (v := .ref a) S4 hN hi (.inl hln) rfl (fun s5 S5 => ?_) (.inr hln)
        refine wpAny_mono ((hsu a oe4 cls d (X.pn ++ pins) hz4 ⟨_, hd4⟩).run [] s5 _ H' _ S5 (hyes rfl a na)) (fun f s6 hsp => ?_) (fun _ _ z => False.elim z)
        cases f with
        | next =>
          obtain ⟨σ6, H6, S6, q6⟩ := hsp
          exact gone_ok (S6.unsuite ok) hN hi hln fun s7 J7 => ⟨_, _, J7, q6⟩
        | brk =>
          obtain ⟨σ6, H6, S6, q6⟩ := hsp
          exact gone_ok (S6.unsuite ok) hN hi hln fun s7 J7 => ⟨_, _, J7, q6⟩
        | cont =>
          obtain ⟨σ6, H6, S6, q6⟩ := hsp
          exact gone_ok (S6.unsuite ok) hN hi hln fun s7 J7 => ⟨_, _, J7, q6⟩
        | ret u =>
          obtain ⟨v6, σ6, H6, S6, r6, q6⟩ := hsp
          exact gone_ok (S6.unsuite ok) hN hi hln fun s7 J7 => ⟨_, _, _, J7, r6, q6⟩
end
/-- the clause is hit, is not -/
theorem mx_hit {K : PySem.W.Frag} {Wo : WX} {D : Ends} {c x : Value} {d : Option Addr} {o : Option Nat} {ts : Addr → Value → Option Addr → TS} {r : List Cl} {σ : L2.St} {H : Hp} (h : PySem.W.exmOne K x c = some true) (k : wHit D o ts x d σ H) : WE (wMix K Wo D ((c, o, ts) :: r)) σ x d H :=
  ⟨true, h, fun _ => k, fun e => (by cases e)⟩
theorem mx_miss {K : PySem.W.Frag} {Wo : WX} {D : Ends} {c x : Value} {d : Option Addr} {o : Option Nat} {ts : Addr → Value → Option Addr → TS} {r : List Cl} {σ : L2.St} {H : Hp} (h : PySem.W.exmOne K x c = some false) (k : WE (wMix K Wo D r) σ x d H) : WE (wMix K Wo D ((c, o, ts) :: r)) σ x d H :=
  ⟨false, h, fun e => (by cases e), fun _ => k⟩
end NW

/-! x == y and x != y where x is an instance whose class has its own ==; y whatever. -/
namespace NW
open PySem PySem.Spec PyProof.Rows L2
section
variable {X : Cx}
/-- what is known of the class of a value, own exceptions (with a dict) too -/
def TyE (K : PySem.W.Frag) (H : Hp) (v : V) (t : Value) : Prop := TyX K H v t ∨ ∃ (a C d : Addr) (fs : List (Str × V)), v = .ref a ∧ t = .ref C ∧ ExcC K C ∧ H a = some (exo a C (some d)) ∧ H d = some (exd d fs)
theorem kit_ofE {pins : List (Addr × Obj)} {σ : L2.St} {H : Hp} {s : Shared} {x : V} {u t : Value} (I : Inv X pins σ H s) (rx : RelV x u) (ty : TyE X.K H x t) : ∃ P : Heap → Prop, PySem.W.KitX X.K u t P ∧ P s.heap ∧ u ≠ .builtin "__main__.__loader__#opaque" := by
  rcases ty with ty | ⟨a, C, d, fs, rfl, rfl, E, ha, hd⟩
  · exact kit_of I rx ty
  · cases (show u = Value.ref a from rx)
    obtain ⟨t1, he⟩ := exo_at I.hok ha
    obtain ⟨mA, hn, _⟩ := exd_at I.hok hd
    obtain ⟨od, hod⟩ : ∃ od, s.heap.get? d = some od := by
      obtain ⟨oD, esD, epD, hoD, hdD, hcD⟩ := hn
      exact ⟨_, hoD⟩
    have J : PySem.W.InstAt s.heap a _ C (some od) := ⟨he, rfl, rfl, hod⟩
    have hcl : (PySem.W.clsIn X.K C).isSome = true := by
      have h := E.hd
      unfold PySem.W.hasDictIn at h
      cases hc : PySem.W.clsIn X.K C with
      | none => rw [hc] at h; cases h
      | some cd => rfl
    exact ⟨_, PySem.W.kitx_exc hcl E.hg E.hk E.hs E.ha E.hn E.ht E.hm, J, fun z => nomatch z⟩
/-- isinstance(x, c) of such a value -/
def rIsiE (K : PySem.W.Frag) : List V → Hp → VK → Prop := fun xs H Q => ∃ (x c : V) (t u : Value) (b : Bool), xs = [x, c] ∧ ClsV c u ∧ TyE K H x t ∧ PySem.W.kitOne K t u = some b ∧ Q (.bl b) H
theorem call_isiE {K : PySem.W.Frag} (hK : X.K = K) : CallR X (.builtin "isinstance") (rIsiE K) := by
  subst hK
  intro pins s σ H xs us Q I r h
  obtain ⟨x, c, t, u, b, rfl, k, ty, e, q⟩ := h
  obtain ⟨u1, u2, rfl, r1, r2⟩ := vals2 r
  have e2 := k.eq r2
  subst e2
  obtain ⟨P, Z, p, hx⟩ := kit_ofE I r1 ty
  exact PySem.W.kia_one Z I.kIn p e hx fun tk => ⟨.bl b, H, I.tok tk, rfl, q⟩
end
section
variable {X : Cx} {CX : CXT} {n : Nat} {f C : Addr} {fd : FuncData} {ps : List Str} {sp : Sp} {E : XK}
/-- what the own == says -/
def rEqO (K : PySem.W.Frag) (C : Addr) (sp : Sp) (E : XK) : R2 := fun x y H Q => ∃ a dx fs t, x = .ref a ∧ H a = some (.ins C dx fs) ∧ TyE K H y t ∧ PySem.W.notFirst K C t = true ∧ sp [.ref a, y] H (fun v H' => ∃ b, v = .bl b ∧ Q (.bl b) H') E
def rNeO (K : PySem.W.Frag) (C : Addr) (sp : Sp) (E : XK) : R2 := fun x y H Q => ∃ a dx fs t, x = .ref a ∧ H a = some (.ins C dx fs) ∧ TyE K H y t ∧ PySem.W.notFirst K C t = true ∧ sp [.ref a, y] H (fun v H' => ∃ b, v = .bl b ∧ Q (.bl (!b)) H') E
theorem op_eqO (F : FnOk X.prog X.w X.K X.mg X.base CX n f fd ps sp) (hr : Room n X.A) (hs : PySem.W.findIn X.K (.ref C) "__eq__" = some (some (.ref f))) (hf : PySem.W.isFn X.K (.ref f) = true) (hb : Binds X.K fd ps []) (hx : Passes CX X E) :
    OpR X (compareOp .Eq) (rEqO X.K C sp E) := by
  intro pins s σ H x y v u Q I rx ry h
  obtain ⟨a, dx, fs, t, rfl, ha, ty, hn, hsp⟩ := h
  cases rx
  show wpAny (model X.prog X.w) X.A (richCompare .Eq (.ref a) u) (EP X pins σ Q) X.xe s
  obtain ⟨mA, J, _⟩ := ins_get I.hok ha
  obtain ⟨od, J, _⟩ := J.look
  obtain ⟨m, hF⟩ := I.fr
  obtain ⟨P, Z, hP, _⟩ := kit_ofE I ry ty
  refine PySem.W.cmp_K (op := .Eq) (tb := t) hr.units0 hF I.ok.mod.kin J (Z.ty _ _ I.kIn hP) hn hs hf ?_
  refine wpAny_mono (run_fn (vs := [V.ref a, y]) (us := [Value.ref a, u]) (Q := fun v H' => ∃ b, v = V.bl b ∧ Q (.bl b) H') F hr hb (dvs := []) .nil hx I (.cons rfl (.cons ry .nil)) (by rw [List.append_nil]; exact hsp)) (fun v s' hq => ?_) fun _ _ z => z
  obtain ⟨z, H', I', rz, b, rfl, q⟩ := hq
  cases rz
  exact ⟨.bl b, H', I', rfl, q⟩
theorem ne_args (a b : Value) : argsOk "object.__ne__" ⟨[a, b], []⟩ := by unfold argsOk; kernel_rfl
theorem ne_entry : entryFor table "object.__ne__" = some Builtin.«object.__ne__» := entryFor_of_tree (by kernel_rfl)
theorem ne_bind (self : Value) : bindSpecial (.builtin "object.__ne__") self = pure (.builtin "object.__ne__", [self]) :=
  (Slot.of (T := "object") (name := "__ne__") (owner := "object") (n := "__ne__") (by rw [typeLookup_type, builtinLookup_eq_fast]; kernel_rfl) (by decide +kernel) (by decide +kernel) (by decide +kernel)
    (.inl (by decide +kernel)) (by rw [isSubtype_type]; kernel_rfl)).bind self
theorem op_neO (F : FnOk X.prog X.w X.K X.mg X.base CX n f fd ps sp) (hr : Room (n + 1) X.A) (hs : PySem.W.findIn X.K (.ref C) "__eq__" = some (some (.ref f))) (hf : PySem.W.isFn X.K (.ref f) = true)
    (hne : PySem.W.findIn X.K (.ref C) "__ne__" = some (some (.builtin "object.__ne__"))) (ho : PySem.W.subIn X.K (.ref C) (.type "object") = some true) (hb : Binds X.K fd ps []) (hx : Passes CX X E) :
    OpR X (compareOp .NotEq) (rNeO X.K C sp E) := by
  intro pins s σ H x y v u Q I rx ry h
  obtain ⟨a, dx, fs, t, rfl, ha, ty, hn, hsp⟩ := h
  cases rx
  show wpAny (model X.prog X.w) X.A (richCompare .NotEq (.ref a) u) (EP X pins σ Q) X.xe s
  obtain ⟨mA, J, _⟩ := ins_get I.hok ha
  obtain ⟨od, J, _⟩ := J.look
  obtain ⟨m, hF⟩ := I.fr
  obtain ⟨P, Z, hP, _⟩ := kit_ofE I ry ty
  have hbt : PySem.W.Looks (model X.prog X.w) s.heap (typeOf u) t := Z.ty _ _ I.kIn hP
  have hu : X.A.units < cLine := hr.units0
  -- the own == in the builtin's room
  have run : ∀ {R : Value → Shared → Prop}, (∀ b s', EP X pins σ Q (.bool (!b)) s' → R (.bool b) s') → wpAny (model X.prog X.w) X.A.in1 (call (.ref f) [.ref a, u]) R X.xe s := fun {R} hR => by
    have e0 : Env0 X.prog X.w X.K X.mg X.base X.A.in1 X.stack s H := by
      have e := I.env0
      exact ⟨e.frames, e.mod, e.bs, e.bsz, e.funs, e.frf, e.hok, e.bare⟩
    have hl := F.len _ _ _ _ hsp
    have r2 : Vals [V.ref a, y] [Value.ref a, u] := .cons rfl (.cons ry .nil)
    refine wpAny_call (codeAny_mono (F.run X.A.in1 X.stack s H ⟨[.ref a, u], []⟩ [.ref a, u] [.ref a, y] _ E hr.in1 e0 (by
      have := hb s [.ref a, u] I.kIn (by simpa using hl)
      simpa using this) r2 hsp) fun r s' hq => ?_)
    cases r with
    | error e => exact hx pins σ H s e s' I hq
    | ok fl =>
      cases fl with
      | ret w =>
        obtain ⟨z, H', I', rz, b, rfl, q⟩ := I.after hq
        cases rz
        exact hR b s' ⟨.bl (!b), H', I', rfl, q⟩
      | next => exact False.elim hq
      | brk => exact False.elim hq
      | cont => exact False.elim hq
  have XK := I.kIn
  have one : wpAny (model X.prog X.w) X.A (tryCompare (.ref a) (cmpInfo .NotEq).2.1 u) (fun r s' => ∃ v, r = some v ∧ EP X pins σ Q v s') X.xe s := by
    unfold tryCompare
    refine wpAny_bind ?_
    simp only [callSpecialIfBound?, bindSpecialIfBound?]
    refine wpAny_holding (wpAny_bind (wpAny_bind (wpAny_bind (J.type.here ((PySem.W.looks_findIn XK hne).here ?_)))))
    refine wpAny_bind (wpAny_askSetting (wpAny_ite ?_))
    have fin : ∀ {R : Option Value → Shared → Prop}, (∀ b s', EP X pins σ Q (.bool (!b)) s' → R (some (.bool (!b))) s') → wpAny (model X.prog X.w) X.A (call (.builtin "object.__ne__") ([.ref a] ++ [u]) >>= fun v => pure (some v)) R X.xe s := fun {R} hR => by
      refine wpAny_bind (wpAny_call (codeAny_call_builtin (by decide +kernel) ne_entry (PySem.W.check_slot (owner := "object") (n := "__ne__") (by decide +kernel) (by decide +kernel) (J.type.andThen (PySem.W.looks_subIn XK ho)) (ne_args _ _) ?_)))
      unfold Builtin.«object.__ne__»
      repeat (first
        | with_reducible refine wpAny_cRoomFor hr.in1.units0 ?_
        | (refine wpAny_bind (m := callSpecialIfBound? (.ref a) (Str.ofString "__eq__") [u])
            (PySem.W.ifBound_K (A := X.A.in1) XK J hs hf (run fun b s' hq => by
              repeat (first | exact wpAny_pure (hR b s' hq) | exact hR b s' hq | exact wpAny_truthy_bool (hR b s' hq) | (refine wpAny_bind (m := truthy (.bool _)) (wpAny_truthy_bool ?_)) | wp_step))))
        | wp_step)
    have bd : PySem.W.Looks (model X.prog X.w) s.heap (bindSpecial (.builtin "object.__ne__") (.ref a)) (.builtin "object.__ne__", [.ref a]) := PySem.W.Looks.of_pure (ne_bind _)
    split
    · exact wpAny_bind (bd.here (wpAny_pure (by exact fin fun b s' q => wpAny_pure ⟨_, rfl, q⟩)))
    · exact wpAny_tryCatch (wpAny_bind (bd.here (wpAny_pure (by exact fin fun b s' q => wpAny_pure ⟨_, rfl, q⟩))))
  unfold richCompare
  simp only [oneThing_ref]
  refine wpAny_holding (wpAny_bind (wpAny_cRoomFor hu ?_))
  refine wpAny_bind (J.type.here (wpAny_bind (hbt.here ?_)))
  split
  · rename_i q
    have e : PySem.W.subIn X.K t (.ref C) = some false := by
      rcases Bool.or_eq_true_iff.mp hn with e | e
      · rw [beq_iff_eq.mp e] at q; simp at q
      · exact beq_iff_eq.mp e
    refine wpAny_bind ((PySem.W.looks_subIn XK e).here ?_)
    simp only [Bool.false_eq_true, if_false]
    refine wpAny_bind (wpAny_mono one (fun r s' z => ?_) fun _ _ e => e)
    obtain ⟨v, rfl, hq⟩ := z
    exact wpAny_pure hq
  · refine wpAny_bind (wpAny_pure ?_)
    simp only [Bool.false_eq_true, if_false]
    refine wpAny_bind (wpAny_mono one (fun r s' z => ?_) fun _ _ e => e)
    obtain ⟨v, rfl, hq⟩ := z
    exact wpAny_pure hq
end
/-! what is of a built-in type is no instance of an own class -/
theorem sub_bt {K : PySem.W.Frag} {n : String} {C : Addr} (h : (PySem.W.subIn K (.type n) (.ref C)) = some false) : PySem.W.notFirst K C (.type n) = true := by
  unfold PySem.W.notFirst
  rw [h]
  simp
theorem bt_list {K : PySem.W.Frag} {C : Addr} : PySem.W.subIn K (.type "list") (.ref C) = some false := rfl
theorem bt_tuple {K : PySem.W.Frag} {C : Addr} : PySem.W.subIn K (.type "tuple") (.ref C) = some false := rfl
theorem bt_str {K : PySem.W.Frag} {C : Addr} : PySem.W.subIn K (.type "str") (.ref C) = some false := rfl
theorem bt_int {K : PySem.W.Frag} {C : Addr} : PySem.W.subIn K (.type "int") (.ref C) = some false := rfl
theorem bt_bool {K : PySem.W.Frag} {C : Addr} : PySem.W.subIn K (.type "bool") (.ref C) = some false := rfl
theorem bt_none {K : PySem.W.Frag} {C : Addr} : PySem.W.subIn K (.type "NoneType") (.ref C) = some false := rfl
theorem bt_dict {K : PySem.W.Frag} {C : Addr} : PySem.W.subIn K (.type "dict") (.ref C) = some false := rfl
theorem kit_bt {K : PySem.W.Frag} {n : String} {c : Addr} {b : Bool} (h2 : PySem.W.isClsIn K c = true) (h3 : PySem.W.typeIn K (.ref c) = some (.type "type")) (h4 : PySem.W.subIn K (.type n) (.ref c) = some b) : PySem.W.kitOne K (.type n) (.ref c) = some b := by
  have e2 : ((PySem.W.clsIn K c).isSome && PySem.W.typeIn K (.ref c) == some (.type "type")) = true := by
    have h2' : (PySem.W.clsIn K c).isSome = true := h2
    rw [h2', h3] <;> rfl
  unfold PySem.W.kitOne
  rw [if_neg (by simp)]
  show (if ((PySem.W.clsIn K c).isSome && PySem.W.typeIn K (.ref c) == some (.type "type")) = true then PySem.W.subIn K (.type n) (.ref c) else none) = some b
  rw [if_pos e2]
  exact h4
end NW

/-! Comprehensions over any walk with any target, by the place of the item. -/
namespace NW
open PySem PySem.Spec PyProof.Rows L2 Evl
section
variable {σ : L2.St} {H : Hp} {te : TE} {wi : TI} {g : TG} {xs : List V}
theorem el_lcG {vs : List Nat} (h : WkX wi σ H xs) (v : Nat → V) (st : Nat → L2.St) (hz : xs.length ≤ 40000) (hw : ∀ i, wipe (st i) vs = wipe σ vs)
    (hg : ∀ i x, xs[i]? = some x → ∀ H1, Ex H H1 → ∀ R : L2.St → Hp → Prop, R (st i) H1 → g x (wipe σ vs) H1 R)
    (he : ∀ i x, xs[i]? = some x → ∀ H1, Ex H H1 → Ev te (st i) H1 (v i)) : EvL (tLc wi g tYes te vs) σ H ((List.range xs.length).map v) := fun H0 e Q q => h H0 e _ fun J H1 e1 ⟨G, W, WG⟩ Dl hD => by
  refine lc_it (G := G) W (fun i H' => Ex H1 H' ∧ H' Dl = some (.lst ((List.range i).map v))) ⟨Ex.new hD, by rw [upd_same]; rfl⟩ (fun _ _ _ pv => WG _ ((e.trans e1).trans pv.1) fun b o _ hb => pv.1 _ _ hb) (fun i x H' H'' hi pv hy => ?_) (fun H' pv => ?_)
  · obtain ⟨rfl, hx⟩ := hy
    refine hg i x hx _ ((e.trans e1).trans pv.1) _ ⟨hw i, rd_yes (iteT ?_)⟩
    refine he i x hx H1 (e.trans e1) _ pv.1 _ fun H4 e4 => ⟨_, e4 _ _ pv.2, ?_, Ex.mut (pv.1.trans e4) hD, ?_⟩
    · rw [List.length_map, List.length_range]
      exact sz_lt (by omega)
    · rw [upd_same, range_take hi]
  · exact q Dl H' (fresh_back e1 hD) (e1.trans pv.1) pv.2
end
end NW

/-! An own exception with its own __init__, made and kept as a value. -/
namespace NW
open PySem PySem.Spec PyProof.Rows L2
section
variable {X : Cx} {CX : CXT} {x : Str} {C fI : Addr} {k : Nat} {fd : FuncData} {ps : List Str} {sp : Sp} {e : Expr} {es : List Expr} {ta : TA} {p pos : Pos}
/-- C(e, ..), C's own __init__ keeping sp: the exception stays tracked -/
def tOexV (C : Addr) (sp : Sp) (ta : TA) : TE := fun σ H Q => ta σ H fun vs H1 => vs.length ≤ 1000 ∧ ∀ a, H1 a = none → sp (.ref a :: vs) (upd H1 a (exo a C none)) (fun v H2 => v = .non ∧ Q (.ref a) H2) fun _ _ _ => False
theorem pe_oexV (T : OexC X.K C) (iC : PySem.W.findIn X.K (.ref C) "__init__" = some (some (.ref fI))) (tI : PySem.W.typeIn X.K (.ref fI) = some (.type "function"))
    (F1 : FnOk X.prog X.w X.K X.mg X.base CX k fI fd ps sp) (hr : Room (k + 1) X.A) (hb : Binds X.K fd ps []) (hx : Passes CX X (fun _ _ _ => False)) (hg : Gl X x) (hm : X.mg x = some (.ref C)) (ha : PA X (e :: es) ta)
    (hdb : (x == ("__debug__" : Str)) = false := by decide) (he : starEach (e :: es) X.env = (false, eval e X.env) :: starEach es X.env := by rfl) (hpl : (backTo pos (starEach es X.env)).any (·.1) = false := by rfl) :
    PE X (.Call (.Name x p) (e :: es) [] pos) (tOexV C sp ta) := by
  refine ⟨fun pins s σ H Q I h => ?_⟩
  obtain ⟨nm, q, N, bs, bm, sn, sub, ab, col, dd, k0, k1, k2, k3, k5, hC, hbm⟩ := T.cls
  refine wpAny_Call_Name_kw (ld_glob I hg hm ?_ hdb)
  refine PySem.W.callWith_K (h₀ := X.base) I.ok.mod.kin T.kC (thn (ha.run pos pins s σ H _ I h) fun us s1 ⟨vs, H1, I1, r1, hz, q1⟩ => ⟨I1.kIn, ?_⟩) he hpl
  show wpAny _ _ (call (.ref C) us) _ _ _
  obtain ⟨hp, g, dr, tk, os⟩ := s1
  have hsz : hp.objs.size ≤ hp.objs.size + 1 := Nat.le_succ _
  have hn : H1 (hp.objs.size + 1) = none := I1.hok.fresh hsz
  have hq := q1 (hp.objs.size + 1) hn
  have hget : ((hp.push (PySem.W.kdv_tup us)).push (PySem.HandSPX.excO C hp.objs.size)).get? (hp.objs.size + 1) = some (PySem.HandSPX.excO C hp.objs.size) := by heap_get
  have I2 : Inv X pins σ (upd H1 (hp.objs.size + 1) (exo (hp.objs.size + 1) C none)) ⟨(hp.push (PySem.W.kdv_tup us)).push (PySem.HandSPX.excO C hp.objs.size), g, dr, tk, os⟩ :=
    I1.laid (t' := tk) (a := hp.objs.size + 1) (o := exo (hp.objs.size + 1) C none) (h' := (hp.push (PySem.W.kdv_tup us)).push (PySem.HandSPX.excO C hp.objs.size)) (fun b o e => Heap.get?_push_of_some _ (Heap.get?_push_of_some _ e)) hsz (exo_ok hget)
  have r2 : Vals (V.ref (hp.objs.size + 1) :: vs) (Value.ref (hp.objs.size + 1) :: us) := .cons rfl r1
  have hl : (Value.ref (hp.objs.size + 1) :: us).length = ps.length := by
    have e := r2.length
    rw [F1.len _ _ _ _ hq] at e
    exact e.symm
  have hus : us.length ≤ sizeLine := by
    rw [← Paired.length r1, sizeLine_eq]
    omega
  refine wpAny_call (PySem.HandSPX.call_own F.excBase_ValueError (fun Y => PySem.HandSPX.refsVE_contains Y bm hbm) (I1.kIn _ _ hC) (PySem.W.looks_findIn I1.kIn iC) (fun self => PySem.W.bind_fn I1.kIn self tI) hus
    (codeAny_mono (F1.run _ X.stack _ _ ⟨Value.ref (hp.objs.size + 1) :: us, []⟩ (Value.ref (hp.objs.size + 1) :: us) _ _ (fun _ _ _ => False) (hr.make C us []) (I2.env0.make C us []) (by
      have := hb ⟨(hp.push (PySem.W.kdv_tup us)).push (PySem.HandSPX.excO C hp.objs.size), g, dr, tk, os⟩ (Value.ref (hp.objs.size + 1) :: us) I2.kIn (by simpa using hl)
      simpa using this) r2 hq) fun r s' hq' => ?_))
  cases r with
  | error er => exact hx pins σ _ _ er s' I2 hq'
  | ok fl =>
    cases fl with
    | ret u =>
      obtain ⟨v, H2, I3, rv, ev, q2⟩ := I2.after hq'
      subst ev
      exact ⟨rv, ⟨.ref _, H2, I3, rfl, q2⟩⟩
    | next => exact False.elim hq'
    | brk => exact False.elim hq'
    | cont => exact False.elim hq'
end
end NW

/-! super().__init__ that leads to ValueError's, whatever own classes stand between. -/
namespace NW
open PySem PySem.W PySem.Calls PyProof.Rows PySem.HandSPX PySem.ESX PySem.Builtin PySem.Builtin.SmallTypes
/-- ValueError's __init__ bound to x -/
def bwV (x : Addr) : Obj := { cls := .type "method-wrapper", data := .fields #[.builtin "ValueError.__init__", .ref x] }
theorem type_vi : typeOf (.builtin "ValueError.__init__") = pure (.type "wrapper_descriptor") := by show builtinType _ = _; rw [builtinType_eq_fast]; kernel_rfl
theorem nacV : (kfb_private% "nameAndClass") (Value.builtin "ValueError.__init__") = (pure (("__init__" : Str), Value.type "ValueError") : Sem (Str × Value)) := by kernel_rfl
section
variable {prog : Program} {w : World} {M : Model} {A : Around} {E : Value → Shared → Prop} {h : Heap} {g : Array GenState} {d : Drawn} {t : Nat} {os : OsState}
theorem run_wdV {x C : Addr} {P : Fin → Shared → Prop} (hin : W.Looks M h (isInstance (.ref x) (.type "ValueError")) true) (hq : P (.done (.ret (.ref h.objs.size))) ⟨h.push (bwV x), g, d, t, os⟩) :
    wpAny M A (Builtin.«wrapper_descriptor.__get__» ⟨[.builtin "ValueError.__init__", .ref x, .ref C], []⟩) P E ⟨h, g, d, t, os⟩ := by
  unfold Builtin.«wrapper_descriptor.__get__»
  refine wpAny_bind (wpAny_of_eq (a := (.builtin "ValueError.__init__", some (.ref x), some (.ref C))) (by first | rfl | kernel_rfl) ?_)
  show wpAny M A ((kfb_private% "checkInstance") (.builtin "ValueError.__init__") (.ref x) >>= fun _ => newFields "method-wrapper" [.builtin "ValueError.__init__", .ref x] >>= fun r => ret r) P E _
  refine wpAny_bind ?_
  show wpAny M A ((kfb_private% "nameAndClass") (.builtin "ValueError.__init__") >>= _) _ E _
  refine wpAny_bind (wpAny_of_eq nacV ?_)
  show wpAny M A (isInstance (.ref x) (.type "ValueError") >>= _) _ E _
  refine wpAny_bind (hin.at ?_)
  refine KFB.if_not rfl ?_
  refine wpAny_pure ?_
  exact wpAny_bind (wpAny_newObj_type (wpAny_pure hq))
theorem super_gaV {so D x C : Addr} {l₀ l : List Value} {K : Frag} {name : Str} {tk : Tok} {Q : Fin → Shared → Prop}
    (hso : h.get? so = some { cls := .type "super", dict := none, data := .fields #[.ref D, .ref x, .ref C], slots := #[] }) (hno : Looks (model prog w) h (opaqueClassAbove (.ref C)) none)
    (hC : Looks (model prog w) h (mroOf (.ref C)) l₀) (hl : (l₀.dropWhile (· != .ref D)).drop 1 = l) (X : K.In h)
    (hf : alongIn K name l = some (some (.builtin "ValueError.__init__"))) (hxC : x ≠ C) (hn : (name == ("__class__" : Str)) = false) (hin : Looks (model prog w) h (isInstance (.ref x) (.type "ValueError")) true)
    (hq : Q (.done (.ret (.ref h.objs.size))) ⟨h.push (bwV x), g, d, t, os⟩) :
    wpAny (model prog w) A (Builtin.«super.__getattribute__» ⟨[.ref so, .str name tk], []⟩) Q E ⟨h, g, d, t, os⟩ := by
  have hlk := slot_wd.lookup
  have hne : (Value.ref x == Value.ref C) = false := by simp [hxC]
  have hTf := type_vi
  have hTi : Shared.TypeIs ⟨h, g, d, t, os⟩ (.builtin "ValueError.__init__") "wrapper_descriptor" := type_vi
  have hdt : ({ cls := .type "super", dict := none, data := .fields #[.ref D, .ref x, .ref C], slots := #[] } : Obj).data = .fields #[.ref D, .ref x, .ref C] := rfl
  have f0 : (#[.ref D, .ref x, .ref C] : Array Value)[0]? = some (.ref D) := rfl
  have f1 : (#[.ref D, .ref x, .ref C] : Array Value)[1]? = some (.ref x) := rfl
  have f2 : (#[.ref D, .ref x, .ref C] : Array Value)[2]? = some (.ref C) := rfl
  unfold Builtin.«super.__getattribute__»
  repeat (first
    | (with_reducible refine wpAny_field hso hdt f0 ?_) | (with_reducible refine wpAny_field hso hdt f1 ?_) | (with_reducible refine wpAny_field hso hdt f2 ?_)
    | (with_reducible refine ks_wpAny_notOpaque hno ?_)
    | (with_reducible refine Looks.at hC ?_; rw [hl])
    | (refine ks_forIn_along X (fun _ _ => rfl) rfl ?_ hf)
    | (with_reducible refine wpAny_call_entry slot_wd hTi entry_wd ?_ (args_wd _ _ _))
    | (with_reducible refine run_wdV hin ?_)
    | (with_reducible refine ⟨_, rfl, ?_⟩)
    | (simp only [hn, hne, Bool.or_false, Bool.false_eq_true, if_false])
    | wp_step
    | dsimp only)
  all_goals exact hq
theorem getMethod_superV {so D x C : Addr} {l₀ l : List Value} {K : Frag} {name : Str} {pl : Sem Bool} {Q : Value × List Value → Shared → Prop}
    (hso : h.get? so = some { cls := .type "super", dict := none, data := .fields #[.ref D, .ref x, .ref C], slots := #[] }) (hno : Looks (model prog w) h (opaqueClassAbove (.ref C)) none)
    (hC : Looks (model prog w) h (mroOf (.ref C)) l₀) (hl : (l₀.dropWhile (· != .ref D)).drop 1 = l) (X : K.In h)
    (hf : alongIn K name l = some (some (.builtin "ValueError.__init__"))) (hxC : x ≠ C) (hn : (name == ("__class__" : Str)) = false) (hin : Looks (model prog w) h (isInstance (.ref x) (.type "ValueError")) true)
    (hq : Q (.ref h.objs.size, []) ⟨h.push (bwV x), g, d, t + 1, os⟩) :
    wpAny (model prog w) A (getMethod (.ref so) name pl) Q E ⟨h, g, d, t, os⟩ := by
  have hlk := F.ks_slot_super_ga.lookup
  have hcan := F.ks_canon_super_ga
  have hT : ∀ t', (⟨h, g, d, t', os⟩ : Shared).TypeIs (.ref so) "super" := fun _ => ⟨_, hso, rfl⟩
  unfold getMethod
  refine wpAny_bind (wpAny_specialOf (hT _) hlk ?_)
  show wpAny _ _ (if (Manifest.canonical "super.__getattribute__" != "object.__getattribute__") = true then _ else _) _ _ _
  rw [if_pos hcan]
  unfold getAttr getAttrBy
  refine wpAny_bind (wpAny_bind (wpAny_mkText (wpAny_holding (wpAny_bind (wpAny_typeOf (hT _) (wpAny_bind (wpAny_of_eq hlk ?_)))))))
  show wpAny _ _ (getAttrByItsOwn (.ref so) (.str name t) (.type "super") (.builtin "super.__getattribute__") true false) _ _ _
  unfold getAttrByItsOwn hookBefore callGetattribute boundAndCalled
  refine wpAny_bind (wpAny_of_eq (show (if onTheHeap (.type "super") then typeLookup (.type "super") "__getattr__" else pure none) = pure none from rfl) ?_)
  refine wpAny_bind (wpAny_attempt (wpAny_holding ?_))
  show wpAny _ _ (bindSpecial (.builtin "super.__getattribute__") (.ref so) >>= _) _ _ _
  refine wpAny_bind (wpAny_of_eq (F.ks_slot_super_ga.bind _) ?_)
  refine wpAny_mono (Q := fun v s' => v = .ref h.objs.size ∧ s' = ⟨h.push (bwV x), g, d, t + 1, os⟩) (E := fun _ _ => False)
    (wpAny_call_entry F.ks_slot_super_ga (hT _) F.ks_entry_super_ga (super_gaV hso hno hC hl X hf hxC hn hin ⟨_, rfl, rfl, rfl⟩) (F.ks_gaArgs_super _ _)) (fun v s' hv => ?_) fun _ _ z => z.elim
  obtain ⟨rfl, rfl⟩ := hv
  exact wpAny_pure (wpAny_pure hq)
end
section
variable {prog : Program} {w : World} {A : Around} {E : Value → Shared → Prop} {h : Heap} {g : Array GenState} {d : Drawn} {t : Nat} {os : OsState}
variable {nm q : Str} {C N : Addr} {bs bm : List Value} {hdct : Bool} {sn : List Str} {sub : List Value} {ab : Bool} {col : Option Bool} {dd : Option Addr} {k0 k1 k2 k3 k5 : Option Value}
/-- ValueError's __init__, bound: the arguments are kept -/
theorem call_bwV {u e t0 : Addr} {rest : List Value} {Q : Value → Shared → Prop}
    (hC : h.get? C = some (excClassObj nm q C N bs bm hdct sn sub ab col dd k0 k1 k2 k3 k5 "ValueError.__new__")) (he : h.get? e = some (HandSPX.excO C t0)) (hu : h.get? u = some (bwV e)) (hrest : rest.length ≤ sizeLine)
    (hq : ∀ h' t1, (∀ b o, b ≠ e → h.get? b = some o → h'.get? b = some o) → h'.get? e = some (HandSPX.excO C t1) → Q .none ⟨h', g, d, t, os⟩) :
    wpAny (model prog w) A (call (.ref u) rest) Q E ⟨h, g, d, t, os⟩ := by
  refine wpAny_call (codeAny_of_tree ?_)
  show wpAny _ A.in1 (callAny (.ref u) ⟨rest, []⟩) _ _ _
  simp only [callAny]
  refine wpAny_bind (wpAny_load hu ?_)
  simp only [bwV, show (Value.type "method-wrapper" == Value.type "method" || Value.type "method-wrapper" == Value.type "builtin_function_or_method" || Value.type "method-wrapper" == Value.type "method-wrapper") = true by decide, if_true]
  refine W.KFB.if_so (by decide) ?_
  refine wpAny_bind (check_bound F.excBase_ValueError hC he rfl ?_)
  refine wpAny_bind (wpAny_pure (wpAny_pure ?_))
  refine ⟨Code.quiet_builtin _ (by decide +kernel), codeAny_builtin F.excBase_ValueError.initEntry ?_⟩
  rw [Around.under_plainId F.excBase_ValueError.init.plain _]
  wp_walk
  refine hq _ h.objs.size (fun b o hb ho => ?_) ?_
  · rw [Heap.get?_update_other _ _ (Ne.symm hb)]
    exact Heap.get?_push_of_some _ ho
  · rw [Heap.get?_update_self _ (Heap.get?_push_of_some _ he) rfl]
    rfl
end
end NW

/-! An own exception's __init__ that begins with super().__init__('..'), kept as a contract. -/
namespace NW
open PySem PySem.Spec PySem.W PyProof.Rows L2 NdefX
/-- the program's file, and that its top has no name super -/
class SupP (P : Program) : Prop where
  file : ((P.main.file : Str) == ("/claim/cut.py" : Str)) = true
  nosup : (P.main.scope.names.lookup ("super" : Str)).isSome = false
instance supP_cx {CX : CXT} {P : Program} {w : World} {K : PySem.W.Frag} {mg : Str → Option Value} {base : Heap} {N : List Str} {qual : Str} {scope : Scope} {f : Addr} {cd : Value} {A : Around} {outer : List Env} {s : Shared} {H : Hp} {E : XK} [h : SupP P] :
    SupP (cxOf CX P w K mg base N qual scope f cd A outer s H E).prog := h
/-- what the written part says of such a def -/
structure SupC (K : PySem.W.Frag) (name qual : Str) (params : Arguments) (body : List Stmt) (scope : Scope) (C f : Addr) (fd : FuncData) : Prop where
  ex : ∃ (oc dV kV doc pm ct cl ccl : Value) (od cld cdd : Option Addr) (an : Option Addr) (osl csl ccs : Array (Option Value)) (cc cda : Addr) (vs : Array Value) (tf : Tok),
    fd = PySem.W.ksFn name qual params body scope dV kV doc pm an (.ref cda) ct cc ∧ K.lookup f = some ⟨oc, od, .func fd, osl⟩ ∧ PySem.W.codeIn K (.ref cda) qual = true ∧
    K.lookup cda = some ⟨ccl, cdd, .fields vs, ccs⟩ ∧ vs[2]? = some (.str "/claim/cut.py" tf) ∧ K.lookup cc = some ⟨cl, cld, .cell (some (.ref C)), csl⟩
  oex : OexC K C
  nosup : PySem.W.nsIn K mainGlobals "super" = some none
  opq : PySem.W.nsIn K cStatics "thirdparty.any" = some none
  sup : PySem.W.ks_superIn K C C "__init__" = some (some (.builtin "ValueError.__init__"))
  ve : PySem.W.subIn K (.ref C) (.type "ValueError") = some true
  mr : PySem.W.mroIn K C (.ref C) = some true
/-- what it promises: the one field -/
def sp_supinit (C : Addr) (fld : Str) : Sp := fun vs H Q _ => ∃ a v, vs = [.ref a, v] ∧ H a = some (exo a C none) ∧ ∀ d, H d = none → d ≠ a → Q .non (upd (upd H d (exd d [(fld, v)])) a (exo a C (some d)))
section
variable {CX : CXT} {P : Program} {w : World} {K : PySem.W.Frag} {mg : Str → Option Value} {base : Heap} {k : Nat} {f C : Addr} {name qual fld pn text : Str} {params : Arguments} {body : List Stmt} {scope : Scope} {fd : FuncData}
  {p0 p1 p2 p3 p4 p5 q1 q2 q3 q4 : Pos} {kc : Nat} {ar : Arg} {ars : List Arg} {pl : Env → Sem Bool}
theorem callWith_bwV {M : Model} {A : Around} {E : Value → Shared → Prop} {s : Shared} {pos : Pos} {u x : Addr} {args : List (Bool × Sem Value)} {Q : Value → Shared → Prop} (hplain : args.any (·.1) = false)
    (h : wpAny M A (evalArgs (.ref u) true args []) (fun a s₁ => s₁.heap.get? u = some (bwV x) ∧ wpAny M A (call (.ref u) a.pos a.kw) Q E s₁) E s) : wpAny M A (callWith pos (.ref u) [] args []) Q E s := by
  unfold callWith
  refine wpAny_bind (wpAny_holding (wpAny_mono h (fun a s₁ h₁ => wpAny_bind (wpAny_standAt ?_)) fun _ _ x => x))
  obtain ⟨ho, hcall⟩ := h₁
  simp only [hplain, List.any_nil, Bool.or_false]
  refine wpAny_bind (m := keeperOf (.ref u)) ?_
  unfold keeperOf
  refine wpAny_bind (wpAny_load ho ?_)
  simp only [bwV, show (Value.type "method-wrapper" != Value.type "method") = true by decide, show (Value.type "method-wrapper" == Value.type "builtin_function_or_method" || Value.type "method-wrapper" == Value.type "method-wrapper") = true by decide, if_true]
  refine wpAny_pure ?_
  exact wpAny_bind (wpAny_mono hcall (fun r s₂ hr => wpAny_bind (wpAny_holding (wpAny_point (wpAny_pure hr)))) fun _ _ x => x)
/-- the first statement -/
theorem sup_first [SupP P] {A : Around} {outer : List Env} {s0 s : Shared} {H0 H : Hp} {E : XK} {F : NF} {a cc cda : Addr} {N : List Str} {Q : Flow → Shared → Prop}
    {oc dV kV doc pm ct cl ccl : Value} {od cld cdd an : Option Addr} {osl csl ccs : Array (Option Value)} {vs : Array Value} {tf : Tok}
    (hF : F = ⟨name, qual, params, body, scope, [("__class__", cc)], cda⟩)
    (lk : K.lookup f = some ⟨oc, od, .func (PySem.W.ksFn name qual params body scope dV kV doc pm an (.ref cda) ct cc), osl⟩)
    (hcode : K.lookup cda = some ⟨ccl, cdd, .fields vs, ccs⟩) (hvs : vs[2]? = some (.str "/claim/cut.py" tf)) (hcell : K.lookup cc = some ⟨cl, cld, .cell (some (.ref C)), csl⟩)
    (T : OexC K C) (nosup : PySem.W.nsIn K mainGlobals "super" = some none)
    (opq : PySem.W.nsIn K cStatics "thirdparty.any" = some none) (sup : PySem.W.ks_superIn K C C "__init__" = some (some (.builtin "ValueError.__init__")))
    (ve : PySem.W.subIn K (.ref C) (.type "ValueError") = some true) (mr : PySem.W.mroIn K C (.ref C) = some true)
    (hm : ∀ env : Env, eval (.Call (.Attribute (.Call (.Name "super" p0) [] [] p1) "__init__" p2) [.Constant (.str text) kc p3] [] p4) env = (do
      let ov ← attributeBase (.Call (.Name "super" p0) [] [] p1) "__init__" env (eval (.Call (.Name "super" p0) [] [] p1) env)
      standAt p2.atName
      let (f, first) ← holding [ov] (getMethod ov "__init__" (pl env))
      callWith p4 f first (backTo p4 (starEach [.Constant (.str text) kc p3] env)) []))
    (hp : params.posonlyargs ++ params.args = ar :: ars) (hself : ar.arg = "self")
    (hks : scope.names.lookup ("super" : Str) = some .globalImplicit) (hkc : scope.names.lookup ("__class__" : Str) = some .free) (hka : scope.names.lookup ("self" : Str) = some .local) (hk : scope.kind = .function)
    (I : Inv (ncx CX P w K mg base N F f A outer s0 H0 E) [] σ H s) (hN : N[0]? = some ("self" : Str)) (hσ : σ[0]? = some (some (.ref a))) (ha : H a = some (exo a C none))
    (h : ∀ s', Inv (ncx CX P w K mg base N F f A outer s0 H0 E) [] σ H s' → Q .next s') :
    _root_.PySem.wpAt (model P w) (A.deeper (envF F f s0.heap.objs.size)) (.func body (envF F f s0.heap.objs.size)) (exec (.Expr (.Call (.Attribute (.Call (.Name "super" p0) [] [] p1) "__init__" p2) [.Constant (.str text) kc p3] [] p4) p5) (envF F f s0.heap.objs.size)) Q (ncx CX P w K mg base N F f A outer s0 H0 E).xe s := by
  subst hF
  refine ks_wpAt_Expr_any ?_ (show interactive (envF _ f s0.heap.objs.size) = false by unfold interactive; rw [show (envF _ f s0.heap.objs.size).scope.kind = .function from hk]; rfl) rfl
  refine ks_wpAt_MethodCall (pl := pl _) ?_ (hm _)
  have X := I.kIn
  have hcl : ∃ cd, PySem.W.clsIn K C = some cd := by
    unfold PySem.W.ks_superIn at sup
    cases hc : PySem.W.clsIn K C with
    | none => rw [hc] at sup; cases sup
    | some cd => exact ⟨cd, rfl⟩
  obtain ⟨cdD, hcd⟩ := hcl
  obtain ⟨oD, hD1, hD2⟩ : ∃ oD, s.heap.get? C = some oD ∧ oD.data = .cls cdD := by
    unfold PySem.W.clsIn at hcd
    split at hcd
    · rename_i c d cd' sl ho
      cases hcd
      exact ⟨_, X _ _ ho, rfl⟩
    · cases hcd
  obtain ⟨m, hns, hl⟩ := I.loc
  obtain ⟨u, ru, lu⟩ := hl 0 "self" (.ref a) hN hσ (.inl hka)
  obtain rfl : u = Value.ref a := ru
  have hm : m "self" = some (.ref a) := by
    rcases lu with ⟨_, z⟩ | ⟨z, _⟩
    · exact z
    · have z : scope.names.lookup ("self" : Str) = some .cell ∨ scope.names.lookup ("self" : Str) = some .free := z
      rw [hka] at z
      rcases z with z | z <;> cases z
  refine ks_wpAt_super_base (env := envF _ f s0.heap.objs.size) hks hkc rfl rfl (X _ _ lk) rfl (by show (params.posonlyargs ++ params.args).head? = some ar; rw [hp]; rfl) rfl (X _ _ hcode) rfl hvs SupP.file SupP.nosup ?_
  obtain ⟨mb, b1, b2⟩ := I.mod.blt
  refine ks_loadName_global hk hks (Calls.loadGlobal_builtin (env := envF _ f s0.heap.objs.size) (I.mod.glob.keeps I.bk) (mg_none_of I.mod.kin I.mod.glob nosup) (b1.keeps I.bk) ((b2 _ (by decide)).trans PyProof.Rows.Boot.«super») ⟨rfl, ?_⟩)
  refine wpAny_loadName_free hk hkc rfl ⟨_, X _ _ hcell, rfl⟩ ?_
  rw [hself]
  refine wpAny_loadName_local hk hka hns hm ?_
  refine ks_wpAny_isType_cls hD1 hD2 ⟨rfl, ?_⟩
  obtain ⟨t1, ho⟩ := exo_at I.hok ha
  refine ks_wpAny_call_super hD1 hD2 ho rfl (fun c e => by cases e) (looks_mroIn X mr) (fun h' e kp => ?_)
  have I1 : Inv (ncx CX P w K mg base N ⟨name, qual, params, body, scope, [("__class__", cc)], cda⟩ f A outer s0 H0 E) [] σ H { s with heap := h' } := I.kept kp
  have X1 := I1.kIn
  obtain ⟨t2, ho1⟩ := exo_at I1.hok ha
  obtain ⟨nm, qn, Nn, bs, bm, sn, sub, ab, col, dd, k0, k1, k2, k3, k5, hC, hbm⟩ := T.cls
  have hne : a ≠ C := PySem.W.ks_ne (odx := none) X1 ⟨ho1, rfl, rfl, trivial⟩ hcd
  have hin : PySem.W.Looks (model P w) h' (isInstance (.ref a) (.type "ValueError")) true := (show PySem.W.InstAt h' a { cls := .ref C, dict := none, data := .fields #[.ref t2, .none, .none, .none, .bool false, .none] } C none from ⟨ho1, rfl, rfl, trivial⟩).type.andThen (looks_subIn X1 ve)
  obtain ⟨hh, g, d, t, os⟩ := s
  refine getMethod_superV e (looks_opaque X1 opq) (l₀ := cdD.mro) (fun A Q E s k q => wpAny_bind ((looks_clsIn X1 hcd) A _ E s k (wpAny_pure q))) rfl X1 (by unfold PySem.W.ks_superIn at sup; rw [hcd] at sup; exact sup) hne rfl hin ?_
  have I2 : Inv (ncx CX P w K mg base N ⟨name, qual, params, body, scope, [("__class__", cc)], cda⟩ f A outer s0 H0 E) [] σ H ⟨h'.push (bwV a), g, d, t + 1, os⟩ := I1.kept (h' := h'.push (bwV a)) (t' := t + 1) (fun b o z => Heap.get?_push_of_some _ z)
  have hu : (h'.push (bwV a)).get? h'.objs.size = some (bwV a) := Heap.get?_push_at rfl rfl
  refine callWith_bwV (x := a) rfl ?_
  refine Calls.evalArgs_plain (Calls.spliced_cons ?_)
  refine Calls.Constant_str (pos := p3) (k := kc) ?_
  refine Calls.spliced_nil ⟨hu, ?_⟩
  have I3 := I2.tok (t + 1 + 1)
  obtain ⟨t3, ho3⟩ := exo_at I3.hok ha
  refine call_bwV (rest := [_]) (I3.kIn _ _ hC) ho3 hu (by show 1 ≤ sizeLine; decide) fun h4 t4 k4 he4 => ?_
  have J := I3.write (t' := t + 1 + 1) (x := a) (e := a) (o := exo a C none) (by rw [ha]; exact True.intro) (.inl rfl) k4 ⟨_, he4⟩ (exo_ok he4)
  have eu : upd H a (exo a C none) = H := by
    funext b
    by_cases hb : b = a
    · rw [hb, upd_same, ha]
    · rw [upd_ne hb]
  rw [eu] at J
  exact h _ J
/-- the def keeps its promise -/
theorem fn_super [SupP P] (S : SupC K name qual params body scope C f fd) (hbody : body = [.Expr (.Call (.Attribute (.Call (.Name "super" p0) [] [] p1) "__init__" p2) [.Constant (.str text) kc p3] [] p4) p5, .Assign [.Attribute (.Name "self" q1) fld q2] (.Name pn q3) q4])
    (hm : ∀ env : Env, eval (.Call (.Attribute (.Call (.Name "super" p0) [] [] p1) "__init__" p2) [.Constant (.str text) kc p3] [] p4) env = (do
      let ov ← attributeBase (.Call (.Name "super" p0) [] [] p1) "__init__" env (eval (.Call (.Name "super" p0) [] [] p1) env)
      standAt p2.atName
      let (f, first) ← holding [ov] (getMethod ov "__init__" (pl env))
      callWith p4 f first (backTo p4 (starEach [.Constant (.str text) kc p3] env)) []))
    (hp : params.posonlyargs ++ params.args = ar :: ars) (hself : ar.arg = "self") (NS : NScope ["self", pn, "__class__"] ["self", pn] ["__class__"] scope)
    (hks : scope.names.lookup ("super" : Str) = some .globalImplicit) (hfld : PySem.W.findIn K (.ref C) fld = some none) (hpn : (pn == ("__debug__" : Str)) = false := by decide) (hpc : (pn == ("__classdict__" : Str)) = false := by decide) :
    FnOk P w K mg base CX (k + 1) f fd ["self", pn] (sp_supinit C fld) := by
  refine ⟨fun vs H Q E h => by obtain ⟨_, _, rfl, _⟩ := h; rfl, fun A outer s H args us vs Q E hr e0 hb r hsp => ?_⟩
  obtain ⟨oc, dV, kV, doc, pm, ct, cl, ccl, od, cld, cdd, an, osl, csl, ccs, cc, cda, vs0, tf, rfl, lk, hcd, hcode, hvs, hcell⟩ := S.ex
  obtain ⟨a, v, rfl, ha, kq⟩ := hsp
  have KX : K.In s.heap := e0.mod.kin.keeps fun b o e => (e0.bs b o e).1
  have lim : s.heap.NoLimit := e0.mod.nolimit.keeps fun b o e => (e0.bs b o e).1
  refine ks_codeAny_call_defAt (fd := PySem.W.ksFn name qual params body scope dV kV doc pm an (.ref cda) ct cc) (body := body) hr.depth (KX _ _ lk) rfl lim (PySem.W.codeRec_of KX hcd) rfl hb NS.nocell (fun x hx => NS.par x.1 (List.of_mem_zip (a := x.1) (b := x.2) hx).1) (fun h₁ hns hk₁ => ?_) NS.co NS.gen NS.kind
  have CA : CellsAt [("__class__", cc)] ["__class__"] [none] s.heap H := by
    have hb := e0.bs cc _ (e0.mod.kin _ _ hcell)
    have one : ∀ {y : Str} {c : Addr}, ([(("__class__" : Str), cc)] : List (Str × Addr)).lookup y = some c → y = "__class__" ∧ c = cc := fun {y c} z => by
      have := PySem.mem_of_lookup z
      rw [List.mem_singleton] at this
      cases this
      exact ⟨rfl, rfl⟩
    refine ⟨rfl, fun y c z => ?_, fun x y c z1 z2 => (one z1).1.trans (one z2).1.symm, fun i y hi => ?_⟩
    · obtain ⟨_, rfl⟩ := one z
      exact ⟨hb.2, _, _, hb.1, rfl⟩
    · cases i with
      | zero =>
        cases hi
        exact ⟨cc, by rw [List.lookup_cons, beq_self_eq_true], fun v z => by cases z⟩
      | succ i => cases hi
  have I : L2.Inv (ncx CX P w K mg base ["self", pn, "__class__"] ⟨name, qual, params, body, scope, [("__class__", cc)], cda⟩ f A outer s H E) [] (startF ["self", pn, "__class__"] [.ref a, v] [none]) H { s with heap := h₁, toks := s.toks + ((["self", pn] : List Str).zip us).length } :=
    inv_startN (F := ⟨name, qual, params, body, scope, [("__class__", cc)], cda⟩) NS hr.hd e0 rfl r CA hns hk₁
  rw [show execs body = execs [.Expr (.Call (.Attribute (.Call (.Name "super" p0) [] [] p1) "__init__" p2) [.Constant (.str text) kc p3] [] p4) p5, .Assign [.Attribute (.Name "self" q1) fld q2] (.Name pn q3) q4] from congrArg execs hbody]
  refine ks_wpAt_execs_cons (sup_first (σ := startF ["self", pn, "__class__"] [.ref a, v] [none]) rfl lk hcode hvs hcell S.oex S.nosup S.opq S.sup S.ve S.mr hm hp hself hks (NS.frk _ (List.mem_singleton.mpr rfl)) (NS.par _ (List.mem_cons_self ..)) NS.kind I rfl rfl ha fun s' J => ?_)
  refine wpAt_of_wpAny ?_
  have ht : PSs (ncx CX P w K mg base ["self", pn, "__class__"] ⟨name, qual, params, body, scope, [("__class__", cc)], cda⟩ f A outer s H E) [.Assign [.Attribute (.Name "self" q1) fld q2] (.Name pn q3) q4] _ :=
    pss_one (ps_ost (f := fld) (pv 0 rfl (.inl (NS.par _ (List.mem_cons_self ..)))) (pv 1 rfl (.inl (NS.par _ (List.mem_cons_of_mem _ (List.mem_cons_self ..)))) hpn hpc))
  refine wpAny_mono (ht.run [] s' _ H { nx := fun _ H' => Q .non H', rt := Q } J ⟨v, rfl, .ref a, rfl, a, C, rfl, S.oex, hfld, .inl ⟨ha, fun dx hd hne => kq dx hd hne⟩⟩) (fun fl s'' hs => ?_) fun e s'' he => he
  cases fl with
  | ret u =>
    obtain ⟨v, σ', H', J, rv, q⟩ := hs
    exact ⟨v, H', J.os, J.bare, J.base, J.hok, rv, q⟩
  | next =>
    obtain ⟨σ', H', J, q⟩ := hs
    exact ⟨.non, H', J.os, J.bare, J.base, J.hok, rfl, q⟩
  | brk =>
    obtain ⟨_, _, _, q⟩ := hs
    exact False.elim q
  | cont =>
    obtain ⟨_, _, _, q⟩ := hs
    exact False.elim q
end
/-- C(e, ..) as a value, C's own __init__ of that kind: a new exception with its dict -/
theorem rd_sup {C : Addr} {fld : Str} {ta : TA} {σ : L2.St} {H : Hp} {Q : VK} (h : ta σ H fun vs H1 => ∃ v, vs = [v] ∧ ∀ a d H2, H1 a = none → H1 d = none → d ≠ a → Same H1 H2 → H2 a = some (exo a C (some d)) → H2 d = some (exd d [(fld, v)]) → Q (.ref a) H2)
    (mono : ∀ (Q Q' : List V → Hp → Prop), (∀ vs H1, Q vs H1 → Q' vs H1) → ta σ H Q → ta σ H Q') : tOexV C (sp_supinit C fld) ta σ H Q := by
  refine mono _ _ (fun vs H1 hq => ?_) h
  obtain ⟨v, rfl, k⟩ := hq
  refine ⟨by show 1 ≤ 1000; decide, fun a ha => ⟨a, v, rfl, upd_same, fun d hd hne => ⟨rfl, ?_⟩⟩⟩
  have hd' : H1 d = none := by rw [← hd, upd_ne hne]
  refine k a d _ ha hd' hne (fun b o e => ?_) upd_same ?_
  · have n1 : b ≠ a := fun z => by rw [z, ha] at e; cases e
    have n2 : b ≠ d := fun z => by rw [z, hd'] at e; cases e
    rw [upd_ne n1, upd_ne n2, upd_ne n1]
    exact e
  · rw [upd_ne hne]
    exact upd_same
theorem cons1_mono {te : TE} {σ : L2.St} {H : Hp} (m : ∀ (Q Q' : VK), (∀ v H1, Q v H1 → Q' v H1) → te σ H Q → te σ H Q') (Q Q' : List V → Hp → Prop) (h : ∀ vs H1, Q vs H1 → Q' vs H1) : tCons te tNil σ H Q → tCons te tNil σ H Q' := m _ _ fun _ _ z => h _ _ z
theorem tC_mono {v : V} {σ : L2.St} {H : Hp} (Q Q' : VK) (h : ∀ v H1, Q v H1 → Q' v H1) : tC v σ H Q → tC v σ H Q' := h _ _
theorem tVar_mono {i : Nat} {σ : L2.St} {H : Hp} (Q Q' : VK) (h : ∀ v H1, Q v H1 → Q' v H1) : tVar i σ H Q → tVar i σ H Q' := fun ⟨v, e, q⟩ => ⟨v, e, h _ _ q⟩
end NW

/-! Own errors as values: made without arguments, asked for their class, their fields read. -/
namespace NW
open PySem PySem.Spec PyProof.Rows L2
/-- an error of the class at C, with a dict or without one -/
def ErrAt (H : Hp) (a C : Addr) : Prop := H a = some (exo a C none) ∨ ∃ d fs, H a = some (exo a C (some d)) ∧ H d = some (exd d fs)
theorem ErrAt.same {H H' : Hp} {a C : Addr} (h : ErrAt H a C) (s : Same H H') : ErrAt H' a C := by
  rcases h with h | ⟨d, fs, h1, h2⟩
  · exact .inl (s _ _ h)
  · exact .inr ⟨d, fs, s _ _ h1, s _ _ h2⟩
section
variable {X : Cx} {pins : List (Addr × Obj)} {σ : L2.St} {H : Hp} {s : Shared} {K : PySem.W.Frag}
theorem err_inst {a C : Addr} (I : Inv X pins σ H s) (h : ErrAt H a C) : ∃ ox od, PySem.W.InstAt s.heap a ox C od := by
  rcases h with h | ⟨d, fs, h1, h2⟩
  · obtain ⟨t1, he⟩ := exo_at I.hok h
    exact ⟨_, none, he, rfl, rfl, trivial⟩
  · obtain ⟨t1, he⟩ := exo_at I.hok h1
    obtain ⟨mA, hn, _⟩ := exd_at I.hok h2
    obtain ⟨od, hod, _⟩ := lookIn_ns hn
    exact ⟨_, some od, he, rfl, rfl, hod⟩
/-- isinstance(x, c), x an error -/
def rIsiX (K : PySem.W.Frag) : List V → Hp → VK → Prop := fun xs H Q => ∃ (a C : Addr) (c : V) (u : Value) (b : Bool), xs = [.ref a, c] ∧ ClsV c u ∧ ExcC K C ∧ ErrAt H a C ∧ PySem.W.kitOne K (.ref C) u = some b ∧ Q (.bl b) H
theorem call_isiX (hK : X.K = K) : CallR X (.builtin "isinstance") (rIsiX K) := by
  subst hK
  intro pins s σ H xs us Q I r h
  obtain ⟨a, C, c, u, b, rfl, k, E, he, e, q⟩ := h
  obtain ⟨u1, u2, rfl, r1, r2⟩ := vals2 r
  have e2 := k.eq r2
  subst e2
  cases (show u1 = Value.ref a from r1)
  obtain ⟨ox, od, J⟩ := err_inst I he
  have hcl : (PySem.W.clsIn X.K C).isSome = true := by
    have h := E.hd
    unfold PySem.W.hasDictIn at h
    cases hc : PySem.W.clsIn X.K C with
    | none => rw [hc] at h; cases h
    | some cd => rfl
  exact PySem.W.kia_one (PySem.W.kitx_exc hcl E.hg E.hk E.hs E.ha E.hn E.ht E.hm) I.kIn J e (fun z => nomatch z) fun tk => ⟨.bl b, H, I.tok tk, rfl, q⟩
/-- x.f, x an error with the field f -/
def tFldX (K : PySem.W.Frag) (ta : TE) (f : Str) : TE := fun σ H Q => ta σ H fun x H1 => ∃ a C d fs v, x = .ref a ∧ ExcC K C ∧ PySem.W.findIn K (.ref C) f = some none ∧ H1 a = some (exo a C (some d)) ∧ H1 d = some (exd d fs) ∧ fs.lookup f = some v ∧ Q v H1
theorem pe_fldX {e : Expr} {ta : TE} {f : Str} {pos : Pos} (h : X.K = K) (he : PE X e ta) (hb : attributeBase e f X.env (eval e X.env) = eval e X.env) : PE X (.Attribute e f pos) (tFldX K ta f) := by
  subst h
  refine ⟨fun pins s σ H Q I h => ?_⟩
  refine attr_of hb (thn (he.run pins s σ H _ I h) fun u s1 ⟨x, H1, I1, rx, a, C, d, fs, v, ex, E, hf, h1, h2, l, q⟩ => ?_)
  subst ex
  obtain rfl : u = Value.ref a := rx
  obtain ⟨t1, hea⟩ := exo_at I1.hok h1
  obtain ⟨mA, hn, rel⟩ := exd_at I1.hok h2
  obtain ⟨od, hod, look⟩ := lookIn_ns hn
  obtain ⟨u, hu, ru⟩ := RelO.some_of (v := v) (o := mA f) (by rw [← l]; exact rel f)
  refine PySem.PX.exc_get I1.kIn (od := some od) (ox := _) ⟨hea, rfl, rfl, hod⟩ E.hg E.hk E.hs (PySem.W.findObj_own E.hd hf rfl (by rw [look, hu])) (handed_of ru) ⟨v, H1, I1.tok _, ru, q⟩
/-- C(), C without an own __init__ -/
def tOex0 (C : Addr) : TE := fun σ H Q => ∀ a, H a = none → Q (.ref a) (upd H a (exo a C none))
theorem pe_oex0 {x : Str} {C : Addr} {p pos : Pos} (T : OexC X.K C) (iC : PySem.W.findIn X.K (.ref C) "__init__" = some (some (.builtin "ValueError.__init__"))) (hg : Gl X x) (hm : X.mg x = some (.ref C)) (hdb : (x == ("__debug__" : Str)) = false := by decide) :
    PE X (.Call (.Name x p) [] [] pos) (tOex0 C) := by
  refine ⟨fun pins s σ H Q I h => ?_⟩
  obtain ⟨nm, q, N, bs, bm, sn, sub, ab, col, dd, k0, k1, k2, k3, k5, hC, hbm⟩ := T.cls
  refine wpAny_Call_Name_kw (ld_glob I hg hm ?_ hdb)
  refine PySem.W.callWith_K0 I.kIn T.kC ?_
  show wpAny _ _ (call (.ref C) []) _ _ _
  obtain ⟨hp, g, dr, tk, os⟩ := s
  refine PySem.W.call_B F.excBase_ValueError (fun Y => PySem.HandSPX.refsVE_contains Y bm hbm) (I.kIn _ _ hC) (PySem.W.looks_findIn I.kIn iC) (Nat.zero_le _) fun h' k1 e1 e2 => ?_
  exact ⟨.ref (hp.objs.size + 1), _, I.laid (t' := tk) (a := hp.objs.size + 1) (o := exo (hp.objs.size + 1) C none) k1 (Nat.le_succ _) (exo_ok e1), rfl, h _ (I.hok.fresh (Nat.le_succ _))⟩
theorem rd_oex0 {C : Addr} {σ : L2.St} {H : Hp} {Q : VK} (h : ∀ a, H a = none → Q (.ref a) (upd H a (exo a C none))) : tOex0 C σ H Q := h
end
end NW

/-! C(..) whose __init__ may raise, within a try; the classes of own errors told apart from what is written of them. -/
namespace NW
open PySem PySem.Spec PyProof.Rows L2
section
variable {X : Cx} {CX : CXT} {k : Nat} {f C : Addr} {fd : FuncData} {ps : List Str} {sp : Sp} {E : L2.St → XK} {x : Str} {p pos : Pos} {e : Expr} {es : List Expr} {t : TA}
theorem run_makeS {pins : List (Addr × Obj)} {σ : L2.St} {H : Hp} {s : Shared} {Q : VK} {us : List Value} {vs : List V} (M : Mk X.K C f) (F : FnOk X.prog X.w X.K X.mg X.base CX k f fd ps sp) (hr : Room (k + 1) X.A) (hb : Binds X.K fd ps [])
    (hx : PassesAt CX X σ (E σ)) (I : Inv X pins σ H s) (r : Vals vs us)
    (h : ∀ x dx, H x = none → H dx = none → dx ≠ x → sp (.ref x :: vs) (upd (upd H dx (.own x)) x (.ins C dx [])) (fun v H2 => v = .non ∧ Q (.ref x) H2) (E σ)) :
    wpAny (model X.prog X.w) X.A (call (.ref C) us) (EP X pins σ Q) X.xe s := by
  have hq := h (s.heap.objs.size + 1) s.heap.objs.size (I.hok.fresh (Nat.le_succ _)) (I.hok.fresh (Nat.le_refl _)) (Nat.ne_of_lt (Nat.lt_succ_self _))
  have I2 := Inv.made (C := C) I
  have r2 : Vals (V.ref (s.heap.objs.size + 1) :: vs) (Value.ref (s.heap.objs.size + 1) :: us) := .cons rfl r
  have hl : (Value.ref (s.heap.objs.size + 1) :: us).length = ps.length := by
    have e := r2.length
    rw [F.len _ _ _ _ hq] at e
    exact e.symm
  refine wpAny_call (make_map (f := f) I.kIn M.makes M.init (beq_iff_eq.mp M.fn) (codeAny_mono (F.run _ X.stack _ _ ⟨Value.ref (s.heap.objs.size + 1) :: us, []⟩ (Value.ref (s.heap.objs.size + 1) :: us) _ _ (E σ) (hr.make C us [])
    (I2.env0.make C us []) (by
      have := hb _ (Value.ref (s.heap.objs.size + 1) :: us) I2.kIn (by simpa using hl)
      simpa using this) r2 hq) fun r s' hq' => ?_))
  cases r with
  | error e => exact hx pins _ _ e s' I2 hq'
  | ok fl =>
    cases fl with
    | ret u =>
      obtain ⟨v, H', I3, rv, ev, q3⟩ := I2.after hq'
      subst ev
      exact ⟨rv, ⟨V.ref (s.heap.objs.size + 1), H', I3, rfl, q3⟩⟩
    | next => exact False.elim hq'
    | brk => exact False.elim hq'
    | cont => exact False.elim hq'
/-- C(..), an exception of __init__ goes on -/
def tMakeS (C : Addr) (sp : Sp) (E : L2.St → XK) (t : TA) : TE := fun σ H Q => t σ H fun vs H1 => ∀ x dx, H1 x = none → H1 dx = none → dx ≠ x → sp (.ref x :: vs) (upd (upd H1 dx (.own x)) x (.ins C dx [])) (fun v H2 => v = .non ∧ Q (.ref x) H2) (E σ)
theorem pe_makeS (M : Mk X.K C f) (F : FnOk X.prog X.w X.K X.mg X.base CX k f fd ps sp) (hr : Room (k + 1) X.A) (hg : Gl X x) (hm : X.mg x = some (.ref C)) (hb : Binds X.K fd ps []) (hx : ∀ σ, PassesAt CX X σ (E σ))
    (ha : PA X (e :: es) t) (hdb : (x == ("__debug__" : Str)) = false := by decide) (he : starEach (e :: es) X.env = (false, eval e X.env) :: starEach es X.env := by rfl) (hpl : (backTo pos (starEach es X.env)).any (·.1) = false := by rfl) :
    PE X (.Call (.Name x p) (e :: es) [] pos) (tMakeS C sp E t) := by
  refine ⟨fun pins s σ H Q I h => ?_⟩
  refine wpAny_Call_Name_kw (ld_glob I hg hm ?_ hdb)
  refine PySem.W.callWith_K (h₀ := X.base) I.ok.mod.kin M.kp (thn (ha.run pos pins s σ H _ I h) fun us s1 ⟨vs, H1, I1, r, q⟩ => ⟨I1.kIn, ?_⟩) he hpl
  exact run_makeS M F hr hb (hx σ) I1 r q
theorem rd_makeS {σ : L2.St} {H : Hp} {Q : VK} (h : t σ H fun vs H1 => ∀ x dx, H1 x = none → H1 dx = none → dx ≠ x → sp (.ref x :: vs) (upd (upd H1 dx (.own x)) x (.ins C dx [])) (fun v H2 => v = .non ∧ Q (.ref x) H2) (E σ)) : tMakeS C sp E t σ H Q := h
end
/-! classes -/
/-- an own error's class: its chain of bases -/
def ErrL (K : PySem.W.Frag) (NE X : Addr) : Prop := ∃ nm q N bs sn sub ab col dd k0 k1 k2 k3 k5 nid, K.lookup X = some (excClassObj nm q X N bs [.ref NE, .type "ValueError", .type "Exception", .type "BaseException", .type "object"] true sn sub ab col dd k0 k1 k2 k3 k5 nid)
section
variable {K : PySem.W.Frag} {NE X Y : Addr}
theorem ErrL.cls (h : ErrL K NE X) : PySem.W.isClsIn K X = true ∧ PySem.W.typeIn K (.ref X) = some (.type "type") ∧ ∀ b, PySem.W.subIn K (.ref X) b = some ([Value.ref X, .ref NE, .type "ValueError", .type "Exception", .type "BaseException", .type "object"].contains b) := by
  obtain ⟨nm, q, N, bs, sn, sub, ab, col, dd, k0, k1, k2, k3, k5, nid, e⟩ := h
  have hc : ∃ cd : ClassData, PySem.W.clsIn K X = some cd ∧ cd.mro = [Value.ref X, .ref NE, .type "ValueError", .type "Exception", .type "BaseException", .type "object"] := by
    unfold PySem.W.clsIn
    rw [e]
    exact ⟨_, rfl, rfl⟩
  obtain ⟨cd, hc, hm⟩ := hc
  refine ⟨?_, ?_, fun b => ?_⟩
  · unfold PySem.W.isClsIn
    rw [hc]
    rfl
  · show (K.lookup X).map (·.cls) = _
    rw [e]
    rfl
  · show PySem.W.mroIn K X b = _
    unfold PySem.W.mroIn
    rw [hc, Option.bind_some, hm]
    rfl
theorem ErrL.exc (h : ErrL K NE X) : PySem.W.subIn K (.ref X) (.type "BaseException") = some true := by
  rw [h.cls.2.2]
  simp
theorem kit_errs (h1 : ErrL K NE X) (h2 : ErrL K NE Y) (hn : Y ≠ NE) : PySem.W.kitOne K (.ref X) (.ref Y) = some (decide (X = Y)) := by
  by_cases e : X = Y
  · subst e
    rw [kit_self, decide_eq_true rfl]
  · rw [decide_eq_false e]
    refine kit_own h2.cls.1 h2.cls.2.1 ?_ fun z => absurd z e
    rw [h1.cls.2.2]
    have e1 : (Value.ref Y == Value.ref X) = false := by simpa using fun z : Y = X => e z.symm
    have e2 : (Value.ref Y == Value.ref NE) = false := by simpa using hn
    simp only [List.contains_cons, e1, e2, List.contains_nil, Bool.or_false, Bool.false_or]
    rfl
theorem kit_near (h1 : ErrL K NE X) (c1 : PySem.W.isClsIn K NE = true) (c2 : PySem.W.typeIn K (.ref NE) = some (.type "type")) : PySem.W.kitOne K (.ref X) (.ref NE) = some true := by
  by_cases e : X = NE
  · subst e
    exact kit_self
  · refine kit_own c1 c2 ?_ fun z => rfl
    rw [h1.cls.2.2]
    simp
theorem kit_ve (h1 : ErrL K NE X) : PySem.W.kitOne K (.ref X) (.type "ValueError") = some true := by
  unfold PySem.W.kitOne
  rw [if_neg (by simp)]
  show PySem.W.kitCls K (.ref X) (.type "ValueError") = some true
  have e := h1.cls.2.2 (.type "ValueError")
  show (if PySem.W.kitMeta "ValueError" = true then PySem.W.subIn K (.ref X) (.type "ValueError") else none) = some true
  rw [if_pos (by decide +kernel), e]
  simp
end
end NW

/-! What an except suite holds, an error with a dict: isinstance, its fields. -/
namespace NW
open PySem PySem.Spec PyProof.Rows L2
theorem boot_ValueError : bootBuiltins "ValueError" = some (.type "ValueError") := PyProof.Rows.Boot.«ValueError»
section
variable {X : Cx} {K : PySem.W.Frag} {a : Addr} {oe : Obj} {cls : Value} {d : Option Addr} {pn pins : List (Addr × Obj)} {σ : L2.St} {H : Hp} {s : Shared}
theorem suite_inst {D dx : Addr} {fs : List (Str × V)} (hz : Zc cls d oe) (hf : ∃ vs, oe.data = .fields vs) (I : Inv (X.suite a ((a, oe) :: pn)) pins σ H s) (hc : cls = .ref D) (hd : d = some dx) (hx : H dx = some (.xd fs)) :
    ∃ (od : Obj) (mA : Str → Option Value), PySem.W.InstAt s.heap a oe D (some od) ∧ (∀ name, PySem.W.lookIn name od = some (mA name)) ∧ ∀ f, RelO (fs.lookup f) (mA f) := by
  obtain ⟨hget, _⟩ := I.pin (a, oe) (List.mem_append.mpr (.inl List.mem_cons_self))
  obtain ⟨mA, hn, rel⟩ := (show ∃ mA, s.heap.Ns1 dx mA ∧ ∀ f, RelO (fs.lookup f) (mA f) from I.hok dx _ hx)
  obtain ⟨od, hod, look⟩ := lookIn_ns hn
  obtain ⟨vs, hv⟩ := hf
  refine ⟨od, mA, ?_, look, rel⟩
  obtain ⟨oc, od', oda, osl⟩ := oe
  obtain ⟨h1, h2⟩ := hz
  dsimp only at h1 h2 hv
  subst h1 h2 hv hc hd
  exact ⟨hget, rfl, rfl, hod⟩
/-- isinstance(e, c), e what the suite holds, with a dict -/
def rIsEx2 (K : PySem.W.Frag) (cls : Value) (d : Option Addr) (a : Addr) : List V → Hp → VK → Prop := fun xs H Q => ∃ (D dx : Addr) (fs : List (Str × V)) (c : V) (u : Value) (b : Bool), cls = .ref D ∧ d = some dx ∧ H dx = some (.xd fs) ∧ ExcC K D ∧ xs = [.ref a, c] ∧ ClsV c u ∧ PySem.W.kitOne K (.ref D) u = some b ∧ Q (.bl b) H
theorem call_isEx2 (h : X.K = K) (hz : Zc cls d oe) (hf : ∃ vs, oe.data = .fields vs) : CallR (X.suite a ((a, oe) :: pn)) (.builtin "isinstance") (rIsEx2 K cls d a) := by
  subst h
  intro pins s σ H xs us Q I r hh
  obtain ⟨D, dx, fs, c, u, b, hc, hd, hx, C, rfl, k, e, q⟩ := hh
  obtain ⟨u1, u2, rfl, r1, r2⟩ := vals2 r
  have e2 := k.eq r2
  subst e2
  cases (show u1 = Value.ref a from r1)
  obtain ⟨od, mA, J, _, _⟩ := suite_inst hz hf I hc hd hx
  have hcl : (PySem.W.clsIn X.K D).isSome = true := by
    have h := C.hd
    unfold PySem.W.hasDictIn at h
    cases hc : PySem.W.clsIn X.K D with
    | none => rw [hc] at h; cases h
    | some cd => rfl
  exact PySem.W.kia_one (PySem.W.kitx_exc hcl C.hg C.hk C.hs C.ha C.hn C.ht C.hm) I.kIn J e (fun z => nomatch z) fun tk => ⟨.bl b, H, I.kept (t' := tk) fun _ _ z => z, rfl, q⟩
/-- e.f -/
def tByEx (K : PySem.W.Frag) (cls : Value) (d : Option Addr) (a : Addr) (te : TE) (f : Str) : TE := fun σ H Q => te σ H fun x H1 => ∃ (D dx : Addr) (fs : List (Str × V)) (v : V), x = .ref a ∧ cls = .ref D ∧ d = some dx ∧ H1 dx = some (.xd fs) ∧ ExcC K D ∧ PySem.W.findIn K (.ref D) f = some none ∧ fs.lookup f = some v ∧ Q v H1
theorem pe_byEx {e : Expr} {te : TE} {f : Str} {pos : Pos} (h : X.K = K) (hz : Zc cls d oe) (hf : ∃ vs, oe.data = .fields vs) (he : PE (X.suite a ((a, oe) :: pn)) e te)
    (hb : attributeBase e f (X.suite a ((a, oe) :: pn)).env (eval e (X.suite a ((a, oe) :: pn)).env) = eval e (X.suite a ((a, oe) :: pn)).env) : PE (X.suite a ((a, oe) :: pn)) (.Attribute e f pos) (tByEx K cls d a te f) := by
  subst h
  refine ⟨fun pins s σ H Q I h => ?_⟩
  refine attr_of hb (thn (he.run pins s σ H _ I h) fun u s1 ⟨x, H1, I1, rx, D, dx, fs, v, ex, hc, hd, hx, C, hno, l, q⟩ => ?_)
  subst ex
  obtain rfl : u = Value.ref a := rx
  obtain ⟨od, mA, J, look, rel⟩ := suite_inst hz hf I1 hc hd hx
  obtain ⟨u, hu, ru⟩ := RelO.some_of (v := v) (o := mA f) (by rw [← l]; exact rel f)
  exact PySem.PX.exc_get I1.kIn J C.hg C.hk C.hs (PySem.W.findObj_own C.hd hno rfl (by rw [look, hu])) (handed_of ru) ⟨v, H1, I1.tok _, ru, q⟩
end
end NW

/-! list.count of a text among things of any kind; list.extend, list.clear. -/
namespace NW
open PySem PySem.Spec PyProof.Rows L2 SeqAt
theorem dict_eq_declines_str (l : Addr) (o : Obj) (es : Array DictEntry) (n : Nat) (hc : o.cls = .type "dict") (hd : o.data = .dict es n) (b : Str) (u : Tok) :
    Meets (Builtin.«dict.__eq__» ⟨[.ref l, .str b u], []⟩) (fun _ R s => s.heap.get? l = some o ∧ R (.ok (.ret .notImplemented)) s) :=
  .of_wp fun prog w A R s h => by obtain ⟨hp, g, d, tk, os⟩ := s; obtain ⟨hl, h⟩ := h; have f1 := F.sub_str_dict; obtain ⟨cls, dd, data, sl⟩ := o; dsimp only at hc hd; subst hc hd; wp_walk using wpAny_loadPart' hl, wpAny_load hl; exact ⟨_, rfl, h⟩
theorem str_eq_declines_dict (b : Str) (u : Tok) (l : Addr) (o : Obj) (es : Array DictEntry) (n : Nat) (hc : o.cls = .type "dict") (hd : o.data = .dict es n) :
    Meets (Builtin.«str.__eq__» ⟨[.str b u, .ref l], []⟩) (fun _ R s => s.heap.get? l = some o ∧ R (.ok (.ret .notImplemented)) s) :=
  .of_wp fun prog w A R s h => by obtain ⟨hp, g, d, tk, os⟩ := s; obtain ⟨hl, h⟩ := h; obtain ⟨cls, dd, data, sl⟩ := o; dsimp only at hc hd; subst hc hd; wp_walk using wpAny_loadPart' hl, wpAny_load hl; exact ⟨_, rfl, h⟩
theorem eqAt_dict_str {A : Around} {s : Shared} {l : Addr} {o : Obj} {es : Array DictEntry} {n : Nat} (ho : s.heap.get? l = some o) (hc : o.cls = .type "dict") (hd : o.data = .dict es n) (b : Str) (u : Tok) (hu : A.units < cLine) : EqAt A s (.ref l) (.str b u) false := fun prog w E Q h => by
  unfold eqBool
  refine wpAny_holding ?_
  refine wpAny_ite_split (fun hab => absurd (eq_of_beq hab) nofun) (fun _ => ?_)
  refine wpAny_bind ?_
  exact rc_eq_decline_or (k := false) ⟨_, ho, hc⟩ (typeIs_str s b u) (by decide) F.sub_str_dict F.slot_dict_eq F.slot_str_eq_refl
    (fun _ hq => call_meets F.slot_dict_eq ⟨_, ho, hc⟩ F.entry_dict_eq (F.args_dict_eq_2 _ _) (dict_eq_declines_str l o es n hc hd b u) ⟨ho, hq⟩)
    (fun _ hq => call_meets F.slot_str_eq_refl (typeIs_str s b u) F.entry_str_eq (F.args_str_eq_2 _ _) (str_eq_declines_dict b u l o es n hc hd) ⟨ho, hq⟩)
    (fun _ hq => wpAny_of_eq (rfl : isSame (.ref l) (.str b u) = pure false) hq) (.inr hu) (wpAny_truthy_bool h)
/-- a text, or a thing that == tells from every text -/
def MixV (K : PySem.W.Frag) (H : Hp) (v : V) : Prop := (∃ x, v = .str x) ∨ v = .non ∨ (∃ b, v = .bl b) ∨ (∃ i, v = .int i) ∨ (∃ a xs, v = .ref a ∧ (SqL K H a xs ∨ SqT K H a xs)) ∨ ∃ a kvs, v = .ref a ∧ H a = some (.dK kvs)
def isTx (x : Str) : Value → Bool
  | .str y _ => y == x
  | _ => false
theorem isTx_rel {x : Str} {v : V} {u : Value} (r : RelV v u) (m : ∀ b, v ≠ .byt b) : isTx x u = decide (v = .str x) := by
  cases v with
  | str y =>
    obtain ⟨t, rfl⟩ := r
    show (y == x) = _
    by_cases h : y = x
    · subst h; simp
    · rw [decide_eq_false (fun e => h (V.str.inj e))]
      exact beq_eq_false_iff_ne.mpr h
  | non => cases r; rfl
  | bl b => cases r; rfl
  | int i => obtain ⟨t, rfl⟩ := r; rfl
  | byt b => exact absurd rfl (m b)
  | flt b => obtain ⟨t, rfl⟩ := r; rfl
  | ref a => cases r; rfl
  | ty n => cases r; rfl
theorem count_rel {x : Str} : ∀ {vs : List V} {us : List Value}, Vals vs us → (∀ v ∈ vs, ∀ b, v ≠ .byt b) → us.countP (isTx x) = vs.count (.str x)
  | [], _, .nil, _ => rfl
  | v :: vs, _, .cons r t, h => by
    rw [List.countP_cons, List.count_cons, count_rel t (fun w hw => h w (List.mem_cons_of_mem _ hw)), isTx_rel r (h v List.mem_cons_self)]
    by_cases e : v = .str x
    · simp [e]
    · simp [e]
def rCntM (K : PySem.W.Frag) : V → List V → Hp → VK → Prop := fun x xs H Q => ∃ (p : Addr) (ys : List V) (l : Str), x = .ref p ∧ xs = [.str l] ∧ SqL K H p ys ∧ (∀ y ∈ ys, MixV K H y) ∧ Q (.int (ys.count (.str l) : Nat)) H
section
variable {X : Cx} {K : PySem.W.Frag}
theorem mt_countM (hK : X.K = K) (hu : X.A.units + 64 < cLine) : MtR X "list.count" (rCntM K) := by
  subst hK
  intro pins s σ H x xs v us Q I rx rxs h
  obtain ⟨p, ys, l, rfl, rfl, hs, hm, q⟩ := h
  cases rx
  obtain ⟨u, rfl, ru⟩ := rxs.one
  obtain ⟨t, rfl⟩ := ru
  obtain ⟨its, rv, ⟨⟨cls, dd, data, sl⟩, n, ho, hc, hdn, hd⟩, hlen⟩ := I.list hs
  simp only at hc hd
  subst hc hd
  have hin : X.A.in1.units < cLine := by show X.A.units + 1 < cLine; omega
  have hz : ∀ {vs : List V} {us : List Value}, Vals vs us → (∀ y ∈ vs, MixV X.K H y) → ∀ u ∈ us, SeqAt.EqAt X.A.in1 s u (.str l t) (isTx l u) := by
    intro vs us r
    induction r with
    | nil => intro _ u hu; exact (List.not_mem_nil hu).elim
    | @cons v u0 vs us rv _ ih =>
      intro hm u hu
      rcases List.mem_cons.mp hu with rfl | hu
      · rcases hm v List.mem_cons_self with ⟨x, rfl⟩ | rfl | ⟨b, rfl⟩ | ⟨i, rfl⟩ | ⟨a, xs, rfl, hx⟩ | ⟨a, kvs, rfl, hx⟩
        · obtain ⟨t', rfl⟩ := rv
          exact SeqAt.EqAt.str_str x t' l t
        · cases rv
          exact SeqAt.EqAt.none_str l t
        · cases rv
          exact SeqAt.EqAt.bool_str b l t
        · obtain ⟨t', rfl⟩ := rv
          exact SeqAt.EqAt.int_str i t' l t
        · cases rv
          rcases hx with hx | hx
          · obtain ⟨its, _, hl, _⟩ := I.list hx
            exact SeqAt.EqAt.list_str l t hl.isList hin
          · obtain ⟨its, _, hl, _⟩ := I.tuple hx
            exact SeqAt.EqAt.tuple_str l t hl hin
        · cases rv
          obtain ⟨_, _, _, _, o, es, ep, e1, e2, e3, _⟩ := I.hok a _ hx
          exact eqAt_dict_str e1 e2.1 e3 l t hin
      · exact ih (fun y hy => hm y (List.mem_cons_of_mem _ hy)) u hu
  refine call_meets PySem.F.slot_list_count ⟨_, ho, rfl⟩ PySem.F.entry_list_count (PySem.F.args_list_count_2 _ _)
    (SeqAt.list_countAt p its.toArray n dd sl (.str l t) (isTx l)) ⟨ho, fun y hy => hz rv hm y (by simpa using hy), ?_⟩
  have ec : its.toArray.toList.countP (isTx l) = ys.count (.str l) := by
    have : its.toArray.toList = its := by simp
    rw [this]
    refine count_rel rv fun y hy b e => ?_
    rcases hm y hy with ⟨x, h⟩ | h | ⟨c, h⟩ | ⟨i, h⟩ | ⟨a, xs, h, _⟩ | ⟨a, kvs, h, _⟩ <;> rw [e] at h <;> cases h
  refine ⟨.int (ys.count (.str l) : Nat), H, I.tok _, ⟨s.toks, ?_⟩, q⟩
  show Value.int ((its.toArray.toList.countP (isTx l) : Nat) : Int) s.toks = Value.int ((ys.count (.str l) : Nat) : Int) s.toks
  rw [ec]
end
/-! text.count of one sign -/
theorem occ_cnt (l : List Nat) (c : Nat) : ∀ (k i : Nat) (st : Array Nat × Nat), i + k = l.length + 1 → st.2 ≤ i → st.1.size + k ≤ l.length + 1 →
    (forIn (List.range' i k) st (StrLaws.occBody (tx l) (tx [c]) l.length (l.length + 1))).run.fst.size = st.1.size + (l.drop i).count c
  | 0, i, st, h1, h2, h3 => by
    have e : l.drop i = [] := List.drop_eq_nil_of_le (by omega)
    rw [e]
    simp
  | k + 1, i, st, h1, h2, h3 => by
    rw [List.range'_succ, List.forIn_cons]
    unfold StrLaws.occBody
    have hsub : (tx [c]).length = 1 := tx_length [c]
    have hs : (i + (tx [c]).length ≤ (tx l).length ∧ Builtin.Str.subAt (tx l) (tx [c]) i = true) ↔ l[i]? = some c := StrLaws.subAt_one (tx l) c i
    have hl : (tx l).length = l.length := tx_length l
    by_cases hi : i < l.length
    · have hd : l.drop i = l[i] :: l.drop (i + 1) := List.drop_eq_getElem_cons hi
      by_cases hc : l[i] = c
      · have hs' : Builtin.Str.subAt (tx l) (tx [c]) i = true := (hs.mpr (by rw [List.getElem?_eq_getElem hi, hc])).2
        rw [if_pos ⟨⟨⟨by omega, h2⟩, by omega⟩, hs'⟩]
        have ih := occ_cnt l c k (i + 1) (st.1.push i, i + (tx [c]).length) (by omega) (by show i + (tx [c]).length ≤ i + 1; rw [hsub]; exact Nat.le_refl _) (by simp only [Array.size_push]; omega)
        refine Eq.trans ih ?_
        rw [hd, hc]
        simp only [Array.size_push, List.count_cons_self]
        omega
      · have hs' : ¬ Builtin.Str.subAt (tx l) (tx [c]) i = true := fun h => hc (by
          have := hs.mp ⟨by omega, h⟩
          rw [List.getElem?_eq_getElem hi] at this
          exact Option.some.inj this)
        rw [if_neg (fun h => hs' h.2)]
        refine Eq.trans (occ_cnt l c k (i + 1) (st.1, st.2) (by omega) (by show st.2 ≤ i + 1; omega) (by show st.1.size + k ≤ _; omega)) ?_
        rw [hd, List.count_cons_of_ne (fun e => hc e)]
    · rw [if_neg (fun h => by have := h.1.2; omega)]
      refine Eq.trans (occ_cnt l c k (i + 1) (st.1, st.2) (by omega) (by show st.2 ≤ i + 1; omega) (by show st.1.size + k ≤ _; omega)) ?_
      rw [List.drop_eq_nil_of_le (show l.length ≤ i by omega), List.drop_eq_nil_of_le (show l.length ≤ i + 1 by omega)]
theorem count_tx (l : List Nat) (c : Nat) : Txt.count (tx l) (tx [c]) = ((l.count c : Nat) : Int) := by
  unfold Txt.count
  have hl : (tx l).length = l.length := tx_length l
  rw [StrLaws.occ_eq, Array.length_toList, hl]
  have := occ_cnt l c (l.length + 1) 0 (#[], 0) (by omega) (Nat.le_refl _) (by simp)
  rw [Nat.sub_zero, this]
  simp
def rCntS : V → List V → Hp → VK → Prop := fun x xs H Q => ∃ a b, x = .str a ∧ xs = [.str b] ∧ Q (.int (Txt.count a b)) H
theorem mt_countA {X : Cx} : MtR X "str.count" rCntS := mt_count
theorem cnt_s {H : Hp} {Q : VK} {l : List Nat} {c : Nat} (h : Q (.int (l.count c : Nat)) H) : rCntS (.str (tx l)) [.str (tx [c])] H Q := ⟨tx l, tx [c], rfl, rfl, by rw [count_tx]; exact h⟩
theorem clear_l {H : Hp} {Q : VK} {p : Addr} {xs : List V} (h : H p = some (.lst xs)) (q : Q .non (upd H p (.lst []))) : rClear (.ref p) [] H Q := ⟨p, xs, rfl, rfl, h, q⟩
theorem extend_l {H : Hp} {Q : VK} {p b : Addr} {xs zs : List V} (h : H p = some (.lst xs)) (hb : H b = some (.lst zs)) (z : xs.length + zs.length ≤ 100000) (q : Q .non (upd H p (.lst (xs ++ zs)))) : rExtend (.ref p) [.ref b] H Q :=
  ⟨p, b, xs, zs, rfl, rfl, h, hb, Nat.le_trans z (by decide), q⟩
end NW

set_option Elab.async false
set_option linter.all false
set_option maxRecDepth 100000
set_option maxHeartbeats 4000000
namespace K00
open PySem PySem.Spec PyProof.Rows L2 NW
local macro_rules | `(tactic| walk_at "hp") => `(tactic| first
  | assumption
  | exact upd_same
  | (refine upd_keep (by assumption) ?_; walk_at "hp")
  | (refine Same.get (by assumption) ?_; walk_at "hp")
  | (refine upd_oth (by first | assumption | (apply Ne.symm; assumption)) ?_; walk_at "hp"))
local macro_rules | `(tactic| walk_at "sq") => `(tactic| first
  | assumption
  | (refine SqL.of ?_; walk_at "hp")
  | (refine SqT.of ?_; walk_at "hp")
  | (refine Same.seq (by assumption) ?_; walk_at "sq")
  | (refine Same.seq (Same.new (by assumption)) ?_; walk_at "sq"))
local macro_rules | `(tactic| walk_at "rd1") => `(tactic| with_reducible first
  | refine rd_seq ?_ | refine rd_asg ?_ | refine rd_name ?_ | refine rd_ret ?_ | refine rd_drop ?_ | refine rd_next ?_ | refine rd_ifS ?_
  | refine rd_c ?_ | refine rd_op ?_ | refine rd_un ?_ | refine rd_test ?_ | refine rd_B ?_ | refine rd_bl ?_
  | refine rd_not ?_ | refine rd_and ?_ | refine rd_or ?_ | refine rd_andV ?_ | refine rd_orV ?_ | refine rd_notV ?_ | refine rd_blI ?_ | refine rd_if ?_
  | refine rd_nil ?_ | refine rd_cons ?_ | refine rd_cb ?_ | refine rd_sl ?_ | refine rd_none ?_ | refine rd_some ?_ | refine rd_int ?_
  | refine rd_callS ?_ | refine rd_callSD ?_ | refine rd_call ?_ | refine rd_fld ?_ | refine rd_meth ?_ | refine rd_din ?_ | refine rd_dnotin ?_ | refine rd_dget ?_ | refine rd_dput ?_ | refine rd_sfld ?_ | refine rd_make ?_ | refine rd_chain ?_
  | refine rd_step ?_ | refine rd_setl ?_ | refine rd_sub ?_ | refine rd_bm ?_ | refine rd_bm0 ?_ | refine rd_sadd ?_ | refine rd_yes ?_
  | refine rd_tyS ?_ | refine find_s ?_
  | refine rd_bits ?_ | refine rI0_i ?_ | refine rAdd_i ?_ | refine rU_i ?_
  | refine in_sg ?_ | refine notin_sg ?_ | refine abs_i ?_ | refine int_i ?_ | refine int_b ?_)
local macro_rules | `(tactic| walk_at "rdv") => `(tactic| ((with_reducible refine' rd_var ?e ?_); (case e => exact rfl)))
local macro_rules | `(tactic| walk_at "rd") => `(tactic| repeat (first | walk_at "rd1" | walk_at "rdv"))

def topS (i : Nat) : Stmt := PySem.Challenge.pw_nearwish_k00_which_values_make_a_wish.main.body.getD i (.Pass ⟨0, 0, 0, 0⟩)
abbrev s_are_letters : Stmt := topS 5
abbrev N_are_letters : List Str := ["value", "letters", "letter"]
theorem sc_are_letters : FnScope N_are_letters ["value", "letters"] (defScope s_are_letters) := ⟨rfl, rfl, rfl, by decide +kernel, rfl, by decide +kernel, by decide +kernel⟩

abbrev s_are_different : Stmt := topS 11
abbrev N_are_different : List Str := ["value", "letters", "most"]
theorem sc_are_different : FnScope N_are_different ["value", "letters", "most"] (defScope s_are_different) := ⟨rfl, rfl, rfl, by decide +kernel, rfl, by decide +kernel, by decide +kernel⟩

abbrev s_is_pair : Stmt := topS 12
abbrev N_is_pair : List Str := ["value", "given", "said"]
theorem sc_is_pair : FnScope N_is_pair ["value", "given", "said"] (defScope s_is_pair) := ⟨rfl, rfl, rfl, by decide +kernel, rfl, by decide +kernel, by decide +kernel⟩

abbrev s_are_pairs : Stmt := topS 13
abbrev N_are_pairs : List Str := ["value", "given", "said", "seen", "pair"]
theorem sc_are_pairs : FnScope N_are_pairs ["value", "given", "said"] (defScope s_are_pairs) := ⟨rfl, rfl, rfl, by decide +kernel, rfl, by decide +kernel, by decide +kernel⟩

abbrev s_Wish_init : Stmt := inClass (topS 14) 0
abbrev N_Wish_init : List Str := ["self", "given", "said", "pairs"]
theorem sc_Wish_init : FnScope N_Wish_init ["self", "given", "said", "pairs"] (defScope s_Wish_init) := ⟨rfl, rfl, rfl, by decide +kernel, rfl, by decide +kernel, by decide +kernel⟩

abbrev s_Wishfill : Stmt := inClass (topS 14) 1
abbrev N_Wishfill : List Str := ["self", "given", "said", "pairs", "x", "s", "pair", "p", "q"]
theorem sc_Wishfill : FnScope N_Wishfill ["self", "given", "said", "pairs"] (defScope s_Wishfill) := ⟨rfl, rfl, rfl, by decide +kernel, rfl, by decide +kernel, by decide +kernel⟩

abbrev s_Wish_eq : Stmt := inClass (topS 14) 2
abbrev N_Wish_eq : List Str := ["self", "other"]
theorem sc_Wish_eq : FnScope N_Wish_eq ["self", "other"] (defScope s_Wish_eq) := ⟨rfl, rfl, rfl, by decide +kernel, rfl, by decide +kernel, by decide +kernel⟩

abbrev s_Wish_given : Stmt := inClass (topS 14) 3
abbrev N_Wish_given : List Str := ["self"]
theorem sc_Wish_given : FnScope N_Wish_given ["self"] (defScope s_Wish_given) := ⟨rfl, rfl, rfl, by decide +kernel, rfl, by decide +kernel, by decide +kernel⟩

abbrev s_Wish_said : Stmt := inClass (topS 14) 4
abbrev N_Wish_said : List Str := ["self"]
theorem sc_Wish_said : FnScope N_Wish_said ["self"] (defScope s_Wish_said) := ⟨rfl, rfl, rfl, by decide +kernel, rfl, by decide +kernel, by decide +kernel⟩

abbrev s_Wish_cells : Stmt := inClass (topS 14) 5
abbrev N_Wish_cells : List Str := ["self"]
theorem sc_Wish_cells : FnScope N_Wish_cells ["self"] (defScope s_Wish_cells) := ⟨rfl, rfl, rfl, by decide +kernel, rfl, by decide +kernel, by decide +kernel⟩

abbrev s_Wish_pairs : Stmt := inClass (topS 14) 6
abbrev N_Wish_pairs : List Str := ["self"]
theorem sc_Wish_pairs : FnScope N_Wish_pairs ["self"] (defScope s_Wish_pairs) := ⟨rfl, rfl, rfl, by decide +kernel, rfl, by decide +kernel, by decide +kernel⟩

abbrev s_Lhand : Stmt := topS 16
abbrev N_Lhand : List Str := ["_law_script", "_law_cells_here", "_law_cell"]
theorem sc_Lhand : FnScope N_Lhand ["_law_script"] (defScope s_Lhand) := ⟨rfl, rfl, rfl, by decide +kernel, rfl, by decide +kernel, by decide +kernel⟩

abbrev s_Ldraw : Stmt := topS 17
abbrev N_Ldraw : List Str := ["_law_hand_here", "_law_many", "_law_cell", "_law_digit", "_law_number"]
theorem sc_Ldraw : FnScope N_Ldraw ["_law_hand_here", "_law_many"] (defScope s_Ldraw) := ⟨rfl, rfl, rfl, by decide +kernel, rfl, by decide +kernel, by decide +kernel⟩

abbrev s_Lletters : Stmt := topS 18
abbrev N_Lletters : List Str := ["_law_hand_here", "_law_signs", "_law_many", "_law_rest", "_law_found", "_law_turn", "_law_at"]
theorem sc_Lletters : FnScope N_Lletters ["_law_hand_here", "_law_signs", "_law_many"] (defScope s_Lletters) := ⟨rfl, rfl, rfl, by decide +kernel, rfl, by decide +kernel, by decide +kernel⟩

abbrev s_Lcells : Stmt := topS 19
abbrev N_Lcells : List Str := ["_law_given", "_law_said", "_law_cells_here", "_law_letter", "_law_word"]
theorem sc_Lcells : FnScope N_Lcells ["_law_given", "_law_said"] (defScope s_Lcells) := ⟨rfl, rfl, rfl, by decide +kernel, rfl, by decide +kernel, by decide +kernel⟩

abbrev s_Lfits : Stmt := topS 20
abbrev N_Lfits : List Str := ["_law_kind", "_law_given", "_law_said", "_law_one", "_law_other", "_law_first", "_law_second", "_law_last", "_law_ends"]
theorem sc_Lfits : FnScope N_Lfits ["_law_kind", "_law_given", "_law_said", "_law_one", "_law_other"] (defScope s_Lfits) := ⟨rfl, rfl, rfl, by decide +kernel, rfl, by decide +kernel, by decide +kernel⟩

abbrev s_Lpairs : Stmt := topS 21
abbrev N_Lpairs : List Str := ["_law_hand_here", "_law_given", "_law_said", "_law_kind", "_law_share", "_law_cells_here", "_law_pairs_here", "_law_one", "_law_other", "_law_fits_here"]
theorem sc_Lpairs : FnScope N_Lpairs ["_law_hand_here", "_law_given", "_law_said"] (defScope s_Lpairs) := ⟨rfl, rfl, rfl, by decide +kernel, rfl, by decide +kernel, by decide +kernel⟩

abbrev s_Lvalue : Stmt := topS 22
abbrev N_Lvalue : List Str := ["_law_hand_here", "_law_kind"]
theorem sc_Lvalue : FnScope N_Lvalue ["_law_hand_here"] (defScope s_Lvalue) := ⟨rfl, rfl, rfl, by decide +kernel, rfl, by decide +kernel, by decide +kernel⟩

abbrev s_Lspoiled_letters : Stmt := topS 23
abbrev N_Lspoiled_letters : List Str := ["_law_hand_here", "_law_letters_here", "_law_others", "_law_kind", "_law_at"]
theorem sc_Lspoiled_letters : FnScope N_Lspoiled_letters ["_law_hand_here", "_law_letters_here", "_law_others"] (defScope s_Lspoiled_letters) := ⟨rfl, rfl, rfl, by decide +kernel, rfl, by decide +kernel, by decide +kernel⟩

abbrev s_Lspoiled_pair : Stmt := topS 24
abbrev N_Lspoiled_pair : List Str := ["_law_hand_here", "_law_pair", "_law_kind"]
theorem sc_Lspoiled_pair : FnScope N_Lspoiled_pair ["_law_hand_here", "_law_pair"] (defScope s_Lspoiled_pair) := ⟨rfl, rfl, rfl, by decide +kernel, rfl, by decide +kernel, by decide +kernel⟩

abbrev s_Lspoiled_pairs : Stmt := topS 25
abbrev N_Lspoiled_pairs : List Str := ["_law_hand_here", "_law_pairs_here", "_law_kind", "_law_at", "_law_pair"]
theorem sc_Lspoiled_pairs : FnScope N_Lspoiled_pairs ["_law_hand_here", "_law_pairs_here"] (defScope s_Lspoiled_pairs) := ⟨rfl, rfl, rfl, by decide +kernel, rfl, by decide +kernel, by decide +kernel⟩

abbrev s_Lis_choice : Stmt := topS 26
abbrev N_Lis_choice : List Str := ["_law_thing", "_law_signs", "_law_most", "_law_sign"]
theorem sc_Lis_choice : FnScope N_Lis_choice ["_law_thing", "_law_signs", "_law_most"] (defScope s_Lis_choice) := ⟨rfl, rfl, rfl, by decide +kernel, rfl, by decide +kernel, by decide +kernel⟩

abbrev s_Lare_pairs : Stmt := topS 27
abbrev N_Lare_pairs : List Str := ["_law_thing", "_law_given", "_law_said", "_law_pair", "_law_place"]
theorem sc_Lare_pairs : FnScope N_Lare_pairs ["_law_thing", "_law_given", "_law_said"] (defScope s_Lare_pairs) := ⟨rfl, rfl, rfl, by decide +kernel, rfl, by decide +kernel, by decide +kernel⟩

abbrev s_Ldue : Stmt := topS 28
abbrev N_Ldue : List Str := ["_law_given", "_law_said", "_law_pairs_here"]
theorem sc_Ldue : FnScope N_Ldue ["_law_given", "_law_said", "_law_pairs_here"] (defScope s_Ldue) := ⟨rfl, rfl, rfl, by decide +kernel, rfl, by decide +kernel, by decide +kernel⟩

abbrev s_Lmade : Stmt := topS 29
abbrev N_Lmade : List Str := ["_law_given", "_law_said", "_law_pairs_here", "_law_found", "e"]
theorem sc_Lmade : FnScope N_Lmade ["_law_given", "_law_said", "_law_pairs_here"] (defScope s_Lmade) := ⟨rfl, rfl, rfl, by decide +kernel, rfl, by decide +kernel, by decide +kernel⟩

abbrev s_law : Stmt := topS 30
abbrev N_law : List Str := ["_law_script", "_law_hand_here", "_law_which", "_law_given", "_law_said", "_law_pairs_here", "_law_due_here", "_law_way", "_law_told", "_law_kept"]
theorem sc_law : FnScope N_law ["_law_script"] (defScope s_law) := ⟨rfl, rfl, rfl, by decide +kernel, rfl, by decide +kernel, by decide +kernel⟩

abbrev s_NoWish_init : Stmt := inClass (topS 3) 0
theorem nsc_NoWish : NdefX.NScope ["self", "part", "__class__"] ["self", "part"] ["__class__"] (defScope s_NoWish_init) := NdefX.nscope_by (by decide +kernel)

structure Txt (K : PySem.W.Frag) (mg : Str → Option Value) where
  b_ValueError : mg "ValueError" = none
  b_abs : mg "abs" = none
  b_all : mg "all" = none
  b_int : mg "int" = none
  b_isinstance : mg "isinstance" = none
  b_len : mg "len" = none
  b_list : mg "list" = none
  b_range : mg "range" = none
  b_set : mg "set" = none
  b_sorted : mg "sorted" = none
  b_str : mg "str" = none
  b_tuple : mg "tuple" = none
  tk_GIVEN_LETTERS : Tok
  mg_GIVEN_LETTERS : mg "GIVEN_LETTERS" = some (.str "abcdefghijklmnopqrstuvwxyz" tk_GIVEN_LETTERS)
  tk_SAID_LETTERS : Tok
  mg_SAID_LETTERS : mg "SAID_LETTERS" = some (.str "ABCDEFGHIJKLMNOPQRSTUVWXYZ" tk_SAID_LETTERS)
  tk_MOST_GIVEN : Tok
  mg_MOST_GIVEN : mg "MOST_GIVEN" = some (.int 3 tk_MOST_GIVEN)
  tk_MOST_SAID : Tok
  mg_MOST_SAID : mg "MOST_SAID" = some (.int 4 tk_MOST_SAID)
  C_Wish : Addr
  cl_Wish : Cls K C_Wish
  mg_Wish : mg "Wish" = some (.ref C_Wish)
  oq_cl_Wish : PySem.W.findIn K (.ref C_Wish) "__class__" = some (some (.builtin "object.__class__"))
  oq_gt_Wish : PySem.W.specialIn K (.builtin "object.__class__") "__get__" = some (some (.builtin "getset_descriptor.__get__"))
  oq_tk_Wish : PySem.W.takesIn K (.builtin "object.__class__") = some true
  oq_mr_Wish : PySem.W.mroIn K C_Wish (.type "object") = some true
  na_Wish_given : NoAttr K C_Wish "_given"
  na_Wish_said : NoAttr K C_Wish "_said"
  na_Wish_cells : NoAttr K C_Wish "_cells"
  na_Wish_allowed : NoAttr K C_Wish "_allowed"
  na_Wish_pairs : NoAttr K C_Wish "_pairs"
  na_Wish_kept : NoAttr K C_Wish "_kept"
  f_are_letters : Addr
  fd_are_letters : FuncData
  F_are_letters : Fun K "are_letters" "are_letters" s_are_letters f_are_letters fd_are_letters
  bd_are_letters : Binds K fd_are_letters ["value", "letters"] []
  mg_are_letters : mg "are_letters" = some (.ref f_are_letters)
  kp_are_letters : PySem.W.keepIn K (.ref f_are_letters) = true
  f_are_different : Addr
  fd_are_different : FuncData
  F_are_different : Fun K "are_different" "are_different" s_are_different f_are_different fd_are_different
  bd_are_different : Binds K fd_are_different ["value", "letters", "most"] []
  mg_are_different : mg "are_different" = some (.ref f_are_different)
  kp_are_different : PySem.W.keepIn K (.ref f_are_different) = true
  f_is_pair : Addr
  fd_is_pair : FuncData
  F_is_pair : Fun K "_is_pair" "_is_pair" s_is_pair f_is_pair fd_is_pair
  bd_is_pair : Binds K fd_is_pair ["value", "given", "said"] []
  mg_is_pair : mg "_is_pair" = some (.ref f_is_pair)
  kp_is_pair : PySem.W.keepIn K (.ref f_is_pair) = true
  f_are_pairs : Addr
  fd_are_pairs : FuncData
  F_are_pairs : Fun K "are_pairs" "are_pairs" s_are_pairs f_are_pairs fd_are_pairs
  bd_are_pairs : Binds K fd_are_pairs ["value", "given", "said"] []
  mg_are_pairs : mg "are_pairs" = some (.ref f_are_pairs)
  kp_are_pairs : PySem.W.keepIn K (.ref f_are_pairs) = true
  f_Wish_init : Addr
  fd_Wish_init : FuncData
  F_Wish_init : Fun K "__init__" "Wish.__init__" s_Wish_init f_Wish_init fd_Wish_init
  bd_Wish_init : Binds K fd_Wish_init ["self", "given", "said", "pairs"] []
  mk_Wish : Mk K C_Wish f_Wish_init
  f_Wishfill : Addr
  fd_Wishfill : FuncData
  F_Wishfill : Fun K "_fill" "Wish._fill" s_Wishfill f_Wishfill fd_Wishfill
  bd_Wishfill : Binds K fd_Wishfill ["self", "given", "said", "pairs"] []
  mt_Wishfill : Meth K C_Wish "_fill" f_Wishfill
  f_Wish_eq : Addr
  fd_Wish_eq : FuncData
  F_Wish_eq : Fun K "__eq__" "Wish.__eq__" s_Wish_eq f_Wish_eq fd_Wish_eq
  bd_Wish_eq : Binds K fd_Wish_eq ["self", "other"] []
  mt_Wish_eq : Meth K C_Wish "__eq__" f_Wish_eq
  f_Wish_given : Addr
  fd_Wish_given : FuncData
  F_Wish_given : Fun K "given" "Wish.given" s_Wish_given f_Wish_given fd_Wish_given
  bd_Wish_given : Binds K fd_Wish_given ["self"] []
  mt_Wish_given : Meth K C_Wish "given" f_Wish_given
  f_Wish_said : Addr
  fd_Wish_said : FuncData
  F_Wish_said : Fun K "said" "Wish.said" s_Wish_said f_Wish_said fd_Wish_said
  bd_Wish_said : Binds K fd_Wish_said ["self"] []
  mt_Wish_said : Meth K C_Wish "said" f_Wish_said
  f_Wish_cells : Addr
  fd_Wish_cells : FuncData
  F_Wish_cells : Fun K "cells" "Wish.cells" s_Wish_cells f_Wish_cells fd_Wish_cells
  f_Wish_pairs : Addr
  fd_Wish_pairs : FuncData
  F_Wish_pairs : Fun K "pairs" "Wish.pairs" s_Wish_pairs f_Wish_pairs fd_Wish_pairs
  bd_Wish_pairs : Binds K fd_Wish_pairs ["self"] []
  mt_Wish_pairs : Meth K C_Wish "pairs" f_Wish_pairs
  f_Lhand : Addr
  fd_Lhand : FuncData
  F_Lhand : Fun K "_law_hand" "_law_hand" s_Lhand f_Lhand fd_Lhand
  bd_Lhand : Binds K fd_Lhand ["_law_script"] []
  mg_Lhand : mg "_law_hand" = some (.ref f_Lhand)
  kp_Lhand : PySem.W.keepIn K (.ref f_Lhand) = true
  f_Ldraw : Addr
  fd_Ldraw : FuncData
  F_Ldraw : Fun K "_law_draw" "_law_draw" s_Ldraw f_Ldraw fd_Ldraw
  bd_Ldraw : Binds K fd_Ldraw ["_law_hand_here", "_law_many"] []
  mg_Ldraw : mg "_law_draw" = some (.ref f_Ldraw)
  kp_Ldraw : PySem.W.keepIn K (.ref f_Ldraw) = true
  f_Lletters : Addr
  fd_Lletters : FuncData
  F_Lletters : Fun K "_law_letters" "_law_letters" s_Lletters f_Lletters fd_Lletters
  bd_Lletters : Binds K fd_Lletters ["_law_hand_here", "_law_signs", "_law_many"] []
  mg_Lletters : mg "_law_letters" = some (.ref f_Lletters)
  kp_Lletters : PySem.W.keepIn K (.ref f_Lletters) = true
  f_Lcells : Addr
  fd_Lcells : FuncData
  F_Lcells : Fun K "_law_cells" "_law_cells" s_Lcells f_Lcells fd_Lcells
  bd_Lcells : Binds K fd_Lcells ["_law_given", "_law_said"] []
  mg_Lcells : mg "_law_cells" = some (.ref f_Lcells)
  kp_Lcells : PySem.W.keepIn K (.ref f_Lcells) = true
  f_Lfits : Addr
  fd_Lfits : FuncData
  F_Lfits : Fun K "_law_fits" "_law_fits" s_Lfits f_Lfits fd_Lfits
  bd_Lfits : Binds K fd_Lfits ["_law_kind", "_law_given", "_law_said", "_law_one", "_law_other"] []
  mg_Lfits : mg "_law_fits" = some (.ref f_Lfits)
  kp_Lfits : PySem.W.keepIn K (.ref f_Lfits) = true
  f_Lpairs : Addr
  fd_Lpairs : FuncData
  F_Lpairs : Fun K "_law_pairs" "_law_pairs" s_Lpairs f_Lpairs fd_Lpairs
  bd_Lpairs : Binds K fd_Lpairs ["_law_hand_here", "_law_given", "_law_said"] []
  mg_Lpairs : mg "_law_pairs" = some (.ref f_Lpairs)
  kp_Lpairs : PySem.W.keepIn K (.ref f_Lpairs) = true
  f_Lvalue : Addr
  fd_Lvalue : FuncData
  F_Lvalue : Fun K "_law_value" "_law_value" s_Lvalue f_Lvalue fd_Lvalue
  bd_Lvalue : Binds K fd_Lvalue ["_law_hand_here"] []
  mg_Lvalue : mg "_law_value" = some (.ref f_Lvalue)
  kp_Lvalue : PySem.W.keepIn K (.ref f_Lvalue) = true
  f_Lspoiled_letters : Addr
  fd_Lspoiled_letters : FuncData
  F_Lspoiled_letters : Fun K "_law_spoiled_letters" "_law_spoiled_letters" s_Lspoiled_letters f_Lspoiled_letters fd_Lspoiled_letters
  bd_Lspoiled_letters : Binds K fd_Lspoiled_letters ["_law_hand_here", "_law_letters_here", "_law_others"] []
  mg_Lspoiled_letters : mg "_law_spoiled_letters" = some (.ref f_Lspoiled_letters)
  kp_Lspoiled_letters : PySem.W.keepIn K (.ref f_Lspoiled_letters) = true
  f_Lspoiled_pair : Addr
  fd_Lspoiled_pair : FuncData
  F_Lspoiled_pair : Fun K "_law_spoiled_pair" "_law_spoiled_pair" s_Lspoiled_pair f_Lspoiled_pair fd_Lspoiled_pair
  bd_Lspoiled_pair : Binds K fd_Lspoiled_pair ["_law_hand_here", "_law_pair"] []
  mg_Lspoiled_pair : mg "_law_spoiled_pair" = some (.ref f_Lspoiled_pair)
  kp_Lspoiled_pair : PySem.W.keepIn K (.ref f_Lspoiled_pair) = true
  f_Lspoiled_pairs : Addr
  fd_Lspoiled_pairs : FuncData
  F_Lspoiled_pairs : Fun K "_law_spoiled_pairs" "_law_spoiled_pairs" s_Lspoiled_pairs f_Lspoiled_pairs fd_Lspoiled_pairs
  bd_Lspoiled_pairs : Binds K fd_Lspoiled_pairs ["_law_hand_here", "_law_pairs_here"] []
  mg_Lspoiled_pairs : mg "_law_spoiled_pairs" = some (.ref f_Lspoiled_pairs)
  kp_Lspoiled_pairs : PySem.W.keepIn K (.ref f_Lspoiled_pairs) = true
  f_Lis_choice : Addr
  fd_Lis_choice : FuncData
  F_Lis_choice : Fun K "_law_is_choice" "_law_is_choice" s_Lis_choice f_Lis_choice fd_Lis_choice
  bd_Lis_choice : Binds K fd_Lis_choice ["_law_thing", "_law_signs", "_law_most"] []
  mg_Lis_choice : mg "_law_is_choice" = some (.ref f_Lis_choice)
  kp_Lis_choice : PySem.W.keepIn K (.ref f_Lis_choice) = true
  f_Lare_pairs : Addr
  fd_Lare_pairs : FuncData
  F_Lare_pairs : Fun K "_law_are_pairs" "_law_are_pairs" s_Lare_pairs f_Lare_pairs fd_Lare_pairs
  bd_Lare_pairs : Binds K fd_Lare_pairs ["_law_thing", "_law_given", "_law_said"] []
  mg_Lare_pairs : mg "_law_are_pairs" = some (.ref f_Lare_pairs)
  kp_Lare_pairs : PySem.W.keepIn K (.ref f_Lare_pairs) = true
  f_Ldue : Addr
  fd_Ldue : FuncData
  F_Ldue : Fun K "_law_due" "_law_due" s_Ldue f_Ldue fd_Ldue
  bd_Ldue : Binds K fd_Ldue ["_law_given", "_law_said", "_law_pairs_here"] []
  mg_Ldue : mg "_law_due" = some (.ref f_Ldue)
  kp_Ldue : PySem.W.keepIn K (.ref f_Ldue) = true
  f_Lmade : Addr
  fd_Lmade : FuncData
  F_Lmade : Fun K "_law_made" "_law_made" s_Lmade f_Lmade fd_Lmade
  bd_Lmade : Binds K fd_Lmade ["_law_given", "_law_said", "_law_pairs_here"] []
  mg_Lmade : mg "_law_made" = some (.ref f_Lmade)
  kp_Lmade : PySem.W.keepIn K (.ref f_Lmade) = true
  f_law : Addr
  fd_law : FuncData
  F_law : Fun K "law" "law" s_law f_law fd_law
  X_NoWish : Addr
  mg_NoWish : mg "NoWish" = some (.ref X_NoWish)
  X_NearError : Addr
  mg_NearError : mg "NearError" = some (.ref X_NearError)
  f_NoWish_init : Addr
  fd_NoWish_init : FuncData
  sup_NoWish : NW.SupC K "__init__" "NoWish.__init__" (defArgs s_NoWish_init) (defBody s_NoWish_init) (defScope s_NoWish_init) X_NoWish f_NoWish_init fd_NoWish_init
  bd_NoWish_init : Binds K fd_NoWish_init ["self", "part"] []
  ii_NoWish : PySem.W.findIn K (.ref X_NoWish) "__init__" = some (some (.ref f_NoWish_init))
  ti_NoWish : PySem.W.typeIn K (.ref f_NoWish_init) = some (.type "function")
  fo_NoWish : PySem.W.findIn K (.ref X_NoWish) "part" = some none
  ec_NoWish : ExcC K X_NoWish
  ki_NoWish_NearError : PySem.W.kitOne K (.ref X_NoWish) (.ref X_NearError) = some true
  xm_NoWish_NoWish : PySem.W.exmOne K (.ref X_NoWish) (.ref X_NoWish) = some true

/-! ### a Wish as it stands -/
def cellsOf (gv sd : List Nat) : List (List Nat) := gv.flatMap fun x => sd.map fun s => [x, s]
def pairsOf (gv sd : List Nat) (ps : List (List Nat)) : List (List Nat) := (cellsOf gv sd).flatMap fun p => ((cellsOf gv sd).filter fun q => decide (p ++ q ∈ ps)).map fun q => p ++ q
def wf (gv sd : List Nat) (cl al pl kd : Addr) : List (Str × V) := [("_given", .str (tx gv)), ("_said", .str (tx sd)), ("_cells", .ref cl), ("_allowed", .ref al), ("_pairs", .ref pl), ("_kept", .ref kd)]
structure WishAt (C : Addr) (H : Hp) (w : Addr) (gv sd : List Nat) (ps : List (List Nat)) (cl al pl : Addr) : Prop where
  ob : ∃ dx kd, H w = some (.ins C dx (wf gv sd cl al pl kd))
  ce : H cl = some (.lst ((cellsOf gv sd).map fun c => .str (tx c)))
  al : H al = some (.dK (ps.map fun p => (.inr (tx p), .bl true)))
  pr : H pl = some (.lst ((pairsOf gv sd ps).map fun c => .str (tx c)))
def IsWish (C : Addr) (H : Hp) (w : Addr) (gv sd : List Nat) (ps : List (List Nat)) : Prop := ∃ cl al pl, WishAt C H w gv sd ps cl al pl
theorem IsWish.mono {C : Addr} {H H' : Hp} {w : Addr} {gv sd : List Nat} {ps : List (List Nat)} (h : IsWish C H w gv sd ps) (s : Same H H') : IsWish C H' w gv sd ps := by
  obtain ⟨cl, al, pl, ⟨dx, kd, h1⟩, h2, h3, h4⟩ := h
  exact ⟨cl, al, pl, ⟨dx, kd, s _ _ h1⟩, s _ _ h2, s _ _ h3, s _ _ h4⟩
theorem lk_hit {k : Str} {v : V} {r : List (Str × V)} : List.lookup k ((k, v) :: r) = some v := by
  show (match k == k with | true => some v | false => List.lookup k r) = some v
  rw [beq_self_eq_true]
theorem lk_miss {k j : Str} {v : V} {r : List (Str × V)} (h : ¬ k = j) : List.lookup k ((j, v) :: r) = List.lookup k r := by
  show (match k == j with | true => some v | false => List.lookup k r) = _
  rw [beq_eq_false_iff_ne.mpr h]
theorem put_hit {k : Str} {v x : V} {r : List (Str × V)} : putF k v ((k, x) :: r) = (k, v) :: r := by
  show (if k = k then _ else _) = _
  rw [if_pos rfl]
theorem put_miss {k j : Str} {v x : V} {r : List (Str × V)} (h : ¬ j = k) : putF k v ((j, x) :: r) = (j, x) :: putF k v r := by
  show (if j = k then _ else _) = _
  rw [if_neg h]
theorem put_nil {k : Str} {v : V} : putF k v [] = [(k, v)] := rfl
section
variable {gv sd : List Nat} {cl al pl kd : Addr}
theorem wf_given : (wf gv sd cl al pl kd).lookup ("_given" : Str) = some (.str (tx gv)) := lk_hit
theorem wf_said : (wf gv sd cl al pl kd).lookup ("_said" : Str) = some (.str (tx sd)) := (lk_miss (by decide +kernel)).trans lk_hit
theorem wf_cells : (wf gv sd cl al pl kd).lookup ("_cells" : Str) = some (.ref cl) := (lk_miss (by decide +kernel)).trans ((lk_miss (by decide +kernel)).trans lk_hit)
theorem wf_allowed : (wf gv sd cl al pl kd).lookup ("_allowed" : Str) = some (.ref al) := (lk_miss (by decide +kernel)).trans ((lk_miss (by decide +kernel)).trans ((lk_miss (by decide +kernel)).trans lk_hit))
theorem wf_pairs : (wf gv sd cl al pl kd).lookup ("_pairs" : Str) = some (.ref pl) := (lk_miss (by decide +kernel)).trans ((lk_miss (by decide +kernel)).trans ((lk_miss (by decide +kernel)).trans ((lk_miss (by decide +kernel)).trans lk_hit)))
theorem wf_kept : (wf gv sd cl al pl kd).lookup ("_kept" : Str) = some (.ref kd) := (lk_miss (by decide +kernel)).trans ((lk_miss (by decide +kernel)).trans ((lk_miss (by decide +kernel)).trans ((lk_miss (by decide +kernel)).trans ((lk_miss (by decide +kernel)).trans lk_hit))))
theorem wf_no {m : Str} (h1 : ¬ m = "_given") (h2 : ¬ m = "_said") (h3 : ¬ m = "_cells") (h4 : ¬ m = "_allowed") (h5 : ¬ m = "_pairs") (h6 : ¬ m = "_kept") : (wf gv sd cl al pl kd).lookup m = none :=
  (lk_miss h1).trans ((lk_miss h2).trans ((lk_miss h3).trans ((lk_miss h4).trans ((lk_miss h5).trans ((lk_miss h6).trans rfl)))))
end
theorem val_pairs (ps : List (List Nat)) (p : List Nat) : (valV (ps.map fun p => ((Sum.inr (tx p) : Key), V.bl true)) (Sum.inr (tx p))).isSome = decide (p ∈ ps) := by
  induction ps with
  | nil => rfl
  | cons q r ih =>
    unfold valV at ih ⊢
    rw [List.map_cons, List.find?_cons]
    by_cases h : q = p
    · subst h
      simp
    · have h1 : ¬ ((Sum.inr (tx q) : Key) = Sum.inr (tx p)) := fun e => h (tx_inj (Sum.inr.inj e))
      rw [decide_eq_false h1]
      show (Option.map _ (List.find? _ _)).isSome = _
      rw [ih]
      have h2 : (p ∈ q :: r) ↔ p ∈ r := by
        rw [List.mem_cons]
        exact ⟨fun x => x.resolve_left fun e => h e.symm, Or.inr⟩
      by_cases h3 : p ∈ r
      · rw [decide_eq_true h3, decide_eq_true (h2.mpr h3)]
      · rw [decide_eq_false h3, decide_eq_false fun x => h3 (h2.mp x)]

section
variable {P : Program} [NW.SupP P] {w : World} {K : PySem.W.Frag} {mg : Str → Option Value} {base : Heap}
/-! ### the methods that hand out -/
def sp_given (C : Addr) : Sp := fun vs H Q _ => ∃ a gv sd ps, vs = [.ref a] ∧ IsWish C H a gv sd ps ∧ Q (.str (tx gv)) H
theorem ok_Wish_given (T : Txt K mg) : FnOk P w K mg base (L2.CX P w) 1 T.f_Wish_given T.fd_Wish_given ["self"] (sp_given T.C_Wish) := by
  refine T.F_Wish_given.okX sc_Wish_given (fun vs H Q E h => ?_) (fun cdv A outer s H vs Q E hr h => ?_)
  · obtain ⟨_, _, _, _, rfl, _⟩ := h
    rfl
  · obtain ⟨a, gv, sd, ps, rfl, ⟨cl, al, pl, ⟨dx, kd, h1⟩, _⟩, k⟩ := h
    refine ⟨_, (pss_one (ps_ret (pe_fldK (K := K) rfl (pv 0) rfl))), ?_⟩
    walk_at "rd"
    exact ⟨a, T.C_Wish, dx, _, _, rfl, h1, T.cl_Wish, T.na_Wish_given, wf_given, k⟩
def sp_said (C : Addr) : Sp := fun vs H Q _ => ∃ a gv sd ps, vs = [.ref a] ∧ IsWish C H a gv sd ps ∧ Q (.str (tx sd)) H
theorem ok_Wish_said (T : Txt K mg) : FnOk P w K mg base (L2.CX P w) 1 T.f_Wish_said T.fd_Wish_said ["self"] (sp_said T.C_Wish) := by
  refine T.F_Wish_said.okX sc_Wish_said (fun vs H Q E h => ?_) (fun cdv A outer s H vs Q E hr h => ?_)
  · obtain ⟨_, _, _, _, rfl, _⟩ := h
    rfl
  · obtain ⟨a, gv, sd, ps, rfl, ⟨cl, al, pl, ⟨dx, kd, h1⟩, _⟩, k⟩ := h
    refine ⟨_, (pss_one (ps_ret (pe_fldK (K := K) rfl (pv 0) rfl))), ?_⟩
    walk_at "rd"
    exact ⟨a, T.C_Wish, dx, _, _, rfl, h1, T.cl_Wish, T.na_Wish_said, wf_said, k⟩
end

section
variable {P : Program} [NW.SupP P] {w : World} {K : PySem.W.Frag} {mg : Str → Option Value} {base : Heap}
/-- what is no text -/
def NoText (K : PySem.W.Frag) (H : Hp) (v : V) : Prop := ∃ t, TyX K H v t ∧ PySem.W.kitOne K t (.type "str") = some false
def sp_are_letters (K : PySem.W.Frag) : Sp := fun vs H Q _ => ∃ v L, vs = [v, .str (tx L)] ∧
  ((∃ l, v = .str (tx l) ∧ l.length ≤ 40000 ∧ ∀ H', Same H H' → Q (.bl (l.all fun c => decide (c ∈ L))) H') ∨ (NoText K H v ∧ Q (.bl false) H))
theorem ok_are_letters (T : Txt K mg) : FnOk P w K mg base (L2.CX P w) 1 T.f_are_letters T.fd_are_letters ["value", "letters"] (sp_are_letters K) := by
  refine T.F_are_letters.okX sc_are_letters (fun vs H Q E h => ?_) (fun cdv A outer s H vs Q E hr h => ?_)
  · obtain ⟨_, _, rfl, _⟩ := h
    rfl
  · obtain ⟨v, L, rfl, h⟩ := h
    refine ⟨_, (pss_one (ps_ret (pe_and (pe_callB (call_isiK1 (K := K) rfl) (by rfl) T.b_isinstance boot_isinstance (pa_cons (pv 0) (pa_cons (pe_bltn (v := .ty "str") rfl T.b_str boot_str rfl) pa_nil))) (pe_one (pe_callB (cr_allK (K := K) rfl rfl) (by rfl) T.b_all (by decide +kernel) (pa_cons (pe_lc (own := [("letter", 2)]) rfl sc_are_letters.nd (pi_str (pv 0)) (blkOk_by (N := N_are_letters) (sc := defScope s_are_letters) (by decide +kernel))
   (fun _ _ _ _ _ => (pg_name (i := 2) sc_are_letters.nd rfl (by first | exact Or.inl rfl | exact Or.inr rfl))) (fun _ _ _ _ _ => pts_nil) (fun _ _ _ _ _ => (pe_cmpR op_inSg (pv 2) (pv 1) (by with_unfolding_all rfl)))) pa_nil)))))), ?_⟩
    walk_at "rd"
    rcases h with ⟨l, rfl, hz, k⟩ | ⟨⟨t, ht, hk⟩, k⟩
    · refine ⟨_, _, _, _, true, rfl, .ty "str", .base (.str _), kit_ty (by decide +kernel), ?_⟩
      walk_at "rd"
      refine iteT ?_
      walk_at "rd"
      refine rd_L (el_lcS (l := l) (fun _ => true) (fun c => .bl (decide (c ∈ L))) (Evl.ev_var rfl) hz (fun _ => rfl) (fun _ _ _ _ => ev_yes) (fun c _ H1 _ _ H2 e2 Q q => ?_)) fun p H1 hp hs hl => ?_
      · walk_at "rd"
        exact q H2 (Evl.Ex.refl _)
      · walk_at "rd"
        refine ⟨p, l.map fun c => decide (c ∈ L), rfl, SqL.of ?_, ?_⟩
        · rw [hl, List.filter_eq_self.mpr (fun _ _ => rfl), List.map_map]
          rfl
        · have e : (l.map fun c => decide (c ∈ L)).all id = l.all fun c => decide (c ∈ L) := by rw [List.all_map]; rfl
          rw [e]
          exact k H1 hs
    · refine ⟨_, _, _, _, false, rfl, .ty "str", ht, hk, ?_⟩
      walk_at "rd"
      exact iteF k
end

theorem ok_NoWish_init {P : Program} [NW.SupP P] {w : World} {K : PySem.W.Frag} {mg : Str → Option Value} {base : Heap} (T : Txt K mg) : FnOk P w K mg base (L2.CX P w) 1 T.f_NoWish_init T.fd_NoWish_init ["self", "part"] (NW.sp_supinit T.X_NoWish "part") :=
  NW.fn_super T.sup_NoWish rfl (fun _ => rfl) rfl rfl nsc_NoWish (by decide +kernel) T.fo_NoWish


section
variable {P : Program} [NW.SupP P] {w : World} {K : PySem.W.Frag} {mg : Str → Option Value} {base : Heap}
/-- a ring of the given letters; an answer of so many said letters -/
def RingOf (gv l : List Nat) : Prop := l ≠ [] ∧ ∀ c ∈ l, c ∈ gv
instance (gv l : List Nat) : Decidable (RingOf gv l) := by unfold RingOf; exact inferInstance
def AnsOf (sd l m : List Nat) : Prop := m.length = l.length ∧ ∀ c ∈ m, c ∈ sd
instance (sd l m : List Nat) : Decidable (AnsOf sd l m) := by unfold AnsOf; exact inferInstance
theorem all_iff (l L : List Nat) : (l.all fun c => decide (c ∈ L)) = true ↔ ∀ c ∈ l, c ∈ L := by simp
end

section
variable {P : Program} [NW.SupP P] {w : World} {K : PySem.W.Frag} {mg : Str → Option Value} {base : Heap}
theorem NoText.mono {H H' : Hp} {v : V} (h : NoText K H v) (s : Same H H') : NoText K H' v := by
  obtain ⟨t, ht, hk⟩ := h
  refine ⟨t, ?_, hk⟩
  cases ht with
  | base b =>
    cases b with
    | non => exact .base .non
    | bl y => exact .base (.bl y)
    | int i => exact .base (.int i)
    | str y => exact .base (.str y)
    | flt y => exact .base (.flt y)
    | lst e => exact .base (.lst (s _ _ e))
    | frz e => exact .base (.frz (s _ _ e))
    | tup e => exact .base (.tup (s _ _ e))
    | dK e => exact .base (.dK (s _ _ e))
    | dT e => exact .base (.dT (s _ _ e))
    | ins e c h1 h2 h3 h4 => exact .base (.ins (s _ _ e) c h1 h2 h3 h4)
  | byt b => exact .byt b
  | set e => exact .set (s _ _ e)
  | kList e c => exact .kList e c
  | kTuple e c => exact .kTuple e c
  | kDict e c => exact .kDict e c
  | fTuple e => exact .fTuple (s _ _ e)
  | fDict e => exact .fDict (s _ _ e)
end

section
variable {P : Program} [NW.SupP P] {w : World} {K : PySem.W.Frag} {mg : Str → Option Value} {base : Heap}
theorem dif_nodup (l : List Nat) : dif (fun i => l.getD i 0) l.length = l.length ↔ l.Nodup := by
  have key : ∀ i, i ≤ l.length → (dif (fun i => l.getD i 0) i = i ↔ (l.take i).Nodup) := by
    intro i
    induction i with
    | zero => intro _; simp [dif]
    | succ i ih =>
      intro hi
      have ih := ih (by omega)
      have hle := dif_le (fun i => l.getD i 0) i
      have hg : l[i]? = some (l.getD i 0) := by simp [List.getD, List.getElem?_eq_getElem (show i < l.length by omega)]
      rw [take_succ_get hg, List.nodup_append]
      have hmem : ((List.range i).any (fun j => l.getD j 0 == l.getD i 0)) = true ↔ l.getD i 0 ∈ l.take i := by
        rw [List.any_eq_true]
        constructor
        · rintro ⟨j, hj, he⟩
          have hj' : j < i := List.mem_range.mp hj
          rw [← beq_iff_eq.mp he]
          have : (l.take i)[j]? = some (l.getD j 0) := by
            rw [List.getElem?_take_of_lt hj']
            simp [List.getD, List.getElem?_eq_getElem (show j < l.length by omega)]
          exact List.mem_of_getElem? this
        · intro hm
          obtain ⟨j, hj, he⟩ := List.getElem_of_mem hm
          rw [List.length_take] at hj
          refine ⟨j, List.mem_range.mpr (by omega), beq_iff_eq.mpr ?_⟩
          rw [← he, List.getElem_take]
          simp [List.getD, List.getElem?_eq_getElem (show j < l.length by omega)]
      unfold dif
      by_cases hm : l.getD i 0 ∈ l.take i
      · rw [if_pos (hmem.mpr hm)]
        constructor
        · intro h; omega
        · rintro ⟨_, _, h⟩
          exact absurd rfl (h _ hm _ (List.mem_singleton.mpr rfl))
      · rw [if_neg (fun h => hm (hmem.mp h))]
        constructor
        · intro h
          refine ⟨ih.mp (by omega), by simp, fun a ha b hb e => ?_⟩
          rw [List.mem_singleton.mp hb] at e
          exact hm (e ▸ ha)
        · rintro ⟨h, _⟩
          have := ih.mpr h
          omega
  have := key l.length (Nat.le_refl _)
  rwa [List.take_length] at this
/-- letters as [6] has them -/
def OkDiff (L : List Nat) (most : Int) (l : List Nat) : Prop := (∀ c ∈ l, c ∈ L) ∧ 1 ≤ l.length ∧ (l.length : Int) ≤ most ∧ l.Nodup
instance (L : List Nat) (most : Int) (l : List Nat) : Decidable (OkDiff L most l) := by unfold OkDiff; exact inferInstance
def sp_are_different (K : PySem.W.Frag) : Sp := fun vs H Q _ => ∃ v L most, vs = [v, .str (tx L), .int most] ∧
  ((∃ l, v = .str (tx l) ∧ l.length < 4000 ∧ ∀ H', Same H H' → Q (.bl (decide (OkDiff L most l))) H') ∨ (NoText K H v ∧ Q (.bl false) H))
theorem ok_are_different (T : Txt K mg) : FnOk P w K mg base (L2.CX P w) 2 T.f_are_different T.fd_are_different ["value", "letters", "most"] (sp_are_different K) := by
  refine T.F_are_different.okX sc_are_different (fun vs H Q E h => ?_) (fun cdv A outer s H vs Q E hr h => ?_)
  · obtain ⟨_, _, _, rfl, _⟩ := h
    rfl
  · obtain ⟨v, L, most, rfl, h⟩ := h
    refine ⟨_, (pss_cons (ps_if (pt_not (pt_val (pe_callS (ok_are_letters T) (hr.mono (by decide)) rfl T.mg_are_letters T.kp_are_letters T.bd_are_letters (fun σ => passAt (takes_of rfl rfl rfl rfl) σ) (pa_cons (pv 0) (pa_cons (pv 1) pa_nil)))))
  (pss_one (ps_ret pe_bl))
  pss_nil)
  (pss_one (ps_ret (pe_and (pe_chain op_le op_le pe_int (pe_callB (call_lenK (K := K) rfl) (by rfl) T.b_len boot_len (pa_cons (pv 0) pa_nil)) (pv 2)) (pe_one (pe_cmpR op_eq (pe_lenSetT rfl rfl T.b_len rfl T.b_set (pv 0)) (pe_callB (call_lenK (K := K) rfl) (by rfl) T.b_len boot_len (pa_cons (pv 0) pa_nil)) (nomark _))))))), ?_⟩
    walk_at "rd"
    rcases h with ⟨l, rfl, hz, k⟩ | ⟨hn, k⟩
    · refine ⟨_, L, rfl, .inl ⟨l, rfl, by omega, fun H1 s1 => ?_⟩⟩
      walk_at "rd"
      by_cases hl : ∀ c ∈ l, c ∈ L
      · rw [(all_iff l L).mpr hl]
        refine iteF ?_
        walk_at "rd"
        refine len_s (l := l) (by omega) ?_
        walk_at "rd"
        by_cases h1 : (1 : Int) ≤ (l.length : Nat)
        · rw [decide_eq_true h1]
          refine iteT ?_
          walk_at "rd"
          by_cases h2 : ((l.length : Nat) : Int) ≤ most
          · rw [decide_eq_true h2]
            refine iteT ?_
            walk_at "rd"
            refine ⟨tx l, rfl, by rw [tx_size]; exact hz, ?_⟩
            walk_at "rd"
            refine len_s (l := l) (by omega) ?_
            refine rEq_v rfl ?_
            rw [decide_int, tx_size]
            have e : (fun i => (tx l).cps.getD i 0) = fun i => l.getD i 0 := by
              funext i
              have := tx_get l i
              simp [Array.getD_eq_getD_getElem?, this, List.getD]
            rw [e]
            have e2 : decide (((dif (fun i => l.getD i 0) l.length : Nat) : Int) = ((l.length : Nat) : Int)) = decide (OkDiff L most l) := by
              by_cases hd : l.Nodup
              · rw [decide_eq_true (show OkDiff L most l from ⟨hl, by omega, h2, hd⟩), decide_eq_true]
                rw [(dif_nodup l).mpr hd]
              · rw [decide_eq_false (fun h : OkDiff L most l => hd h.2.2.2), decide_eq_false]
                intro h
                exact hd ((dif_nodup l).mp (by omega))
            rw [e2]
            exact k H1 s1
          · rw [decide_eq_false h2]
            refine iteF ?_
            rw [← decide_eq_false (fun h : OkDiff L most l => h2 h.2.2.1)]
            exact k H1 s1
        · rw [decide_eq_false h1]
          refine iteF (rd_blI (iteF ?_))
          rw [← decide_eq_false (fun h : OkDiff L most l => h1 (by have := h.2.1; omega))]
          exact k H1 s1
      · have : (l.all fun c => decide (c ∈ L)) = false := Bool.eq_false_iff.mpr fun e => hl ((all_iff l L).mp e)
        rw [this]
        refine iteT ?_
        walk_at "rd"
        rw [← decide_eq_false (fun h : OkDiff L most l => hl h.1)]
        exact k H1 s1
    · refine ⟨_, L, rfl, .inr ⟨hn, ?_⟩⟩
      walk_at "rd"
      refine iteT ?_
      walk_at "rd"
      exact k
def OkPair (gv sd : List Nat) (l : List Nat) : Prop := ∃ a b c d, l = [a, b, c, d] ∧ a ∈ gv ∧ c ∈ gv ∧ b ∈ sd ∧ d ∈ sd
theorem OkPair.four {gv sd : List Nat} {a b c d : Nat} : OkPair gv sd [a, b, c, d] ↔ a ∈ gv ∧ c ∈ gv ∧ b ∈ sd ∧ d ∈ sd := by
  constructor
  · rintro ⟨_, _, _, _, h, h1⟩
    cases h
    exact h1
  · exact fun h => ⟨a, b, c, d, rfl, h⟩
def okPair (gv sd : List Nat) : List Nat → Bool
  | [a, b, c, d] => decide (a ∈ gv) && decide (c ∈ gv) && (decide (b ∈ sd) && decide (d ∈ sd))
  | _ => false
theorem okPair_iff {gv sd l : List Nat} : okPair gv sd l = true ↔ OkPair gv sd l := by
  constructor
  · intro h
    unfold okPair at h
    split at h
    · simp only [Bool.and_eq_true, decide_eq_true_eq] at h
      exact ⟨_, _, _, _, rfl, h.1.1, h.1.2, h.2.1, h.2.2⟩
    · cases h
  · rintro ⟨a, b, c, d, rfl, h1, h2, h3, h4⟩
    simp [okPair, h1, h2, h3, h4]
def sp_is_pair (K : PySem.W.Frag) : Sp := fun vs H Q _ => ∃ v gv sd, vs = [v, .str (tx gv), .str (tx sd)] ∧
  ((∃ l, v = .str (tx l) ∧ l.length ≤ 40000 ∧ ∀ H', Same H H' → Q (.bl (okPair gv sd l)) H') ∨ (NoText K H v ∧ Q (.bl false) H))
theorem ok_is_pair (T : Txt K mg) : FnOk P w K mg base (L2.CX P w) 2 T.f_is_pair T.fd_is_pair ["value", "given", "said"] (sp_is_pair K) := by
  refine T.F_is_pair.okX sc_is_pair (fun vs H Q E h => ?_) (fun cdv A outer s H vs Q E hr h => ?_)
  · obtain ⟨_, _, _, rfl, _⟩ := h
    rfl
  · obtain ⟨v, gv, sd, rfl, h⟩ := h
    refine ⟨_, (pss_cons (ps_if (PW.pt (pw_or (pt_not (pt_val (pe_callB (call_isiK1 (K := K) rfl) (by rfl) T.b_isinstance boot_isinstance (pa_cons (pv 0) (pa_cons (pe_bltn (v := .ty "str") rfl T.b_str boot_str rfl) pa_nil))))) (pw_or1 (pt_cmpR op_ne (pe_callB (call_lenK (K := K) rfl) (by rfl) T.b_len boot_len (pa_cons (pv 0) pa_nil)) pe_int (nomark _)))))
  (pss_one (ps_ret pe_bl))
  pss_nil)
  (pss_one (ps_ret (pe_and (pe_callS (ok_are_letters T) (hr.mono (by decide)) rfl T.mg_are_letters T.kp_are_letters T.bd_are_letters (fun σ => passAt (takes_of rfl rfl rfl rfl) σ) (pa_cons (pe_stepS (by decide) (pv 0) po_none po_none) (pa_cons (pv 1) pa_nil))) (pe_one (pe_callS (ok_are_letters T) (hr.mono (by decide)) rfl T.mg_are_letters T.kp_are_letters T.bd_are_letters (fun σ => passAt (takes_of rfl rfl rfl rfl) σ) (pa_cons (pe_stepS (by decide) (pv 0) (po_some pe_int) po_none) (pa_cons (pv 2) pa_nil)))))))), ?_⟩
    walk_at "rd"
    rcases h with ⟨l, rfl, hz, k⟩ | ⟨⟨t, ht, hk⟩, k⟩
    · refine ⟨_, _, _, _, true, rfl, .ty "str", .base (.str _), kit_ty (by decide +kernel), ?_⟩
      walk_at "rd"
      refine iteF ?_
      walk_at "rd"
      refine len_s (l := l) (by omega) ?_
      walk_at "rd"
      refine rNe_v rfl ?_
      rw [decide_int]
      by_cases h4 : l.length = 4
      · obtain ⟨a, b, c, d, rfl⟩ : ∃ a b c d, l = [a, b, c, d] := by
          match l, h4 with
          | [a, b, c, d], _ => exact ⟨a, b, c, d, rfl⟩
        walk_at "rd"
        refine iteF ?_
        walk_at "rd"
        refine ⟨tx [a, b, c, d], rfl, ?_, ?_⟩
        · show (stepS ⟨#[a, b, c, d]⟩ none none 2).length ≤ sizeLine
          rw [stepS_even]
          show 2 ≤ sizeLine
          decide
        have e1 : stepS (tx [a, b, c, d]) none none 2 = tx [a, c] := stepS_even
        rw [e1]
        walk_at "rd"
        refine ⟨_, gv, rfl, .inl ⟨[a, c], rfl, by show 2 ≤ 40000; decide, fun H1 s1 => ?_⟩⟩
        walk_at "rd"
        have e2 : ([a, c].all fun c => decide (c ∈ gv)) = (decide (a ∈ gv) && decide (c ∈ gv)) := by simp
        rw [e2]
        cases hac : (decide (a ∈ gv) && decide (c ∈ gv)) with
        | true =>
          refine iteT ?_
          walk_at "rd"
          refine ⟨tx [a, b, c, d], rfl, ?_, ?_⟩
          · show (stepS ⟨#[a, b, c, d]⟩ (some 1) none 2).length ≤ sizeLine
            rw [stepS_odd]
            show 2 ≤ sizeLine
            decide
          have e3 : stepS (tx [a, b, c, d]) (some 1) none 2 = tx [b, d] := stepS_odd
          rw [e3]
          walk_at "rd"
          refine ⟨_, sd, rfl, .inl ⟨[b, d], rfl, by show 2 ≤ 40000; decide, fun H2 s2 => ?_⟩⟩
          have e4 : ([b, d].all fun c => decide (c ∈ sd)) = okPair gv sd [a, b, c, d] := by
            show _ = (decide (a ∈ gv) && decide (c ∈ gv) && (decide (b ∈ sd) && decide (d ∈ sd)))
            rw [hac]
            simp
          rw [e4]
          exact k H2 (s1.trans s2)
        | false =>
          refine iteF ?_
          have e4 : false = okPair gv sd [a, b, c, d] := by
            show _ = (decide (a ∈ gv) && decide (c ∈ gv) && (decide (b ∈ sd) && decide (d ∈ sd)))
            rw [hac]
            rfl
          rw [e4]
          exact k H1 s1
      · rw [decide_eq_false (by omega)]
        walk_at "rd"
        refine iteT ?_
        walk_at "rd"
        have e4 : false = okPair gv sd l := by
          symm
          rw [Bool.eq_false_iff]
          intro h
          obtain ⟨_, _, _, _, rfl, _⟩ := okPair_iff.mp h
          exact h4 rfl
        rw [e4]
        exact k H (Same.refl H)
    · refine ⟨_, _, _, _, false, rfl, .ty "str", ht, hk, ?_⟩
      walk_at "rd"
      refine iteT (iteT ?_)
      walk_at "rd"
      exact k
end

section
variable {P : Program} [NW.SupP P] {w : World} {K : PySem.W.Frag} {mg : Str → Option Value} {base : Heap}
def hadP (ps : List (List Nat)) (k : Key) : Bool := ps.any fun p => decide (k = Sum.inr (tx p))
theorem hadP_tx (ps : List (List Nat)) (p : List Nat) : hadP ps (Sum.inr (tx p)) = decide (p ∈ ps) := by
  unfold hadP
  rw [Bool.eq_iff_iff, List.any_eq_true, decide_eq_true_iff]
  constructor
  · rintro ⟨q, hq, he⟩
    have := tx_inj (Sum.inr.inj (of_decide_eq_true he))
    exact this ▸ hq
  · intro h
    exact ⟨p, h, decide_eq_true rfl⟩
end

theorem vSgs_at {l : List Nat} {i : Nat} {x : V} (h : (vSgs l)[i]? = some x) : ∃ c, l[i]? = some c ∧ x = .str (tx [c]) := by
  unfold vSgs at h
  rw [List.getElem?_map] at h
  cases hc : l[i]? with
  | none => rw [hc] at h; cases h
  | some c => rw [hc] at h; cases h; exact ⟨c, rfl, rfl⟩
theorem vTxs_at {l : List (List Nat)} {i : Nat} {x : V} (h : (vTxs l)[i]? = some x) : ∃ c, l[i]? = some c ∧ x = .str (tx c) := by
  unfold vTxs at h
  rw [List.getElem?_map] at h
  cases hc : l[i]? with
  | none => rw [hc] at h; cases h
  | some c => rw [hc] at h; cases h; exact ⟨c, rfl, rfl⟩

section
variable {P : Program} [NW.SupP P] {w : World} {K : PySem.W.Frag} {mg : Str → Option Value} {base : Heap}
theorem tyx_mono {K : PySem.W.Frag} {H H' : Hp} {v : V} {t : Value} (ht : TyX K H v t) (s : Same H H') : TyX K H' v t := by
  cases ht with
  | base b =>
    cases b with
    | non => exact .base .non
    | bl y => exact .base (.bl y)
    | int i => exact .base (.int i)
    | str y => exact .base (.str y)
    | flt y => exact .base (.flt y)
    | lst e => exact .base (.lst (s _ _ e))
    | frz e => exact .base (.frz (s _ _ e))
    | tup e => exact .base (.tup (s _ _ e))
    | dK e => exact .base (.dK (s _ _ e))
    | dT e => exact .base (.dT (s _ _ e))
    | ins e c h1 h2 h3 h4 => exact .base (.ins (s _ _ e) c h1 h2 h3 h4)
  | byt b => exact .byt b
  | set e => exact .set (s _ _ e)
  | kList e c => exact .kList e c
  | kTuple e c => exact .kTuple e c
  | kDict e c => exact .kDict e c
  | fTuple e => exact .fTuple (s _ _ e)
  | fDict e => exact .fDict (s _ _ e)
/-- what is no list -/
def NoList (K : PySem.W.Frag) (H : Hp) (v : V) : Prop := ∃ t, TyX K H v t ∧ PySem.W.kitOne K t (.type "list") = some false
theorem nolist_same {K : PySem.W.Frag} {H H1 : Hp} {v : V} (h : NoList K H v) (s : Same H H1) : NoList K H1 v := by
  obtain ⟨t, ht, hk⟩ := h
  exact ⟨t, tyx_mono ht s, hk⟩
/-- a text, or what is no text -/
def ItemV (K : PySem.W.Frag) (H : Hp) (v : V) : Prop := (∃ l, v = .str (tx l) ∧ l.length ≤ 40000) ∨ NoText K H v
def GoodPs (gv sd : List Nat) (xs : List V) : Prop := ∃ ps : List (List Nat), xs = vTxs ps ∧ (∀ p ∈ ps, OkPair gv sd p) ∧ ps.Nodup
theorem notext_str {H : Hp} {x : Str} (h : NoText K H (.str x)) : False := by
  obtain ⟨t, ht, hk⟩ := h
  cases ht with
  | base b =>
    cases b
    have e : PySem.W.kitOne K (.type "str") (.type "str") = some true := by
      unfold PySem.W.kitOne
      rw [if_pos (by simp)]
    rw [e] at hk
    cases hk
theorem vTxs_injX : ∀ {a b : List (List Nat)}, vTxs a = vTxs b → a = b
  | [], [], _ => rfl
  | [], _ :: _, h => by cases h
  | _ :: _, [], h => by cases h
  | x :: a, y :: b, h => by
    have h : V.str (tx x) :: vTxs a = V.str (tx y) :: vTxs b := h
    injection h with h1 h2
    rw [tx_inj (V.str.inj h1), vTxs_injX h2]
theorem vTxs_appX (a b : List (List Nat)) : vTxs (a ++ b) = vTxs a ++ vTxs b := by unfold vTxs; rw [List.map_append]
theorem vTxs_takeX (a : List (List Nat)) (n : Nat) : vTxs (a.take n) = (vTxs a).take n := by unfold vTxs; rw [List.map_take]
def sp_are_pairs (K : PySem.W.Frag) : Sp := fun vs H Q _ => ∃ v gv sd, vs = [v, .str (tx gv), .str (tx sd)] ∧
  ((NoList K H v ∧ ∀ H', Same H H' → Q (.bl false) H') ∨ ∃ a xs, v = .ref a ∧ H a = some (.lst xs) ∧ xs.length ≤ 3000 ∧ (∀ x ∈ xs, ∀ H', Same H H' → ItemV K H' x) ∧ (GoodPs gv sd xs → ∀ H', Same H H' → Q (.bl true) H') ∧ (¬ GoodPs gv sd xs → ∀ H', Same H H' → Q (.bl false) H'))
theorem ok_are_pairs (T : Txt K mg) : FnOk P w K mg base (L2.CX P w) 3 T.f_are_pairs T.fd_are_pairs ["value", "given", "said"] (sp_are_pairs K) := by
  refine T.F_are_pairs.okX sc_are_pairs (fun vs H Q E h => ?_) (fun cdv A outer s H vs Q E hr h => ?_)
  · obtain ⟨_, _, _, rfl, _⟩ := h
    rfl
  · obtain ⟨v, gv, sd, rfl, h⟩ := h
    refine ⟨_, (pss_cons (ps_if (pt_not (pt_val (pe_callB (call_isiK1 (K := K) rfl) (by rfl) T.b_isinstance boot_isinstance (pa_cons (pv 0) (pa_cons (pe_bltn (v := .ty "list") rfl T.b_list boot_list rfl) pa_nil)))))
  (pss_one (ps_ret pe_bl))
  pss_nil)
  (pss_cons (ps_set (i := 3) sc_are_pairs.nd rfl (by first | exact Or.inl rfl | exact Or.inr rfl) (pe_callTy0 cr_set0K (by rfl) T.b_set boot_set))
  (pss_cons (ps_for (passes_of rfl) rfl (pi_listK (K := K) rfl (pv 0)) (pg_name (i := 4) sc_are_pairs.nd rfl (by first | exact Or.inl rfl | exact Or.inr rfl))
  (pss_cons (ps_if (PW.pt (pw_or (pt_not (pt_val (pe_callS (ok_is_pair T) (hr.mono (by decide)) rfl T.mg_is_pair T.kp_is_pair T.bd_is_pair (fun σ => passAt (takes_of rfl rfl rfl rfl) σ) (pa_cons (pv 4) (pa_cons (pv 1) (pa_cons (pv 2) pa_nil)))))) (pw_or1 (pt_cmpR or_sinK (pv 4) (pv 3) (by with_unfolding_all rfl)))))
  (pss_one (ps_ret pe_bl))
  pss_nil)
  (pss_one (ps_expr (pe_saddK (pv 3) (pa_cons (pv 4) pa_nil))))))
  (pss_one (ps_ret pe_bl))))), ?_⟩
    walk_at "rd"
    rcases h with ⟨⟨t, ht, hk⟩, k⟩ | ⟨a, xs, rfl, ha, hlen, hit, kg, kb⟩
    · refine ⟨_, _, _, _, false, rfl, .ty "list", ht, hk, ?_⟩
      walk_at "rd"
      refine iteT ?_
      walk_at "rd"
      exact k H (Same.refl _)
    refine ⟨_, _, _, _, true, rfl, .ty "list", .base (.lst ha), kit_ty (by decide +kernel), ?_⟩
    walk_at "rd"
    refine iteF ?_
    walk_at "rd"
    refine ⟨rfl, fun se hse => ?_⟩
    walk_at "rd"
    have ha1 : upd H se (SetK P w se (fun _ => false) 0) a = some (.lst xs) := upd_keep hse ha
    refine rd_for (xs := xs) (wk_list (Evl.ev_var rfl) (SqL.of ha1))
      (fun i σ' H' => ∃ o ps, σ' = [some (.ref a), some (.str (tx gv)), some (.str (tx sd)), some (.ref se), o] ∧ xs.take i = vTxs ps ∧ (∀ p ∈ ps, OkPair gv sd p) ∧ ps.Nodup ∧ Same H H' ∧ H' se = some (SetK P w se (hadP ps) i))
      (fun H1 s1 => ⟨none, [], rfl, rfl, fun p hp => (List.not_mem_nil hp).elim, List.nodup_nil, (Same.new hse).trans s1, s1 _ _ upd_same⟩) (fun i σ' H' _ ⟨_, _, _, _, _, _, s2, _⟩ => SqL.of (s2 _ _ ha)) (fun i x σ' H' hx ⟨o, ps, hσ, htk, hok, hnd, s2, hs2⟩ => ?_) (fun σ' H' ⟨o, ps, hσ, htk, hok, hnd, s2, hs2⟩ => ?_)
    · subst hσ
      have hi : i < xs.length := (List.getElem?_eq_some_iff.mp hx).1
      have hmem : x ∈ xs := List.mem_of_getElem? hx
      have htk1 : xs.take (i + 1) = vTxs ps ++ [x] := by rw [take_succ_get hx, htk]
      -- what a good list has here
      have hgood : GoodPs gv sd xs → ∃ l, x = .str (tx l) ∧ OkPair gv sd l ∧ l ∉ ps := fun ⟨qs, e, h1, h2⟩ => by
        have hx' := hx
        rw [e] at hx'
        obtain ⟨l, hl, rfl⟩ := vTxs_at hx'
        refine ⟨l, rfl, h1 _ (List.mem_of_getElem? hl), fun hin => ?_⟩
        have e2 : qs.take (i + 1) = ps ++ [l] := vTxs_injX (by rw [vTxs_takeX, ← e, htk1, vTxs_appX]; rfl)
        have h3 : (ps ++ [l]).Nodup := by
          rw [← e2]
          exact h2.sublist (List.take_sublist _ _)
        rw [List.nodup_append] at h3
        exact h3.2.2 _ hin _ (List.mem_singleton.mpr rfl) rfl
      walk_at "rd"
      rcases hit x hmem H' s2 with ⟨l, rfl, hlz⟩ | hno
      · refine ⟨_, gv, sd, rfl, .inl ⟨l, rfl, hlz, fun H3 s3 => ?_⟩⟩
        walk_at "rd"
        by_cases hpok : OkPair gv sd l
        · rw [okPair_iff.mpr hpok]
          refine iteF ?_
          walk_at "rd"
          have hse3 := s3 _ _ hs2
          refine ⟨Sum.inr (tx l), se, _, _, rfl, rfl, hse3, ?_⟩
          walk_at "rd"
          by_cases hin : l ∈ ps
          · rw [if_neg Bool.false_ne_true, hadP_tx, decide_eq_true hin]
            refine iteT ?_
            walk_at "rd"
            refine kb (fun g => ?_) H3 (s2.trans s3)
            obtain ⟨l', e, _, h⟩ := hgood g
            rw [tx_inj (V.str.inj e)] at hin
            exact h hin
          · rw [if_neg Bool.false_ne_true, hadP_tx, decide_eq_false hin]
            refine iteF ?_
            walk_at "rd"
            refine ⟨⟨se, _, _, rfl, hse3⟩, ?_⟩
            walk_at "rd"
            refine ⟨se, Sum.inr (tx l), _, _, rfl, rfl, hse3, by unfold scanBound; omega, ?_⟩
            refine ⟨_, ps ++ [l], rfl, by rw [htk1, vTxs_appX]; rfl, fun p hp => ?_, ?_, Same.mut (s2.trans s3) hse, ?_⟩
            · rcases List.mem_append.mp hp with hp | hp
              · exact hok p hp
              · rw [List.mem_singleton.mp hp]
                exact hpok
            · rw [List.nodup_append]
              exact ⟨hnd, by simp, fun a ha b hb e => by rw [List.mem_singleton.mp hb] at e; exact hin (e ▸ ha)⟩
            · rw [upd_same, hadP_tx, decide_eq_false hin, if_neg Bool.false_ne_true]
              congr 2
              funext j
              unfold hadP
              rw [List.any_append]
              simp
        · have : okPair gv sd l = false := Bool.eq_false_iff.mpr fun e => hpok (okPair_iff.mp e)
          rw [this]
          refine iteT (iteT ?_)
          walk_at "rd"
          refine kb (fun g => ?_) H3 (s2.trans s3)
          obtain ⟨l', e, h, _⟩ := hgood g
          rw [tx_inj (V.str.inj e)] at hpok
          exact hpok h
      · refine ⟨_, gv, sd, rfl, .inr ⟨hno, ?_⟩⟩
        walk_at "rd"
        refine iteT (iteT ?_)
        walk_at "rd"
        refine kb (fun g => ?_) H' s2
        obtain ⟨l', e, _, _⟩ := hgood g
        rw [e] at hno
        exact notext_str hno
    · subst hσ
      walk_at "rd"
      refine kg ⟨ps, ?_, hok, hnd⟩ H' s2
      rw [← htk, List.take_length]
end

section
variable {P : Program} [NW.SupP P] {w : World} {K : PySem.W.Frag} {mg : Str → Option Value} {base : Heap}
/-- a wish whose lists are new -/
def NewW (C : Addr) (H H' : Hp) (x : Addr) (gv sd : List Nat) (ps : List (List Nat)) : Prop := ∃ cl al pl, WishAt C H' x gv sd ps cl al pl ∧ ∀ b o, H b = some o → b ≠ x → b ≠ cl ∧ b ≠ al ∧ b ≠ pl
theorem NewW.is {C : Addr} {H H' : Hp} {x : Addr} {gv sd : List Nat} {ps : List (List Nat)} (h : NewW C H H' x gv sd ps) : IsWish C H' x gv sd ps := by
  obtain ⟨cl, al, pl, h, _⟩ := h
  exact ⟨cl, al, pl, h⟩
/-- it stands when an older object changes -/
theorem NewW.keep {C : Addr} {H H' H2 : Hp} {x a : Addr} {gv sd : List Nat} {ps : List (List Nat)} {o : HO} (h : NewW C H H' x gv sd ps) (ha : H a = some o) (n : a ≠ x) (k : ∀ b u, H' b = some u → b ≠ a → H2 b = some u) : IsWish C H2 x gv sd ps := by
  obtain ⟨cl, al, pl, ⟨⟨dx, kd, h1⟩, h2, h3, h4⟩, d⟩ := h
  obtain ⟨n1, n2, n3⟩ := d a o ha n
  exact ⟨cl, al, pl, ⟨dx, kd, k _ _ h1 n.symm⟩, k _ _ h2 n1.symm, k _ _ h3 n2.symm, k _ _ h4 n3.symm⟩
theorem NewW.older {C : Addr} {H0 H H' : Hp} {x : Addr} {gv sd : List Nat} {ps : List (List Nat)} (h : NewW C H H' x gv sd ps) (s : Same H0 H) : NewW C H0 H' x gv sd ps := by
  obtain ⟨cl, al, pl, h, d⟩ := h
  exact ⟨cl, al, pl, h, fun b o e n => d b o (s _ _ e) n⟩
/-- an object is made: all else that was known stands -/
def sp_init (C : Addr) (lo up : List Nat) : Sp := fun vs H Q _ => ∃ x dx pa gv sd ps, vs = [.ref x, .str (tx gv), .str (tx sd), .ref pa] ∧ H x = some (.ins C dx []) ∧ H pa = some (.lst (vTxs ps)) ∧ gv.length < 4000 ∧ sd.length < 4000 ∧ ps.length ≤ 3000 ∧
  OkDiff lo 3 gv ∧ OkDiff up 4 sd ∧ (∀ p ∈ ps, OkPair gv sd p) ∧ ps.Nodup ∧ ∀ H', (∀ b o, H b = some o → b ≠ x → H' b = some o) → NewW C H H' x gv sd ps → Q .non H'
def lowers : List Nat := (List.range 26).map fun i => 97 + i
def uppers : List Nat := (List.range 26).map fun i => 65 + i
theorem lowers_tx : ("abcdefghijklmnopqrstuvwxyz" : Str) = tx lowers := by decide +kernel
theorem uppers_tx : ("ABCDEFGHIJKLMNOPQRSTUVWXYZ" : Str) = tx uppers := by decide +kernel
def unS : V → List Nat
  | .str a => a.cps.toList
  | _ => []
theorem unS_tx (l : List Nat) : unS (.str (tx l)) = l := rfl
theorem cells_flat (gv sd : List Nat) : ((vSgs gv).flatMap fun x => ((vSgs sd).filter fun _ => true).map fun y => V.str (tx (unS x ++ unS y))) = vTxs (cellsOf gv sd) := by
  unfold vSgs vTxs cellsOf
  rw [List.map_flatMap, List.flatMap_map]
  congr 1
  funext a
  rw [List.filter_eq_self.mpr (fun _ _ => rfl), List.map_map, List.map_map]
  rfl
theorem vSgs_mem {l : List Nat} {v : V} (h : v ∈ vSgs l) : ∃ c ∈ l, v = .str (tx [c]) := by
  unfold vSgs at h
  obtain ⟨c, hc, rfl⟩ := List.mem_map.mp h
  exact ⟨c, hc, rfl⟩
theorem vTxs_mem {l : List (List Nat)} {v : V} (h : v ∈ vTxs l) : ∃ c ∈ l, v = .str (tx c) := by
  unfold vTxs at h
  obtain ⟨c, hc, rfl⟩ := List.mem_map.mp h
  exact ⟨c, hc, rfl⟩
theorem vSgs_len2 (gv sd : List Nat) (h1 : gv.length ≤ 3) (h2 : sd.length ≤ 4) : (vSgs gv).length * (vSgs sd).length ≤ 40000 := by
  rw [vSgs_len, vSgs_len]
  have := Nat.mul_le_mul h1 h2
  omega
theorem keys_nodup {ps : List (List Nat)} (h : ps.Nodup) : ((vTxs ps).map fun v => (Sum.inr (tx (unS v)) : Key)).Nodup := by
  unfold vTxs
  rw [List.map_map]
  refine List.Pairwise.map _ (fun a b hab => ?_) h
  intro e
  exact hab (tx_inj (Sum.inr.inj e))
theorem dict_of {ps : List (List Nat)} (h : ps.Nodup) : dcRun (fun v => Sum.inr (tx (unS v))) (fun _ => V.bl true) (vTxs ps) = ps.map fun p => (Sum.inr (tx p), V.bl true) := by
  rw [dcRun_nodup (keys_nodup h)]
  unfold vTxs
  rw [List.map_map]
  rfl
theorem pairs_flat (cs : List (List Nat)) (ps : List (List Nat)) : ((vTxs cs).flatMap fun x => ((vTxs cs).filter fun y => decide (unS x ++ unS y ∈ ps)).map fun y => V.str (tx (unS x ++ unS y))) = vTxs (cs.flatMap fun p => (cs.filter fun q => decide (p ++ q ∈ ps)).map fun q => p ++ q) := by
  unfold vTxs
  rw [List.map_flatMap, List.flatMap_map]
  congr 1
  funext a
  rw [List.filter_map, List.map_map, List.map_map]
  rfl
theorem cellsOf_len (gv sd : List Nat) : (cellsOf gv sd).length = gv.length * sd.length := by
  unfold cellsOf
  induction gv with
  | nil => simp
  | cons a r ih => rw [List.flatMap_cons, List.length_append, ih, List.length_map, List.length_cons, Nat.succ_mul, Nat.add_comm]
theorem cellsOf_two {gv sd c : List Nat} (h : c ∈ cellsOf gv sd) : ∃ a b, c = [a, b] ∧ a ∈ gv ∧ b ∈ sd := by
  unfold cellsOf at h
  obtain ⟨a, ha, h⟩ := List.mem_flatMap.mp h
  obtain ⟨b, hb, rfl⟩ := List.mem_map.mp h
  exact ⟨a, b, rfl, ha, hb⟩
theorem ok_Wishfill (T : Txt K mg) : FnOk P w K mg base (L2.CX P w) 1 T.f_Wishfill T.fd_Wishfill ["self", "given", "said", "pairs"] (sp_init T.C_Wish lowers uppers) := by
  refine T.F_Wishfill.okX sc_Wishfill (fun vs H Q E h => ?_) (fun cdv A outer s H vs Q E hr h => ?_)
  · obtain ⟨_, _, _, _, _, _, rfl, _⟩ := h
    rfl
  · obtain ⟨x, dx, pa, gv, sd, ps, rfl, hx, hpa, hzg, hzs, hzp, hg, hs, hok, hnd, k⟩ := h
    have hu := hu_of hr
    have nxpa : pa ≠ x := fun e => by rw [e, hx] at hpa; cases hpa
    refine ⟨_, (pss_cons (ps_fld (pv 0) (pv 1) rfl)
  (pss_cons (ps_fld (pv 0) (pv 2) rfl)
  (pss_cons (ps_fld (pv 0) (pe_lc2 (own := [("x", 4), ("s", 5)]) (vs1 := [5]) rfl sc_Wishfill.nd (pi_str (pv 1)) (blkOk_by (N := N_Wishfill) (sc := defScope s_Wishfill) (by decide +kernel)) (by decide)
   (fun _ _ _ _ _ => (pg_name (i := 4) sc_Wishfill.nd rfl (by first | exact Or.inl rfl | exact Or.inr rfl))) (fun _ _ _ _ _ => pts_nil) (fun _ _ _ _ _ => (pi_str (pv 2))) (fun _ _ _ _ _ => (pg_name (i := 5) sc_Wishfill.nd rfl (by first | exact Or.inl rfl | exact Or.inr rfl))) (fun _ _ _ _ _ => pts_nil) (fun _ _ _ _ _ => (pe_op op_addA (pv 4) (pv 5)))) rfl)
  (pss_cons (ps_fld (pv 0) (pe_dc (own := [("pair", 6)]) rfl sc_Wishfill.nd (pi_listK (K := K) rfl (pv 3)) (blkOk_by (N := N_Wishfill) (sc := defScope s_Wishfill) (by decide +kernel))
   (fun _ _ _ _ _ => (pg_name (i := 6) sc_Wishfill.nd rfl (by first | exact Or.inl rfl | exact Or.inr rfl))) (fun _ _ _ _ _ => pts_nil) (fun _ _ _ _ _ => (pv 6)) (fun _ _ _ _ _ => pe_bl)) rfl)
  (pss_cons (ps_fld (pv 0) (pe_lc2 (own := [("p", 7), ("q", 8)]) (vs1 := [8]) rfl sc_Wishfill.nd (pi_listK (K := K) rfl (pe_fldK (K := K) rfl (pv 0) rfl)) (blkOk_by (N := N_Wishfill) (sc := defScope s_Wishfill) (by decide +kernel)) (by decide)
   (fun _ _ _ _ _ => (pg_name (i := 7) sc_Wishfill.nd rfl (by first | exact Or.inl rfl | exact Or.inr rfl))) (fun _ _ _ _ _ => pts_nil) (fun _ _ _ _ _ => (pi_listK (K := K) rfl (pe_fldK (K := K) rfl (pv 0) rfl))) (fun _ _ _ _ _ => (pg_name (i := 8) sc_Wishfill.nd rfl (by first | exact Or.inl rfl | exact Or.inr rfl))) (fun _ _ _ _ _ => (pts_one (pt_cmp (pc_din hu (pe_op op_addA (pv 7) (pv 8)) (pe_fldK (K := K) rfl (pv 0) rfl))))) (fun _ _ _ _ _ => (pe_op op_addA (pv 7) (pv 8)))) rfl)
  (pss_one (ps_fld (pv 0) pe_dnewK rfl))))))), ?_⟩
    walk_at "rd"
    refine ⟨x, T.C_Wish, dx, _, rfl, hx, T.cl_Wish, T.na_Wish_given, by decide, ?_⟩
    walk_at "rd"
    refine ⟨x, T.C_Wish, dx, _, rfl, upd_same, T.cl_Wish, T.na_Wish_said, by show 1 < 1000; decide, ?_⟩
    rw [upd_upd, put_nil, put_miss (by decide +kernel), put_nil]
    walk_at "rd"
    generalize hH4 : upd H x _ = H4
    have h4x : H4 x = some (.ins T.C_Wish dx [("_given", .str (tx gv)), ("_said", .str (tx sd))]) := by rw [← hH4, upd_same]
    have h4k : ∀ b o, H b = some o → b ≠ x → H4 b = some o := fun b o h n => by rw [← hH4, upd_ne n]; exact h
    have h4f : ∀ b, H4 b = none → H b = none := fun b h => by
      cases q : H b with
      | none => rfl
      | some o =>
        by_cases n : b = x
        · rw [n, h4x] at h; cases h
        · rw [h4k b o q n] at h; cases h
    have lg3 : gv.length ≤ 3 := by have := hg.2.2.1; omega
    have ls4 : sd.length ≤ 4 := by have := hs.2.2.1; omega
    refine rd_L (el_lc2 (xs := vSgs gv) (ys := vSgs sd) (wk_str (Evl.ev_var rfl)) (fun _ _ => wk_str (Evl.ev_var rfl)) (fun _ _ => true) (fun a b => .str (tx (unS a ++ unS b))) (vSgs_len2 gv sd lg3 ls4) (fun _ => rfl) (fun _ _ => rfl)
      (fun _ _ _ _ _ _ => ev_yes) (fun a ha b hb H5 _ _ H6 e6 Q' q => ?_)) fun cl H5 hcl s5 h5 => ?_
    · obtain ⟨c, _, rfl⟩ := vSgs_mem ha
      obtain ⟨d, _, rfl⟩ := vSgs_mem hb
      walk_at "rd"
      refine rAdd_s (by show 1 + 1 ≤ 100000; decide) ?_
      exact q H6 (Evl.Ex.refl _)
    rw [cells_flat] at h5
    walk_at "rd"
    have ncl : cl ≠ x := fun e => by rw [e, h4x] at hcl; cases hcl
    refine ⟨x, T.C_Wish, dx, _, rfl, s5 _ _ h4x, T.cl_Wish, T.na_Wish_cells, by show 2 < 1000; decide, ?_⟩
    rw [put_miss (by decide +kernel), put_miss (by decide +kernel), put_nil]
    generalize hH6 : upd H5 x _ = H6
    have h6x : H6 x = some (.ins T.C_Wish dx [("_given", .str (tx gv)), ("_said", .str (tx sd)), ("_cells", .ref cl)]) := by rw [← hH6, upd_same]
    have h6c : H6 cl = some (.lst (vTxs (cellsOf gv sd))) := by rw [← hH6, upd_ne ncl]; exact h5
    have h6k : ∀ b o, H b = some o → b ≠ x → H6 b = some o := fun b o h n => by rw [← hH6, upd_ne n]; exact s5 _ _ (h4k b o h n)
    have h6pa : H6 pa = some (.lst (vTxs ps)) := h6k _ _ hpa nxpa
    walk_at "rd"
    refine rd_dc (xs := vTxs ps) (wk_list (Evl.ev_var rfl) (SqL.of h6pa)) (fun v => Sum.inr (tx (unS v))) (fun _ => .bl true) (by rw [vTxs_len]; omega) (fun _ => rfl) (fun v hv H7 _ H8 _ Q' q => ?_) (fun v hv H7 _ H8 _ Q' q => ?_) fun al H7 hal s7 h7 => ?_
    · obtain ⟨c, _, rfl⟩ := vTxs_mem hv
      walk_at "rd"
      exact q H8 (Evl.Ex.refl _)
    · walk_at "rd"
      exact q H8 (Evl.Ex.refl _)
    rw [dict_of hnd] at h7
    walk_at "rd"
    have nal : al ≠ x := fun e => by rw [e, h6x] at hal; cases hal
    refine ⟨x, T.C_Wish, dx, _, rfl, s7 _ _ h6x, T.cl_Wish, T.na_Wish_allowed, by show 3 < 1000; decide, ?_⟩
    rw [put_miss (by decide +kernel), put_miss (by decide +kernel), put_miss (by decide +kernel), put_nil]
    generalize hH8 : upd H7 x _ = H8
    have h8x : H8 x = some (.ins T.C_Wish dx [("_given", .str (tx gv)), ("_said", .str (tx sd)), ("_cells", .ref cl), ("_allowed", .ref al)]) := by rw [← hH8, upd_same]
    have h8c : H8 cl = some (.lst (vTxs (cellsOf gv sd))) := by rw [← hH8, upd_ne ncl]; exact s7 _ _ h6c
    have h8a : H8 al = some (.dK (ps.map fun p => (Sum.inr (tx p), .bl true))) := by rw [← hH8, upd_ne nal]; exact h7
    have h8k : ∀ b o, H b = some o → b ≠ x → H8 b = some o := fun b o h n => by rw [← hH8, upd_ne n]; exact s7 _ _ (h6k b o h n)
    have fcells : ∀ (σ' : L2.St) (H9 : Hp), σ'[0]? = some (some (.ref x)) → Same H8 H9 → Evl.Ev (tFld K (tVar 0) "_cells") σ' H9 (.ref cl) := fun σ' H9 h0 s9 H10 e10 Q' q =>
      ⟨_, h0, x, T.C_Wish, dx, _, _, rfl, e10 _ _ (s9 _ _ h8x), T.cl_Wish, T.na_Wish_cells, (lk_miss (by decide +kernel)).trans ((lk_miss (by decide +kernel)).trans lk_hit), q H10 (Evl.Ex.refl _)⟩
    have lc12 : (cellsOf gv sd).length ≤ 12 := by
      rw [cellsOf_len]
      exact Nat.mul_le_mul lg3 ls4
    walk_at "rd"
    refine rd_L (el_lc2 (xs := vTxs (cellsOf gv sd)) (ys := vTxs (cellsOf gv sd)) (wk_list (fcells _ H8 rfl (Same.refl _)) (SqL.of h8c)) (fun _ _ => wk_list (fcells _ H8 rfl (Same.refl _)) (SqL.of h8c)) (fun a b => decide (unS a ++ unS b ∈ ps)) (fun a b => .str (tx (unS a ++ unS b))) ?_ (fun _ => rfl) (fun _ _ => rfl)
      (fun a ha b hb H9 e9 H10 e10 Q' q => ?_) (fun a ha b hb H9 _ _ H10 e10 Q' q => ?_)) fun pl H9 hpl s9 h9 => ?_
    · rw [vTxs_len]
      have := Nat.mul_le_mul lc12 lc12
      omega
    · obtain ⟨c, hc, rfl⟩ := vTxs_mem ha
      obtain ⟨d, hd, rfl⟩ := vTxs_mem hb
      obtain ⟨c1, c2, rfl, _⟩ := cellsOf_two hc
      obtain ⟨d1, d2, rfl, _⟩ := cellsOf_two hd
      walk_at "rd"
      refine rAdd_s (by show 2 + 2 ≤ 100000; decide) ?_
      walk_at "rd"
      refine ⟨x, T.C_Wish, dx, _, _, rfl, e10 _ _ (e9 _ _ h8x), T.cl_Wish, T.na_Wish_allowed, (lk_miss (by decide +kernel)).trans ((lk_miss (by decide +kernel)).trans ((lk_miss (by decide +kernel)).trans lk_hit)), al, _, rfl, DGet.k (k := Sum.inr (tx ([c1, c2] ++ [d1, d2]))) (e10 _ _ (e9 _ _ h8a)), ?_⟩
      rw [val_pairs]
      walk_at "rd"
      exact q H10 (Evl.Ex.refl _)
    · obtain ⟨c, hc, rfl⟩ := vTxs_mem ha
      obtain ⟨d, hd, rfl⟩ := vTxs_mem hb
      obtain ⟨c1, c2, rfl, _⟩ := cellsOf_two hc
      obtain ⟨d1, d2, rfl, _⟩ := cellsOf_two hd
      walk_at "rd"
      refine rAdd_s (by show 2 + 2 ≤ 100000; decide) ?_
      exact q H10 (Evl.Ex.refl _)
    rw [pairs_flat] at h9
    walk_at "rd"
    have npl : pl ≠ x := fun e => by rw [e, h8x] at hpl; cases hpl
    refine ⟨x, T.C_Wish, dx, _, rfl, s9 _ _ h8x, T.cl_Wish, T.na_Wish_pairs, by show 4 < 1000; decide, ?_⟩
    rw [put_miss (by decide +kernel), put_miss (by decide +kernel), put_miss (by decide +kernel), put_miss (by decide +kernel), put_nil]
    generalize hHa : upd H9 x _ = Ha
    have hax : Ha x = some (.ins T.C_Wish dx [("_given", .str (tx gv)), ("_said", .str (tx sd)), ("_cells", .ref cl), ("_allowed", .ref al), ("_pairs", .ref pl)]) := by rw [← hHa, upd_same]
    have hac : Ha cl = some (.lst (vTxs (cellsOf gv sd))) := by rw [← hHa, upd_ne ncl]; exact s9 _ _ h8c
    have haa : Ha al = some (.dK (ps.map fun p => (Sum.inr (tx p), .bl true))) := by rw [← hHa, upd_ne nal]; exact s9 _ _ h8a
    have hap : Ha pl = some (.lst (vTxs (pairsOf gv sd ps))) := by rw [← hHa, upd_ne npl]; exact h9
    have hak : ∀ b o, H b = some o → b ≠ x → Ha b = some o := fun b o h n => by rw [← hHa, upd_ne n]; exact s9 _ _ (h8k b o h n)
    walk_at "rd"
    refine fun kd hkd => ?_
    walk_at "rd"
    refine ⟨x, T.C_Wish, dx, _, rfl, upd_keep hkd hax, T.cl_Wish, T.na_Wish_kept, by show 5 < 1000; decide, ?_⟩
    rw [put_miss (by decide +kernel), put_miss (by decide +kernel), put_miss (by decide +kernel), put_miss (by decide +kernel), put_miss (by decide +kernel), put_nil]
    refine k _ (fun b o h n => by rw [upd_ne n]; exact upd_keep hkd (hak b o h n)) ⟨cl, al, pl, ⟨⟨dx, kd, upd_same⟩, ?_, ?_, ?_⟩, fun b o e n => ⟨ne_of_none (h4k b o e n) hcl, ne_of_none (h6k b o e n) hal, ne_of_none (h8k b o e n) hpl⟩⟩
    · rw [upd_ne ncl]; exact upd_keep hkd hac
    · rw [upd_ne nal]; exact upd_keep hkd haa
    · rw [upd_ne npl]; exact upd_keep hkd hap
end

section
variable {P : Program} [NW.SupP P] {w : World} {K : PySem.W.Frag} {mg : Str → Option Value} {base : Heap}
/-- letters that are not as described -/
def BadDiff (K : PySem.W.Frag) (H : Hp) (L : List Nat) (most : Int) (v : V) : Prop := (∃ l, v = .str (tx l) ∧ l.length < 4000 ∧ ¬ OkDiff L most l) ∨ NoText K H v
/-- pairs that are not as described -/
def BadPs (K : PySem.W.Frag) (H : Hp) (gv sd : List Nat) (v : V) : Prop := NoList K H v ∨ ∃ a xs, v = .ref a ∧ H a = some (.lst xs) ∧ xs.length ≤ 3000 ∧ (∀ x ∈ xs, ∀ H', Same H H' → ItemV K H' x) ∧ ¬ GoodPs gv sd xs
/-- the error with the part's name -/
def Refused (X : Addr) (E : XK) (H : Hp) (part : Str) : Prop := ∀ d H', H d = none → Same H H' → H' d = some (.xd [("part", .str part)]) → E (.ref X) (some d) H'
def sp_initX (K : PySem.W.Frag) (C X : Addr) (lo up : List Nat) : Sp := fun vs H Q E => ∃ x dx g s p, vs = [.ref x, g, s, p] ∧ H x = some (.ins C dx []) ∧
  ((BadDiff K H lo 3 g ∧ Refused X E H "given") ∨ ∃ gv, g = .str (tx gv) ∧ gv.length < 4000 ∧ OkDiff lo 3 gv ∧
    ((BadDiff K H up 4 s ∧ Refused X E H "said") ∨ ∃ sd, s = .str (tx sd) ∧ sd.length < 4000 ∧ OkDiff up 4 sd ∧
      ((BadPs K H gv sd p ∧ Refused X E H "pairs") ∨ ∃ pa ps, p = .ref pa ∧ H pa = some (.lst (vTxs ps)) ∧ ps.length ≤ 3000 ∧ (∀ p ∈ ps, OkPair gv sd p) ∧ ps.Nodup ∧ ∀ H', (∀ b o, H b = some o → b ≠ x → H' b = some o) → NewW C H H' x gv sd ps → Q .non H')))
theorem refused_same {X : Addr} {E : XK} {H H1 : Hp} {part : Str} (h : Refused X E H part) (s : Same H H1) : Refused X E H1 part := fun d H' hd s' e => h d H' (by cases z : H d with | none => rfl | some o => rw [s _ _ z] at hd; cases hd) (s.trans s') e
theorem notext_same {H H1 : Hp} {v : V} (h : NoText K H v) (s : Same H H1) : NoText K H1 v := NoText.mono h s
theorem ok_Wish_init (T : Txt K mg) : FnOk P w K mg base (L2.CX P w) 4 T.f_Wish_init T.fd_Wish_init ["self", "given", "said", "pairs"] (sp_initX K T.C_Wish T.X_NoWish lowers uppers) := by
  refine T.F_Wish_init.okX sc_Wish_init (fun vs H Q E h => ?_) (fun cdv A outer s H vs Q E hr h => ?_)
  · obtain ⟨_, _, _, _, _, rfl, _⟩ := h
    rfl
  · obtain ⟨x, dx, g, s, p, rfl, hx, h⟩ := h
    have hu := hu_of hr
    have raise : ∀ {H1 : Hp} {part : Str} (_ : Refused T.X_NoWish E H1 part), tMkO T.X_NoWish (sp_supinit T.X_NoWish "part") [] (tCons (tC (V.str part)) tNil) (start N_Wish_init [.ref x, g, s, p]) H1 E := fun {H1 part} hR => by
      refine ⟨by show 1 ≤ 1000; decide, fun a ha => ⟨a, .str part, rfl, upd_same, fun d hd hne => ⟨rfl, d, [("part", .str part)], upd_same, ?_, ?_, ?_⟩⟩⟩
      · rw [upd_ne hne]
        exact upd_same
      · rw [← hd, upd_ne hne]
      · have hd' : H1 d = none := by rw [← hd, upd_ne hne]
        refine hR d _ hd' (fun b o e => ?_) upd_same
        have n1 : b ≠ a := fun z => by rw [z, ha] at e; cases e
        have n2 : b ≠ d := fun z => by rw [z, hd'] at e; cases e
        rw [upd_ne n2, del_ne n1, upd_ne n1, upd_ne n2, upd_ne n1]
        exact e
    refine ⟨_, (pss_cons (ps_if (pt_not (pt_val (pe_callS (ok_are_different T) (hr.mono (by decide)) rfl T.mg_are_different T.kp_are_different T.bd_are_different (fun σ => passAt (takes_of rfl rfl rfl rfl) σ) (pa_cons (pv 1) (pa_cons (pe_glob (v := .str "abcdefghijklmnopqrstuvwxyz") rfl T.mg_GIVEN_LETTERS ⟨_, rfl⟩) (pa_cons (pe_glob (v := .int 3) rfl T.mg_MOST_GIVEN ⟨_, rfl⟩) pa_nil))))))
  (pss_one (ps_raise rfl (takes_of rfl rfl rfl rfl) (pmk_oex T.sup_NoWish.oex T.ii_NoWish T.ti_NoWish (ok_NoWish_init T) (hr.mono (by decide)) T.bd_NoWish_init .nil passL rfl T.mg_NoWish (pa_cons pe_str pa_nil))))
  pss_nil)
  (pss_cons (ps_if (pt_not (pt_val (pe_callS (ok_are_different T) (hr.mono (by decide)) rfl T.mg_are_different T.kp_are_different T.bd_are_different (fun σ => passAt (takes_of rfl rfl rfl rfl) σ) (pa_cons (pv 2) (pa_cons (pe_glob (v := .str "ABCDEFGHIJKLMNOPQRSTUVWXYZ") rfl T.mg_SAID_LETTERS ⟨_, rfl⟩) (pa_cons (pe_glob (v := .int 4) rfl T.mg_MOST_SAID ⟨_, rfl⟩) pa_nil))))))
  (pss_one (ps_raise rfl (takes_of rfl rfl rfl rfl) (pmk_oex T.sup_NoWish.oex T.ii_NoWish T.ti_NoWish (ok_NoWish_init T) (hr.mono (by decide)) T.bd_NoWish_init .nil passL rfl T.mg_NoWish (pa_cons pe_str pa_nil))))
  pss_nil)
  (pss_cons (ps_if (pt_not (pt_val (pe_callS (ok_are_pairs T) (hr.mono (by decide)) rfl T.mg_are_pairs T.kp_are_pairs T.bd_are_pairs (fun σ => passAt (takes_of rfl rfl rfl rfl) σ) (pa_cons (pv 3) (pa_cons (pv 1) (pa_cons (pv 2) pa_nil))))))
  (pss_one (ps_raise rfl (takes_of rfl rfl rfl rfl) (pmk_oex T.sup_NoWish.oex T.ii_NoWish T.ti_NoWish (ok_NoWish_init T) (hr.mono (by decide)) T.bd_NoWish_init .nil passL rfl T.mg_NoWish (pa_cons pe_str pa_nil))))
  pss_nil)
  (pss_one (ps_expr (pe_meth (pv 0) T.cl_Wish T.mt_Wishfill (ok_Wishfill T) (hr.mono (by decide)) T.bd_Wishfill .nil passL (pa_cons (pv 1) (pa_cons (pv 2) (pa_cons (pv 3) pa_nil))))))))), ?_⟩
    walk_at "rd"
    rw [lowers_tx, uppers_tx]
    rcases h with ⟨hb, hR⟩ | ⟨gv, rfl, hzg, hg, h⟩
    · rcases hb with ⟨l, rfl, hz, hno⟩ | hno
      · refine ⟨_, lowers, 3, rfl, .inl ⟨l, rfl, hz, fun H1 s1 => ?_⟩⟩
        walk_at "rd"
        rw [decide_eq_false hno]
        refine iteT ?_
        exact raise (refused_same hR s1)
      · refine ⟨_, lowers, 3, rfl, .inr ⟨hno, ?_⟩⟩
        walk_at "rd"
        refine iteT ?_
        exact raise hR
    refine ⟨_, lowers, 3, rfl, .inl ⟨gv, rfl, hzg, fun H1 s1 => ?_⟩⟩
    walk_at "rd"
    rw [decide_eq_true hg]
    refine iteF ?_
    walk_at "rd"
    rcases h with ⟨hb, hR⟩ | ⟨sd, rfl, hzs, hs, h⟩
    · rcases hb with ⟨l, rfl, hz, hno⟩ | hno
      · refine ⟨_, uppers, 4, rfl, .inl ⟨l, rfl, hz, fun H2 s2 => ?_⟩⟩
        walk_at "rd"
        rw [decide_eq_false hno]
        refine iteT ?_
        exact raise (refused_same hR (s1.trans s2))
      · refine ⟨_, uppers, 4, rfl, .inr ⟨notext_same hno s1, ?_⟩⟩
        walk_at "rd"
        refine iteT ?_
        exact raise (refused_same hR s1)
    refine ⟨_, uppers, 4, rfl, .inl ⟨sd, rfl, hzs, fun H2 s2 => ?_⟩⟩
    walk_at "rd"
    rw [decide_eq_true hs]
    refine iteF ?_
    walk_at "rd"
    have s12 := s1.trans s2
    rcases h with ⟨hb, hR⟩ | ⟨pa, ps, rfl, hpa, hzp, hok, hnd, k⟩
    · rcases hb with hno | ⟨a, xs, rfl, ha, hz, hit, hbad⟩
      · refine ⟨_, gv, sd, rfl, .inl ⟨nolist_same hno s12, fun H3 s3 => ?_⟩⟩
        walk_at "rd"
        refine iteT ?_
        exact raise (refused_same hR (s12.trans s3))
      · refine ⟨_, gv, sd, rfl, .inr ⟨a, xs, rfl, s12 _ _ ha, hz, fun y hy H' s' => hit y hy H' (s12.trans s'), fun hgd => absurd hgd hbad, fun _ H3 s3 => ?_⟩⟩
        walk_at "rd"
        refine iteT ?_
        exact raise (refused_same hR (s12.trans s3))
    have nxpa : pa ≠ x := fun e => by rw [e, hx] at hpa; cases hpa
    refine ⟨_, gv, sd, rfl, .inr ⟨pa, vTxs ps, rfl, s12 _ _ hpa, by rw [vTxs_len]; exact hzp, fun y hy H' s' => ?_, fun _ H3 s3 => ?_, fun hno => absurd ⟨ps, rfl, hok, hnd⟩ hno⟩⟩
    · obtain ⟨l, hl, rfl⟩ := vTxs_mem hy
      obtain ⟨_, _, _, _, e, _⟩ := hok l hl
      exact .inl ⟨l, rfl, by rw [e]; show 4 ≤ 40000; decide⟩
    walk_at "rd"
    refine iteF ?_
    walk_at "rd"
    have s03 : Same H H3 := s12.trans s3
    refine ⟨x, dx, _, rfl, s03 _ _ hx, rfl, ?_⟩
    walk_at "rd"
    refine ⟨x, dx, pa, gv, sd, ps, rfl, s03 _ _ hx, s03 _ _ hpa, hzg, hzs, hzp, hg, hs, hok, hnd, fun H4 k4 hw4 => ?_⟩
    exact k H4 (fun b o h n => k4 b o (s03 _ _ h) n) (hw4.older s03)
end

section
variable {P : Program} [NW.SupP P] {w : World} {K : PySem.W.Frag} {mg : Str → Option Value} {base : Heap}
/-! ### the hand: what draws leave -/
theorem rd_have {M : L2.St → Hp → Prop} {ts tu : TS} {D : Ends} {σ : L2.St} {H : Hp} (rest : ∀ σ' H', M σ' H' → tu D σ' H') (h : (∀ σ' H', M σ' H' → tu D σ' H') → tSeq ts tu D σ H) : tSeq ts tu D σ H := h rest
structure HandV (H : Hp) (h c : Addr) (ns : List Int) (i r s k : Int) : Prop where
  hh : H h = some (.lst [.ref c, .int i, .int r, .int s, .int k])
  hc : H c = some (.lst (ns.map V.int))
  ne : c ≠ h
  nn : ∀ n ∈ ns, 0 ≤ n
  i0 : 0 ≤ i
  r0 : 0 ≤ r
  ln : ns.length ≤ 63
def HandAt (H : Hp) (h c : Addr) : Prop := ∃ ns i r s k, HandV H h c ns i r s k
/-- all but h stands -/
def Keep1 (h : Addr) (H H' : Hp) : Prop := ∀ b o, H b = some o → b ≠ h → H' b = some o
theorem Keep1.refl (h : Addr) (H : Hp) : Keep1 h H H := fun _ _ e _ => e
theorem Keep1.trans {h : Addr} {H H1 H2 : Hp} (a : Keep1 h H H1) (b : Keep1 h H1 H2) : Keep1 h H H2 := fun c o e n => b c o (a c o e n) n
theorem Keep1.upd {h : Addr} {H H1 : Hp} {o : HO} (a : Keep1 h H H1) : Keep1 h H (upd H1 h o) := fun c u e n => by rw [upd_ne n]; exact a c u e n
theorem Keep1.same {h : Addr} {H H1 H2 : Hp} (a : Keep1 h H H1) (b : Same H1 H2) : Keep1 h H H2 := fun c o e n => b c o (a c o e n)
theorem Keep1.of {h : Addr} {H H2 : Hp} (b : Same H H2) : Keep1 h H H2 := fun c o e _ => b c o e
theorem HandAt.some {H : Hp} {h c : Addr} (a : HandAt H h c) : ∃ o, H h = some o := by
  obtain ⟨ns, i, r, s, k, v⟩ := a
  exact ⟨_, v.hh⟩
theorem Keep1.free {h c : Addr} {H H' : Hp} (k : Keep1 h H H') (a : HandAt H' h c) {p : Addr} (n : H' p = none) : H p = none := by
  cases q : H p with
  | none => rfl
  | some o =>
    by_cases e : p = h
    · obtain ⟨u, hu⟩ := a.some
      rw [e, hu] at n; cases n
    · rw [k p o q e] at n; cases n
theorem HandAt.same {H H' : Hp} {h c : Addr} (a : HandAt H h c) (s : Same H H') : HandAt H' h c := by
  obtain ⟨ns, i, r, s1, k, v⟩ := a
  exact ⟨ns, i, r, s1, k, s _ _ v.hh, s _ _ v.hc, v.ne, v.nn, v.i0, v.r0, v.ln⟩
/-- a new thing laid, or one changed that is not the hand's -/
theorem HandAt.upd {H : Hp} {h c p : Addr} {o : HO} (a : HandAt H h c) (n : H p = none) : HandAt (upd H p o) h c := a.same (Same.new n)
theorem HandAt.mut {H : Hp} {h c p : Addr} {o : HO} (a : HandAt H h c) (n : p ≠ h) (m : p ≠ c) : HandAt (L2.upd H p o) h c := by
  obtain ⟨ns, i, r, s1, k, v⟩ := a
  exact ⟨ns, i, r, s1, k, by rw [upd_ne n.symm]; exact v.hh, by rw [upd_ne m.symm]; exact v.hc, v.ne, v.nn, v.i0, v.r0, v.ln⟩
theorem HandAt.out {H : Hp} {h c p : Addr} (a : HandAt H h c) (n : H p = none) : p ≠ h ∧ p ≠ c := by
  obtain ⟨ns, i, r, s1, k, v⟩ := a
  exact ⟨fun e => (by rw [e, v.hh] at n; cases n), fun e => (by rw [e, v.hc] at n; cases n)⟩
theorem Keep1.mut {h p : Addr} {H H' : Hp} {o : HO} (k : Keep1 h H H') (n : H p = none) : Keep1 h H (L2.upd H' p o) := fun b u e m => by rw [upd_ne (ne_of_none e n)]; exact k b u e m
def sp_draw : Sp := fun vs H Q _ => ∃ h c many, vs = [.ref h, .int many] ∧ HandAt H h c ∧ 0 < many ∧ many.natAbs.log2 < 9000 ∧ ∀ H' d, 0 ≤ d → d < many → Keep1 h H H' → HandAt H' h c → Q (.int d) H'
theorem set_l {l : Addr} {xs : List V} {i : Int} {j : Nat} {v : V} {H : Hp} {q : Hp → Prop} (hl : H l = some (.lst xs)) (hj : ixN xs.length i = some j) (h : q (upd H l (.lst (xs.set j v)))) : rSetL (.ref l) (.int i) v H q :=
  ⟨l, xs, i, j, rfl, rfl, hl, hj, h⟩
theorem ok_Ldraw (T : Txt K mg) : FnOk P w K mg base (L2.CX P w) 1 T.f_Ldraw T.fd_Ldraw ["_law_hand_here", "_law_many"] sp_draw := by
  refine T.F_Ldraw.okX sc_Ldraw (fun vs H Q E h => ?_) (fun cdv A outer s H vs Q E hr h => ?_)
  · obtain ⟨_, _, _, rfl, _⟩ := h
    rfl
  · obtain ⟨h, c, many, rfl, ⟨ns, i, r, s0, k0, v⟩, hm0, hm9, k⟩ := h
    refine ⟨_, (pss_cons (ps_if (PW.pt (pw_and (pt_cmpR op_eq (pe_ix (ix_seqK (K := K) rfl) (pv 0) pe_int (fun _ _ => rfl)) pe_int (nomark _)) (pw_and1 (pt_cmpR op_lt (pe_ix (ix_seqK (K := K) rfl) (pv 0) pe_int (fun _ _ => rfl)) (pe_callB (call_lenK (K := K) rfl) (by rfl) T.b_len boot_len (pa_cons (pe_ix (ix_seqK (K := K) rfl) (pv 0) pe_int (fun _ _ => rfl)) pa_nil)) (nomark _)))))
  (pss_cons (ps_set (i := 2) sc_Ldraw.nd rfl (by first | exact Or.inl rfl | exact Or.inr rfl) (pe_ix (ix_seqK (K := K) rfl) (pe_ix (ix_seqK (K := K) rfl) (pv 0) pe_int (fun _ _ => rfl)) (pe_ix (ix_seqK (K := K) rfl) (pv 0) pe_int (fun _ _ => rfl)) (fun _ _ => rfl)))
  (pss_cons (ps_asg (pe_op op_addA (pe_ix (ix_seqK (K := K) rfl) (pv 0) pe_int (fun _ _ => rfl)) pe_int) (pg_sub (pv 0) pe_int set_list))
  (pss_cons (ps_asg (pe_op op_mod (pe_callTy call_intA (by rfl) T.b_int boot_int (pa_cons (pe_op op_addA (pe_op op_addA (pe_op op_mul (pe_ix (ix_seqK (K := K) rfl) (pv 0) pe_int (fun _ _ => rfl)) pe_int) (pv 2)) pe_int) pa_nil)) pe_int) (pg_sub (pv 0) pe_int set_list))
  (pss_one (ps_if (pt_cmpR op_ge (pv 2) (pe_op op_pow pe_int pe_int) (nomark _))
  (pss_one (ps_asg (pv 2) (pg_sub (pv 0) pe_int set_list)))
  pss_nil)))))
  pss_nil)
  (pss_cons (ps_if (pt_cmpR op_gt (pe_ix (ix_seqK (K := K) rfl) (pv 0) pe_int (fun _ _ => rfl)) pe_int (nomark _))
  (pss_cons (ps_set (i := 3) sc_Ldraw.nd rfl (by first | exact Or.inl rfl | exact Or.inr rfl) (pe_op op_mod (pe_callTy call_intA (by rfl) T.b_int boot_int (pa_cons (pe_ix (ix_seqK (K := K) rfl) (pv 0) pe_int (fun _ _ => rfl)) pa_nil)) (pv 1)))
  (pss_cons (ps_asg (pe_op op_fdivW (pe_ix (ix_seqK (K := K) rfl) (pv 0) pe_int (fun _ _ => rfl)) (pv 1)) (pg_sub (pv 0) pe_int set_list))
  (pss_one (ps_ret (pv 3)))))
  pss_nil)
  (pss_cons (ps_asg (pe_op op_addA (pe_ix (ix_seqK (K := K) rfl) (pv 0) pe_int (fun _ _ => rfl)) pe_int) (pg_sub (pv 0) pe_int set_list))
  (pss_cons (ps_set (i := 4) sc_Ldraw.nd rfl (by first | exact Or.inl rfl | exact Or.inr rfl) (pe_op op_mod (pe_callTy call_intA (by rfl) T.b_int boot_int (pa_cons (pe_op op_mul (pe_callTy call_intA (by rfl) T.b_int boot_int (pa_cons (pe_op op_addA (pe_ix (ix_seqK (K := K) rfl) (pv 0) pe_int (fun _ _ => rfl)) (pe_op op_mul pe_int (pe_ix (ix_seqK (K := K) rfl) (pv 0) pe_int (fun _ _ => rfl)))) pa_nil)) pe_int) pa_nil)) pe_int))
  (pss_cons (ps_set (i := 4) sc_Ldraw.nd rfl (by first | exact Or.inl rfl | exact Or.inr rfl) (pe_op op_mod (pe_callTy call_intA (by rfl) T.b_int boot_int (pa_cons (pe_op op_mul (pv 4) (pe_op op_addA (pe_op op_fdivW (pv 4) pe_int) pe_int)) pa_nil)) pe_int))
  (pss_cons (ps_set (i := 4) sc_Ldraw.nd rfl (by first | exact Or.inl rfl | exact Or.inr rfl) (pe_op op_mod (pe_callTy call_intA (by rfl) T.b_int boot_int (pa_cons (pe_op op_mul (pv 4) (pe_op op_addA (pe_op op_fdivW (pv 4) pe_int) pe_int)) pa_nil)) pe_int))
  (pss_one (ps_ret (pe_op op_mod (pe_callTy call_intA (by rfl) T.b_int boot_int (pa_cons (pe_op op_fdivW (pv 4) pe_int) pa_nil)) (pv 1)))))))))), ?_⟩
    refine rd_have (M := fun σ' H' => (∃ x, σ' = [some (.ref h), some (.int many), x, none, none]) ∧ HandAt H' h c ∧ Keep1 h H H') (fun σ' H1 hM => ?_) (fun rest => ?_)
    · obtain ⟨⟨x, rfl⟩, ⟨ns, i, r, s1, k1, v⟩, kp⟩ := hM
      walk_at "rd"
      refine rIx_l (SqL.of v.hh) rfl ?_
      walk_at "rd"
      by_cases hr0 : 0 < r
      · rw [decide_eq_true hr0]
        refine iteT ?_
        walk_at "rd"
        refine rIx_l (SqL.of v.hh) rfl ?_
        walk_at "rd"
        refine rI_i hm0 ?_
        walk_at "rd"
        refine rIx_l (SqL.of v.hh) rfl ?_
        walk_at "rd"
        refine rI_i ⟨hm0, hm9⟩ ?_
        walk_at "rd"
        refine set_l v.hh rfl ?_
        walk_at "rd"
        refine k _ _ (Int.emod_nonneg _ (by omega)) (Int.emod_lt_of_pos _ hm0) kp.upd ⟨ns, i, r / many, s1, k1, upd_same, by rw [upd_ne v.ne]; exact v.hc, v.ne, v.nn, v.i0, Int.ediv_nonneg v.r0 (by omega), v.ln⟩
      · rw [decide_eq_false hr0]
        refine iteF ?_
        walk_at "rd"
        refine rIx_l (SqL.of v.hh) rfl ?_
        walk_at "rd"
        refine set_l v.hh rfl ?_
        walk_at "rd"
        refine rIx_l (SqL.of upd_same) rfl ?_
        walk_at "rd"
        refine rIx_l (SqL.of upd_same) rfl ?_
        walk_at "rd"
        refine rI_i (.inl ⟨by decide, by decide⟩) ?_
        walk_at "rd"
        refine rI_i (.inr ⟨by decide, by decide⟩) ?_
        walk_at "rd"
        refine rI_i (show (0 : Int) < 2147483647 by decide) ?_
        walk_at "rd"
        generalize hn1 : ((s1 + 7919 * (k1 + 1)) * 48271) % 2147483647 = n1
        have b1 : 0 ≤ n1 ∧ n1 < 2147483647 := by rw [← hn1]; exact ⟨Int.emod_nonneg _ (by decide), Int.emod_lt_of_pos _ (by decide)⟩
        refine rI_i ⟨by decide, by decide⟩ ?_
        walk_at "rd"
        refine rI_i (.inl ⟨by omega, by omega⟩) ?_
        walk_at "rd"
        refine rI_i (show (0 : Int) < 2147483647 by decide) ?_
        walk_at "rd"
        generalize hn2 : (n1 * (n1 / 1009 + 69621)) % 2147483647 = n2
        have b2 : 0 ≤ n2 ∧ n2 < 2147483647 := by rw [← hn2]; exact ⟨Int.emod_nonneg _ (by decide), Int.emod_lt_of_pos _ (by decide)⟩
        refine rI_i ⟨by decide, by decide⟩ ?_
        walk_at "rd"
        refine rI_i (.inl ⟨by omega, by omega⟩) ?_
        walk_at "rd"
        refine rI_i (show (0 : Int) < 2147483399 by decide) ?_
        walk_at "rd"
        refine rI_i ⟨by decide, by decide⟩ ?_
        walk_at "rd"
        refine rI_i hm0 ?_
        exact k _ _ (Int.emod_nonneg _ (by omega)) (Int.emod_lt_of_pos _ hm0) kp.upd ⟨ns, i, r, s1, k1 + 1, upd_same, by rw [upd_ne v.ne]; exact v.hc, v.ne, v.nn, v.i0, v.r0, v.ln⟩
    · walk_at "rd"
      refine rIx_l (SqL.of v.hh) rfl ?_
      walk_at "rd"
      refine rEq_v rfl ?_
      walk_at "rd"
      rw [decide_int]
      have hv : HandAt H h c := ⟨ns, i, r, s0, k0, v⟩
      by_cases hr0 : r = 0
      · rw [decide_eq_true hr0]
        refine iteT ?_
        walk_at "rd"
        refine rIx_l (SqL.of v.hh) rfl ?_
        walk_at "rd"
        refine rIx_l (SqL.of v.hh) rfl ?_
        walk_at "rd"
        refine len_l (SqL.of v.hc) ?_
        walk_at "rd"
        rw [List.length_map]
        by_cases hi : i < (ns.length : Nat)
        · rw [decide_eq_true hi]
          refine iteT ?_
          walk_at "rd"
          refine rIx_l (SqL.of v.hh) rfl ?_
          walk_at "rd"
          refine rIx_l (SqL.of v.hh) rfl ?_
          have hi2 : i.toNat < ns.length := by have := v.i0; omega
          have hit : (ns.map V.int)[i.toNat]? = some (.int ns[i.toNat]) := by rw [List.getElem?_map, List.getElem?_eq_getElem hi2]; rfl
          have hic : ((i.toNat : Nat) : Int) = i := Int.toNat_of_nonneg v.i0
          refine rIx_l (SqL.of v.hc) (by rw [← hic]; exact atI_nat hit) ?_
          have hn0 : 0 ≤ ns[i.toNat] := v.nn _ (List.getElem_mem hi2)
          generalize ns[i.toNat] = cell at hn0
          walk_at "rd"
          refine rIx_l (SqL.of v.hh) rfl ?_
          walk_at "rd"
          refine set_l v.hh rfl ?_
          walk_at "rd"
          refine rIx_l (SqL.of upd_same) rfl ?_
          walk_at "rd"
          refine rI_i (.inr ⟨by decide, by decide⟩) ?_
          walk_at "rd"
          refine rI_i (show (0 : Int) < 2147483629 by decide) ?_
          walk_at "rd"
          refine set_l upd_same rfl ?_
          walk_at "rd"
          refine rI_i ⟨by decide, by decide, by decide⟩ ?_
          walk_at "rd"
          by_cases hg : (10 : Int) ^ (18 : Int).toNat ≤ cell
          · rw [decide_eq_true hg]
            refine iteT ?_
            walk_at "rd"
            refine set_l upd_same rfl ?_
            refine rest _ _ ⟨⟨_, rfl⟩, ⟨ns, i + 1, cell, _, k0, upd_same, ?_, v.ne, v.nn, by have := v.i0; omega, hn0, v.ln⟩, ((Keep1.refl h H).upd.upd).upd⟩
            rw [upd_ne v.ne, upd_ne v.ne, upd_ne v.ne]
            exact v.hc
          · rw [decide_eq_false hg]
            refine iteF ?_
            refine rest _ _ ⟨⟨_, rfl⟩, ⟨ns, i + 1, r, _, k0, upd_same, ?_, v.ne, v.nn, by have := v.i0; omega, v.r0, v.ln⟩, ((Keep1.refl h H).upd).upd⟩
            rw [upd_ne v.ne, upd_ne v.ne]
            exact v.hc
        · rw [decide_eq_false hi]
          refine iteF ?_
          exact rest _ _ ⟨⟨_, rfl⟩, hv, Keep1.refl h H⟩
      · rw [decide_eq_false hr0]
        refine iteF (iteF ?_)
        exact rest _ _ ⟨⟨_, rfl⟩, hv, Keep1.refl h H⟩
end

section
variable {P : Program} [NW.SupP P] {w : World} {K : PySem.W.Frag} {mg : Str → Option Value} {base : Heap}
def absV1 : V → V
  | .int i => .int (if i < 0 then -i else i)
  | v => v
def sp_hand (K : PySem.W.Frag) : Sp := fun vs H Q _ => ∃ a, ∃ ns : List Int, vs = [.ref a] ∧ SqL K H a (ns.map V.int) ∧ ∀ p c H', H p = none → H c = none → Same H H' → HandAt H' p c → Q (.ref p) H'
theorem ok_Lhand (T : Txt K mg) : FnOk P w K mg base (L2.CX P w) 1 T.f_Lhand T.fd_Lhand ["_law_script"] (sp_hand K) := by
  refine T.F_Lhand.okX sc_Lhand (fun vs H Q E h => ?_) (fun cdv A outer s H vs Q E hr h => ?_)
  · obtain ⟨_, _, rfl, _⟩ := h
    rfl
  · obtain ⟨a, ns, rfl, ha, k⟩ := h
    refine ⟨_, (pss_cons (ps_setLc (i := 1) (own := [("_law_cell", 2)]) rfl sc_Lhand.nd rfl rfl (sw_true rfl rfl rfl (by decide +kernel)) (pi_listK (K := K) rfl (pe_slice (sl_anyK (K := K) rfl) (pv 0) po_none (po_some pe_int))) (blkOk_by (N := N_Lhand) (sc := defScope s_Lhand) (by decide +kernel))
   (fun _ _ _ _ _ => (pg_name (i := 2) sc_Lhand.nd rfl (by first | exact Or.inl rfl | exact Or.inr rfl))) (fun _ _ _ _ _ => pts_nil) (fun _ _ _ _ _ => (pe_callB call_absA (by rfl) T.b_abs boot_abs (pa_cons (pe_callTy call_intA (by rfl) T.b_int boot_int (pa_cons (pv 2) pa_nil)) pa_nil))))
  (pss_one (ps_ret (pe_lst (pa_cons (pv 1) (pa_cons pe_int (pa_cons pe_int (pa_cons (pe_op op_addA pe_int (pe_callB (call_lenK (K := K) rfl) (by rfl) T.b_len boot_len (pa_cons (pv 1) pa_nil))) (pa_cons pe_int pa_nil))))))))), ?_⟩
    walk_at "rd"
    have hl : (cutV (ns.map V.int) none (some ((63 : Nat) : Int))).length ≤ 63 := by rw [cutV_to, List.length_take]; omega
    refine rd_L (el_lcN (xs := cutV (ns.map V.int) none (some ((63 : Nat) : Int))) (fun _ => true) absV1 (el_slA (Evl.ev_var rfl) Evl.eo_none (Evl.eo_some Evl.ev_c) ha) (by omega) (fun _ => rfl) (fun _ _ _ _ => ev_yes) (fun x hx H1 _ _ H2 _ Q' q => ?_)) fun c H1 hc s1 h1 => ?_
    · rw [cutV_to] at hx
      obtain ⟨i, _, rfl⟩ := List.mem_map.mp (List.mem_of_mem_take hx)
      walk_at "rd"
      exact q H2 (Evl.Ex.refl _)
    rw [List.filter_eq_self.mpr (fun _ _ => rfl), cutV_to, ← List.map_take, List.map_map] at h1
    have h1' : H1 c = some (.lst (((ns.take 63).map fun i => if i < 0 then -i else i).map V.int)) := by
      rw [h1, List.map_map]
      rfl
    walk_at "rd"
    refine rd_lst ?_
    walk_at "rd"
    refine len_l (SqL.of h1') ?_
    walk_at "rd"
    refine ⟨by show 5 ≤ sizeLine; decide, fun p hp => ?_⟩
    have ne : c ≠ p := ne_of_none h1' hp
    refine k p c _ (s1.free hp) hc (s1.trans (Same.new hp)) ⟨_, 0, 0, _, 0, upd_same, by rw [upd_ne ne]; exact h1', ne, fun n hn => ?_, by decide, by decide, ?_⟩
    · obtain ⟨i, _, rfl⟩ := List.mem_map.mp hn
      split <;> omega
    · rw [List.length_map, List.length_take]
      omega
theorem nat_of {d : Int} {n : Nat} (h0 : 0 ≤ d) (h1 : d < (n : Int)) : ∃ k : Nat, d = (k : Nat) ∧ k < n := ⟨d.toNat, by omega, by omega⟩
theorem log9 {n : Nat} (h : n ≤ 100000) : ((n : Nat) : Int).natAbs.log2 < 9000 := by
  have h1 : ((n : Nat) : Int).natAbs = n := Int.natAbs_natCast n
  rw [h1]
  by_cases h0 : n = 0
  · subst h0; decide
  · have := Nat.log2_lt h0 (k := 17)
    have h2 : n < 2 ^ 17 := by omega
    have := this.mpr h2
    omega
end

section
variable {P : Program} [NW.SupP P] {w : World} {K : PySem.W.Frag} {mg : Str → Option Value} {base : Heap}
/-- the signs of S, drawn one by one -/
def sp_letters : Sp := fun vs H Q _ => ∃ h c0 S n, vs = [.ref h, .str (tx S), .int (n : Nat)] ∧ HandAt H h c0 ∧ S.Nodup ∧ S.length ≤ 1000 ∧ n ≤ S.length ∧
  ∀ H' l, l.length = n → l.Nodup → (∀ c ∈ l, c ∈ S) → Keep1 h H H' → HandAt H' h c0 → Q (.str (tx l)) H'
theorem ok_Lletters (T : Txt K mg) : FnOk P w K mg base (L2.CX P w) 2 T.f_Lletters T.fd_Lletters ["_law_hand_here", "_law_signs", "_law_many"] sp_letters := by
  refine T.F_Lletters.okX sc_Lletters (fun vs H Q E h => ?_) (fun cdv A outer s H vs Q E hr h => ?_)
  · obtain ⟨_, _, _, _, rfl, _⟩ := h
    rfl
  · obtain ⟨h, c0, S, n, rfl, hh, hnd, hz, hn, k⟩ := h
    refine ⟨_, (pss_cons (ps_set (i := 3) sc_Lletters.nd rfl (by first | exact Or.inl rfl | exact Or.inr rfl) (pv 1))
  (pss_cons (ps_set (i := 4) sc_Lletters.nd rfl (by first | exact Or.inl rfl | exact Or.inr rfl) pe_str)
  (pss_cons (ps_for (passes_of rfl) rfl (pi_range1 rfl T.b_range (pa_cons (pv 2) pa_nil)) (pg_name (i := 5) sc_Lletters.nd rfl (by first | exact Or.inl rfl | exact Or.inr rfl))
  (pss_cons (ps_set (i := 6) sc_Lletters.nd rfl (by first | exact Or.inl rfl | exact Or.inr rfl) (pe_callS (ok_Ldraw T) (hr.mono (by decide)) rfl T.mg_Ldraw T.kp_Ldraw T.bd_Ldraw (fun σ => passAt (takes_of rfl rfl rfl rfl) σ) (pa_cons (pv 0) (pa_cons (pe_callB (call_lenK (K := K) rfl) (by rfl) T.b_len boot_len (pa_cons (pv 3) pa_nil)) pa_nil))))
  (pss_cons (ps_set (i := 4) sc_Lletters.nd rfl (by first | exact Or.inl rfl | exact Or.inr rfl) (pe_op op_addA (pv 4) (pe_ix (ix_seqK (K := K) rfl) (pv 3) (pv 6) (fun _ _ => rfl))))
  (pss_one (ps_set (i := 3) sc_Lletters.nd rfl (by first | exact Or.inl rfl | exact Or.inr rfl) (pe_op op_addA (pe_slice (sl_anyK (K := K) rfl) (pv 3) po_none (po_some (pv 6))) (pe_slice (sl_anyK (K := K) rfl) (pv 3) (po_some (pe_op op_addA (pv 6) pe_int)) po_none)))))))
  (pss_one (ps_ret (pv 4)))))), ?_⟩
    walk_at "rd"
    rw [empty_tx]
    refine rd_rng (n := n) (by omega) (Evl.ea_cons (Evl.ev_var rfl) Evl.ea_nil)
      (fun i σ' H' => ∃ f r o1 o2, σ' = [some (.ref h), some (.str (tx S)), some (.int (n : Nat)), some (.str (tx r)), some (.str (tx f)), o1, o2] ∧ f.length = i ∧ r.length + i = S.length ∧ (f ++ r).Nodup ∧ (∀ c ∈ f ++ r, c ∈ S) ∧ Keep1 h H H' ∧ HandAt H' h c0)
      (fun H1 s1 => ⟨[], S, none, none, rfl, rfl, rfl, hnd, fun c hc => hc, Keep1.of s1, hh.same s1⟩) (fun i σ' H' hi p => ?_) (fun σ' H' p => ?_)
    · obtain ⟨f, r, o1, o2, rfl, hf, hrl, hnd1, hsub, kp, ha⟩ := p
      walk_at "rd"
      refine len_s (l := r) (by omega) ?_
      walk_at "rd"
      refine ⟨h, c0, _, rfl, ha, by omega, log9 (by omega), fun H2 d h0 h1 k2 ha2 => ?_⟩
      obtain ⟨j, rfl, hj⟩ := nat_of h0 h1
      walk_at "rd"
      have hjr : r[j]? = some (r.getD j 0) := by simp [List.getD, List.getElem?_eq_getElem hj]
      refine rIx_s (l := r) (by omega) (atI_nat hjr) ?_
      refine rAdd_s (by simp; omega) ?_
      walk_at "rd"
      refine sl_s (l := r) (cutS_to r j) (by omega) ?_
      walk_at "rd"
      refine sl_s (l := r) (m := r.drop (j + 1)) (cutS_from r (j + 1)) (by omega) ?_
      refine rAdd_s (by rw [List.length_take, List.length_drop]; omega) ?_
      walk_at "rd"
      have er : r = r.take j ++ (r.getD j 0 :: r.drop (j + 1)) := by
        conv => lhs; rw [← List.take_append_drop j r]
        congr 1
        rw [List.drop_eq_getElem_cons hj]
        simp [List.getD, List.getElem?_eq_getElem hj]
      have pm : (f ++ [r.getD j 0] ++ (r.take j ++ r.drop (j + 1))).Perm (f ++ r) := by
        rw [List.append_assoc]
        refine List.Perm.append_left f ?_
        conv => rhs; rw [er]
        show (r.getD j 0 :: (r.take j ++ r.drop (j + 1))).Perm _
        exact List.perm_middle.symm
      refine ⟨_, _, _, _, rfl, by rw [List.length_append, hf]; rfl, ?_, pm.nodup_iff.mpr hnd1, fun c hc => hsub c (pm.mem_iff.mp hc), kp.trans k2, ha2⟩
      rw [List.length_append, List.length_take, List.length_drop]
      omega
    · obtain ⟨f, r, o1, o2, rfl, hf, _, hnd1, hsub, kp, ha⟩ := p
      walk_at "rd"
      exact k H' f hf (List.nodup_append.mp hnd1).1 (fun c hc => hsub c (List.mem_append_left _ hc)) kp ha
end

section
variable {P : Program} [NW.SupP P] {w : World} {K : PySem.W.Frag} {mg : Str → Option Value} {base : Heap}
theorem cells_succ {gv sd : List Nat} {i c : Nat} (h : gv[i]? = some c) : cellsOf (gv.take (i + 1)) sd = cellsOf (gv.take i) sd ++ sd.map fun s => [c, s] := by
  unfold cellsOf
  rw [take_succ_get h, List.flatMap_append]
  simp
theorem row_cells (c : Nat) (sd : List Nat) : ((vSgs sd).filter fun _ => true).map (fun y => V.str (tx ([c] ++ unS y))) = vTxs (sd.map fun s => [c, s]) := by
  rw [List.filter_eq_self.mpr (fun _ _ => rfl)]
  unfold vSgs vTxs
  rw [List.map_map, List.map_map]
  rfl
def sp_cells : Sp := fun vs H Q _ => ∃ gv sd, vs = [.str (tx gv), .str (tx sd)] ∧ gv.length ≤ 100 ∧ sd.length ≤ 100 ∧ ∀ p H', H p = none → Same H H' → H' p = some (.lst (vTxs (cellsOf gv sd))) → Q (.ref p) H'
theorem ok_Lcells (T : Txt K mg) : FnOk P w K mg base (L2.CX P w) 1 T.f_Lcells T.fd_Lcells ["_law_given", "_law_said"] sp_cells := by
  refine T.F_Lcells.okX sc_Lcells (fun vs H Q E h => ?_) (fun cdv A outer s H vs Q E hr h => ?_)
  · obtain ⟨_, _, rfl, _⟩ := h
    rfl
  · obtain ⟨gv, sd, rfl, hg, hs, k⟩ := h
    refine ⟨_, (pss_cons (ps_set (i := 2) sc_Lcells.nd rfl (by first | exact Or.inl rfl | exact Or.inr rfl) (pe_lst pa_nil))
  (pss_cons (ps_for (passes_of rfl) rfl (pi_str (pv 0)) (pg_name (i := 3) sc_Lcells.nd rfl (by first | exact Or.inl rfl | exact Or.inr rfl))
  (pss_one (ps_set (i := 2) sc_Lcells.nd rfl (by first | exact Or.inl rfl | exact Or.inr rfl) (pe_op op_addA (pv 2) (pe_lc (own := [("_law_word", 4)]) rfl sc_Lcells.nd (pi_str (pv 1)) (blkOk_by (N := N_Lcells) (sc := defScope s_Lcells) (by decide +kernel))
   (fun _ _ _ _ _ => (pg_name (i := 4) sc_Lcells.nd rfl (by first | exact Or.inl rfl | exact Or.inr rfl))) (fun _ _ _ _ _ => pts_nil) (fun _ _ _ _ _ => (pe_op op_addA (pv 3) (pv 4))))))))
  (pss_one (ps_ret (pv 2))))), ?_⟩
    walk_at "rd"
    refine rd_lst (rd_nil ⟨Nat.zero_le _, fun a ha => ?_⟩)
    walk_at "rd"
    refine rd_for (xs := vSgs gv) (wk_str (Evl.ev_var rfl)) (fun i σ' H' => ∃ b o, σ' = [some (.str (tx gv)), some (.str (tx sd)), some (.ref b), o, none] ∧ Same H H' ∧ H b = none ∧ H' b = some (.lst (vTxs (cellsOf (gv.take i) sd))))
      (fun H1 s1 => ⟨a, none, rfl, (Same.new ha).trans s1, ha, s1 _ _ upd_same⟩) (fun _ _ _ _ _ => trivial) (fun i x σ' H' hx p => ?_) (fun σ' H' p => ?_)
    · obtain ⟨b, o, rfl, s2, hb0, hb⟩ := p
      obtain ⟨c, hc, rfl⟩ := vSgs_at hx
      walk_at "rd"
      refine rd_L (el_lc (xs := vSgs sd) (wk_str (Evl.ev_var rfl)) (fun _ => true) (fun y => .str (tx ([c] ++ unS y))) (by rw [vSgs_len]; omega) (fun _ => rfl) (fun _ _ _ _ => ev_yes) (fun y hy H3 _ _ H4 _ Q' q => ?_)) fun p H3 hp s3 h3 => ?_
      · obtain ⟨d, _, rfl⟩ := vSgs_mem hy
        walk_at "rd"
        refine rAdd_s (by show 1 + 1 ≤ 100000; decide) ?_
        exact q H4 (Evl.Ex.refl _)
      rw [row_cells] at h3
      have hle : (cellsOf (gv.take i) sd).length ≤ 100 * 100 := by
        rw [cellsOf_len]
        exact Nat.mul_le_mul (by rw [List.length_take]; omega) hs
      refine rAdd_l (s3 _ _ hb) h3 (by rw [vTxs_len, vTxs_len, List.length_map]; omega) fun p2 hp2 => ?_
      walk_at "rd"
      refine ⟨p2, _, rfl, (s2.trans s3).trans (Same.new hp2), (s2.trans s3).free hp2, ?_⟩
      rw [upd_same, vTxs_app, cells_succ hc]
    · obtain ⟨b, o, rfl, s2, hb0, hb⟩ := p
      rw [vSgs_len, List.take_length] at hb
      walk_at "rd"
      exact k b H' hb0 s2 hb
end

section
variable {P : Program} [NW.SupP P] {w : World} {K : PySem.W.Frag} {mg : Str → Option Value} {base : Heap}
def sp_fits : Sp := fun vs H Q _ => ∃ (kind : Int) (gv sd : List Nat) (a b c d : Nat), vs = [.int kind, .str (tx gv), .str (tx sd), .str (tx [a, b]), .str (tx [c, d])] ∧ gv ≠ [] ∧ sd ≠ [] ∧ gv.length ≤ 1000 ∧ sd.length ≤ 1000 ∧
  ∀ b H', Same H H' → Q (.bl b) H'
theorem ok_Lfits (T : Txt K mg) : FnOk P w K mg base (L2.CX P w) 1 T.f_Lfits T.fd_Lfits ["_law_kind", "_law_given", "_law_said", "_law_one", "_law_other"] sp_fits := by
  refine T.F_Lfits.okX sc_Lfits (fun vs H Q E h => ?_) (fun cdv A outer s H vs Q E hr h => ?_)
  · obtain ⟨_, _, _, _, _, _, _, rfl, _⟩ := h
    rfl
  · obtain ⟨kind, gv, sd, a, b, c, d, rfl, hg, hs, hzg, hzs, k⟩ := h
    have hs0 : 0 < sd.length := List.length_pos_iff.mpr hs
    refine ⟨_, (pss_cons (ps_set (i := 5) sc_Lfits.nd rfl (by first | exact Or.inl rfl | exact Or.inr rfl) (pe_bmA (K := K) rfl (pe_bm PySem.F.plainAttrs_str PySem.F.slot_str_find PySem.F.type_str_find mt_findA (pv 2) (pa_cons (pe_ix (ix_seqK (K := K) rfl) (pv 3) pe_int (fun _ _ => rfl)) pa_nil))))
  (pss_cons (ps_set (i := 6) sc_Lfits.nd rfl (by first | exact Or.inl rfl | exact Or.inr rfl) (pe_bmA (K := K) rfl (pe_bm PySem.F.plainAttrs_str PySem.F.slot_str_find PySem.F.type_str_find mt_findA (pv 2) (pa_cons (pe_ix (ix_seqK (K := K) rfl) (pv 4) pe_int (fun _ _ => rfl)) pa_nil))))
  (pss_cons (ps_set (i := 7) sc_Lfits.nd rfl (by first | exact Or.inl rfl | exact Or.inr rfl) (pe_op op_sub (pe_callB (call_lenK (K := K) rfl) (by rfl) T.b_len boot_len (pa_cons (pv 2) pa_nil)) pe_int))
  (pss_cons (ps_if (pt_cmpR op_eq (pv 0) pe_int (nomark _))
  (pss_one (ps_ret (pe_or (pe_cmpR op_eq (pv 6) (pv 5) (nomark _)) (pe_one (pe_cmpR op_eq (pv 6) (pe_op op_mod (pe_callTy call_intA (by rfl) T.b_int boot_int (pa_cons (pe_op op_addA (pv 5) pe_int) pa_nil)) (pe_callB (call_lenK (K := K) rfl) (by rfl) T.b_len boot_len (pa_cons (pv 2) pa_nil))) (nomark _))))))
  pss_nil)
  (pss_cons (ps_if (pt_cmpR op_eq (pv 0) pe_int (nomark _))
  (pss_one (ps_ret (pe_cmpR op_eq (pv 6) (pe_op op_mod (pe_callTy call_intA (by rfl) T.b_int boot_int (pa_cons (pe_op op_addA (pv 5) pe_int) pa_nil)) (pe_callB (call_lenK (K := K) rfl) (by rfl) T.b_len boot_len (pa_cons (pv 2) pa_nil))) (nomark _))))
  pss_nil)
  (pss_cons (ps_if (PW.pt (pw_or (pt_cmpR op_lt (pv 0) pe_int (nomark _)) (pw_or (pt_cmpR op_eq (pe_callB (call_lenK (K := K) rfl) (by rfl) T.b_len boot_len (pa_cons (pv 1) pa_nil)) pe_int (nomark _)) (pw_or1 (pt_cmpR op_lt (pv 7) pe_int (nomark _))))))
  (pss_one (ps_ret (pe_cmpR op_ne (pv 5) (pv 6) (nomark _))))
  pss_nil)
  (pss_cons (ps_set (i := 8) sc_Lfits.nd rfl (by first | exact Or.inl rfl | exact Or.inr rfl) (pe_lst (pa_cons (pe_cmpR op_eq (pe_ix (ix_seqK (K := K) rfl) (pv 3) pe_int (fun _ _ => rfl)) (pe_ix (ix_seqK (K := K) rfl) (pv 1) (pe_un un_neg pe_int) (fun _ _ => rfl)) (nomark _)) (pa_cons (pe_cmpR op_eq (pe_ix (ix_seqK (K := K) rfl) (pv 4) pe_int (fun _ _ => rfl)) (pe_ix (ix_seqK (K := K) rfl) (pv 1) (pe_un un_neg pe_int) (fun _ _ => rfl)) (nomark _)) pa_nil))))
  (pss_cons (ps_if (pt_cmpR (op_eqDK (K := K) rfl (hu64 hr)) (pv 8) (pe_lst (pa_cons pe_bl (pa_cons pe_bl pa_nil))) (nomark _))
  (pss_one (ps_ret (pe_and (pe_cmpR op_eq (pv 5) pe_int (nomark _)) (pe_one (pe_cmpR op_eq (pv 6) pe_int (nomark _))))))
  pss_nil)
  (pss_cons (ps_if (pt_cmpR (op_eqDK (K := K) rfl (hu64 hr)) (pv 8) (pe_lst (pa_cons pe_bl (pa_cons pe_bl pa_nil))) (nomark _))
  (pss_one (ps_ret (pe_and (pe_cmpR op_eq (pv 5) pe_int (nomark _)) (pe_one (pe_cmpR op_lt (pv 6) (pv 7) (nomark _))))))
  pss_nil)
  (pss_cons (ps_if (pt_cmpR (op_eqDK (K := K) rfl (hu64 hr)) (pv 8) (pe_lst (pa_cons pe_bl (pa_cons pe_bl pa_nil))) (nomark _))
  (pss_one (ps_ret (pe_and (pe_cmpR op_eq (pv 6) pe_int (nomark _)) (pe_one (pe_cmpR op_lt (pv 5) (pv 7) (nomark _))))))
  pss_nil)
  (pss_cons (ps_if (PW.pt (pw_or (pt_cmpR op_eq (pv 5) (pv 7) (nomark _)) (pw_or1 (pt_cmpR op_eq (pv 6) (pv 7) (nomark _)))))
  (pss_one (ps_ret (pe_cmpR op_eq (pv 5) (pv 6) (nomark _))))
  pss_nil)
  (pss_one (ps_ret (pe_cmpR op_ne (pv 5) (pv 6) (nomark _))))))))))))))), ?_⟩
    walk_at "rd"
    refine rIx_s (l := [a, b]) (c := b) (by show 2 ≤ 100000; decide) rfl ?_
    walk_at "rd"
    refine rIx_s (l := [c, d]) (c := d) (by show 2 ≤ 100000; decide) rfl ?_
    walk_at "rd"
    generalize hf1 : Txt.find _ _ = f1
    generalize hf2 : Txt.find _ _ = f2
    refine len_s (l := sd) (by omega) ?_
    walk_at "rd"
    refine rEq_v rfl ?_
    walk_at "rd"
    refine both ?_ ?_
    · walk_at "rd"
      refine rEq_v rfl ?_
      walk_at "rd"
      refine both (k _ _ (Same.refl _)) ?_
      walk_at "rd"
      refine len_s (l := sd) (by omega) ?_
      refine rI_i (by omega) ?_
      refine rEq_v rfl ?_
      exact k _ _ (Same.refl _)
    walk_at "rd"
    refine rEq_v rfl ?_
    walk_at "rd"
    refine both ?_ ?_
    · walk_at "rd"
      refine len_s (l := sd) (by omega) ?_
      refine rI_i (by omega) ?_
      refine rEq_v rfl ?_
      exact k _ _ (Same.refl _)
    walk_at "rd"
    refine both (iteT ?_) ?_
    · walk_at "rd"
      exact rNe_v rfl (k _ _ (Same.refl _))
    walk_at "rd"
    refine len_s (l := gv) (by omega) ?_
    walk_at "rd"
    refine rEq_v rfl ?_
    walk_at "rd"
    refine both (iteT ?_) ?_
    · walk_at "rd"
      exact rNe_v rfl (k _ _ (Same.refl _))
    walk_at "rd"
    refine both ?_ ?_
    · walk_at "rd"
      exact rNe_v rfl (k _ _ (Same.refl _))
    walk_at "rd"
    obtain ⟨e, _, he, _⟩ := atI_end hg
    refine rd_lst ?_
    walk_at "rd"
    refine rIx_s (l := [a, b]) (c := a) (by show 2 ≤ 100000; decide) rfl ?_
    walk_at "rd"
    refine rIx_s (l := gv) (c := e) (by omega) he ?_
    refine rEq_v rfl ?_
    walk_at "rd"
    refine rIx_s (l := [c, d]) (c := c) (by show 2 ≤ 100000; decide) rfl ?_
    walk_at "rd"
    refine rIx_s (l := gv) (c := e) (by omega) he ?_
    refine rEq_v rfl ?_
    walk_at "rd"
    generalize decide (V.str (tx [a]) = V.str (tx [e])) = b1
    generalize decide (V.str (tx [c]) = V.str (tx [e])) = b2
    refine ⟨by show 2 ≤ sizeLine; decide, fun p hp => ?_⟩
    walk_at "rd"
    refine rd_lst ?_
    walk_at "rd"
    refine ⟨by show 2 ≤ sizeLine; decide, fun p2 hp2 => ?_⟩
    have e1 : ∀ (H1 : Hp), Same (upd H p (.lst [.bl b1, .bl b2])) H1 → SqL K H1 p (vBls [b1, b2]) := fun H1 s1 => SqL.of (s1 _ _ upd_same)
    refine eqD_of (item_list item_bl) (by decide) (fun _ _ => trivial) (fun _ _ => trivial) (dp_bls (bs := [b1, b2]) (e1 _ (Same.new hp2))) (dp_bls (bs := [true, true]) (SqL.of upd_same)) ?_
    walk_at "rd"
    have s2 := (Same.new hp (o := .lst [.bl b1, .bl b2])).trans (Same.new hp2 (o := .lst [.bl true, .bl true]))
    have d2 := Same.new hp2 (o := .lst [.bl true, .bl true])
    refine both ?_ ?_
    · walk_at "rd"
      refine rEq_v rfl ?_
      walk_at "rd"
      refine both ?_ (k _ _ s2)
      walk_at "rd"
      exact rEq_v rfl (k _ _ s2)
    walk_at "rd"
    refine rd_lst ?_
    walk_at "rd"
    refine ⟨by show 2 ≤ sizeLine; decide, fun p3 hp3 => ?_⟩
    have d3 := d2.trans (Same.new hp3 (o := .lst [.bl true, .bl false]))
    have s3 := s2.trans (Same.new hp3 (o := .lst [.bl true, .bl false]))
    refine eqD_of (item_list item_bl) (by decide) (fun _ _ => trivial) (fun _ _ => trivial) (dp_bls (bs := [b1, b2]) (e1 _ d3)) (dp_bls (bs := [true, false]) (SqL.of upd_same)) ?_
    walk_at "rd"
    refine both ?_ ?_
    · walk_at "rd"
      refine rEq_v rfl ?_
      walk_at "rd"
      refine both ?_ (k _ _ s3)
      walk_at "rd"
      exact k _ _ s3
    walk_at "rd"
    refine rd_lst ?_
    walk_at "rd"
    refine ⟨by show 2 ≤ sizeLine; decide, fun p4 hp4 => ?_⟩
    have d4 := d3.trans (Same.new hp4 (o := .lst [.bl false, .bl true]))
    have s4 := s3.trans (Same.new hp4 (o := .lst [.bl false, .bl true]))
    refine eqD_of (item_list item_bl) (by decide) (fun _ _ => trivial) (fun _ _ => trivial) (dp_bls (bs := [b1, b2]) (e1 _ d4)) (dp_bls (bs := [false, true]) (SqL.of upd_same)) ?_
    walk_at "rd"
    refine both ?_ ?_
    · walk_at "rd"
      refine rEq_v rfl ?_
      walk_at "rd"
      refine both ?_ (k _ _ s4)
      walk_at "rd"
      exact k _ _ s4
    walk_at "rd"
    refine rEq_v rfl ?_
    walk_at "rd"
    refine both (iteT ?_) ?_
    · walk_at "rd"
      exact rEq_v rfl (k _ _ s4)
    walk_at "rd"
    refine rEq_v rfl ?_
    walk_at "rd"
    refine both ?_ ?_
    · walk_at "rd"
      exact rEq_v rfl (k _ _ s4)
    walk_at "rd"
    exact rNe_v rfl (k _ _ s4)
end

section
variable {P : Program} [NW.SupP P] {w : World} {K : PySem.W.Frag} {mg : Str → Option Value} {base : Heap}
def gridP (cs ds : List (List Nat)) : List (List Nat) := cs.flatMap fun x => ds.map fun y => x ++ y
theorem grid_len (cs ds : List (List Nat)) : (gridP cs ds).length = cs.length * ds.length := by
  unfold gridP
  induction cs with
  | nil => simp
  | cons a r ih => rw [List.flatMap_cons, List.length_append, ih, List.length_map, List.length_cons, Nat.succ_mul, Nat.add_comm]
theorem grid_succ {cs ds : List (List Nat)} {i : Nat} {x : List Nat} (h : cs[i]? = some x) : gridP (cs.take (i + 1)) ds = gridP (cs.take i) ds ++ ds.map fun y => x ++ y := by
  unfold gridP
  rw [take_succ_get h, List.flatMap_append]
  simp
theorem nodup_flat {α β : Type} {l : List α} {f : α → List β} (h1 : ∀ a ∈ l, (f a).Nodup) (h2 : l.Pairwise fun a b => ∀ x ∈ f a, ∀ y ∈ f b, x ≠ y) : (l.flatMap f).Nodup :=
  List.pairwise_flatMap.mpr ⟨h1, h2⟩
theorem grid_nodup {cs ds : List (List Nat)} (hc : cs.Nodup) (hd : ds.Nodup) (h2 : ∀ x ∈ cs, x.length = 2) : (gridP cs ds).Nodup := by
  refine nodup_flat (fun a _ => List.Pairwise.map _ (fun x y hxy e => hxy (List.append_cancel_left e)) hd) ?_
  refine hc.imp_of_mem fun {a b} ha hb hab x hx y hy e => ?_
  obtain ⟨u, _, rfl⟩ := List.mem_map.mp hx
  obtain ⟨v, _, rfl⟩ := List.mem_map.mp hy
  exact hab (List.append_inj_left e (by rw [h2 a ha, h2 b hb]))
theorem cells_nodup {gv sd : List Nat} (hg : gv.Nodup) (hs : sd.Nodup) : (cellsOf gv sd).Nodup := by
  unfold cellsOf
  refine nodup_flat (fun a _ => List.Pairwise.map _ (fun x y hxy e => hxy (by cases e; rfl)) hs) ?_
  refine hg.imp fun {a b} hab x hx y hy e => ?_
  obtain ⟨u, _, rfl⟩ := List.mem_map.mp hx
  obtain ⟨v, _, rfl⟩ := List.mem_map.mp hy
  cases e
  exact hab rfl
theorem grid_ok {gv sd : List Nat} {x : List Nat} (h : x ∈ gridP (cellsOf gv sd) (cellsOf gv sd)) : OkPair gv sd x := by
  obtain ⟨a, ha, h⟩ := List.mem_flatMap.mp h
  obtain ⟨b, hb, rfl⟩ := List.mem_map.mp h
  obtain ⟨a1, a2, rfl, h1, h2⟩ := cellsOf_two ha
  obtain ⟨b1, b2, rfl, h3, h4⟩ := cellsOf_two hb
  exact OkPair.four.mpr ⟨h1, h3, h2, h4⟩
/-- what stands while the pairs are made -/
def PI (h c a5 p6 : Addr) (cs : List (List Nat)) (H : Hp) (pre : List (List Nat)) (H' : Hp) : Prop :=
  ∃ ps, ps.Sublist pre ∧ Keep1 h H H' ∧ HandAt H' h c ∧ H' a5 = some (.lst (vTxs cs)) ∧ H' p6 = some (.lst (vTxs ps))
section
variable {h c a5 p6 : Addr} {cs : List (List Nat)} {H H1 H2 : Hp} {pre pre' : List (List Nat)}
theorem PI.draw (p : PI h c a5 p6 cs H pre H1) (n5 : a5 ≠ h) (n6 : p6 ≠ h) (k : Keep1 h H1 H2) (hh : HandAt H2 h c) : PI h c a5 p6 cs H pre H2 := by
  obtain ⟨ps, h1, h2, h3, h4, h5⟩ := p
  exact ⟨ps, h1, h2.trans k, hh, k _ _ h4 n5, k _ _ h5 n6⟩
theorem PI.same (p : PI h c a5 p6 cs H pre H1) (s : Same H1 H2) : PI h c a5 p6 cs H pre H2 := by
  obtain ⟨ps, h1, h2, h3, h4, h5⟩ := p
  exact ⟨ps, h1, h2.same s, h3.same s, s _ _ h4, s _ _ h5⟩
theorem PI.skip (p : PI h c a5 p6 cs H pre H1) (s : pre.Sublist pre') : PI h c a5 p6 cs H pre' H1 := by
  obtain ⟨ps, h1, h2, h3, h4, h5⟩ := p
  exact ⟨ps, h1.trans s, h2, h3, h4, h5⟩
theorem PI.hand (p : PI h c a5 p6 cs H pre H1) : HandAt H1 h c := by
  obtain ⟨ps, h1, h2, h3, h4, h5⟩ := p
  exact h3
theorem PI.cells (p : PI h c a5 p6 cs H pre H1) : H1 a5 = some (.lst (vTxs cs)) := by
  obtain ⟨ps, h1, h2, h3, h4, h5⟩ := p
  exact h4
theorem PI.app (p : PI h c a5 p6 cs H pre H1) (x : List Nat) (h6 : H p6 = none) (n5 : a5 ≠ p6) (nh : p6 ≠ h) (nc : p6 ≠ c) (hz : pre.length ≤ 100000) {σ' : L2.St} {Q : VK} (q : ∀ H2, PI h c a5 p6 cs H (pre ++ [x]) H2 → Q .non H2) :
    tyV K "list" (.ref p6) H1 ∧ rAppend (.ref p6) [.str (tx x)] H1 Q := by
  obtain ⟨ps, h1, h2, h3, h4, h5⟩ := p
  refine ⟨ty_lst (SqL.of h5), put_l h5 (by rw [vTxs_len]; exact Nat.le_trans h1.length_le hz) (q _ ⟨ps ++ [x], ?_, h2.mut h6, h3.mut nh nc, by rw [upd_ne n5]; exact h4, ?_⟩)⟩
  · exact List.Sublist.append h1 (List.Sublist.refl _)
  · rw [upd_same]
    unfold vTxs
    rw [List.map_append]
    rfl
end
def sp_pairs : Sp := fun vs H Q _ => ∃ h c gv sd, vs = [.ref h, .str (tx gv), .str (tx sd)] ∧ HandAt H h c ∧ gv ≠ [] ∧ sd ≠ [] ∧ gv.Nodup ∧ sd.Nodup ∧ gv.length ≤ 4 ∧ sd.length ≤ 5 ∧
  ∀ p H' ps, H p = none → Keep1 h H H' → HandAt H' h c → H' p = some (.lst (vTxs ps)) → ps.Nodup → (∀ x ∈ ps, OkPair gv sd x) → ps.length ≤ 1000 → Q (.ref p) H'
theorem ok_Lpairs (T : Txt K mg) : FnOk P w K mg base (L2.CX P w) 2 T.f_Lpairs T.fd_Lpairs ["_law_hand_here", "_law_given", "_law_said"] sp_pairs := by
  refine T.F_Lpairs.okX sc_Lpairs (fun vs H Q E h => ?_) (fun cdv A outer s H vs Q E hr h => ?_)
  · obtain ⟨_, _, _, _, rfl, _⟩ := h
    rfl
  · obtain ⟨h, c, gv, sd, rfl, hh, hg, hs, hng, hns, hzg, hzs, k⟩ := h
    refine ⟨_, (pss_cons (ps_set (i := 3) sc_Lpairs.nd rfl (by first | exact Or.inl rfl | exact Or.inr rfl) (pe_callS (ok_Ldraw T) (hr.mono (by decide)) rfl T.mg_Ldraw T.kp_Ldraw T.bd_Ldraw (fun σ => passAt (takes_of rfl rfl rfl rfl) σ) (pa_cons (pv 0) (pa_cons pe_int pa_nil))))
  (pss_cons (ps_set (i := 4) sc_Lpairs.nd rfl (by first | exact Or.inl rfl | exact Or.inr rfl) (pe_op op_addA pe_int (pe_callS (ok_Ldraw T) (hr.mono (by decide)) rfl T.mg_Ldraw T.kp_Ldraw T.bd_Ldraw (fun σ => passAt (takes_of rfl rfl rfl rfl) σ) (pa_cons (pv 0) (pa_cons pe_int pa_nil)))))
  (pss_cons (ps_set (i := 5) sc_Lpairs.nd rfl (by first | exact Or.inl rfl | exact Or.inr rfl) (pe_callS (ok_Lcells T) (hr.mono (by decide)) rfl T.mg_Lcells T.kp_Lcells T.bd_Lcells (fun σ => passAt (takes_of rfl rfl rfl rfl) σ) (pa_cons (pv 1) (pa_cons (pv 2) pa_nil))))
  (pss_cons (ps_set (i := 6) sc_Lpairs.nd rfl (by first | exact Or.inl rfl | exact Or.inr rfl) (pe_lst pa_nil))
  (pss_cons (ps_for (passes_of rfl) rfl (pi_listK (K := K) rfl (pv 5)) (pg_name (i := 7) sc_Lpairs.nd rfl (by first | exact Or.inl rfl | exact Or.inr rfl))
  (pss_one (ps_for (passes_of rfl) rfl (pi_listK (K := K) rfl (pv 5)) (pg_name (i := 8) sc_Lpairs.nd rfl (by first | exact Or.inl rfl | exact Or.inr rfl))
  (pss_cons (ps_set (i := 9) sc_Lpairs.nd rfl (by first | exact Or.inl rfl | exact Or.inr rfl) (pe_or (pe_cmpR op_lt (pv 3) pe_int (nomark _)) (pe_one (pe_callS (ok_Lfits T) (hr.mono (by decide)) rfl T.mg_Lfits T.kp_Lfits T.bd_Lfits (fun σ => passAt (takes_of rfl rfl rfl rfl) σ) (pa_cons (pv 3) (pa_cons (pv 1) (pa_cons (pv 2) (pa_cons (pv 7) (pa_cons (pv 8) pa_nil)))))))))
  (pss_one (ps_if (PW.pt (pw_and (pt_val (pv 9)) (pw_and1 (PW.pt (pw_or (pt_cmpR op_gt (pv 3) pe_int (nomark _)) (pw_or1 (pt_cmpR op_lt (pe_callS (ok_Ldraw T) (hr.mono (by decide)) rfl T.mg_Ldraw T.kp_Ldraw T.bd_Ldraw (fun σ => passAt (takes_of rfl rfl rfl rfl) σ) (pa_cons (pv 0) (pa_cons pe_int pa_nil))) (pe_op op_addA (pv 4) (pe_callTy call_intA (by rfl) T.b_int boot_int (pa_cons (pe_cmpR op_gt (pv 3) pe_int (nomark _)) pa_nil))) (nomark _))))))))
  (pss_one (ps_expr (pe_bmA (K := K) rfl (pe_bm PySem.F.plainAttrs_list PySem.F.slot_list_append PySem.F.type_list_append mt_append (pv 6) (pa_cons (pe_op op_addA (pv 7) (pv 8)) pa_nil)))))
  pss_nil))))))
  (pss_one (ps_ret (pv 6)))))))), ?_⟩
    walk_at "rd"
    refine ⟨h, c, 8, rfl, hh, by decide, by decide, fun H1 kind _ _ k1 hh1 => ?_⟩
    walk_at "rd"
    refine ⟨h, c, 3, rfl, hh1, by decide, by decide, fun H2 d2 _ _ k2 hh2 => ?_⟩
    walk_at "rd"
    refine ⟨gv, sd, rfl, by omega, by omega, fun a5 H3 ha5 s3 h5 => ?_⟩
    walk_at "rd"
    refine rd_lst (rd_nil ⟨Nat.zero_le _, fun p6 hp6 => ?_⟩)
    walk_at "rd"
    have hlc : (cellsOf gv sd).length ≤ 20 := by
      rw [cellsOf_len]
      exact Nat.mul_le_mul hzg hzs
    have kp : Keep1 h H H3 := (k1.trans k2).same s3
    have hh3 := hh2.same s3
    have z5 : H a5 = none := (k1.trans k2).free hh2 ha5
    have z6 : H p6 = none := kp.free hh3 hp6
    have n5 := hh2.out ha5
    have n6 := hh3.out hp6
    have n56 : a5 ≠ p6 := ne_of_none h5 hp6
    have p0 : PI h c a5 p6 (cellsOf gv sd) H [] (upd H3 p6 (.lst [])) := ⟨[], List.Sublist.refl _, kp.same (Same.new hp6), hh3.upd hp6, upd_keep hp6 h5, upd_same⟩
    generalize hcs : cellsOf gv sd = cs at *
    refine rd_for (xs := vTxs cs) (wk_list (Evl.ev_var rfl) (SqL.of p0.cells))
      (fun i σ' H' => ∃ o7 o8 o9, σ' = [some (.ref h), some (.str (tx gv)), some (.str (tx sd)), some (.int kind), some (.int (1 + d2)), some (.ref a5), some (.ref p6), o7, o8, o9] ∧ PI h c a5 p6 cs H (gridP (cs.take i) cs) H')
      (fun H4 s4 => ⟨none, none, none, rfl, p0.same s4⟩) (fun i σ' H' _ q => ?_) (fun i x σ' H' hx q => ?_) (fun σ' H' q => ?_)
    · obtain ⟨_, _, _, _, q⟩ := q
      exact SqL.of q.cells
    · obtain ⟨o7, o8, o9, rfl, q0⟩ := q
      obtain ⟨x, hxi, rfl⟩ := vTxs_at hx
      have hxc : x ∈ cellsOf gv sd := by rw [hcs]; exact List.mem_of_getElem? hxi
      obtain ⟨xa, xb, ex, _⟩ := cellsOf_two hxc
      have hi : i < cs.length := (List.getElem?_eq_some_iff.mp hxi).1
      walk_at "rd"
      refine rd_for (xs := vTxs cs) (wk_list (Evl.ev_var rfl) (SqL.of q0.cells))
        (fun j σ' H' => ∃ o8 o9, σ' = [some (.ref h), some (.str (tx gv)), some (.str (tx sd)), some (.int kind), some (.int (1 + d2)), some (.ref a5), some (.ref p6), some (.str (tx x)), o8, o9] ∧ PI h c a5 p6 cs H (gridP (cs.take i) cs ++ (cs.take j).map fun y => x ++ y) H')
        (fun H4 s4 => ⟨o8, o9, rfl, by simpa using q0.same s4⟩) (fun j σ' H' _ q => ?_) (fun j y σ' H' hy q => ?_) (fun σ' H' q => ?_)
      · obtain ⟨_, _, _, q⟩ := q
        exact SqL.of q.cells
      · obtain ⟨o8, o9, rfl, q⟩ := q
        obtain ⟨y, hyj, rfl⟩ := vTxs_at hy
        have hyc : y ∈ cellsOf gv sd := by rw [hcs]; exact List.mem_of_getElem? hyj
        obtain ⟨ya, yb, ey, _⟩ := cellsOf_two hyc
        have hzp : (gridP (cs.take i) cs ++ (cs.take j).map fun y => x ++ y).length ≤ 100000 := by
          rw [List.length_append, grid_len, List.length_map, List.length_take, List.length_take]
          have : min i cs.length * cs.length ≤ 20 * 20 := Nat.mul_le_mul (by omega) hlc
          omega
        have esucc : (gridP (cs.take i) cs ++ (cs.take (j + 1)).map fun y => x ++ y) = (gridP (cs.take i) cs ++ (cs.take j).map fun y => x ++ y) ++ [x ++ y] := by
          rw [take_succ_get hyj, List.map_append, List.append_assoc]
          rfl
        refine rd_name ?_
        refine rd_have (M := fun σ' H4 => ∃ b, σ' = [some (.ref h), some (.str (tx gv)), some (.str (tx sd)), some (.int kind), some (.int (1 + d2)), some (.ref a5), some (.ref p6), some (.str (tx x)), some (.str (tx y)), some (.bl b)] ∧ Same H' H4) (fun σ' H4 hM => ?_) (fun rest => ?_)
        · obtain ⟨b, rfl, s4⟩ := hM
          have q4 := q.same s4
          walk_at "rd"
          have skip : ∀ H5, PI h c a5 p6 cs H (gridP (cs.take i) cs ++ (cs.take j).map fun y => x ++ y) H5 → PI h c a5 p6 cs H (gridP (cs.take i) cs ++ (cs.take (j + 1)).map fun y => x ++ y) H5 := fun H5 q5 => by
            rw [esucc]
            exact q5.skip (List.sublist_append_left _ _)
          cases b with
          | false =>
            refine iteF (iteF ?_)
            walk_at "rd"
            exact ⟨_, _, rfl, skip _ q4⟩
          | true =>
            refine iteT ?_
            walk_at "rd"
            refine both (iteT ?_) ?_
            · walk_at "rd"
              refine ⟨(q4.app (x ++ y) z6 n56 n6.1 n6.2 hzp (σ' := []) (Q := fun _ _ => True) (fun _ _ => trivial)).1, ?_⟩
              walk_at "rd"
              refine rAdd_s (by rw [ex, ey]; show 2 + 2 ≤ 100000; decide) ?_
              walk_at "rd"
              refine (q4.app (K := K) (x ++ y) z6 n56 n6.1 n6.2 hzp (σ' := []) (fun H5 q5 => ?_)).2
              exact ⟨_, _, rfl, by rw [esucc]; exact q5⟩
            · walk_at "rd"
              refine ⟨h, c, 4, rfl, q4.hand, by decide, by decide, fun H5 d5 _ _ k5 hh5 => ?_⟩
              have q5 := q4.draw n5.1 n6.1 k5 hh5
              walk_at "rd"
              refine both ?_ ?_
              · walk_at "rd"
                refine ⟨(q5.app (x ++ y) z6 n56 n6.1 n6.2 hzp (σ' := []) (Q := fun _ _ => True) (fun _ _ => trivial)).1, ?_⟩
                walk_at "rd"
                refine rAdd_s (by rw [ex, ey]; show 2 + 2 ≤ 100000; decide) ?_
                walk_at "rd"
                refine (q5.app (K := K) (x ++ y) z6 n56 n6.1 n6.2 hzp (σ' := []) (fun H6 q6 => ?_)).2
                exact ⟨_, _, rfl, by rw [esucc]; exact q6⟩
              · walk_at "rd"
                exact ⟨_, _, rfl, skip _ q5⟩
        · walk_at "rd"
          refine both (rest _ _ ⟨_, rfl, Same.refl _⟩) ?_
          walk_at "rd"
          refine ⟨kind, gv, sd, xa, xb, ya, yb, by rw [ex, ey], hg, hs, by omega, by omega, fun b H4 s4 => ?_⟩
          exact rest _ _ ⟨b, rfl, s4⟩
      · obtain ⟨o8, o9, rfl, q⟩ := q
        rw [vTxs_len, List.take_length, ← grid_succ hxi] at q
        exact ⟨_, _, _, rfl, q⟩
    · obtain ⟨o7, o8, o9, rfl, q⟩ := q
      rw [vTxs_len, List.take_length] at q
      obtain ⟨ps, g1, g2, g3, g4, g5⟩ := q
      walk_at "rd"
      refine k p6 H' ps z6 g2 g3 g5 ?_ (fun x hx => ?_) ?_
      · refine (grid_nodup ?_ ?_ fun x hx => ?_).sublist g1
        · rw [← hcs]; exact cells_nodup hng hns
        · rw [← hcs]; exact cells_nodup hng hns
        · rw [← hcs] at hx
          obtain ⟨a, b, rfl, _⟩ := cellsOf_two hx
          rfl
      · have := g1.mem hx
        rw [← hcs] at this
        exact grid_ok this
      · have h1 := g1.length_le
        rw [grid_len] at h1
        have := Nat.mul_le_mul hlc hlc
        omega
end

theorem okTx_of {l : List Nat} (h : ∀ c ∈ l, c < 1114112) : okTx l := by
  show (tx l).cps.all (· < 0x110000) = true
  rw [Array.all_eq_true]
  intro i hi
  have hi' : i < l.length := by
    have := tx_size l
    omega
  exact decide_eq_true (show l[i] < 0x110000 from h _ (List.getElem_mem hi'))

theorem mem_lowers {c : Nat} (h : c ∈ lowers) : 97 ≤ c ∧ c ≤ 122 := by
  unfold lowers at h
  obtain ⟨i, hi, rfl⟩ := List.mem_map.mp h
  have := List.mem_range.mp hi
  omega
theorem mem_uppers {c : Nat} (h : c ∈ uppers) : 65 ≤ c ∧ c ≤ 90 := by
  unfold uppers at h
  obtain ⟨i, hi, rfl⟩ := List.mem_map.mp h
  have := List.mem_range.mp hi
  omega

section
variable {P : Program} [NW.SupP P] {w : World} {K : PySem.W.Frag} {mg : Str → Option Value} {base : Heap}
def sp_Wcells (C : Addr) : Sp := fun vs H Q _ => ∃ a gv sd ps, vs = [.ref a] ∧ IsWish C H a gv sd ps ∧ ∀ p H', H p = none → Same H H' → H' p = some (.lst (vTxs (cellsOf gv sd))) → Q (.ref p) H'
theorem ok_Wish_cells (T : Txt K mg) : FnOk P w K mg base (L2.CX P w) 1 T.f_Wish_cells T.fd_Wish_cells ["self"] (sp_Wcells T.C_Wish) := by
  refine T.F_Wish_cells.okX sc_Wish_cells (fun vs H Q E h => ?_) (fun cdv A outer s H vs Q E hr h => ?_)
  · obtain ⟨_, _, _, _, rfl, _⟩ := h
    rfl
  · obtain ⟨a, gv, sd, ps, rfl, ⟨cl, al, pl, ⟨dx, kd, h1⟩, h2, h3, h4⟩, k⟩ := h
    refine ⟨_, (pss_one (ps_ret (pe_callTy (call_listB (K := K) rfl rfl) (by rfl) T.b_list boot_list (pa_cons (pe_fldK (K := K) rfl (pv 0) rfl) pa_nil)))), ?_⟩
    walk_at "rd"
    refine ⟨a, T.C_Wish, dx, _, _, rfl, h1, T.cl_Wish, T.na_Wish_cells, wf_cells, ?_⟩
    exact list_b (SqL.of h2) fun l hl => k l _ hl (Same.new hl) upd_same
def sp_Wpairs (C : Addr) : Sp := fun vs H Q _ => ∃ a gv sd ps, vs = [.ref a] ∧ IsWish C H a gv sd ps ∧ ∀ p H', H p = none → Same H H' → H' p = some (.lst (vTxs (pairsOf gv sd ps))) → Q (.ref p) H'
theorem ok_Wish_pairs (T : Txt K mg) : FnOk P w K mg base (L2.CX P w) 1 T.f_Wish_pairs T.fd_Wish_pairs ["self"] (sp_Wpairs T.C_Wish) := by
  refine T.F_Wish_pairs.okX sc_Wish_pairs (fun vs H Q E h => ?_) (fun cdv A outer s H vs Q E hr h => ?_)
  · obtain ⟨_, _, _, _, rfl, _⟩ := h
    rfl
  · obtain ⟨a, gv, sd, ps, rfl, ⟨cl, al, pl, ⟨dx, kd, h1⟩, h2, h3, h4⟩, k⟩ := h
    refine ⟨_, (pss_one (ps_ret (pe_callTy (call_listB (K := K) rfl rfl) (by rfl) T.b_list boot_list (pa_cons (pe_fldK (K := K) rfl (pv 0) rfl) pa_nil)))), ?_⟩
    walk_at "rd"
    refine ⟨a, T.C_Wish, dx, _, _, rfl, h1, T.cl_Wish, T.na_Wish_pairs, wf_pairs, ?_⟩
    exact list_b (SqL.of h4) fun l hl => k l _ hl (Same.new hl) upd_same
end

section
variable {P : Program} [NW.SupP P] {w : World} {K : PySem.W.Frag} {mg : Str → Option Value} {base : Heap}
/-- the pairs of a wish are texts that can be told apart -/
def Flat (gv sd : List Nat) (ps : List (List Nat)) : Prop := okAll okTx (pairsOf gv sd ps)
/-- what is no wish -/
def NoWishV (K : PySem.W.Frag) (C : Addr) (H : Hp) (y : V) : Prop := ∃ t, TyE K H y t ∧ PySem.W.kitOne K t (.ref C) = some false ∧ PySem.W.notFirst K C t = true
def sp_Weq (K : PySem.W.Frag) (C : Addr) : Sp := fun vs H Q _ => ∃ a gv sd ps y, vs = [.ref a, y] ∧ IsWish C H a gv sd ps ∧ Flat gv sd ps ∧
  ((NoWishV K C H y ∧ ∀ H', Same H H' → Q (.bl false) H') ∨ ∃ b g2 s2 p2, y = .ref b ∧ IsWish C H b g2 s2 p2 ∧ Flat g2 s2 p2 ∧ ∀ H', Same H H' → Q (.bl (decide (gv = g2) && (decide (sd = s2) && decide (pairsOf gv sd ps = pairsOf g2 s2 p2)))) H')
theorem wish_ty {H : Hp} {a : Addr} {gv sd : List Nat} {ps : List (List Nat)} (T : Txt K mg) (h : IsWish T.C_Wish H a gv sd ps) : TyE K H (.ref a) (.ref T.C_Wish) := by
  obtain ⟨cl, al, pl, ⟨dx, kd, h1⟩, _⟩ := h
  exact .inl (.base (.ins h1 T.cl_Wish T.oq_cl_Wish T.oq_gt_Wish T.oq_tk_Wish T.oq_mr_Wish))
theorem ok_Wish_eq (T : Txt K mg) : FnOk P w K mg base (L2.CX P w) 1 T.f_Wish_eq T.fd_Wish_eq ["self", "other"] (sp_Weq K T.C_Wish) := by
  refine T.F_Wish_eq.okX sc_Wish_eq (fun vs H Q E h => ?_) (fun cdv A outer s H vs Q E hr h => ?_)
  · obtain ⟨_, _, _, _, _, rfl, _⟩ := h
    rfl
  · obtain ⟨a, gv, sd, ps, y, rfl, hw, hf, h⟩ := h
    have hu := hu_of hr
    refine ⟨_, (pss_one (ps_ret (pe_and (pe_callB (call_isiE (K := K) rfl) (by rfl) T.b_isinstance boot_isinstance (pa_cons (pv 1) (pa_cons (pe_glob (v := .ref T.C_Wish) rfl T.mg_Wish rfl) pa_nil))) (pe_and (pe_cmpR op_eq (pe_fldK (K := K) rfl (pv 0) rfl) (pe_fldK (K := K) rfl (pv 1) rfl) (nomark _)) (pe_and (pe_cmpR op_eq (pe_fldK (K := K) rfl (pv 0) rfl) (pe_fldK (K := K) rfl (pv 1) rfl) (nomark _)) (pe_one (pe_cmpR (op_eqDK (K := K) rfl (hu64 hr)) (pe_fldK (K := K) rfl (pv 0) rfl) (pe_fldK (K := K) rfl (pv 1) rfl) (nomark _)))))))), ?_⟩
    walk_at "rd"
    rcases h with ⟨⟨t, ht, hk, _⟩, k⟩ | ⟨b, g2, s2, p2, rfl, hw2, hf2, k⟩
    · refine ⟨_, _, _, _, false, rfl, .own T.C_Wish, ht, hk, ?_⟩
      walk_at "rd"
      exact k H (Same.refl _)
    · refine ⟨_, _, _, _, true, rfl, .own T.C_Wish, wish_ty T hw2, ?_, ?_⟩
      · unfold PySem.W.kitOne
        rw [if_pos (by simp)]
      walk_at "rd"
      obtain ⟨cl, al, pl, ⟨dx, kd, h1⟩, h2, h3, h4⟩ := id hw
      obtain ⟨cl', al', pl', ⟨dx', kd', h1'⟩, h2', h3', h4'⟩ := id hw2
      refine iteT ?_
      walk_at "rd"
      refine ⟨a, T.C_Wish, dx, _, _, rfl, h1, T.cl_Wish, T.na_Wish_given, wf_given, ?_⟩
      walk_at "rd"
      refine ⟨b, T.C_Wish, dx', _, _, rfl, h1', T.cl_Wish, T.na_Wish_given, wf_given, ?_⟩
      refine rEq_v rfl ?_
      have e1 : decide (V.str (tx gv) = V.str (tx g2)) = decide (gv = g2) := decide_eq_decide.mpr ⟨fun h => tx_inj (V.str.inj h), fun h => by rw [h]⟩
      have e2 : decide (V.str (tx sd) = V.str (tx s2)) = decide (sd = s2) := decide_eq_decide.mpr ⟨fun h => tx_inj (V.str.inj h), fun h => by rw [h]⟩
      rw [e1]
      by_cases hg : gv = g2
      · rw [decide_eq_true hg] at k ⊢
        refine ⟨true, rfl, iteT ?_⟩
        walk_at "rd"
        refine ⟨a, T.C_Wish, dx, _, _, rfl, h1, T.cl_Wish, T.na_Wish_said, wf_said, ?_⟩
        walk_at "rd"
        refine ⟨b, T.C_Wish, dx', _, _, rfl, h1', T.cl_Wish, T.na_Wish_said, wf_said, ?_⟩
        refine rEq_v rfl ?_
        rw [e2]
        by_cases hsd : sd = s2
        · rw [decide_eq_true hsd] at k ⊢
          refine ⟨true, rfl, iteT ?_⟩
          walk_at "rd"
          refine ⟨a, T.C_Wish, dx, _, _, rfl, h1, T.cl_Wish, T.na_Wish_pairs, wf_pairs, ?_⟩
          walk_at "rd"
          refine ⟨b, T.C_Wish, dx', _, _, rfl, h1', T.cl_Wish, T.na_Wish_pairs, wf_pairs, ?_⟩
          refine eqD_of (item_list item_tx) (by decide) hf hf2 (dp_txs (SqL.of h4)) (dp_txs (SqL.of h4')) ?_
          exact k H (Same.refl _)
        · rw [decide_eq_false hsd] at k ⊢
          refine ⟨false, rfl, iteF ?_⟩
          exact k H (Same.refl _)
      · rw [decide_eq_false hg] at k ⊢
        refine ⟨false, rfl, iteF ?_⟩
        exact k H (Same.refl _)
end

section
variable {P : Program} [NW.SupP P] {w : World} {K : PySem.W.Frag} {mg : Str → Option Value} {base : Heap}
/-! ### the pairs of a wish, by the places of their cells -/
def ixC (cs : List (List Nat)) (c : List Nat) : Nat := cs.idxOf c
theorem ixC_lt {cs : List (List Nat)} {c : List Nat} (h : c ∈ cs) : ixC cs c < cs.length := List.idxOf_lt_length_of_mem h
theorem ixC_get {cs : List (List Nat)} {c : List Nat} (h : c ∈ cs) : cs[ixC cs c]? = some c := by
  have := ixC_lt h
  rw [List.getElem?_eq_getElem this]
  congr 1
  exact List.getElem_idxOf this
theorem ixC_first {cs : List (List Nat)} (hn : cs.Nodup) {c : List Nat} (h : c ∈ cs) : ∀ i, i < ixC cs c → cs[i]? ≠ some c := fun i hi e => by
  have h1 := ixC_get h
  have := (List.getElem?_inj (by have := ixC_lt h; omega) hn).mp (e.trans h1.symm)
  omega
def ijOf (cs : List (List Nat)) (p : List Nat) : Nat × Nat := (ixC cs (p.take 2), ixC cs (p.drop 2))
def leP (a b : Nat × Nat) : Bool := decide (a.1 < b.1 ∨ (a.1 = b.1 ∧ a.2 ≤ b.2))
def ixs (cs ps : List (List Nat)) : List (Nat × Nat) := (List.range cs.length).flatMap fun i => ((List.range cs.length).filter fun j => decide (cs.getD i [] ++ cs.getD j [] ∈ ps)).map fun j => (i, j)
theorem range_lt (n : Nat) : (List.range n).Pairwise (· < ·) := by
  induction n with
  | zero => exact .nil
  | succ n ih =>
    rw [List.range_succ, List.pairwise_append]
    exact ⟨ih, List.pairwise_singleton .., fun a ha b hb => by rw [List.mem_singleton.mp hb]; exact List.mem_range.mp ha⟩
theorem ixs_up (cs ps : List (List Nat)) : (ixs cs ps).Pairwise fun a b => a.1 < b.1 ∨ (a.1 = b.1 ∧ a.2 < b.2) := by
  unfold ixs
  rw [List.pairwise_flatMap]
  refine ⟨fun i _ => ?_, (range_lt _).imp fun {a b} hab x hx y hy => ?_⟩
  · rw [List.pairwise_map]
    exact ((range_lt _).filter _).imp fun {a b} hab => .inr ⟨rfl, hab⟩
  · obtain ⟨_, _, rfl⟩ := List.mem_map.mp hx
    obtain ⟨_, _, rfl⟩ := List.mem_map.mp hy
    exact .inl hab
theorem ok_cut {gv sd p : List Nat} (h : OkPair gv sd p) : p.take 2 ∈ cellsOf gv sd ∧ p.drop 2 ∈ cellsOf gv sd ∧ p.length = 4 := by
  obtain ⟨a, b, c, d, rfl, h1, h2, h3, h4⟩ := h
  refine ⟨?_, ?_, rfl⟩
  · exact List.mem_flatMap.mpr ⟨a, h1, List.mem_map.mpr ⟨b, h3, rfl⟩⟩
  · exact List.mem_flatMap.mpr ⟨c, h2, List.mem_map.mpr ⟨d, h4, rfl⟩⟩
theorem getD_ix {cs : List (List Nat)} {c : List Nat} (h : c ∈ cs) : cs.getD (ixC cs c) [] = c := by simp [List.getD, ixC_get h]
theorem ij_perm {gv sd : List Nat} {ps : List (List Nat)} (hg : gv.Nodup) (hs : sd.Nodup) (hp : ∀ p ∈ ps, OkPair gv sd p) (hn : ps.Nodup) : (ps.map (ijOf (cellsOf gv sd))).Perm (ixs (cellsOf gv sd) ps) := by
  have hcn := cells_nodup hg hs
  have back : ∀ p ∈ ps, (cellsOf gv sd).getD (ijOf (cellsOf gv sd) p).1 [] ++ (cellsOf gv sd).getD (ijOf (cellsOf gv sd) p).2 [] = p := fun p h => by
    obtain ⟨h1, h2, _⟩ := ok_cut (hp p h)
    show (cellsOf gv sd).getD (ixC _ (p.take 2)) [] ++ (cellsOf gv sd).getD (ixC _ (p.drop 2)) [] = p
    rw [getD_ix h1, getD_ix h2, List.take_append_drop]
  have n1 : (ps.map (ijOf (cellsOf gv sd))).Nodup := List.pairwise_map.mpr (hn.imp_of_mem fun {x y} hx hy hxy e => hxy (by rw [← back x hx, ← back y hy, e]))
  have n2 : (ixs (cellsOf gv sd) ps).Nodup := (ixs_up _ _).imp fun {a b} h e => by rw [e] at h; omega
  refine (List.perm_ext_iff_of_nodup n1 n2).mpr fun q => ?_
  rw [List.mem_map]
  constructor
  · rintro ⟨p, h, rfl⟩
    obtain ⟨h1, h2, _⟩ := ok_cut (hp p h)
    refine List.mem_flatMap.mpr ⟨_, List.mem_range.mpr (ixC_lt h1), List.mem_map.mpr ⟨_, List.mem_filter.mpr ⟨List.mem_range.mpr (ixC_lt h2), ?_⟩, rfl⟩⟩
    have e := back p h
    refine decide_eq_true ?_
    show (cellsOf gv sd).getD (ijOf (cellsOf gv sd) p).1 [] ++ (cellsOf gv sd).getD (ijOf (cellsOf gv sd) p).2 [] ∈ ps
    rw [e]
    exact h
  · intro h
    obtain ⟨i, hi, h⟩ := List.mem_flatMap.mp h
    obtain ⟨j, hj, rfl⟩ := List.mem_map.mp h
    obtain ⟨hj, hd⟩ := List.mem_filter.mp hj
    have hi := List.mem_range.mp hi
    have hj := List.mem_range.mp hj
    have hd := of_decide_eq_true hd
    refine ⟨_, hd, ?_⟩
    have mi : (cellsOf gv sd).getD i [] ∈ cellsOf gv sd := by simp [List.getD, List.getElem?_eq_getElem hi]
    have mj : (cellsOf gv sd).getD j [] ∈ cellsOf gv sd := by simp [List.getD, List.getElem?_eq_getElem hj]
    obtain ⟨a, b, e1, _, _⟩ := cellsOf_two mi
    have t1 : ((cellsOf gv sd).getD i [] ++ (cellsOf gv sd).getD j []).take 2 = (cellsOf gv sd).getD i [] := by rw [e1]; rfl
    have t2 : ((cellsOf gv sd).getD i [] ++ (cellsOf gv sd).getD j []).drop 2 = (cellsOf gv sd).getD j [] := by rw [e1]; rfl
    unfold ijOf
    rw [t1, t2]
    have ix : ∀ k, k < (cellsOf gv sd).length → ixC (cellsOf gv sd) ((cellsOf gv sd).getD k []) = k := fun k hk => by
      have mk : (cellsOf gv sd).getD k [] ∈ cellsOf gv sd := by simp [List.getD, List.getElem?_eq_getElem hk]
      have g := ixC_get mk
      have g2 : (cellsOf gv sd)[k]? = some ((cellsOf gv sd).getD k []) := by simp [List.getD, List.getElem?_eq_getElem hk]
      exact (List.getElem?_inj (ixC_lt mk) hcn).mp (g.trans g2.symm)
    rw [ix i hi, ix j hj]
theorem list_idx (cs : List (List Nat)) : cs = (List.range cs.length).map fun i => cs.getD i [] := by
  refine List.ext_getElem? fun i => ?_
  rw [List.getElem?_map]
  by_cases hi : i < cs.length
  · rw [List.getElem?_range hi, List.getElem?_eq_getElem hi]
    simp [List.getD, List.getElem?_eq_getElem hi]
  · rw [List.getElem?_eq_none (by omega), List.getElem?_eq_none (by rw [List.length_range]; omega)]
    rfl
theorem ixs_pairs (gv sd : List Nat) (ps : List (List Nat)) : (ixs (cellsOf gv sd) ps).map (fun q => (cellsOf gv sd).getD q.1 [] ++ (cellsOf gv sd).getD q.2 []) = pairsOf gv sd ps := by
  unfold pairsOf ixs
  generalize cellsOf gv sd = cs
  rw [List.map_flatMap]
  conv => rhs; rw [list_idx cs]
  rw [List.flatMap_map]
  congr 1
  funext i
  rw [List.filter_map, List.map_map, List.map_map]
  rfl
end

theorem pairs_perm {gv sd : List Nat} {ps : List (List Nat)} (hg : gv.Nodup) (hs : sd.Nodup) (hp : ∀ p ∈ ps, OkPair gv sd p) (hn : ps.Nodup) : (pairsOf gv sd ps).Perm ps := by
  have h := (ij_perm hg hs hp hn).map (fun q => (cellsOf gv sd).getD q.1 [] ++ (cellsOf gv sd).getD q.2 [])
  rw [ixs_pairs, List.map_map] at h
  refine h.symm.trans (.of_eq ?_)
  refine (List.map_congr_left fun q hq => ?_).trans (List.map_id _)
  obtain ⟨h1, h2, _⟩ := ok_cut (hp q hq)
  show (cellsOf gv sd).getD (ixC (cellsOf gv sd) (q.take 2)) [] ++ (cellsOf gv sd).getD (ixC (cellsOf gv sd) (q.drop 2)) [] = q
  rw [getD_ix h1, getD_ix h2, List.take_append_drop]
theorem pairs_congr {gv sd : List Nat} {ps p2 : List (List Nat)} (h : ∀ x, x ∈ ps ↔ x ∈ p2) : pairsOf gv sd ps = pairsOf gv sd p2 := by
  unfold pairsOf
  have e : (fun p q : List Nat => decide (p ++ q ∈ ps)) = fun p q => decide (p ++ q ∈ p2) := by
    funext p q
    exact decide_eq_decide.mpr (h _)
  have e2 : ∀ p : List Nat, (fun q : List Nat => decide (p ++ q ∈ ps)) = fun q => decide (p ++ q ∈ p2) := fun p => congrFun e p
  simp only [e2]
theorem flat_of {gv sd : List Nat} {ps : List (List Nat)} (hg : OkDiff lowers 3 gv) (hs : OkDiff uppers 4 sd) : Flat gv sd ps := fun m hm => okTx_of fun c hc => by
  unfold pairsOf at hm
  obtain ⟨p, hp, hm⟩ := List.mem_flatMap.mp hm
  obtain ⟨q, hq0, rfl⟩ := List.mem_map.mp hm
  have hq : q ∈ cellsOf gv sd := (List.mem_filter.mp hq0).1
  obtain ⟨a, b, rfl, ha, hb⟩ := cellsOf_two hp
  obtain ⟨a', b', rfl, ha', hb'⟩ := cellsOf_two hq
  have l1 := mem_lowers (hg.1 a ha)
  have l2 := mem_lowers (hg.1 a' ha')
  have u1 := mem_uppers (hs.1 b hb)
  have u2 := mem_uppers (hs.1 b' hb')
  simp at hc
  omega

section
variable {P : Program} [NW.SupP P] {w : World} {K : PySem.W.Frag} {mg : Str → Option Value} {base : Heap}
theorem same_mut {H H' : Hp} {p : Addr} {o : HO} (s : Same H H') (n : H p = none) : Same H (upd H' p o) := fun b u e => by rw [upd_ne (ne_of_none e n)]; exact s b u e
theorem nf_self {K : PySem.W.Frag} {C : Addr} : PySem.W.notFirst K C (.ref C) = true := by
  unfold PySem.W.notFirst
  simp
theorem weq_r (T : Txt K mg) {H : Hp} {x y : Addr} {gv sd g2 s2 : List Nat} {ps p2 : List (List Nat)} {Q : VK} {E : XK} (hw : IsWish T.C_Wish H x gv sd ps) (hw2 : IsWish T.C_Wish H y g2 s2 p2) (f1 : Flat gv sd ps) (f2 : Flat g2 s2 p2)
    (h : ∀ H', Same H H' → Q (.bl (decide (gv = g2) && (decide (sd = s2) && decide (pairsOf gv sd ps = pairsOf g2 s2 p2)))) H') : rEqO K T.C_Wish (sp_Weq K T.C_Wish) E (.ref x) (.ref y) H Q := by
  obtain ⟨cl, al, pl, ⟨dx, kd, h1⟩, _⟩ := id hw
  exact ⟨x, _, _, _, rfl, h1, wish_ty T hw2, nf_self, x, gv, sd, ps, .ref y, rfl, hw, f1, .inr ⟨y, g2, s2, p2, rfl, hw2, f2, fun H' s => ⟨_, rfl, h H' s⟩⟩⟩
theorem wne_r (T : Txt K mg) {H : Hp} {x y : Addr} {gv sd g2 s2 : List Nat} {ps p2 : List (List Nat)} {Q : VK} {E : XK} (hw : IsWish T.C_Wish H x gv sd ps) (hw2 : IsWish T.C_Wish H y g2 s2 p2) (f1 : Flat gv sd ps) (f2 : Flat g2 s2 p2)
    (h : ∀ H', Same H H' → Q (.bl (!(decide (gv = g2) && (decide (sd = s2) && decide (pairsOf gv sd ps = pairsOf g2 s2 p2))))) H') : rNeO K T.C_Wish (sp_Weq K T.C_Wish) E (.ref x) (.ref y) H Q := by
  obtain ⟨cl, al, pl, ⟨dx, kd, h1⟩, _⟩ := id hw
  exact ⟨x, _, _, _, rfl, h1, wish_ty T hw2, nf_self, x, gv, sd, ps, .ref y, rfl, hw, f1, .inr ⟨y, g2, s2, p2, rfl, hw2, f2, fun H' s => ⟨_, rfl, h H' s⟩⟩⟩
theorem weq_n (T : Txt K mg) {H : Hp} {x : Addr} {y : V} {gv sd : List Nat} {ps : List (List Nat)} {Q : VK} {E : XK} (hw : IsWish T.C_Wish H x gv sd ps) (f1 : Flat gv sd ps) (n : NoWishV K T.C_Wish H y)
    (h : ∀ H', Same H H' → Q (.bl false) H') : rEqO K T.C_Wish (sp_Weq K T.C_Wish) E (.ref x) y H Q := by
  obtain ⟨cl, al, pl, ⟨dx, kd, h1⟩, _⟩ := id hw
  obtain ⟨t, n1, n2, n3⟩ := id n
  exact ⟨x, _, _, _, rfl, h1, n1, n3, x, gv, sd, ps, y, rfl, hw, f1, .inl ⟨n, fun H' s => ⟨_, rfl, h H' s⟩⟩⟩
theorem wne_n (T : Txt K mg) {H : Hp} {x : Addr} {y : V} {gv sd : List Nat} {ps : List (List Nat)} {Q : VK} {E : XK} (hw : IsWish T.C_Wish H x gv sd ps) (f1 : Flat gv sd ps) (n : NoWishV K T.C_Wish H y)
    (h : ∀ H', Same H H' → Q (.bl true) H') : rNeO K T.C_Wish (sp_Weq K T.C_Wish) E (.ref x) y H Q := by
  obtain ⟨cl, al, pl, ⟨dx, kd, h1⟩, _⟩ := id hw
  obtain ⟨t, n1, n2, n3⟩ := id n
  exact ⟨x, _, _, _, rfl, h1, n1, n3, x, gv, sd, ps, y, rfl, hw, f1, .inl ⟨n, fun H' s => ⟨_, rfl, h H' s⟩⟩⟩
end

section
variable {P : Program} [NW.SupP P] {w : World} {K : PySem.W.Frag} {mg : Str → Option Value} {base : Heap}
/-! ### values of any kind -/
def TexV (v : V) : Prop := ∃ l, v = .str (tx l) ∧ l.length ≤ 100
def AnyV (h : Addr) (H : Hp) (v : V) : Prop := TexV v ∨ v = .non ∨ (∃ b, v = .bl b) ∨ (∃ i, v = .int i) ∨ (∃ a xs, v = .ref a ∧ a ≠ h ∧ H a = some (.lst xs) ∧ xs.length ≤ 100 ∧ ∀ x ∈ xs, TexV x) ∨ (∃ a xs, v = .ref a ∧ a ≠ h ∧ H a = some (.tup xs)) ∨ ∃ a kvs, v = .ref a ∧ a ≠ h ∧ H a = some (.dK kvs)
theorem AnyV.tex {h : Addr} {H : Hp} {l : List Nat} (z : l.length ≤ 100) : AnyV h H (.str (tx l)) := .inl ⟨l, rfl, z⟩
theorem AnyV.keep {h : Addr} {H H' : Hp} {v : V} (t : AnyV h H v) (k : Keep1 h H H') : AnyV h H' v := by
  rcases t with t | t | t | t | ⟨a, xs, rfl, n, e, z, x⟩ | ⟨a, xs, rfl, n, e⟩ | ⟨a, kvs, rfl, n, e⟩
  · exact .inl t
  · exact .inr (.inl t)
  · exact .inr (.inr (.inl t))
  · exact .inr (.inr (.inr (.inl t)))
  · exact .inr (.inr (.inr (.inr (.inl ⟨a, xs, rfl, n, k _ _ e n, z, x⟩))))
  · exact .inr (.inr (.inr (.inr (.inr (.inl ⟨a, xs, rfl, n, k _ _ e n⟩)))))
  · exact .inr (.inr (.inr (.inr (.inr (.inr ⟨a, kvs, rfl, n, k _ _ e n⟩)))))
theorem AnyV.lst {h : Addr} {H : Hp} {a : Addr} {xs : List V} (n : a ≠ h) (e : H a = some (.lst xs)) (z : xs.length ≤ 100) (x : ∀ x ∈ xs, TexV x) : AnyV h H (.ref a) := .inr (.inr (.inr (.inr (.inl ⟨a, xs, rfl, n, e, z, x⟩))))
theorem AnyV.tup {h : Addr} {H : Hp} {a : Addr} {xs : List V} (n : a ≠ h) (e : H a = some (.tup xs)) : AnyV h H (.ref a) := .inr (.inr (.inr (.inr (.inr (.inl ⟨a, xs, rfl, n, e⟩)))))
theorem AnyV.dct {h : Addr} {H : Hp} {a : Addr} {kvs : List (Key × V)} (n : a ≠ h) (e : H a = some (.dK kvs)) : AnyV h H (.ref a) := .inr (.inr (.inr (.inr (.inr (.inr ⟨a, kvs, rfl, n, e⟩)))))
/-- a text or what is no text -/
theorem AnyV.item {h : Addr} {H : Hp} {v : V} (t : AnyV h H v) : TexV v ∨ NoText K H v := by
  rcases t with t | rfl | ⟨b, rfl⟩ | ⟨i, rfl⟩ | ⟨a, xs, rfl, n, e, z, x⟩ | ⟨a, xs, rfl, n, e⟩ | ⟨a, kvs, rfl, n, e⟩
  · exact .inl t
  · exact .inr ⟨_, .base .non, kit_ty (by decide +kernel)⟩
  · exact .inr ⟨_, .base (.bl b), kit_ty (by decide +kernel)⟩
  · exact .inr ⟨_, .base (.int i), kit_ty (by decide +kernel)⟩
  · exact .inr ⟨_, .base (.lst e), kit_ty (by decide +kernel)⟩
  · exact .inr ⟨_, .base (.tup e), kit_ty (by decide +kernel)⟩
  · exact .inr ⟨_, .base (.dK e), kit_ty (by decide +kernel)⟩
/-- no list, or one of texts -/
theorem AnyV.pairs {h : Addr} {H : Hp} {v : V} (t : AnyV h H v) : NoList K H v ∨ ∃ a xs, v = .ref a ∧ a ≠ h ∧ H a = some (.lst xs) ∧ xs.length ≤ 100 ∧ ∀ x ∈ xs, TexV x := by
  rcases t with ⟨l, rfl, z⟩ | rfl | ⟨b, rfl⟩ | ⟨i, rfl⟩ | t | ⟨a, xs, rfl, n, e⟩ | ⟨a, kvs, rfl, n, e⟩
  · exact .inl ⟨_, .base (.str _), kit_ty (by decide +kernel)⟩
  · exact .inl ⟨_, .base .non, kit_ty (by decide +kernel)⟩
  · exact .inl ⟨_, .base (.bl b), kit_ty (by decide +kernel)⟩
  · exact .inl ⟨_, .base (.int i), kit_ty (by decide +kernel)⟩
  · exact .inr t
  · exact .inl ⟨_, .base (.tup e), kit_ty (by decide +kernel)⟩
  · exact .inl ⟨_, .base (.dK e), kit_ty (by decide +kernel)⟩
theorem AnyV.mix {h : Addr} {H : Hp} {v : V} (t : AnyV h H v) : MixV K H v := by
  rcases t with ⟨l, rfl, z⟩ | rfl | ⟨b, rfl⟩ | ⟨i, rfl⟩ | ⟨a, xs, rfl, n, e, z, x⟩ | ⟨a, xs, rfl, n, e⟩ | ⟨a, kvs, rfl, n, e⟩
  · exact .inl ⟨_, rfl⟩
  · exact .inr (.inl rfl)
  · exact .inr (.inr (.inl ⟨b, rfl⟩))
  · exact .inr (.inr (.inr (.inl ⟨i, rfl⟩)))
  · exact .inr (.inr (.inr (.inr (.inl ⟨a, xs, rfl, .inl (SqL.of e)⟩))))
  · exact .inr (.inr (.inr (.inr (.inl ⟨a, xs, rfl, .inr (SqT.of e)⟩))))
  · exact .inr (.inr (.inr (.inr (.inr ⟨a, kvs, rfl, e⟩))))
theorem tex_sgs (l : List Nat) : ∀ x ∈ vSgs l, TexV x := fun x hx => by
  obtain ⟨c, _, rfl⟩ := vSgs_mem hx
  exact ⟨[c], rfl, by show 1 ≤ 100; decide⟩
theorem gd_at {l : List Nat} {k : Nat} (h : k < l.length) : l[k]? = some (l.getD k 0) := by simp [List.getD, List.getElem?_eq_getElem h]
theorem dec_kind (w n : Nat) : decide (V.int ((w : Nat) : Int) = V.int ((n : Nat) : Int)) = decide (w = n) := decide_eq_decide.mpr ⟨fun h => by have := V.int.inj h; omega, fun h => by rw [h]⟩
theorem empty_tx0 : ("" : Str) = tx [] := by decide +kernel
theorem a_tx : ("a" : Str) = tx [97] := by decide +kernel
theorem X_tx : ("X" : Str) = tx [88] := by decide +kernel
theorem A_tx : ("A" : Str) = tx [65] := by decide +kernel
theorem us_tx : ("_" : Str) = tx [95] := by decide +kernel
theorem aXaX_tx : ("aXaX" : Str) = tx [97, 88, 97, 88] := by decide +kernel
theorem odd_tx : ("1 _\n\x40[{" : Str) = tx [49, 32, 95, 10, 64, 91, 123] := by decide +kernel
def lo11 : List Nat := [112, 113, 114, 115, 116, 117, 118, 119, 120, 121, 122]
def up11 : List Nat := [80, 81, 82, 83, 84, 85, 86, 87, 88, 89, 90]
theorem lo11_tx : ("pqrstuvwxyz" : Str) = tx lo11 := by decide +kernel
theorem up11_tx : ("PQRSTUVWXYZ" : Str) = tx up11 := by decide +kernel
theorem rd_disp1 {σ : L2.St} {H : Hp} {Q : VK} {tk tv : TE} (h : ∀ p, H p = none → tk σ (upd H p (.dK [])) fun x H1 => tv σ H1 fun y H2 => H2 p = some (.dK []) ∧ ∃ kvs : List (Key × V), [(x, y)] = kvs.map (fun kv => (kV kv.1, kv.2)) ∧ kvs.length ≤ 15 ∧ Q (.ref p) (upd H2 p (.dK (mergeK [] kvs)))) : tDisp [(tk, tv)] σ H Q := h
theorem keep_new {h : Addr} {H H' : Hp} {p : Addr} {o : HO} (k : Keep1 h H H') (n : H' p = none) : Keep1 h H (upd H' p o) := k.same (Same.new n)
theorem upper_txX {l : List Nat} (h : ∀ c ∈ l, c < 128) : Txt.upper (tx l) = tx (l.map PyProof.Rows.up1) := by
  rw [PyProof.Rows.upper_ascii h]
  show (⟨l.toArray.map _⟩ : Str) = ⟨(l.map _).toArray⟩
  rw [List.map_toArray]
theorem lower_txX {l : List Nat} (h : ∀ c ∈ l, c < 128) : Txt.lower (tx l) = tx (l.map PyProof.Rows.lo1) := by
  rw [PyProof.Rows.lower_ascii h]
  show (⟨l.toArray.map _⟩ : Str) = ⟨(l.map _).toArray⟩
  rw [List.map_toArray]
def sp_Lvalue : Sp := fun vs H Q _ => ∃ h c, vs = [.ref h] ∧ HandAt H h c ∧ ∀ v H', Keep1 h H H' → HandAt H' h c → AnyV h H' v → Q v H'
theorem ok_Lvalue (T : Txt K mg) : FnOk P w K mg base (L2.CX P w) 2 T.f_Lvalue T.fd_Lvalue ["_law_hand_here"] sp_Lvalue := by
  refine T.F_Lvalue.okX sc_Lvalue (fun vs H Q E h => ?_) (fun cdv A outer s H vs Q E hr h => ?_)
  · obtain ⟨_, _, rfl, _⟩ := h
    rfl
  · obtain ⟨h, c, rfl, hh, k⟩ := h
    refine ⟨_, (pss_cons (ps_set (i := 1) sc_Lvalue.nd rfl (by first | exact Or.inl rfl | exact Or.inr rfl) (pe_callS (ok_Ldraw T) (hr.mono (by decide)) rfl T.mg_Ldraw T.kp_Ldraw T.bd_Ldraw (fun σ => passAt (takes_of rfl rfl rfl rfl) σ) (pa_cons (pv 0) (pa_cons pe_int pa_nil))))
  (pss_cons (ps_if (pt_cmpR op_eq (pv 1) pe_int (nomark _))
  (pss_one (ps_ret pe_non))
  pss_nil)
  (pss_cons (ps_if (pt_cmpR op_eq (pv 1) pe_int (nomark _))
  (pss_one (ps_ret pe_int))
  pss_nil)
  (pss_cons (ps_if (pt_cmpR op_eq (pv 1) pe_int (nomark _))
  (pss_one (ps_ret pe_bl))
  pss_nil)
  (pss_cons (ps_if (pt_cmpR op_eq (pv 1) pe_int (nomark _))
  (pss_one (ps_ret (pe_lst (pa_cons pe_str (pa_cons pe_str pa_nil)))))
  pss_nil)
  (pss_cons (ps_if (pt_cmpR op_eq (pv 1) pe_int (nomark _))
  (pss_one (ps_ret (pe_tup (pa_cons pe_str pa_nil))))
  pss_nil)
  (pss_cons (ps_if (pt_cmpR op_eq (pv 1) pe_int (nomark _))
  (pss_one (ps_ret (pe_disp (pps_cons pe_str pe_int pps_nil) rfl rfl (by simp) (by decide))))
  pss_nil)
  (pss_cons (ps_if (pt_cmpR op_eq (pv 1) pe_int (nomark _))
  (pss_one (ps_ret (pe_lst pa_nil)))
  pss_nil)
  (pss_cons (ps_if (pt_cmpR op_eq (pv 1) pe_int (nomark _))
  (pss_one (ps_ret pe_str))
  pss_nil)
  (pss_one (ps_ret pe_str))))))))))), ?_⟩
    rw [a_tx, X_tx, aXaX_tx, empty_tx0]
    walk_at "rd"
    refine ⟨h, c, 9, rfl, hh, by decide, by decide +kernel, fun H1 d d0 d1 k1 hh1 => ?_⟩
    obtain ⟨kd, rfl, hkd⟩ := nat_of (n := 9) d0 d1
    refine rd_name ?_
    with_reducible refine rd_nx ?_
    refine rd_seq (rd_ifS ?_)
    walk_at "rd"
    refine rEq_v rfl ?_
    rw [show V.int 0 = V.int ((0 : Nat) : Int) from rfl, dec_kind]
    by_cases w0 : kd = 0
    · rw [decide_eq_true w0]
      refine rd_blI (iteT ?_)
      walk_at "rd"
      exact k _ _ k1 hh1 (.inr (.inl rfl))
    rw [decide_eq_false w0]
    refine rd_blI (iteF ?_)
    refine rd_next ?_
    with_reducible refine rd_nx ?_
    refine rd_seq (rd_ifS ?_)
    walk_at "rd"
    refine rEq_v rfl ?_
    rw [show V.int 1 = V.int ((1 : Nat) : Int) from rfl, dec_kind]
    by_cases w1 : kd = 1
    · rw [decide_eq_true w1]
      refine rd_blI (iteT ?_)
      walk_at "rd"
      exact k _ _ k1 hh1 (.inr (.inr (.inr (.inl ⟨_, rfl⟩))))
    rw [decide_eq_false w1]
    refine rd_blI (iteF ?_)
    refine rd_next ?_
    with_reducible refine rd_nx ?_
    refine rd_seq (rd_ifS ?_)
    walk_at "rd"
    refine rEq_v rfl ?_
    rw [show V.int 2 = V.int ((2 : Nat) : Int) from rfl, dec_kind]
    by_cases w2 : kd = 2
    · rw [decide_eq_true w2]
      refine rd_blI (iteT ?_)
      walk_at "rd"
      exact k _ _ k1 hh1 (.inr (.inr (.inl ⟨_, rfl⟩)))
    rw [decide_eq_false w2]
    refine rd_blI (iteF ?_)
    refine rd_next ?_
    with_reducible refine rd_nx ?_
    refine rd_seq (rd_ifS ?_)
    walk_at "rd"
    refine rEq_v rfl ?_
    rw [show V.int 3 = V.int ((3 : Nat) : Int) from rfl, dec_kind]
    by_cases w3 : kd = 3
    · rw [decide_eq_true w3]
      refine rd_blI (iteT ?_)
      refine rd_ret (rd_lst ?_)
      walk_at "rd"
      refine ⟨by show 2 ≤ sizeLine; decide, fun p hp => ?_⟩
      exact k _ _ (keep_new k1 hp) (hh1.upd hp) (.lst (hh1.out hp).1 upd_same (by decide) fun x hx => by
        simp only [List.mem_cons, List.not_mem_nil, or_false] at hx
        rcases hx with rfl | rfl
        · exact ⟨[97], rfl, by decide⟩
        · exact ⟨[88], rfl, by decide⟩)
    rw [decide_eq_false w3]
    refine rd_blI (iteF ?_)
    refine rd_next ?_
    with_reducible refine rd_nx ?_
    refine rd_seq (rd_ifS ?_)
    walk_at "rd"
    refine rEq_v rfl ?_
    rw [show V.int 4 = V.int ((4 : Nat) : Int) from rfl, dec_kind]
    by_cases w4 : kd = 4
    · rw [decide_eq_true w4]
      refine rd_blI (iteT ?_)
      refine rd_ret (rd_tup ?_)
      walk_at "rd"
      refine ⟨by show 1 ≤ sizeLine; decide, fun p hp => ?_⟩
      exact k _ _ (keep_new k1 hp) (hh1.upd hp) (.tup (hh1.out hp).1 upd_same)
    rw [decide_eq_false w4]
    refine rd_blI (iteF ?_)
    refine rd_next ?_
    with_reducible refine rd_nx ?_
    refine rd_seq (rd_ifS ?_)
    walk_at "rd"
    refine rEq_v rfl ?_
    rw [show V.int 5 = V.int ((5 : Nat) : Int) from rfl, dec_kind]
    by_cases w5 : kd = 5
    · rw [decide_eq_true w5]
      refine rd_blI (iteT ?_)
      refine rd_ret (rd_disp1 fun p hp => ?_)
      walk_at "rd"
      refine ⟨upd_same, [(Sum.inr (tx [97]), .int 1)], rfl, by decide, ?_⟩
      exact k _ _ ((keep_new k1 hp).mut (by cases z : H p with | none => rfl | some o => exact absurd (k1 _ _ z (hh1.out hp).1) (by rw [hp]; exact fun e => by cases e)) ) ((hh1.upd hp).mut (hh1.out hp).1 (hh1.out hp).2) (.dct (hh1.out hp).1 upd_same)
    rw [decide_eq_false w5]
    refine rd_blI (iteF ?_)
    refine rd_next ?_
    with_reducible refine rd_nx ?_
    refine rd_seq (rd_ifS ?_)
    walk_at "rd"
    refine rEq_v rfl ?_
    rw [show V.int 6 = V.int ((6 : Nat) : Int) from rfl, dec_kind]
    by_cases w6 : kd = 6
    · rw [decide_eq_true w6]
      refine rd_blI (iteT ?_)
      refine rd_ret (rd_lst (rd_nil ⟨Nat.zero_le _, fun p hp => ?_⟩))
      exact k _ _ (keep_new k1 hp) (hh1.upd hp) (.lst (hh1.out hp).1 upd_same (by decide) fun x hx => (List.not_mem_nil hx).elim)
    rw [decide_eq_false w6]
    refine rd_blI (iteF ?_)
    refine rd_next ?_
    with_reducible refine rd_nx ?_
    refine rd_seq (rd_ifS ?_)
    walk_at "rd"
    refine rEq_v rfl ?_
    rw [show V.int 7 = V.int ((7 : Nat) : Int) from rfl, dec_kind]
    by_cases w7 : kd = 7
    · rw [decide_eq_true w7]
      refine rd_blI (iteT ?_)
      walk_at "rd"
      exact k _ _ k1 hh1 (.tex (by decide))
    rw [decide_eq_false w7]
    refine rd_blI (iteF ?_)
    refine rd_next ?_
    with_reducible refine rd_nx ?_
    walk_at "rd"
    exact k _ _ k1 hh1 (.tex (by decide))
end

section
variable {P : Program} [NW.SupP P] {w : World} {K : PySem.W.Frag} {mg : Str → Option Value} {base : Heap}
/-- letters that are spoiled -/
def sp_Lspoiled_letters : Sp := fun vs H Q _ => ∃ h c l o1 o2 o3, vs = [.ref h, .str (tx l), .str (tx [o1, o2, o3])] ∧ HandAt H h c ∧ l.length ≤ 5 ∧ (∀ c ∈ l, c < 128) ∧ ∀ v H', Keep1 h H H' → HandAt H' h c → AnyV h H' v → Q v H'
theorem ok_Lspoiled_letters (T : Txt K mg) : FnOk P w K mg base (L2.CX P w) 3 T.f_Lspoiled_letters T.fd_Lspoiled_letters ["_law_hand_here", "_law_letters_here", "_law_others"] sp_Lspoiled_letters := by
  refine T.F_Lspoiled_letters.okX sc_Lspoiled_letters (fun vs H Q E h => ?_) (fun cdv A outer s H vs Q E hr h => ?_)
  · obtain ⟨_, _, _, _, _, _, rfl, _⟩ := h
    rfl
  · obtain ⟨h, c, l, o1, o2, o3, rfl, hh, hl5, hasc, k⟩ := h
    have hu := hu_of hr
    refine ⟨_, (pss_cons (ps_set (i := 3) sc_Lspoiled_letters.nd rfl (by first | exact Or.inl rfl | exact Or.inr rfl) (pe_callS (ok_Ldraw T) (hr.mono (by decide)) rfl T.mg_Ldraw T.kp_Ldraw T.bd_Ldraw (fun σ => passAt (takes_of rfl rfl rfl rfl) σ) (pa_cons (pv 0) (pa_cons pe_int pa_nil))))
  (pss_cons (ps_set (i := 4) sc_Lspoiled_letters.nd rfl (by first | exact Or.inl rfl | exact Or.inr rfl) (pe_callS (ok_Ldraw T) (hr.mono (by decide)) rfl T.mg_Ldraw T.kp_Ldraw T.bd_Ldraw (fun σ => passAt (takes_of rfl rfl rfl rfl) σ) (pa_cons (pv 0) (pa_cons (pe_op op_addA (pe_callB (call_lenK (K := K) rfl) (by rfl) T.b_len boot_len (pa_cons (pv 1) pa_nil)) pe_int) pa_nil))))
  (pss_cons (ps_if (PW.pt (pw_and (pt_cmpR op_eq (pv 3) pe_int (nomark _)) (pw_and1 (pt_cmpR op_gt (pe_callB (call_lenK (K := K) rfl) (by rfl) T.b_len boot_len (pa_cons (pv 1) pa_nil)) pe_int (nomark _)))))
  (pss_one (ps_ret (pe_op op_addA (pe_op op_addA (pe_slice (sl_anyK (K := K) rfl) (pv 1) po_none (po_some (pv 4))) (pe_slice (sl_anyK (K := K) rfl) (pv 1) po_none (po_some pe_int))) (pe_slice (sl_anyK (K := K) rfl) (pv 1) (po_some (pv 4)) po_none))))
  pss_nil)
  (pss_cons (ps_if (pt_cmpR op_eq (pv 3) pe_int (nomark _))
  (pss_one (ps_ret (pe_op op_addA (pe_op op_addA (pe_slice (sl_anyK (K := K) rfl) (pv 1) po_none (po_some (pv 4))) (pe_ix (ix_seqK (K := K) rfl) (pv 2) (pe_callS (ok_Ldraw T) (hr.mono (by decide)) rfl T.mg_Ldraw T.kp_Ldraw T.bd_Ldraw (fun σ => passAt (takes_of rfl rfl rfl rfl) σ) (pa_cons (pv 0) (pa_cons (pe_callB (call_lenK (K := K) rfl) (by rfl) T.b_len boot_len (pa_cons (pv 2) pa_nil)) pa_nil))) (fun _ _ => rfl))) (pe_slice (sl_anyK (K := K) rfl) (pv 1) (po_some (pv 4)) po_none))))
  pss_nil)
  (pss_cons (ps_if (pt_cmpR op_eq (pv 3) pe_int (nomark _))
  (pss_one (ps_ret (pe_op op_addA (pe_op op_addA (pe_slice (sl_anyK (K := K) rfl) (pv 1) po_none (po_some (pv 4))) (pe_ix (ix_seqK (K := K) rfl) pe_str (pe_callS (ok_Ldraw T) (hr.mono (by decide)) rfl T.mg_Ldraw T.kp_Ldraw T.bd_Ldraw (fun σ => passAt (takes_of rfl rfl rfl rfl) σ) (pa_cons (pv 0) (pa_cons pe_int pa_nil))) (fun _ _ => rfl))) (pe_slice (sl_anyK (K := K) rfl) (pv 1) (po_some (pv 4)) po_none))))
  pss_nil)
  (pss_cons (ps_if (pt_cmpR op_eq (pv 3) pe_int (nomark _))
  (pss_one (ps_ret pe_str))
  pss_nil)
  (pss_cons (ps_if (pt_cmpR op_eq (pv 3) pe_int (nomark _))
  (pss_one (ps_ret (pe_callTy (call_listB (K := K) rfl rfl) (by rfl) T.b_list boot_list (pa_cons (pv 1) pa_nil))))
  pss_nil)
  (pss_cons (ps_if (pt_cmpR op_eq (pv 3) pe_int (nomark _))
  (pss_one (ps_ret (pe_callTy (call_tupS rfl) (by rfl) T.b_tuple boot_tuple (pa_cons (pv 1) pa_nil))))
  pss_nil)
  (pss_cons (ps_if (pt_cmpR op_eq (pv 3) pe_int (nomark _))
  (pss_one (ps_ret (pe_op op_addA (pv 1) (pe_callS (ok_Lletters T) (hr.mono (by decide)) rfl T.mg_Lletters T.kp_Lletters T.bd_Lletters (fun σ => passAt (takes_of rfl rfl rfl rfl) σ) (pa_cons (pv 0) (pa_cons (pe_ifExp (pt_cmpR op_eq (pe_ix (ix_seqK (K := K) rfl) (pv 2) pe_int (fun _ _ => rfl)) pe_str (nomark _)) pe_str pe_str) (pa_cons pe_int pa_nil)))))))
  pss_nil)
  (pss_cons (ps_if (pt_cmpR op_eq (pv 3) pe_int (nomark _))
  (pss_one (ps_ret (pe_ifExp (pt_cmpR op_eq (pe_ix (ix_seqK (K := K) rfl) (pv 2) pe_int (fun _ _ => rfl)) pe_str (nomark _)) (pe_bm0K (K := K) rfl (pe_bm0 PySem.F.plainAttrs_str PySem.F.slot_str_upper PySem.F.type_str_upper mt_upperA (pv 1))) (pe_bm0K (K := K) rfl (pe_bm0 PySem.F.plainAttrs_str PySem.F.slot_str_lower PySem.F.type_str_lower mt_lowerA (pv 1))))))
  pss_nil)
  (pss_one (ps_ret (pe_callS (ok_Lvalue T) (hr.mono (by decide)) rfl T.mg_Lvalue T.kp_Lvalue T.bd_Lvalue (fun σ => passAt (takes_of rfl rfl rfl rfl) σ) (pa_cons (pv 0) pa_nil)))))))))))))), ?_⟩
    rw [A_tx, odd_tx, empty_tx0, lo11_tx, up11_tx]
    walk_at "rd"
    refine ⟨h, c, 9, rfl, hh, by decide, by decide +kernel, fun H1 d d0 d1 k1 hh1 => ?_⟩
    obtain ⟨kd, rfl, hkd⟩ := nat_of (n := 9) d0 d1
    walk_at "rd"
    refine len_s (l := l) (by omega) ?_
    walk_at "rd"
    refine ⟨h, c, _, rfl, hh1, by omega, log9 (n := l.length + 1) (by omega), fun H2 e e0 e1 k2 hh2 => ?_⟩
    obtain ⟨at0, rfl, hat⟩ := nat_of (n := l.length + 1) e0 e1
    have k12 := k1.trans k2
    have hcut : ∀ {m : List Nat}, m.length ≤ 30 → (l.take at0 ++ m ++ l.drop at0).length ≤ 100 := fun {m} hm => by
      rw [List.length_append, List.length_append, List.length_take, List.length_drop]
      omega
    refine rd_name ?_
    with_reducible refine rd_nx ?_
    refine rd_have (M := fun σ' H' => σ' = [some (.ref h), some (.str (tx l)), some (.str (tx [o1, o2, o3])), some (.int ((kd : Nat) : Int)), some (.int ((at0 : Nat) : Int))] ∧ H2 = H') (fun σ' H' hM => ?_) (fun rest => ?_)
    rotate_left
    · refine rd_seq (rd_ifS ?_)
      walk_at "rd"
      refine rEq_v rfl ?_
      rw [show V.int 0 = V.int ((0 : Nat) : Int) from rfl, dec_kind]
      by_cases wk : kd = 0
      · rw [decide_eq_true wk]
        refine ⟨true, rfl, iteT ?_⟩
        walk_at "rd"
        refine len_s (l := l) (by omega) ?_
        walk_at "rd"
        by_cases wx : 0 < l.length
        · rw [decide_eq_true (by omega)]
          refine iteT ?_
          walk_at "rd"
          refine sl_s (l := l) (cutS_to l at0) (by omega) ?_
          walk_at "rd"
          refine sl_s (l := l) (cutS_to l 1) (by omega) ?_
          refine rAdd_s (by rw [List.length_take, List.length_take]; omega) ?_
          walk_at "rd"
          refine sl_s (l := l) (m := l.drop at0) (cutS_from l at0) (by omega) ?_
          refine rAdd_s (by rw [List.length_append, List.length_take, List.length_take, List.length_drop]; omega) ?_
          exact k _ _ k12 hh2 (.tex (hcut (by rw [List.length_take]; omega)))
        · rw [decide_eq_false (by omega)]
          refine iteF ?_
          exact rest _ _ ⟨rfl, rfl⟩
      · rw [decide_eq_false wk]
        refine ⟨false, rfl, iteF ?_⟩
        exact rest _ _ ⟨rfl, rfl⟩
    obtain ⟨rfl, rfl⟩ := hM
    refine rd_have (M := fun σ' H' => σ' = [some (.ref h), some (.str (tx l)), some (.str (tx [o1, o2, o3])), some (.int ((kd : Nat) : Int)), some (.int ((at0 : Nat) : Int))] ∧ H2 = H') (fun σ' H' hM => ?_) (fun rest => ?_)
    rotate_left
    · refine rd_seq (rd_ifS ?_)
      walk_at "rd"
      refine rEq_v rfl ?_
      rw [show V.int 1 = V.int ((1 : Nat) : Int) from rfl, dec_kind]
      by_cases wk : kd = 1
      · rw [decide_eq_true wk]
        refine rd_blI (iteT ?_)
        walk_at "rd"
        refine sl_s (l := l) (cutS_to l at0) (by omega) ?_
        walk_at "rd"
        refine len_s (l := [o1, o2, o3]) (by show 3 ≤ 100000; decide) ?_
        walk_at "rd"
        refine ⟨h, c, 3, rfl, hh2, by decide, by decide +kernel, fun H3 f f0 f1 k3 hh3 => ?_⟩
        obtain ⟨j, rfl, hj⟩ := nat_of (n := 3) f0 f1
        refine rIx_s (l := [o1, o2, o3]) (by show 3 ≤ 100000; decide) (atI_nat (gd_at (l := [o1, o2, o3]) hj)) ?_
        refine rAdd_s (by rw [List.length_take]; show _ + 1 ≤ 100000; omega) ?_
        walk_at "rd"
        refine sl_s (l := l) (m := l.drop at0) (cutS_from l at0) (by omega) ?_
        refine rAdd_s (by rw [List.length_append, List.length_take, List.length_drop]; show _ + 1 + _ ≤ 100000; omega) ?_
        exact k _ _ (k12.trans k3) hh3 (.tex (hcut (by show 1 ≤ 30; decide)))
      · rw [decide_eq_false wk]
        refine rd_blI (iteF ?_)
        exact rest _ _ ⟨rfl, rfl⟩
    obtain ⟨rfl, rfl⟩ := hM
    refine rd_have (M := fun σ' H' => σ' = [some (.ref h), some (.str (tx l)), some (.str (tx [o1, o2, o3])), some (.int ((kd : Nat) : Int)), some (.int ((at0 : Nat) : Int))] ∧ H2 = H') (fun σ' H' hM => ?_) (fun rest => ?_)
    rotate_left
    · refine rd_seq (rd_ifS ?_)
      walk_at "rd"
      refine rEq_v rfl ?_
      rw [show V.int 2 = V.int ((2 : Nat) : Int) from rfl, dec_kind]
      by_cases wk : kd = 2
      · rw [decide_eq_true wk]
        refine rd_blI (iteT ?_)
        walk_at "rd"
        refine sl_s (l := l) (cutS_to l at0) (by omega) ?_
        walk_at "rd"
        refine ⟨h, c, 7, rfl, hh2, by decide, by decide +kernel, fun H3 f f0 f1 k3 hh3 => ?_⟩
        obtain ⟨j, rfl, hj⟩ := nat_of (n := 7) f0 f1
        refine rIx_s (l := [49, 32, 95, 10, 64, 91, 123]) (by decide) (atI_nat (gd_at (l := [49, 32, 95, 10, 64, 91, 123]) hj)) ?_
        refine rAdd_s (by rw [List.length_take]; show _ + 1 ≤ 100000; omega) ?_
        walk_at "rd"
        refine sl_s (l := l) (m := l.drop at0) (cutS_from l at0) (by omega) ?_
        refine rAdd_s (by rw [List.length_append, List.length_take, List.length_drop]; show _ + 1 + _ ≤ 100000; omega) ?_
        exact k _ _ (k12.trans k3) hh3 (.tex (hcut (by show 1 ≤ 30; decide)))
      · rw [decide_eq_false wk]
        refine rd_blI (iteF ?_)
        exact rest _ _ ⟨rfl, rfl⟩
    obtain ⟨rfl, rfl⟩ := hM
    refine rd_have (M := fun σ' H' => σ' = [some (.ref h), some (.str (tx l)), some (.str (tx [o1, o2, o3])), some (.int ((kd : Nat) : Int)), some (.int ((at0 : Nat) : Int))] ∧ H2 = H') (fun σ' H' hM => ?_) (fun rest => ?_)
    rotate_left
    · refine rd_seq (rd_ifS ?_)
      walk_at "rd"
      refine rEq_v rfl ?_
      rw [show V.int 3 = V.int ((3 : Nat) : Int) from rfl, dec_kind]
      by_cases wk : kd = 3
      · rw [decide_eq_true wk]
        refine rd_blI (iteT ?_)
        walk_at "rd"
        exact k _ _ k12 hh2 (.tex (by decide))
      · rw [decide_eq_false wk]
        refine rd_blI (iteF ?_)
        exact rest _ _ ⟨rfl, rfl⟩
    obtain ⟨rfl, rfl⟩ := hM
    refine rd_have (M := fun σ' H' => σ' = [some (.ref h), some (.str (tx l)), some (.str (tx [o1, o2, o3])), some (.int ((kd : Nat) : Int)), some (.int ((at0 : Nat) : Int))] ∧ H2 = H') (fun σ' H' hM => ?_) (fun rest => ?_)
    rotate_left
    · refine rd_seq (rd_ifS ?_)
      walk_at "rd"
      refine rEq_v rfl ?_
      rw [show V.int 4 = V.int ((4 : Nat) : Int) from rfl, dec_kind]
      by_cases wk : kd = 4
      · rw [decide_eq_true wk]
        refine rd_blI (iteT ?_)
        walk_at "rd"
        refine list_t (l := l) (by omega) fun p hp => ?_
        exact k _ _ (keep_new k12 hp) (hh2.upd hp) (.lst (hh2.out hp).1 upd_same (by rw [vSgs_len]; omega) (tex_sgs l))
      · rw [decide_eq_false wk]
        refine rd_blI (iteF ?_)
        exact rest _ _ ⟨rfl, rfl⟩
    obtain ⟨rfl, rfl⟩ := hM
    refine rd_have (M := fun σ' H' => σ' = [some (.ref h), some (.str (tx l)), some (.str (tx [o1, o2, o3])), some (.int ((kd : Nat) : Int)), some (.int ((at0 : Nat) : Int))] ∧ H2 = H') (fun σ' H' hM => ?_) (fun rest => ?_)
    rotate_left
    · refine rd_seq (rd_ifS ?_)
      walk_at "rd"
      refine rEq_v rfl ?_
      rw [show V.int 5 = V.int ((5 : Nat) : Int) from rfl, dec_kind]
      by_cases wk : kd = 5
      · rw [decide_eq_true wk]
        refine rd_blI (iteT ?_)
        walk_at "rd"
        refine tup_t (l := l) (by omega) fun p H3 hp s3 e3 => ?_
        exact k _ _ (k12.same s3) (hh2.same s3) (.tup (hh2.out hp).1 e3)
      · rw [decide_eq_false wk]
        refine rd_blI (iteF ?_)
        exact rest _ _ ⟨rfl, rfl⟩
    obtain ⟨rfl, rfl⟩ := hM
    refine rd_have (M := fun σ' H' => σ' = [some (.ref h), some (.str (tx l)), some (.str (tx [o1, o2, o3])), some (.int ((kd : Nat) : Int)), some (.int ((at0 : Nat) : Int))] ∧ H2 = H') (fun σ' H' hM => ?_) (fun rest => ?_)
    rotate_left
    · refine rd_seq (rd_ifS ?_)
      walk_at "rd"
      refine rEq_v rfl ?_
      rw [show V.int 6 = V.int ((6 : Nat) : Int) from rfl, dec_kind]
      by_cases wk : kd = 6
      · rw [decide_eq_true wk]
        refine rd_blI (iteT ?_)
        walk_at "rd"
        refine rIx_s (l := [o1, o2, o3]) (by show 3 ≤ 100000; decide) (atI_nat (j := 0) rfl) ?_
        walk_at "rd"
        refine rEq_v rfl ?_
        refine ⟨_, rfl, ?_⟩
        cases hb : decide (V.str (tx [o1]) = V.str (tx [65]))
        · refine iteF ?_
          walk_at "rd"
          refine ⟨h, c, up11, 5, rfl, hh2, by decide, by decide, by decide, fun H3 m hm _ _ k3 hh3 => ?_⟩
          refine rAdd_s (by rw [hm]; omega) ?_
          exact k _ _ (k12.trans k3) hh3 (.tex (by rw [List.length_append, hm]; omega))
        · refine iteT ?_
          walk_at "rd"
          refine ⟨h, c, lo11, 5, rfl, hh2, by decide, by decide, by decide, fun H3 m hm _ _ k3 hh3 => ?_⟩
          refine rAdd_s (by rw [hm]; omega) ?_
          exact k _ _ (k12.trans k3) hh3 (.tex (by rw [List.length_append, hm]; omega))
      · rw [decide_eq_false wk]
        refine rd_blI (iteF ?_)
        exact rest _ _ ⟨rfl, rfl⟩
    obtain ⟨rfl, rfl⟩ := hM
    refine rd_have (M := fun σ' H' => σ' = [some (.ref h), some (.str (tx l)), some (.str (tx [o1, o2, o3])), some (.int ((kd : Nat) : Int)), some (.int ((at0 : Nat) : Int))] ∧ H2 = H') (fun σ' H' hM => ?_) (fun rest => ?_)
    rotate_left
    · refine rd_seq (rd_ifS ?_)
      walk_at "rd"
      refine rEq_v rfl ?_
      rw [show V.int 7 = V.int ((7 : Nat) : Int) from rfl, dec_kind]
      by_cases wk : kd = 7
      · rw [decide_eq_true wk]
        refine rd_blI (iteT ?_)
        walk_at "rd"
        refine rIx_s (l := [o1, o2, o3]) (by show 3 ≤ 100000; decide) (atI_nat (j := 0) rfl) ?_
        walk_at "rd"
        refine rEq_v rfl ?_
        refine ⟨_, rfl, ?_⟩
        cases hb : decide (V.str (tx [o1]) = V.str (tx [65]))
        · refine iteF ?_
          walk_at "rd"
          refine ⟨tx l, rfl, rfl, by rw [tx_length]; omega, ?_⟩
          rw [lower_txX hasc]
          exact k _ _ k12 hh2 (.tex (by rw [List.length_map]; omega))
        · refine iteT ?_
          walk_at "rd"
          refine ⟨tx l, rfl, rfl, by rw [tx_length]; omega, ?_⟩
          rw [upper_txX hasc]
          exact k _ _ k12 hh2 (.tex (by rw [List.length_map]; omega))
      · rw [decide_eq_false wk]
        refine rd_blI (iteF ?_)
        exact rest _ _ ⟨rfl, rfl⟩
    obtain ⟨rfl, rfl⟩ := hM
    walk_at "rd"
    exact ⟨h, c, rfl, hh2, fun v H3 k3 hh3 hv => k v H3 (k12.trans k3) hh3 hv⟩
end

section
variable {P : Program} [NW.SupP P] {w : World} {K : PySem.W.Frag} {mg : Str → Option Value} {base : Heap}
def sp_Lspoiled_pair : Sp := fun vs H Q _ => ∃ h c a b x d, vs = [.ref h, .str (tx [a, b, x, d])] ∧ HandAt H h c ∧ x < 128 ∧ d < 128 ∧ ∀ v H', Keep1 h H H' → HandAt H' h c → AnyV h H' v → Q v H'
theorem ok_Lspoiled_pair (T : Txt K mg) : FnOk P w K mg base (L2.CX P w) 3 T.f_Lspoiled_pair T.fd_Lspoiled_pair ["_law_hand_here", "_law_pair"] sp_Lspoiled_pair := by
  refine T.F_Lspoiled_pair.okX sc_Lspoiled_pair (fun vs H Q E h => ?_) (fun cdv A outer s H vs Q E hr h => ?_)
  · obtain ⟨_, _, _, _, _, _, rfl, _⟩ := h
    rfl
  · obtain ⟨h, c, a, b, x, d, rfl, hh, hx, hd, k⟩ := h
    have hu := hu_of hr
    have l4 : ([a, b, x, d] : List Nat).length ≤ 100000 := by show 4 ≤ 100000; decide
    refine ⟨_, (pss_cons (ps_set (i := 2) sc_Lspoiled_pair.nd rfl (by first | exact Or.inl rfl | exact Or.inr rfl) (pe_callS (ok_Ldraw T) (hr.mono (by decide)) rfl T.mg_Ldraw T.kp_Ldraw T.bd_Ldraw (fun σ => passAt (takes_of rfl rfl rfl rfl) σ) (pa_cons (pv 0) (pa_cons pe_int pa_nil))))
  (pss_cons (ps_if (pt_cmpR op_eq (pv 2) pe_int (nomark _))
  (pss_one (ps_ret (pe_op op_addA (pe_op op_addA (pe_ix (ix_seqK (K := K) rfl) (pv 1) pe_int (fun _ _ => rfl)) (pe_ix (ix_seqK (K := K) rfl) (pv 1) pe_int (fun _ _ => rfl))) (pe_slice (sl_anyK (K := K) rfl) (pv 1) (po_some pe_int) po_none))))
  pss_nil)
  (pss_cons (ps_if (pt_cmpR op_eq (pv 2) pe_int (nomark _))
  (pss_one (ps_ret (pe_op op_addA (pv 1) (pe_slice (sl_anyK (K := K) rfl) (pv 1) po_none (po_some pe_int)))))
  pss_nil)
  (pss_cons (ps_if (pt_cmpR op_eq (pv 2) pe_int (nomark _))
  (pss_one (ps_ret (pe_slice (sl_anyK (K := K) rfl) (pv 1) po_none (po_some pe_int))))
  pss_nil)
  (pss_cons (ps_if (pt_cmpR op_eq (pv 2) pe_int (nomark _))
  (pss_one (ps_ret (pe_tup (pa_cons (pe_slice (sl_anyK (K := K) rfl) (pv 1) po_none (po_some pe_int)) (pa_cons (pe_slice (sl_anyK (K := K) rfl) (pv 1) (po_some pe_int) po_none) pa_nil)))))
  pss_nil)
  (pss_cons (ps_if (pt_cmpR op_eq (pv 2) pe_int (nomark _))
  (pss_one (ps_ret (pe_callTy (call_listB (K := K) rfl rfl) (by rfl) T.b_list boot_list (pa_cons (pv 1) pa_nil))))
  pss_nil)
  (pss_cons (ps_if (pt_cmpR op_eq (pv 2) pe_int (nomark _))
  (pss_one (ps_ret (pe_op op_addA (pe_slice (sl_anyK (K := K) rfl) (pv 1) po_none (po_some pe_int)) pe_str)))
  pss_nil)
  (pss_cons (ps_if (pt_cmpR op_eq (pv 2) pe_int (nomark _))
  (pss_one (ps_ret (pe_op op_addA pe_str (pe_slice (sl_anyK (K := K) rfl) (pv 1) (po_some pe_int) po_none))))
  pss_nil)
  (pss_cons (ps_if (pt_cmpR op_eq (pv 2) pe_int (nomark _))
  (pss_one (ps_ret (pe_op op_addA (pe_slice (sl_anyK (K := K) rfl) (pv 1) po_none (po_some pe_int)) (pe_bm0K (K := K) rfl (pe_bm0 PySem.F.plainAttrs_str PySem.F.slot_str_lower PySem.F.type_str_lower mt_lowerA (pe_slice (sl_anyK (K := K) rfl) (pv 1) (po_some pe_int) po_none))))))
  pss_nil)
  (pss_one (ps_ret (pe_callS (ok_Lvalue T) (hr.mono (by decide)) rfl T.mg_Lvalue T.kp_Lvalue T.bd_Lvalue (fun σ => passAt (takes_of rfl rfl rfl rfl) σ) (pa_cons (pv 0) pa_nil))))))))))))), ?_⟩
    rw [us_tx]
    walk_at "rd"
    refine ⟨h, c, 9, rfl, hh, by decide, by decide +kernel, fun H1 d0 d1 d2 k1 hh1 => ?_⟩
    obtain ⟨kd, rfl, hkd⟩ := nat_of (n := 9) d1 d2
    refine rd_name ?_
    with_reducible refine rd_nx ?_
    refine rd_have (M := fun σ' H' => σ' = [some (.ref h), some (.str (tx [a, b, x, d])), some (.int ((kd : Nat) : Int))] ∧ H1 = H') (fun σ' H' hM => ?_) (fun rest => ?_)
    rotate_left
    · refine rd_seq (rd_ifS ?_)
      walk_at "rd"
      refine rEq_v rfl ?_
      rw [show V.int 0 = V.int ((0 : Nat) : Int) from rfl, dec_kind]
      by_cases wk : kd = 0
      · rw [decide_eq_true wk]
        refine rd_blI (iteT ?_)
        walk_at "rd"
        refine rIx_s (l := [a, b, x, d]) l4 (atI_nat (j := 1) rfl) ?_
        walk_at "rd"
        refine rIx_s (l := [a, b, x, d]) l4 (atI_nat (j := 0) rfl) ?_
        refine rAdd_s (by show 2 ≤ 100000; decide) ?_
        walk_at "rd"
        refine sl_s (l := [a, b, x, d]) (m := [x, d]) (cutS_from _ 2) l4 ?_
        refine rAdd_s (by show 4 ≤ 100000; decide) ?_
        exact k _ _ k1 hh1 (.tex (by show 4 ≤ 100; decide))
      · rw [decide_eq_false wk]
        refine rd_blI (iteF ?_)
        exact rest _ _ ⟨rfl, rfl⟩
    obtain ⟨rfl, rfl⟩ := hM
    refine rd_have (M := fun σ' H' => σ' = [some (.ref h), some (.str (tx [a, b, x, d])), some (.int ((kd : Nat) : Int))] ∧ H1 = H') (fun σ' H' hM => ?_) (fun rest => ?_)
    rotate_left
    · refine rd_seq (rd_ifS ?_)
      walk_at "rd"
      refine rEq_v rfl ?_
      rw [show V.int 1 = V.int ((1 : Nat) : Int) from rfl, dec_kind]
      by_cases wk : kd = 1
      · rw [decide_eq_true wk]
        refine rd_blI (iteT ?_)
        walk_at "rd"
        refine sl_s (l := [a, b, x, d]) (m := [a, b]) (cutS_to _ 2) l4 ?_
        refine rAdd_s (by show 6 ≤ 100000; decide) ?_
        exact k _ _ k1 hh1 (.tex (by show 6 ≤ 100; decide))
      · rw [decide_eq_false wk]
        refine rd_blI (iteF ?_)
        exact rest _ _ ⟨rfl, rfl⟩
    obtain ⟨rfl, rfl⟩ := hM
    refine rd_have (M := fun σ' H' => σ' = [some (.ref h), some (.str (tx [a, b, x, d])), some (.int ((kd : Nat) : Int))] ∧ H1 = H') (fun σ' H' hM => ?_) (fun rest => ?_)
    rotate_left
    · refine rd_seq (rd_ifS ?_)
      walk_at "rd"
      refine rEq_v rfl ?_
      rw [show V.int 2 = V.int ((2 : Nat) : Int) from rfl, dec_kind]
      by_cases wk : kd = 2
      · rw [decide_eq_true wk]
        refine rd_blI (iteT ?_)
        walk_at "rd"
        refine sl_s (l := [a, b, x, d]) (m := [a, b]) (cutS_to _ 2) l4 ?_
        exact k _ _ k1 hh1 (.tex (by show 2 ≤ 100; decide))
      · rw [decide_eq_false wk]
        refine rd_blI (iteF ?_)
        exact rest _ _ ⟨rfl, rfl⟩
    obtain ⟨rfl, rfl⟩ := hM
    refine rd_have (M := fun σ' H' => σ' = [some (.ref h), some (.str (tx [a, b, x, d])), some (.int ((kd : Nat) : Int))] ∧ H1 = H') (fun σ' H' hM => ?_) (fun rest => ?_)
    rotate_left
    · refine rd_seq (rd_ifS ?_)
      walk_at "rd"
      refine rEq_v rfl ?_
      rw [show V.int 3 = V.int ((3 : Nat) : Int) from rfl, dec_kind]
      by_cases wk : kd = 3
      · rw [decide_eq_true wk]
        refine rd_blI (iteT ?_)
        refine rd_ret (rd_tup ?_)
        walk_at "rd"
        refine sl_s (l := [a, b, x, d]) (m := [a, b]) (cutS_to _ 2) l4 ?_
        walk_at "rd"
        refine sl_s (l := [a, b, x, d]) (m := [x, d]) (cutS_from _ 2) l4 ?_
        walk_at "rd"
        refine ⟨by show 2 ≤ sizeLine; decide, fun p hp => ?_⟩
        exact k _ _ (keep_new k1 hp) (hh1.upd hp) (.tup (hh1.out hp).1 upd_same)
      · rw [decide_eq_false wk]
        refine rd_blI (iteF ?_)
        exact rest _ _ ⟨rfl, rfl⟩
    obtain ⟨rfl, rfl⟩ := hM
    refine rd_have (M := fun σ' H' => σ' = [some (.ref h), some (.str (tx [a, b, x, d])), some (.int ((kd : Nat) : Int))] ∧ H1 = H') (fun σ' H' hM => ?_) (fun rest => ?_)
    rotate_left
    · refine rd_seq (rd_ifS ?_)
      walk_at "rd"
      refine rEq_v rfl ?_
      rw [show V.int 4 = V.int ((4 : Nat) : Int) from rfl, dec_kind]
      by_cases wk : kd = 4
      · rw [decide_eq_true wk]
        refine rd_blI (iteT ?_)
        walk_at "rd"
        refine list_t (l := [a, b, x, d]) l4 fun p hp => ?_
        exact k _ _ (keep_new k1 hp) (hh1.upd hp) (.lst (hh1.out hp).1 upd_same (by rw [vSgs_len]; show 4 ≤ 100; decide) (tex_sgs _))
      · rw [decide_eq_false wk]
        refine rd_blI (iteF ?_)
        exact rest _ _ ⟨rfl, rfl⟩
    obtain ⟨rfl, rfl⟩ := hM
    refine rd_have (M := fun σ' H' => σ' = [some (.ref h), some (.str (tx [a, b, x, d])), some (.int ((kd : Nat) : Int))] ∧ H1 = H') (fun σ' H' hM => ?_) (fun rest => ?_)
    rotate_left
    · refine rd_seq (rd_ifS ?_)
      walk_at "rd"
      refine rEq_v rfl ?_
      rw [show V.int 5 = V.int ((5 : Nat) : Int) from rfl, dec_kind]
      by_cases wk : kd = 5
      · rw [decide_eq_true wk]
        refine rd_blI (iteT ?_)
        walk_at "rd"
        refine sl_s (l := [a, b, x, d]) (m := [a, b, x]) (cutS_to _ 3) l4 ?_
        walk_at "rd"
        refine rAdd_s (by show 4 ≤ 100000; decide) ?_
        exact k _ _ k1 hh1 (.tex (by show 4 ≤ 100; decide))
      · rw [decide_eq_false wk]
        refine rd_blI (iteF ?_)
        exact rest _ _ ⟨rfl, rfl⟩
    obtain ⟨rfl, rfl⟩ := hM
    refine rd_have (M := fun σ' H' => σ' = [some (.ref h), some (.str (tx [a, b, x, d])), some (.int ((kd : Nat) : Int))] ∧ H1 = H') (fun σ' H' hM => ?_) (fun rest => ?_)
    rotate_left
    · refine rd_seq (rd_ifS ?_)
      walk_at "rd"
      refine rEq_v rfl ?_
      rw [show V.int 6 = V.int ((6 : Nat) : Int) from rfl, dec_kind]
      by_cases wk : kd = 6
      · rw [decide_eq_true wk]
        refine rd_blI (iteT ?_)
        walk_at "rd"
        refine sl_s (l := [a, b, x, d]) (m := [b, x, d]) (cutS_from _ 1) l4 ?_
        refine rAdd_s (by show 4 ≤ 100000; decide) ?_
        exact k _ _ k1 hh1 (.tex (by show 4 ≤ 100; decide))
      · rw [decide_eq_false wk]
        refine rd_blI (iteF ?_)
        exact rest _ _ ⟨rfl, rfl⟩
    obtain ⟨rfl, rfl⟩ := hM
    refine rd_have (M := fun σ' H' => σ' = [some (.ref h), some (.str (tx [a, b, x, d])), some (.int ((kd : Nat) : Int))] ∧ H1 = H') (fun σ' H' hM => ?_) (fun rest => ?_)
    rotate_left
    · refine rd_seq (rd_ifS ?_)
      walk_at "rd"
      refine rEq_v rfl ?_
      rw [show V.int 7 = V.int ((7 : Nat) : Int) from rfl, dec_kind]
      by_cases wk : kd = 7
      · rw [decide_eq_true wk]
        refine rd_blI (iteT ?_)
        walk_at "rd"
        refine sl_s (l := [a, b, x, d]) (m := [a, b]) (cutS_to _ 2) l4 ?_
        walk_at "rd"
        refine sl_s (l := [a, b, x, d]) (m := [x, d]) (cutS_from _ 2) l4 ?_
        walk_at "rd"
        refine ⟨tx [x, d], rfl, rfl, by rw [tx_length]; show 2 ≤ 5592405; decide, ?_⟩
        rw [lower_txX (l := [x, d]) (fun c hc => by simp only [List.mem_cons, List.not_mem_nil, or_false] at hc; rcases hc with rfl | rfl <;> assumption)]
        refine rAdd_s (by show 4 ≤ 100000; decide) ?_
        exact k _ _ k1 hh1 (.tex (by show 4 ≤ 100; decide))
      · rw [decide_eq_false wk]
        refine rd_blI (iteF ?_)
        exact rest _ _ ⟨rfl, rfl⟩
    obtain ⟨rfl, rfl⟩ := hM
    walk_at "rd"
    exact ⟨h, c, rfl, hh1, fun v H3 k3 hh3 hv => k v H3 (k1.trans k3) hh3 hv⟩
/-- pairs that are spoiled -/
def PairV (h : Addr) (H : Hp) (v : V) : Prop := AnyV h H v ∨ ∃ a xs, v = .ref a ∧ a ≠ h ∧ H a = some (.lst xs) ∧ xs.length ≤ 2000 ∧ ∀ x ∈ xs, AnyV h H x
theorem PairV.keep {h : Addr} {H H' : Hp} {v : V} (t : PairV h H v) (k : Keep1 h H H') : PairV h H' v := by
  rcases t with t | ⟨a, xs, rfl, n, e, z, x⟩
  · exact .inl (t.keep k)
  · exact .inr ⟨a, xs, rfl, n, k _ _ e n, z, fun y hy => (x y hy).keep k⟩
theorem PairV.lists {h : Addr} {H : Hp} {v : V} (t : PairV h H v) : NoList K H v ∨ ∃ a xs, v = .ref a ∧ a ≠ h ∧ H a = some (.lst xs) ∧ xs.length ≤ 2000 ∧ ∀ x ∈ xs, AnyV h H x := by
  rcases t with t | t
  · rcases t.pairs (K := K) with t | ⟨a, xs, rfl, n, e, z, x⟩
    · exact .inl t
    · exact .inr ⟨a, xs, rfl, n, e, by omega, fun y hy => .inl (x y hy)⟩
  · exact .inr t
def sp_Lspoiled_pairs : Sp := fun vs H Q _ => ∃ h c a ps, vs = [.ref h, .ref a] ∧ HandAt H h c ∧ a ≠ h ∧ H a = some (.lst (vTxs ps)) ∧ ps.length ≤ 1000 ∧ (∀ p ∈ ps, p.length = 4 ∧ ∀ c ∈ p, c < 128) ∧ ∀ v H', Keep1 h H H' → HandAt H' h c → PairV h H' v → Q v H'
theorem ok_Lspoiled_pairs (T : Txt K mg) : FnOk P w K mg base (L2.CX P w) 4 T.f_Lspoiled_pairs T.fd_Lspoiled_pairs ["_law_hand_here", "_law_pairs_here"] sp_Lspoiled_pairs := by
  refine T.F_Lspoiled_pairs.okX sc_Lspoiled_pairs (fun vs H Q E h => ?_) (fun cdv A outer s H vs Q E hr h => ?_)
  · obtain ⟨_, _, _, _, rfl, _⟩ := h
    rfl
  · obtain ⟨h, c, a, ps, rfl, hh, nah, ha, hz, hp4, k⟩ := h
    have hu := hu_of hr
    have hlen : (vTxs ps).length = ps.length := vTxs_len ps
    refine ⟨_, (pss_cons (ps_set (i := 2) sc_Lspoiled_pairs.nd rfl (by first | exact Or.inl rfl | exact Or.inr rfl) (pe_callS (ok_Ldraw T) (hr.mono (by decide)) rfl T.mg_Ldraw T.kp_Ldraw T.bd_Ldraw (fun σ => passAt (takes_of rfl rfl rfl rfl) σ) (pa_cons (pv 0) (pa_cons pe_int pa_nil))))
  (pss_cons (ps_set (i := 3) sc_Lspoiled_pairs.nd rfl (by first | exact Or.inl rfl | exact Or.inr rfl) (pe_callS (ok_Ldraw T) (hr.mono (by decide)) rfl T.mg_Ldraw T.kp_Ldraw T.bd_Ldraw (fun σ => passAt (takes_of rfl rfl rfl rfl) σ) (pa_cons (pv 0) (pa_cons (pe_op op_addA (pe_callB (call_lenK (K := K) rfl) (by rfl) T.b_len boot_len (pa_cons (pv 1) pa_nil)) pe_int) pa_nil))))
  (pss_cons (ps_if (pt_cmpR op_eq (pv 2) pe_int (nomark _))
  (pss_one (ps_ret (pe_callTy (call_tupLK (K := K) rfl) (by rfl) T.b_tuple boot_tuple (pa_cons (pv 1) pa_nil))))
  pss_nil)
  (pss_cons (ps_if (PW.pt (pw_and (pt_cmpR op_eq (pv 2) pe_int (nomark _)) (pw_and1 (pt_cmpR op_gt (pe_callB (call_lenK (K := K) rfl) (by rfl) T.b_len boot_len (pa_cons (pv 1) pa_nil)) pe_int (nomark _)))))
  (pss_one (ps_ret (pe_op op_addA (pe_op op_addA (pe_slice (sl_anyK (K := K) rfl) (pv 1) po_none (po_some (pv 3))) (pe_lst (pa_cons (pe_ix (ix_seqK (K := K) rfl) (pv 1) pe_int (fun _ _ => rfl)) pa_nil))) (pe_slice (sl_anyK (K := K) rfl) (pv 1) (po_some (pv 3)) po_none))))
  pss_nil)
  (pss_cons (ps_if (pt_cmpR op_lt (pv 2) pe_int (nomark _))
  (pss_cons (ps_set (i := 4) sc_Lspoiled_pairs.nd rfl (by first | exact Or.inl rfl | exact Or.inr rfl) (pe_ix (ix_seqK (K := K) rfl) (pe_op op_addA (pv 1) (pe_lst (pa_cons pe_str pa_nil))) pe_int (fun _ _ => rfl)))
  (pss_one (ps_ret (pe_op op_addA (pe_op op_addA (pe_slice (sl_anyK (K := K) rfl) (pv 1) po_none (po_some (pv 3))) (pe_lst (pa_cons (pe_callS (ok_Lspoiled_pair T) (hr.mono (by decide)) rfl T.mg_Lspoiled_pair T.kp_Lspoiled_pair T.bd_Lspoiled_pair (fun σ => passAt (takes_of rfl rfl rfl rfl) σ) (pa_cons (pv 0) (pa_cons (pv 4) pa_nil))) pa_nil))) (pe_slice (sl_anyK (K := K) rfl) (pv 1) (po_some (pv 3)) po_none)))))
  pss_nil)
  (pss_one (ps_ret (pe_callS (ok_Lvalue T) (hr.mono (by decide)) rfl T.mg_Lvalue T.kp_Lvalue T.bd_Lvalue (fun σ => passAt (takes_of rfl rfl rfl rfl) σ) (pa_cons (pv 0) pa_nil))))))))), ?_⟩
    rw [aXaX_tx]
    walk_at "rd"
    refine ⟨h, c, 6, rfl, hh, by decide, by decide +kernel, fun H1 d0 d1 d2 k1 hh1 => ?_⟩
    obtain ⟨kd, rfl, hkd⟩ := nat_of (n := 6) d1 d2
    have ha1 := k1 _ _ ha nah
    walk_at "rd"
    refine len_l (SqL.of ha1) ?_
    rw [hlen]
    walk_at "rd"
    refine ⟨h, c, _, rfl, hh1, by omega, log9 (n := ps.length + 1) (by omega), fun H2 e0 e1 e2 k2 hh2 => ?_⟩
    obtain ⟨at0, rfl, hat⟩ := nat_of (n := ps.length + 1) e1 e2
    have k12 := k1.trans k2
    have ha2 := k2 _ _ ha1 nah
    have tex : ∀ x ∈ vTxs ps, TexV x := fun x hx => by
      obtain ⟨l, hl, rfl⟩ := vTxs_mem hx
      exact ⟨l, rfl, by rw [(hp4 l hl).1]; decide⟩
    have fin1 : ∀ (o4 : Option V) (H3 : Hp) (p1 : Addr) (v : V), H3 a = some (.lst (vTxs ps)) → H3 p1 = some (.lst ((vTxs ps).take at0)) → Keep1 h H H3 → HandAt H3 h c → AnyV h H3 v → ([v] : List V).length ≤ sizeLine ∧ ∀ p2, H3 p2 = none →
        rAddA (.ref p1) (.ref p2) (upd H3 p2 (.lst [v])) fun x4 H4 => tSl (rSlA2 K) (tVar 1) (tPart (tVar 3)) tNoPart [some (.ref h), some (.ref a), some (.int ((kd : Nat) : Int)), some (.int ((at0 : Nat) : Int)), o4] H4 fun y H5 => rAddA x4 y H5 Q := fun o4 H3 p1 v ea e1 k3 hh3 hv => by
      refine ⟨by show 1 ≤ sizeLine; decide, fun p2 hp2 => ?_⟩
      refine rAdd_l (upd_keep hp2 e1) upd_same (by rw [List.length_take, hlen]; show _ + 1 ≤ 100000; omega) fun p3 hp3 => ?_
      have s3 : Same H3 (upd (upd H3 p2 (.lst [v])) p3 (.lst ((vTxs ps).take at0 ++ [v]))) := (Same.new hp2).trans (Same.new hp3)
      have f3 : upd (upd H3 p2 (.lst [v])) p3 (.lst ((vTxs ps).take at0 ++ [v])) p3 = some (.lst ((vTxs ps).take at0 ++ [v])) := upd_same
      generalize upd (upd H3 p2 (.lst [v])) p3 (.lst ((vTxs ps).take at0 ++ [v])) = H4 at *
      walk_at "rd"
      refine sl_l (SqL.of (s3 _ _ ea)) fun p4 hp4 => ?_
      rw [cutV_from]
      refine rAdd_l (upd_keep hp4 f3) upd_same (by rw [List.length_append, List.length_take, List.length_drop, hlen]; show _ + 1 + _ ≤ 100000; omega) fun p5 hp5 => ?_
      have s5 : Same H3 (upd (upd H4 p4 (.lst ((vTxs ps).drop at0))) p5 (.lst ((vTxs ps).take at0 ++ [v] ++ (vTxs ps).drop at0))) := (s3.trans (Same.new hp4)).trans (Same.new hp5)
      have hh5 := ((hh3.same s3).upd (o := .lst ((vTxs ps).drop at0)) hp4)
      refine k _ _ (k3.same s5) (hh5.upd hp5) (.inr ⟨p5, _, rfl, (hh5.out hp5).1, upd_same, ?_, fun y hy => ?_⟩)
      · rw [List.length_append, List.length_append, List.length_take, List.length_drop, hlen]
        show _ + 1 + _ ≤ 2000
        omega
      · rcases List.mem_append.mp hy with hy | hy
        · rcases List.mem_append.mp hy with hy | hy
          · exact .inl (tex _ (List.mem_of_mem_take hy))
          · rw [List.mem_singleton.mp hy]
            exact hv.keep (Keep1.of s5)
        · exact .inl (tex _ (List.mem_of_mem_drop hy))
    refine rd_name ?_
    with_reducible refine rd_nx ?_
    refine rd_have (M := fun σ' H' => σ' = [some (.ref h), some (.ref a), some (.int ((kd : Nat) : Int)), some (.int ((at0 : Nat) : Int)), none] ∧ H2 = H') (fun σ' H' hM => ?_) (fun rest => ?_)
    rotate_left
    · refine rd_seq (rd_ifS ?_)
      walk_at "rd"
      refine rEq_v rfl ?_
      rw [show V.int 0 = V.int ((0 : Nat) : Int) from rfl, dec_kind]
      by_cases wk : kd = 0
      · rw [decide_eq_true wk]
        refine rd_blI (iteT ?_)
        walk_at "rd"
        refine tup_l (SqL.of ha2) fun p hp => ?_
        exact k _ _ (keep_new k12 hp) (hh2.upd hp) (.inl (.tup (hh2.out hp).1 upd_same))
      · rw [decide_eq_false wk]
        refine rd_blI (iteF ?_)
        exact rest _ _ ⟨rfl, rfl⟩
    obtain ⟨rfl, rfl⟩ := hM
    refine rd_have (M := fun σ' H' => σ' = [some (.ref h), some (.ref a), some (.int ((kd : Nat) : Int)), some (.int ((at0 : Nat) : Int)), none] ∧ H2 = H') (fun σ' H' hM => ?_) (fun rest => ?_)
    rotate_left
    · refine rd_seq (rd_ifS ?_)
      walk_at "rd"
      refine rEq_v rfl ?_
      rw [show V.int 1 = V.int ((1 : Nat) : Int) from rfl, dec_kind]
      by_cases wk : kd = 1
      · rw [decide_eq_true wk]
        refine ⟨true, rfl, iteT ?_⟩
        walk_at "rd"
        refine len_l (SqL.of ha2) ?_
        rw [hlen]
        walk_at "rd"
        by_cases wx : 0 < ps.length
        · rw [decide_eq_true (by omega)]
          refine iteT ?_
          walk_at "rd"
          refine sl_l (SqL.of ha2) fun p1 hp1 => ?_
          rw [cutV_to]
          have s1 : Same H2 (upd H2 p1 (.lst ((vTxs ps).take at0))) := Same.new hp1
          have f1 : upd H2 p1 (.lst ((vTxs ps).take at0)) p1 = some (.lst ((vTxs ps).take at0)) := upd_same
          have hh3 := hh2.upd (o := .lst ((vTxs ps).take at0)) hp1
          generalize upd H2 p1 (.lst ((vTxs ps).take at0)) = H3 at *
          have n1 : p1 ≠ h := (hh2.out hp1).1
          refine rd_lst ?_
          walk_at "rd"
          refine rIx_l (SqL.of (s1 _ _ ha2)) (atI_nat (j := 0) (v := .str (tx (ps.getD 0 []))) ?_) ?_
          · rw [show (0 : Nat) = 0 from rfl, vTxs_get wx]
          have ix : TexV (.str (tx (ps.getD 0 []))) := tex _ (List.mem_of_getElem? (vTxs_get wx))
          exact fin1 none H3 p1 _ (s1 _ _ ha2) f1 (k12.same s1) hh3 (.inl ix)
        · rw [decide_eq_false (by omega)]
          refine iteF ?_
          exact rest _ _ ⟨rfl, rfl⟩
      · rw [decide_eq_false wk]
        refine ⟨false, rfl, iteF ?_⟩
        exact rest _ _ ⟨rfl, rfl⟩
    obtain ⟨rfl, rfl⟩ := hM
    refine rd_have (M := fun σ' H' => σ' = [some (.ref h), some (.ref a), some (.int ((kd : Nat) : Int)), some (.int ((at0 : Nat) : Int)), none] ∧ H2 = H') (fun σ' H' hM => ?_) (fun rest => ?_)
    rotate_left
    · refine rd_seq (rd_ifS ?_)
      walk_at "rd"
      by_cases w5 : kd < 5
      · rw [decide_eq_true (by omega)]
        refine iteT ?_
        obtain ⟨q, hq0, hq4, hq128⟩ : ∃ q, (vTxs ps ++ [V.str (tx [97, 88, 97, 88])])[0]? = some (.str (tx q)) ∧ q.length = 4 ∧ ∀ c ∈ q, c < 128 := by
          cases ps with
          | nil => exact ⟨[97, 88, 97, 88], rfl, rfl, by decide⟩
          | cons q r => exact ⟨q, rfl, (hp4 q List.mem_cons_self).1, (hp4 q List.mem_cons_self).2⟩
        obtain ⟨qa, qb, qx, qd, rfl⟩ : ∃ a b c d, q = [a, b, c, d] := by
          match q, hq4 with
          | [a, b, c, d], _ => exact ⟨a, b, c, d, rfl⟩
        refine rd_seq (rd_asg (rd_op ?_))
        walk_at "rd"
        refine rd_lst ?_
        walk_at "rd"
        refine ⟨by show 1 ≤ sizeLine; decide, fun q1 hq1 => ?_⟩
        refine rAdd_l (upd_keep hq1 ha2) upd_same (by rw [hlen]; show _ + 1 ≤ 100000; omega) fun q2 hq2 => ?_
        have s3 : Same H2 (upd (upd H2 q1 (.lst [V.str (tx [97, 88, 97, 88])])) q2 (.lst (vTxs ps ++ [V.str (tx [97, 88, 97, 88])]))) := (Same.new hq1).trans (Same.new hq2)
        have f3 : upd (upd H2 q1 (.lst [V.str (tx [97, 88, 97, 88])])) q2 (.lst (vTxs ps ++ [V.str (tx [97, 88, 97, 88])])) q2 = some (.lst (vTxs ps ++ [V.str (tx [97, 88, 97, 88])])) := upd_same
        generalize upd (upd H2 q1 (.lst [V.str (tx [97, 88, 97, 88])])) q2 (.lst (vTxs ps ++ [V.str (tx [97, 88, 97, 88])])) = H3 at *
        walk_at "rd"
        refine rIx_l (SqL.of f3) (atI_nat (j := 0) hq0) ?_
        refine rd_name ?_
        with_reducible refine rd_nx ?_
        walk_at "rd"
        have ha3 := s3 _ _ ha2
        refine sl_l (SqL.of ha3) fun p1 hp1 => ?_
        rw [cutV_to]
        have s4 : Same H3 (upd H3 p1 (.lst ((vTxs ps).take at0))) := Same.new hp1
        have f4 : upd H3 p1 (.lst ((vTxs ps).take at0)) p1 = some (.lst ((vTxs ps).take at0)) := upd_same
        have hh4 := (hh2.same s3).upd (o := .lst ((vTxs ps).take at0)) hp1
        have n1 : p1 ≠ h := ((hh2.same s3).out hp1).1
        generalize upd H3 p1 (.lst ((vTxs ps).take at0)) = H4 at *
        refine rd_lst ?_
        walk_at "rd"
        refine ⟨h, c, qa, qb, qx, qd, rfl, hh4, hq128 qx (by simp), hq128 qd (by simp), fun v H5 k5 hh5 hv => ?_⟩
        exact fin1 _ H5 p1 v (k5 _ _ (s4 _ _ ha3) nah) (k5 _ _ f4 n1) (((k12.same s3).same s4).trans k5) hh5 hv
      · rw [decide_eq_false (by omega)]
        refine iteF ?_
        exact rest _ _ ⟨rfl, rfl⟩
    obtain ⟨rfl, rfl⟩ := hM
    walk_at "rd"
    exact ⟨h, c, rfl, hh2, fun v H3 k3 hh3 hv => k v H3 (k12.trans k3) hh3 (.inl hv)⟩
end

section
variable {P : Program} [NW.SupP P] {w : World} {K : PySem.W.Frag} {mg : Str → Option Value} {base : Heap}
theorem count_nodup (l L : List Nat) : (l.all fun c => decide (c ∈ L) && decide (l.count c = 1)) = true ↔ (∀ c ∈ l, c ∈ L) ∧ l.Nodup := by
  rw [List.all_eq_true]
  constructor
  · intro h
    refine ⟨fun c hc => ?_, List.nodup_iff_count.mpr fun a => ?_⟩
    · have := h c hc
      simp only [Bool.and_eq_true, decide_eq_true_eq] at this
      exact this.1
    · by_cases ha : a ∈ l
      · have := h a ha
        simp only [Bool.and_eq_true, decide_eq_true_eq] at this
        omega
      · rw [List.count_eq_zero_of_not_mem ha]
        omega
  · rintro ⟨h1, h2⟩ c hc
    simp only [Bool.and_eq_true, decide_eq_true_eq]
    have a1 := List.nodup_iff_count.mp h2 c
    have a2 := List.count_pos_iff.mpr hc
    exact ⟨h1 c hc, by omega⟩
/-- the law's own look at letters -/
theorem ok_Lis_choice (T : Txt K mg) : FnOk P w K mg base (L2.CX P w) 1 T.f_Lis_choice T.fd_Lis_choice ["_law_thing", "_law_signs", "_law_most"] (sp_are_different K) := by
  refine T.F_Lis_choice.okX sc_Lis_choice (fun vs H Q E h => ?_) (fun cdv A outer s H vs Q E hr h => ?_)
  · obtain ⟨_, _, _, rfl, _⟩ := h
    rfl
  · obtain ⟨v, L, most, rfl, h⟩ := h
    refine ⟨_, (pss_cons (ps_if (PW.pt (pw_or (pt_not (pt_val (pe_callB (call_isiK1 (K := K) rfl) (by rfl) T.b_isinstance boot_isinstance (pa_cons (pv 0) (pa_cons (pe_bltn (v := .ty "str") rfl T.b_str boot_str rfl) pa_nil))))) (pw_or1 (pt_not (pt_chain op_le op_le pe_int (pe_callB (call_lenK (K := K) rfl) (by rfl) T.b_len boot_len (pa_cons (pv 0) pa_nil)) (pv 2))))))
  (pss_one (ps_ret pe_bl))
  pss_nil)
  (pss_one (ps_ret (pe_callB (cr_allK (K := K) rfl rfl) (by rfl) T.b_all (by decide +kernel) (pa_cons (pe_lc (own := [("_law_sign", 3)]) rfl sc_Lis_choice.nd (pi_str (pv 0)) (blkOk_by (N := N_Lis_choice) (sc := defScope s_Lis_choice) (by decide +kernel))
   (fun _ _ _ _ _ => (pg_name (i := 3) sc_Lis_choice.nd rfl (by first | exact Or.inl rfl | exact Or.inr rfl))) (fun _ _ _ _ _ => pts_nil) (fun _ _ _ _ _ => (pe_and (pe_cmpR op_inSg (pv 3) (pv 1) (by with_unfolding_all rfl)) (pe_one (pe_cmpR op_eq (pe_bmA (K := K) rfl (pe_bm PySem.F.plainAttrs_str PySem.F.slot_str_count PySem.F.type_str_count mt_countA (pv 0) (pa_cons (pv 3) pa_nil))) pe_int (nomark _)))))) pa_nil))))), ?_⟩
    walk_at "rd"
    rcases h with ⟨l, rfl, hz, k⟩ | ⟨⟨t, ht, hk⟩, k⟩
    · refine ⟨_, _, _, _, true, rfl, .ty "str", .base (.str _), kit_ty (by decide +kernel), ?_⟩
      walk_at "rd"
      refine iteF ?_
      walk_at "rd"
      refine len_s (l := l) (by omega) ?_
      walk_at "rd"
      by_cases h1 : (1 : Int) ≤ (l.length : Nat)
      · rw [decide_eq_true h1]
        refine iteT ?_
        walk_at "rd"
        by_cases h2 : ((l.length : Nat) : Int) ≤ most
        · rw [decide_eq_true h2]
          walk_at "rd"
          refine iteF ?_
          walk_at "rd"
          refine rd_L (el_lcS (l := l) (fun _ => true) (fun c => .bl (decide (c ∈ L) && decide (l.count c = 1))) (Evl.ev_var rfl) (by omega) (fun _ => rfl) (fun _ _ _ _ => ev_yes) (fun c hc H1 _ _ H2 e2 Q q => ?_)) fun p H1 hp hs hl => ?_
          · walk_at "rd"
            by_cases hcL : c ∈ L
            · rw [decide_eq_true hcL] at q ⊢
              refine iteT ?_
              walk_at "rd"
              refine cnt_s ?_
              walk_at "rd"
              refine rEq_v rfl ?_
              rw [show V.int 1 = V.int ((1 : Nat) : Int) from rfl, dec_kind]
              exact q H2 (Evl.Ex.refl _)
            · rw [decide_eq_false hcL] at q ⊢
              refine iteF ?_
              exact q H2 (Evl.Ex.refl _)
          · walk_at "rd"
            refine ⟨p, l.map fun c => decide (c ∈ L) && decide (l.count c = 1), rfl, SqL.of ?_, ?_⟩
            · rw [hl, List.filter_eq_self.mpr (fun _ _ => rfl), List.map_map]
              rfl
            · have e : (l.map fun c => decide (c ∈ L) && decide (l.count c = 1)).all id = decide (OkDiff L most l) := by
                rw [List.all_map]
                show (l.all fun c => decide (c ∈ L) && decide (l.count c = 1)) = _
                by_cases hd : (∀ c ∈ l, c ∈ L) ∧ l.Nodup
                · rw [(count_nodup l L).mpr hd, decide_eq_true (show OkDiff L most l from ⟨hd.1, by omega, h2, hd.2⟩)]
                · rw [decide_eq_false (fun h : OkDiff L most l => hd ⟨h.1, h.2.2.2⟩)]
                  exact Bool.eq_false_iff.mpr fun e => hd ((count_nodup l L).mp e)
              rw [e]
              exact k H1 hs
        · rw [decide_eq_false h2]
          walk_at "rd"
          refine iteT ?_
          walk_at "rd"
          rw [← decide_eq_false (fun h : OkDiff L most l => h2 h.2.2.1)]
          exact k H (Same.refl _)
      · rw [decide_eq_false h1]
        refine iteF ?_
        walk_at "rd"
        refine iteT ?_
        walk_at "rd"
        rw [← decide_eq_false (fun h : OkDiff L most l => h1 (by have := h.2.1; omega))]
        exact k H (Same.refl _)
    · refine ⟨_, _, _, _, false, rfl, .ty "str", ht, hk, ?_⟩
      walk_at "rd"
      refine iteT (iteT ?_)
      walk_at "rd"
      exact k
/-- the law's own look at pairs -/
def sp_Lare_pairs (K : PySem.W.Frag) : Sp := fun vs H Q _ => ∃ v gv sd, vs = [v, .str (tx gv), .str (tx sd)] ∧ gv.length ≤ 1000 ∧ sd.length ≤ 1000 ∧
  ((NoList K H v ∧ ∀ H', Same H H' → Q (.bl false) H') ∨ ∃ a xs, v = .ref a ∧ H a = some (.lst xs) ∧ xs.length ≤ 3000 ∧ (∀ x ∈ xs, ∀ H', Same H H' → (TexV x ∨ NoText K H' x) ∧ MixV K H' x) ∧ (GoodPs gv sd xs → ∀ H', Same H H' → Q (.bl true) H') ∧ (¬ GoodPs gv sd xs → ∀ H', Same H H' → Q (.bl false) H'))
theorem good_at {gv sd : List Nat} {xs : List V} {x : V} (g : GoodPs gv sd xs) (hx : x ∈ xs) : ∃ l, x = .str (tx l) ∧ OkPair gv sd l ∧ xs.count x = 1 := by
  obtain ⟨ps, rfl, h1, h2⟩ := g
  obtain ⟨l, hl, rfl⟩ := vTxs_mem hx
  refine ⟨l, rfl, h1 l hl, ?_⟩
  have hn : (vTxs ps).Nodup := by
    unfold vTxs
    exact List.nodup_iff_pairwise_ne.mpr ((List.pairwise_map).mpr ((List.nodup_iff_pairwise_ne.mp h2).imp fun hab e => hab (tx_inj (V.str.inj e))))
  have a1 := List.nodup_iff_count.mp hn (.str (tx l))
  have a2 := List.count_pos_iff.mpr hx
  omega
theorem good_of {gv sd : List Nat} {xs : List V} (h : ∀ (j : Nat) (x : V), xs[j]? = some x → ∃ l, x = .str (tx l) ∧ OkPair gv sd l ∧ xs.count x = 1) : GoodPs gv sd xs := by
  have e : ∀ ys : List V, (∀ x ∈ ys, ∃ l, x = .str (tx l) ∧ OkPair gv sd l) → ∃ ps, ys = vTxs ps ∧ ∀ p ∈ ps, OkPair gv sd p := by
    intro ys
    induction ys with
    | nil => exact fun _ => ⟨[], rfl, fun p hp => (List.not_mem_nil hp).elim⟩
    | cons y r ih =>
      intro hy
      obtain ⟨l, rfl, hl⟩ := hy y List.mem_cons_self
      obtain ⟨ps, rfl, hp⟩ := ih fun x hx => hy x (List.mem_cons_of_mem _ hx)
      refine ⟨l :: ps, rfl, fun p hp' => ?_⟩
      rcases List.mem_cons.mp hp' with rfl | h
      · exact hl
      · exact hp p h
  have hm : ∀ x ∈ xs, ∃ l, x = .str (tx l) ∧ OkPair gv sd l ∧ xs.count x = 1 := fun x hx => by
    obtain ⟨j, hj⟩ := List.mem_iff_getElem?.mp hx
    exact h j x hj
  obtain ⟨ps, hps, hok⟩ := e xs fun x hx => by
    obtain ⟨l, h1, h2, _⟩ := hm x hx
    exact ⟨l, h1, h2⟩
  refine ⟨ps, hps, hok, ?_⟩
  have hn : xs.Nodup := List.nodup_iff_count.mpr fun a => by
    by_cases ha : a ∈ xs
    · obtain ⟨_, _, _, h3⟩ := hm a ha
      omega
    · rw [List.count_eq_zero_of_not_mem ha]
      omega
  rw [hps] at hn
  unfold vTxs at hn
  exact List.nodup_iff_pairwise_ne.mpr ((List.pairwise_map.mp (List.nodup_iff_pairwise_ne.mp hn)).imp fun hab e => hab (by rw [e]))
theorem ok_Lare_pairs (T : Txt K mg) : FnOk P w K mg base (L2.CX P w) 1 T.f_Lare_pairs T.fd_Lare_pairs ["_law_thing", "_law_given", "_law_said"] (sp_Lare_pairs K) := by
  refine T.F_Lare_pairs.okX sc_Lare_pairs (fun vs H Q E h => ?_) (fun cdv A outer s H vs Q E hr h => ?_)
  · obtain ⟨_, _, _, rfl, _⟩ := h
    rfl
  · obtain ⟨v, gv, sd, rfl, hgz, hsz, h⟩ := h
    refine ⟨_, (pss_cons (ps_if (pt_not (pt_val (pe_callB (call_isiK1 (K := K) rfl) (by rfl) T.b_isinstance boot_isinstance (pa_cons (pv 0) (pa_cons (pe_bltn (v := .ty "list") rfl T.b_list boot_list rfl) pa_nil)))))
  (pss_one (ps_ret pe_bl))
  pss_nil)
  (pss_cons (ps_for (passes_of rfl) rfl (pi_listK (K := K) rfl (pv 0)) (pg_name (i := 3) sc_Lare_pairs.nd rfl (by first | exact Or.inl rfl | exact Or.inr rfl))
  (pss_cons (ps_if (PW.pt (pw_or (pt_not (pt_val (pe_callB (call_isiK1 (K := K) rfl) (by rfl) T.b_isinstance boot_isinstance (pa_cons (pv 3) (pa_cons (pe_bltn (v := .ty "str") rfl T.b_str boot_str rfl) pa_nil))))) (pw_or (pt_cmpR op_ne (pe_callB (call_lenK (K := K) rfl) (by rfl) T.b_len boot_len (pa_cons (pv 3) pa_nil)) pe_int (nomark _)) (pw_or1 (pt_cmpR op_ne (pe_bmA (K := K) rfl (pe_bm PySem.F.plainAttrs_list PySem.F.slot_list_count PySem.F.type_list_count (mt_countM (K := K) rfl (hu64 hr)) (pv 0) (pa_cons (pv 3) pa_nil))) pe_int (nomark _))))))
  (pss_one (ps_ret pe_bl))
  pss_nil)
  (pss_one (ps_for (passes_of rfl) rfl (pi_range1 rfl T.b_range (pa_cons pe_int pa_nil)) (pg_name (i := 4) sc_Lare_pairs.nd rfl (by first | exact Or.inl rfl | exact Or.inr rfl))
  (pss_one (ps_if (pt_cmpR op_notInSg (pe_ix (ix_seqK (K := K) rfl) (pv 3) (pv 4) (fun _ _ => rfl)) (pe_ix (ix_seqK (K := K) rfl) (pe_lst (pa_cons (pv 1) (pa_cons (pv 2) pa_nil))) (pe_op op_mod (pe_callTy call_intA (by rfl) T.b_int boot_int (pa_cons (pv 4) pa_nil)) pe_int) (fun _ _ => rfl)) (by with_unfolding_all rfl))
  (pss_one (ps_ret pe_bl))
  pss_nil))))))
  (pss_one (ps_ret pe_bl)))), ?_⟩
    walk_at "rd"
    rcases h with ⟨⟨t, ht, hk⟩, k⟩ | ⟨a, xs, rfl, ha, hlen, hit, kg, kb⟩
    · refine ⟨_, _, _, _, false, rfl, .ty "list", ht, hk, ?_⟩
      walk_at "rd"
      refine iteT ?_
      walk_at "rd"
      exact k H (Same.refl _)
    refine ⟨_, _, _, _, true, rfl, .ty "list", .base (.lst ha), kit_ty (by decide +kernel), ?_⟩
    walk_at "rd"
    refine iteF ?_
    walk_at "rd"
    refine rd_for (xs := xs) (wk_list (Evl.ev_var rfl) (SqL.of ha))
      (fun i σ' H' => ∃ o3 o4, σ' = [some (.ref a), some (.str (tx gv)), some (.str (tx sd)), o3, o4] ∧ (∀ j, j < i → ∀ x, xs[j]? = some x → ∃ l, x = .str (tx l) ∧ OkPair gv sd l ∧ xs.count x = 1) ∧ Same H H')
      (fun H1 s1 => ⟨none, none, rfl, fun j hj => by omega, s1⟩) (fun i σ' H' _ ⟨_, _, _, _, s2⟩ => SqL.of (s2 _ _ ha)) (fun i x σ' H' hx ⟨o3, o4, hσ, hok, s2⟩ => ?_) (fun σ' H' ⟨o3, o4, hσ, hok, s2⟩ => ?_)
    · subst hσ
      have hmem : x ∈ xs := List.mem_of_getElem? hx
      walk_at "rd"
      rcases (hit x hmem H' s2).1 with ⟨l, rfl, hlz⟩ | ⟨t, ht, hk⟩
      · refine ⟨_, _, _, _, true, rfl, .ty "str", .base (.str _), kit_ty (by decide +kernel), ?_⟩
        walk_at "rd"
        refine iteF ?_
        walk_at "rd"
        refine len_s (l := l) (by omega) ?_
        walk_at "rd"
        refine rNe_v rfl ?_
        rw [decide_int]
        by_cases h4 : l.length = 4
        · rw [decide_eq_true (show ((l.length : Nat) : Int) = 4 by omega)]
          obtain ⟨ca, cb, cc, cd, rfl⟩ : ∃ a b c d, l = [a, b, c, d] := by
            match l, h4 with
            | [a, b, c, d], _ => exact ⟨a, b, c, d, rfl⟩
          refine ⟨false, rfl, iteF ?_⟩
          walk_at "rd"
          refine ⟨ty_lst (SqL.of (s2 _ _ ha)), ?_⟩
          walk_at "rd"
          refine ⟨a, xs, tx [ca, cb, cc, cd], rfl, rfl, SqL.of (s2 _ _ ha), fun y hy => (hit y hy H' s2).2, ?_⟩
          walk_at "rd"
          refine rNe_v rfl ?_
          rw [show V.int 1 = V.int ((1 : Nat) : Int) from rfl, dec_kind]
          by_cases h1 : xs.count (.str (tx [ca, cb, cc, cd])) = 1
          · rw [decide_eq_true h1]
            refine ⟨false, rfl, iteF ?_⟩
            refine rd_next ?_
            with_reducible refine rd_nx ?_
            refine rd_rng (n := 4) (by decide) (Evl.ea_cons Evl.ev_c Evl.ea_nil)
              (fun j σ' H2 => ∃ o4, σ' = [some (.ref a), some (.str (tx gv)), some (.str (tx sd)), some (.str (tx [ca, cb, cc, cd])), o4] ∧ (∀ m, m < j → ([ca, cb, cc, cd] : List Nat).getD m 0 ∈ (if m % 2 = 0 then gv else sd)) ∧ Same H' H2)
              (fun H2 s => ⟨o4, rfl, fun m hm => by omega, s⟩) (fun j σ' H2 hj q => ?_) (fun σ' H2 q => ?_)
            · obtain ⟨o5, rfl, hch, sq⟩ := q
              walk_at "rd"
              refine rIx_s (l := [ca, cb, cc, cd]) (by show 4 ≤ 100000; decide) (atI_nat (gd_at (l := [ca, cb, cc, cd]) (k := j) (by show j < 4; exact hj))) ?_
              walk_at "rd"
              refine rd_lst ?_
              walk_at "rd"
              refine ⟨by show 2 ≤ sizeLine; decide, fun pl hpl => ?_⟩
              walk_at "rd"
              refine rI_i (by decide) ?_
              rw [show ((j : Nat) : Int) % 2 = ((j % 2 : Nat) : Int) by omega]
              have hix : ([V.str (tx gv), V.str (tx sd)] : List V)[j % 2]? = some (.str (tx (if j % 2 = 0 then gv else sd))) := by
                by_cases e : j % 2 = 0
                · rw [e, if_pos rfl]; rfl
                · rw [if_neg e, show j % 2 = 1 by omega]; rfl
              refine rIx_l (SqL.of upd_same) (atI_nat hix) ?_
              walk_at "rd"
              have sp : Same H' (upd H2 pl (.lst [V.str (tx gv), V.str (tx sd)])) := sq.trans (Same.new hpl)
              by_cases hin : ([ca, cb, cc, cd] : List Nat).getD j 0 ∈ (if j % 2 = 0 then gv else sd)
              · rw [decide_eq_true hin]
                refine iteF ?_
                refine ⟨_, rfl, fun m hm => ?_, sp⟩
                by_cases e : m = j
                · subst e; exact hin
                · exact hch m (by omega)
              · rw [decide_eq_false hin]
                refine iteT ?_
                walk_at "rd"
                refine kb (fun g => ?_) _ (s2.trans sp)
                obtain ⟨l', e, ⟨a', b', c', d', e', h1, h2, h3, h4⟩, _⟩ := good_at g hmem
                rw [← tx_inj (V.str.inj e)] at e'
                cases e'
                refine hin ?_
                match j, hj with
                | 0, _ => exact h1
                | 1, _ => exact h3
                | 2, _ => exact h2
                | 3, _ => exact h4
            · obtain ⟨o5, rfl, hch, sq⟩ := q
              refine ⟨_, _, rfl, fun j hj y hy => ?_, s2.trans sq⟩
              by_cases e : j = i
              · subst e
                rw [hx] at hy
                cases hy
                exact ⟨_, rfl, ⟨ca, cb, cc, cd, rfl, hch 0 (by decide), hch 2 (by decide), hch 1 (by decide), hch 3 (by decide)⟩, h1⟩
              · exact hok j (by omega) y hy
          · rw [decide_eq_false h1]
            refine ⟨true, rfl, iteT ?_⟩
            walk_at "rd"
            refine kb (fun g => ?_) H' s2
            obtain ⟨_, _, _, h⟩ := good_at g hmem
            exact h1 h
        · rw [decide_eq_false (show ¬ ((l.length : Nat) : Int) = 4 by omega)]
          refine ⟨true, rfl, iteT ?_⟩
          walk_at "rd"
          refine kb (fun g => ?_) H' s2
          obtain ⟨l', e, ⟨_, _, _, _, e', _⟩, _⟩ := good_at g hmem
          rw [tx_inj (V.str.inj e), e'] at h4
          exact h4 rfl
      · refine ⟨_, _, _, _, false, rfl, .ty "str", ht, hk, ?_⟩
        walk_at "rd"
        refine iteT ?_
        refine iteT ?_
        walk_at "rd"
        refine kb (fun g => ?_) H' s2
        obtain ⟨l', rfl, _⟩ := good_at g hmem
        exact notext_str ⟨t, ht, hk⟩
    · subst hσ
      walk_at "rd"
      exact kg (good_of fun j x hx => hok j (List.getElem?_eq_some_iff.mp hx).1 x hx) H' s2
end

section
variable {P : Program} [NW.SupP P] {w : World} {K : PySem.W.Frag} {mg : Str → Option Value} {base : Heap}
/-- pairs that are not as described, and what the two looks need of them -/
def BadPsX (K : PySem.W.Frag) (H : Hp) (gv sd : List Nat) (v : V) : Prop := NoList K H v ∨ ∃ a xs, v = .ref a ∧ H a = some (.lst xs) ∧ xs.length ≤ 2000 ∧ (∀ x ∈ xs, ∀ H', Same H H' → (TexV x ∨ NoText K H' x) ∧ MixV K H' x) ∧ ¬ GoodPs gv sd xs
/-- what is due for these parts: the name of the first bad one, or let -/
def DueAs (K : PySem.W.Frag) (H : Hp) (v1 v2 v3 : V) (part : Str) : Prop :=
  (BadDiff K H lowers 3 v1 ∧ part = "given") ∨ ∃ gv, v1 = .str (tx gv) ∧ gv.length ≤ 1000 ∧ OkDiff lowers 3 gv ∧
   ((BadDiff K H uppers 4 v2 ∧ part = "said") ∨ ∃ sd, v2 = .str (tx sd) ∧ sd.length ≤ 1000 ∧ OkDiff uppers 4 sd ∧
     ((BadPsX K H gv sd v3 ∧ part = "pairs") ∨ ∃ pa ps, v3 = .ref pa ∧ H pa = some (.lst (vTxs ps)) ∧ ps.length ≤ 2000 ∧ (∀ p ∈ ps, OkPair gv sd p) ∧ ps.Nodup ∧ part = "let"))
theorem bad_sameX {H H' : Hp} {L : List Nat} {n : Int} {v : V} (h : BadDiff K H L n v) (s : Same H H') : BadDiff K H' L n v := by
  rcases h with h | h
  · exact .inl h
  · exact .inr (h.mono s)
theorem badps_same {H H' : Hp} {gv sd : List Nat} {v : V} (h : BadPsX K H gv sd v) (s : Same H H') : BadPsX K H' gv sd v := by
  rcases h with h | ⟨a, xs, rfl, e, z, it, b⟩
  · exact .inl (nolist_same h s)
  · exact .inr ⟨a, xs, rfl, s _ _ e, z, fun x hx H2 s2 => it x hx H2 (s.trans s2), b⟩
theorem due_same {H H' : Hp} {v1 v2 v3 : V} {part : Str} (h : DueAs K H v1 v2 v3 part) (s : Same H H') : DueAs K H' v1 v2 v3 part := by
  rcases h with ⟨h, e⟩ | ⟨gv, e1, z1, o1, h⟩
  · exact .inl ⟨bad_sameX h s, e⟩
  refine .inr ⟨gv, e1, z1, o1, ?_⟩
  rcases h with ⟨h, e⟩ | ⟨sd, e2, z2, o2, h⟩
  · exact .inl ⟨bad_sameX h s, e⟩
  refine .inr ⟨sd, e2, z2, o2, ?_⟩
  rcases h with ⟨h, e⟩ | ⟨pa, ps, e3, hp, z3, o3, n3, e⟩
  · exact .inl ⟨badps_same h s, e⟩
  · exact .inr ⟨pa, ps, e3, s _ _ hp, z3, o3, n3, e⟩
def sp_Ldue (K : PySem.W.Frag) : Sp := fun vs H Q _ => ∃ v1 v2 v3 part, vs = [v1, v2, v3] ∧ DueAs K H v1 v2 v3 part ∧ ∀ H', Same H H' → Q (.str part) H'
theorem ok_Ldue (T : Txt K mg) : FnOk P w K mg base (L2.CX P w) 2 T.f_Ldue T.fd_Ldue ["_law_given", "_law_said", "_law_pairs_here"] (sp_Ldue K) := by
  refine T.F_Ldue.okX sc_Ldue (fun vs H Q E h => ?_) (fun cdv A outer s H vs Q E hr h => ?_)
  · obtain ⟨_, _, _, _, rfl, _⟩ := h
    rfl
  · obtain ⟨v1, v2, v3, part, rfl, h, k⟩ := h
    refine ⟨_, (pss_cons (ps_if (pt_not (pt_val (pe_callS (ok_Lis_choice T) (hr.mono (by decide)) rfl T.mg_Lis_choice T.kp_Lis_choice T.bd_Lis_choice (fun σ => passAt (takes_of rfl rfl rfl rfl) σ) (pa_cons (pv 0) (pa_cons pe_str (pa_cons pe_int pa_nil))))))
  (pss_one (ps_ret pe_str))
  pss_nil)
  (pss_cons (ps_if (pt_not (pt_val (pe_callS (ok_Lis_choice T) (hr.mono (by decide)) rfl T.mg_Lis_choice T.kp_Lis_choice T.bd_Lis_choice (fun σ => passAt (takes_of rfl rfl rfl rfl) σ) (pa_cons (pv 1) (pa_cons pe_str (pa_cons pe_int pa_nil))))))
  (pss_one (ps_ret pe_str))
  pss_nil)
  (pss_cons (ps_if (pt_not (pt_val (pe_callS (ok_Lare_pairs T) (hr.mono (by decide)) rfl T.mg_Lare_pairs T.kp_Lare_pairs T.bd_Lare_pairs (fun σ => passAt (takes_of rfl rfl rfl rfl) σ) (pa_cons (pv 2) (pa_cons (pv 0) (pa_cons (pv 1) pa_nil))))))
  (pss_one (ps_ret pe_str))
  pss_nil)
  (pss_one (ps_ret pe_str))))), ?_⟩
    rw [lowers_tx, uppers_tx]
    walk_at "rd"
    rcases h with ⟨hb, rfl⟩ | ⟨gv, rfl, zg, og, h⟩
    · refine ⟨v1, lowers, 3, rfl, ?_⟩
      rcases hb with ⟨l, rfl, hz, hno⟩ | hno
      · refine .inl ⟨l, rfl, hz, fun H1 s1 => ?_⟩
        walk_at "rd"
        rw [decide_eq_false hno]
        refine iteT ?_
        walk_at "rd"
        exact k H1 s1
      · refine .inr ⟨hno, ?_⟩
        walk_at "rd"
        refine iteT ?_
        walk_at "rd"
        exact k H (Same.refl _)
    refine ⟨_, lowers, 3, rfl, .inl ⟨gv, rfl, by omega, fun H1 s1 => ?_⟩⟩
    walk_at "rd"
    rw [decide_eq_true og]
    refine iteF ?_
    walk_at "rd"
    rcases h with ⟨hb, rfl⟩ | ⟨sd, rfl, zs, os, h⟩
    · refine ⟨v2, uppers, 4, rfl, ?_⟩
      rcases bad_sameX hb s1 with ⟨l, rfl, hz, hno⟩ | hno
      · refine .inl ⟨l, rfl, hz, fun H2 s2 => ?_⟩
        walk_at "rd"
        rw [decide_eq_false hno]
        refine iteT ?_
        walk_at "rd"
        exact k H2 (s1.trans s2)
      · refine .inr ⟨hno, ?_⟩
        walk_at "rd"
        refine iteT ?_
        walk_at "rd"
        exact k H1 s1
    refine ⟨_, uppers, 4, rfl, .inl ⟨sd, rfl, by omega, fun H2 s2 => ?_⟩⟩
    walk_at "rd"
    rw [decide_eq_true os]
    refine iteF ?_
    walk_at "rd"
    have s12 := s1.trans s2
    rcases h with ⟨hb, rfl⟩ | ⟨pa, ps, rfl, hpa, hz, hok, hnd, rfl⟩
    · rcases badps_same hb s12 with hno | ⟨a, xs, rfl, e, z, it, b⟩
      · refine ⟨_, gv, sd, rfl, by omega, by omega, .inl ⟨hno, fun H3 s3 => ?_⟩⟩
        walk_at "rd"
        refine iteT ?_
        walk_at "rd"
        exact k H3 (s12.trans s3)
      · refine ⟨_, gv, sd, rfl, by omega, by omega, .inr ⟨a, xs, rfl, e, by omega, it, fun g => absurd g b, fun _ H3 s3 => ?_⟩⟩
        walk_at "rd"
        refine iteT ?_
        walk_at "rd"
        exact k H3 (s12.trans s3)
    · refine ⟨_, gv, sd, rfl, by omega, by omega, .inr ⟨pa, vTxs ps, rfl, s12 _ _ hpa, by rw [vTxs_len]; omega, fun x hx H' s' => ?_, fun _ H3 s3 => ?_, fun hno => absurd ⟨ps, rfl, hok, hnd⟩ hno⟩⟩
      · obtain ⟨l, hl, rfl⟩ := vTxs_mem hx
        obtain ⟨_, _, _, _, e, _⟩ := hok l hl
        exact ⟨.inl ⟨l, rfl, by rw [e]; show 4 ≤ 100; decide⟩, .inl ⟨_, rfl⟩⟩
      walk_at "rd"
      refine iteF ?_
      walk_at "rd"
      exact k H3 (s12.trans s3)
theorem rd_byEx {cls : Value} {d : Option Addr} {a : Addr} {te : TE} {f : Str} {σ : L2.St} {H : Hp} {Q : VK} (h : te σ H fun x H1 => ∃ (D dx : Addr) (fs : List (Str × V)) (v : V), x = .ref a ∧ cls = .ref D ∧ d = some dx ∧ H1 dx = some (.xd fs) ∧ ExcC K D ∧ PySem.W.findIn K (.ref D) f = some none ∧ fs.lookup f = some v ∧ Q v H1) : tByEx K cls d a te f σ H Q := h
theorem kit_veS {X : Addr} (h : PySem.W.subIn K (.ref X) (.type "ValueError") = some true) : PySem.W.kitOne K (.ref X) (.type "ValueError") = some true := by
  unfold PySem.W.kitOne
  rw [if_neg (by simp)]
  show (if PySem.W.kitMeta "ValueError" = true then PySem.W.subIn K (.ref X) (.type "ValueError") else none) = some true
  rw [if_pos (by decide +kernel)]
  exact h
/-- what comes of the wish's making -/
def sp_Lmade (K : PySem.W.Frag) (C : Addr) : Sp := fun vs H Q _ => ∃ v1 v2 v3 part, vs = [v1, v2, v3] ∧ DueAs K H v1 v2 v3 part ∧
  ∀ p H', H p = none → Same H H' → ((H' p = some (.tup [.str part, .bl true]) ∧ part ≠ "let") ∨ (part = "let" ∧ ∃ x gv sd ps pa, H x = none ∧ H' p = some (.tup [.str part, .ref x]) ∧ (∀ H2, (∀ b u, H' b = some u → b ≠ pa → H2 b = some u) → IsWish C H2 x gv sd ps) ∧ v1 = .str (tx gv) ∧ v2 = .str (tx sd) ∧ OkDiff lowers 3 gv ∧ OkDiff uppers 4 sd ∧ v3 = .ref pa ∧ H pa = some (.lst (vTxs ps)) ∧ ps.length ≤ 2000 ∧ (∀ p ∈ ps, OkPair gv sd p) ∧ ps.Nodup)) → Q (.ref p) H'
theorem ok_Lmade (T : Txt K mg) : FnOk P w K mg base (L2.CX P w) 6 T.f_Lmade T.fd_Lmade ["_law_given", "_law_said", "_law_pairs_here"] (sp_Lmade K T.C_Wish) := by
  refine T.F_Lmade.okX sc_Lmade (fun vs H Q E h => ?_) (fun cdv A outer s H vs Q E hr h => ?_)
  · obtain ⟨_, _, _, _, rfl, _⟩ := h
    rfl
  · obtain ⟨v1, v2, v3, part, rfl, h, k⟩ := h
    refine ⟨_, (pss_cons (ps_set (i := 3) sc_Lmade.nd rfl (by first | exact Or.inl rfl | exact Or.inr rfl) (pe_tup (pa_cons pe_str (pa_cons pe_non pa_nil))))
  (pss_cons (ps_try_as (i := 4) rfl rfl sc_Lmade.nd rfl rfl ⟨rfl, by decide, .inl T.mg_NoWish⟩ (takes_of rfl rfl rfl rfl) (fun _ _ _ tk1 hp1 => (pss_one (ps_set (i := 3) sc_Lmade.nd rfl (by first | exact Or.inl rfl | exact Or.inr rfl) (pe_tup (pa_cons pe_str (pa_cons (pe_makeS T.mk_Wish (ok_Wish_init T) (hr.mono (by decide)) rfl T.mg_Wish T.bd_Wish_init (fun σ => passAt tk1 σ) (pa_cons (pv 0) (pa_cons (pv 1) (pa_cons (pv 2) pa_nil)))) pa_nil))))))
  (fun _ _ _ _ _ hz hf => (pss_one (ps_set (i := 3) sc_Lmade.nd rfl (by first | exact Or.inl rfl | exact Or.inr rfl) (pe_tup (pa_cons (pe_byEx (K := K) rfl hz hf (pv 4) rfl) (pa_cons (pe_and (pe_callB (call_isEx2 (K := K) rfl hz hf) (by rfl) T.b_isinstance boot_isinstance (pa_cons (pv 4) (pa_cons (pe_glob (v := .ref T.X_NearError) rfl T.mg_NearError rfl) pa_nil))) (pe_one (pe_callB (call_isEx2 (K := K) rfl hz hf) (by rfl) T.b_isinstance boot_isinstance (pa_cons (pv 4) (pa_cons (pe_bltn (v := .ty "ValueError") rfl T.b_ValueError boot_ValueError rfl) pa_nil))))) pa_nil)))))))
  (pss_one (ps_ret (pv 3))))), ?_⟩
    refine rd_seq (rd_asg (rd_tup ?_))
    walk_at "rd"
    refine ⟨by show 2 ≤ sizeLine; decide, fun p0 hp0 => ?_⟩
    have s0 : Same H (upd H p0 (.tup [.str "nothing", .non])) := Same.new hp0
    have h0 := due_same h s0
    generalize upd H p0 (.tup [.str "nothing", .non]) = H0 at *
    refine rd_name ?_
    with_reducible refine rd_nx ?_
    walk_at "rd"
    refine rd_tup ?_
    walk_at "rd"
    refine rd_makeS ?_
    walk_at "rd"
    intro x dx hx hdx hne
    have sx : Same H0 (upd (upd H0 dx (.own x)) x (.ins T.C_Wish dx [])) := fun b o e => by
      have n1 : b ≠ x := fun z => by rw [z, hx] at e; cases e
      have n2 : b ≠ dx := fun z => by rw [z, hdx] at e; cases e
      rw [upd_ne n1, upd_ne n2]
      exact e
    have hx0 : upd (upd H0 dx (.own x)) x (.ins T.C_Wish dx []) x = some (.ins T.C_Wish dx []) := upd_same
    have hxn : H x = none := by
      cases z : H x with
      | none => rfl
      | some o => rw [s0 _ _ z] at hx; cases hx
    have h1 := due_same h0 sx
    generalize upd (upd H0 dx (.own x)) x (.ins T.C_Wish dx []) = H1 at *
    have s01 := s0.trans sx
    refine ⟨x, dx, _, _, _, rfl, hx0, ?_⟩
    rcases h1 with ⟨hb, rfl⟩ | ⟨gv, rfl, zg, og, h1⟩
    · refine .inl ⟨hb, fun d H2 hd s2 e2 => ?_⟩
      refine as_hit T.xm_NoWish_NoWish fun e he => ?_
      refine rd_asg (rd_tup ?_)
      walk_at "rd"
      refine rd_byEx ?_
      walk_at "rd"
      refine ⟨T.X_NoWish, d, _, _, rfl, rfl, rfl, e2, T.ec_NoWish, T.fo_NoWish, rfl, ?_⟩
      walk_at "rd"
      refine ⟨T.X_NoWish, d, _, _, _, true, rfl, rfl, e2, T.ec_NoWish, rfl, .own _, T.ki_NoWish_NearError, ?_⟩
      refine ⟨true, rfl, iteT ?_⟩
      walk_at "rd"
      refine ⟨T.X_NoWish, d, _, _, _, true, rfl, rfl, e2, T.ec_NoWish, rfl, .ty _, kit_veS T.sup_NoWish.ve, ?_⟩
      walk_at "rd"
      refine ⟨by show 2 ≤ sizeLine; decide, fun p hp => ?_⟩
      refine rd_name ?_
      walk_at "rd"
      have s3 := s01.trans s2
      exact k p _ (by cases z : H p with | none => rfl | some o => rw [s3 _ _ z] at hp; cases hp) (s3.trans (Same.new hp)) (.inl ⟨upd_same, by decide⟩)
    refine .inr ⟨gv, rfl, by omega, og, ?_⟩
    rcases h1 with ⟨hb, rfl⟩ | ⟨sd, rfl, zs, os, h1⟩
    · refine .inl ⟨hb, fun d H2 hd s2 e2 => ?_⟩
      refine as_hit T.xm_NoWish_NoWish fun e he => ?_
      refine rd_asg (rd_tup ?_)
      walk_at "rd"
      refine rd_byEx ?_
      walk_at "rd"
      refine ⟨T.X_NoWish, d, _, _, rfl, rfl, rfl, e2, T.ec_NoWish, T.fo_NoWish, rfl, ?_⟩
      walk_at "rd"
      refine ⟨T.X_NoWish, d, _, _, _, true, rfl, rfl, e2, T.ec_NoWish, rfl, .own _, T.ki_NoWish_NearError, ?_⟩
      refine ⟨true, rfl, iteT ?_⟩
      walk_at "rd"
      refine ⟨T.X_NoWish, d, _, _, _, true, rfl, rfl, e2, T.ec_NoWish, rfl, .ty _, kit_veS T.sup_NoWish.ve, ?_⟩
      walk_at "rd"
      refine ⟨by show 2 ≤ sizeLine; decide, fun p hp => ?_⟩
      refine rd_name ?_
      walk_at "rd"
      have s3 := s01.trans s2
      exact k p _ (by cases z : H p with | none => rfl | some o => rw [s3 _ _ z] at hp; cases hp) (s3.trans (Same.new hp)) (.inl ⟨upd_same, by decide⟩)
    refine .inr ⟨sd, rfl, by omega, os, ?_⟩
    rcases h1 with ⟨hb, rfl⟩ | ⟨pa, ps, rfl, hpa, hz, hok, hnd, rfl⟩
    · have hb' : BadPs K H1 gv sd v3 := by
        rcases hb with hb | ⟨a, xs, rfl, e, z, it, b⟩
        · exact .inl hb
        · refine .inr ⟨a, xs, rfl, e, by omega, fun y hy H' s' => ?_, b⟩
          rcases (it y hy H' s').1 with ⟨l, rfl, hl⟩ | hno
          · exact .inl ⟨l, rfl, by omega⟩
          · exact .inr hno
      refine .inl ⟨hb', fun d H2 hd s2 e2 => ?_⟩
      refine as_hit T.xm_NoWish_NoWish fun e he => ?_
      refine rd_asg (rd_tup ?_)
      walk_at "rd"
      refine rd_byEx ?_
      walk_at "rd"
      refine ⟨T.X_NoWish, d, _, _, rfl, rfl, rfl, e2, T.ec_NoWish, T.fo_NoWish, rfl, ?_⟩
      walk_at "rd"
      refine ⟨T.X_NoWish, d, _, _, _, true, rfl, rfl, e2, T.ec_NoWish, rfl, .own _, T.ki_NoWish_NearError, ?_⟩
      refine ⟨true, rfl, iteT ?_⟩
      walk_at "rd"
      refine ⟨T.X_NoWish, d, _, _, _, true, rfl, rfl, e2, T.ec_NoWish, rfl, .ty _, kit_veS T.sup_NoWish.ve, ?_⟩
      walk_at "rd"
      refine ⟨by show 2 ≤ sizeLine; decide, fun p hp => ?_⟩
      refine rd_name ?_
      walk_at "rd"
      have s3 := s01.trans s2
      exact k p _ (by cases z : H p with | none => rfl | some o => rw [s3 _ _ z] at hp; cases hp) (s3.trans (Same.new hp)) (.inl ⟨upd_same, by decide⟩)
    refine .inr ⟨pa, ps, rfl, hpa, by omega, hok, hnd, fun H9 k9 hw => ⟨rfl, ?_⟩⟩
    have npx : pa ≠ x := fun e => by rw [e, hx0] at hpa; cases hpa
    have s9 : Same H H9 := fun b o e => k9 b o (s01 _ _ e) (fun z => by rw [z, hxn] at e; cases e)
    walk_at "rd"
    refine ⟨by show 2 ≤ sizeLine; decide, fun p hp => ?_⟩
    refine rd_name ?_
    walk_at "rd"
    refine k p _ (by cases z : H p with | none => rfl | some o => rw [s9 _ _ z] at hp; cases hp) (s9.trans (Same.new hp)) (.inr ⟨rfl, x, gv, sd, ps, pa, hxn, upd_same, fun H2 k2 => hw.keep hpa npx (fun b u hb n => k2 b u (Same.new hp _ _ hb) n), rfl, rfl, og, os, rfl, ?_, hz, hok, hnd⟩)
    rcases h with ⟨_, e⟩ | ⟨g', e1, _, _, h⟩
    · exact absurd e (by decide)
    rcases h with ⟨_, e⟩ | ⟨s', e2, _, _, h⟩
    · exact absurd e (by decide)
    rcases h with ⟨_, e⟩ | ⟨pa', ps', e3, hpa', _, _, _, _⟩
    · exact absurd e (by decide)
    cases e3
    have := s01 _ _ hpa'
    rw [hpa] at this
    rw [hpa', Option.some.inj this]
end

section
variable {P : Program} [NW.SupP P] {w : World} {K : PySem.W.Frag} {mg : Str → Option Value} {base : Heap}
theorem AMB_tx : ("AMB" : Str) = tx [65, 77, 66] := by decide +kernel
theorem amb_tx : ("amb" : Str) = tx [97, 109, 98] := by decide +kernel
theorem due_of {h : Addr} {H : Hp} {v1 v2 v3 : V} (t1 : AnyV h H v1) (t2 : AnyV h H v2) (t3 : PairV h H v3) : ∃ part, DueAs K H v1 v2 v3 part := by
  rcases t1.item (K := K) with ⟨l, rfl, z⟩ | hno
  · by_cases o1 : OkDiff lowers 3 l
    · rcases t2.item (K := K) with ⟨m, rfl, z2⟩ | hno
      · by_cases o2 : OkDiff uppers 4 m
        · rcases t3.lists (K := K) with hno | ⟨a, xs, rfl, n, e, z3, it⟩
          · exact ⟨_, .inr ⟨l, rfl, by omega, o1, .inr ⟨m, rfl, by omega, o2, .inl ⟨.inl hno, rfl⟩⟩⟩⟩
          · by_cases g : GoodPs l m xs
            · obtain ⟨ps, rfl, hok, hnd⟩ := g
              exact ⟨_, .inr ⟨l, rfl, by omega, o1, .inr ⟨m, rfl, by omega, o2, .inr ⟨a, ps, rfl, e, by rw [vTxs_len] at z3; exact z3, hok, hnd, rfl⟩⟩⟩⟩
            · refine ⟨_, .inr ⟨l, rfl, by omega, o1, .inr ⟨m, rfl, by omega, o2, .inl ⟨.inr ⟨a, xs, rfl, e, z3, fun x hx H' s' => ?_, g⟩, rfl⟩⟩⟩⟩
              have := (it x hx).keep (Keep1.of s')
              exact ⟨this.item, this.mix⟩
        · exact ⟨_, .inr ⟨l, rfl, by omega, o1, .inl ⟨.inl ⟨m, rfl, by omega, o2⟩, rfl⟩⟩⟩
      · exact ⟨_, .inr ⟨l, rfl, by omega, o1, .inl ⟨.inr hno, rfl⟩⟩⟩
    · exact ⟨_, .inl ⟨.inl ⟨l, rfl, by omega, o1⟩, rfl⟩⟩
  · exact ⟨_, .inl ⟨.inr hno, rfl⟩⟩
def sp_law (K : PySem.W.Frag) : Sp := fun vs H Q _ => ∃ a, ∃ ns : List Int, vs = [.ref a] ∧ SqL K H a (ns.map V.int) ∧ ∀ H', Q (.bl true) H'
theorem ok_law (T : Txt K mg) : FnOk P w K mg base (L2.CX P w) 7 T.f_law T.fd_law ["_law_script"] (sp_law K) := by
  refine T.F_law.okX sc_law (fun vs H Q E h => ?_) (fun cdv A outer s H vs Q E hr h => ?_)
  · obtain ⟨_, _, rfl, _⟩ := h
    rfl
  · obtain ⟨a, ns, rfl, ha, k⟩ := h
    have hu := hu_of hr
    refine ⟨_, (pss_cons (ps_set (i := 1) sc_law.nd rfl (by first | exact Or.inl rfl | exact Or.inr rfl) (pe_callS (ok_Lhand T) (hr.mono (by decide)) rfl T.mg_Lhand T.kp_Lhand T.bd_Lhand (fun σ => passAt (takes_of rfl rfl rfl rfl) σ) (pa_cons (pv 0) pa_nil)))
  (pss_cons (ps_set (i := 2) sc_law.nd rfl (by first | exact Or.inl rfl | exact Or.inr rfl) (pe_callS (ok_Ldraw T) (hr.mono (by decide)) rfl T.mg_Ldraw T.kp_Ldraw T.bd_Ldraw (fun σ => passAt (takes_of rfl rfl rfl rfl) σ) (pa_cons (pv 1) (pa_cons pe_int pa_nil))))
  (pss_cons (ps_set (i := 3) sc_law.nd rfl (by first | exact Or.inl rfl | exact Or.inr rfl) (pe_callS (ok_Lletters T) (hr.mono (by decide)) rfl T.mg_Lletters T.kp_Lletters T.bd_Lletters (fun σ => passAt (takes_of rfl rfl rfl rfl) σ) (pa_cons (pv 1) (pa_cons pe_str (pa_cons (pe_op op_addA pe_int (pe_callS (ok_Ldraw T) (hr.mono (by decide)) rfl T.mg_Ldraw T.kp_Ldraw T.bd_Ldraw (fun σ => passAt (takes_of rfl rfl rfl rfl) σ) (pa_cons (pv 1) (pa_cons pe_int pa_nil)))) pa_nil)))))
  (pss_cons (ps_set (i := 4) sc_law.nd rfl (by first | exact Or.inl rfl | exact Or.inr rfl) (pe_callS (ok_Lletters T) (hr.mono (by decide)) rfl T.mg_Lletters T.kp_Lletters T.bd_Lletters (fun σ => passAt (takes_of rfl rfl rfl rfl) σ) (pa_cons (pv 1) (pa_cons pe_str (pa_cons (pe_op op_addA pe_int (pe_callS (ok_Ldraw T) (hr.mono (by decide)) rfl T.mg_Ldraw T.kp_Ldraw T.bd_Ldraw (fun σ => passAt (takes_of rfl rfl rfl rfl) σ) (pa_cons (pv 1) (pa_cons pe_int pa_nil)))) pa_nil)))))
  (pss_cons (ps_set (i := 5) sc_law.nd rfl (by first | exact Or.inl rfl | exact Or.inr rfl) (pe_callS (ok_Lpairs T) (hr.mono (by decide)) rfl T.mg_Lpairs T.kp_Lpairs T.bd_Lpairs (fun σ => passAt (takes_of rfl rfl rfl rfl) σ) (pa_cons (pv 1) (pa_cons (pv 3) (pa_cons (pv 4) pa_nil)))))
  (pss_cons (ps_if (pt_cmpR (op_in_seqK (K := K) rfl) (pv 2) (pe_tup (pa_cons pe_int (pa_cons pe_int (pa_cons pe_int pa_nil)))) (by with_unfolding_all rfl))
  (pss_one (ps_set (i := 3) sc_law.nd rfl (by first | exact Or.inl rfl | exact Or.inr rfl) (pe_callS (ok_Lspoiled_letters T) (hr.mono (by decide)) rfl T.mg_Lspoiled_letters T.kp_Lspoiled_letters T.bd_Lspoiled_letters (fun σ => passAt (takes_of rfl rfl rfl rfl) σ) (pa_cons (pv 1) (pa_cons (pv 3) (pa_cons pe_str pa_nil))))))
  pss_nil)
  (pss_cons (ps_if (pt_cmpR (op_in_seqK (K := K) rfl) (pv 2) (pe_tup (pa_cons pe_int (pa_cons pe_int (pa_cons pe_int pa_nil)))) (by with_unfolding_all rfl))
  (pss_one (ps_set (i := 4) sc_law.nd rfl (by first | exact Or.inl rfl | exact Or.inr rfl) (pe_callS (ok_Lspoiled_letters T) (hr.mono (by decide)) rfl T.mg_Lspoiled_letters T.kp_Lspoiled_letters T.bd_Lspoiled_letters (fun σ => passAt (takes_of rfl rfl rfl rfl) σ) (pa_cons (pv 1) (pa_cons (pv 4) (pa_cons pe_str pa_nil))))))
  pss_nil)
  (pss_cons (ps_if (pt_cmpR (op_in_seqK (K := K) rfl) (pv 2) (pe_tup (pa_cons pe_int (pa_cons pe_int (pa_cons pe_int pa_nil)))) (by with_unfolding_all rfl))
  (pss_one (ps_set (i := 5) sc_law.nd rfl (by first | exact Or.inl rfl | exact Or.inr rfl) (pe_callS (ok_Lspoiled_pairs T) (hr.mono (by decide)) rfl T.mg_Lspoiled_pairs T.kp_Lspoiled_pairs T.bd_Lspoiled_pairs (fun σ => passAt (takes_of rfl rfl rfl rfl) σ) (pa_cons (pv 1) (pa_cons (pv 5) pa_nil)))))
  pss_nil)
  (pss_cons (ps_set (i := 6) sc_law.nd rfl (by first | exact Or.inl rfl | exact Or.inr rfl) (pe_callS (ok_Ldue T) (hr.mono (by decide)) rfl T.mg_Ldue T.kp_Ldue T.bd_Ldue (fun σ => passAt (takes_of rfl rfl rfl rfl) σ) (pa_cons (pv 3) (pa_cons (pv 4) (pa_cons (pv 5) pa_nil)))))
  (pss_cons (ps_asg (pe_callS (ok_Lmade T) (hr.mono (by decide)) rfl T.mg_Lmade T.kp_Lmade T.bd_Lmade (fun σ => passAt (takes_of rfl rfl rfl rfl) σ) (pa_cons (pv 3) (pa_cons (pv 4) (pa_cons (pv 5) pa_nil)))) (pg_tupK (K := K) (n := 2) rfl rfl (pgs_cons (pg_name (i := 7) sc_law.nd rfl (by first | exact Or.inl rfl | exact Or.inr rfl)) (pgs_cons (pg_name (i := 8) sc_law.nd rfl (by first | exact Or.inl rfl | exact Or.inr rfl)) pgs_nil))))
  (pss_cons (ps_if (pt_cmpR op_ne (pv 7) (pv 6) (nomark _))
  (pss_one (ps_ret pe_bl))
  pss_nil)
  (pss_cons (ps_if (pt_cmpR op_ne (pv 6) pe_str (nomark _))
  (pss_one (ps_ret (pe_cmpR op_is_bl (pv 8) pe_bl (nomark _))))
  pss_nil)
  (pss_cons (ps_set (i := 9) sc_law.nd rfl (by first | exact Or.inl rfl | exact Or.inr rfl) (pe_callTy (call_tupLK (K := K) rfl) (by rfl) T.b_tuple boot_tuple (pa_cons (pv 5) pa_nil)))
  (pss_cons (ps_if (PW.pt (pw_or (pt_cmpR op_ne (pe_meth0 (pv 8) T.cl_Wish T.mt_Wish_given (ok_Wish_given T) (hr.mono (by decide)) T.bd_Wish_given .nil passL) (pv 3) (nomark _)) (pw_or (pt_cmpR op_ne (pe_meth0 (pv 8) T.cl_Wish T.mt_Wish_said (ok_Wish_said T) (hr.mono (by decide)) T.bd_Wish_said .nil passL) (pv 4) (nomark _)) (pw_or1 (pt_cmpR (op_neDK (K := K) rfl (hu64 hr)) (pe_callB (cr_sortedDK (K := K) rfl (hu64 hr)) (by rfl) T.b_sorted boot_sorted (pa_cons (pe_meth0 (pv 8) T.cl_Wish T.mt_Wish_pairs (ok_Wish_pairs T) (hr.mono (by decide)) T.bd_Wish_pairs .nil passL) pa_nil)) (pe_callB (cr_sortedDK (K := K) rfl (hu64 hr)) (by rfl) T.b_sorted boot_sorted (pa_cons (pv 5) pa_nil)) (nomark _))))))
  (pss_one (ps_ret pe_bl))
  pss_nil)
  (pss_cons (ps_expr (pe_bmA (K := K) rfl (pe_bm PySem.F.plainAttrs_list PySem.F.slot_list_append PySem.F.type_list_append mt_append (pv 5) (pa_cons pe_str pa_nil))))
  (pss_cons (ps_asg pe_str (pg_sub (pv 5) pe_int set_list))
  (pss_cons (ps_if (pt_cmpR (op_neDK (K := K) rfl (hu64 hr)) (pe_callB (cr_sortedDK (K := K) rfl (hu64 hr)) (by rfl) T.b_sorted boot_sorted (pa_cons (pe_meth0 (pv 8) T.cl_Wish T.mt_Wish_pairs (ok_Wish_pairs T) (hr.mono (by decide)) T.bd_Wish_pairs .nil passL) pa_nil)) (pe_callB (cr_sortedDK (K := K) rfl (hu64 hr)) (by rfl) T.b_sorted boot_sorted (pa_cons (pe_callTy (call_listB (K := K) rfl rfl) (by rfl) T.b_list boot_list (pa_cons (pv 9) pa_nil)) pa_nil)) (nomark _))
  (pss_one (ps_ret pe_bl))
  pss_nil)
  (pss_cons (ps_expr (pe_bm0K (K := K) rfl (pe_bm0 PySem.F.plainAttrs_list PySem.F.slot_list_clear PySem.F.type_list_clear mt_clear (pv 5))))
  (pss_cons (ps_expr (pe_bmA (K := K) rfl (pe_bm PySem.F.plainAttrs_list PySem.F.slot_list_extend PySem.F.type_list_extend mt_extend (pv 5) (pa_cons (pe_callTy (call_listB (K := K) rfl rfl) (by rfl) T.b_list boot_list (pa_cons (pv 9) pa_nil)) pa_nil))))
  (pss_one (ps_ret (pe_and (pe_cmpR (op_eqO (ok_Wish_eq T) (hr.mono (by decide)) T.mt_Wish_eq.at_ T.mt_Wish_eq.fn T.bd_Wish_eq passL) (pe_make T.mk_Wish (ok_Wish_init T) (hr.mono (by decide)) rfl T.mg_Wish T.bd_Wish_init .nil passL (pa_cons (pv 3) (pa_cons (pv 4) (pa_cons (pv 5) pa_nil)))) (pv 8) (nomark _)) (pe_one (pe_cmpR (op_eqDK (K := K) rfl (hu64 hr)) (pv 5) (pe_callTy (call_listB (K := K) rfl rfl) (by rfl) T.b_list boot_list (pa_cons (pv 9) pa_nil)) (nomark _))))))))))))))))))))))))), ?_⟩
    rw [lowers_tx, uppers_tx, AMB_tx, amb_tx]
    walk_at "rd"
    refine ⟨a, ns, rfl, ha, fun p c H1 hp hc s1 hh1 => ?_⟩
    walk_at "rd"
    refine ⟨p, c, 8, rfl, hh1, by decide, by decide +kernel, fun H2 d d0 d1 k2 hh2 => ?_⟩
    obtain ⟨wh, rfl, hwh⟩ := nat_of (n := 8) d0 d1
    walk_at "rd"
    refine ⟨p, c, 4, rfl, hh2, by decide, by decide +kernel, fun H3 e e0 e1 k3 hh3 => ?_⟩
    obtain ⟨n1, rfl, hn1⟩ := nat_of (n := 4) e0 e1
    walk_at "rd"
    rw [show (1 : Int) + ((n1 : Nat) : Int) = ((n1 + 1 : Nat) : Int) by omega]
    refine ⟨p, c, lowers, n1 + 1, rfl, hh3, by decide, by decide, by show n1 + 1 ≤ 26; omega, fun H4 gv hgl hgn hgs k4 hh4 => ?_⟩
    walk_at "rd"
    refine ⟨p, c, 5, rfl, hh4, by decide, by decide +kernel, fun H3' f f0 f1 k3' hh3' => ?_⟩
    obtain ⟨n2, rfl, hn2⟩ := nat_of (n := 5) f0 f1
    walk_at "rd"
    rw [show (1 : Int) + ((n2 : Nat) : Int) = ((n2 + 1 : Nat) : Int) by omega]
    refine ⟨p, c, uppers, n2 + 1, rfl, hh3', by decide, by decide, by show n2 + 1 ≤ 26; omega, fun H4' sd hsl hsn hss k4' hh4' => ?_⟩
    walk_at "rd"
    refine ⟨p, c, gv, sd, rfl, hh4', fun e => by rw [e] at hgl; simp at hgl, fun e => by rw [e] at hsl; simp at hsl, hgn, hsn, by omega, by omega, fun pa H5 ps hpa k5 hh5 hps hnd hok hlen => ?_⟩
    have npa : pa ≠ p := (hh4'.out hpa).1
    have gasc : ∀ c ∈ gv, c < 128 := fun c hc => by have := mem_lowers (hgs c hc); omega
    have sasc : ∀ c ∈ sd, c < 128 := fun c hc => by have := mem_uppers (hss c hc); omega
    refine rd_name ?_
    with_reducible refine rd_nx ?_
    have tst : ∀ {x1 x2 x3 : Int} {H : Hp} {t : Addr} {R : VK}, H t = some (.tup [.int x1, .int x2, .int x3]) → (∀ b, R (.bl b) H) → rIn K false (.int ((wh : Nat) : Int)) (.ref t) H R := fun ht h => ⟨_, _, rfl, .inr (SqT.of ht), rfl, rfl, h _⟩
    refine rd_have (M := fun σ' H' => ∃ v, σ' = [some (.ref a), some (.ref p), some (.int ((wh : Nat) : Int)), some v, some (.str (tx sd)), some (.ref pa), none, none, none, none] ∧ Keep1 p H5 H' ∧ HandAt H' p c ∧ AnyV p H' v) (fun σ' H' hM => ?_) (fun rest => ?_)
    rotate_left
    · refine rd_seq (rd_ifS ?_)
      walk_at "rd"
      refine rd_tup ?_
      walk_at "rd"
      refine ⟨by show 3 ≤ sizeLine; decide, fun t ht => ?_⟩
      refine tst upd_same fun b => ?_
      refine rd_blI ?_
      cases b with
      | false =>
        refine iteF ?_
        refine rd_next ?_
        exact rest _ _ ⟨.str (tx gv), rfl, Keep1.of (Same.new ht), hh5.upd ht, .tex (by omega)⟩
      | true =>
        refine iteT ?_
        walk_at "rd"
        refine ⟨p, c, gv, 65, 77, 66, rfl, hh5.upd ht, by omega, gasc, fun v H6 k6 hh6 hv => ?_⟩
        refine rd_name ?_
        exact rest _ _ ⟨v, rfl, (Keep1.of (Same.new ht)).trans k6, hh6, hv⟩
    obtain ⟨v1, rfl, k6, hh6, t1⟩ := hM
    refine rd_have (M := fun σ' H2' => ∃ v, σ' = [some (.ref a), some (.ref p), some (.int ((wh : Nat) : Int)), some v1, some v, some (.ref pa), none, none, none, none] ∧ Keep1 p H5 H2' ∧ HandAt H2' p c ∧ AnyV p H2' v1 ∧ AnyV p H2' v) (fun σ' H' hM => ?_) (fun rest => ?_)
    rotate_left
    · refine rd_seq (rd_ifS ?_)
      walk_at "rd"
      refine rd_tup ?_
      walk_at "rd"
      refine ⟨by show 3 ≤ sizeLine; decide, fun t ht => ?_⟩
      refine tst upd_same fun b => ?_
      refine rd_blI ?_
      cases b with
      | false =>
        refine iteF ?_
        refine rd_next ?_
        exact rest _ _ ⟨.str (tx sd), rfl, keep_new k6 ht, hh6.upd ht, t1.keep (Keep1.of (Same.new ht)), .tex (by omega)⟩
      | true =>
        refine iteT ?_
        walk_at "rd"
        refine ⟨p, c, sd, 97, 109, 98, rfl, hh6.upd ht, by omega, sasc, fun v H7 k7 hh7 hv => ?_⟩
        refine rd_name ?_
        exact rest _ _ ⟨v, rfl, (keep_new k6 ht).trans k7, hh7, (t1.keep (Keep1.of (Same.new ht))).keep k7, hv⟩
    rename_i H6
    obtain ⟨v2, rfl, k7, hh7, t1', t2⟩ := hM
    refine rd_have (M := fun σ' H3' => ∃ v, σ' = [some (.ref a), some (.ref p), some (.int ((wh : Nat) : Int)), some v1, some v2, some v, none, none, none, none] ∧ HandAt H3' p c ∧ AnyV p H3' v1 ∧ AnyV p H3' v2 ∧ PairV p H3' v) (fun σ' H' hM => ?_) (fun rest => ?_)
    rotate_left
    · refine rd_seq (rd_ifS ?_)
      walk_at "rd"
      refine rd_tup ?_
      walk_at "rd"
      refine ⟨by show 3 ≤ sizeLine; decide, fun t ht => ?_⟩
      refine tst upd_same fun b => ?_
      refine rd_blI ?_
      cases b with
      | false =>
        refine iteF ?_
        refine rd_next ?_
        refine rest _ _ ⟨.ref pa, rfl, hh7.upd ht, t1'.keep (Keep1.of (Same.new ht)), t2.keep (Keep1.of (Same.new ht)), .inr ⟨pa, vTxs ps, rfl, npa, upd_keep ht (k7 _ _ hps npa), by rw [vTxs_len]; omega, fun x hx => ?_⟩⟩
        obtain ⟨l, hl, rfl⟩ := vTxs_mem hx
        obtain ⟨_, _, _, _, e, _⟩ := hok l hl
        exact .tex (by rw [e]; show 4 ≤ 100; decide)
      | true =>
        refine iteT ?_
        walk_at "rd"
        refine ⟨p, c, pa, ps, rfl, hh7.upd ht, npa, upd_keep ht (k7 _ _ hps npa), hlen, fun q hq => ?_, fun v H8 k8 hh8 hv => ?_⟩
        · obtain ⟨x1, x2, x3, x4, rfl, g1, g2, g3, g4⟩ := hok q hq
          refine ⟨rfl, fun y hy => ?_⟩
          simp only [List.mem_cons, List.not_mem_nil, or_false] at hy
          rcases hy with rfl | rfl | rfl | rfl
          · exact gasc _ g1
          · exact sasc _ g3
          · exact gasc _ g2
          · exact sasc _ g4
        refine rd_name ?_
        exact rest _ _ ⟨v, rfl, hh8, (t1'.keep (Keep1.of (Same.new ht))).keep k8, (t2.keep (Keep1.of (Same.new ht))).keep k8, hv⟩
    rename_i H7
    obtain ⟨v3, rfl, hh8, u1, u2, u3⟩ := hM
    rename_i H8
    obtain ⟨part, hdue⟩ := due_of (K := K) u1 u2 u3
    walk_at "rd"
    refine ⟨v1, v2, v3, part, rfl, hdue, fun H9 s9 => ?_⟩
    walk_at "rd"
    refine ⟨v1, v2, v3, part, rfl, due_same hdue s9, fun pt H10 hpt s10 hcase => ?_⟩
    rcases hcase with ⟨htp, hne⟩ | ⟨rfl, x, g2, s2, ps2, pb, hxn, htp, keepw, rfl, rfl, og, os, rfl, hpb, hz2, hok2, hnd2⟩
    · refine ⟨pt, [.str part, .bl true], rfl, SqT.of htp, rfl, .str part, [.bl true], rfl, .bl true, [], rfl, rfl, ?_⟩
      walk_at "rd"
      refine rNe_v rfl ?_
      rw [decide_eq_true rfl]
      refine rd_blI (iteF ?_)
      walk_at "rd"
      refine rNe_v rfl ?_
      rw [decide_eq_false (fun e => hne (V.str.inj e))]
      refine rd_blI (iteT ?_)
      walk_at "rd"
      refine ⟨true, true, rfl, rfl, ?_⟩
      rw [decide_eq_true rfl]
      exact k _
    refine ⟨pt, [.str "let", .ref x], rfl, SqT.of htp, rfl, .str "let", [.ref x], rfl, .ref x, [], rfl, rfl, ?_⟩
    walk_at "rd"
    refine rNe_v rfl ?_
    rw [decide_eq_true rfl]
    refine rd_blI (iteF ?_)
    walk_at "rd"
    refine rNe_v rfl ?_
    rw [decide_eq_true rfl]
    refine rd_blI (iteF ?_)
    walk_at "rd"
    have hpb10 := s10 _ _ hpb
    have hFl : Flat g2 s2 ps2 := flat_of og os
    have g2l : g2.length ≤ 3 := by have := og.2.2.1; omega
    have s2l : s2.length ≤ 4 := by have := os.2.2.1; omega
    have okP : okAll okTx ps2 := fun m hm => okTx_of fun c hc => by
      obtain ⟨a1, b1, c1, d1, rfl, h1, h2, h3, h4⟩ := hok2 m hm
      have l1 := mem_lowers (og.1 _ h1)
      have l2 := mem_lowers (og.1 _ h2)
      have u1 := mem_uppers (os.1 _ h3)
      have u2 := mem_uppers (os.1 _ h4)
      simp at hc
      omega
    have okS : ∀ zs : List (List Nat), okAll okTx zs → okAll okTx (zs.mergeSort (PySem.W.dataLe false dTx)) := fun zs hz m hm => hz m ((List.mergeSort_perm _ _).mem_iff.mp hm)
    have srt := sort_tx (pairs_perm og.2.2.2 os.2.2.2 hok2 hnd2)
    refine tup_l (SqL.of hpb10) fun pk hpk => ?_
    walk_at "rd"
    have hw11 := keepw (upd H10 pk (.tup (vTxs ps2))) fun b u e _ => upd_keep hpk e
    obtain ⟨cl, al, pl, ⟨dx, kd, hx11⟩, _⟩ := id hw11
    refine ⟨x, _, _, rfl, hx11, wf_no (by decide +kernel) (by decide +kernel) (by decide +kernel) (by decide +kernel) (by decide +kernel) (by decide +kernel), x, g2, s2, ps2, rfl, hw11, ?_⟩
    walk_at "rd"
    refine rNe_v rfl ?_
    rw [decide_eq_true rfl]
    refine ⟨false, rfl, iteF ?_⟩
    walk_at "rd"
    refine ⟨x, _, _, rfl, hx11, wf_no (by decide +kernel) (by decide +kernel) (by decide +kernel) (by decide +kernel) (by decide +kernel) (by decide +kernel), x, g2, s2, ps2, rfl, hw11, ?_⟩
    walk_at "rd"
    refine rNe_v rfl ?_
    rw [decide_eq_true rfl]
    refine ⟨false, rfl, iteF ?_⟩
    walk_at "rd"
    refine ⟨x, _, _, rfl, hx11, wf_no (by decide +kernel) (by decide +kernel) (by decide +kernel) (by decide +kernel) (by decide +kernel) (by decide +kernel), x, g2, s2, ps2, rfl, hw11, fun t1 H12 ht1 s12 h12 => ?_⟩
    walk_at "rd"
    refine sort_txs (SqL.of h12) fun q1 hq1 => ?_
    walk_at "rd"
    have hpb12 := s12 _ _ (upd_keep hpk hpb10)
    refine sort_txs (SqL.of (upd_keep hq1 hpb12)) fun q2 hq2 => ?_
    refine neD_of (item_list item_tx) (by decide) (okS _ hFl) (okS _ okP) (dp_txs (SqL.of (upd_keep hq2 upd_same))) (dp_txs (SqL.of upd_same)) ?_
    rw [srt, decide_eq_true rfl]
    refine ⟨false, rfl, iteF ?_⟩
    walk_at "rd"
    -- the list that was given changes
    have npk : pk ≠ pb := (ne_of_none hpb10 hpk).symm
    have hq2' : upd H12 q1 (.lst (vTxs (ps2.mergeSort (PySem.W.dataLe false dTx)))) q2 = none := by rw [← srt]; exact hq2
    have hpb13 := upd_keep (u := .lst (vTxs (ps2.mergeSort (PySem.W.dataLe false dTx)))) hq2' (upd_keep hq1 hpb12)
    have k13 : ∀ b u, H10 b = some u → upd (upd H12 q1 (.lst (vTxs (ps2.mergeSort (PySem.W.dataLe false dTx))))) q2 (.lst (vTxs (ps2.mergeSort (PySem.W.dataLe false dTx)))) b = some u := fun b u e => upd_keep hq2' (upd_keep hq1 (s12 _ _ (upd_keep hpk e)))
    have t13 := upd_keep (u := .lst (vTxs (ps2.mergeSort (PySem.W.dataLe false dTx)))) hq2' (upd_keep hq1 (s12 _ _ (show upd H10 pk (.tup (vTxs ps2)) pk = some (.tup (vTxs ps2)) from upd_same)))
    generalize upd (upd H12 q1 (.lst (vTxs (ps2.mergeSort (PySem.W.dataLe false dTx))))) q2 (.lst (vTxs (ps2.mergeSort (PySem.W.dataLe false dTx)))) = H13 at hpb13 k13 t13 ⊢
    refine ⟨ty_lst (SqL.of hpb13), ?_⟩
    walk_at "rd"
    refine put_l hpb13 (by rw [vTxs_len]; omega) ?_
    walk_at "rd"
    refine NW.set_l (k := 0) upd_same (by rw [List.length_append]; exact Nat.lt_of_lt_of_le Nat.one_pos (Nat.le_add_left _ _)) ?_
    walk_at "rd"
    have k14 : ∀ b u, H10 b = some u → b ≠ pb → upd (upd H13 pb (.lst (vTxs ps2 ++ [V.str "none"]))) pb (.lst ((vTxs ps2 ++ [V.str "none"]).set 0 (V.str "other"))) b = some u := fun b u e n => by rw [upd_ne n, upd_ne n]; exact k13 b u e
    have t14 : upd (upd H13 pb (.lst (vTxs ps2 ++ [V.str "none"]))) pb (.lst ((vTxs ps2 ++ [V.str "none"]).set 0 (V.str "other"))) pk = some (.tup (vTxs ps2)) := by rw [upd_ne npk, upd_ne npk]; exact t13
    have b14 : upd (upd H13 pb (.lst (vTxs ps2 ++ [V.str "none"]))) pb (.lst ((vTxs ps2 ++ [V.str "none"]).set 0 (V.str "other"))) pb = some (.lst ((vTxs ps2 ++ [V.str "none"]).set 0 (V.str "other"))) := upd_same
    generalize upd (upd H13 pb (.lst (vTxs ps2 ++ [V.str "none"]))) pb (.lst ((vTxs ps2 ++ [V.str "none"]).set 0 (V.str "other"))) = H14 at k14 t14 b14 ⊢
    have hw14 := keepw H14 k14
    obtain ⟨cl2, al2, pl2, ⟨dx2, kd2, hx14⟩, _⟩ := id hw14
    refine ⟨x, _, _, rfl, hx14, wf_no (by decide +kernel) (by decide +kernel) (by decide +kernel) (by decide +kernel) (by decide +kernel) (by decide +kernel), x, g2, s2, ps2, rfl, hw14, fun t2 H15 ht2 s15 h15 => ?_⟩
    walk_at "rd"
    refine sort_txs (SqL.of h15) fun q3 hq3 => ?_
    walk_at "rd"
    refine .inl ⟨pk, vTxs ps2, rfl, .inr (SqT.of (upd_keep hq3 (s15 _ _ t14))), fun q4 hq4 => ?_⟩
    walk_at "rd"
    refine sort_txs (SqL.of upd_same) fun q5 hq5 => ?_
    refine neD_of (item_list item_tx) (by decide) (okS _ hFl) (okS _ okP) (dp_txs (SqL.of (upd_keep hq5 (upd_keep hq4 upd_same)))) (dp_txs (SqL.of upd_same)) ?_
    rw [srt, decide_eq_true rfl]
    refine rd_blI (iteF ?_)
    walk_at "rd"
    have hq4' : upd H15 q3 (.lst (vTxs (ps2.mergeSort (PySem.W.dataLe false dTx)))) q4 = none := by rw [← srt]; exact hq4
    have hq5' : upd (upd H15 q3 (.lst (vTxs (ps2.mergeSort (PySem.W.dataLe false dTx))))) q4 (.lst (vTxs ps2)) q5 = none := by rw [← srt]; exact hq5
    have k16 : ∀ b u, H14 b = some u → upd (upd (upd H15 q3 (.lst (vTxs (ps2.mergeSort (PySem.W.dataLe false dTx))))) q4 (.lst (vTxs ps2))) q5 (.lst (vTxs (ps2.mergeSort (PySem.W.dataLe false dTx)))) b = some u := fun b u e => upd_keep hq5' (upd_keep hq4' (upd_keep hq3 (s15 _ _ e)))
    generalize upd (upd (upd H15 q3 (.lst (vTxs (ps2.mergeSort (PySem.W.dataLe false dTx))))) q4 (.lst (vTxs ps2))) q5 (.lst (vTxs (ps2.mergeSort (PySem.W.dataLe false dTx)))) = H16 at k16 ⊢
    have b16 := k16 _ _ b14
    refine ⟨ty_lst (SqL.of b16), ?_⟩
    refine clear_l b16 ?_
    walk_at "rd"
    have t17 : upd H16 pb (.lst []) pk = some (.tup (vTxs ps2)) := by rw [upd_ne npk]; exact k16 _ _ t14
    refine ⟨ty_lst (SqL.of upd_same), ?_⟩
    walk_at "rd"
    refine .inl ⟨pk, vTxs ps2, rfl, .inr (SqT.of t17), fun q6 hq6 => ?_⟩
    walk_at "rd"
    have b18 : upd (upd H16 pb (.lst [])) q6 (.lst (vTxs ps2)) pb = some (.lst []) := upd_keep hq6 upd_same
    refine extend_l b18 upd_same (by rw [vTxs_len]; show 0 + ps2.length ≤ 100000; omega) ?_
    rw [List.nil_append]
    walk_at "rd"
    have k19 : ∀ b u, H10 b = some u → b ≠ pb → upd (upd (upd H16 pb (.lst [])) q6 (.lst (vTxs ps2))) pb (.lst (vTxs ps2)) b = some u := fun b u e n => by
      rw [upd_ne n]
      exact upd_keep hq6 (by rw [upd_ne n]; exact k16 _ _ (k14 _ _ e n))
    have t19 : upd (upd (upd H16 pb (.lst [])) q6 (.lst (vTxs ps2))) pb (.lst (vTxs ps2)) pk = some (.tup (vTxs ps2)) := by
      rw [upd_ne npk]
      exact upd_keep hq6 t17
    have b19 : upd (upd (upd H16 pb (.lst [])) q6 (.lst (vTxs ps2))) pb (.lst (vTxs ps2)) pb = some (.lst (vTxs ps2)) := upd_same
    generalize upd (upd (upd H16 pb (.lst [])) q6 (.lst (vTxs ps2))) pb (.lst (vTxs ps2)) = H19 at k19 t19 b19 ⊢
    have hw19 := keepw H19 k19
    intro x2 dx2 hx2 hdx2 hne2
    refine ⟨x2, dx2, _, _, _, rfl, upd_same, .inr ⟨g2, rfl, by omega, og, .inr ⟨s2, rfl, by omega, os, .inr ⟨pb, ps2, rfl, ?_, by omega, hok2, hnd2, fun H20 k20 hw20 => ⟨rfl, ?_⟩⟩⟩⟩⟩
    · rw [upd_ne (ne_of_none b19 hx2)]
      exact upd_keep hdx2 b19
    have s20 : Same H19 H20 := fun b o e => k20 b o (by rw [upd_ne (ne_of_none e hx2)]; exact upd_keep hdx2 e) (ne_of_none e hx2)
    walk_at "rd"
    refine weq_r T hw20.is (hw19.mono s20) hFl hFl fun H21 s21 => ?_
    rw [decide_eq_true rfl, decide_eq_true rfl, decide_eq_true rfl]
    refine ⟨true, rfl, iteT ?_⟩
    walk_at "rd"
    refine .inl ⟨pk, vTxs ps2, rfl, .inr (SqT.of (s21 _ _ (s20 _ _ t19))), fun q7 hq7 => ?_⟩
    walk_at "rd"
    refine eqD_of (item_list item_tx) (by decide) okP okP (dp_txs (SqL.of (upd_keep hq7 (s21 _ _ (s20 _ _ b19))))) (dp_txs (SqL.of upd_same)) ?_
    rw [decide_eq_true rfl]
    exact k _
end
theorem law_takes {K : PySem.W.Frag} {H : Hp} (a : Addr) (ns : List Int) (hl : ns.length ≤ 63) (hS : SqL K H a (ns.map V.int)) : sp_law K [.ref a] H (fun v _ => v = .bl true) fun _ _ _ => False := ⟨a, ns, rfl, hS, fun _ => rfl⟩

theorem all_mk {P : Program} [NW.SupP P] {w : World} {K : PySem.W.Frag} {h : Heap} {mg : Str → Option Value} {fa : Addr} (X : K.In h) (G : h.Ns mainGlobals mg) (hfa : mg "law" = some (.ref fa))
    {tk_GIVEN_LETTERS : Tok}
    {tk_SAID_LETTERS : Tok}
    {tk_MOST_GIVEN : Tok}
    {tk_MOST_SAID : Tok}
    {C_Wish : Addr}
    {f_are_letters : Addr}
    {odare_letters anare_letters : Option Addr} {slare_letters : Array (Option Value)} {ocare_letters kVare_letters dcare_letters pmare_letters cdare_letters ctare_letters : Value}
    {f_are_different : Addr}
    {odare_different anare_different : Option Addr} {slare_different : Array (Option Value)} {ocare_different kVare_different dcare_different pmare_different cdare_different ctare_different : Value}
    {f_is_pair : Addr}
    {odis_pair anis_pair : Option Addr} {slis_pair : Array (Option Value)} {ocis_pair kVis_pair dcis_pair pmis_pair cdis_pair ctis_pair : Value}
    {f_are_pairs : Addr}
    {odare_pairs anare_pairs : Option Addr} {slare_pairs : Array (Option Value)} {ocare_pairs kVare_pairs dcare_pairs pmare_pairs cdare_pairs ctare_pairs : Value}
    {f_Wish_init : Addr}
    {odWish_init anWish_init : Option Addr} {slWish_init : Array (Option Value)} {ocWish_init kVWish_init dcWish_init pmWish_init cdWish_init ctWish_init : Value}
    {f_Wishfill : Addr}
    {odWishfill anWishfill : Option Addr} {slWishfill : Array (Option Value)} {ocWishfill kVWishfill dcWishfill pmWishfill cdWishfill ctWishfill : Value}
    {f_Wish_eq : Addr}
    {odWish_eq anWish_eq : Option Addr} {slWish_eq : Array (Option Value)} {ocWish_eq kVWish_eq dcWish_eq pmWish_eq cdWish_eq ctWish_eq : Value}
    {f_Wish_given : Addr}
    {odWish_given anWish_given : Option Addr} {slWish_given : Array (Option Value)} {ocWish_given kVWish_given dcWish_given pmWish_given cdWish_given ctWish_given : Value}
    {f_Wish_said : Addr}
    {odWish_said anWish_said : Option Addr} {slWish_said : Array (Option Value)} {ocWish_said kVWish_said dcWish_said pmWish_said cdWish_said ctWish_said : Value}
    {f_Wish_cells : Addr}
    {odWish_cells anWish_cells : Option Addr} {slWish_cells : Array (Option Value)} {ocWish_cells kVWish_cells dcWish_cells pmWish_cells cdWish_cells ctWish_cells : Value}
    {f_Wish_pairs : Addr}
    {odWish_pairs anWish_pairs : Option Addr} {slWish_pairs : Array (Option Value)} {ocWish_pairs kVWish_pairs dcWish_pairs pmWish_pairs cdWish_pairs ctWish_pairs : Value}
    {f_Lhand : Addr}
    {odLhand anLhand : Option Addr} {slLhand : Array (Option Value)} {ocLhand kVLhand dcLhand pmLhand cdLhand ctLhand : Value}
    {f_Ldraw : Addr}
    {odLdraw anLdraw : Option Addr} {slLdraw : Array (Option Value)} {ocLdraw kVLdraw dcLdraw pmLdraw cdLdraw ctLdraw : Value}
    {f_Lletters : Addr}
    {odLletters anLletters : Option Addr} {slLletters : Array (Option Value)} {ocLletters kVLletters dcLletters pmLletters cdLletters ctLletters : Value}
    {f_Lcells : Addr}
    {odLcells anLcells : Option Addr} {slLcells : Array (Option Value)} {ocLcells kVLcells dcLcells pmLcells cdLcells ctLcells : Value}
    {f_Lfits : Addr}
    {odLfits anLfits : Option Addr} {slLfits : Array (Option Value)} {ocLfits kVLfits dcLfits pmLfits cdLfits ctLfits : Value}
    {f_Lpairs : Addr}
    {odLpairs anLpairs : Option Addr} {slLpairs : Array (Option Value)} {ocLpairs kVLpairs dcLpairs pmLpairs cdLpairs ctLpairs : Value}
    {f_Lvalue : Addr}
    {odLvalue anLvalue : Option Addr} {slLvalue : Array (Option Value)} {ocLvalue kVLvalue dcLvalue pmLvalue cdLvalue ctLvalue : Value}
    {f_Lspoiled_letters : Addr}
    {odLspoiled_letters anLspoiled_letters : Option Addr} {slLspoiled_letters : Array (Option Value)} {ocLspoiled_letters kVLspoiled_letters dcLspoiled_letters pmLspoiled_letters cdLspoiled_letters ctLspoiled_letters : Value}
    {f_Lspoiled_pair : Addr}
    {odLspoiled_pair anLspoiled_pair : Option Addr} {slLspoiled_pair : Array (Option Value)} {ocLspoiled_pair kVLspoiled_pair dcLspoiled_pair pmLspoiled_pair cdLspoiled_pair ctLspoiled_pair : Value}
    {f_Lspoiled_pairs : Addr}
    {odLspoiled_pairs anLspoiled_pairs : Option Addr} {slLspoiled_pairs : Array (Option Value)} {ocLspoiled_pairs kVLspoiled_pairs dcLspoiled_pairs pmLspoiled_pairs cdLspoiled_pairs ctLspoiled_pairs : Value}
    {f_Lis_choice : Addr}
    {odLis_choice anLis_choice : Option Addr} {slLis_choice : Array (Option Value)} {ocLis_choice kVLis_choice dcLis_choice pmLis_choice cdLis_choice ctLis_choice : Value}
    {f_Lare_pairs : Addr}
    {odLare_pairs anLare_pairs : Option Addr} {slLare_pairs : Array (Option Value)} {ocLare_pairs kVLare_pairs dcLare_pairs pmLare_pairs cdLare_pairs ctLare_pairs : Value}
    {f_Ldue : Addr}
    {odLdue anLdue : Option Addr} {slLdue : Array (Option Value)} {ocLdue kVLdue dcLdue pmLdue cdLdue ctLdue : Value}
    {f_Lmade : Addr}
    {odLmade anLmade : Option Addr} {slLmade : Array (Option Value)} {ocLmade kVLmade dcLmade pmLmade cdLmade ctLmade : Value}
    {f_law : Addr}
    {odlaw anlaw : Option Addr} {sllaw : Array (Option Value)} {oclaw kVlaw dclaw pmlaw cdlaw ctlaw : Value}
    {X_NoWish : Addr}
    {X_NearError : Addr}
    {f_NoWish_init : Addr}
    {odNoWish anNoWish cldNoWish cddNoWish : Option Addr} {slNoWish cslNoWish ccsNoWish : Array (Option Value)} {ocNoWish kVNoWish dcNoWish pmNoWish ctNoWish clNoWish cclNoWish : Value} {ccNoWish cdaNoWish : Addr} {vsNoWish : Array Value} {tfNoWish : Tok}
    {nmNoWish qnNoWish : Str} {NNoWish NENoWish : Addr} {bsNoWish : List Value} {snNoWish : List Str} {subNoWish : List Value} {abNoWish : Bool} {colNoWish : Option Bool} {ddNoWish : Option Addr} {m0NoWish m1NoWish m2NoWish m3NoWish m5NoWish : Option Value}
    (zb_ValueError : PySem.W.nsIn K mainGlobals "ValueError" = some none)
    (zb_abs : PySem.W.nsIn K mainGlobals "abs" = some none)
    (zb_all : PySem.W.nsIn K mainGlobals "all" = some none)
    (zb_int : PySem.W.nsIn K mainGlobals "int" = some none)
    (zb_isinstance : PySem.W.nsIn K mainGlobals "isinstance" = some none)
    (zb_len : PySem.W.nsIn K mainGlobals "len" = some none)
    (zb_list : PySem.W.nsIn K mainGlobals "list" = some none)
    (zb_range : PySem.W.nsIn K mainGlobals "range" = some none)
    (zb_set : PySem.W.nsIn K mainGlobals "set" = some none)
    (zb_sorted : PySem.W.nsIn K mainGlobals "sorted" = some none)
    (zb_str : PySem.W.nsIn K mainGlobals "str" = some none)
    (zb_tuple : PySem.W.nsIn K mainGlobals "tuple" = some none)
    (g_GIVEN_LETTERS : PySem.W.nsIn K mainGlobals "GIVEN_LETTERS" = some (some (.str "abcdefghijklmnopqrstuvwxyz" tk_GIVEN_LETTERS)))
    (g_SAID_LETTERS : PySem.W.nsIn K mainGlobals "SAID_LETTERS" = some (some (.str "ABCDEFGHIJKLMNOPQRSTUVWXYZ" tk_SAID_LETTERS)))
    (g_MOST_GIVEN : PySem.W.nsIn K mainGlobals "MOST_GIVEN" = some (some (.int 3 tk_MOST_GIVEN)))
    (g_MOST_SAID : PySem.W.nsIn K mainGlobals "MOST_SAID" = some (some (.int 4 tk_MOST_SAID)))
    (pg_Wish : PySem.W.plainGet K C_Wish Str.empty = true)
    (hd_Wish : PySem.W.hasDictIn K C_Wish = true)
    (po_Wish : PySem.W.plainOver K C_Wish = true)
    (sa_Wish : PySem.W.findIn K (.ref C_Wish) "__setattr__" = some (some (.builtin "object.__setattr__")))
    (g_Wish : PySem.W.nsIn K mainGlobals "Wish" = some (some (.ref C_Wish)))
    (y_oq_cl_Wish : PySem.W.findIn K (.ref C_Wish) "__class__" = some (some (.builtin "object.__class__")))
    (y_oq_gt_Wish : PySem.W.specialIn K (.builtin "object.__class__") "__get__" = some (some (.builtin "getset_descriptor.__get__")))
    (y_oq_tk_Wish : PySem.W.takesIn K (.builtin "object.__class__") = some true)
    (y_oq_mr_Wish : PySem.W.mroIn K C_Wish (.type "object") = some true)
    (nna_Wish_given : PySem.W.findIn K (.ref C_Wish) "_given" = some none)
    (nna_Wish_said : PySem.W.findIn K (.ref C_Wish) "_said" = some none)
    (nna_Wish_cells : PySem.W.findIn K (.ref C_Wish) "_cells" = some none)
    (nna_Wish_allowed : PySem.W.findIn K (.ref C_Wish) "_allowed" = some none)
    (nna_Wish_pairs : PySem.W.findIn K (.ref C_Wish) "_pairs" = some none)
    (nna_Wish_kept : PySem.W.findIn K (.ref C_Wish) "_kept" = some none)
    (a_are_letters : PySem.W.nsIn K mainGlobals "are_letters" = some (some (.ref f_are_letters)))
    (l_are_letters : K.lookup f_are_letters = some ⟨ocare_letters, odare_letters, .func (PySem.W.fnOf "are_letters" "are_letters" (defArgs s_are_letters) (defBody s_are_letters) (defScope s_are_letters) .none kVare_letters dcare_letters pmare_letters anare_letters cdare_letters ctare_letters), slare_letters⟩)
    (c_are_letters : PySem.W.codeIn K cdare_letters "are_letters" = true)
    (k_are_letters : PySem.W.keepIn K (.ref f_are_letters) = true)
    (a_are_different : PySem.W.nsIn K mainGlobals "are_different" = some (some (.ref f_are_different)))
    (l_are_different : K.lookup f_are_different = some ⟨ocare_different, odare_different, .func (PySem.W.fnOf "are_different" "are_different" (defArgs s_are_different) (defBody s_are_different) (defScope s_are_different) .none kVare_different dcare_different pmare_different anare_different cdare_different ctare_different), slare_different⟩)
    (c_are_different : PySem.W.codeIn K cdare_different "are_different" = true)
    (k_are_different : PySem.W.keepIn K (.ref f_are_different) = true)
    (a_is_pair : PySem.W.nsIn K mainGlobals "_is_pair" = some (some (.ref f_is_pair)))
    (l_is_pair : K.lookup f_is_pair = some ⟨ocis_pair, odis_pair, .func (PySem.W.fnOf "_is_pair" "_is_pair" (defArgs s_is_pair) (defBody s_is_pair) (defScope s_is_pair) .none kVis_pair dcis_pair pmis_pair anis_pair cdis_pair ctis_pair), slis_pair⟩)
    (c_is_pair : PySem.W.codeIn K cdis_pair "_is_pair" = true)
    (k_is_pair : PySem.W.keepIn K (.ref f_is_pair) = true)
    (a_are_pairs : PySem.W.nsIn K mainGlobals "are_pairs" = some (some (.ref f_are_pairs)))
    (l_are_pairs : K.lookup f_are_pairs = some ⟨ocare_pairs, odare_pairs, .func (PySem.W.fnOf "are_pairs" "are_pairs" (defArgs s_are_pairs) (defBody s_are_pairs) (defScope s_are_pairs) .none kVare_pairs dcare_pairs pmare_pairs anare_pairs cdare_pairs ctare_pairs), slare_pairs⟩)
    (c_are_pairs : PySem.W.codeIn K cdare_pairs "are_pairs" = true)
    (k_are_pairs : PySem.W.keepIn K (.ref f_are_pairs) = true)
    (a_Wish_init : PySem.W.findIn K (.ref C_Wish) "__init__" = some (some (.ref f_Wish_init)))
    (i_Wish_init : PySem.W.isFn K (.ref f_Wish_init) = true)
    (l_Wish_init : K.lookup f_Wish_init = some ⟨ocWish_init, odWish_init, .func (PySem.W.fnOf "__init__" "Wish.__init__" (defArgs s_Wish_init) (defBody s_Wish_init) (defScope s_Wish_init) .none kVWish_init dcWish_init pmWish_init anWish_init cdWish_init ctWish_init), slWish_init⟩)
    (c_Wish_init : PySem.W.codeIn K cdWish_init "Wish.__init__" = true)
    (k_Wish_init : PySem.W.keepIn K (.ref f_Wish_init) = true)
    (m_Wish : PySem.W.makesIn K C_Wish = true)
    (kc_Wish : PySem.W.keepIn K (.ref C_Wish) = true)
    (a_Wishfill : PySem.W.findIn K (.ref C_Wish) "_fill" = some (some (.ref f_Wishfill)))
    (i_Wishfill : PySem.W.isFn K (.ref f_Wishfill) = true)
    (l_Wishfill : K.lookup f_Wishfill = some ⟨ocWishfill, odWishfill, .func (PySem.W.fnOf "_fill" "Wish._fill" (defArgs s_Wishfill) (defBody s_Wishfill) (defScope s_Wishfill) .none kVWishfill dcWishfill pmWishfill anWishfill cdWishfill ctWishfill), slWishfill⟩)
    (c_Wishfill : PySem.W.codeIn K cdWishfill "Wish._fill" = true)
    (k_Wishfill : PySem.W.keepIn K (.ref f_Wishfill) = true)
    (a_Wish_eq : PySem.W.findIn K (.ref C_Wish) "__eq__" = some (some (.ref f_Wish_eq)))
    (i_Wish_eq : PySem.W.isFn K (.ref f_Wish_eq) = true)
    (l_Wish_eq : K.lookup f_Wish_eq = some ⟨ocWish_eq, odWish_eq, .func (PySem.W.fnOf "__eq__" "Wish.__eq__" (defArgs s_Wish_eq) (defBody s_Wish_eq) (defScope s_Wish_eq) .none kVWish_eq dcWish_eq pmWish_eq anWish_eq cdWish_eq ctWish_eq), slWish_eq⟩)
    (c_Wish_eq : PySem.W.codeIn K cdWish_eq "Wish.__eq__" = true)
    (k_Wish_eq : PySem.W.keepIn K (.ref f_Wish_eq) = true)
    (a_Wish_given : PySem.W.findIn K (.ref C_Wish) "given" = some (some (.ref f_Wish_given)))
    (i_Wish_given : PySem.W.isFn K (.ref f_Wish_given) = true)
    (l_Wish_given : K.lookup f_Wish_given = some ⟨ocWish_given, odWish_given, .func (PySem.W.fnOf "given" "Wish.given" (defArgs s_Wish_given) (defBody s_Wish_given) (defScope s_Wish_given) .none kVWish_given dcWish_given pmWish_given anWish_given cdWish_given ctWish_given), slWish_given⟩)
    (c_Wish_given : PySem.W.codeIn K cdWish_given "Wish.given" = true)
    (k_Wish_given : PySem.W.keepIn K (.ref f_Wish_given) = true)
    (a_Wish_said : PySem.W.findIn K (.ref C_Wish) "said" = some (some (.ref f_Wish_said)))
    (i_Wish_said : PySem.W.isFn K (.ref f_Wish_said) = true)
    (l_Wish_said : K.lookup f_Wish_said = some ⟨ocWish_said, odWish_said, .func (PySem.W.fnOf "said" "Wish.said" (defArgs s_Wish_said) (defBody s_Wish_said) (defScope s_Wish_said) .none kVWish_said dcWish_said pmWish_said anWish_said cdWish_said ctWish_said), slWish_said⟩)
    (c_Wish_said : PySem.W.codeIn K cdWish_said "Wish.said" = true)
    (k_Wish_said : PySem.W.keepIn K (.ref f_Wish_said) = true)
    (a_Wish_cells : PySem.W.findIn K (.ref C_Wish) "cells" = some (some (.ref f_Wish_cells)))
    (i_Wish_cells : PySem.W.isFn K (.ref f_Wish_cells) = true)
    (l_Wish_cells : K.lookup f_Wish_cells = some ⟨ocWish_cells, odWish_cells, .func (PySem.W.fnOf "cells" "Wish.cells" (defArgs s_Wish_cells) (defBody s_Wish_cells) (defScope s_Wish_cells) .none kVWish_cells dcWish_cells pmWish_cells anWish_cells cdWish_cells ctWish_cells), slWish_cells⟩)
    (c_Wish_cells : PySem.W.codeIn K cdWish_cells "Wish.cells" = true)
    (k_Wish_cells : PySem.W.keepIn K (.ref f_Wish_cells) = true)
    (a_Wish_pairs : PySem.W.findIn K (.ref C_Wish) "pairs" = some (some (.ref f_Wish_pairs)))
    (i_Wish_pairs : PySem.W.isFn K (.ref f_Wish_pairs) = true)
    (l_Wish_pairs : K.lookup f_Wish_pairs = some ⟨ocWish_pairs, odWish_pairs, .func (PySem.W.fnOf "pairs" "Wish.pairs" (defArgs s_Wish_pairs) (defBody s_Wish_pairs) (defScope s_Wish_pairs) .none kVWish_pairs dcWish_pairs pmWish_pairs anWish_pairs cdWish_pairs ctWish_pairs), slWish_pairs⟩)
    (c_Wish_pairs : PySem.W.codeIn K cdWish_pairs "Wish.pairs" = true)
    (k_Wish_pairs : PySem.W.keepIn K (.ref f_Wish_pairs) = true)
    (a_Lhand : PySem.W.nsIn K mainGlobals "_law_hand" = some (some (.ref f_Lhand)))
    (l_Lhand : K.lookup f_Lhand = some ⟨ocLhand, odLhand, .func (PySem.W.fnOf "_law_hand" "_law_hand" (defArgs s_Lhand) (defBody s_Lhand) (defScope s_Lhand) .none kVLhand dcLhand pmLhand anLhand cdLhand ctLhand), slLhand⟩)
    (c_Lhand : PySem.W.codeIn K cdLhand "_law_hand" = true)
    (k_Lhand : PySem.W.keepIn K (.ref f_Lhand) = true)
    (a_Ldraw : PySem.W.nsIn K mainGlobals "_law_draw" = some (some (.ref f_Ldraw)))
    (l_Ldraw : K.lookup f_Ldraw = some ⟨ocLdraw, odLdraw, .func (PySem.W.fnOf "_law_draw" "_law_draw" (defArgs s_Ldraw) (defBody s_Ldraw) (defScope s_Ldraw) .none kVLdraw dcLdraw pmLdraw anLdraw cdLdraw ctLdraw), slLdraw⟩)
    (c_Ldraw : PySem.W.codeIn K cdLdraw "_law_draw" = true)
    (k_Ldraw : PySem.W.keepIn K (.ref f_Ldraw) = true)
    (a_Lletters : PySem.W.nsIn K mainGlobals "_law_letters" = some (some (.ref f_Lletters)))
    (l_Lletters : K.lookup f_Lletters = some ⟨ocLletters, odLletters, .func (PySem.W.fnOf "_law_letters" "_law_letters" (defArgs s_Lletters) (defBody s_Lletters) (defScope s_Lletters) .none kVLletters dcLletters pmLletters anLletters cdLletters ctLletters), slLletters⟩)
    (c_Lletters : PySem.W.codeIn K cdLletters "_law_letters" = true)
    (k_Lletters : PySem.W.keepIn K (.ref f_Lletters) = true)
    (a_Lcells : PySem.W.nsIn K mainGlobals "_law_cells" = some (some (.ref f_Lcells)))
    (l_Lcells : K.lookup f_Lcells = some ⟨ocLcells, odLcells, .func (PySem.W.fnOf "_law_cells" "_law_cells" (defArgs s_Lcells) (defBody s_Lcells) (defScope s_Lcells) .none kVLcells dcLcells pmLcells anLcells cdLcells ctLcells), slLcells⟩)
    (c_Lcells : PySem.W.codeIn K cdLcells "_law_cells" = true)
    (k_Lcells : PySem.W.keepIn K (.ref f_Lcells) = true)
    (a_Lfits : PySem.W.nsIn K mainGlobals "_law_fits" = some (some (.ref f_Lfits)))
    (l_Lfits : K.lookup f_Lfits = some ⟨ocLfits, odLfits, .func (PySem.W.fnOf "_law_fits" "_law_fits" (defArgs s_Lfits) (defBody s_Lfits) (defScope s_Lfits) .none kVLfits dcLfits pmLfits anLfits cdLfits ctLfits), slLfits⟩)
    (c_Lfits : PySem.W.codeIn K cdLfits "_law_fits" = true)
    (k_Lfits : PySem.W.keepIn K (.ref f_Lfits) = true)
    (a_Lpairs : PySem.W.nsIn K mainGlobals "_law_pairs" = some (some (.ref f_Lpairs)))
    (l_Lpairs : K.lookup f_Lpairs = some ⟨ocLpairs, odLpairs, .func (PySem.W.fnOf "_law_pairs" "_law_pairs" (defArgs s_Lpairs) (defBody s_Lpairs) (defScope s_Lpairs) .none kVLpairs dcLpairs pmLpairs anLpairs cdLpairs ctLpairs), slLpairs⟩)
    (c_Lpairs : PySem.W.codeIn K cdLpairs "_law_pairs" = true)
    (k_Lpairs : PySem.W.keepIn K (.ref f_Lpairs) = true)
    (a_Lvalue : PySem.W.nsIn K mainGlobals "_law_value" = some (some (.ref f_Lvalue)))
    (l_Lvalue : K.lookup f_Lvalue = some ⟨ocLvalue, odLvalue, .func (PySem.W.fnOf "_law_value" "_law_value" (defArgs s_Lvalue) (defBody s_Lvalue) (defScope s_Lvalue) .none kVLvalue dcLvalue pmLvalue anLvalue cdLvalue ctLvalue), slLvalue⟩)
    (c_Lvalue : PySem.W.codeIn K cdLvalue "_law_value" = true)
    (k_Lvalue : PySem.W.keepIn K (.ref f_Lvalue) = true)
    (a_Lspoiled_letters : PySem.W.nsIn K mainGlobals "_law_spoiled_letters" = some (some (.ref f_Lspoiled_letters)))
    (l_Lspoiled_letters : K.lookup f_Lspoiled_letters = some ⟨ocLspoiled_letters, odLspoiled_letters, .func (PySem.W.fnOf "_law_spoiled_letters" "_law_spoiled_letters" (defArgs s_Lspoiled_letters) (defBody s_Lspoiled_letters) (defScope s_Lspoiled_letters) .none kVLspoiled_letters dcLspoiled_letters pmLspoiled_letters anLspoiled_letters cdLspoiled_letters ctLspoiled_letters), slLspoiled_letters⟩)
    (c_Lspoiled_letters : PySem.W.codeIn K cdLspoiled_letters "_law_spoiled_letters" = true)
    (k_Lspoiled_letters : PySem.W.keepIn K (.ref f_Lspoiled_letters) = true)
    (a_Lspoiled_pair : PySem.W.nsIn K mainGlobals "_law_spoiled_pair" = some (some (.ref f_Lspoiled_pair)))
    (l_Lspoiled_pair : K.lookup f_Lspoiled_pair = some ⟨ocLspoiled_pair, odLspoiled_pair, .func (PySem.W.fnOf "_law_spoiled_pair" "_law_spoiled_pair" (defArgs s_Lspoiled_pair) (defBody s_Lspoiled_pair) (defScope s_Lspoiled_pair) .none kVLspoiled_pair dcLspoiled_pair pmLspoiled_pair anLspoiled_pair cdLspoiled_pair ctLspoiled_pair), slLspoiled_pair⟩)
    (c_Lspoiled_pair : PySem.W.codeIn K cdLspoiled_pair "_law_spoiled_pair" = true)
    (k_Lspoiled_pair : PySem.W.keepIn K (.ref f_Lspoiled_pair) = true)
    (a_Lspoiled_pairs : PySem.W.nsIn K mainGlobals "_law_spoiled_pairs" = some (some (.ref f_Lspoiled_pairs)))
    (l_Lspoiled_pairs : K.lookup f_Lspoiled_pairs = some ⟨ocLspoiled_pairs, odLspoiled_pairs, .func (PySem.W.fnOf "_law_spoiled_pairs" "_law_spoiled_pairs" (defArgs s_Lspoiled_pairs) (defBody s_Lspoiled_pairs) (defScope s_Lspoiled_pairs) .none kVLspoiled_pairs dcLspoiled_pairs pmLspoiled_pairs anLspoiled_pairs cdLspoiled_pairs ctLspoiled_pairs), slLspoiled_pairs⟩)
    (c_Lspoiled_pairs : PySem.W.codeIn K cdLspoiled_pairs "_law_spoiled_pairs" = true)
    (k_Lspoiled_pairs : PySem.W.keepIn K (.ref f_Lspoiled_pairs) = true)
    (a_Lis_choice : PySem.W.nsIn K mainGlobals "_law_is_choice" = some (some (.ref f_Lis_choice)))
    (l_Lis_choice : K.lookup f_Lis_choice = some ⟨ocLis_choice, odLis_choice, .func (PySem.W.fnOf "_law_is_choice" "_law_is_choice" (defArgs s_Lis_choice) (defBody s_Lis_choice) (defScope s_Lis_choice) .none kVLis_choice dcLis_choice pmLis_choice anLis_choice cdLis_choice ctLis_choice), slLis_choice⟩)
    (c_Lis_choice : PySem.W.codeIn K cdLis_choice "_law_is_choice" = true)
    (k_Lis_choice : PySem.W.keepIn K (.ref f_Lis_choice) = true)
    (a_Lare_pairs : PySem.W.nsIn K mainGlobals "_law_are_pairs" = some (some (.ref f_Lare_pairs)))
    (l_Lare_pairs : K.lookup f_Lare_pairs = some ⟨ocLare_pairs, odLare_pairs, .func (PySem.W.fnOf "_law_are_pairs" "_law_are_pairs" (defArgs s_Lare_pairs) (defBody s_Lare_pairs) (defScope s_Lare_pairs) .none kVLare_pairs dcLare_pairs pmLare_pairs anLare_pairs cdLare_pairs ctLare_pairs), slLare_pairs⟩)
    (c_Lare_pairs : PySem.W.codeIn K cdLare_pairs "_law_are_pairs" = true)
    (k_Lare_pairs : PySem.W.keepIn K (.ref f_Lare_pairs) = true)
    (a_Ldue : PySem.W.nsIn K mainGlobals "_law_due" = some (some (.ref f_Ldue)))
    (l_Ldue : K.lookup f_Ldue = some ⟨ocLdue, odLdue, .func (PySem.W.fnOf "_law_due" "_law_due" (defArgs s_Ldue) (defBody s_Ldue) (defScope s_Ldue) .none kVLdue dcLdue pmLdue anLdue cdLdue ctLdue), slLdue⟩)
    (c_Ldue : PySem.W.codeIn K cdLdue "_law_due" = true)
    (k_Ldue : PySem.W.keepIn K (.ref f_Ldue) = true)
    (a_Lmade : PySem.W.nsIn K mainGlobals "_law_made" = some (some (.ref f_Lmade)))
    (l_Lmade : K.lookup f_Lmade = some ⟨ocLmade, odLmade, .func (PySem.W.fnOf "_law_made" "_law_made" (defArgs s_Lmade) (defBody s_Lmade) (defScope s_Lmade) .none kVLmade dcLmade pmLmade anLmade cdLmade ctLmade), slLmade⟩)
    (c_Lmade : PySem.W.codeIn K cdLmade "_law_made" = true)
    (k_Lmade : PySem.W.keepIn K (.ref f_Lmade) = true)
    (a_law : PySem.W.nsIn K mainGlobals "law" = some (some (.ref f_law)))
    (l_law : K.lookup f_law = some ⟨oclaw, odlaw, .func (PySem.W.fnOf "law" "law" (defArgs s_law) (defBody s_law) (defScope s_law) .none kVlaw dclaw pmlaw anlaw cdlaw ctlaw), sllaw⟩)
    (c_law : PySem.W.codeIn K cdlaw "law" = true)
    (k_law : PySem.W.keepIn K (.ref f_law) = true)
    (g_NoWish : PySem.W.nsIn K mainGlobals "NoWish" = some (some (.ref X_NoWish)))
    (g_NearError : PySem.W.nsIn K mainGlobals "NearError" = some (some (.ref X_NearError)))
    (l_NoWish_init : K.lookup f_NoWish_init = some ⟨ocNoWish, odNoWish, .func (PySem.W.ksFn "__init__" "NoWish.__init__" (defArgs s_NoWish_init) (defBody s_NoWish_init) (defScope s_NoWish_init) .none kVNoWish dcNoWish pmNoWish anNoWish (.ref cdaNoWish) ctNoWish ccNoWish), slNoWish⟩)
    (c_NoWish_init : PySem.W.codeIn K (.ref cdaNoWish) "NoWish.__init__" = true)
    (cz_NoWish : K.lookup cdaNoWish = some ⟨cclNoWish, cddNoWish, .fields vsNoWish, ccsNoWish⟩)
    (cv_NoWish : vsNoWish[2]? = some (.str "/claim/cut.py" tfNoWish))
    (cc_NoWish : K.lookup ccNoWish = some ⟨clNoWish, cldNoWish, .cell (some (.ref X_NoWish)), cslNoWish⟩)
    (xL_NoWish : K.lookup X_NoWish = some (excClassObj nmNoWish qnNoWish X_NoWish NNoWish bsNoWish [.ref NENoWish, .type "ValueError", .type "Exception", .type "BaseException", .type "object"] true snNoWish subNoWish abNoWish colNoWish ddNoWish m0NoWish m1NoWish m2NoWish m3NoWish m5NoWish "ValueError.__new__"))
    (sa_NoWish : PySem.W.findIn K (.ref X_NoWish) "__setattr__" = some (some (.builtin "object.__setattr__")))
    (y_sb_NoWish : PySem.W.subIn K (.ref X_NoWish) (.type "BaseException") = some true)
    (y_ty_NoWish : PySem.W.typeIn K (.ref X_NoWish) = some (.type "type"))
    (kk_NoWish : PySem.W.keepIn K (.ref X_NoWish) = true)
    (nsup : PySem.W.nsIn K mainGlobals "super" = some none)
    (nopq : PySem.W.nsIn K PySem.cStatics "thirdparty.any" = some none)
    (ss_NoWish : PySem.W.ks_superIn K X_NoWish X_NoWish "__init__" = some (some (.builtin "ValueError.__init__")))
    (sv_NoWish : PySem.W.subIn K (.ref X_NoWish) (.type "ValueError") = some true)
    (mr_NoWish : PySem.W.mroIn K X_NoWish (.ref X_NoWish) = some true)
    (y_ii_NoWish : PySem.W.findIn K (.ref X_NoWish) "__init__" = some (some (.ref f_NoWish_init)))
    (y_ti_NoWish : PySem.W.typeIn K (.ref f_NoWish_init) = some (.type "function"))
    (y_fo_NoWish : PySem.W.findIn K (.ref X_NoWish) "part" = some none)
    (eg_NoWish : PySem.W.findIn K (.ref X_NoWish) "__getattribute__" = some (some (.builtin "BaseException.__getattribute__")))
    (et_NoWish : PySem.W.findIn K (.ref X_NoWish) "__getattr__" = some none)
    (ed_NoWish : PySem.W.hasDictIn K X_NoWish = true)
    (ea_NoWish : PySem.W.findIn K (.ref X_NoWish) "__class__" = some (some (.builtin "object.__class__")))
    (en : PySem.W.specialIn K (.builtin "object.__class__") "__get__" = some (some (.builtin "getset_descriptor.__get__")))
    (ek : PySem.W.takesIn K (.builtin "object.__class__") = some true)
    (em_NoWish : PySem.W.mroIn K X_NoWish (.type "object") = some true)
    (ic_NearError : PySem.W.isClsIn K X_NearError = true)
    (y_ty_NearError : PySem.W.typeIn K (.ref X_NearError) = some (.type "type"))
    (su_NoWish_NearError : PySem.W.subIn K (.ref X_NoWish) (.ref X_NearError) = some true)
    (ic_NoWish : PySem.W.isClsIn K X_NoWish = true)
    (su_NoWish_NoWish : PySem.W.subIn K (.ref X_NoWish) (.ref X_NoWish) = some true)
    : ∃ fd : FuncData, (∀ (s : Shared) (v : Value), BindsTo s fd ⟨[v], []⟩ [("_law_script", v)]) ∧ ∀ base : Heap, K.In base → base.Ns mainGlobals mg → FnOk P w K mg base (L2.CX P w) 7 fa fd ["_law_script"] (sp_law K) := by
  have e := hfa.symm.trans (PySem.W.mg_of X G a_law)
  cases e
  exact ⟨PySem.W.fnOf "law" "law" (defArgs s_law) (defBody s_law) (defScope s_law) .none kVlaw dclaw pmlaw anlaw cdlaw ctlaw, fun s v => .of_eq rfl, fun base _ _ => ok_law (T := ({
    b_ValueError := PySem.W.mg_none_of X G zb_ValueError,
    b_abs := PySem.W.mg_none_of X G zb_abs,
    b_all := PySem.W.mg_none_of X G zb_all,
    b_int := PySem.W.mg_none_of X G zb_int,
    b_isinstance := PySem.W.mg_none_of X G zb_isinstance,
    b_len := PySem.W.mg_none_of X G zb_len,
    b_list := PySem.W.mg_none_of X G zb_list,
    b_range := PySem.W.mg_none_of X G zb_range,
    b_set := PySem.W.mg_none_of X G zb_set,
    b_sorted := PySem.W.mg_none_of X G zb_sorted,
    b_str := PySem.W.mg_none_of X G zb_str,
    b_tuple := PySem.W.mg_none_of X G zb_tuple,
    tk_GIVEN_LETTERS := tk_GIVEN_LETTERS,
    mg_GIVEN_LETTERS := PySem.W.mg_of X G g_GIVEN_LETTERS,
    tk_SAID_LETTERS := tk_SAID_LETTERS,
    mg_SAID_LETTERS := PySem.W.mg_of X G g_SAID_LETTERS,
    tk_MOST_GIVEN := tk_MOST_GIVEN,
    mg_MOST_GIVEN := PySem.W.mg_of X G g_MOST_GIVEN,
    tk_MOST_SAID := tk_MOST_SAID,
    mg_MOST_SAID := PySem.W.mg_of X G g_MOST_SAID,
    C_Wish := C_Wish,
    cl_Wish := ⟨pg_Wish, hd_Wish, po_Wish, sa_Wish⟩,
    mg_Wish := PySem.W.mg_of X G g_Wish,
    oq_cl_Wish := y_oq_cl_Wish,
    oq_gt_Wish := y_oq_gt_Wish,
    oq_tk_Wish := y_oq_tk_Wish,
    oq_mr_Wish := y_oq_mr_Wish,
    na_Wish_given := nna_Wish_given,
    na_Wish_said := nna_Wish_said,
    na_Wish_cells := nna_Wish_cells,
    na_Wish_allowed := nna_Wish_allowed,
    na_Wish_pairs := nna_Wish_pairs,
    na_Wish_kept := nna_Wish_kept,
    f_are_letters := f_are_letters,
    fd_are_letters := PySem.W.fnOf "are_letters" "are_letters" (defArgs s_are_letters) (defBody s_are_letters) (defScope s_are_letters) .none kVare_letters dcare_letters pmare_letters anare_letters cdare_letters ctare_letters,
    F_are_letters := fun_mk (st := s_are_letters) l_are_letters c_are_letters k_are_letters,
    bd_are_letters := (fun_mk (st := s_are_letters) l_are_letters c_are_letters k_are_letters).binds (ps := ["value", "letters"]) fun _ _ _ _ _ _ us hl => match us, hl with | [_, _], _ => rfl,
    mg_are_letters := PySem.W.mg_of X G a_are_letters,
    kp_are_letters := k_are_letters,
    f_are_different := f_are_different,
    fd_are_different := PySem.W.fnOf "are_different" "are_different" (defArgs s_are_different) (defBody s_are_different) (defScope s_are_different) .none kVare_different dcare_different pmare_different anare_different cdare_different ctare_different,
    F_are_different := fun_mk (st := s_are_different) l_are_different c_are_different k_are_different,
    bd_are_different := (fun_mk (st := s_are_different) l_are_different c_are_different k_are_different).binds (ps := ["value", "letters", "most"]) fun _ _ _ _ _ _ us hl => match us, hl with | [_, _, _], _ => rfl,
    mg_are_different := PySem.W.mg_of X G a_are_different,
    kp_are_different := k_are_different,
    f_is_pair := f_is_pair,
    fd_is_pair := PySem.W.fnOf "_is_pair" "_is_pair" (defArgs s_is_pair) (defBody s_is_pair) (defScope s_is_pair) .none kVis_pair dcis_pair pmis_pair anis_pair cdis_pair ctis_pair,
    F_is_pair := fun_mk (st := s_is_pair) l_is_pair c_is_pair k_is_pair,
    bd_is_pair := (fun_mk (st := s_is_pair) l_is_pair c_is_pair k_is_pair).binds (ps := ["value", "given", "said"]) fun _ _ _ _ _ _ us hl => match us, hl with | [_, _, _], _ => rfl,
    mg_is_pair := PySem.W.mg_of X G a_is_pair,
    kp_is_pair := k_is_pair,
    f_are_pairs := f_are_pairs,
    fd_are_pairs := PySem.W.fnOf "are_pairs" "are_pairs" (defArgs s_are_pairs) (defBody s_are_pairs) (defScope s_are_pairs) .none kVare_pairs dcare_pairs pmare_pairs anare_pairs cdare_pairs ctare_pairs,
    F_are_pairs := fun_mk (st := s_are_pairs) l_are_pairs c_are_pairs k_are_pairs,
    bd_are_pairs := (fun_mk (st := s_are_pairs) l_are_pairs c_are_pairs k_are_pairs).binds (ps := ["value", "given", "said"]) fun _ _ _ _ _ _ us hl => match us, hl with | [_, _, _], _ => rfl,
    mg_are_pairs := PySem.W.mg_of X G a_are_pairs,
    kp_are_pairs := k_are_pairs,
    f_Wish_init := f_Wish_init,
    fd_Wish_init := PySem.W.fnOf "__init__" "Wish.__init__" (defArgs s_Wish_init) (defBody s_Wish_init) (defScope s_Wish_init) .none kVWish_init dcWish_init pmWish_init anWish_init cdWish_init ctWish_init,
    F_Wish_init := fun_mk (st := s_Wish_init) l_Wish_init c_Wish_init k_Wish_init,
    bd_Wish_init := (fun_mk (st := s_Wish_init) l_Wish_init c_Wish_init k_Wish_init).binds (ps := ["self", "given", "said", "pairs"]) fun _ _ _ _ _ _ us hl => match us, hl with | [_, _, _, _], _ => rfl,
    mk_Wish := ⟨m_Wish, a_Wish_init, i_Wish_init, kc_Wish⟩,
    f_Wishfill := f_Wishfill,
    fd_Wishfill := PySem.W.fnOf "_fill" "Wish._fill" (defArgs s_Wishfill) (defBody s_Wishfill) (defScope s_Wishfill) .none kVWishfill dcWishfill pmWishfill anWishfill cdWishfill ctWishfill,
    F_Wishfill := fun_mk (st := s_Wishfill) l_Wishfill c_Wishfill k_Wishfill,
    bd_Wishfill := (fun_mk (st := s_Wishfill) l_Wishfill c_Wishfill k_Wishfill).binds (ps := ["self", "given", "said", "pairs"]) fun _ _ _ _ _ _ us hl => match us, hl with | [_, _, _, _], _ => rfl,
    mt_Wishfill := ⟨a_Wishfill, i_Wishfill, k_Wishfill⟩,
    f_Wish_eq := f_Wish_eq,
    fd_Wish_eq := PySem.W.fnOf "__eq__" "Wish.__eq__" (defArgs s_Wish_eq) (defBody s_Wish_eq) (defScope s_Wish_eq) .none kVWish_eq dcWish_eq pmWish_eq anWish_eq cdWish_eq ctWish_eq,
    F_Wish_eq := fun_mk (st := s_Wish_eq) l_Wish_eq c_Wish_eq k_Wish_eq,
    bd_Wish_eq := (fun_mk (st := s_Wish_eq) l_Wish_eq c_Wish_eq k_Wish_eq).binds (ps := ["self", "other"]) fun _ _ _ _ _ _ us hl => match us, hl with | [_, _], _ => rfl,
    mt_Wish_eq := ⟨a_Wish_eq, i_Wish_eq, k_Wish_eq⟩,
    f_Wish_given := f_Wish_given,
    fd_Wish_given := PySem.W.fnOf "given" "Wish.given" (defArgs s_Wish_given) (defBody s_Wish_given) (defScope s_Wish_given) .none kVWish_given dcWish_given pmWish_given anWish_given cdWish_given ctWish_given,
    F_Wish_given := fun_mk (st := s_Wish_given) l_Wish_given c_Wish_given k_Wish_given,
    bd_Wish_given := (fun_mk (st := s_Wish_given) l_Wish_given c_Wish_given k_Wish_given).binds (ps := ["self"]) fun _ _ _ _ _ _ us hl => match us, hl with | [_], _ => rfl,
    mt_Wish_given := ⟨a_Wish_given, i_Wish_given, k_Wish_given⟩,
    f_Wish_said := f_Wish_said,
    fd_Wish_said := PySem.W.fnOf "said" "Wish.said" (defArgs s_Wish_said) (defBody s_Wish_said) (defScope s_Wish_said) .none kVWish_said dcWish_said pmWish_said anWish_said cdWish_said ctWish_said,
    F_Wish_said := fun_mk (st := s_Wish_said) l_Wish_said c_Wish_said k_Wish_said,
    bd_Wish_said := (fun_mk (st := s_Wish_said) l_Wish_said c_Wish_said k_Wish_said).binds (ps := ["self"]) fun _ _ _ _ _ _ us hl => match us, hl with | [_], _ => rfl,
    mt_Wish_said := ⟨a_Wish_said, i_Wish_said, k_Wish_said⟩,
    f_Wish_cells := f_Wish_cells,
    fd_Wish_cells := PySem.W.fnOf "cells" "Wish.cells" (defArgs s_Wish_cells) (defBody s_Wish_cells) (defScope s_Wish_cells) .none kVWish_cells dcWish_cells pmWish_cells anWish_cells cdWish_cells ctWish_cells,
    F_Wish_cells := fun_mk (st := s_Wish_cells) l_Wish_cells c_Wish_cells k_Wish_cells,
    f_Wish_pairs := f_Wish_pairs,
    fd_Wish_pairs := PySem.W.fnOf "pairs" "Wish.pairs" (defArgs s_Wish_pairs) (defBody s_Wish_pairs) (defScope s_Wish_pairs) .none kVWish_pairs dcWish_pairs pmWish_pairs anWish_pairs cdWish_pairs ctWish_pairs,
    F_Wish_pairs := fun_mk (st := s_Wish_pairs) l_Wish_pairs c_Wish_pairs k_Wish_pairs,
    bd_Wish_pairs := (fun_mk (st := s_Wish_pairs) l_Wish_pairs c_Wish_pairs k_Wish_pairs).binds (ps := ["self"]) fun _ _ _ _ _ _ us hl => match us, hl with | [_], _ => rfl,
    mt_Wish_pairs := ⟨a_Wish_pairs, i_Wish_pairs, k_Wish_pairs⟩,
    f_Lhand := f_Lhand,
    fd_Lhand := PySem.W.fnOf "_law_hand" "_law_hand" (defArgs s_Lhand) (defBody s_Lhand) (defScope s_Lhand) .none kVLhand dcLhand pmLhand anLhand cdLhand ctLhand,
    F_Lhand := fun_mk (st := s_Lhand) l_Lhand c_Lhand k_Lhand,
    bd_Lhand := (fun_mk (st := s_Lhand) l_Lhand c_Lhand k_Lhand).binds (ps := ["_law_script"]) fun _ _ _ _ _ _ us hl => match us, hl with | [_], _ => rfl,
    mg_Lhand := PySem.W.mg_of X G a_Lhand,
    kp_Lhand := k_Lhand,
    f_Ldraw := f_Ldraw,
    fd_Ldraw := PySem.W.fnOf "_law_draw" "_law_draw" (defArgs s_Ldraw) (defBody s_Ldraw) (defScope s_Ldraw) .none kVLdraw dcLdraw pmLdraw anLdraw cdLdraw ctLdraw,
    F_Ldraw := fun_mk (st := s_Ldraw) l_Ldraw c_Ldraw k_Ldraw,
    bd_Ldraw := (fun_mk (st := s_Ldraw) l_Ldraw c_Ldraw k_Ldraw).binds (ps := ["_law_hand_here", "_law_many"]) fun _ _ _ _ _ _ us hl => match us, hl with | [_, _], _ => rfl,
    mg_Ldraw := PySem.W.mg_of X G a_Ldraw,
    kp_Ldraw := k_Ldraw,
    f_Lletters := f_Lletters,
    fd_Lletters := PySem.W.fnOf "_law_letters" "_law_letters" (defArgs s_Lletters) (defBody s_Lletters) (defScope s_Lletters) .none kVLletters dcLletters pmLletters anLletters cdLletters ctLletters,
    F_Lletters := fun_mk (st := s_Lletters) l_Lletters c_Lletters k_Lletters,
    bd_Lletters := (fun_mk (st := s_Lletters) l_Lletters c_Lletters k_Lletters).binds (ps := ["_law_hand_here", "_law_signs", "_law_many"]) fun _ _ _ _ _ _ us hl => match us, hl with | [_, _, _], _ => rfl,
    mg_Lletters := PySem.W.mg_of X G a_Lletters,
    kp_Lletters := k_Lletters,
    f_Lcells := f_Lcells,
    fd_Lcells := PySem.W.fnOf "_law_cells" "_law_cells" (defArgs s_Lcells) (defBody s_Lcells) (defScope s_Lcells) .none kVLcells dcLcells pmLcells anLcells cdLcells ctLcells,
    F_Lcells := fun_mk (st := s_Lcells) l_Lcells c_Lcells k_Lcells,
    bd_Lcells := (fun_mk (st := s_Lcells) l_Lcells c_Lcells k_Lcells).binds (ps := ["_law_given", "_law_said"]) fun _ _ _ _ _ _ us hl => match us, hl with | [_, _], _ => rfl,
    mg_Lcells := PySem.W.mg_of X G a_Lcells,
    kp_Lcells := k_Lcells,
    f_Lfits := f_Lfits,
    fd_Lfits := PySem.W.fnOf "_law_fits" "_law_fits" (defArgs s_Lfits) (defBody s_Lfits) (defScope s_Lfits) .none kVLfits dcLfits pmLfits anLfits cdLfits ctLfits,
    F_Lfits := fun_mk (st := s_Lfits) l_Lfits c_Lfits k_Lfits,
    bd_Lfits := (fun_mk (st := s_Lfits) l_Lfits c_Lfits k_Lfits).binds (ps := ["_law_kind", "_law_given", "_law_said", "_law_one", "_law_other"]) fun _ _ _ _ _ _ us hl => match us, hl with | [_, _, _, _, _], _ => rfl,
    mg_Lfits := PySem.W.mg_of X G a_Lfits,
    kp_Lfits := k_Lfits,
    f_Lpairs := f_Lpairs,
    fd_Lpairs := PySem.W.fnOf "_law_pairs" "_law_pairs" (defArgs s_Lpairs) (defBody s_Lpairs) (defScope s_Lpairs) .none kVLpairs dcLpairs pmLpairs anLpairs cdLpairs ctLpairs,
    F_Lpairs := fun_mk (st := s_Lpairs) l_Lpairs c_Lpairs k_Lpairs,
    bd_Lpairs := (fun_mk (st := s_Lpairs) l_Lpairs c_Lpairs k_Lpairs).binds (ps := ["_law_hand_here", "_law_given", "_law_said"]) fun _ _ _ _ _ _ us hl => match us, hl with | [_, _, _], _ => rfl,
    mg_Lpairs := PySem.W.mg_of X G a_Lpairs,
    kp_Lpairs := k_Lpairs,
    f_Lvalue := f_Lvalue,
    fd_Lvalue := PySem.W.fnOf "_law_value" "_law_value" (defArgs s_Lvalue) (defBody s_Lvalue) (defScope s_Lvalue) .none kVLvalue dcLvalue pmLvalue anLvalue cdLvalue ctLvalue,
    F_Lvalue := fun_mk (st := s_Lvalue) l_Lvalue c_Lvalue k_Lvalue,
    bd_Lvalue := (fun_mk (st := s_Lvalue) l_Lvalue c_Lvalue k_Lvalue).binds (ps := ["_law_hand_here"]) fun _ _ _ _ _ _ us hl => match us, hl with | [_], _ => rfl,
    mg_Lvalue := PySem.W.mg_of X G a_Lvalue,
    kp_Lvalue := k_Lvalue,
    f_Lspoiled_letters := f_Lspoiled_letters,
    fd_Lspoiled_letters := PySem.W.fnOf "_law_spoiled_letters" "_law_spoiled_letters" (defArgs s_Lspoiled_letters) (defBody s_Lspoiled_letters) (defScope s_Lspoiled_letters) .none kVLspoiled_letters dcLspoiled_letters pmLspoiled_letters anLspoiled_letters cdLspoiled_letters ctLspoiled_letters,
    F_Lspoiled_letters := fun_mk (st := s_Lspoiled_letters) l_Lspoiled_letters c_Lspoiled_letters k_Lspoiled_letters,
    bd_Lspoiled_letters := (fun_mk (st := s_Lspoiled_letters) l_Lspoiled_letters c_Lspoiled_letters k_Lspoiled_letters).binds (ps := ["_law_hand_here", "_law_letters_here", "_law_others"]) fun _ _ _ _ _ _ us hl => match us, hl with | [_, _, _], _ => rfl,
    mg_Lspoiled_letters := PySem.W.mg_of X G a_Lspoiled_letters,
    kp_Lspoiled_letters := k_Lspoiled_letters,
    f_Lspoiled_pair := f_Lspoiled_pair,
    fd_Lspoiled_pair := PySem.W.fnOf "_law_spoiled_pair" "_law_spoiled_pair" (defArgs s_Lspoiled_pair) (defBody s_Lspoiled_pair) (defScope s_Lspoiled_pair) .none kVLspoiled_pair dcLspoiled_pair pmLspoiled_pair anLspoiled_pair cdLspoiled_pair ctLspoiled_pair,
    F_Lspoiled_pair := fun_mk (st := s_Lspoiled_pair) l_Lspoiled_pair c_Lspoiled_pair k_Lspoiled_pair,
    bd_Lspoiled_pair := (fun_mk (st := s_Lspoiled_pair) l_Lspoiled_pair c_Lspoiled_pair k_Lspoiled_pair).binds (ps := ["_law_hand_here", "_law_pair"]) fun _ _ _ _ _ _ us hl => match us, hl with | [_, _], _ => rfl,
    mg_Lspoiled_pair := PySem.W.mg_of X G a_Lspoiled_pair,
    kp_Lspoiled_pair := k_Lspoiled_pair,
    f_Lspoiled_pairs := f_Lspoiled_pairs,
    fd_Lspoiled_pairs := PySem.W.fnOf "_law_spoiled_pairs" "_law_spoiled_pairs" (defArgs s_Lspoiled_pairs) (defBody s_Lspoiled_pairs) (defScope s_Lspoiled_pairs) .none kVLspoiled_pairs dcLspoiled_pairs pmLspoiled_pairs anLspoiled_pairs cdLspoiled_pairs ctLspoiled_pairs,
    F_Lspoiled_pairs := fun_mk (st := s_Lspoiled_pairs) l_Lspoiled_pairs c_Lspoiled_pairs k_Lspoiled_pairs,
    bd_Lspoiled_pairs := (fun_mk (st := s_Lspoiled_pairs) l_Lspoiled_pairs c_Lspoiled_pairs k_Lspoiled_pairs).binds (ps := ["_law_hand_here", "_law_pairs_here"]) fun _ _ _ _ _ _ us hl => match us, hl with | [_, _], _ => rfl,
    mg_Lspoiled_pairs := PySem.W.mg_of X G a_Lspoiled_pairs,
    kp_Lspoiled_pairs := k_Lspoiled_pairs,
    f_Lis_choice := f_Lis_choice,
    fd_Lis_choice := PySem.W.fnOf "_law_is_choice" "_law_is_choice" (defArgs s_Lis_choice) (defBody s_Lis_choice) (defScope s_Lis_choice) .none kVLis_choice dcLis_choice pmLis_choice anLis_choice cdLis_choice ctLis_choice,
    F_Lis_choice := fun_mk (st := s_Lis_choice) l_Lis_choice c_Lis_choice k_Lis_choice,
    bd_Lis_choice := (fun_mk (st := s_Lis_choice) l_Lis_choice c_Lis_choice k_Lis_choice).binds (ps := ["_law_thing", "_law_signs", "_law_most"]) fun _ _ _ _ _ _ us hl => match us, hl with | [_, _, _], _ => rfl,
    mg_Lis_choice := PySem.W.mg_of X G a_Lis_choice,
    kp_Lis_choice := k_Lis_choice,
    f_Lare_pairs := f_Lare_pairs,
    fd_Lare_pairs := PySem.W.fnOf "_law_are_pairs" "_law_are_pairs" (defArgs s_Lare_pairs) (defBody s_Lare_pairs) (defScope s_Lare_pairs) .none kVLare_pairs dcLare_pairs pmLare_pairs anLare_pairs cdLare_pairs ctLare_pairs,
    F_Lare_pairs := fun_mk (st := s_Lare_pairs) l_Lare_pairs c_Lare_pairs k_Lare_pairs,
    bd_Lare_pairs := (fun_mk (st := s_Lare_pairs) l_Lare_pairs c_Lare_pairs k_Lare_pairs).binds (ps := ["_law_thing", "_law_given", "_law_said"]) fun _ _ _ _ _ _ us hl => match us, hl with | [_, _, _], _ => rfl,
    mg_Lare_pairs := PySem.W.mg_of X G a_Lare_pairs,
    kp_Lare_pairs := k_Lare_pairs,
    f_Ldue := f_Ldue,
    fd_Ldue := PySem.W.fnOf "_law_due" "_law_due" (defArgs s_Ldue) (defBody s_Ldue) (defScope s_Ldue) .none kVLdue dcLdue pmLdue anLdue cdLdue ctLdue,
    F_Ldue := fun_mk (st := s_Ldue) l_Ldue c_Ldue k_Ldue,
    bd_Ldue := (fun_mk (st := s_Ldue) l_Ldue c_Ldue k_Ldue).binds (ps := ["_law_given", "_law_said", "_law_pairs_here"]) fun _ _ _ _ _ _ us hl => match us, hl with | [_, _, _], _ => rfl,
    mg_Ldue := PySem.W.mg_of X G a_Ldue,
    kp_Ldue := k_Ldue,
    f_Lmade := f_Lmade,
    fd_Lmade := PySem.W.fnOf "_law_made" "_law_made" (defArgs s_Lmade) (defBody s_Lmade) (defScope s_Lmade) .none kVLmade dcLmade pmLmade anLmade cdLmade ctLmade,
    F_Lmade := fun_mk (st := s_Lmade) l_Lmade c_Lmade k_Lmade,
    bd_Lmade := (fun_mk (st := s_Lmade) l_Lmade c_Lmade k_Lmade).binds (ps := ["_law_given", "_law_said", "_law_pairs_here"]) fun _ _ _ _ _ _ us hl => match us, hl with | [_, _, _], _ => rfl,
    mg_Lmade := PySem.W.mg_of X G a_Lmade,
    kp_Lmade := k_Lmade,
    f_law := fa,
    fd_law := PySem.W.fnOf "law" "law" (defArgs s_law) (defBody s_law) (defScope s_law) .none kVlaw dclaw pmlaw anlaw cdlaw ctlaw,
    F_law := fun_mk (st := s_law) l_law c_law k_law,
    X_NoWish := X_NoWish,
    mg_NoWish := PySem.W.mg_of X G g_NoWish,
    X_NearError := X_NearError,
    mg_NearError := PySem.W.mg_of X G g_NearError,
    f_NoWish_init := f_NoWish_init,
    fd_NoWish_init := PySem.W.ksFn "__init__" "NoWish.__init__" (defArgs s_NoWish_init) (defBody s_NoWish_init) (defScope s_NoWish_init) .none kVNoWish dcNoWish pmNoWish anNoWish (.ref cdaNoWish) ctNoWish ccNoWish,
    sup_NoWish := ⟨⟨ocNoWish, .none, kVNoWish, dcNoWish, pmNoWish, ctNoWish, clNoWish, cclNoWish, odNoWish, cldNoWish, cddNoWish, anNoWish, slNoWish, cslNoWish, ccsNoWish, ccNoWish, cdaNoWish, vsNoWish, tfNoWish, rfl, l_NoWish_init, c_NoWish_init, cz_NoWish, cv_NoWish, cc_NoWish⟩, ⟨⟨_, _, _, _, _, _, _, _, _, _, _, _, _, _, _, xL_NoWish, rfl⟩, sa_NoWish, y_sb_NoWish, y_ty_NoWish, kk_NoWish⟩, nsup, nopq, ss_NoWish, sv_NoWish, mr_NoWish⟩,
    bd_NoWish_init := .all fun us hl => match us, hl with | [_, _], _ => rfl,
    ii_NoWish := y_ii_NoWish,
    ti_NoWish := y_ti_NoWish,
    fo_NoWish := y_fo_NoWish,
    ec_NoWish := ⟨eg_NoWish, et_NoWish, y_sb_NoWish, ed_NoWish, ea_NoWish, en, ek, em_NoWish⟩,
    ki_NoWish_NearError := NW.kit_own ic_NearError y_ty_NearError su_NoWish_NearError (fun _ => rfl),
    xm_NoWish_NoWish := NW.exm_of y_sb_NoWish ic_NoWish y_ty_NoWish su_NoWish_NoWish
    } : Txt K mg))⟩
theorem walk {l : PySem.W.OpenLaw} {q : Program} {loose : List Str} {XP : (Str → Option Value) → Heap → Prop} {YP : World → Heap → Prop} {d : DefRec} {K : Params → PySem.W.Frag} (hn : l.most = some 63) (hdf : d.params.defaults = [])
    (hY : ∀ (w : World) (h : Heap), YP w h → (K w.params).In h)
    (F : ∀ (w : World) (mg : Str → Option Value) (fa : Addr) (h : Heap), (K w.params).In h → h.Ns mainGlobals mg → mg d.name = some (.ref fa) →
      ∃ fd : FuncData, (∀ (s : Shared) (u : Value), BindsTo s fd ⟨[u], []⟩ [("_law_script", u)]) ∧ ∀ base : Heap, (K w.params).In base → base.Ns mainGlobals mg → FnOk l.prog w (K w.params) mg base (L2.CX l.prog w) 7 fa fd ["_law_script"] (sp_law (K w.params))) :
    PySem.W.WalkO q loose XP YP l.row.toRowW d [] (fun f vs => PySem.call f vs) :=
  L2.walk_of (n := 63) (k := 7) (x := "_law_script") (CX := fun w => L2.CX l.prog w) (sp := fun w => sp_law (K w.params)) hn (by decide) hdf ⟨rfl, by decide, by decide⟩ hY F (fun _ _ a ns hl _ hS => law_takes a ns hl hS) fun w H s e s' z => by
    obtain ⟨_, _, _, _, _, _, _, _, _, _, _, _, hE⟩ := z
    exact hE
end K00
open PySem PySem.W PyProof.Rows
set_option maxRecDepth 100000 in
set_option maxHeartbeats 0 in
theorem PySem.Challenge.cw_nearwish_k00_which_values_make_a_wish_holds : PySem.Challenge.rw_nearwish_k00_which_values_make_a_wish.Holds := by
  w_on; o_law; k_head; (case hw => w_witness2)
  k_fill
  haveI : NW.SupP PySem.Challenge.rw_nearwish_k00_which_values_make_a_wish.prog := ⟨by decide +kernel, by decide +kernel⟩
  refine K00.walk (l := PySem.Challenge.rw_nearwish_k00_which_values_make_a_wish) rfl rfl (fun w h Y => PySem.W.kIn_of Y) ?F
  case F =>
    intro w mg fa h KX G hmg
    refine' K00.all_mk KX G hmg ?zb_ValueError ?zb_abs ?zb_all ?zb_int ?zb_isinstance ?zb_len ?zb_list ?zb_range ?zb_set ?zb_sorted ?zb_str ?zb_tuple ?g_GIVEN_LETTERS ?g_SAID_LETTERS ?g_MOST_GIVEN ?g_MOST_SAID ?pg_Wish ?hd_Wish ?po_Wish ?sa_Wish ?g_Wish ?y_oq_cl_Wish ?y_oq_gt_Wish ?y_oq_tk_Wish ?y_oq_mr_Wish ?nna_Wish_given ?nna_Wish_said ?nna_Wish_cells ?nna_Wish_allowed ?nna_Wish_pairs ?nna_Wish_kept ?a_are_letters ?l_are_letters ?c_are_letters ?k_are_letters ?a_are_different ?l_are_different ?c_are_different ?k_are_different ?a_is_pair ?l_is_pair ?c_is_pair ?k_is_pair ?a_are_pairs ?l_are_pairs ?c_are_pairs ?k_are_pairs ?a_Wish_init ?i_Wish_init ?l_Wish_init ?c_Wish_init ?k_Wish_init ?m_Wish ?kc_Wish ?a_Wishfill ?i_Wishfill ?l_Wishfill ?c_Wishfill ?k_Wishfill ?a_Wish_eq ?i_Wish_eq ?l_Wish_eq ?c_Wish_eq ?k_Wish_eq ?a_Wish_given ?i_Wish_given ?l_Wish_given ?c_Wish_given ?k_Wish_given ?a_Wish_said ?i_Wish_said ?l_Wish_said ?c_Wish_said ?k_Wish_said ?a_Wish_cells ?i_Wish_cells ?l_Wish_cells ?c_Wish_cells ?k_Wish_cells ?a_Wish_pairs ?i_Wish_pairs ?l_Wish_pairs ?c_Wish_pairs ?k_Wish_pairs ?a_Lhand ?l_Lhand ?c_Lhand ?k_Lhand ?a_Ldraw ?l_Ldraw ?c_Ldraw ?k_Ldraw ?a_Lletters ?l_Lletters ?c_Lletters ?k_Lletters ?a_Lcells ?l_Lcells ?c_Lcells ?k_Lcells ?a_Lfits ?l_Lfits ?c_Lfits ?k_Lfits ?a_Lpairs ?l_Lpairs ?c_Lpairs ?k_Lpairs ?a_Lvalue ?l_Lvalue ?c_Lvalue ?k_Lvalue ?a_Lspoiled_letters ?l_Lspoiled_letters ?c_Lspoiled_letters ?k_Lspoiled_letters ?a_Lspoiled_pair ?l_Lspoiled_pair ?c_Lspoiled_pair ?k_Lspoiled_pair ?a_Lspoiled_pairs ?l_Lspoiled_pairs ?c_Lspoiled_pairs ?k_Lspoiled_pairs ?a_Lis_choice ?l_Lis_choice ?c_Lis_choice ?k_Lis_choice ?a_Lare_pairs ?l_Lare_pairs ?c_Lare_pairs ?k_Lare_pairs ?a_Ldue ?l_Ldue ?c_Ldue ?k_Ldue ?a_Lmade ?l_Lmade ?c_Lmade ?k_Lmade ?a_law ?l_law ?c_law ?k_law ?g_NoWish ?g_NearError ?l_NoWish_init ?c_NoWish_init ?cz_NoWish ?cv_NoWish ?cc_NoWish ?xL_NoWish ?sa_NoWish ?y_sb_NoWish ?y_ty_NoWish ?kk_NoWish ?nsup ?nopq ?ss_NoWish ?sv_NoWish ?mr_NoWish ?y_ii_NoWish ?y_ti_NoWish ?y_fo_NoWish ?eg_NoWish ?et_NoWish ?ed_NoWish ?ea_NoWish ?en ?ek ?em_NoWish ?ic_NearError ?y_ty_NearError ?su_NoWish_NearError ?ic_NoWish ?su_NoWish_NoWish
    (case g_GIVEN_LETTERS => k_is)
    (case g_SAID_LETTERS => k_is)
    (case g_MOST_GIVEN => k_is)
    (case g_MOST_SAID => k_is)
    (case g_Wish => k_is)
    (case g_NoWish => k_is)
    (case g_NearError => k_is)
    (case y_ii_NoWish => k_is)
    (case a_are_letters => k_is)
    (case a_are_different => k_is)
    (case a_is_pair => k_is)
    (case a_are_pairs => k_is)
    (case a_Wish_init => k_is)
    (case a_Wishfill => k_is)
    (case a_Wish_eq => k_is)
    (case a_Wish_given => k_is)
    (case a_Wish_said => k_is)
    (case a_Wish_cells => k_is)
    (case a_Wish_pairs => k_is)
    (case a_Lhand => k_is)
    (case a_Ldraw => k_is)
    (case a_Lletters => k_is)
    (case a_Lcells => k_is)
    (case a_Lfits => k_is)
    (case a_Lpairs => k_is)
    (case a_Lvalue => k_is)
    (case a_Lspoiled_letters => k_is)
    (case a_Lspoiled_pair => k_is)
    (case a_Lspoiled_pairs => k_is)
    (case a_Lis_choice => k_is)
    (case a_Lare_pairs => k_is)
    (case a_Ldue => k_is)
    (case a_Lmade => k_is)
    (case a_law => k_is)
    (case zb_ValueError => k_is)
    (case zb_abs => k_is)
    (case zb_all => k_is)
    (case zb_int => k_is)
    (case zb_isinstance => k_is)
    (case zb_len => k_is)
    (case zb_list => k_is)
    (case zb_range => k_is)
    (case zb_set => k_is)
    (case zb_sorted => k_is)
    (case zb_str => k_is)
    (case zb_tuple => k_is)
    (case pg_Wish => k_is)
    (case hd_Wish => k_is)
    (case po_Wish => k_is)
    (case sa_Wish => k_is)
    (case y_oq_cl_Wish => k_is)
    (case y_oq_gt_Wish => k_is)
    (case y_oq_tk_Wish => k_is)
    (case y_oq_mr_Wish => k_is)
    (case nna_Wish_given => k_is)
    (case nna_Wish_said => k_is)
    (case nna_Wish_cells => k_is)
    (case nna_Wish_allowed => k_is)
    (case nna_Wish_pairs => k_is)
    (case nna_Wish_kept => k_is)
    (case l_are_letters => k_is)
    (case c_are_letters => k_is)
    (case k_are_letters => k_is)
    (case l_are_different => k_is)
    (case c_are_different => k_is)
    (case k_are_different => k_is)
    (case l_is_pair => k_is)
    (case c_is_pair => k_is)
    (case k_is_pair => k_is)
    (case l_are_pairs => k_is)
    (case c_are_pairs => k_is)
    (case k_are_pairs => k_is)
    (case i_Wish_init => k_is)
    (case l_Wish_init => k_is)
    (case c_Wish_init => k_is)
    (case k_Wish_init => k_is)
    (case m_Wish => k_is)
    (case kc_Wish => k_is)
    (case i_Wishfill => k_is)
    (case l_Wishfill => k_is)
    (case c_Wishfill => k_is)
    (case k_Wishfill => k_is)
    (case i_Wish_eq => k_is)
    (case l_Wish_eq => k_is)
    (case c_Wish_eq => k_is)
    (case k_Wish_eq => k_is)
    (case i_Wish_given => k_is)
    (case l_Wish_given => k_is)
    (case c_Wish_given => k_is)
    (case k_Wish_given => k_is)
    (case i_Wish_said => k_is)
    (case l_Wish_said => k_is)
    (case c_Wish_said => k_is)
    (case k_Wish_said => k_is)
    (case i_Wish_cells => k_is)
    (case l_Wish_cells => k_is)
    (case c_Wish_cells => k_is)
    (case k_Wish_cells => k_is)
    (case i_Wish_pairs => k_is)
    (case l_Wish_pairs => k_is)
    (case c_Wish_pairs => k_is)
    (case k_Wish_pairs => k_is)
    (case l_Lhand => k_is)
    (case c_Lhand => k_is)
    (case k_Lhand => k_is)
    (case l_Ldraw => k_is)
    (case c_Ldraw => k_is)
    (case k_Ldraw => k_is)
    (case l_Lletters => k_is)
    (case c_Lletters => k_is)
    (case k_Lletters => k_is)
    (case l_Lcells => k_is)
    (case c_Lcells => k_is)
    (case k_Lcells => k_is)
    (case l_Lfits => k_is)
    (case c_Lfits => k_is)
    (case k_Lfits => k_is)
    (case l_Lpairs => k_is)
    (case c_Lpairs => k_is)
    (case k_Lpairs => k_is)
    (case l_Lvalue => k_is)
    (case c_Lvalue => k_is)
    (case k_Lvalue => k_is)
    (case l_Lspoiled_letters => k_is)
    (case c_Lspoiled_letters => k_is)
    (case k_Lspoiled_letters => k_is)
    (case l_Lspoiled_pair => k_is)
    (case c_Lspoiled_pair => k_is)
    (case k_Lspoiled_pair => k_is)
    (case l_Lspoiled_pairs => k_is)
    (case c_Lspoiled_pairs => k_is)
    (case k_Lspoiled_pairs => k_is)
    (case l_Lis_choice => k_is)
    (case c_Lis_choice => k_is)
    (case k_Lis_choice => k_is)
    (case l_Lare_pairs => k_is)
    (case c_Lare_pairs => k_is)
    (case k_Lare_pairs => k_is)
    (case l_Ldue => k_is)
    (case c_Ldue => k_is)
    (case k_Ldue => k_is)
    (case l_Lmade => k_is)
    (case c_Lmade => k_is)
    (case k_Lmade => k_is)
    (case l_law => k_is)
    (case c_law => k_is)
    (case k_law => k_is)
    (case l_NoWish_init => k_is)
    (case c_NoWish_init => k_is)
    (case cz_NoWish => k_is)
    (case cv_NoWish => exact rfl)
    (case cc_NoWish => k_is)
    (case xL_NoWish => k_is)
    (case sa_NoWish => k_is)
    (case y_sb_NoWish => k_is)
    (case y_ty_NoWish => k_is)
    (case kk_NoWish => k_is)
    (case nsup => k_is)
    (case nopq => k_is)
    (case ss_NoWish => ks_is)
    (case sv_NoWish => k_is)
    (case mr_NoWish => k_is)
    (case y_ti_NoWish => k_is)
    (case y_fo_NoWish => k_is)
    (case eg_NoWish => k_is)
    (case et_NoWish => k_is)
    (case ed_NoWish => k_is)
    (case ea_NoWish => k_is)
    (case en => k_is)
    (case ek => k_is)
    (case em_NoWish => k_is)
    (case ic_NearError => k_is)
    (case y_ty_NearError => k_is)
    (case su_NoWish_NearError => first | rfl | k_is)
    (case ic_NoWish => k_is)
    (case su_NoWish_NoWish => first | rfl | k_is)
