import PyProof.Rows.All
import Wide.All
import OpenK.AllK
import Wide.FinOn
import HandS.ForMost
import HandS.Wide
import HandS.TupAny
import HandS.IsInst
import HandS.Flow
import HandS.Evl
import HandS.Walk
import HandS.ExcInit
import HandS.Nested
import HandS.FStr
import HandS.TryOnly
import HandS.TryMany
import HandS.ExcIs
import HandS.ExcField
import HandS.WordsExc
import HandS.RaiseMore
import KE.KExcSuper
import PyProof.StrOps2
import PyProof.Rows.ReprOcc
import PyProof.Rows.StrDigits
import PyProof.Rows.StrJoinMade
import HandS.ClsMeth
import HandS.Star
import HandS.Property
import HandS.New
import HandS.ExcOwn
import HandS.More
import HandS.Dict
import HandS.Small
import KE.KOpsOwn
import OpenK.KMeth
import KE.KExcIs
import PyProof.TwoTypes
import PyProof.AutoIntG3
import PyProof.FactsAll.int
import HandS.Defaults
import HandS.Text
import HandS.Strs
import HandS.Conv
import HandS.Finally
import PyProof.StrLawsRepr
import KE.KIntText
import KE.IntTextLaws
import HandS.TupSets
import KE.Datum
import HandS.MakeKwOnly
import HandS.IterVal
import KE.KOwnIter
import HandS.Iter
import KE.GoesMore
import KE.KRevSl
import KE.SortData
import KE.DataCmp
import HandS.SetKeys
import HandS.ListItems
import HandS.DictTup
import PyProof.DictMoreH
import HandS.TupMul
import KE.OsRunLaw
import HandS.Style
import PySem.Challenge.RW_elseput_k44_weavings_as_values
set_option Elab.async false
set_option linter.all false
set_option maxRecDepth 100000
/-! Own words over the hand layer: readings that compute on the values' shapes. -/
namespace El
open PySem PySem.Spec PyProof.Rows L2
section
variable {X : Cx}

theorem wk {e : Expr} {t t' : TE} (h : PE X e t) (i : ∀ σ H Q, t' σ H Q → t σ H Q) : PE X e t' :=
  ⟨fun pins s σ H Q I q => h.run pins s σ H Q I (i σ H Q q)⟩
theorem opwk {f : Value → Value → Sem Value} {r r' : R2} (h : OpR X f r) (i : ∀ x y H Q, r' x y H Q → r x y H Q) : OpR X f r' :=
  fun pins s σ H x y v u Q I rx ry q => h pins s σ H x y v u Q I rx ry (i x y H Q q)
theorem unwk {f : Value → Sem Value} {r r' : V → Hp → VK → Prop} (h : UnR X f r) (i : ∀ x H Q, r' x H Q → r x H Q) : UnR X f r' :=
  fun pins s σ H x v Q I rx q => h pins s σ H x v Q I rx (i x H Q q)
theorem cwk {f : Value} {r r' : List V → Hp → VK → Prop} (h : CallR X f r) (i : ∀ x H Q, r' x H Q → r x H Q) : CallR X f r' :=
  fun pins s σ H x v Q I rx q => h pins s σ H x v Q I rx (i x H Q q)
theorem ixwk {r r' : R2} (h : IxR X r) (i : ∀ x y H Q, r' x y H Q → r x y H Q) : IxR X r' :=
  fun a b pins s σ H x y v u Q I rx ry q => h a b pins s σ H x y v u Q I rx ry (i x y H Q q)
theorem slwk {r r' : V → Option Int → Option Int → Hp → VK → Prop} (h : SlR X r) (i : ∀ x a b H Q, r' x a b H Q → r x a b H Q) : SlR X r' :=
  fun pins s σ H x v vl vu lo hi sl Q I rx hs pl pu q => h pins s σ H x v vl vu lo hi sl Q I rx hs pl pu (i x lo hi H Q q)

/-! ### a name in its slot -/
def tV (i : Nat) : TE := fun σ H Q => match σ[i]? with | some (some v) => Q v H | _ => False
theorem v_ (i : Nat) {x : Str} {pos : Pos} (hN : X.N[i]? = some x := by rfl) (hv : Vis X.env.scope x := by first | exact Or.inl rfl | exact Or.inr (Or.inl rfl) | exact Or.inr (Or.inr rfl)) (hd : (x == ("__debug__" : Str)) = false := by decide)
    (hcd : (x == ("__classdict__" : Str)) = false := by decide) : PE X (.Name x pos) (tV i) :=
  wk (pv i hN hv hd hcd) fun σ H Q q => by
    unfold tV at q
    split at q
    · rename_i v e; exact ⟨v, e, q⟩
    · exact q.elim

/-! ### operators -/
def addM (K : PySem.W.Frag) : R2 := fun x y H Q => match x, y with
  | .int i, .int j => Q (.int (i + j)) H
  | .str i, .str j => i.length + j.length ≤ sizeLine ∧ Q (.str (i ++ j)) H
  | .ref a, .ref b => (∃ xs zs, H a = some (.lst xs) ∧ H b = some (.lst zs) ∧ xs.length + zs.length ≤ sizeLine ∧ ∀ p, H p = none → Q (.ref p) (upd H p (.lst (xs ++ zs)))) ∨ rCatT K (.ref a) (.ref b) H Q
  | _, _ => False
theorem op_addM : OpR X (binaryOp .Add) (addM X.K) := opwk (OpR.or op_add (OpR.or op_add_str (OpR.or op_cat op_catT))) fun x y H Q q => by
  unfold addM at q
  split at q
  · exact .inl ⟨_, _, rfl, rfl, q⟩
  · exact .inr (.inl ⟨_, _, rfl, rfl, q⟩)
  · rcases q with ⟨xs, zs, h1, h2, h3, h4⟩ | q
    · exact .inr (.inr (.inl ⟨_, _, xs, zs, rfl, rfl, h1, h2, h3, h4⟩))
    · exact .inr (.inr (.inr q))
  · exact q.elim
def subM : R2 := fun x y H Q => match x, y with
  | .int i, .int j => Q (.int (i - j)) H
  | _, _ => False
theorem op_subM : OpR X (binaryOp .Sub) subM := opwk op_sub fun x y H Q q => by
  unfold subM at q
  split at q
  · exact ⟨_, _, rfl, rfl, q⟩
  · exact q.elim
def mulM : R2 := fun x y H Q => match x, y with
  | .int i, .int j => (CMul i j ∨ CMulW i j) ∧ Q (.int (i * j)) H
  | .ref l, .int k => ∃ xs, H l = some (.lst xs) ∧ (-(2 ^ 63) ≤ k ∧ k < 2 ^ 63) ∧ xs.length * k.toNat ≤ sizeLine ∧ ∀ p, H p = none → Q (.ref p) (upd H p (.lst (List.replicate k.toNat xs).flatten))
  | _, _ => False
theorem op_mulM : OpR X (binaryOp .Mult) mulM := opwk (OpR.or op_mul (OpR.or op_mulW op_rep)) fun x y H Q q => by
  unfold mulM at q
  split at q
  · obtain ⟨h | h, q⟩ := q
    · exact .inl ⟨_, _, rfl, rfl, h, q⟩
    · exact .inr (.inl ⟨_, _, rfl, rfl, h, q⟩)
  · obtain ⟨xs, h1, h2, h3, h4⟩ := q
    exact .inr (.inr ⟨_, _, xs, rfl, rfl, h1, h2.1, h2.2, h3, h4⟩)
  · exact q.elim
def divM : R2 := fun x y H Q => match x, y with
  | .int i, .int j => (CDiv i j ∨ CDivW i j) ∧ Q (.int (i / j)) H
  | _, _ => False
theorem op_divM : OpR X (binaryOp .FloorDiv) divM := opwk (OpR.or op_fdiv op_fdivW) fun x y H Q q => by
  unfold divM at q
  split at q
  · obtain ⟨h | h, q⟩ := q
    · exact .inl ⟨_, _, rfl, rfl, h, q⟩
    · exact .inr ⟨_, _, rfl, rfl, h, q⟩
  · exact q.elim
def modM : R2 := fun x y H Q => match x, y with
  | .int i, .int j => 0 < j ∧ Q (.int (i % j)) H
  | _, _ => False
theorem op_modM : OpR X (binaryOp .Mod) modM := opwk op_mod fun x y H Q q => by
  unfold modM at q
  split at q
  · exact ⟨_, _, rfl, rfl, q.1, q.2⟩
  · exact q.elim
def powM : R2 := fun x y H Q => match x, y with
  | .int i, .int j => CPow i j ∧ Q (.int (i ^ j.toNat)) H
  | _, _ => False
theorem op_powM : OpR X (binaryOp .Pow) powM := opwk op_pow fun x y H Q q => by
  unfold powM at q
  split at q
  · exact ⟨_, _, rfl, rfl, q.1, q.2⟩
  · exact q.elim
def negM : V → Hp → VK → Prop := fun x H Q => match x with
  | .int i => Q (.int (-i)) H
  | _ => False
theorem un_negM : UnR X (unaryOp .USub) negM := unwk un_neg fun x H Q q => by
  unfold negM at q
  split at q
  · exact ⟨_, rfl, q⟩
  · exact q.elim

/-! ### comparisons -/
def cmpM (f : Int → Int → Bool) : R2 := fun x y H Q => match x, y with
  | .int i, .int j => Q (.bl (f i j)) H
  | _, _ => False
theorem cmpwk {f : Int → Int → Bool} {g : Value → Value → Sem Value} (h : OpR X g (rI0 fun i j => .bl (f i j))) : OpR X g (cmpM f) := opwk h fun x y H Q q => by
  unfold cmpM at q
  split at q
  · exact ⟨_, _, rfl, rfl, q⟩
  · exact q.elim
theorem op_ltM : OpR X (compareOp .Lt) (cmpM fun i j => decide (i < j)) := cmpwk op_lt
theorem op_leM : OpR X (compareOp .LtE) (cmpM fun i j => decide (i ≤ j)) := cmpwk op_le
theorem op_gtM : OpR X (compareOp .Gt) (cmpM fun i j => decide (j < i)) := cmpwk op_gt
theorem op_geM : OpR X (compareOp .GtE) (cmpM fun i j => decide (j ≤ i)) := cmpwk op_ge
/-- ==: of plain values by the values; else of data -/
def eqM (K : PySem.W.Frag) : R2 := fun x y H Q => match x, y with
  | .int i, .int j => Q (.bl (decide (i = j))) H
  | .str i, .str j => Q (.bl (decide (i = j))) H
  | .bl i, .bl j => Q (.bl (decide (i = j))) H
  | .non, .non => Q (.bl true) H
  | .non, .int _ => Q (.bl false) H
  | .int _, .non => Q (.bl false) H
  | .non, .str _ => Q (.bl false) H
  | .str _, .non => Q (.bl false) H
  | .non, .bl _ => Q (.bl false) H
  | .bl _, .non => Q (.bl false) H
  | .int _, .str _ => Q (.bl false) H
  | .str _, .int _ => Q (.bl false) H
  | .bl _, .str _ => Q (.bl false) H
  | .str _, .bl _ => Q (.bl false) H
  | x, y => rEqD K x y H Q
theorem op_eqM (hu : X.A.units + 64 < cLine) : OpR X (compareOp .Eq) (eqM X.K) := opwk (OpR.or op_eq (op_eqD hu)) fun x y H Q q => by
  unfold eqM at q
  split at q
  all_goals first
    | exact .inl ⟨rfl, by simpa using q⟩
    | exact .inr q
def neM (K : PySem.W.Frag) : R2 := fun x y H Q => match x, y with
  | .int i, .int j => Q (.bl (!decide (i = j))) H
  | .str i, .str j => Q (.bl (!decide (i = j))) H
  | .bl i, .bl j => Q (.bl (!decide (i = j))) H
  | .non, .non => Q (.bl false) H
  | .non, .int _ => Q (.bl true) H
  | .int _, .non => Q (.bl true) H
  | .non, .str _ => Q (.bl true) H
  | .str _, .non => Q (.bl true) H
  | .non, .bl _ => Q (.bl true) H
  | .bl _, .non => Q (.bl true) H
  | .int _, .str _ => Q (.bl true) H
  | .str _, .int _ => Q (.bl true) H
  | .bl _, .str _ => Q (.bl true) H
  | .str _, .bl _ => Q (.bl true) H
  | x, y => rNeD K x y H Q
theorem op_neM (hu : X.A.units + 64 < cLine) : OpR X (compareOp .NotEq) (neM X.K) := opwk (OpR.or op_ne (op_neD hu)) fun x y H Q q => by
  unfold neM at q
  split at q
  all_goals first
    | exact .inl ⟨rfl, by simpa using q⟩
    | exact .inr q
/-- is, is not: None, True, False -/
def isV (x y : V) : Bool := match x, y with
  | .non, .non => true
  | .bl a, .bl b => a == b
  | _, _ => false
def litV (y : V) : Bool := match y with | .non => true | .bl _ => true | _ => false
def isM : R2 := fun x y H Q => match litV y with | true => Q (.bl (isV x y)) H | false => False
def notM : R2 := fun x y H Q => match litV y with | true => Q (.bl (!isV x y)) H | false => False
theorem lit_cases {y : V} (h : litV y = true) : y = .non ∨ ∃ b, y = .bl b := by
  cases y with
  | non => exact .inl rfl
  | bl b => exact .inr ⟨b, rfl⟩
  | _ => exact absurd (show false = true from h) (by decide)
theorem is_other {A : Around} {E : Value → Shared → Prop} {M : Model} {x : V} {v : Value} {b : Bool} {s : Shared} {Q : Value → Shared → Prop} (rx : RelV x v) (h : Q (.bool (isV x (.bl b))) s) : wpAny M A (compareOp .Is v (.bool b)) Q E s := by
  cases x with
  | bl a =>
    cases rx
    by_cases e : a = b
    · subst e; exact wpAny_is_self rfl (by simpa [isV] using h)
    · exact wpAny_is_other rfl (fun z => e (Value.bool.inj z)) (by rw [show isV (.bl a) (.bl b) = false from beq_eq_false_iff_ne.mpr e] at h; exact h)
  | non => cases rx; exact wpAny_is_other rfl (by intro z; cases z) h
  | int i => obtain ⟨t, rfl⟩ := rx; exact wpAny_is_other rfl (by intro z; cases z) h
  | str i => obtain ⟨t, rfl⟩ := rx; exact wpAny_is_other rfl (by intro z; cases z) h
  | byt i => obtain ⟨t, rfl⟩ := rx; exact wpAny_is_other rfl (by intro z; cases z) h
  | flt i => obtain ⟨t, rfl⟩ := rx; exact wpAny_is_other rfl (by intro z; cases z) h
  | ref a => cases rx; exact wpAny_is_other rfl (by intro z; cases z) h
  | ty n => cases rx; exact wpAny_is_other rfl (by intro z; cases z) h
theorem isnot_other {A : Around} {E : Value → Shared → Prop} {M : Model} {x : V} {v : Value} {b : Bool} {s : Shared} {Q : Value → Shared → Prop} (rx : RelV x v) (h : Q (.bool (!isV x (.bl b))) s) : wpAny M A (compareOp .IsNot v (.bool b)) Q E s := by
  cases x with
  | bl a =>
    cases rx
    by_cases e : a = b
    · subst e; exact wpAny_isNot_self rfl (by simpa [isV] using h)
    · exact wpAny_isNot_other rfl (fun z => e (Value.bool.inj z)) (by rw [show isV (.bl a) (.bl b) = false from beq_eq_false_iff_ne.mpr e] at h; exact h)
  | non => cases rx; exact wpAny_isNot_other rfl (by intro z; cases z) h
  | int i => obtain ⟨t, rfl⟩ := rx; exact wpAny_isNot_other rfl (by intro z; cases z) h
  | str i => obtain ⟨t, rfl⟩ := rx; exact wpAny_isNot_other rfl (by intro z; cases z) h
  | byt i => obtain ⟨t, rfl⟩ := rx; exact wpAny_isNot_other rfl (by intro z; cases z) h
  | flt i => obtain ⟨t, rfl⟩ := rx; exact wpAny_isNot_other rfl (by intro z; cases z) h
  | ref a => cases rx; exact wpAny_isNot_other rfl (by intro z; cases z) h
  | ty n => cases rx; exact wpAny_isNot_other rfl (by intro z; cases z) h
theorem isV_non (x : V) : isV x .non = decide (x = .non) := by cases x <;> rfl
theorem op_isM : OpR X (compareOp .Is) isM := by
  intro pins s σ H x y v u Q I rx ry q
  unfold isM at q
  split at q
  · rename_i e
    rcases lit_cases e with rfl | ⟨b, rfl⟩
    · exact op_isN pins s σ H x .non v u Q I rx ry ⟨rfl, by rw [← isV_non]; exact q⟩
    · cases ry
      exact is_other rx ⟨.bl _, H, I, rfl, q⟩
  · exact q.elim
theorem op_isNotM : OpR X (compareOp .IsNot) notM := by
  intro pins s σ H x y v u Q I rx ry q
  unfold notM at q
  split at q
  · rename_i e
    rcases lit_cases e with rfl | ⟨b, rfl⟩
    · exact op_notN pins s σ H x .non v u Q I rx ry ⟨rfl, by rw [← isV_non]; exact q⟩
    · cases ry
      exact isnot_other rx ⟨.bl _, H, I, rfl, q⟩
  · exact q.elim
/-- in: a list or a tuple of plain things; a sign in a text -/
def inM (K : PySem.W.Frag) (neg : Bool) : R2 := fun x y H Q => match y with
  | .str z => ∃ c : Nat, x = .str ⟨#[c]⟩ ∧ Q (.bl (if neg then !decide (c ∈ z.cps.toList) else decide (c ∈ z.cps.toList))) H
  | .ref p => ∃ xs, (SqL K H p xs ∨ SqT K H p xs) ∧ flatV x = true ∧ xs.all flatV = true ∧ Q (.bl (if neg then !inV x xs else inV x xs)) H
  | _ => False
theorem op_inM : OpR X (compareOp .In) (inM X.K false) := opwk (OpR.or op_in_sign op_in_seq) fun x y H Q q => by
  unfold inM at q
  split at q
  · obtain ⟨c, e, q⟩ := q
    exact .inl ⟨c, _, e, rfl, q⟩
  · obtain ⟨xs, h1, h2, h3, q⟩ := q
    exact .inr ⟨_, xs, rfl, h1, h2, h3, q⟩
  · exact q.elim
theorem op_notInM : OpR X (compareOp .NotIn) (inM X.K true) := opwk (OpR.or op_notIn_sign op_notIn_seq) fun x y H Q q => by
  unfold inM at q
  split at q
  · obtain ⟨c, e, q⟩ := q
    exact .inl ⟨c, _, e, rfl, q⟩
  · obtain ⟨xs, h1, h2, h3, q⟩ := q
    exact .inr ⟨_, xs, rfl, h1, h2, h3, q⟩
  · exact q.elim

/-! ### tests -/
variable {a b : Expr} {rest : List Expr} {ta tb : TE} {pos : Pos}
def tTs (t : TE) : TT := fun σ H Q => t σ H fun x H' => match x with | .bl k => Q k H' | _ => False
theorem pt_c {op : CmpOp} {r : R2} (ho : OpR X (compareOp op) r) (ha : PE X a ta) (hb : PE X b tb) (hm : behindInMarks op b = false := by first | exact nomark _ | rfl) : PT X (.Compare a [op] [b] pos) (tTs (tOp r ta tb)) := by
  refine ⟨fun pins s σ H Q I h => ?_⟩
  refine wpAny_isTrue_Compare1 (thn (ha.run pins s σ H _ I h) fun v s1 ⟨x, H1, I1, r1, q1⟩ => thn (hb.run pins s1 σ H1 _ I1 q1) fun u s2 ⟨y, H2, I2, r2, q2⟩ =>
    thn (ho pins s2 σ H2 x y v u _ I2 r1 r2 q2) fun c s3 ⟨z, H3, I3, r3, q3⟩ => ?_) hm
  cases z with
  | bl k => cases r3; exact wpAny_truthy_bool ⟨H3, I3, q3⟩
  | _ => exact (show False from q3).elim
theorem pe_c {op : CmpOp} {r : R2} (ho : OpR X (compareOp op) r) (ha : PE X a ta) (hb : PE X b tb) (hm : behindInMarks op b = false := by first | exact nomark _ | rfl) : PE X (.Compare a [op] [b] pos) (tOp r ta tb) := pe_cmpR ho ha hb hm
/-- any value's truth -/
def tTr (K : PySem.W.Frag) (t : TE) : TT := fun σ H Q => t σ H fun x H' => match x with
  | .bl k => Q k H'
  | .non => Q false H'
  | .int i => Q (i != 0) H'
  | .str y => y.length ≤ sizeLine ∧ Q ((y.length : Int) != 0) H'
  | .ref p => (∃ xs, SqL K H' p xs ∧ Q (!xs.isEmpty) H') ∨ (∃ xs, SqT K H' p xs ∧ Q (!xs.isEmpty) H') ∨ ∃ kvs, H' p = some (.dK kvs) ∧ Q (!kvs.isEmpty) H'
  | _ => False
theorem pt_tr (ha : PE X a ta) (he : ∀ whole, isTrue a X.env whole = (do let v ← whole; standAt a.pos; holding [v] (truthy v)) := by intro _; rfl) : PT X a (tTr X.K ta) := by
  refine ⟨fun pins s σ H Q I h => ?_⟩
  refine isTrue_plain (thn (ha.run pins s σ H _ I h) fun v s1 ⟨x, H1, I1, r1, q1⟩ => tru_ok pins s1 σ H1 x v Q I1 r1 ?_) (he _)
  cases x with
  | bl k => exact ⟨k, rfl, q1⟩
  | non => exact ⟨false, rfl, q1⟩
  | int i => exact ⟨_, rfl, q1⟩
  | str y => exact ⟨_, ⟨q1.1, rfl⟩, q1.2⟩
  | ref p =>
    rcases (show (∃ xs, SqL X.K H1 p xs ∧ Q (!xs.isEmpty) H1) ∨ (∃ xs, SqT X.K H1 p xs ∧ Q (!xs.isEmpty) H1) ∨ ∃ kvs, H1 p = some (.dK kvs) ∧ Q (!kvs.isEmpty) H1 from q1) with ⟨xs, h, q⟩ | ⟨xs, h, q⟩ | ⟨xs, h, q⟩
    · exact ⟨_, .inl ⟨xs, h, rfl⟩, q⟩
    · exact ⟨_, .inr (.inl ⟨xs, h, rfl⟩), q⟩
    · exact ⟨_, .inr (.inr ⟨xs, h, rfl⟩), q⟩
  | _ => exact (show False from q1).elim
def tAndM (ta tb : TE) : TE := fun σ H Q => ta σ H fun x H1 => match x with | .bl c => (if c = true then tb σ H1 Q else Q (.bl false) H1) | _ => False
def tOrM (ta tb : TE) : TE := fun σ H Q => ta σ H fun x H1 => match x with | .bl c => (if c = true then Q (.bl true) H1 else tb σ H1 Q) | _ => False
def tNotM (ta : TE) : TE := fun σ H Q => ta σ H fun x H1 => match x with | .bl c => Q (.bl (!c)) H1 | _ => False
theorem pe_andM (ha : PE X a ta) (hb : PE X (.BoolOp .And (b :: rest) pos) tb) : PE X (.BoolOp .And (a :: b :: rest) pos) (tAndM ta tb) := by
  refine ⟨fun pins s σ H Q I h => ?_⟩
  refine BoolOp_and (thn (ha.run pins s σ H _ I h) fun v s1 ⟨x, H1, I1, r1, q1⟩ => ?_)
  cases x with
  | bl c =>
    cases r1
    refine wpAny_truthy_bool ?_
    cases c with
    | true => exact hb.run pins s1 σ H1 Q I1 q1
    | false => exact ⟨.bl false, H1, I1, rfl, q1⟩
  | _ => exact (show False from q1).elim
theorem pe_orM (ha : PE X a ta) (hb : PE X (.BoolOp .Or (b :: rest) pos) tb) : PE X (.BoolOp .Or (a :: b :: rest) pos) (tOrM ta tb) := by
  refine ⟨fun pins s σ H Q I h => ?_⟩
  refine BoolOp_or (thn (ha.run pins s σ H _ I h) fun v s1 ⟨x, H1, I1, r1, q1⟩ => ?_)
  cases x with
  | bl c =>
    cases r1
    refine wpAny_truthy_bool ?_
    cases c with
    | false => exact hb.run pins s1 σ H1 Q I1 q1
    | true => exact ⟨.bl true, H1, I1, rfl, q1⟩
  | _ => exact (show False from q1).elim
theorem pe_notM (ha : PE X a ta) : PE X (.UnaryOp .Not a pos) (tNotM ta) := by
  refine ⟨fun pins s σ H Q I h => ?_⟩
  refine UnaryOp_ (thn (ha.run pins s σ H _ I h) fun v s1 ⟨x, H1, I1, r1, q1⟩ => ?_)
  cases x with
  | bl c => cases r1; exact not_of (wpAny_truthy_bool ⟨.bl (!c), H1, I1, rfl, q1⟩)
  | _ => exact (show False from q1).elim

/-! ### subscripts, slices, calls of built-ins -/
def ixM (K : PySem.W.Frag) : R2 := fun x y H Q => match x, y with
  | .str z, .int i => z.length ≤ sizeLine ∧ ∃ c, atI z.cps.toList i = some c ∧ Q (.str ⟨#[c]⟩) H
  | .ref p, .int i => ∃ xs, (SqL K H p xs ∨ SqT K H p xs) ∧ ∃ v, atI xs i = some v ∧ Q v H
  | _, _ => False
theorem ix_M : IxR X (ixM X.K) := ixwk ix_seq fun x y H Q q => by
  unfold ixM at q
  split at q
  · obtain ⟨h, c, e, q⟩ := q
    exact .inr (.inr ⟨_, _, c, rfl, rfl, h, e, q⟩)
  · obtain ⟨xs, h | h, v, e, q⟩ := q
    · exact .inl ⟨_, xs, _, v, rfl, rfl, h, e, q⟩
    · exact .inr (.inl ⟨_, xs, _, v, rfl, rfl, h, e, q⟩)
  · exact q.elim
theorem e_ix (ha : PE X a ta) (hb : PE X b tb) (hs : PlainIx b := by intro _ _; rfl) : PE X (.Subscript a b pos) (tOp (ixM X.K) ta tb) := pe_ix ix_M ha hb hs
def slM (K : PySem.W.Frag) : V → Option Int → Option Int → Hp → VK → Prop := fun x lo hi H Q => match x with
  | .str z => z.length ≤ sizeLine ∧ Q (.str (cutS z lo hi)) H
  | .ref p => (∃ xs, SqL K H p xs ∧ ∀ q, H q = none → Q (.ref q) (upd H q (.lst (cutV xs lo hi)))) ∨ rSlT K (.ref p) lo hi H Q
  | _ => False
theorem sl_M : SlR X (slM X.K) := slwk (SlR.or sl_str (SlR.or sl_list sl_tup)) fun x lo hi H Q q => by
  unfold slM at q
  split at q
  · exact .inl ⟨_, rfl, q.1, q.2⟩
  · rcases q with ⟨xs, h, q⟩ | q
    · exact .inr (.inl ⟨_, xs, rfl, h, q⟩)
    · exact .inr (.inr q)
  · exact q.elim
def intM : List V → Hp → VK → Prop := fun xs H Q => match xs with
  | [.int i] => Q (.int i) H
  | [.bl k] => Q (.int (if k then 1 else 0)) H
  | [.str a] => ∃ n, PySem.intText? a = some n ∧ a.length ≤ 640 ∧ Q (.int n) H
  | _ => False
theorem call_intM : CallR X (.type "int") intM := cwk (CallR.or call_int1 call_int_str) fun xs H Q q => by
  unfold intM at q
  split at q
  · exact .inl (.inl ⟨_, rfl, q⟩)
  · exact .inl (.inr ⟨_, rfl, q⟩)
  · obtain ⟨n, h1, h2, q⟩ := q
    exact .inr ⟨_, n, rfl, h1, h2, q⟩
  · exact q.elim
def lenM (K : PySem.W.Frag) : List V → Hp → VK → Prop := fun xs H Q => match xs with
  | [.str z] => z.length ≤ sizeLine ∧ Q (.int z.length) H
  | [.ref p] => (∃ xs, (SqL K H p xs ∨ SqT K H p xs) ∧ Q (.int xs.length) H) ∨ ∃ kvs, H p = some (.dK kvs) ∧ Q (.int kvs.length) H
  | _ => False
theorem call_lenM : CallR X (.builtin "len") (lenM X.K) := cwk (CallR.or call_len_str (CallR.or call_len_seq call_lenD)) fun xs H Q q => by
  unfold lenM at q
  split at q
  · exact .inl ⟨_, rfl, q.1, q.2⟩
  · rcases q with ⟨xs, h, q⟩ | ⟨kvs, h, q⟩
    · exact .inr (.inl ⟨_, xs, rfl, h, q⟩)
    · exact .inr (.inr ⟨_, kvs, rfl, h, q⟩)
  · exact q.elim

/-! ### the same, the written part named -/
theorem addK (K : PySem.W.Frag) (h : X.K = K := by rfl) : OpR X (binaryOp .Add) (addM K) := h ▸ op_addM
theorem eqK (K : PySem.W.Frag) (hu : X.A.units + 64 < cLine) (h : X.K = K := by rfl) : OpR X (compareOp .Eq) (eqM K) := h ▸ op_eqM hu
theorem neK (K : PySem.W.Frag) (hu : X.A.units + 64 < cLine) (h : X.K = K := by rfl) : OpR X (compareOp .NotEq) (neM K) := h ▸ op_neM hu
theorem inK (K : PySem.W.Frag) (h : X.K = K := by rfl) : OpR X (compareOp .In) (inM K false) := h ▸ op_inM
theorem notInK (K : PySem.W.Frag) (h : X.K = K := by rfl) : OpR X (compareOp .NotIn) (inM K true) := h ▸ op_notInM
theorem pt_t (K : PySem.W.Frag) (ha : PE X a ta) (he : ∀ whole, isTrue a X.env whole = (do let v ← whole; standAt a.pos; holding [v] (truthy v)) := by intro _; rfl) (h : X.K = K := by rfl) : PT X a (tTr K ta) := h ▸ pt_tr ha he
theorem e_x (K : PySem.W.Frag) (ha : PE X a ta) (hb : PE X b tb) (hs : PlainIx b := by intro _ _; rfl) (h : X.K = K := by rfl) : PE X (.Subscript a b pos) (tOp (ixM K) ta tb) := h ▸ e_ix ha hb hs
theorem slK (K : PySem.W.Frag) (h : X.K = K := by rfl) : SlR X (slM K) := h ▸ sl_M
theorem lenK (K : PySem.W.Frag) (h : X.K = K := by rfl) : CallR X (.builtin "len") (lenM K) := h ▸ call_lenM
theorem listK (K : PySem.W.Frag) (h : X.K = K := by rfl) : CallR X (.type "list") (fun xs H Q => ∃ p ys, xs = [.ref p] ∧ (SqL K H p ys ∨ SqT K H p ys) ∧ ∀ l, H l = none → Q (.ref l) (upd H l (.lst ys))) := h ▸ call_list_of
theorem tupleK (K : PySem.W.Frag) (h : X.K = K := by rfl) : CallR X (.type "tuple") (fun xs H Q => ∃ p ys, xs = [.ref p] ∧ ((SqL K H p ys ∧ ∀ l, H l = none → Q (.ref l) (upd H l (.tup ys))) ∨ (SqT K H p ys ∧ Q (.ref p) H))) := h ▸ call_tuple_of
theorem isiK (K : PySem.W.Frag) (h : X.K = K := by rfl) : CallR X (.builtin "isinstance") (rIsi K) := h ▸ call_isi
theorem allK (K : PySem.W.Frag) (hc : X.calm = true) (h : X.K = K := by rfl) : CallR X (.builtin "all") (rAll K) := h ▸ cr_all hc
theorem anyK (K : PySem.W.Frag) (hc : X.calm = true) (h : X.K = K := by rfl) : CallR X (.builtin "any") (rAny K) := h ▸ cr_any hc
theorem sortedK (K : PySem.W.Frag) (h : X.K = K := by rfl) : CallR X (.builtin "sorted") (rSorted K) := h ▸ cr_sorted
theorem sumK (K : PySem.W.Frag) (hc : X.calm = true) (h : X.K = K := by rfl) : CallR X (.builtin "sum") (rSum K) := h ▸ cr_sum hc

/-! ### calls of own defs -/
structure Cal (P : Program) (w : World) (K : PySem.W.Frag) (mg : Str → Option Value) (base : Heap) (CX : CXT) (k : Nat) (x : Str) (f : Addr) (fd : FuncData) (ps : List Str) (sp : Sp) : Prop where
  G : FnOk P w K mg base CX k f fd ps sp
  b : Binds K fd ps []
  kp : PySem.W.keepIn K (.ref f) = true
  m : mg x = some (.ref f)
end
end El

set_option Elab.async false
set_option linter.all false
set_option maxRecDepth 100000
set_option maxHeartbeats 4000000
/-! Own words: an own exception's first row super().__init__(e), the rest of its __init__ by the layer. -/
namespace El
open PySem PySem.Spec PyProof.Rows L2 NdefX
abbrev supRow (p0 p1 p2 p3 p4 : Pos) (e1 : Expr) : Stmt := .Expr (.Call (.Attribute (.Call (.Name "super" p0) [] [] p1) "__init__" p2) [e1] [] p3) p4
abbrev supNF (name qual : Str) (params : Arguments) (body : List Stmt) (scope : Scope) (cc cda : Addr) : NF := ⟨name, qual, params, body, scope, [("__class__", cc)], cda⟩

theorem inv_unpin {X : Cx} {pins : List (Addr × Obj)} {σ : L2.St} {H : Hp} {s : Shared} (I : Inv X pins σ H s) : Inv X [] σ H s := I.pins_of fun p hp => absurd hp (by simp)

theorem fn_super {P : Program} {w : World} {K : PySem.W.Frag} {mg : Str → Option Value} {base : Heap} {CX : CXT} {k : Nat} {f cc cda D : Addr} {name qual : Str} {params : Arguments} {scope : Scope} {doc pm ct oc ccl cl : Value} {od cdd cld : Option Addr} {osl ccs csl : Array (Option Value)} {vs0 : Array Value} {file : Str} {tf : Tok} {cdD : ClassData}
    {N ps : List Str} {sp : Sp} {e1 : Expr} {rest : List Stmt} {p0 p1 p2 p3 p4 : Pos} {ar : Arg}
    (lk : K.lookup f = some ⟨oc, od, .func (PySem.W.fnX name qual params (supRow p0 p1 p2 p3 p4 e1 :: rest) scope [("__class__", cc)] .none .none doc pm none (.ref cda) ct), osl⟩)
    (hcd : PySem.W.codeIn K (.ref cda) qual = true) (S : NScope N ps ["__class__"] scope)
    (hcode : K.lookup cda = some ⟨ccl, cdd, .fields vs0, ccs⟩) (hvs : vs0[2]? = some (.str file tf)) (hfile : ((P.main.file : Str) == file) = true)
    (hcell : K.lookup cc = some ⟨cl, cld, .cell (some (.ref D)), csl⟩) (hD : PySem.W.clsIn K D = some cdD) (hsuper : mg "super" = none)
    (hop : PySem.W.nsIn K PySem.cStatics "thirdparty.any" = some none)
    (hp : (params.posonlyargs ++ params.args).head? = some ar) (hps : ps[0]? = some ar.arg)
    (hks : scope.names.lookup ("super" : Str) = some .globalImplicit) (htop : (P.main.scope.names.lookup ("super" : Str)).isSome = false)
    (hboot : bootBuiltins "super" = some (.type "super"))
    (len : ∀ vs H Q E, sp vs H Q E → vs.length = ps.length)
    (hbody : ∀ (A : Around) (outer : List Env) (s : Shared) (H : Hp) (vs : List V) (Q : VK) (E : XK), Room k (A.deeper (envF (supNF name qual params (supRow p0 p1 p2 p3 p4 e1 :: rest) scope cc cda) f s.heap.objs.size)) → sp vs H Q E →
      ∃ (a C : Addr) (ta : TA) (t : TS), vs[0]? = some (.ref a) ∧ H a = some (exo a C none) ∧ OexC K C ∧ PySem.W.mroIn K C (.ref D) = some true ∧ PySem.W.ks_superIn K C D "__init__" = some (some (.builtin "ValueError.__init__")) ∧ PySem.W.subIn K (.ref C) (.type "ValueError") = some true ∧
        PA (ncx CX P w K mg base N (supNF name qual params (supRow p0 p1 p2 p3 p4 e1 :: rest) scope cc cda) f A outer s H E) [e1] ta ∧
        PSs (ncx CX P w K mg base N (supNF name qual params (supRow p0 p1 p2 p3 p4 e1 :: rest) scope cc cda) f A outer s H E) rest t ∧
        ta (startF N vs [none]) H fun ws H1 => H1 a = some (exo a C none) ∧ ws.length ≤ 1000 ∧ t { nx := fun _ H' => Q .non H', rt := Q } (startF N vs [none]) H1)
    (hst : ∀ env : Env, starEach [e1] env = (false, eval e1 env) :: starEach [] env) {pl : Env → Sem Bool}
    (he : ∀ env : Env, eval (.Call (.Attribute (.Call (.Name "super" p0) [] [] p1) "__init__" p2) [e1] [] p3) env = (do
      let ov ← attributeBase (.Call (.Name "super" p0) [] [] p1) "__init__" env (eval (.Call (.Name "super" p0) [] [] p1) env)
      standAt p2.atName
      let (f, first) ← holding [ov] (getMethod ov "__init__" (pl env))
      callWith p3 f first (backTo p3 (starEach [e1] env)) []))
    (hsw : ∀ env : Env, swapsWith (.Call (.Attribute (.Call (.Name "super" p0) [] [] p1) "__init__" p2) [e1] [] p3) none p4.line env = pure false) :
    FnOk P w K mg base CX (k + 1) f (PySem.W.fnX name qual params (supRow p0 p1 p2 p3 p4 e1 :: rest) scope [("__class__", cc)] .none .none doc pm none (.ref cda) ct) ps sp := by
  refine ⟨len, fun A outer s H args us vs Q E hr e0 hb r hsp => ?_⟩
  have hl := len _ _ _ _ hsp
  have KX : K.In s.heap := e0.mod.kin.keeps fun b o e => (e0.bs b o e).1
  have lim : s.heap.NoLimit := e0.mod.nolimit.keeps fun b o e => (e0.bs b o e).1
  have hkc : scope.names.lookup ("__class__" : Str) = some .free := S.frk _ (List.mem_singleton.mpr rfl)
  refine PySem.ks_codeAny_call_defAt (fd := PySem.W.fnX name qual params (supRow p0 p1 p2 p3 p4 e1 :: rest) scope [("__class__", cc)] .none .none doc pm none (.ref cda) ct) (body := supRow p0 p1 p2 p3 p4 e1 :: rest) (binds := ps.zip us) hr.depth (KX _ _ lk) rfl lim
    (PySem.W.codeRec_of KX hcd) rfl hb S.nocell (fun ⟨n, _⟩ hy => S.par n (List.of_mem_zip hy).1) (fun h₁ hns kp => ?_) S.co S.gen S.kind
  obtain ⟨a, C, ta, t, hv0, hexo, TC, hmro, hsup, hsubV, hPA, hPS, hq⟩ := hbody A outer s H vs Q E (hr.deeper _) hsp
  have bcc : base.get? cc = some ⟨cl, cld, .cell (some (.ref D)), csl⟩ := e0.mod.kin _ _ hcell
  have CC : CellsAt [(("__class__" : Str), cc)] ["__class__"] [none] s.heap H := by
    refine ⟨rfl, fun y c e => ?_, fun x y c e1 e2 => ?_, fun i y hi => ?_⟩
    · have : c = cc := by
        simp only [List.lookup] at e
        split at e
        · exact (Option.some.inj e).symm
        · cases e
      subst this
      exact ⟨(e0.bs _ _ bcc).2, _, _, KX _ _ hcell, rfl⟩
    · simp only [List.lookup] at e1 e2
      split at e1
      · rename_i h1
        split at e2
        · rename_i h2
          rw [beq_iff_eq] at h1 h2
          rw [h1, h2]
        · cases e2
      · cases e1
    · have : i = 0 ∧ y = "__class__" := by
        cases i with
        | zero => simp at hi; exact ⟨rfl, hi.symm⟩
        | succ i => simp at hi
      obtain ⟨rfl, rfl⟩ := this
      exact ⟨cc, by simp [List.lookup], fun v hv => by simp at hv⟩
  have I : Inv (ncx CX P w K mg base N (supNF name qual params (supRow p0 p1 p2 p3 p4 e1 :: rest) scope cc cda) f A outer s H E) [] (startF N vs [none]) H { s with heap := h₁, toks := s.toks + (ps.zip us).length } :=
    inv_startN (F := supNF name qual params (supRow p0 p1 p2 p3 p4 e1 :: rest) scope cc cda) S hr.hd e0 hl r CC hns kp
  have KX1 : K.In h₁ := fun b o e => kp b o (KX b o e)
  obtain ⟨oD, hD1, hD2⟩ : ∃ oD, h₁.get? D = some oD ∧ oD.data = .cls cdD := by
    unfold PySem.W.clsIn at hD
    split at hD
    · rename_i c d cd' sl ho
      cases hD
      exact ⟨_, KX1 _ _ ho, rfl⟩
    · cases hD
  have ndP : ps.Nodup := by
    have q := S.nd.sublist (List.take_sublist (ps.length + 1) N)
    rw [show N.take (ps.length + 1) = ps ++ [("__class__" : Str)] from S.pre] at q
    exact (List.nodup_append.mp q).1
  obtain ⟨u0, hu0, ru0⟩ := r.get hv0
  obtain rfl : u0 = Value.ref a := ru0
  obtain ⟨t1, hga⟩ := exo_at I.hok hexo
  have hint : interactive (envF (supNF name qual params (supRow p0 p1 p2 p3 p4 e1 :: rest) scope cc cda) f s.heap.objs.size) = false := by
    have hk := S.kind
    unfold interactive
    simp [Env.blockKind, hk]
  refine PySem.ks_wpAt_execs_cons (PySem.ks_wpAt_Expr_any (PySem.ks_wpAt_MethodCall (PySem.ks_wpAt_super_base (ar := ar) hks hkc (by decide +kernel) rfl (KX1 _ _ lk) rfl hp rfl (KX1 _ _ hcode) rfl hvs hfile htop ?_) (he _)) hint (hsw _))
  obtain ⟨mb, hb1, hb2⟩ := e0.mod.blt
  have kb : ∀ b o, base.get? b = some o → h₁.get? b = some o := fun b o e => kp b o (e0.bs b o e).1
  refine PySem.W.ks_loadName_global S.kind hks (Calls.loadGlobal_builtin (e0.mod.glob.keeps kb) hsuper (hb1.keeps kb) ((hb2 _ (by decide)).trans hboot) ⟨rfl, ?_⟩)
  refine wpAny_loadName_free S.kind hkc rfl ⟨_, KX1 _ _ hcell, rfl⟩ ?_
  refine wpAny_loadName_local S.kind (S.par _ (List.mem_of_getElem? hps)) hns (zip_look ndP hps hu0) ?_
  refine PySem.ks_wpAny_isType_cls hD1 hD2 ⟨rfl, ?_⟩
  refine PySem.ks_wpAny_call_super hD1 hD2 hga rfl (fun c e => by cases e) (PySem.W.looks_mroIn KX1 hmro) (fun h2 eso k2 => ?_)
  have I2 : Inv (ncx CX P w K mg base N (supNF name qual params (supRow p0 p1 p2 p3 p4 e1 :: rest) scope cc cda) f A outer s H E) [] (startF N vs [none]) H { s with heap := h2, toks := s.toks + (ps.zip us).length } := I.kept k2
  have KX2 : K.In h2 := fun b o e => k2 b o (KX1 b o e)
  cases hcC : PySem.W.clsIn K C with
  | none => unfold PySem.W.ks_superIn at hsup; rw [hcC] at hsup; cases hsup
  | some cd =>
  unfold PySem.W.ks_superIn at hsup
  rw [hcC] at hsup
  have hga2 := k2 _ _ hga
  have INS : PySem.W.InstAt h2 a { cls := .ref C, dict := none, data := .fields #[.ref t1, .none, .none, .none, .bool false, .none] } C none := ⟨hga2, rfl, rfl, trivial⟩
  have hI : PySem.W.Looks (model P w) h2 (isInstance (.ref a) (.type "ValueError")) true := INS.type.andThen (PySem.W.looks_subIn KX2 hsubV)
  refine PySem.W.kxs_getMethod PySem.W.kxs_ValueError eso (PySem.W.looks_opaque KX2 hop) (l₀ := cd.mro) (fun A Q E s k q => wpAny_bind ((PySem.W.looks_clsIn KX2 hcC) A _ E s k (wpAny_pure q))) rfl KX2 hsup hI (PySem.W.ks_ne KX2 INS hcC) (by decide +kernel) ?_
  have I3 : Inv (ncx CX P w K mg base N (supNF name qual params (supRow p0 p1 p2 p3 p4 e1 :: rest) scope cc cda) f A outer s H E) [] (startF N vs [none]) H { s with heap := h2.push (PySem.W.kxs_mw "ValueError.__init__" a), toks := s.toks + (ps.zip us).length + 1 } := I2.kept fun b o e => Heap.get?_push_of_some _ e
  have hu : (h2.push (PySem.W.kxs_mw "ValueError.__init__" a)).get? h2.objs.size = some (PySem.W.kxs_mw "ValueError.__init__" a) := Heap.get?_push_at rfl rfl
  have hfree : H h2.objs.size = none := I2.hok.fresh (Nat.le_refl _)
  have I4 : Inv (ncx CX P w K mg base N (supNF name qual params (supRow p0 p1 p2 p3 p4 e1 :: rest) scope cc cda) f A outer s H E) [(h2.objs.size, PySem.W.kxs_mw "ValueError.__init__" a)] (startF N vs [none]) H { s with heap := h2.push (PySem.W.kxs_mw "ValueError.__init__" a), toks := s.toks + (ps.zip us).length + 1 } :=
    I3.pins_of fun p hp => by
      obtain rfl := List.mem_singleton.mp hp
      exact ⟨hu, hfree, fun z => absurd I2.lt (by rw [← z]; exact Nat.lt_irrefl _), I2.nofs (Nat.le_refl _), fun v z => by cases z⟩
  show wpAny _ _ (callWith p3 (.ref h2.objs.size) [] (backTo p3 (starEach [e1] _)) []) _ _ _
  rw [hst]
  refine PySem.W.kxs_callWith (i := "ValueError.__init__") (x := a) rfl (Calls.evalArgs_plain ?_)
  have hrun := hPA.run p3 _ _ _ _ _ I4 hq
  rw [hst] at hrun
  refine thn hrun fun us' s4 ⟨ws, H1, I5, r5, hexo1, hws, hq1⟩ => ?_
  have hu5 : s4.heap.get? h2.objs.size = some (PySem.W.kxs_mw "ValueError.__init__" a) := (I5.pin (h2.objs.size, PySem.W.kxs_mw "ValueError.__init__" a) (List.mem_append_right _ (List.mem_singleton.mpr rfl))).1
  refine ⟨hu5, ?_⟩
  obtain ⟨nm, q9, N9, bs, bm, sn, sub, ab, col, dd, k0, k1, k2', k3, k5, hC, hbm⟩ := TC.cls
  obtain ⟨t2, hga5⟩ := exo_at I5.hok hexo1
  have hC5 := I5.kIn _ _ hC
  have hus : us'.length ≤ sizeLine := by
    rw [← Paired.length r5, sizeLine_eq]
    omega
  obtain ⟨h5, g5, d5, tk5, os5⟩ := s4
  show wpAny _ _ (call (.ref h2.objs.size) ([] ++ us')) _ _ _
  rw [List.nil_append]
  refine wpAny_call (codeAny_of_tree ?_)
  show wpAny _ _ (callAny (.ref h2.objs.size) ⟨us', []⟩) _ _ _
  simp only [callAny]
  refine wpAny_bind (wpAny_load hu5 ?_)
  simp only [PySem.W.kxs_mw, show (Value.type "method-wrapper" == Value.type "method" || Value.type "method-wrapper" == Value.type "builtin_function_or_method" || Value.type "method-wrapper" == Value.type "method-wrapper") = true by decide, if_true]
  refine PySem.W.KFB.if_so (by decide) ?_
  refine wpAny_bind (PySem.W.check_bound_init PySem.F.excBase_ValueError.toExcCallFacts hC5 hga5 rfl ?_)
  refine wpAny_bind (wpAny_pure (wpAny_pure ?_))
  refine ⟨plainId_quiet PySem.F.excBase_ValueError.init.plain _, codeAny_builtin PySem.F.excBase_ValueError.initEntry ?_⟩
  refine PySem.W.exc_init_tree (cls := .ref C) (t0 := t2) (dv := none) (c2 := .none) (c3 := .none) (b4 := .bool false) hga5 hus (fun h6 k6 e6 _ => ?_)
  have J := I5.write (t' := tk5) (x := a) (e := a) (o := exo a C none) (by rw [hexo1]; exact True.intro) (.inl rfl) k6 ⟨_, e6⟩ (exo_ok e6)
  have eu : upd H1 a (exo a C none) = H1 := by
    funext b
    by_cases hb : b = a
    · rw [hb, upd_same, hexo1]
    · rw [upd_ne hb]
  rw [eu] at J
  have J0 := inv_unpin J
  refine wpAt_of_wpAny ?_
  refine wpAny_mono (hPS.run [] _ _ H1 _ J0 hq1) (fun fl s' hs => ?_) fun e s' hs => hs
  have fin : ∀ {σ' : L2.St} {H' : Hp} {v : V} {u : Value}, Inv (ncx CX P w K mg base N (supNF name qual params (supRow p0 p1 p2 p3 p4 e1 :: rest) scope cc cda) f A outer s H E) [] σ' H' s' → L2.RelV v u → Q v H' → CE outer P w H s Q u s' :=
    fun {σ' H' v u} J rv q => ⟨v, H', J.os, J.bare, J.base, J.hok, rv, q⟩
  cases fl with
  | ret u =>
    obtain ⟨v, σ', H', J, rv, q⟩ := hs
    exact fin J rv q
  | next =>
    obtain ⟨σ', H', J, q⟩ := hs
    exact fin (v := V.non) (u := Value.none) J rfl q
  | brk =>
    obtain ⟨_, _, _, q⟩ := hs
    exact False.elim q
  | cont =>
    obtain ⟨_, _, _, q⟩ := hs
    exact False.elim q
end El

set_option Elab.async false
set_option linter.all false
set_option maxRecDepth 100000
/-! Own words: a text times an int, the text of an int. -/
namespace El
open PySem PySem.Spec PyProof.Rows L2
def repS (z : Str) (k : Int) : Str := if k < 1 then Str.empty else if (k == 1 || z.length == 0) = true then z else ⟨(List.replicate k.toNat z.cps).foldl (· ++ ·) #[]⟩
theorem foldl_cps : ∀ (n : Nat) (a b : Array Nat), ((List.replicate n b).foldl (· ++ ·) a).toList = a.toList ++ (List.replicate n b.toList).flatten
  | 0, a, b => by simp
  | n + 1, a, b => by
    rw [List.replicate_succ, List.foldl_cons, foldl_cps n, Array.toList_append, List.replicate_succ, List.flatten_cons, List.append_assoc]
theorem repS_cps (z : Str) (k : Int) : (repS z k).cps.toList = (List.replicate k.toNat z.cps.toList).flatten := by
  unfold repS
  split
  · rename_i h
    rw [show k.toNat = 0 by omega]
    rfl
  · split
    · rename_i h1 h
      rw [Bool.or_eq_true, beq_iff_eq, beq_iff_eq] at h
      rcases h with h | h
      · subst h
        simp
      · have : z.cps.toList = [] := List.eq_nil_of_length_eq_zero (by rw [Array.length_toList]; exact h)
        rw [this]
        simp
    · rw [foldl_cps]
      rfl
theorem repS1 {c : Nat} {k : Int} : (repS ⟨#[c]⟩ k).cps.toList = List.replicate k.toNat c := by
  rw [repS_cps]
  simp
theorem op_mulS {X : Cx} : OpR X (binaryOp .Mult) (fun x y H Q => ∃ (z : Str) (k : Int), x = .str z ∧ y = .int k ∧ k ≤ 1000 ∧ -1000 ≤ k ∧ z.length ≤ 1000 ∧ Q (.str (repS z k)) H) := by
  intro pins s σ H x y v u Q I rx ry h
  obtain ⟨z, k, rfl, rfl, h1, h2, h3, q⟩ := h
  obtain ⟨t, rfl⟩ := rx
  obtain ⟨t', rfl⟩ := ry
  have e : (2 : Int) ^ 63 = 9223372036854775808 := by decide
  refine PySem.P.mul_str ?_ (fun n1 n2 => ?_) (fun n1 n2 => ?_) ?_
  · rw [e, decide_eq_false (by omega), decide_eq_false (by omega)]
    rfl
  · rw [e]
    have : ((9223372036854775808 : Int) - 1) / 1000 ≤ (9223372036854775808 - 1) / k := by
      refine Int.le_ediv_of_mul_le (by omega) ?_
      have : (9223372036854775808 - 1) / 1000 * k ≤ (9223372036854775808 - 1) / 1000 * 1000 := Int.mul_le_mul_of_nonneg_left h1 (by decide)
      refine Int.le_trans this (by decide)
    have : (1000 : Int) ≤ (9223372036854775808 - 1) / 1000 := by decide
    omega
  · have : z.length * k.toNat ≤ 1000 * 1000 := Nat.mul_le_mul h3 (by omega)
    show decide _ = false
    refine decide_eq_false ?_
    rw [sizeLine_eq]
    omega
  · unfold repS at q
    split
    · rename_i c
      rw [if_pos c] at q
      exact ⟨by decide, .str _, H, I.tok _, ⟨_, rfl⟩, q⟩
    · rename_i c
      rw [if_neg c] at q
      split
      · rename_i c2
        rw [if_pos c2] at q
        exact ⟨.str _, H, I, ⟨_, rfl⟩, q⟩
      · rename_i c2
        rw [if_neg c2] at q
        refine ⟨?_, .str _, H, I.tok _, ⟨_, rfl⟩, q⟩
        have e2 := foldl_cps k.toNat #[] z.cps
        have e3 : ((List.replicate k.toNat z.cps).foldl (· ++ ·) #[]).size = k.toNat * z.length := by
          rw [← Array.length_toList, e2, List.length_append]
          simp
          rfl
        show ((List.replicate k.toNat z.cps).foldl (· ++ ·) #[]).size ≤ sizeLine
        rw [e3, sizeLine_eq]
        have : k.toNat * z.length ≤ 1000 * 1000 := Nat.mul_le_mul (by omega) h3
        omega
/-- times, of texts too -/
def mulSM : R2 := fun x y H Q => match x, y with
  | .str z, .int k => k ≤ 1000 ∧ -1000 ≤ k ∧ z.length ≤ 1000 ∧ Q (.str (repS z k)) H
  | _, _ => mulM x y H Q
theorem op_mulSM {X : Cx} : OpR X (binaryOp .Mult) mulSM := opwk (OpR.or op_mulS op_mulM) fun x y H Q q => by
  unfold mulSM at q
  split at q
  · exact .inl ⟨_, _, rfl, rfl, q⟩
  · exact .inr q
/-- the signs of a number's text -/
theorem int_digits {i : Int} (h : 0 ≤ i) : ∀ c ∈ ((toString i : String) : Str).cps.toList, 48 ≤ c ∧ c ≤ 57 := by
  intro c hm
  by_cases hk : c ≠ 45 ∧ (c < 48 ∨ 57 < c)
  · exact absurd hm (int_text_free' c hk i)
  · by_cases h45 : c = 45
    · exfalso
      subst h45
      obtain ⟨n, rfl⟩ := Int.eq_ofNat_of_zero_le h
      rw [signs_ofString] at hm
      obtain ⟨ch, hc, e⟩ := List.mem_map.mp hm
      have hd : ch.isDigit = true := by
        have : ch ∈ (Nat.repr n).toList := hc
        exact Nat.isDigit_of_mem_toDigits (b := 10) (n := n) (by decide) (by decide) (by simpa [Nat.repr] using this)
      have := digit_range hd
      omega
    · omega
theorem int_text_ne (i : Int) : ((toString i : String) : Str).cps.toList ≠ [] := by
  rw [signs_ofString]
  intro h
  have h := List.map_eq_nil_iff.mp h
  have nn : ∀ n : Nat, (Nat.repr n).toList ≠ [] := fun n e => by
    have : Nat.toDigits 10 n = [] := by simpa [Nat.repr] using e
    exact Nat.toDigits_ne_nil this
  cases i with
  | ofNat n => exact nn n h
  | negSucc n =>
    have : ("-" ++ Nat.repr (n + 1)).toList = [] := h
    simp at this
end El

set_option Elab.async false
set_option linter.all false
set_option maxRecDepth 100000
set_option maxHeartbeats 4000000
/-! Own words: operators of own classes, static methods. -/
namespace El
open PySem PySem.Spec PyProof.Rows L2
theorem cmpBack_of {X : Cx} {pins : List (Addr × Obj)} {σ : L2.St} {Q : VK} {u : Value} {s' : Shared} (h : EP X pins σ Q u s') : PySem.W.CmpBack (EP X pins σ Q) u s' := by
  obtain ⟨v, H', I, r, q⟩ := id h
  cases v with
  | non => cases (show u = Value.none from r); exact h
  | bl b => cases (show u = Value.bool b from r); exact h
  | int i => obtain ⟨t, e⟩ := (show ∃ t, u = Value.int i t from r); subst e; exact h
  | str i => obtain ⟨t, e⟩ := (show ∃ t, u = Value.str i t from r); subst e; exact h
  | byt i => obtain ⟨t, e⟩ := (show ∃ t, u = Value.bytes i t from r); subst e; exact h
  | flt i => obtain ⟨t, e⟩ := (show ∃ t, u = Value.float i t from r); subst e; exact h
  | ref a => cases (show u = Value.ref a from r); exact h
  | ty n => cases (show u = Value.type n from r); exact h
/-- an own class's method for an operator -/
structure OpC (K : PySem.W.Frag) (C f : Addr) (op : Operator) : Prop where
  sf : PySem.W.selfFirst K C = true
  at_ : PySem.W.findIn K (.ref C) (PySem.dunder op.info.2) = some (some (.ref f))
  fn : PySem.W.isFn K (.ref f) = true
/-- .. with a value of the built-in type T on the right -/
structure OpT (K : PySem.W.Frag) (C f : Addr) (op : Operator) (T : String) : Prop where
  c : OpC K C f op
  hr : ∃ rc, PySem.W.findIn K (.ref C) (PySem.dunderR op.info.2) = some rc ∧ (rc = none ∨ ∃ g : Addr, rc = some (.ref g))
  h1 : ∃ fo, PySem.W.findIn K (.type T) (PySem.dunder op.info.2) = some fo
  h2 : ∃ ro, PySem.W.findIn K (.type T) (PySem.dunderR op.info.2) = some ro
  sub : PySem.W.subIn K (.type T) (.ref C) = some false
structure InvC (K : PySem.W.Frag) (C f : Addr) : Prop where
  at_ : PySem.W.findIn K (.ref C) "__invert__" = some (some (.ref f))
  fn : PySem.W.isFn K (.ref f) = true
section
variable {X : Cx} {CX : CXT} {k : Nat} {C f : Addr} {fd : FuncData} {ps : List Str} {sp : Sp} {E : XK} {op : Operator}
/-- a op b, both of the class at C -/
def rOwn (C : Addr) (sp : Sp) (E : XK) : R2 := fun x y H Q => ∃ a b dx fs dy gs, x = .ref a ∧ y = .ref b ∧ H a = some (.ins C dx fs) ∧ H b = some (.ins C dy gs) ∧ sp [.ref a, .ref b] H Q E
theorem op_own (c : OpC X.K C f op) (F : FnOk X.prog X.w X.K X.mg X.base CX k f fd ps sp) (hr : Room k X.A) (hb : Binds X.K fd ps []) (hx : Passes CX X E) : OpR X (binaryOp op) (rOwn C sp E) := by
  intro pins s σ H x y v u Q I rx ry h
  obtain ⟨a, b, dx, fs, dy, gs, rfl, rfl, ea, eb, q⟩ := h
  obtain rfl : v = Value.ref a := rx
  obtain rfl : u = Value.ref b := ry
  obtain ⟨m, fr⟩ := I.fr
  obtain ⟨mA, O, _⟩ := ins_get I.hok ea
  obtain ⟨od, J, _⟩ := O.look
  obtain ⟨mB, O2, _⟩ := ins_get I.hok eb
  obtain ⟨od2, J2, _⟩ := O2.look
  refine PySem.W.binop_K fr I.ok.mod.kin J J2.type c.sf c.at_ c.fn ?_
  refine wpAny_mono (run_fn (us := [.ref a, .ref b]) (vs := [.ref a, .ref b]) (ds := []) (dvs := []) F hr hb .nil hx I (.cons rfl (.cons rfl .nil)) q) (fun u' s' h' => cmpBack_of h') fun _ _ z => z
/-- a op n, n an int -/
def rOwnI (C : Addr) (sp : Sp) (E : XK) : R2 := fun x y H Q => ∃ a dx fs i, x = .ref a ∧ y = .int i ∧ H a = some (.ins C dx fs) ∧ sp [.ref a, .int i] H Q E
theorem op_ownI (c : OpT X.K C f op "int") (F : FnOk X.prog X.w X.K X.mg X.base CX k f fd ps sp) (hr : Room k X.A) (hb : Binds X.K fd ps []) (hx : Passes CX X E) : OpR X (binaryOp op) (rOwnI C sp E) := by
  intro pins s σ H x y v u Q I rx ry h
  obtain ⟨a, dx, fs, i, rfl, rfl, ea, q⟩ := h
  obtain rfl : v = Value.ref a := rx
  obtain ⟨t, rfl⟩ := ry
  obtain ⟨m, fr⟩ := I.fr
  obtain ⟨mA, O, _⟩ := ins_get I.hok ea
  obtain ⟨od, J, _⟩ := O.look
  obtain ⟨rc, hr1, hr2⟩ := c.hr
  obtain ⟨fo, h1⟩ := c.h1
  obtain ⟨ro, h2⟩ := c.h2
  refine PySem.W.ksp_binT fr I.ok.mod.kin J (T := "int") rfl c.c.sf c.c.at_ c.c.fn hr1 hr2 h1 h2 c.sub ?_
  refine wpAny_mono (run_fn (us := [.ref a, .int i t]) (vs := [.ref a, .int i]) (ds := []) (dvs := []) F hr hb .nil hx I (.cons rfl (.cons ⟨t, rfl⟩ .nil)) q) (fun u' s' h' => cmpBack_of h') fun _ _ z => z
/-- ~a -/
theorem un_own (c : InvC X.K C f) (F : FnOk X.prog X.w X.K X.mg X.base CX k f fd ps sp) (hr : Room k X.A) (hb : Binds X.K fd ps []) (hx : Passes CX X E) : UnR X (unaryOp .Invert) (fun x H Q => ∃ a dx fs, x = .ref a ∧ H a = some (.ins C dx fs) ∧ sp [.ref a] H Q E) := by
  intro pins s σ H x v Q I rx h
  obtain ⟨a, dx, fs, rfl, ea, q⟩ := h
  obtain rfl : v = Value.ref a := rx
  obtain ⟨m, fr⟩ := I.fr
  obtain ⟨mA, O, _⟩ := ins_get I.hok ea
  obtain ⟨od, J, _⟩ := O.look
  exact PySem.W.ksp_inv fr I.ok.mod.kin J c.at_ c.fn (run_fn (us := [.ref a]) (vs := [.ref a]) (ds := []) (dvs := []) F hr hb .nil hx I (.cons rfl .nil) q)
end

section
variable {X : Cx} {CX : CXT} {k : Nat} {C f : Addr} {fd : FuncData} {ps : List Str} {sp : Sp} {E : L2.St → XK} {op : Operator} {a b : Expr} {ta tb : TE} {pos : Pos}
/-- .. what it lets out being taken where it stands -/
def tOwnS (C : Addr) (sp : Sp) (E : L2.St → XK) (ta tb : TE) : TE := fun σ H Q => ta σ H fun x H1 => tb σ H1 fun y H2 => ∃ a b dx fs dy gs, x = .ref a ∧ y = .ref b ∧ H2 a = some (.ins C dx fs) ∧ H2 b = some (.ins C dy gs) ∧ sp [.ref a, .ref b] H2 Q (E σ)
theorem pe_bopS (c : OpC X.K C f op) (F : FnOk X.prog X.w X.K X.mg X.base CX k f fd ps sp) (hr : Room k X.A) (hb : Binds X.K fd ps []) (hx : ∀ σ, PassesAt CX X σ (E σ)) (ha : PE X a ta) (hb2 : PE X b tb) : PE X (.BinOp a op b pos) (tOwnS C sp E ta tb) := by
  refine ⟨fun pins s σ H Q I h => ?_⟩
  refine wpAny_BinOp (thn (ha.run pins s σ H _ I h) fun v s1 ⟨x, H1, I1, rx, q1⟩ => thn (hb2.run pins s1 σ H1 _ I1 q1) fun u s2 ⟨y, H2, I2, ry, a, b, dx, fs, dy, gs, ex, ey, ea, eb, q⟩ => ?_)
  subst ex ey
  obtain rfl : v = Value.ref a := rx
  obtain rfl : u = Value.ref b := ry
  obtain ⟨m, fr⟩ := I2.fr
  obtain ⟨mA, O, _⟩ := ins_get I2.hok ea
  obtain ⟨od, J, _⟩ := O.look
  obtain ⟨mB, O2, _⟩ := ins_get I2.hok eb
  obtain ⟨od2, J2, _⟩ := O2.look
  refine PySem.W.binop_K fr I2.ok.mod.kin J J2.type c.sf c.at_ c.fn ?_
  refine wpAny_mono (run_fnS (us := [.ref a, .ref b]) (vs := [.ref a, .ref b]) F hr hb (hx σ) I2 (.cons rfl (.cons rfl .nil)) q) (fun u' s' h' => cmpBack_of h') fun _ _ z => z
end

/-! ### static methods, by the class's name -/
structure SMet (K : PySem.W.Frag) (C : Addr) (mc : Value) (m : Str) (p g : Addr) : Prop where
  at_ : PySem.W.findCls K (.ref C) mc m = some (.get (.builtin "staticmethod.__get__") (.ref p) .none (.ref C))
  rc : ∃ rest, PySem.W.recIn K p "staticmethod" = some (.ref g :: rest)
  kp : PySem.W.keepIn K (.ref g) = true
section
variable {X : Cx} {CX : CXT} {k : Nat} {C p g : Addr} {mc : Value} {fd : FuncData} {ps : List Str} {sp : Sp} {E : XK} {o e : Expr} {es : List Expr} {m : Str} {pos apos : Pos} {ta : TE} {t : TA} {pl : Sem Bool}
def tSM (C : Addr) (sp : Sp) (E : XK) (ta : TE) (t : TA) : TE := fun σ H Q => ta σ H fun x H1 => x = .ref C ∧ t σ H1 fun vs H2 => sp vs H2 Q E
theorem getsm_ok {pins : List (Addr × Obj)} {σ : L2.St} {H : Hp} {s : Shared} {A : Around} {E : Value → Shared → Prop} {Q : Value × List Value → Shared → Prop} (I : Inv X pins σ H s) (r : ClX.CRead X.K C mc) (c : SMet X.K C mc m p g)
    (h : ∀ s', Inv X pins σ H s' → Q (.ref g, []) s') : wpAny (model X.prog X.w) A (getMethod (.ref C) m pl) Q E s := by
  obtain ⟨rest, hp⟩ := c.rc
  refine PySem.W.method_cls I.kIn r.ga ?_
  refine PySem.W.cls_bind I.kIn r.rd c.at_ ?_
  exact wpAny_call (PySem.W.sm_get (s := { s with toks := s.toks + 1 }) I.kIn hp (PySem.W.handed_on rfl (h _ (I.tok _))))
theorem pe_smeth (he : PE X o ta) (r : ClX.CRead X.K C mc) (c : SMet X.K C mc m p g) (F : FnOk X.prog X.w X.K X.mg X.base CX k g fd ps sp) (hr : Room k X.A) (hb : Binds X.K fd ps []) (hx : Passes CX X E) (ha : PA X (e :: es) t)
    (hst : starEach (e :: es) X.env = (false, eval e X.env) :: starEach es X.env := by rfl) (hpl : (backTo pos (starEach es X.env)).any (·.1) = false := by rfl)
    (ht : eval (.Call (.Attribute o m apos) (e :: es) [] pos) X.env = (do
      let ov ← eval o X.env
      standAt apos.atName
      let (f, first) ← holding [ov] (getMethod ov m pl)
      callWith pos f first (backTo pos (starEach (e :: es) X.env)) (backToKw pos (keywordEach [] X.env))) := by rfl) :
    PE X (.Call (.Attribute o m apos) (e :: es) [] pos) (tSM C sp E ta t) := by
  refine ⟨fun pins s σ H Q I h => ?_⟩
  refine PySem.W.methodCall_KW (pl := pl) (thn (he.run pins s σ H _ I h) fun u s1 ⟨x, H1, I1, rx, ex, q⟩ => ?_) ht
  subst ex
  obtain rfl : u = Value.ref C := rx
  refine getsm_ok I1 r c fun s2 I2 => ?_
  refine PySem.W.callWith_K (h₀ := X.base) I2.ok.mod.kin c.kp (thn (ha.run pos pins s2 σ H1 _ I2 q) fun us s3 ⟨vs, H2, I3, rv, q2⟩ => ⟨I3.kIn, ?_⟩) hst hpl
  have hl : sp (vs ++ []) H2 Q E := by rw [List.append_nil]; exact q2
  exact run_fn (ds := []) (dvs := []) F hr hb .nil hx I3 rv hl
theorem pe_smeth0 (he : PE X o ta) (r : ClX.CRead X.K C mc) (c : SMet X.K C mc m p g) (F : FnOk X.prog X.w X.K X.mg X.base CX k g fd ps sp) (hr : Room k X.A) (hb : Binds X.K fd ps []) (hx : Passes CX X E)
    (ht : eval (.Call (.Attribute o m apos) [] [] pos) X.env = (do
      let ov ← eval o X.env
      standAt apos.atName
      let (f, first) ← holding [ov] (getMethod ov m pl)
      callWith pos f first (backTo pos (starEach [] X.env)) (backToKw pos (keywordEach [] X.env))) := by rfl) :
    PE X (.Call (.Attribute o m apos) [] [] pos) (tSM C sp E ta tNil) := by
  refine ⟨fun pins s σ H Q I h => ?_⟩
  refine PySem.W.methodCall_KW (pl := pl) (thn (he.run pins s σ H _ I h) fun u s1 ⟨x, H1, I1, rx, ex, q⟩ => ?_) ht
  subst ex
  obtain rfl : u = Value.ref C := rx
  refine getsm_ok I1 r c fun s2 I2 => ?_
  exact PySem.W.callWith_K0 I2.kIn c.kp (run_fn (us := []) (vs := []) (ds := []) (dvs := []) F hr hb .nil hx I2 .nil q)
end

/-! ### defs of own classes, ready to be called -/
structure CalB (P : Program) (w : World) (K : PySem.W.Frag) (mg : Str → Option Value) (base : Heap) (CX : CXT) (k : Nat) (f : Addr) (fd : FuncData) (ps : List Str) (sp : Sp) : Prop where
  G : FnOk P w K mg base CX k f fd ps sp
  b : Binds K fd ps []
structure CalI (P : Program) (w : World) (K : PySem.W.Frag) (mg : Str → Option Value) (base : Heap) (CX : CXT) (k : Nat) (x : Str) (C f : Addr) (fd : FuncData) (ps : List Str) (sp : Sp) : Prop extends CalB P w K mg base CX k f fd ps sp where
  mkc : Mk K C f
  m : mg x = some (.ref C)
structure CalS (P : Program) (w : World) (K : PySem.W.Frag) (mg : Str → Option Value) (base : Heap) (CX : CXT) (k : Nat) (C p : Addr) (m : Str) (f : Addr) (fd : FuncData) (ps : List Str) (sp : Sp) : Prop extends CalB P w K mg base CX k f fd ps sp where
  rd : ClX.CRead K C (.type "type")
  sm : SMet K C (.type "type") m p f
structure CalP (P : Program) (w : World) (K : PySem.W.Frag) (mg : Str → Option Value) (base : Heap) (CX : CXT) (k : Nat) (C p : Addr) (m : Str) (f : Addr) (fd : FuncData) (ps : List Str) (sp : Sp) : Prop extends CalB P w K mg base CX k f fd ps sp where
  cl : Cls K C
  pr : PropOf K C m p f
structure CalO (P : Program) (w : World) (K : PySem.W.Frag) (mg : Str → Option Value) (base : Heap) (CX : CXT) (k : Nat) (C : Addr) (op : Operator) (f : Addr) (fd : FuncData) (ps : List Str) (sp : Sp) : Prop extends CalB P w K mg base CX k f fd ps sp where
  op : OpC K C f op
structure CalC (P : Program) (w : World) (K : PySem.W.Frag) (mg : Str → Option Value) (base : Heap) (CX : CXT) (k : Nat) (C f : Addr) (fd : FuncData) (ps : List Str) (sp : Sp) : Prop extends CalB P w K mg base CX k f fd ps sp where
  co : StX.CallO K C f

/-! ### the written part named (in comprehensions) -/
section
variable {X : Cx} {e : Expr} {es : List Expr} {f : Str} {pos p : Pos} {ta : TE} {t : TA}
theorem e_f (K : PySem.W.Frag) (he : PE X e ta) (hb : attributeBase e f X.env (eval e X.env) = eval e X.env := by rfl) (h : X.K = K := by rfl) : PE X (.Attribute e f pos) (tFld K ta f) := h ▸ pe_fld he hb
theorem e_cv (K : PySem.W.Frag) (he : PE X e ta) (hb : attributeBase e f X.env (eval e X.env) = eval e X.env := by rfl) (h : X.K = K := by rfl) : PE X (.Attribute e f pos) (ClX.tCVal K ta f) := h ▸ ClX.pe_cval he hb
end

/-! ### len of an own class -/
structure LenC (K : PySem.W.Frag) (C f : Addr) : Prop where
  at_ : PySem.W.findIn K (.ref C) "__len__" = some (some (.ref f))
  fn : PySem.W.isFn K (.ref f) = true
theorem call_lenO {X : Cx} {k : Nat} {C f : Addr} {fd : FuncData} {ps : List Str} {sp : Sp} (c : LenC X.K C f) (F : FnOk X.prog X.w X.K X.mg X.base CX0 k f fd ps sp) (hr : Room (k + 1) X.A) (hb : Binds X.K fd ps []) :
    CallR X (.builtin "len") (fun xs H Q => ∃ a dx fs, xs = [.ref a] ∧ H a = some (.ins C dx fs) ∧ sp [.ref a] H (fun v H' => ∃ n : Int, v = .int n ∧ 0 ≤ n ∧ n < 2 ^ 62 ∧ Q (.int n) H') E0) := by
  intro pins s σ H xs us Q I r h
  obtain ⟨a, dx, fs, rfl, ea, q⟩ := h
  obtain rfl := Vals.ref1 r
  obtain ⟨m, fr⟩ := I.fr
  obtain ⟨mA, O, _⟩ := ins_get I.hok ea
  obtain ⟨od, J, _⟩ := O.look
  refine PySem.W.len_K fr I.ok.mod.kin J c.at_ c.fn ?_
  have hl : ([Value.ref a] ++ []).length = ps.length := (F.len _ _ _ _ q)
  have b := hb s [.ref a] I.kIn hl
  rw [List.append_nil] at b
  refine wpAny_call (codeAny_mono (F.run X.A.in1 X.stack s H ⟨[.ref a], []⟩ [.ref a] [.ref a] _ E0 hr.in1 I.env0.in1 b (.cons rfl .nil) q) fun r s' hq' => ?_)
  cases r with
  | error e => exact False.elim hq'
  | ok fl =>
    cases fl with
    | ret u =>
      obtain ⟨v, H', I3, rv, n, rfl, h0, h1, q3⟩ := I.after hq'
      obtain ⟨t, rfl⟩ := rv
      exact ⟨⟨h0, Int.lt_trans h1 (by decide)⟩, ⟨.int n, H', I3.tok _, ⟨_, rfl⟩, q3⟩⟩
    | next => exact False.elim hq'
    | brk => exact False.elim hq'
    | cont => exact False.elim hq'
structure CalL (P : Program) (w : World) (K : PySem.W.Frag) (mg : Str → Option Value) (base : Heap) (CX : CXT) (k : Nat) (C f : Addr) (fd : FuncData) (ps : List Str) (sp : Sp) : Prop extends CalB P w K mg base CX k f fd ps sp where
  le : LenC K C f
end El

set_option Elab.async false
set_option linter.all false
set_option maxRecDepth 100000
set_option maxHeartbeats 4000000
/-! Own words: what the written part says of an own exception class, isinstance of what an except clause holds. -/
namespace El
open PySem PySem.Spec PyProof.Rows L2 NdefX
/-- isinstance(e, c), e the exception that the suite holds, with a dict -/
def rIsX (K : PySem.W.Frag) (cls : Value) (d : Option Addr) (a : Addr) : List V → Hp → VK → Prop := fun xs H Q => ∃ (D dd : Addr) (fs : List (Str × V)) (c : V) (cv : Value) (b : Bool), xs = [.ref a, c] ∧ cls = .ref D ∧ d = some dd ∧ H dd = some (.xd fs) ∧ ExcC K D ∧ (∀ u, RelV c u → u = cv) ∧ PySem.W.kitOne K (.ref D) cv = some b ∧ Q (.bl b) H
theorem call_isX {X : Cx} {a : Addr} {oe : Obj} {cls : Value} {d : Option Addr} {pn : List (Addr × Obj)} (hz : Zc cls d oe) (hf : ∃ vs, oe.data = .fields vs) : CallR (X.suite a ((a, oe) :: pn)) (.builtin "isinstance") (rIsX X.K cls d a) := by
  intro pins s σ H xs us Q I r h
  obtain ⟨D, dd, fs, c, cv, b, rfl, rfl, rfl, ea, C, hcv, e, q⟩ := h
  cases r with
  | cons rx rr =>
    cases rr with
    | cons rt rr =>
      cases rr
      cases rx
      have ec := hcv _ rt
      subst ec
      obtain ⟨hget, _⟩ := I.pin (a, oe) (List.mem_append.mpr (.inl List.mem_cons_self))
      obtain ⟨vs, hv⟩ := hf
      have hx : ObjOk X.prog X.w H s.heap dd (.xd fs) := I.hok dd _ ea
      obtain ⟨mA, hns, hr⟩ := hx
      obtain ⟨od, ho, hl⟩ := lookIn_ns hns
      have J : PySem.W.InstAt s.heap a oe D (some od) := ⟨hget, hz.1, by unfold PySem.W.notCls; rw [hv] <;> rfl, by rw [hz.2]; exact ho⟩
      obtain ⟨cdD, hcD, _⟩ := PySem.W.any_some C.hd
      exact PySem.W.kia_one (PySem.W.kitx_exc (by rw [hcD]; rfl) C.hg C.hk C.hs C.ha C.hn C.ht C.hm) I.kIn J e (fun z => nomatch z) fun tk => ⟨.bl b, H, I.kept (t' := tk) fun _ _ z => z, rfl, q⟩
/-- an own exception class with its own __init__ -/
structure ExK (K : PySem.W.Frag) (C fI : Addr) (fields : List Str) : Prop where
  oex : OexC K C
  sup : PySem.W.ks_superIn K C C "__init__" = some (some (.builtin "ValueError.__init__"))
  subV : PySem.W.subIn K (.ref C) (.type "ValueError") = some true
  mro : PySem.W.mroIn K C (.ref C) = some true
  iC : PySem.W.findIn K (.ref C) "__init__" = some (some (.ref fI))
  tI : PySem.W.typeIn K (.ref fI) = some (.type "function")
  no : ∀ f ∈ fields, PySem.W.findIn K (.ref C) f = some none
  xf : XfC K C
  is : ExcC K C
/-- what a suite that catches it must know -/
structure ExV (K : PySem.W.Frag) (C : Addr) (fields : List Str) : Prop where
  no : ∀ f ∈ fields, PySem.W.findIn K (.ref C) f = some none
  xf : XfC K C
  is : ExcC K C
/-- the i-th def of the class body -/
def mthS (s : Stmt) (i : Nat) : Stmt := match s with
  | .ClassDef _ _ _ b _ _ _ _ _ _ _ => b.getD i (.Pass ⟨0, 0, 0, 0⟩)
  | _ => .Pass ⟨0, 0, 0, 0⟩
/-- the same, from what the written part answers -/
theorem exk_mk {K : PySem.W.Frag} {C fI N : Addr} {fields : List Str} {nm q : Str} {bs bm : List Value} {sn : List Str} {sub : List Value} {ab : Bool} {col : Option Bool} {dd : Option Addr} {k0 k1 k2 k3 k5 : Option Value}
    (cls : K.lookup C = some (excClassObj nm q C N bs bm true sn sub ab col dd k0 k1 k2 k3 k5 "ValueError.__new__")) (ref : PySem.HandSPX.refsVE bm = true)
    (sa : PySem.W.findIn K (.ref C) "__setattr__" = some (some (.builtin "object.__setattr__"))) (exC : PySem.W.subIn K (.ref C) (.type "BaseException") = some true) (tyC : PySem.W.typeIn K (.ref C) = some (.type "type")) (kC : PySem.W.keepIn K (.ref C) = true)
    (sup : PySem.W.ks_superIn K C C "__init__" = some (some (.builtin "ValueError.__init__"))) (subV : PySem.W.subIn K (.ref C) (.type "ValueError") = some true) (mro : PySem.W.mroIn K C (.ref C) = some true)
    (iC : PySem.W.findIn K (.ref C) "__init__" = some (some (.ref fI))) (tI : PySem.W.typeIn K (.ref fI) = some (.type "function")) (no : ∀ f ∈ fields, PySem.W.findIn K (.ref C) f = some none)
    (ga : PySem.W.findIn K (.ref C) "__getattribute__" = some (some (.builtin "BaseException.__getattribute__"))) (gg : PySem.W.findIn K (.ref C) "__getattr__" = some none) (hd : PySem.W.hasDictIn K C = true)
    (hcl : PySem.W.findIn K (.ref C) "__class__" = some (some (.builtin "object.__class__"))) (hn : PySem.W.specialIn K (.builtin "object.__class__") "__get__" = some (some (.builtin "getset_descriptor.__get__"))) (ht : PySem.W.takesIn K (.builtin "object.__class__") = some true) (hm : PySem.W.mroIn K C (.type "object") = some true) : ExK K C fI fields :=
  ⟨⟨⟨nm, q, N, bs, bm, sn, sub, ab, col, dd, k0, k1, k2, k3, k5, cls, ref⟩, sa, exC, tyC, kC⟩, sup, subV, mro, iC, tI, no, ⟨ga, gg, exC, hd⟩, ⟨ga, gg, exC, hd, hcl, hn, ht, hm⟩⟩

/-! ### an own exception's __init__, by what it keeps -/
def spE (C : Addr) (ok : List V → Prop) (fs : List V → List (Str × V)) : Sp := fun vs H Q _ => ∃ (a : Addr) (ws : List V), vs = .ref a :: ws ∧ ok ws ∧ H a = some (exo a C none) ∧
  ∀ (dx : Addr) (H' : Hp), H dx = none → dx ≠ a → H' a = some (exo a C (some dx)) → H' dx = some (exd dx (fs ws)) → (∀ b, b ≠ a → b ≠ dx → H' b = H b) → Q .non H'
theorem mk_spE {C : Addr} {ok : List V → Prop} {fs : List V → List (Str × V)} {vs : List V} {H1 : Hp} {Q : XK} (hl : vs.length ≤ 1000) (ho : ok vs) (hq : ∀ d, H1 d = none → Q (.ref C) (some d) (upd H1 d (.xd (fs vs)))) :
    vs.length ≤ 1000 ∧ ∀ a, H1 a = none → spE C ok fs (.ref a :: (vs ++ [])) (upd H1 a (exo a C none))
      (fun v H2 => v = .non ∧ ∃ (d : Addr) (fs : List (Str × V)), H2 a = some (exo a C (some d)) ∧ H2 d = some (exd d fs) ∧ H1 d = none ∧ Q (.ref C) (some d) (upd (del H2 a) d (.xd fs))) (fun _ _ _ => False) := by
  refine ⟨hl, fun a na => ⟨a, vs, by rw [List.append_nil], ho, upd_same, fun dx H' n ne e1 e2 hh => ⟨rfl, dx, fs vs, e1, e2, ?_, ?_⟩⟩⟩
  · rw [upd_ne ne] at n
    exact n
  · have nd : H1 dx = none := by rw [upd_ne ne] at n; exact n
    have e : upd (del H' a) dx (.xd (fs vs)) = upd H1 dx (.xd (fs vs)) := by
      funext b
      by_cases hb : b = dx
      · rw [hb, upd_same, upd_same]
      · rw [upd_ne hb, upd_ne hb]
        by_cases ha : b = a
        · rw [ha, del_same, na]
        · rw [del_ne ha, hh b ha hb, upd_ne ha]
    rw [e]
    exact hq dx nd
/-- the class, its __init__, ready for a raise -/
structure CalE (P : Program) (w : World) (K : PySem.W.Frag) (mg : Str → Option Value) (base : Heap) (k : Nat) (x : Str) (C f : Addr) (fd : FuncData) (ps : List Str) (ok : List V → Prop) (fs : List V → List (Str × V)) (fields : List Str) : Prop where
  G : FnOk P w K mg base CX0 k f fd ps (spE C ok fs)
  b : Binds K fd ps []
  X : ExK K C f fields
  m : mg x = some (.ref C)
/-- one store, the dict being new -/
theorem ost1 {a C : Addr} {H : Hp} {f : Str} {y : V} {Q : Hp → Prop} (ea : H a = some (exo a C none)) (q : ∀ dx H', H dx = none → dx ≠ a → H' a = some (exo a C (some dx)) → H' dx = some (exd dx [(f, y)]) → (∀ b, b ≠ a → b ≠ dx → H' b = H b) → Q H') :
    ∀ dx, H dx = none → dx ≠ a → Q (upd (upd H dx (exd dx [(f, y)])) a (exo a C (some dx))) := fun dx n ne =>
  q dx _ n ne upd_same (by rw [upd_ne ne, upd_same]) fun b h1 h2 => by rw [upd_ne h1, upd_ne h2]
end El

set_option Elab.async false
set_option linter.all false
set_option maxRecDepth 100000
/-! Own mathematics: a line as a list of codes, its tokens. -/
namespace El
abbrev LT : List Nat := [97, 98, 99, 100, 101, 102, 103, 104, 105, 106, 107, 108, 109, 110, 111, 112, 113, 114, 115, 116, 117, 118, 119, 120, 121, 122]
abbrev DG : List Nat := [48, 49, 50, 51, 52, 53, 54, 55, 56, 57]
abbrev SG : List (List Nat) := [[60], [60, 61], [61, 61], [33, 61], [62, 61], [62]]
abbrev MK : List (List Nat) := [[40], [41], [44], [59], [58]]
def isL (c : Nat) : Bool := decide (c ∈ LT)
def isD (c : Nat) : Bool := decide (c ∈ DG)
theorem isL_iff {c : Nat} : isL c = true ↔ 97 ≤ c ∧ c ≤ 122 := by
  unfold isL
  rw [decide_eq_true_iff]
  simp only [LT, List.mem_cons, List.not_mem_nil, or_false]
  omega
theorem isD_iff {c : Nat} : isD c = true ↔ 48 ≤ c ∧ c ≤ 57 := by
  unfold isD
  rw [decide_eq_true_iff]
  simp only [DG, List.mem_cons, List.not_mem_nil, or_false]
  omega
/-- a sign or a mark -/
def inSM (p : List Nat) : Bool := decide (p ∈ SG) || decide (p ∈ MK)
/-- how long the token is with which a rest begins; 0: none -/
def tokLen : List Nat → Nat
  | [] => 0
  | c :: r => if isL c then ((c :: r).takeWhile isL).length else if isD c then ((c :: r).takeWhile isD).length
    else if c = 45 then (if (r.takeWhile isD).length = 0 then 0 else 1 + (r.takeWhile isD).length)
    else if inSM ((c :: r).take 2) then ((c :: r).take 2).length else if inSM [c] then 1 else 0
theorem tokLen_cons (c : Nat) (r : List Nat) : tokLen (c :: r) = if isL c then ((c :: r).takeWhile isL).length else if isD c then ((c :: r).takeWhile isD).length
    else if c = 45 then (if (r.takeWhile isD).length = 0 then 0 else 1 + (r.takeWhile isD).length)
    else if inSM ((c :: r).take 2) then ((c :: r).take 2).length else if inSM [c] then 1 else 0 := rfl
theorem ite_le {c : Prop} [Decidable c] {a b n : Nat} (h1 : a ≤ n) (h2 : b ≤ n) : (if c then a else b) ≤ n := by split <;> assumption
theorem tokLen_le : ∀ r : List Nat, tokLen r ≤ r.length
  | [] => Nat.le_refl _
  | c :: r => by
    have h1 : ∀ (f : Nat → Bool) (l : List Nat), (l.takeWhile f).length ≤ l.length := fun f l => (List.takeWhile_sublist f).length_le
    have a := h1 isL (c :: r)
    have b := h1 isD (c :: r)
    have d := h1 isD r
    have e : ((c :: r).take 2).length ≤ (c :: r).length := by rw [List.length_take]; omega
    have hn : (c :: r).length = r.length + 1 := List.length_cons
    exact ite_le a (ite_le b (ite_le (ite_le (by omega) (by omega)) (ite_le e (ite_le (by omega) (by omega)))))
/-- the tokens of a rest that begins at a column, or the column of the first strange sign -/
def splitN : Nat → List Nat → Nat → Except Nat (List (List Nat × Nat))
  | 0, _, _ => .ok []
  | _ + 1, [], _ => .ok []
  | n + 1, c :: r, col => if 0 < tokLen (c :: r) then
      (match splitN n ((c :: r).drop (tokLen (c :: r))) (col + tokLen (c :: r)) with
        | .ok l => .ok (((c :: r).take (tokLen (c :: r)), col) :: l)
        | .error e => .error e)
    else if c = 32 then splitN n r (col + 1) else .error col
def splitL (r : List Nat) (col : Nat) : Except Nat (List (List Nat × Nat)) := splitN r.length r col
theorem splitN_more : ∀ (n m : Nat) (r : List Nat) (col : Nat), r.length ≤ n → n ≤ m → splitN m r col = splitN n r col
  | 0, 0, _, _, _, _ => rfl
  | 0, m + 1, [], _, _, _ => rfl
  | 0, m + 1, c :: r, _, h, _ => absurd h (by simp)
  | n + 1, 0, _, _, _, h => absurd h (by omega)
  | n + 1, m + 1, [], _, _, _ => rfl
  | n + 1, m + 1, c :: r, col, h, h2 => by
    rw [List.length_cons] at h
    unfold splitN
    split
    · rename_i ht
      rw [splitN_more n m _ _ (by rw [List.length_drop, List.length_cons]; omega) (by omega)]
    · rw [splitN_more n m r _ (by omega) (by omega)]
theorem splitL_tok {r : List Nat} {col : Nat} (h : 0 < tokLen r) : splitL r col = match splitL (r.drop (tokLen r)) (col + tokLen r) with
    | .ok l => .ok ((r.take (tokLen r), col) :: l)
    | .error e => .error e := by
  cases r with
  | nil => exact absurd h (by simp [tokLen])
  | cons c r =>
    unfold splitL
    rw [List.length_cons]
    show splitN (r.length + 1) (c :: r) col = _
    rw [splitN, if_pos h, splitN_more _ r.length _ _ (Nat.le_refl _) (by rw [List.length_drop, List.length_cons]; omega)]
theorem splitL_space {r : List Nat} {col : Nat} : splitL (32 :: r) col = splitL r (col + 1) := by
  have h : tokLen (32 :: r) = 0 := by
    rw [tokLen_cons]
    rw [if_neg (by decide), if_neg (by decide), if_neg (by decide)]
    have : inSM ((32 :: r).take 2) = false := by
      cases r with
      | nil => decide
      | cons a r => simp [inSM]
    rw [this]
    rfl
  unfold splitL
  rw [List.length_cons]
  show splitN (r.length + 1) (32 :: r) col = _
  rw [splitN, if_neg (by rw [h]; decide), if_pos rfl]
theorem splitL_bad {c : Nat} {r : List Nat} {col : Nat} (h : tokLen (c :: r) = 0) (hc : c ≠ 32) : splitL (c :: r) col = .error col := by
  unfold splitL
  rw [List.length_cons]
  show splitN (r.length + 1) (c :: r) col = _
  rw [splitN, if_neg (by rw [h]; decide), if_neg hc]
theorem splitL_nil {col : Nat} : splitL [] col = .ok [] := rfl
theorem splitL_spaces : ∀ (g : Nat) {r : List Nat} {col : Nat}, splitL (List.replicate g 32 ++ r) col = splitL r (col + g)
  | 0, _, _ => rfl
  | g + 1, r, col => by
    rw [List.replicate_succ, List.cons_append, splitL_space, splitL_spaces g, show col + 1 + g = col + (g + 1) by omega]

/-! ### tokens -/
/-- a word, an integer, a sign, a mark -/
inductive Tok : List Nat → Prop where
  | word {p : List Nat} (h0 : p ≠ []) (h : ∀ c ∈ p, isL c = true) : Tok p
  | int {p : List Nat} (h0 : p ≠ []) (h : ∀ c ∈ p, isD c = true) : Tok p
  | neg {p : List Nat} (h0 : p ≠ []) (h : ∀ c ∈ p, isD c = true) : Tok (45 :: p)
  | sm {p : List Nat} (h : inSM p = true) : Tok p
/-- no token begins so: a strange sign, alone -/
def Strange (c : Nat) : Prop := isL c = false ∧ isD c = false ∧ c ≠ 32 ∧ inSM [c] = false
/-- two pieces that would run together -/
def touchB (p q : List Nat) : Bool :=
  (isL (p.getLastD 0) && isL (q.headD 0)) || (isD (q.headD 0) && (isD (p.getLastD 0) || decide (p = [45]))) || (decide (q.headD 0 = 61) && (decide (p = [60]) || decide (p = [62]) || decide (p = [33]) || decide (p = [61])))
/-- what stands behind a piece does not run together with it -/
def Sep (p s : List Nat) : Prop := ∀ c r, s = c :: r → c = 32 ∨ touchB p [c] = false
theorem takeWhile_app {f : Nat → Bool} : ∀ {p s : List Nat}, (∀ c ∈ p, f c = true) → (∀ c r, s = c :: r → f c = false) → (p ++ s).takeWhile f = p
  | [], [], _, _ => rfl
  | [], c :: r, _, h => by
    rw [List.nil_append, List.takeWhile_cons, h c r rfl]
    rfl
  | a :: p, s, h1, h2 => by
    rw [List.cons_append, List.takeWhile_cons, h1 a List.mem_cons_self, if_pos rfl, takeWhile_app (fun c hc => h1 c (List.mem_cons_of_mem _ hc)) h2]
theorem getLastD_mem : ∀ {p : List Nat}, p ≠ [] → p.getLastD 0 ∈ p
  | [], h => absurd rfl h
  | [a], _ => List.mem_cons_self
  | a :: b :: r, _ => List.mem_cons_of_mem _ (getLastD_mem (p := b :: r) (by simp))
theorem touch_l {p : List Nat} {c : Nat} (h0 : p ≠ []) (h : ∀ c ∈ p, isL c = true) (ht : touchB p [c] = false) : isL c = false := by
  unfold touchB at ht
  rw [h _ (getLastD_mem h0)] at ht
  cases hc : isL c with
  | false => rfl
  | true => rw [show [c].headD 0 = c from rfl, hc] at ht; simp at ht
theorem touch_d {p : List Nat} {c : Nat} (h0 : p ≠ []) (h : isD (p.getLastD 0) = true) (ht : touchB p [c] = false) : isD c = false := by
  unfold touchB at ht
  rw [h] at ht
  cases hc : isD c with
  | false => rfl
  | true => rw [show [c].headD 0 = c from rfl, hc] at ht; simp at ht
theorem ld_l {c : Nat} (h : isL c = true) : isD c = false ∧ c ≠ 45 ∧ c ≠ 32 := by
  rw [isL_iff] at h
  refine ⟨?_, by omega, by omega⟩
  cases hd : isD c with
  | false => rfl
  | true => rw [isD_iff] at hd; omega
theorem ld_d {c : Nat} (h : isD c = true) : isL c = false ∧ c ≠ 45 ∧ c ≠ 32 := by
  rw [isD_iff] at h
  refine ⟨?_, by omega, by omega⟩
  cases hd : isL c with
  | false => rfl
  | true => rw [isL_iff] at hd; omega
theorem sm_cases {p : List Nat} (h : inSM p = true) : p ∈ SG ++ MK := by
  unfold inSM at h
  rw [Bool.or_eq_true, decide_eq_true_iff, decide_eq_true_iff] at h
  exact List.mem_append.mpr h
theorem sm2 {c d : Nat} (h : inSM [c, d] = true) : d = 61 ∧ (c = 60 ∨ c = 61 ∨ c = 33 ∨ c = 62) := by
  have h := sm_cases h
  simp at h
  omega
/-- the token that stands ahead is read -/
theorem tokLen_tok {p s : List Nat} (h : Tok p) (hs : Sep p s) : tokLen (p ++ s) = p.length := by
  cases h with
  | word h0 h =>
    cases p with
    | nil => exact absurd rfl h0
    | cons c p =>
      have hc := h c List.mem_cons_self
      show tokLen (c :: (p ++ s)) = _
      rw [tokLen_cons]
      rw [if_pos hc, ← List.cons_append, takeWhile_app h fun d r e => ?_]
      rcases hs d r e with rfl | ht
      · rfl
      · exact touch_l h0 h ht
  | int h0 h =>
    cases p with
    | nil => exact absurd rfl h0
    | cons c p =>
      have hc := h c List.mem_cons_self
      have hn := ld_d hc
      show tokLen (c :: (p ++ s)) = _
      rw [tokLen_cons]
      rw [if_neg (by rw [hn.1]; decide), if_pos hc, ← List.cons_append, takeWhile_app h fun d r e => ?_]
      rcases hs d r e with rfl | ht
      · rfl
      · exact touch_d h0 (h _ (getLastD_mem h0)) ht
  | @neg p h0 h =>
    show tokLen (45 :: (p ++ s)) = _
    rw [tokLen_cons]
    rw [if_neg (by decide), if_neg (by decide), if_pos rfl, takeWhile_app h fun d r e => ?_]
    · rw [if_neg, List.length_cons]
      · omega
      · cases p with
        | nil => exact absurd rfl h0
        | cons a p => simp
    · rcases hs d r e with rfl | ht
      · rfl
      · refine touch_d (p := 45 :: p) (by simp) ?_ ht
        cases p with
        | nil => exact absurd rfl h0
        | cons a p => exact h _ (getLastD_mem (p := a :: p) (by simp))
  | sm h =>
    have hm := sm_cases h
    simp only [SG, MK, List.cons_append, List.nil_append, List.mem_cons, List.not_mem_nil, or_false] at hm
    have one : ∀ c : Nat, isL c = false → isD c = false → c ≠ 45 → inSM [c] = true → (∀ d r, s = d :: r → inSM [c, d] = false) → tokLen ([c] ++ s) = 1 := fun c h1 h2 h3 h4 h5 => by
      show tokLen (c :: s) = 1
      rw [tokLen_cons]
      rw [if_neg (by rw [h1]; decide), if_neg (by rw [h2]; decide), if_neg h3]
      cases s with
      | nil => rw [if_pos (by exact h4)]; rfl
      | cons d r => rw [if_neg (by rw [show (c :: d :: r).take 2 = [c, d] from rfl, h5 d r rfl]; decide), if_pos h4]
    have two : ∀ c d : Nat, isL c = false → isD c = false → c ≠ 45 → inSM [c, d] = true → tokLen ([c, d] ++ s) = 2 := fun c d h1 h2 h3 h4 => by
      show tokLen (c :: d :: s) = 2
      rw [tokLen_cons]
      rw [if_neg (by rw [h1]; decide), if_neg (by rw [h2]; decide), if_neg h3, if_pos (by exact h4)]
      rfl
    have mk : ∀ c : Nat, (c ≠ 60 ∧ c ≠ 61 ∧ c ≠ 33 ∧ c ≠ 62) → ∀ d r, s = d :: r → inSM [c, d] = false := fun c hc d r e => by
      cases q : inSM [c, d] with
      | false => rfl
      | true => have := sm2 q; omega
    have lg : ∀ c : Nat, (c = 60 ∨ c = 62) → p = [c] → ∀ d r, s = d :: r → inSM [c, d] = false := fun c hc hp d r e => by
      cases q : inSM [c, d] with
      | false => rfl
      | true =>
        have := (sm2 q).1
        subst this
        rcases hs _ r e with h | ht
        · exact absurd h (by decide)
        · rw [hp] at ht
          rcases hc with rfl | rfl <;> exact absurd ht (by decide)
    rcases hm with rfl | rfl | rfl | rfl | rfl | rfl | rfl | rfl | rfl | rfl | rfl
    · exact one 60 (by decide) (by decide) (by decide) (by decide) (lg 60 (.inl rfl) rfl)
    · exact two 60 61 (by decide) (by decide) (by decide) (by decide)
    · exact two 61 61 (by decide) (by decide) (by decide) (by decide)
    · exact two 33 61 (by decide) (by decide) (by decide) (by decide)
    · exact two 62 61 (by decide) (by decide) (by decide) (by decide)
    · exact one 62 (by decide) (by decide) (by decide) (by decide) (lg 62 (.inr rfl) rfl)
    all_goals exact one _ (by decide) (by decide) (by decide) (by decide) (mk _ (by decide))
/-- a strange sign is no token -/
theorem tokLen_strange {c : Nat} {s : List Nat} (h : Strange c) (hs : Sep [c] s) : tokLen (c :: s) = 0 := by
  obtain ⟨h1, h2, h3, h4⟩ := h
  rw [tokLen_cons]
  rw [if_neg (by rw [h1]; decide), if_neg (by rw [h2]; decide)]
  by_cases hc : c = 45
  · subst hc
    rw [if_pos rfl]
    have : (s.takeWhile isD).length = 0 := by
      cases s with
      | nil => rfl
      | cons d r =>
        have : isD d = false := by
          rcases hs d r rfl with rfl | ht
          · rfl
          · cases q : isD d with
            | false => rfl
            | true => unfold touchB at ht; rw [show [d].headD 0 = d from rfl, q] at ht; simp at ht
        rw [List.takeWhile_cons, this]
        rfl
    rw [this]
    rfl
  · rw [if_neg hc, if_neg, if_neg (by rw [h4]; decide)]
    cases s with
    | nil => rw [show [c].take 2 = [c] from rfl, h4]; decide
    | cons d r =>
      rw [show (c :: d :: r).take 2 = [c, d] from rfl]
      intro q
      have q2 := sm2 q
      obtain ⟨rfl, q2⟩ := q2
      rcases hs _ r rfl with h | ht
      · exact absurd h (by decide)
      · rcases q2 with rfl | rfl | rfl | rfl <;> first | exact absurd ht (by decide) | exact absurd h4 (by decide)

/-! ### a line that is laid out of pieces, each behind a gap -/
def lay : List (Nat × List Nat) → List Nat → List Nat
  | [], t => t
  | (g, p) :: r, t => List.replicate g 32 ++ (p ++ lay r t)
def cols : Nat → List (Nat × List Nat) → List Nat
  | _, [] => []
  | c, (g, p) :: r => (c + g) :: cols (c + g + p.length) r
/-- pieces that stand together do not run together -/
def Apart : List (Nat × List Nat) → Prop
  | [] => True
  | [_] => True
  | (_, p) :: (g, q) :: r => (g = 0 → touchB p q = false) ∧ q ≠ [] ∧ Apart ((g, q) :: r)
theorem touch_head {p q : List Nat} (h : q ≠ []) : ∃ c r, q = c :: r ∧ touchB p q = touchB p [c] := by
  cases q with
  | nil => exact absurd rfl h
  | cons c r => exact ⟨c, r, rfl, rfl⟩
theorem sep_lay {g : Nat} {p : List Nat} {r : List (Nat × List Nat)} {t : Nat} (h : Apart ((g, p) :: r)) : Sep p (lay r (List.replicate t 32)) := by
  intro c s e
  cases r with
  | nil =>
    cases t with
    | zero => cases e
    | succ t => simp only [lay, List.replicate_succ] at e; injection e with e1 e2; exact .inl e1.symm
  | cons x r =>
    obtain ⟨g', q⟩ := x
    obtain ⟨h1, h2, _⟩ := h
    cases g' with
    | succ g' =>
      rw [lay, List.replicate_succ, List.cons_append] at e
      injection e with e1 e2
      exact .inl e1.symm
    | zero =>
      obtain ⟨d, r', rfl, ht⟩ := touch_head (p := p) h2
      rw [lay, List.replicate_zero, List.nil_append, List.cons_append] at e
      injection e with e1 e2
      subst e1
      exact .inr (by rw [← ht]; exact h1 rfl)
theorem Apart.tail {x : Nat × List Nat} {r : List (Nat × List Nat)} (h : Apart (x :: r)) : Apart r := by
  cases r with
  | nil => trivial
  | cons y r => exact h.2.2
theorem tok_ne {p : List Nat} (h : Tok p) : p ≠ [] := by
  cases h with
  | word h0 _ => exact h0
  | int h0 _ => exact h0
  | neg h0 _ => simp
  | sm h => intro e; subst e; exact absurd h (by decide)
theorem split_lay {t : Nat} : ∀ {xs : List (Nat × List Nat)} {c : Nat}, Apart xs → (∀ x ∈ xs, Tok x.2) → splitL (lay xs (List.replicate t 32)) c = .ok ((xs.map (·.2)).zip (cols c xs))
  | [], c, _, _ => by
    have := splitL_spaces t (r := []) (col := c)
    rw [List.append_nil] at this
    rw [lay, this]
    rfl
  | (g, p) :: r, c, ha, ht => by
    have hp := ht (g, p) List.mem_cons_self
    have hl := tokLen_tok hp (sep_lay (t := t) ha)
    have hpos : 0 < p.length := List.length_pos_iff.mpr (tok_ne hp)
    rw [lay, splitL_spaces, splitL_tok (by rw [hl]; exact hpos), hl, List.drop_left, List.take_left, split_lay ha.tail fun x hx => ht x (List.mem_cons_of_mem _ hx)]
    rfl
theorem split_bad {t : Nat} : ∀ {xs ys : List (Nat × List Nat)} {g s c : Nat}, Apart (xs ++ (g, [s]) :: ys) → (∀ x ∈ xs, Tok x.2) → Strange s → ∃ e, splitL (lay (xs ++ (g, [s]) :: ys) (List.replicate t 32)) c = .error e ∧ (cols c (xs ++ (g, [s]) :: ys))[xs.length]? = some e
  | [], ys, g, s, c, ha, _, hs => by
    refine ⟨c + g, ?_, rfl⟩
    rw [List.nil_append, lay, splitL_spaces]
    exact splitL_bad (tokLen_strange hs (sep_lay (t := t) ha)) hs.2.2.1
  | (g', p) :: xs, ys, g, s, c, ha, ht, hs => by
    have hp := ht (g', p) List.mem_cons_self
    have hl : tokLen (p ++ lay (xs ++ (g, [s]) :: ys) (List.replicate t 32)) = p.length := tokLen_tok hp (sep_lay (t := t) ha)
    have hpos : 0 < p.length := List.length_pos_iff.mpr (tok_ne hp)
    obtain ⟨e, h1, h2⟩ := split_bad (t := t) (xs := xs) (ys := ys) (g := g) (s := s) (c := c + g' + p.length) ha.tail (fun x hx => ht x (List.mem_cons_of_mem _ hx)) hs
    refine ⟨e, ?_, h2⟩
    rw [List.cons_append, lay, splitL_spaces, splitL_tok (by rw [hl]; exact hpos), hl, List.drop_left, List.take_left, h1]
theorem lay_tail : ∀ {gs : List (Nat × List Nat)} {t : List Nat}, lay gs t = lay gs [] ++ t
  | [], _ => rfl
  | (g, p) :: r, t => by rw [lay, lay, lay_tail (gs := r) (t := t), List.append_assoc, List.append_assoc]
theorem lay_snoc : ∀ {gs : List (Nat × List Nat)} {g : Nat} {p : List Nat}, lay (gs ++ [(g, p)]) [] = lay gs [] ++ (List.replicate g 32 ++ p)
  | [], g, p => by simp [lay]
  | (g', p') :: r, g, p => by rw [List.cons_append, lay, lay_snoc (gs := r), lay, List.append_assoc, List.append_assoc]
theorem cols_snoc : ∀ {gs : List (Nat × List Nat)} {c g : Nat} {p : List Nat}, cols c (gs ++ [(g, p)]) = cols c gs ++ [c + (lay gs []).length + g]
  | [], c, g, p => by simp [lay, cols]
  | (g', p') :: r, c, g, p => by
    rw [List.cons_append, cols, cols_snoc (gs := r), cols, lay, List.cons_append]
    have : c + g' + p'.length + (lay r []).length + g = c + (List.replicate g' 32 ++ (p' ++ lay r [])).length + g := by
      rw [List.length_append, List.length_append, List.length_replicate]
      omega
    rw [this]
theorem apart_snoc : ∀ {gs : List (Nat × List Nat)} {g : Nat} {p : List Nat}, Apart gs → p ≠ [] → (∀ x, gs.getLast? = some x → g = 0 → touchB x.2 p = false) → Apart (gs ++ [(g, p)])
  | [], _, _, _, _, _ => trivial
  | [(g', q)], g, p, _, h0, h => ⟨fun e => h (g', q) rfl e, h0, trivial⟩
  | (g', q) :: (g2, q2) :: r, g, p, ha, h0, h => by
    obtain ⟨h1, h2, h3⟩ := ha
    exact ⟨h1, h2, apart_snoc h3 h0 fun x hx e => h x (by rw [List.getLast?_cons_cons]; exact hx) e⟩
theorem cols_len : ∀ {gs : List (Nat × List Nat)} {c : Nat}, (cols c gs).length = gs.length
  | [], _ => rfl
  | (g, p) :: r, c => by rw [cols, List.length_cons, cols_len, List.length_cons]
end El

set_option Elab.async false
set_option linter.all false
set_option maxRecDepth 100000
set_option maxHeartbeats 4000000
/-! Own words: an int times an instance of an own class (its __rmul__). -/
namespace El
open PySem PySem.Spec PyProof.Rows L2
section
variable {prog : Program} {w : World} {A : Around} {E : Value → Shared → Prop} {s : Shared}
/-- int.__mul__ declines an instance -/
theorem int_declines {x : Addr} {ox : Obj} {n : Int} {t : PySem.Tok} {Q : Option Value → Shared → Prop} (hx : s.heap.get? x = some ox) (hd : ox.data = .plain) (h : Q none s) :
    wpAny (model prog w) A (tryMethod (.int n t) (PySem.dunder "mul") (.ref x)) Q E s := by
  refine wpAny_tryMethod_declines (T := "int") (id := "int.__mul__") (typeIs_int s n t) F.slot_int_mul ?_
  refine wpAny_call (codeAny_call_builtin F.slot_int_mul.plain F.entry_int_mul (F.slot_int_mul.check _ _ _ _ _ _ _ _ (typeIs_int s n t) (F.args_int_mul_2 _ _) ?_))
  obtain ⟨hp, g, d, tk, os⟩ := s
  show wpAny _ _ (Builtin.Int.intBinary "__mul__" _ false ⟨[.int n t, .ref x], []⟩) _ _ _
  unfold Builtin.Int.intBinary
  refine wpAny_bind (wpAny_of_eq (a := (Value.int n t, [Value.ref x])) (by first | rfl | kernel_rfl) ?_)
  refine wpAny_bind (wpAny_of_eq (a := n) (by first | rfl | kernel_rfl) ?_)
  show wpAny _ _ (asInt? (.ref x) >>= _) _ _ _
  refine wpAny_bind ?_
  unfold asInt?
  refine wpAny_bind (wpAny_load hx ?_)
  rw [hd]
  refine wpAny_pure ?_
  exact wpAny_bind (wpAny_rule (wpAny_pure ⟨rfl, h⟩))
end
structure RevC (K : PySem.W.Frag) (C f : Addr) : Prop where
  sf : PySem.W.selfFirst K C = true
  mul : ∃ g : Addr, PySem.W.findIn K (.ref C) (PySem.dunder "mul") = some (some (.ref g))
  at_ : PySem.W.findIn K (.ref C) (PySem.dunderR "mul") = some (some (.ref f))
  fn : PySem.W.isFn K (.ref f) = true
  sub : PySem.W.subIn K (.ref C) (.type "int") = some false
section
open PySem.W PySem.Calls
variable {prog : Program} {w : World} {A : Around} {E : Value → Shared → Prop} {s : Shared} {K : PySem.W.Frag} {x C f : Addr} {ox : Obj} {od : Option Obj}
theorem rev_mul {n : Int} {t : PySem.Tok} {Q : Value → Shared → Prop} (X : K.In s.heap) (I : PySem.W.InstAt s.heap x ox C od) (hd : ox.data = .plain) (c : RevC K C f)
    (h : wpAny (model prog w) A (call (.ref f) [.ref x, .int n t]) (PySem.W.CmpBack Q) E s) : wpAny (model prog w) A (binaryOp .Mult (.int n t) (.ref x)) Q E s := by
  obtain ⟨cd, rest, hcd, hm⟩ := PySem.W.ksp_first c.sf
  obtain ⟨gm, hg⟩ := c.mul
  have one := PySem.W.ksp_try X I c.at_ c.fn h
  have hx := I.at_
  obtain ⟨hh, g, d, tt, os⟩ := s
  have L1 : Looks (model prog w) hh (typeOf (.int n t)) (.type "int") := Looks.of_pure rfl
  have L2 : Looks (model prog w) hh (typeOf (.ref x)) (.ref C) := I.type
  have L3 : Looks (model prog w) hh (fillsNumberSlot (.type "int") "mul") true := Looks.of_pure F.fills_int_mul
  have L4 : Looks (model prog w) hh (fillsNumberSlot (.ref C) "mul") true := fills_K X hcd hm hg
  have L5 : Looks (model prog w) hh (isSubtype (.ref C) (.type "int")) false := looks_subIn X c.sub
  have L7 : Looks (model prog w) hh (numberSlotInPython (.type "int") "mul") false := Looks.of_pure rfl
  have hne : (Value.type "int" == Value.ref C) = false := Bool.eq_false_iff.mpr fun q => by cases beq_iff_eq.mp q
  have hi : Operator.Mult.info = ("*", "mul") := rfl
  simp only [binaryOp, hi]
  refine wpAny_holding (wpAny_bind ?_)
  unfold binaryOp1
  refine wpAny_bind (L1.at (wpAny_bind (L2.at (wpAny_bind (L3.at ?_)))))
  simp only [hne, Bool.false_eq_true, if_false]
  ksp_lk
  refine int_declines hx hd ?_
  simp only [Bool.false_eq_true, if_false, Bool.not_false, Bool.and_self, if_true]
  refine wpAny_bind (wpAny_mono one (fun r s' hr' => ?_) fun _ _ e => e)
  obtain ⟨v, rfl, hq⟩ := hr'
  first
    | exact wpAny_bind (wpAny_rule (wpAny_pure (wpAny_pure hq)))
    | (ksp_lk; exact hq)
end
/-- n * a, a of the class at C: its __rmul__ -/
theorem op_revI {X : Cx} {CX : CXT} {k : Nat} {C f : Addr} {fd : FuncData} {ps : List Str} {sp : Sp} {E : XK} (c : RevC X.K C f) (F : FnOk X.prog X.w X.K X.mg X.base CX k f fd ps sp) (hr : Room k X.A) (hb : Binds X.K fd ps []) (hx : Passes CX X E) :
    OpR X (binaryOp .Mult) (fun x y H Q => ∃ a dx fs i, x = .int i ∧ y = .ref a ∧ H a = some (.ins C dx fs) ∧ sp [.ref a, .int i] H Q E) := by
  intro pins s σ H x y v u Q I rx ry h
  obtain ⟨a, dx, fs, i, rfl, rfl, ea, q⟩ := h
  obtain rfl : u = Value.ref a := ry
  obtain ⟨t, rfl⟩ := rx
  obtain ⟨mA, O, _⟩ := ins_get I.hok ea
  obtain ⟨od, J, _⟩ := O.look
  refine rev_mul I.kIn J rfl c ?_
  exact wpAny_mono (run_fn (us := [.ref a, .int i t]) (vs := [.ref a, .int i]) (ds := []) (dvs := []) F hr hb .nil hx I (.cons rfl (.cons ⟨t, rfl⟩ .nil)) q) (fun u' s' h' => cmpBack_of h') fun _ _ z => z
end El

set_option Elab.async false
set_option linter.all false
set_option maxRecDepth 100000
set_option maxHeartbeats 4000000
/-! Own words: methods of own classes, classes whose __init__ has defaults, tuple targets in comprehensions. -/
namespace El
open PySem PySem.Spec PyProof.Rows L2
structure CalM (P : Program) (w : World) (K : PySem.W.Frag) (mg : Str → Option Value) (base : Heap) (CX : CXT) (k : Nat) (C : Addr) (m : Str) (f : Addr) (fd : FuncData) (ps : List Str) (sp : Sp) : Prop extends CalB P w K mg base CX k f fd ps sp where
  cl : Cls K C
  me : Meth K C m f
/-- a class whose __init__ has defaults dvs that fill up -/
structure CalID (P : Program) (w : World) (K : PySem.W.Frag) (mg : Str → Option Value) (base : Heap) (CX : CXT) (k : Nat) (x : Str) (C f : Addr) (fd : FuncData) (ps : List Str) (dvs : List V) (sp : Sp) : Prop where
  G : FnOk P w K mg base CX k f fd ps sp
  b : ∃ ds, Vals dvs ds ∧ Binds K fd ps ds
  mkc : Mk K C f
  m : mg x = some (.ref C)
section
variable {X : Cx} {CX : CXT} {k : Nat} {C f : Addr} {fd : FuncData} {ps : List Str} {dvs : List V} {sp : Sp} {E : XK} {x : Str} {p pos : Pos} {e : Expr} {es : List Expr} {t : TA}
theorem pe_makeD (c : CalID X.prog X.w X.K X.mg X.base CX k x C f fd ps dvs sp) (hr : Room (k + 1) X.A) (hg : Gl X x) (hx : Passes CX X E) (ha : PA X (e :: es) t) (hdb : (x == ("__debug__" : Str)) = false := by decide)
    (he : starEach (e :: es) X.env = (false, eval e X.env) :: starEach es X.env := by rfl) (hpl : (backTo pos (starEach es X.env)).any (·.1) = false := by rfl) :
    PE X (.Call (.Name x p) (e :: es) [] pos) (tMake C sp dvs E t) := by
  obtain ⟨ds, hd, hb⟩ := c.b
  exact pe_make c.mkc c.G hr hg c.m hb hd hx ha hdb he hpl
end
section
variable {X : Cx}
theorem pg_tupK (K : PySem.W.Frag) {es : List Expr} {k : Nat} {t : TGs} {n : Nat} {pos : Pos} (hc : X.calm = true) (h : PGs X es t)
    (hn : (assignEach es X.env).length = n := by rfl) (hst : (assignEach es X.env).findIdx? (·.1) = none := by rfl) (hK : X.K = K := by rfl) : PG X (.Tuple es k pos) (gTup K n t) := hK ▸ pg_tup hc h hn hst
end
/-- a def of the text whose last parameter has a default -/
theorem fund_mk {K : PySem.W.Frag} {x qual : Str} {st : Stmt} {f T : Addr} {oc : Value} {od dd an : Option Addr} {osl dsl : Array (Option Value)} {kV doc pm cdv ct : Value} {its : Array Value} {n : Nat} {dvs : List V}
    (l : K.lookup f = some ⟨oc, od, .func (PySem.W.fnOf x qual (defArgs st) (defBody st) (defScope st) (.ref T) kV doc pm an cdv ct), osl⟩) (c : PySem.W.codeIn K cdv qual = true) (k : PySem.W.keepIn K (.ref f) = true)
    (lT : K.lookup T = some ⟨.type "tuple", dd, .seq its n, dsl⟩) (hv : Vals dvs its.toList) (hne : dvs ≠ []) : FunD K x qual (defArgs st) (defBody st) (defScope st) dvs [] f (PySem.W.fnOf x qual (defArgs st) (defBody st) (defScope st) (.ref T) kV doc pm an cdv ct) :=
  ⟨⟨oc, od, .ref T, kV, doc, pm, an, cdv, ct, osl, rfl, l, c, .inr ⟨hne, T, _, its.toList, n, rfl, lT, by simp, hv⟩, .inl rfl⟩, k⟩
end El

set_option Elab.async false
set_option linter.all false
set_option maxRecDepth 100000
set_option maxHeartbeats 4000000
/-! Own words: len(set(t)) of a tuple of any number of texts. -/
namespace El
open PySem PySem.Spec PyProof.Rows L2
/-- among the first i texts -/
def Has (xs : List Str) (i : Nat) : Str → Bool := fun y => (xs.take i).any (· == y)
/-- c different ones among the first i, as far as it is asked -/
def Cnt (xs : List Str) (i c : Nat) : Prop := c ≤ i ∧ (c = i ↔ (xs.take i).Nodup)
theorem has_iff {xs : List Str} {i : Nat} {y : Str} : Has xs i y = true ↔ y ∈ xs.take i := by
  unfold Has
  rw [List.any_eq_true]
  constructor
  · rintro ⟨z, hz, e⟩
    rw [beq_iff_eq] at e
    exact e ▸ hz
  · intro h
    exact ⟨y, h, beq_iff_eq.mpr rfl⟩
theorem take_more {xs : List Str} {i : Nat} {x : Str} (e : xs[i]? = some x) : xs.take (i + 1) = xs.take i ++ [x] := by rw [List.take_add_one, e]; rfl
theorem Cnt.nil (xs : List Str) : Cnt xs 0 0 := ⟨Nat.le_refl _, by simp⟩
theorem Cnt.more {xs : List Str} {i c : Nat} {x : Str} (h : Cnt xs i c) (e : xs[i]? = some x) : Cnt xs (i + 1) (if Has xs i x = true then c else c + 1) := by
  obtain ⟨h1, h2⟩ := h
  have hn : (xs.take (i + 1)).Nodup ↔ (xs.take i).Nodup ∧ x ∉ xs.take i := by
    rw [take_more e, List.nodup_append]
    constructor
    · rintro ⟨a, -, b⟩
      exact ⟨a, fun hx => b x hx x (List.mem_singleton.mpr rfl) rfl⟩
    · rintro ⟨a, b⟩
      refine ⟨a, by simp, fun y hy z hz => ?_⟩
      rw [List.mem_singleton] at hz
      intro q
      exact b (hz ▸ q ▸ hy)
  unfold Cnt
  rw [hn]
  by_cases q : Has xs i x = true
  · rw [if_pos q]
    refine ⟨by omega, ⟨fun z => absurd z (by omega), fun z => absurd (has_iff.mp q) z.2⟩⟩
  · rw [if_neg q]
    refine ⟨by omega, ⟨fun z => ⟨h2.mp (by omega), fun y => q (has_iff.mpr y)⟩, fun z => by rw [h2.mpr z.1]⟩⟩
section
variable {prog : Program} {w : World} {A : Around} {R : Result → Shared → Prop} {it : Addr} {fp wr : List Addr} {G : Array GenState → Array GenState → Prop} {n : Nat} {Pv : Nat → Value → Prop} {St : Nat → Shared → Prop}
theorem loopTx (W : WalksS prog w A.in1 it fp wr G n Pv St) (b : Addr) (hb : b ∉ fp) (xs : List Str) (hn : xs.length = n) (hs : n + 1 < scanBound) (hv : ∀ i v, Pv i v → ∃ t, v = .str (xs.getD i Str.empty) t) :
    ∀ (k i : Nat) (s : Shared), n - i = k → i ≤ n → St i s → (∃ c, Cnt xs i c ∧ s.heap.SetOf (PySem.strKind prog w) b (Has xs i) c) →
      (∀ s' c, Moved (b :: wr) G s s' → Cnt xs n c → s'.heap.SetOf (PySem.strKind prog w) b (Has xs n) c → R (.ok (.ret .none)) s') →
      codeAny (model prog w) A (.builtin "set.update.loop" ⟨[.ref b, .ref it], []⟩) R s := by
  have hbw : b ∉ wr := fun h => hb (W.sub _ h)
  have wsub : ∀ q ∈ wr, q ∈ b :: wr := fun q hq => List.mem_cons_of_mem _ hq
  intro k
  induction k with
  | zero =>
    rintro i s hk hi st ⟨c, hc, ho⟩ done
    obtain rfl : i = n := by omega
    refine codeAny_builtin PyProof.Rows.F.entry_set_update_loop ?_
    rw [Around.under_plainId PyProof.Rows.F.plain_set_update_loop _]
    refine wpAny_bind (m := pyNext (.ref it)) (W.done s _ _ st fun s1 mv => ?_)
    refine wpAny_pure (done s1 c (mv.mono wsub) hc ?_)
    obtain ⟨o, es, ep, tb, e, more⟩ := ho
    exact ⟨o, es, ep, tb, mv.heap b _ hbw e, more⟩
  | succ k ih =>
    rintro i s hk hi st ⟨c, hc, ho⟩ done
    have lt : i < n := by omega
    refine codeAny_builtin PyProof.Rows.F.entry_set_update_loop ?_
    rw [Around.under_plainId PyProof.Rows.F.plain_set_update_loop _]
    refine wpAny_bind (m := pyNext (.ref it)) (W.item i s _ _ lt st fun v s1 pv st1 mv => ?_)
    obtain ⟨t, rfl⟩ := hv i v pv
    have ei : xs[i]? = some (xs.getD i Str.empty) := by
      rw [List.getD_eq_getElem?_getD, List.getElem?_eq_getElem (by omega)]; rfl
    have ho1 : s1.heap.SetOf (PySem.strKind prog w) b (Has xs i) c := by
      obtain ⟨o, es, ep, tb, e, more⟩ := ho
      exact ⟨o, es, ep, tb, mv.heap b _ hbw e, more⟩
    refine wpAny_bind (m := holding [Value.str (xs.getD i Str.empty) t] (setAdd b (.str (xs.getD i Str.empty) t))) (wpAny_holding ?_)
    unfold setAdd
    refine wpAny_holding (wpAny_bind ((PySem.strKind prog w).pyHash (strKind_is _ _ _ _) ?_))
    have hlt : c + 1 < scanBound := by have := hc.1; omega
    refine wpAny_setAddHashed_of (knd := PySem.strKind prog w) (s := { s1 with toks := s1.toks + 1 }) (strKind_is _ _ _ _) rfl ho1 hlt fun h' same ho2 => ?_
    have ho3 : h'.SetOf (PySem.strKind prog w) b (Has xs (i + 1)) (if Has xs i (xs.getD i Str.empty) = true then c else c + 1) := by
      refine SetOf_congr ho2 (fun y => ?_) rfl
      rw [Bool.eq_iff_iff, has_iff, take_more ei, List.mem_append, List.mem_singleton, Bool.or_eq_true, has_iff, decide_eq_true_iff]
    refine wpAny_pure ⟨plainId_quiet PyProof.Rows.F.plain_set_update_loop _, ih (i + 1) _ (by omega) lt (W.frame _ s1 _ _ st1 (Nat.le_succ _) fun q hq o e => ?_) ⟨_, hc.more ei, ho3⟩ fun s2 c2 mv2 hc2 hS2 => ?_⟩
    · exact (same.2 q fun z => hb (z ▸ hq)).trans e
    · refine done s2 c2 (Moved.trans W.gtrans ((mv.mono wsub).then_heap (Nat.le_succ _) fun q o hq e => ?_) mv2) hc2 hS2
      exact (same.2 q fun z => hq (z ▸ List.mem_cons_self)).trans e
end
/-- a new set's object -/
def setObj (led : Bool) : Obj := { cls := .type "set", dict := none, data := .set #[] 0 (.fresh 0 0 led) }
section
variable {prog : Program} {w : World} {A : Around} {E : Value → Shared → Prop} {s : Shared}
/-- what set.__init__ does to a new set with a tuple of texts -/
theorem init_tx {l : Addr} {items : Array Value} {xs : List Str} {led : Bool} (hh : A.handled = none) (hl : s.heap.IsTuple l items) (hi : PyProof.Rows.StrsAre items.toList xs) (hx : xs.length + 1 < scanBound) :
    codeAny (model prog w) A (.call (.builtin "set.__init__") ⟨[.ref s.heap.objs.size, .ref l], []⟩)
      (wants (fun r s2 => r = .none ∧ ∃ h' tk c, s2 = { s with heap := h', toks := tk } ∧ Cnt xs xs.length c ∧ h'.SetOf (PySem.strKind prog w) s.heap.objs.size (Has xs xs.length) c ∧ (∀ q o, s.heap.get? q = some o → h'.get? q = some o)) E)
      { s with heap := s.heap.push (setObj led) } := by
  have hT : Shared.TypeIs { s with heap := s.heap.push (setObj led) } (.ref s.heap.objs.size) "set" := ⟨_, Heap.get?_push_size _ rfl, rfl⟩
  refine codeAny_call_builtin PySem.F.called_set.init.plain PySem.F.entry_set_init (check_set_init_1 hT ?_)
  obtain ⟨⟨kc, kd, kx, ks⟩, hol, hcl, nl, hdl⟩ := hl
  simp only at hcl hdl
  subst hcl hdl
  have hol' : (s.heap.push (setObj led)).get? l = some _ := Heap.get?_push_of_some _ hol
  have hl1 : (s.heap.push (setObj led)).IsTuple l items := ⟨_, hol', rfl, nl, rfl⟩
  have hsls := PySem.F.sub_tuple_set
  have hslf := PySem.F.sub_tuple_frozenset
  have hne : (Value.type "tuple" == Value.type "dict") = false := by decide
  unfold Builtin.«set.__init__» noKeywords Builtin.Frozenset.updateFrom
  generalize ePI : pyIter = PI
  wp_walk
  subst ePI
  refine wpAny_pyIter_tuple hl1 (wpAny_bind (wpAny_runValue ?_))
  have below : l < s.heap.objs.size := Heap.lt_size hol
  have nh : A.in1.in1.handled = none := by simp [hh]
  have z1 : (s.heap.push (setObj led)).objs.size = s.heap.objs.size + 1 := Heap.size_push ..
  have apart : l ≠ (s.heap.push (setObj led)).objs.size := by
    rw [z1]
    exact Nat.ne_of_lt (Nat.lt_succ_of_lt below)
  have out : s.heap.objs.size ∉ [(s.heap.push (setObj led)).objs.size, l] := by
    rw [List.mem_cons, List.mem_singleton, z1]
    exact fun q => q.elim (Nat.ne_of_lt (Nat.lt_succ_self _)) (Nat.ne_of_gt below)
  have zx : xs.length = items.size := by rw [← StrsAre.len_eq hi, Array.length_toList]
  refine loopTx ((Walks.tuple nh _ l apart items).toS) s.heap.objs.size out xs zx (zx ▸ hx) (fun i v e => SS.strs_at hi i v (Array.getElem?_toList ▸ e)) (items.size - 0) 0 _ (by omega) (Nat.zero_le _) ?at_ ?first ?last
  case at_ => exact ⟨⟨_, Heap.get?_push_size _ rfl, rfl, rfl⟩, hl1.push _⟩
  case first =>
    refine ⟨0, Cnt.nil xs, ?_⟩
    refine SetOf_congr ((PyProof.Rows.setObjOf_fresh (knd := PySem.strKind prog w) led).setOf (Heap.get?_push_of_some _ (Heap.get?_push_size _ rfl)) (by unfold scanBound; omega)) (fun y => ?_) rfl
    rfl
  case last =>
    rintro ⟨h', g', d', tk', os'⟩ c mv hc ho
    obtain rfl : g' = s.gens := mv.gens
    obtain rfl : d' = s.drawn := mv.drawn
    obtain rfl : os' = s.os := mv.os
    refine wpAny_pure (wpAny_pure ⟨rfl, h', tk', c, rfl, zx ▸ hc, zx ▸ ho, fun q o e => ?_⟩)
    have lq := Heap.lt_size e
    refine mv.heap q o (by rw [List.mem_cons, List.mem_singleton, z1]; exact fun z => z.elim (Nat.ne_of_lt lq) (Nat.ne_of_lt (Nat.lt_succ_of_lt lq))) (Heap.get?_push_of_some _ (Heap.get?_push_of_some _ e))
set_option maxHeartbeats 8000000 in
theorem call_set_tx {l : Addr} {items : Array Value} {xs : List Str} {Q : Value → Shared → Prop} (hh : A.handled = none) (hl : s.heap.IsTuple l items) (hi : PyProof.Rows.StrsAre items.toList xs) (hx : xs.length + 1 < scanBound)
    (h : ∀ (h' : Heap) (tk c : Nat), Cnt xs xs.length c → h'.SetOf (PySem.strKind prog w) s.heap.objs.size (Has xs xs.length) c → (∀ q o, s.heap.get? q = some o → h'.get? q = some o) → Q (.ref s.heap.objs.size) { s with heap := h', toks := tk }) :
    wpAny (model prog w) A (call (.type "set") [.ref l]) Q E s := by
  obtain ⟨_, _, hmro⟩ := PySem.F.called_set.mro
  have hmade := PySem.F.called_set.made
  have hsub := PySem.F.called_set.sub
  have h1 := PySem.F.called_set.notType
  have h2 := PySem.F.called_set.canCreate
  have hct := PySem.F.typeCall_set_1 (.ref l)
  refine wpAny_call (codeAny_of_tree (wpAny_pure (a := _) ⟨Code.quiet_builtin _ (by decide +kernel), codeAny_builtin PySem.F.entry_type_call ?_⟩))
  rw [Around.under_plain (weight_type_call_type "set" [.ref l] []) rfl]
  repeat (any_goals (first | assumption | wp_step))
  refine codeAny_mono (code_set_new_1 (.ref l) (E := E) (Q₁ := fun v s1 => ∃ led, v = .ref s.heap.objs.size ∧ s1 = { s with heap := s.heap.push (setObj led) }) fun led => ⟨led, rfl, rfl⟩) fun r s1 hr => ?_
  match r, hr with
  | .ok (.ret v), hr =>
    obtain ⟨led, rfl, rfl⟩ := hr
    have hS : (s.heap.push (setObj led)).get? s.heap.objs.size = some (setObj led) := Heap.get?_push_size _ rfl
    have hT : Shared.TypeIs { s with heap := s.heap.push (setObj led) } (.ref s.heap.objs.size) "set" := ⟨_, hS, rfl⟩
    have hli := PySem.F.called_set.init.lookup
    have hbi := PySem.F.called_set.init.bind (.ref s.heap.objs.size)
    repeat (any_goals (first | assumption | wp_step))
    refine codeAny_mono (init_tx (E := E) (by simp [hh]) hl hi hx) fun r s2 hr => ?_
    match r, hr with
    | .ok (.ret v), hr =>
      obtain ⟨rfl, h', tk, c, rfl, hc, ho, keep⟩ := hr
      repeat (any_goals (first | assumption | wp_step))
      exact h h' tk c hc ho keep
    | .error e, hr => exact hr
    | .ok .next, hr => exact hr.elim
    | .ok .brk, hr => exact hr.elim
    | .ok .cont, hr => exact hr.elim
  | .error e, hr => exact hr
  | .ok .next, hr => exact hr.elim
  | .ok .brk, hr => exact hr.elim
  | .ok .cont, hr => exact hr.elim
end
/-- len(set(t)), t a tuple of texts: how many different ones, so far as it matters here -/
def tLenSetTx (K : PySem.W.Frag) (ta : TE) : TE := fun σ H Q => ta σ H fun x H1 => ∃ (l : Addr) (xs : List Str), x = .ref l ∧ SqT K H1 l (xs.map V.str) ∧ xs.length < 64 ∧ ∀ c : Nat, c ≤ xs.length → (c = xs.length ↔ xs.Nodup) → Q (.int c) H1
theorem pe_lenSetTx {X : Cx} {a : Expr} {ta : TE} {p p2 q pos : Pos} (hg : Gl X "len") (hm : X.mg "len" = none) (hg2 : Gl X "set") (hm2 : X.mg "set" = none) (ha : PE X a ta) (hc : X.calm = true := by rfl)
    (na : starEach [a] X.env = (false, eval a X.env) :: starEach [] X.env := by rfl) : PE X (.Call (.Name "len" p) [.Call (.Name "set" p2) [a] [] q] [] pos) (tLenSetTx X.K ta) := by
  refine ⟨fun pins s σ H Q I h => Call_ (ld_blt I hg hm boot_len (PyProof.Rows.callWith_builtin1 (PyProof.Rows.args_cons (Call_ (ld_blt I hg2 hm2 boot_set (PyProof.Rows.callWith_type1 (PyProof.Rows.args_cons (thn (ha.run pins s σ H _ I h) fun v s1 ⟨x, H1, I1, r1, q1⟩ => PyProof.Rows.args_nil ?_) na) na rfl))) rfl) rfl rfl))⟩
  obtain ⟨l, xs, rfl, ht, few, q1⟩ := q1
  obtain rfl : v = Value.ref l := r1
  obtain ⟨its, rv, pl, _⟩ := I1.tuple ht
  refine call_set_tx (I1.ok.hd hc) pl (by simpa using strsAre_of rv) (by unfold scanBound; omega) fun h' tk c hcn hS keep => PyProof.Rows.args_nil ?_
  obtain ⟨o, es, ep, tb, ho, hex, hd, _, _, _, hf, hn⟩ := hS
  have I2 : Inv X pins σ H1 { s1 with heap := h', toks := tk } := I1.kept keep
  obtain ⟨c1, c2⟩ := hcn
  rw [List.take_length] at c2
  exact call_len_set ho hex hd hf (by rw [hn]; omega) ⟨.int c, H1, I2.tok _, ⟨_, by rw [hn]⟩, q1 c c1 c2⟩
end El

set_option Elab.async false
set_option linter.all false
set_option maxRecDepth 100000
set_option maxHeartbeats 4000000
/-! Own words: own class op int and int * own class, also inside a try; the bundles for them. -/
namespace El
open PySem PySem.Spec PyProof.Rows L2
section
variable {X : Cx} {CX : CXT} {k : Nat} {C f : Addr} {fd : FuncData} {ps : List Str} {sp : Sp} {E : L2.St → XK} {op : Operator} {a b : Expr} {ta tb : TE} {pos : Pos}
def tOwnSI (C : Addr) (sp : Sp) (E : L2.St → XK) (ta tb : TE) : TE := fun σ H Q => ta σ H fun x H1 => tb σ H1 fun y H2 => ∃ a dx fs i, x = .ref a ∧ y = .int i ∧ H2 a = some (.ins C dx fs) ∧ sp [.ref a, .int i] H2 Q (E σ)
theorem pe_bopSI (c : OpT X.K C f op "int") (F : FnOk X.prog X.w X.K X.mg X.base CX k f fd ps sp) (hr : Room k X.A) (hb : Binds X.K fd ps []) (hx : ∀ σ, PassesAt CX X σ (E σ)) (ha : PE X a ta) (hb2 : PE X b tb) : PE X (.BinOp a op b pos) (tOwnSI C sp E ta tb) := by
  refine ⟨fun pins s σ H Q I h => ?_⟩
  refine wpAny_BinOp (thn (ha.run pins s σ H _ I h) fun v s1 ⟨x, H1, I1, rx, q1⟩ => thn (hb2.run pins s1 σ H1 _ I1 q1) fun u s2 ⟨y, H2, I2, ry, a, dx, fs, i, ex, ey, ea, q⟩ => ?_)
  subst ex ey
  obtain rfl : v = Value.ref a := rx
  obtain ⟨t, rfl⟩ := ry
  obtain ⟨m, fr⟩ := I2.fr
  obtain ⟨mA, O, _⟩ := ins_get I2.hok ea
  obtain ⟨od, J, _⟩ := O.look
  obtain ⟨rc, hr1, hr2⟩ := c.hr
  obtain ⟨fo, h1⟩ := c.h1
  obtain ⟨ro, h2⟩ := c.h2
  refine PySem.W.ksp_binT fr I2.ok.mod.kin J (T := "int") rfl c.c.sf c.c.at_ c.c.fn hr1 hr2 h1 h2 c.sub ?_
  refine wpAny_mono (run_fnS (us := [.ref a, .int i t]) (vs := [.ref a, .int i]) F hr hb (hx σ) I2 (.cons rfl (.cons ⟨t, rfl⟩ .nil)) q) (fun u' s' h' => cmpBack_of h') fun _ _ z => z
def tRevS (C : Addr) (sp : Sp) (E : L2.St → XK) (ta tb : TE) : TE := fun σ H Q => ta σ H fun x H1 => tb σ H1 fun y H2 => ∃ a dx fs i, x = .int i ∧ y = .ref a ∧ H2 a = some (.ins C dx fs) ∧ sp [.ref a, .int i] H2 Q (E σ)
theorem pe_revS (c : RevC X.K C f) (F : FnOk X.prog X.w X.K X.mg X.base CX k f fd ps sp) (hr : Room k X.A) (hb : Binds X.K fd ps []) (hx : ∀ σ, PassesAt CX X σ (E σ)) (ha : PE X a ta) (hb2 : PE X b tb) : PE X (.BinOp a .Mult b pos) (tRevS C sp E ta tb) := by
  refine ⟨fun pins s σ H Q I h => ?_⟩
  refine wpAny_BinOp (thn (ha.run pins s σ H _ I h) fun v s1 ⟨x, H1, I1, rx, q1⟩ => thn (hb2.run pins s1 σ H1 _ I1 q1) fun u s2 ⟨y, H2, I2, ry, a, dx, fs, i, ex, ey, ea, q⟩ => ?_)
  subst ex ey
  obtain rfl : u = Value.ref a := ry
  obtain ⟨t, rfl⟩ := rx
  obtain ⟨mA, O, _⟩ := ins_get I2.hok ea
  obtain ⟨od, J, _⟩ := O.look
  refine rev_mul I2.kIn J rfl c ?_
  refine wpAny_mono (run_fnS (us := [.ref a, .int i t]) (vs := [.ref a, .int i]) F hr hb (hx σ) I2 (.cons rfl (.cons ⟨t, rfl⟩ .nil)) q) (fun u' s' h' => cmpBack_of h') fun _ _ z => z
end
/-- a op n and n * a, ready to be used -/
structure CalOT (P : Program) (w : World) (K : PySem.W.Frag) (mg : Str → Option Value) (base : Heap) (CX : CXT) (k : Nat) (C : Addr) (op : Operator) (f : Addr) (fd : FuncData) (ps : List Str) (sp : Sp) : Prop extends CalB P w K mg base CX k f fd ps sp where
  op : OpT K C f op "int"
structure CalR (P : Program) (w : World) (K : PySem.W.Frag) (mg : Str → Option Value) (base : Heap) (CX : CXT) (k : Nat) (C f : Addr) (fd : FuncData) (ps : List Str) (sp : Sp) : Prop extends CalB P w K mg base CX k f fd ps sp where
  rv : RevC K C f
end El

set_option Elab.async false
set_option linter.all false
set_option maxRecDepth 100000
set_option maxHeartbeats 4000000
/-! Own words: static methods and callable objects inside a try; exception classes that inherit their __init__. -/
namespace El
open PySem PySem.Spec PyProof.Rows L2
section
variable {X : Cx} {CX : CXT} {k : Nat} {C p g f : Addr} {mc : Value} {fd : FuncData} {ps : List Str} {sp : Sp} {E : L2.St → XK} {o e fe : Expr} {es : List Expr} {m : Str} {pos apos : Pos} {ta tf : TE} {t : TA} {pl : Sem Bool}
theorem code_fnS {pins : List (Addr × Obj)} {σ : L2.St} {H : Hp} {s : Shared} {Q : VK} {us : List Value} {vs : List V} (F : FnOk X.prog X.w X.K X.mg X.base CX k f fd ps sp) (hr : Room k X.A) (hb : Binds X.K fd ps []) (hx : PassesAt CX X σ (E σ))
    (I : Inv X pins σ H s) (r : Vals vs us) (h : sp vs H Q (E σ)) : codeAny (model X.prog X.w) X.A (.call (.ref f) ⟨us, []⟩) (fun r s' => match r with | .ok (.ret u) => EP X pins σ Q u s' | .error e => X.xe e s' | _ => False) s := by
  have hl : us.length = ps.length := by rw [← r.length]; exact F.len _ _ _ _ h
  have b := hb s us I.kIn (by rw [List.append_nil]; exact hl)
  rw [List.append_nil] at b
  refine codeAny_mono (F.run X.A X.stack s H ⟨us, []⟩ us vs Q (E σ) hr I.env0 b r h) fun r s' hq => ?_
  cases r with
  | error e => exact hx pins H s e s' I hq
  | ok fl =>
    cases fl with
    | ret u => exact I.after hq
    | next => exact False.elim hq
    | brk => exact False.elim hq
    | cont => exact False.elim hq
/-- C.m(e, ..), what it lets out being taken where it stands -/
def tSMS (C : Addr) (sp : Sp) (E : L2.St → XK) (ta : TE) (t : TA) : TE := fun σ H Q => ta σ H fun x H1 => x = .ref C ∧ t σ H1 fun vs H2 => sp vs H2 Q (E σ)
theorem pe_smethS (he : PE X o ta) (r : ClX.CRead X.K C mc) (c : SMet X.K C mc m p g) (F : FnOk X.prog X.w X.K X.mg X.base CX k g fd ps sp) (hr : Room k X.A) (hb : Binds X.K fd ps []) (hx : ∀ σ, PassesAt CX X σ (E σ)) (ha : PA X (e :: es) t)
    (hst : starEach (e :: es) X.env = (false, eval e X.env) :: starEach es X.env := by rfl) (hpl : (backTo pos (starEach es X.env)).any (·.1) = false := by rfl)
    (ht : eval (.Call (.Attribute o m apos) (e :: es) [] pos) X.env = (do
      let ov ← eval o X.env
      standAt apos.atName
      let (f, first) ← holding [ov] (getMethod ov m pl)
      callWith pos f first (backTo pos (starEach (e :: es) X.env)) (backToKw pos (keywordEach [] X.env))) := by rfl) :
    PE X (.Call (.Attribute o m apos) (e :: es) [] pos) (tSMS C sp E ta t) := by
  refine ⟨fun pins s σ H Q I h => ?_⟩
  refine PySem.W.methodCall_KW (pl := pl) (thn (he.run pins s σ H _ I h) fun u s1 ⟨x, H1, I1, rx, ex, q⟩ => ?_) ht
  subst ex
  obtain rfl : u = Value.ref C := rx
  refine getsm_ok I1 r c fun s2 I2 => ?_
  refine PySem.W.callWith_K (h₀ := X.base) I2.ok.mod.kin c.kp (thn (ha.run pos pins s2 σ H1 _ I2 q) fun us s3 ⟨vs, H2, I3, rv, q2⟩ => ⟨I3.kIn, ?_⟩) hst hpl
  exact run_fnS F hr hb (hx σ) I3 rv q2
/-- f(e, ..), f an instance of C, what it lets out being taken where it stands -/
def tCallOS (C : Addr) (sp : Sp) (E : L2.St → XK) (tf : TE) (t : TA) : TE := fun σ H Q => tf σ H fun y H1 => ∃ a, y = V.ref a ∧ t σ H1 fun vs H2 => (∃ dx fs, H2 a = some (.ins C dx fs)) ∧ sp (V.ref a :: vs) H2 Q (E σ)
theorem pe_callOS (hf : PE X fe tf) (c : StX.CallO X.K C g) (F : FnOk X.prog X.w X.K X.mg X.base CX k g fd ps sp) (hb : Binds X.K fd ps []) (hr : Room k X.A) (hx : ∀ σ, PassesAt CX X σ (E σ)) (ha : PA X (e :: es) t)
    (ht : eval (.Call fe (e :: es) [] pos) X.env = (do callWith pos (← eval fe X.env) [] (backTo pos (starEach (e :: es) X.env)) (backToKw pos (keywordEach [] X.env))) := by rfl)
    (he : starEach (e :: es) X.env = (false, eval e X.env) :: starEach es X.env := by rfl) (hpl : (backTo pos (starEach es X.env)).any (·.1) = false := by rfl) : PE X (.Call fe (e :: es) [] pos) (tCallOS C sp E tf t) := by
  refine ⟨fun pins s σ H Q I h => ?_⟩
  refine Call_ (thn (hf.run pins s σ H _ I h) fun u s1 ⟨y, H1, I1, ry, a, ey, q⟩ => ?_) ht
  subst ey
  obtain rfl : u = Value.ref a := ry
  refine StX.callO_with (thn (ha.run pos pins s1 σ H1 _ I1 q) fun us s2 ⟨vs, H2, I2, r, hi, q2⟩ => ?_) he hpl
  obtain ⟨ox, od, J, hd⟩ := StX.insC_at I2 (.inr hi)
  refine ⟨⟨C, ox, od, J, hd⟩, ?_⟩
  refine wpAny_call (PySem.W.kco_code I2.kIn J hd c.at_ c.fn c.fi (codeAny_mono (code_fnS (us := .ref a :: us) (vs := .ref a :: vs) F hr hb (hx σ) I2 (.cons rfl r) q2) fun r s' h => ?_))
  cases r with
  | error e => exact h
  | ok fl =>
    cases fl with
    | ret u => exact h
    | next => exact False.elim h
    | brk => exact False.elim h
    | cont => exact False.elim h
end

/-! ### an exception class C whose __init__ is that of D above it -/
open NdefX
structure ExI (K : PySem.W.Frag) (C D fI : Addr) (fields : List Str) : Prop where
  oex : OexC K C
  sup : PySem.W.ks_superIn K C D "__init__" = some (some (.builtin "ValueError.__init__"))
  subV : PySem.W.subIn K (.ref C) (.type "ValueError") = some true
  mro : PySem.W.mroIn K C (.ref D) = some true
  iC : PySem.W.findIn K (.ref C) "__init__" = some (some (.ref fI))
  tI : PySem.W.typeIn K (.ref fI) = some (.type "function")
  no : ∀ f ∈ fields, PySem.W.findIn K (.ref C) f = some none
  xf : XfC K C
  is : ExcC K C
theorem exi_mk {K : PySem.W.Frag} {C D fI N : Addr} {fields : List Str} {nm q : Str} {bs bm : List Value} {sn : List Str} {sub : List Value} {ab : Bool} {col : Option Bool} {dd : Option Addr} {k0 k1 k2 k3 k5 : Option Value}
    (cls : K.lookup C = some (excClassObj nm q C N bs bm true sn sub ab col dd k0 k1 k2 k3 k5 "ValueError.__new__")) (ref : PySem.HandSPX.refsVE bm = true)
    (sa : PySem.W.findIn K (.ref C) "__setattr__" = some (some (.builtin "object.__setattr__"))) (exC : PySem.W.subIn K (.ref C) (.type "BaseException") = some true) (tyC : PySem.W.typeIn K (.ref C) = some (.type "type")) (kC : PySem.W.keepIn K (.ref C) = true)
    (sup : PySem.W.ks_superIn K C D "__init__" = some (some (.builtin "ValueError.__init__"))) (subV : PySem.W.subIn K (.ref C) (.type "ValueError") = some true) (mro : PySem.W.mroIn K C (.ref D) = some true)
    (iC : PySem.W.findIn K (.ref C) "__init__" = some (some (.ref fI))) (tI : PySem.W.typeIn K (.ref fI) = some (.type "function")) (no : ∀ f ∈ fields, PySem.W.findIn K (.ref C) f = some none)
    (ga : PySem.W.findIn K (.ref C) "__getattribute__" = some (some (.builtin "BaseException.__getattribute__"))) (gg : PySem.W.findIn K (.ref C) "__getattr__" = some none) (hd : PySem.W.hasDictIn K C = true)
    (hcl : PySem.W.findIn K (.ref C) "__class__" = some (some (.builtin "object.__class__"))) (hn : PySem.W.specialIn K (.builtin "object.__class__") "__get__" = some (some (.builtin "getset_descriptor.__get__"))) (ht : PySem.W.takesIn K (.builtin "object.__class__") = some true) (hm : PySem.W.mroIn K C (.type "object") = some true) : ExI K C D fI fields :=
  ⟨⟨⟨nm, q, N, bs, bm, sn, sub, ab, col, dd, k0, k1, k2, k3, k5, cls, ref⟩, sa, exC, tyC, kC⟩, sup, subV, mro, iC, tI, no, ⟨ga, gg, exC, hd⟩, ⟨ga, gg, exC, hd, hcl, hn, ht, hm⟩⟩
structure CalEI (P : Program) (w : World) (K : PySem.W.Frag) (mg : Str → Option Value) (base : Heap) (k : Nat) (x : Str) (C f : Addr) (fd : FuncData) (ps : List Str) (ok : List V → Prop) (fs : List V → List (Str × V)) (fields : List Str) : Prop where
  G : FnOk P w K mg base CX0 k f fd ps (spE C ok fs)
  b : Binds K fd ps []
  X : ∃ D, ExI K C D f fields
  m : mg x = some (.ref C)
theorem CalEI.oex {P : Program} {w : World} {K : PySem.W.Frag} {mg : Str → Option Value} {base : Heap} {k : Nat} {x : Str} {C f : Addr} {fd : FuncData} {ps : List Str} {ok : List V → Prop} {fs : List V → List (Str × V)} {fields : List Str} (c : CalEI P w K mg base k x C f fd ps ok fs fields) : OexC K C := by obtain ⟨D, X⟩ := c.X; exact X.oex
theorem CalEI.iC {P : Program} {w : World} {K : PySem.W.Frag} {mg : Str → Option Value} {base : Heap} {k : Nat} {x : Str} {C f : Addr} {fd : FuncData} {ps : List Str} {ok : List V → Prop} {fs : List V → List (Str × V)} {fields : List Str} (c : CalEI P w K mg base k x C f fd ps ok fs fields) : PySem.W.findIn K (.ref C) "__init__" = some (some (.ref f)) := by obtain ⟨D, X⟩ := c.X; exact X.iC
theorem CalEI.tI {P : Program} {w : World} {K : PySem.W.Frag} {mg : Str → Option Value} {base : Heap} {k : Nat} {x : Str} {C f : Addr} {fd : FuncData} {ps : List Str} {ok : List V → Prop} {fs : List V → List (Str × V)} {fields : List Str} (c : CalEI P w K mg base k x C f fd ps ok fs fields) : PySem.W.typeIn K (.ref f) = some (.type "function") := by obtain ⟨D, X⟩ := c.X; exact X.tI
/-! ### characters whose repr is bounded -/
def Asc (z : Str) : Prop := ∀ c ∈ z.cps.toList, c < 16 ^ 8
theorem repr_le {z : Str} (h : Asc z) (hl : z.length ≤ 1000) : (reprText z).length ≤ 10002 := Nat.le_trans (PySem.StrLaws.reprText_len z h) (by omega)
end El

set_option Elab.async false
set_option linter.all false
set_option maxRecDepth 100000
set_option maxHeartbeats 4000000
/-! Own words: the text of an int as codes, a token, read back. -/
namespace El
open PySem PySem.Spec PyProof.Rows
theorem num_pos (n : Nat) : ((toString ((n : Nat) : Int) : String) : Str).cps.toList = (Nat.toDigits 10 n).map Char.toNat := PySem.W.KIN.signs_num n
theorem num_neg (n : Nat) : ((toString (Int.negSucc n) : String) : Str).cps.toList = 45 :: (Nat.toDigits 10 (n + 1)).map Char.toNat := by
  rw [signs_ofString]
  have e : (toString (Int.negSucc n) : String).toList = '-' :: (Nat.repr (n + 1)).toList := by
    show ("-" ++ Nat.repr (n + 1)).toList = _
    rw [String.toList_append]
    rfl
  rw [e, List.map_cons, Nat.toList_repr]
  rfl
theorem digits_all (n : Nat) : ∀ c ∈ (Nat.toDigits 10 n).map Char.toNat, 48 ≤ c ∧ c ≤ 57 := by
  intro c hc
  obtain ⟨ch, hch, e⟩ := List.mem_map.mp hc
  have r := digit_range (Nat.isDigit_of_mem_toDigits (by decide) (by decide) hch)
  rw [← e]
  exact r
theorem digits_ne (n : Nat) : (Nat.toDigits 10 n).map Char.toNat ≠ [] := by
  intro e
  exact Nat.toDigits_ne_nil (List.map_eq_nil_iff.mp e)
theorem digits_isD (n : Nat) : ∀ c ∈ (Nat.toDigits 10 n).map Char.toNat, isD c = true := fun c hc => isD_iff.mpr (digits_all n c hc)
theorem num_tok (i : Int) : Tok ((toString i : String) : Str).cps.toList := by
  cases i with
  | ofNat n => rw [show Int.ofNat n = ((n : Nat) : Int) from rfl, num_pos]; exact .int (digits_ne n) (digits_isD n)
  | negSucc n => rw [num_neg]; exact .neg (digits_ne _) (digits_isD _)
theorem num_last (i : Int) : isD (((toString i : String) : Str).cps.toList.getLastD 0) = true := by
  cases i with
  | ofNat n =>
    rw [show Int.ofNat n = ((n : Nat) : Int) from rfl, num_pos]
    exact digits_isD n _ (getLastD_mem (digits_ne n))
  | negSucc n =>
    rw [num_neg]
    have h := digits_ne (n + 1)
    have h2 := digits_isD (n + 1)
    generalize (Nat.toDigits 10 (n + 1)).map Char.toNat = xs at h h2
    cases xs with
    | nil => exact absurd rfl h
    | cons a r => exact h2 _ (getLastD_mem (p := a :: r) h)
theorem num_reads' {i : Int} (h : ((toString i : String) : Str).length ≤ 4300) : PySem.intText? ((toString i : String) : Str) = some i := by
  cases i with
  | ofNat n =>
    have e := PySem.intText_digits (x := ((toString ((n : Nat) : Int) : String) : Str)) (by rw [num_pos]; exact digits_all n) (by rw [num_pos]; exact digits_ne n) h
    rw [num_pos, PySem.W.KIN.val_back] at e
    exact e
  | negSucc n =>
    have e := PySem.intText_neg (x := ((toString (Int.negSucc n) : String) : Str)) (num_neg n) (digits_all _) (digits_ne _) h
    rw [PySem.W.KIN.val_back] at e
    rw [e]
    congr 1
/-- a text out of codes -/
def mkS (p : List Nat) : Str := ⟨p.toArray⟩
theorem mkS_cps (p : List Nat) : (mkS p).cps.toList = p := rfl
theorem mkS_len (p : List Nat) : (mkS p).length = p.length := rfl
theorem mkS_of {z : Str} {p : List Nat} (h : z.cps.toList = p) : z = mkS p := by
  cases z
  subst h
  rfl
theorem mkS_self (z : Str) : mkS z.cps.toList = z := (mkS_of rfl).symm
end El

set_option Elab.async false
set_option linter.all false
set_option maxRecDepth 100000
set_option maxHeartbeats 4000000
/-! Own words: len(set(t)) of a tuple of tuples of texts. -/
namespace El
open PySem PySem.Spec PyProof.Rows L2

/-! ### the way of a search, said of places alone -/
abbrev stt (t : SetTable) (h : Int) (c : Nat) : SetTable.Probe := nth t.mask (runAt t.mask (SetTable.bits h % (t.mask + 1)) (SetTable.bits h)) c
theorem stt_on (t : SetTable) (h : Int) (c q : Nat) : nth t.mask (stt t h c) q = stt t h (c + q) := (nth_add t.mask c _ q).symm
theorem adv_clean {m : Nat} {p : SetTable.Probe} (h : p.dummy = none) : (adv m p).dummy = none := by
  unfold adv
  split
  · exact h
  · exact h
theorem nth_clean (m : Nat) : ∀ (n : Nat) (p : SetTable.Probe), p.dummy = none → (nth m p n).dummy = none
  | 0, _, h => h
  | n + 1, p, h => nth_clean m n (adv m p) (adv_clean h)
theorem probe_at {t : SetTable} {rows : List Int} (T : TabOk t rows) (at_ : Nat → Int) (h : Int) {K c : Nat} (kf : K < 10 * SetTable.turns t.mask) (kn : way t.mask h K ∉ t.place.toList) (kb : ∀ q, q < K → way t.mask h q ∈ t.place.toList) (hc : c ≤ K) :
    (∃ q i, c ≤ q ∧ q < K ∧ t.place.toList[i]? = some (way t.mask h q) ∧ at_ i = h ∧ (∀ q' i', c ≤ q' → q' < q → t.place.toList[i']? = some (way t.mask h q') → at_ i' ≠ h) ∧ t.probe at_ h (stt t h c) = some (.candidate (way t.mask h q) i (stt t h (q + 1)))) ∨
    ((∀ q' i', c ≤ q' → q' < K → t.place.toList[i']? = some (way t.mask h q') → at_ i' ≠ h) ∧ t.probe at_ h (stt t h c) = some (.empty (way t.mask h K) none)) := by
  have mv : ∀ q, (nth t.mask (stt t h c) q).j = way t.mask h (c + q) := fun q => congrArg SetTable.Probe.j (stt_on t h c q)
  have back : ∀ q', c ≤ q' → way t.mask h q' = (nth t.mask (stt t h c) (q' - c)).j := fun q' hq => by
    rw [mv]
    exact congrArg (way t.mask h) (by omega)
  rcases go_spec t T.ris T.dm at_ h (10 * SetTable.turns t.mask) (K - c) (stt t h c) (nth_clean _ _ _ rfl) (by omega) (fun q hq => by rw [mv]; exact kb _ (by omega)) (by rw [← back K hc]; exact kn) with ⟨q, i, l, e1, e2, free, e3⟩ | ⟨free, e3⟩
  · refine .inl ⟨c + q, i, Nat.le_add_right _ _, by omega, by rw [← mv]; exact e1, e2, fun q' i' a b d => free (q' - c) i' (by omega) (by rw [← back q' a]; exact d), ?_⟩
    rw [mv, stt_on] at e3
    exact e3
  · refine .inr ⟨fun q' i' a b d => free (q' - c) i' (by omega) (by rw [← back q' a]; exact d), ?_⟩
    rw [← back K hc] at e3
    exact e3

section
variable {P : Program} {w : World} {A : Around} {E : Value → Shared → Prop} {s : Shared}
/-- the tuple at b holds the texts k -/
abbrev Tk (P : Program) (w : World) (h : Heap) (k : List Str) (b : Addr) : Prop := IsTupleKey (PySem.strKind P w) h k b
abbrev hs (P : Program) (w : World) (k : List Str) : Int := tupleKeyHash (PySem.strKind P w) k
def Txs (vs : List Value) : Prop := ∀ v ∈ vs, ∃ x t, v = Value.str x t
theorem Txs.of {k : List Str} {vs : List Value} (h : ItemsAre (PySem.strKind P w) k vs) : Txs vs := by
  induction h with
  | nil => exact fun _ z => nomatch z
  | cons one _ more =>
    intro v hv
    cases hv with
    | head => obtain ⟨t, e⟩ := Value.isStrOf_shape one; exact ⟨_, t, e⟩
    | tail _ hv => exact more v hv
theorem Txs.tl {v : Value} {vs : List Value} (h : Txs (v :: vs)) : Txs vs := fun u hu => h u (List.mem_cons_of_mem _ hu)
theorem class_tx (n : Nat) (x : Str) (t : PySem.Tok) : ofAClassStatement n (.str x t) = pure false := by cases n <;> rfl
theorem byval_tx (n : Nat) (x : Str) (t : PySem.Tok) : hashByValue n (.str x t) = pure false := by cases n <;> simp [hashByValue]
theorem class_tk {k : List Str} {b : Addr} {Q : Bool → Shared → Prop} (hk : Tk P w s.heap k b) (q : Q false s) : wpAny (model P w) A (ofAClassStatement 8 (.ref b)) Q E s := by
  have ty := hk.typeIs
  obtain ⟨ob, its, c, e1, _, e2, e3⟩ := hk
  have tx := Txs.of e3
  unfold ofAClassStatement
  refine wpAny_bind (wpAny_typeOf ty ?_)
  have same : (("tuple" : String) == "tuple") = true := by decide
  simp only [same, if_true, Bool.not_true, Bool.false_eq_true, if_false]
  try refine wpAny_bind (wpAny_pure ?_)
  try simp only [Bool.not_true, Bool.false_eq_true, if_false]
  refine wpAny_bind (m := seqItems? (.ref b)) (wpAny_seqItems e1 e2 ?_)
  refine wpAny_bind ?_
  show wpAny _ _ (forIn its _ _) _ _ s
  rw [← Array.forIn_toList]
  refine wpAny_forIn_list _ (fun left st s1 => Txs left ∧ st.1 = none ∧ s1 = s) _ (fun v left st s1 => ?_) (fun st s1 => ?_) _ _ ⟨tx, rfl, rfl⟩
  · rintro ⟨tx, e, rfl⟩
    obtain ⟨x, t, rfl⟩ := tx v List.mem_cons_self
    rw [class_tx]
    refine wpAny_bind (wpAny_pure ?_)
    simp only [Bool.false_eq_true, if_false]
    exact wpAny_pure ⟨tx.tl, rfl, rfl⟩
  · obtain ⟨u1, u2⟩ := st
    rintro ⟨_, e, rfl⟩
    cases (show u1 = none from e)
    exact wpAny_pure q
theorem byval_tk {k : List Str} {b : Addr} {Q : Bool → Shared → Prop} (hk : Tk P w s.heap k b) (q : ∀ c, Q c s) : wpAny (model P w) A (hashByValue 8 (.ref b)) Q E s := by
  have ty := hk.typeIs
  obtain ⟨ob, its, c, e1, _, e2, e3⟩ := hk
  have tx := Txs.of e3
  unfold hashByValue
  refine wpAny_bind (wpAny_specialOf ty PySem.F.slot_tuple_hash.lookup ?_)
  refine wpAny_bind (m := seqItems? (.ref b)) (wpAny_seqItems e1 e2 ?_)
  refine wpAny_bind ?_
  show wpAny _ _ (forIn its _ _) _ _ s
  rw [← Array.forIn_toList]
  refine wpAny_forIn_list _ (fun left st s1 => Txs left ∧ s1 = s) _ (fun v left st s1 => ?_) (fun st s1 => ?_) _ _ ⟨tx, rfl⟩
  · rintro ⟨tx, rfl⟩
    obtain ⟨x, t, rfl⟩ := tx v List.mem_cons_self
    rw [byval_tx]
    refine wpAny_bind (wpAny_pure ?_)
    simp only [Bool.not_false, if_true]
    exact wpAny_pure (wpAny_pure (q _))
  · obtain ⟨u1, u2⟩ := st
    rintro ⟨_, rfl⟩
    cases u1 with
    | none => exact wpAny_pure (q _)
    | some c => exact wpAny_pure (q _)
def Tks (P : Program) (w : World) (h : Heap) (vs : List Value) : Prop := ∀ v ∈ vs, ∃ k b, v = Value.ref b ∧ Tk P w h k b
theorem seen_tk {k : List Str} {b : Addr} {Q : Bool → Shared → Prop} (hk : Tk P w s.heap k b) {vs : List Value} (hv : Tks P w s.heap vs) (q : Q false s) : wpAny (model P w) A (searchCouldBeSeen (.ref b) vs) Q E s := by
  unfold searchCouldBeSeen
  refine wpAny_bind (wpAny_forIn_list _ (fun left st s1 => Tks P w s.heap left ∧ st.1 = none ∧ s1 = s) _ (fun v left st s1 => ?_) (fun st s1 => ?_) _ _ ⟨hv, rfl, rfl⟩)
  · rintro ⟨hv, e, rfl⟩
    obtain ⟨k2, c, rfl, hc⟩ := hv v List.mem_cons_self
    have fin : Tks P w s1.heap left ∧ (none : Option Bool) = none ∧ s1 = s1 := ⟨fun u hu => hv u (List.mem_cons_of_mem _ hu), rfl, rfl⟩
    dsimp only
    by_cases z : (b == c || (carriedByValue (.ref b) && carriedByValue (.ref c))) = true
    · exact wp_if_pos z (wpAny_pure fin)
    · refine wp_if_neg z (wpAny_bind (wpAny_eqIsQuiet_tuple hk ?_))
      simp only [Bool.not_true, Bool.false_eq_true, if_false]
      refine wpAny_bind (wpAny_eqIsQuiet_tuple hc ?_)
      simp only [Bool.not_true, Bool.false_eq_true, if_false]
      refine wpAny_bind (class_tk hk ?_)
      simp only [Bool.false_eq_true, if_false]
      refine wpAny_bind (class_tk hc ?_)
      simp only [Bool.false_eq_true, if_false]
      exact wpAny_pure fin
  · obtain ⟨u1, u2⟩ := st
    rintro ⟨_, e, rfl⟩
    cases (show u1 = none from e)
    exact wpAny_pure q

/-! ### a set of tuples of texts -/
def row (P : Program) (w : World) (p : Addr × List Str) : Int × Value := (hs P w p.2, Value.ref p.1)
structure Bag (P : Program) (w : World) (h : Heap) (a : Addr) (L : List (Addr × List Str)) (es : Array (Int × Value)) (ep : Nat) (t : SetTable) : Prop where
  ob : ∃ o, h.get? a = some o ∧ o.ExactSet ∧ o.data = .set es ep t
  rows : es.toList = L.map (row P w)
  tab : TabOk t (L.map fun p => hs P w p.2)
  led : w.params.followText "set-order" = true ∨ t.led = true
  room : L.length * 5 < t.mask * 3
  few : L.length < 64
  tk : ∀ p ∈ L, Tk P w h p.2 p.1
  nd : (L.map (·.2)).Nodup
variable {a : Addr} {L : List (Addr × List Str)} {es : Array (Int × Value)} {ep : Nat} {t : SetTable}
theorem size_rows (e : es.toList = L.map (row P w)) : es.size = L.length := by
  rw [← Array.length_toList, e, List.length_map]
theorem fits_of (e : es.toList = L.map (row P w)) (z : t.place.size = L.length) (d : t.dummies = #[]) (l : L.length ≤ t.mask) : t.fits es.size = true := by
  unfold SetTable.fits SetTable.fill
  rw [d, size_rows e, z, Bool.and_eq_true, beq_iff_eq, decide_eq_true_eq]
  exact ⟨rfl, l⟩
theorem Bag.szp (B : Bag P w s.heap a L es ep t) : t.place.size = L.length := by rw [B.tab.sz, List.length_map]
theorem Bag.lem (B : Bag P w s.heap a L es ep t) : L.length ≤ t.mask := by have := B.room; omega
theorem Bag.fits (B : Bag P w s.heap a L es ep t) : t.fits es.size = true := fits_of B.rows B.szp B.tab.dm B.lem
theorem row_at (e : es.toList = L.map (row P w)) {i : Nat} {p : Addr × List Str} (h : L[i]? = some p) : es[i]? = some (row P w p) := by
  rw [← Array.getElem?_toList, e, List.getElem?_map, h]
  rfl
/-- the search for k from step c of its way on -/
theorem seek (B : Bag P w s.heap a L es ep t) {x : Addr} {k : List Str} (hx : Tk P w s.heap k x) (hu : A.units < cLine) {K : Nat} (kf : K < 10 * SetTable.turns t.mask) (kn : way t.mask (hs P w k) K ∉ t.place.toList) (kb : ∀ q, q < K → way t.mask (hs P w k) q ∈ t.place.toList)
    {Q : SetFound → Shared → Prop} (yes : k ∈ L.map (·.2) → Q (.there none) s) (no : k ∉ L.map (·.2) → Q (.free (way t.mask (hs P w k) K) false) s) :
    ∀ (f c : Nat) (from_ : Option SetTable.Probe), from_.getD (t.probeStart (hs P w k)) = stt t (hs P w k) c → c ≤ K → K - c < f →
      (∀ (i : Nat) (p : Addr × List Str), L[i]? = some p → p.2 = k → ∃ q, c ≤ q ∧ q < K ∧ t.place.toList[i]? = some (way t.mask (hs P w k) q)) → wpAny (model P w) A (setSearchFrom a (.ref x) (hs P w k) true f from_) Q E s := by
  intro f
  induction f with
  | zero => exact fun c _ _ _ h => absurd h (Nat.not_lt_zero _)
  | succ f ih =>
    intro c from_ ef hc hf ahead
    obtain ⟨o, e1, e2, e3⟩ := B.ob
    have ld : ∀ {R : Array (Int × Value) × Nat × SetTable → Shared → Prop}, R (es, ep, t) s → wpAny (model P w) A (setState a) R E s := fun r => wpAny_setState_of e1 e3 B.fits r
    rw [setSearchFrom_succ]
    refine wpAny_bind (ld ?_)
    dsimp only
    refine wp_if_neg (by unfold SetTable.gaveWay; rw [mask_odd B.tab.mok]; decide) ?_
    try refine wpAny_bind (wpAny_pure ?_)
    have hat : ∀ (i : Nat) (p : Addr × List Str), L[i]? = some p → (fun i : Nat => (es[i]?.map (·.1)).getD 0) i = hs P w p.2 := fun i p hp => by
      show (es[i]?.map (·.1)).getD 0 = _
      rw [row_at B.rows hp]
      rfl
    rw [ef]
    rcases probe_at B.tab (fun i : Nat => (es[i]?.map (·.1)).getD 0) (hs P w k) kf kn kb hc with ⟨q, i, l1, l2, hi, hh, clear, pr⟩ | ⟨clear, pr⟩
    · rw [pr]
      dsimp only
      have il : i < L.length := by
        have h1 := (List.getElem?_eq_some_iff.mp hi).1
        rw [Array.length_toList, B.szp] at h1
        exact h1
      obtain ⟨p, hp⟩ : ∃ p, L[i]? = some p := ⟨_, List.getElem?_eq_getElem il⟩
      have pm := List.mem_of_getElem? hp
      have go : wpAny (model P w) A (searchRest a (.ref x) (hs P w k) true f es t (way t.mask (hs P w k) q) i (stt t (hs P w k) (q + 1))) Q E s := by
        unfold searchRest
        rw [row_at B.rows hp]
        dsimp only [row]
        refine wpAny_bind (wpAny_holding (wpAny_eqBool_tuple hu (B.tk p pm) hx (wpAny_bind (ld ?_))))
        dsimp only
        by_cases hk : p.2 = k
        · exact wp_if_pos (by simp [hk]) (wpAny_pure (yes (List.mem_map.mpr ⟨p, pm, hk⟩)))
        refine wp_if_neg (by simp [hk]) ?_
        try refine wpAny_bind (wpAny_pure ?_)
        rw [sameMem]
        have live : t.slot (way t.mask (hs P w k) q) = .live i := slot_live B.tab.ris hi
        simp only [if_true, live, row_at B.rows hp, row]
        refine wpAny_bind (wpAny_isSame_ref_self (wpAny_bind (wpAny_pure ?_)))
        simp only [if_true]
        refine wp_if_neg (by simp [hk]) (ih (q + 1) _ rfl l2 (by omega) fun i0 p0 h0 k0 => ?_)
        obtain ⟨q0, a1, a2, a3⟩ := ahead i0 p0 h0 k0
        refine ⟨q0, Nat.lt_of_le_of_ne (Nat.le_of_not_lt fun z => clear q0 i0 a1 z a3 ((hat i0 p0 h0).trans (congrArg (hs P w) k0))) fun z => hk ?_, a2, a3⟩
        have s0 := slot_live B.tab.ris a3
        rw [← z, live] at s0
        cases s0
        cases hp.symm.trans h0
        exact k0
      by_cases hl : t.led = true
      · refine wp_if_neg (by simp [hl]) ?_
        try refine wpAny_bind (wpAny_pure ?_)
        exact go
      · refine wp_if_pos (by simp [hl]) (wpAny_bind (seen_tk hx (fun v hv => ?_) ?_))
        · obtain ⟨r, hr, rfl⟩ := List.mem_map.mp hv
          have hr : r ∈ es := (by simpa using hr : r ∈ es ∧ r.1 = hs P w k).1
          have hr : r ∈ es.toList := by simpa using hr
          rw [B.rows] at hr
          obtain ⟨p2, m2, rfl⟩ := List.mem_map.mp hr
          exact ⟨p2.2, p2.1, rfl, B.tk p2 m2⟩
        · refine wp_if_neg (by decide) ?_
          try refine wpAny_bind (wpAny_pure ?_)
          exact go
    · rw [pr]
      refine wpAny_pure (no fun hm => ?_)
      obtain ⟨p0, m0, k0⟩ := List.mem_map.mp hm
      obtain ⟨i0, l0, h0⟩ := List.getElem_of_mem m0
      have h0 : L[i0]? = some p0 := by rw [List.getElem?_eq_getElem l0, h0]
      obtain ⟨q0, a1, a2, a3⟩ := ahead i0 p0 h0 k0
      exact clear q0 i0 a1 a2 a3 ((hat i0 p0 h0).trans (congrArg (hs P w) k0))
theorem sought (B : Bag P w s.heap a L es ep t) {x : Addr} {k : List Str} (hx : Tk P w s.heap k x) (hu : A.units < cLine) {Q : SetFound → Shared → Prop} (yes : k ∈ L.map (·.2) → Q (.there none) s)
    (no : ∀ K, k ∉ L.map (·.2) → way t.mask (hs P w k) K ∉ t.place.toList → (∀ q, q < K → way t.mask (hs P w k) q ∈ t.place.toList) → Q (.free (way t.mask (hs P w k) K) false) s) :
    wpAny (model P w) A (setSearch a (.ref x) (hs P w k) true) Q E s := by
  obtain ⟨K, kf, kn, kb⟩ := B.tab.first (by rw [List.length_map]; exact B.lem) (hs P w k)
  have small : K < 100000 := by
    have : SetTable.turns t.mask ≤ 142 := by
      unfold SetTable.turns
      rcases B.tab.mok with e | e | e <;> omega
    omega
  refine seek B hx hu kf kn kb yes (fun n => no K n kn kb) 100000 0 none rfl (Nat.zero_le _) small fun i p hp hk => ?_
  have il : i < t.place.toList.length := by
    rw [Array.length_toList, B.szp]
    exact (List.getElem?_eq_some_iff.mp hp).1
  obtain ⟨q, l, e⟩ := B.tab.before (h := hs P w k) kn (by rw [List.getElem?_map, hp, ← hk]; rfl) (List.getElem?_eq_getElem il)
  exact ⟨q, Nat.zero_le _, l, by rw [e]; exact List.getElem?_eq_getElem il⟩

/-! ### the table laid anew -/
theorem all_of_range {α : Type} : ∀ L : List α, (List.range L.length).filterMap (fun i => L[i]?) = L
  | [] => rfl
  | x :: r => by
    rw [List.length_cons, List.range_succ_eq_map, List.filterMap_cons_some (f := fun i => (x :: r)[i]?) (b := x) rfl, List.filterMap_map]
    exact congrArg (x :: ·) (all_of_range r)
theorem picked {f : Addr × List Str → Int} (g : Nat → Int) (hg : ∀ (i : Nat) (p : Addr × List Str), L[i]? = some p → g i = f p) : ∀ l : List Nat, (∀ i ∈ l, i < L.length) → (l.filterMap fun i => L[i]?).map f = l.map g
  | [], _ => rfl
  | i :: l, h => by
    obtain ⟨p, e⟩ : ∃ p, L[i]? = some p := ⟨_, List.getElem?_eq_getElem (h i List.mem_cons_self)⟩
    rw [List.filterMap_cons_some e, List.map_cons, List.map_cons, picked g hg l fun j hj => h j (List.mem_cons_of_mem _ hj), hg i p e]
theorem tk_but {h h' : Heap} {k : List Str} {b : Addr} {o : Obj} (z : Tk P w h k b) (ho : h.get? a = some o) (hd : o.data = .set es ep t) (sb : Heap.SameBut a h h') : Tk P w h' k b := by
  obtain ⟨o2, its, c, e1, e2, e3, e4⟩ := z
  refine ⟨o2, its, c, (sb.2 b fun e => ?_).trans e1, e2, e3, e4⟩
  cases (e ▸ e1 : h.get? a = some o2).symm.trans ho
  rw [hd] at e3
  cases e3
theorem relaid_at {o : Obj} (ho : s.heap.get? a = some o) (hx : o.ExactSet) (hd : o.data = .set es ep t) (rows : es.toList = L.map (row P w)) (zp : t.place.size = L.length) (dm : t.dummies = #[]) (lm : L.length ≤ t.mask)
    (led : w.params.followText "set-order" = true ∨ t.led = true) (few : L.length < 64) (tk : ∀ p ∈ L, Tk P w s.heap p.2 p.1) (nd : (L.map (·.2)).Nodup) {wanted M : Nat} (hw : SetTable.sizeAbove wanted = M + 1) (mok : MaskOk M) (room : L.length * 5 < M * 3)
    {Q : Unit → Shared → Prop} (q : ∀ h' L' es' ep' t', Heap.SameBut a s.heap h' → Bag P w h' a L' es' ep' t' → L'.Perm L → Q () { s with heap := h' }) : wpAny (model P w) A (setRelay a wanted) Q E s := by
  have zs := size_rows rows
  have M128 : M + 1 ≤ 128 := by rcases mok with e | e | e <;> omega
  obtain ⟨t2, order, e1, pm, T, em, el, _, _⟩ := relaid_ok t (hs := es.map (·.1)) (wanted := wanted) (by rw [hw]; rfl) mok (by rw [Array.size_map, zs]; omega)
  rw [Array.size_map, zs] at pm
  have below : ∀ i ∈ order.toList, i < L.length := fun i hi => List.mem_range.mp (pm.mem_iff.mp hi)
  have same : ∀ i : Nat, es[i]? = (L[i]?).map (row P w) := fun i => by rw [← Array.getElem?_toList, rows, List.getElem?_map]
  have rows2 : (order.filterMap (es[·]?)).toList = (order.toList.filterMap fun i => L[i]?).map (row P w) := by
    rw [Array.toList_filterMap, List.map_filterMap]
    exact congrArg (fun f => List.filterMap f order.toList) (funext same)
  have pl : (order.toList.filterMap fun i => L[i]?).Perm L := by
    have z := pm.filterMap fun i => L[i]?
    rw [all_of_range] at z
    exact z
  rw [← picked (L := L) (f := fun p => hs P w p.2) _ (fun i p hp => by
    have z : (es.map (·.1))[i]? = some (hs P w p.2) := by
      rw [Array.getElem?_map, same, hp]
      rfl
    rw [Array.getD_eq_getD_getElem?, z]
    rfl) order.toList below] at T
  generalize (order.toList.filterMap fun i => L[i]?) = L2 at rows2 pl T
  have z2 : (order.filterMap (es[·]?)).size = es.size := by rw [size_rows rows2, zs, pl.length_eq]
  rw [setRelay_eq]
  refine wpAny_bind (wpAny_setState_of ho hd (fits_of rows zp dm lm) ?_)
  dsimp only
  refine wp_if_neg (by rw [hw, sizeLine_eq]; omega) ?_
  try refine wpAny_bind (wpAny_pure ?_)
  rw [e1]
  refine wpAny_bind (wp_if_neg (by rw [z2]; simp) ?_)
  try refine wpAny_bind (wpAny_pure ?_)
  refine wpAny_pure (wpAny_storeSet_of ho hd ?_ (by rw [z2, zs, sizeLine_eq]; omega))
  have sb : Heap.SameBut a s.heap (s.heap.update a (Obj.putSet (order.filterMap (es[·]?)) t2)) := Heap.SameBut.update ..
  refine q _ L2 _ (ep + 1) t2 sb ⟨⟨_, store_at ho hd, ⟨hx.1, hx.2.1, hx.2.2⟩, rfl⟩, rows2, T, by rw [el]; exact led, by rw [pl.length_eq, em]; exact room, by rw [pl.length_eq]; exact few, fun p hp => tk_but (tk p (pl.mem_iff.mp hp)) ho hd sb, ?_⟩ pl
  exact (pl.map (·.2)).nodup_iff.mpr nd

/-! ### one more -/
theorem tab_plain {t : SetTable} {rows : List Int} (T : TabOk t rows) (b : Bool) : TabOk { t with plain := b } rows := ⟨T.ris, T.dm, T.sz, T.mok, T.bd, T.reach⟩
theorem added (B : Bag P w s.heap a L es ep t) {x : Addr} {k : List Str} (hx : Tk P w s.heap k x) (hu : A.units < cLine) (few : L.length + 1 < 64) {Q : Bool → Shared → Prop}
    (q : ∀ b h' L' es' ep' t', Heap.SameBut a s.heap h' → Bag P w h' a L' es' ep' t' → (k ∈ L.map (·.2) → L' = L) → (k ∉ L.map (·.2) → L'.Perm ((x, k) :: L)) → Q b { s with heap := h' }) :
    wpAny (model P w) A (setAddHashed a (.ref x) (hs P w k)) Q E s := by
  obtain ⟨o, e1, e2, e3⟩ := B.ob
  have ld : ∀ {R : Array (Int × Value) × Nat × SetTable → Shared → Prop}, R (es, ep, t) s → wpAny (model P w) A (setState a) R E s := fun r => wpAny_setState_of e1 e3 B.fits r
  unfold setAddHashed
  refine wpAny_holding ?_
  rw [show 100000 = 99999 + 1 from rfl, setAddHashedIn_succ]
  refine wpAny_bind (ld ?_)
  dsimp only
  refine wp_if_neg (by simp [byScan, Value.scannable]) ?_
  try refine wpAny_bind (wpAny_pure ?_)
  refine wpAny_bind (sought B hx hu (fun m => wpAny_pure (q false s.heap L es ep t (Heap.SameBut.refl a s.heap) B (fun _ => rfl) fun z => absurd m z)) fun K m kn kb => wpAny_bind (ld ?_))
  dsimp only
  obtain ⟨p1, p2, T, p4, p5, _, _, _, p9⟩ := B.tab.put kn kb
  rw [List.length_map] at p9
  have tf0 : ∀ b, ({ (t.put (way t.mask (hs P w k) K)).1 with plain := b } : SetTable).fill = L.length + 1 := fun b => p9
  generalize t.put (way t.mask (hs P w k) K) = pt at *
  obtain ⟨t1, at_⟩ := pt
  dsimp only at *
  subst p1
  have rows1 : (SetTable.insertAt es (SetTable.below t.place (way t.mask (hs P w k) K)) (hs P w k, Value.ref x)).toList = (L.take (SetTable.below t.place (way t.mask (hs P w k) K)) ++ (x, k) :: L.drop (SetTable.below t.place (way t.mask (hs P w k) K))).map (row P w) := by
    rw [SetTable.toList_insertAt, B.rows, List.map_append, List.map_cons, List.map_take, List.map_drop]
    rfl
  have T1 : TabOk t1 ((L.take (SetTable.below t.place (way t.mask (hs P w k) K)) ++ (x, k) :: L.drop (SetTable.below t.place (way t.mask (hs P w k) K))).map fun p => hs P w p.2) := by
    rw [List.map_append, List.map_cons, List.map_take, List.map_drop]
    exact T
  have pm := put_perm L (SetTable.below t.place (way t.mask (hs P w k) K)) (x, k)
  generalize SetTable.insertAt es (SetTable.below t.place (way t.mask (hs P w k) K)) (hs P w k, Value.ref x) = es1 at rows1 ⊢
  generalize L.take (SetTable.below t.place (way t.mask (hs P w k) K)) ++ (x, k) :: L.drop (SetTable.below t.place (way t.mask (hs P w k) K)) = L1 at rows1 T1 pm
  have l1 : L1.length = L.length + 1 := pm.length_eq
  have nd1 : (L1.map (·.2)).Nodup := (pm.map (·.2)).nodup_iff.mpr (List.nodup_cons.mpr ⟨m, B.nd⟩)
  have rest : ∀ b : Bool, wpAny (model P w) A (do
      storeSet a es1 (if b then t1 else { t1 with plain := false })
      if !false && (if b then t1 else { t1 with plain := false } : SetTable).tooFull then setRelay a (SetTable.grown (es.size + 1))
      return true) Q E s := fun b => by
    have Tb : TabOk (if b then t1 else { t1 with plain := false } : SetTable) (L1.map fun p => hs P w p.2) := by
      cases b
      · exact tab_plain T1 false
      · exact T1
    have mb : (if b then t1 else { t1 with plain := false } : SetTable).mask = t.mask := by cases b <;> exact p4
    have lb : (if b then t1 else { t1 with plain := false } : SetTable).led = t.led := by cases b <;> exact p5
    have fb : (if b then t1 else { t1 with plain := false } : SetTable).fill = L.length + 1 := by cases b <;> exact p9
    generalize (if b then t1 else { t1 with plain := false } : SetTable) = t2 at Tb mb lb fb ⊢
    refine wpAny_bind (wpAny_storeSet_of e1 e3 ?_ (by rw [size_rows rows1, l1, sizeLine_eq]; omega))
    have sb : Heap.SameBut a s.heap (s.heap.update a (Obj.putSet es1 t2)) := Heap.SameBut.update ..
    have ho := store_at (es' := es1) (t' := t2) e1 e3
    generalize s.heap.update a (Obj.putSet es1 t2) = h1 at sb ho ⊢
    have tk1 : ∀ p ∈ L1, Tk P w h1 p.2 p.1 := fun p hp => by
      cases pm.mem_iff.mp hp with
      | head => exact tk_but hx e1 e3 sb
      | tail _ hp => exact tk_but (B.tk p hp) e1 e3 sb
    have rm := B.room
    by_cases full : t2.tooFull = true
    · have much : t2.mask * 3 ≤ (L.length + 1) * 5 := by
        unfold SetTable.tooFull at full
        rw [decide_eq_true_eq, fb] at full
        exact full
      have at2 : (t.mask = 7 ∧ L.length = 4) ∨ (t.mask = 31 ∧ L.length = 18) := by
        rcases B.tab.mok with e | e | e <;> rw [mb, e] at much <;> rw [e] at rm <;> omega
      have go : ∀ M, SetTable.sizeAbove (SetTable.grown (L.length + 1)) = M + 1 → MaskOk M → L1.length * 5 < M * 3 → wpAny (model P w) A (setRelay a (SetTable.grown (L.length + 1))) (fun _ s1 => wpAny (model P w) A (pure true) Q E s1) E { s with heap := h1 } := fun M z1 z2 z3 =>
        relaid_at (s := { s with heap := h1 }) ho ⟨e2.1, e2.2.1, e2.2.2⟩ rfl rows1 (by rw [Tb.sz, List.length_map]) Tb.dm (by rw [mb, l1]; rcases at2 with ⟨u, v⟩ | ⟨u, v⟩ <;> omega) (by rw [lb]; exact B.led) (by omega) tk1 nd1 z1 z2 z3
          fun h2 L2 es2 ep2 t2 sb2 B2 pm2 => wpAny_pure (q true h2 L2 es2 ep2 t2 (sb.trans sb2) B2 (fun z => absurd z m) fun _ => pm2.trans pm)
      rw [size_rows B.rows]
      have both : wpAny (model P w) A (setRelay a (SetTable.grown (L.length + 1))) (fun _ s1 => wpAny (model P w) A (pure true) Q E s1) E { s with heap := h1 } := by
        rcases at2 with ⟨_, v⟩ | ⟨_, v⟩
        · exact go 31 (by rw [v, size_20]) (.inr (.inl rfl)) (by omega)
        · exact go 127 (by rw [v, size_76]) (.inr (.inr rfl)) (by omega)
      simp only [Bool.not_false, full, Bool.and_self, if_true]
      exact wpAny_bind both
    · simp only [Bool.not_false, full, Bool.true_and, Bool.false_eq_true, if_false]
      refine wpAny_bind (wpAny_pure (wpAny_pure (q true h1 L1 es1 _ t2 sb ⟨⟨_, ho, ⟨e2.1, e2.2.1, e2.2.2⟩, rfl⟩, rows1, Tb, by rw [lb]; exact B.led, ?_, by omega, tk1, nd1⟩ (fun z => absurd z m) fun _ => pm)))
      unfold SetTable.tooFull at full
      rw [decide_eq_true_eq, fb] at full
      omega
  by_cases hp : t1.plain = true
  · refine wp_if_pos hp (wpAny_bind (byval_tk hx fun b => ?_))
    exact rest b
  · refine wp_if_neg hp (wpAny_bind (wpAny_pure ?_))
    exact rest true
end

/-! ### the whole of a tuple -/
/-- what a set has of the first i -/
structure Cov (ks : List (Addr × List Str)) (i : Nat) (L : List (Addr × List Str)) : Prop where
  mem : ∀ k, k ∈ L.map (·.2) ↔ k ∈ (ks.take i).map (·.2)
  le : L.length ≤ i
  full : L.length = i ↔ ((ks.take i).map (·.2)).Nodup
theorem Cov.nil (ks : List (Addr × List Str)) : Cov ks 0 [] := ⟨fun _ => Iff.rfl, Nat.le_refl _, by simp⟩
theorem Cov.more {ks L L' : List (Addr × List Str)} {i : Nat} {x : Addr × List Str} (c : Cov ks i L) (e : ks[i]? = some x) (h1 : x.2 ∈ L.map (·.2) → L' = L) (h2 : x.2 ∉ L.map (·.2) → L'.Perm ((x.1, x.2) :: L)) : Cov ks (i + 1) L' := by
  have tk : (ks.take (i + 1)).map (·.2) = (ks.take i).map (·.2) ++ [x.2] := by
    rw [List.take_add_one, e, List.map_append]
    rfl
  have nd : ((ks.take (i + 1)).map (·.2)).Nodup ↔ ((ks.take i).map (·.2)).Nodup ∧ x.2 ∉ L.map (·.2) := by
    rw [tk, List.nodup_append]
    constructor
    · rintro ⟨a, _, b⟩
      exact ⟨a, fun h => b _ ((c.mem _).mp h) _ (List.mem_singleton.mpr rfl) rfl⟩
    · rintro ⟨a, b⟩
      refine ⟨a, by simp, fun y hy z hz q => b ((c.mem _).mpr ?_)⟩
      rw [← List.mem_singleton.mp hz, ← q]
      exact hy
  by_cases h : x.2 ∈ L.map (·.2)
  · cases h1 h
    refine ⟨fun k => ?_, Nat.le_succ_of_le c.le, ?_⟩
    · rw [tk, List.mem_append, List.mem_singleton, ← c.mem]
      exact ⟨.inl, fun z => z.elim id fun z => z ▸ h⟩
    · rw [nd]
      have := c.le
      exact ⟨fun z => absurd z (by omega), fun z => absurd h z.2⟩
  · have pm := h2 h
    refine ⟨fun k => ?_, ?_, ?_⟩
    · rw [(pm.map (·.2)).mem_iff, List.map_cons, List.mem_cons, tk, List.mem_append, List.mem_singleton, ← c.mem]
      exact Or.comm
    · rw [pm.length_eq]
      exact Nat.succ_le_succ c.le
    · rw [nd, pm.length_eq, List.length_cons, Nat.succ_inj, c.full]
      exact ⟨fun z => ⟨z, h⟩, fun z => z.1⟩
section
variable {prog : Program} {w : World} {A : Around} {R : Result → Shared → Prop} {it : Addr} {fp wr : List Addr} {G : Array GenState → Array GenState → Prop} {n : Nat} {Pv : Nat → Value → Prop} {St : Nat → Shared → Prop}
theorem loopTk (W : WalksS prog w A.in1 it fp wr G n Pv St) (b : Addr) (hb : b ∉ fp) (ks : List (Addr × List Str)) (hn : ks.length = n) (few : n < 64) (hv : ∀ (i : Nat) v, Pv i v → ∃ p, ks[i]? = some p ∧ v = .ref p.1) (hu : A.in1.units < cLine)
    (old : Heap) (tk : ∀ p ∈ ks, Tk prog w old p.2 p.1) (nb : old.get? b = none) (nw : ∀ q ∈ wr, old.get? q = none) :
    ∀ (k i : Nat) (s : Shared), n - i = k → i ≤ n → St i s → (∀ q o, old.get? q = some o → s.heap.get? q = some o) → (∃ L es ep t, Cov ks i L ∧ (∀ p ∈ L, p ∈ ks) ∧ Bag prog w s.heap b L es ep t) →
      (∀ s' L es ep t, Moved (b :: wr) G s s' → Cov ks n L → Bag prog w s'.heap b L es ep t → R (.ok (.ret .none)) s') →
      codeAny (model prog w) A (.builtin "set.update.loop" ⟨[.ref b, .ref it], []⟩) R s := by
  have bw : b ∉ wr := fun h => hb (W.sub _ h)
  have ws : ∀ q ∈ wr, q ∈ b :: wr := fun q hq => List.mem_cons_of_mem _ hq
  have kept : ∀ {u v : Heap} {p : Addr × List Str}, Tk prog w u p.2 p.1 → (∀ q o, u.get? q = some o → v.get? q = some o) → Tk prog w v p.2 p.1 := fun ⟨o, its, c, e, r⟩ f => ⟨o, its, c, f _ _ e, r⟩
  have same : ∀ {s1 s2 : Shared} {L es ep t}, Bag prog w s1.heap b L es ep t → Moved wr G s1 s2 → (∀ p ∈ L, p ∈ ks) → (∀ q o, old.get? q = some o → s2.heap.get? q = some o) → Bag prog w s2.heap b L es ep t := fun {s1 s2 L es ep t} B mv sub up => by
    obtain ⟨o, e, r⟩ := B.ob
    exact ⟨⟨o, mv.heap b o bw e, r⟩, B.rows, B.tab, B.led, B.room, B.few, fun p hp => kept (tk p (sub p hp)) up, B.nd⟩
  have up : ∀ {s1 s2 : Shared}, Moved wr G s1 s2 → (∀ q o, old.get? q = some o → s1.heap.get? q = some o) → ∀ q o, old.get? q = some o → s2.heap.get? q = some o := fun mv f q o e => mv.heap q o (fun z => by rw [nw q z] at e; cases e) (f q o e)
  intro k
  induction k with
  | zero =>
    rintro i s hk hi st f ⟨L, es, ep, t, c, sub, B⟩ done
    obtain rfl : i = n := by omega
    refine codeAny_builtin PyProof.Rows.F.entry_set_update_loop ?_
    rw [Around.under_plainId PyProof.Rows.F.plain_set_update_loop _]
    refine wpAny_bind (m := pyNext (.ref it)) (W.done s _ _ st fun s1 mv => ?_)
    exact wpAny_pure (done s1 L es ep t (mv.mono ws) c (same B mv sub (up mv f)))
  | succ k ih =>
    rintro i s hk hi st f ⟨L, es, ep, t, c, sub, B⟩ done
    have lt : i < n := by omega
    refine codeAny_builtin PyProof.Rows.F.entry_set_update_loop ?_
    rw [Around.under_plainId PyProof.Rows.F.plain_set_update_loop _]
    refine wpAny_bind (m := pyNext (.ref it)) (W.item i s _ _ lt st fun v s1 pv st1 mv => ?_)
    obtain ⟨p, ei, rfl⟩ := hv i v pv
    have B1 := same B mv sub (up mv f)
    have tp := kept (tk p (List.mem_of_getElem? ei)) (up mv f)
    refine wpAny_bind (m := holding [Value.ref p.1] (setAdd b (.ref p.1))) (wpAny_holding ?_)
    unfold setAdd
    refine wpAny_holding (wpAny_bind (wpAny_pyHash_tuple hu tp ?_))
    refine added (s := { s1 with toks := s1.toks + (p.2.length + 1) }) B1 tp hu (by have := c.le; omega) fun z h' L' es' ep' t' sb B2 c1 c2 => ?_
    have subL : ∀ q ∈ L', q ∈ ks := fun q hq => by
      by_cases h : p.2 ∈ L.map (·.2)
      · exact sub q (c1 h ▸ hq)
      · cases (c2 h).mem_iff.mp hq with
        | head => exact List.mem_of_getElem? ei
        | tail _ hq => exact sub q hq
    refine wpAny_pure ⟨plainId_quiet PyProof.Rows.F.plain_set_update_loop _, ih (i + 1) _ (by omega) lt (W.frame _ s1 _ _ st1 (Nat.le_add_right _ _) fun q hq o e => ?_) (fun q o e => ?_) ⟨L', es', ep', t', c.more ei c1 c2, subL, B2⟩ fun s2 L2 es2 ep2 t2 mv2 c3 B3 => ?_⟩
    · exact (sb.2 q fun z => hb (z ▸ hq)).trans e
    · exact (sb.2 q fun z => by rw [z, nb] at e; cases e).trans (up mv f q o e)
    · refine done s2 L2 es2 ep2 t2 (Moved.trans W.gtrans ((mv.mono ws).then_heap (Nat.le_add_right _ _) fun q o hq e => ?_) mv2) c3 B3
      exact (sb.2 q fun z => hq (z ▸ List.mem_cons_self)).trans e
end
section
variable {prog : Program} {w : World} {A : Around} {E : Value → Shared → Prop} {s : Shared}
theorem new_bag {h : Heap} {a : Addr} {led : Bool} (ho : h.get? a = some (setObj led)) (hl : w.params.followText "set-order" = true ∨ led = true) : Bag prog w h a [] #[] 0 (.fresh 0 0 led) where
  ob := ⟨_, ho, ⟨rfl, rfl, rfl⟩, rfl⟩
  rows := rfl
  tab := ⟨List.Pairwise.nil, rfl, rfl, .inl rfl, (fun _ z => nomatch z), (fun i u j e => by simp at e)⟩
  led := hl
  room := by
    show 0 * 5 < 7 * 3
    decide
  few := (by decide : 0 < 64)
  tk := fun _ z => nomatch z
  nd := List.nodup_nil
def ledOf (w : World) : Bool := !w.params.followText "set-order"
theorem ledOf_or (w : World) : w.params.followText "set-order" = true ∨ ledOf w = true := by
  unfold ledOf
  cases w.params.followText "set-order"
  · exact .inr rfl
  · exact .inl rfl
theorem init_tk {l : Addr} {items : Array Value} {ks : List (Addr × List Str)} (hh : A.handled = none) (hl : s.heap.IsTuple l items) (hi : items.toList = ks.map fun p => Value.ref p.1) (tk : ∀ p ∈ ks, Tk prog w s.heap p.2 p.1) (few : ks.length < 64) (hu : A.units + 4 < cLine) :
    codeAny (model prog w) A (.call (.builtin "set.__init__") ⟨[.ref s.heap.objs.size, .ref l], []⟩)
      (wants (fun r s2 => r = .none ∧ ∃ h' n L es ep t, s2 = { s with heap := h', toks := n } ∧ Cov ks ks.length L ∧ Bag prog w h' s.heap.objs.size L es ep t ∧ (∀ q o, s.heap.get? q = some o → h'.get? q = some o)) E)
      { s with heap := s.heap.push (setObj (ledOf w)) } := by
  have hT : Shared.TypeIs { s with heap := s.heap.push (setObj (ledOf w)) } (.ref s.heap.objs.size) "set" := ⟨_, Heap.get?_push_size _ rfl, rfl⟩
  refine codeAny_call_builtin PySem.F.called_set.init.plain PySem.F.entry_set_init (check_set_init_1 hT ?_)
  obtain ⟨⟨kc, kd, kx, kz⟩, hol, hcl, nl, hdl⟩ := hl
  simp only at hcl hdl
  subst hcl hdl
  have hol' : (s.heap.push (setObj (ledOf w))).get? l = some _ := Heap.get?_push_of_some _ hol
  have hl1 : (s.heap.push (setObj (ledOf w))).IsTuple l items := ⟨_, hol', rfl, nl, rfl⟩
  have hsls := PySem.F.sub_tuple_set
  have hslf := PySem.F.sub_tuple_frozenset
  have hne : (Value.type "tuple" == Value.type "dict") = false := by decide
  unfold Builtin.«set.__init__» noKeywords Builtin.Frozenset.updateFrom
  generalize ePI : pyIter = PI
  wp_walk
  subst ePI
  refine wpAny_pyIter_tuple hl1 (wpAny_bind (wpAny_runValue ?_))
  have below : l < s.heap.objs.size := Heap.lt_size hol
  have nh : A.in1.in1.handled = none := by simp [hh]
  have z1 : (s.heap.push (setObj (ledOf w))).objs.size = s.heap.objs.size + 1 := Heap.size_push ..
  have apart : l ≠ (s.heap.push (setObj (ledOf w))).objs.size := by
    rw [z1]
    exact Nat.ne_of_lt (Nat.lt_succ_of_lt below)
  have out : s.heap.objs.size ∉ [(s.heap.push (setObj (ledOf w))).objs.size, l] := by
    rw [List.mem_cons, List.mem_singleton, z1]
    exact fun q => q.elim (Nat.ne_of_lt (Nat.lt_succ_self _)) (Nat.ne_of_gt below)
  have zx : ks.length = items.size := by rw [← Array.length_toList, hi, List.length_map]
  have void : ∀ q, s.heap.objs.size ≤ q → s.heap.get? q = none := fun q hq => by
    cases e : s.heap.get? q with
    | none => rfl
    | some o => exact absurd (Heap.lt_size e) (Nat.not_lt_of_le hq)
  refine loopTk ((Walks.tuple nh _ l apart items).toS) s.heap.objs.size out ks zx (zx ▸ few) (fun i v e => ?val) (by simp; omega) s.heap tk (void _ (Nat.le_refl _)) (fun q hq => void q (by rw [List.mem_singleton.mp hq, z1]; omega)) (items.size - 0) 0 _ (by omega) (Nat.zero_le _) ?at_ (fun q o e => Heap.get?_push_of_some _ (Heap.get?_push_of_some _ e)) ?first ?last
  case val =>
    have e : items.toList[i]? = some v := Array.getElem?_toList ▸ e
    rw [hi, List.getElem?_map] at e
    obtain ⟨p, e1, e2⟩ := Option.map_eq_some_iff.mp e
    exact ⟨p, e1, e2.symm⟩
  case at_ => exact ⟨⟨_, Heap.get?_push_size _ rfl, rfl, rfl⟩, hl1.push _⟩
  case first => exact ⟨[], #[], 0, _, Cov.nil ks, fun _ z => (nomatch z), new_bag (Heap.get?_push_of_some _ (Heap.get?_push_size _ rfl)) (ledOf_or w)⟩
  case last =>
    rintro ⟨h', g', d', tk', os'⟩ L es ep t mv c B
    obtain rfl : g' = s.gens := mv.gens
    obtain rfl : d' = s.drawn := mv.drawn
    obtain rfl : os' = s.os := mv.os
    refine wpAny_pure (wpAny_pure ⟨rfl, h', tk', L, es, ep, t, rfl, zx ▸ c, B, fun q o e => ?_⟩)
    have lq := Heap.lt_size e
    refine mv.heap q o (by rw [List.mem_cons, List.mem_singleton, z1]; exact fun z => z.elim (Nat.ne_of_lt lq) (Nat.ne_of_lt (Nat.lt_succ_of_lt lq))) (Heap.get?_push_of_some _ (Heap.get?_push_of_some _ e))
set_option maxHeartbeats 8000000 in
theorem call_set_tk {l : Addr} {items : Array Value} {ks : List (Addr × List Str)} {Q : Value → Shared → Prop} (hh : A.handled = none) (hl : s.heap.IsTuple l items) (hi : items.toList = ks.map fun p => Value.ref p.1) (tk : ∀ p ∈ ks, Tk prog w s.heap p.2 p.1) (few : ks.length < 64) (hu : A.units + 8 < cLine)
    (h : ∀ (h' : Heap) (n : Nat) L es ep t, Cov ks ks.length L → Bag prog w h' s.heap.objs.size L es ep t → (∀ q o, s.heap.get? q = some o → h'.get? q = some o) → Q (.ref s.heap.objs.size) { s with heap := h', toks := n }) :
    wpAny (model prog w) A (call (.type "set") [.ref l]) Q E s := by
  obtain ⟨_, _, hmro⟩ := PySem.F.called_set.mro
  have hmade := PySem.F.called_set.made
  have hsub := PySem.F.called_set.sub
  have h1 := PySem.F.called_set.notType
  have h2 := PySem.F.called_set.canCreate
  have hct := PySem.F.typeCall_set_1 (.ref l)
  refine wpAny_call (codeAny_of_tree (wpAny_pure (a := _) ⟨Code.quiet_builtin _ (by decide +kernel), codeAny_builtin PySem.F.entry_type_call ?_⟩))
  rw [Around.under_plain (weight_type_call_type "set" [.ref l] []) rfl]
  repeat (any_goals (first | assumption | wp_step))
  refine codeAny_mono (code_set_led1 (.ref l) (E := E) (Q₁ := fun v s1 => v = .ref s.heap.objs.size ∧ s1 = { s with heap := s.heap.push (setObj (ledOf w)) }) ⟨rfl, rfl⟩) fun r s1 hr => ?_
  match r, hr with
  | .ok (.ret v), hr =>
    obtain ⟨rfl, rfl⟩ := hr
    have hS : (s.heap.push (setObj (ledOf w))).get? s.heap.objs.size = some (setObj (ledOf w)) := Heap.get?_push_size _ rfl
    have hT : Shared.TypeIs { s with heap := s.heap.push (setObj (ledOf w)) } (.ref s.heap.objs.size) "set" := ⟨_, hS, rfl⟩
    have hli := PySem.F.called_set.init.lookup
    have hbi := PySem.F.called_set.init.bind (.ref s.heap.objs.size)
    repeat (any_goals (first | assumption | wp_step))
    refine codeAny_mono (init_tk (E := E) (by simp [hh]) hl hi tk few (by simp; omega)) fun r s2 hr => ?_
    match r, hr with
    | .ok (.ret v), hr =>
      obtain ⟨rfl, h', n, L, es, ep, t, rfl, c, B, keep⟩ := hr
      repeat (any_goals (first | assumption | wp_step))
      exact h h' n L es ep t c B keep
    | .error e, hr => exact hr
    | .ok .next, hr => exact hr.elim
    | .ok .brk, hr => exact hr.elim
    | .ok .cont, hr => exact hr.elim
  | .error e, hr => exact hr
  | .ok .next, hr => exact hr.elim
  | .ok .brk, hr => exact hr.elim
  | .ok .cont, hr => exact hr.elim
end
theorem items_tk {P : Program} {w : World} : ∀ {k : List Str} {us : List Value}, Vals (k.map V.str) us → ItemsAre (PySem.strKind P w) k us
  | [], _, .nil => .nil
  | _ :: _, _, .cons r t => by
    obtain ⟨z, rfl⟩ := r
    exact .cons (strKind_is _ _ _ _) (items_tk t)
theorem refs_tk : ∀ {ks : List (Addr × List Str)} {us : List Value}, Vals (ks.map fun p => V.ref p.1) us → us = ks.map fun p => Value.ref p.1
  | [], _, .nil => rfl
  | _ :: _, _, .cons r t => by
    cases r
    exact congrArg _ (refs_tk t)
/-- len(set(t)), t a tuple of tuples of texts -/
def tLenSetTk (K : PySem.W.Frag) (ta : TE) : TE := fun σ H Q => ta σ H fun x H1 => ∃ (l : Addr) (ks : List (Addr × List Str)), x = .ref l ∧ SqT K H1 l (ks.map fun p => V.ref p.1) ∧ (∀ p ∈ ks, SqT K H1 p.1 (p.2.map V.str)) ∧ ks.length < 64 ∧ ∀ c : Nat, c ≤ ks.length → (c = ks.length ↔ (ks.map (·.2)).Nodup) → Q (.int c) H1
theorem pe_lenSetTk {X : Cx} {a : Expr} {ta : TE} {p p2 q pos : Pos} (hg : Gl X "len") (hm : X.mg "len" = none) (hg2 : Gl X "set") (hm2 : X.mg "set" = none) (hu : X.A.units + 64 < cLine) (ha : PE X a ta) (hc : X.calm = true := by rfl)
    (na : starEach [a] X.env = (false, eval a X.env) :: starEach [] X.env := by rfl) : PE X (.Call (.Name "len" p) [.Call (.Name "set" p2) [a] [] q] [] pos) (tLenSetTk X.K ta) := by
  refine ⟨fun pins s σ H Q I h => Call_ (ld_blt I hg hm boot_len (PyProof.Rows.callWith_builtin1 (PyProof.Rows.args_cons (Call_ (ld_blt I hg2 hm2 boot_set (PyProof.Rows.callWith_type1 (PyProof.Rows.args_cons (thn (ha.run pins s σ H _ I h) fun v s1 ⟨x, H1, I1, r1, q1⟩ => PyProof.Rows.args_nil ?_) na) na rfl))) rfl) rfl rfl))⟩
  obtain ⟨l, ks, rfl, ht, hk, few, q1⟩ := q1
  obtain rfl : v = Value.ref l := r1
  obtain ⟨its, rv, pl, _⟩ := I1.tuple ht
  refine call_set_tk (ks := ks) (I1.ok.hd hc) pl (by simpa using refs_tk rv) (fun p hp => ?_) few (by omega) fun h' n L es ep t c B keep => PyProof.Rows.args_nil ?_
  · obtain ⟨us, r, ⟨o, e1, e2, m, e3⟩, _⟩ := I1.tuple (hk p hp)
    exact ⟨o, us.toArray, m, e1, e2, e3, by simpa using items_tk r⟩
  · have I2 : Inv X pins σ H1 { s1 with heap := h', toks := n } := I1.kept keep
    obtain ⟨o, e1, e2, e3⟩ := B.ob
    have z := c.full
    rw [List.take_length] at z
    exact call_len_set e1 e2 e3 (fits_of B.rows (by rw [B.tab.sz, List.length_map]) B.tab.dm (by have := B.room; omega)) (by rw [size_rows B.rows]; have := B.few; omega) ⟨.int L.length, H1, I2.tok _, ⟨_, by rw [size_rows B.rows]⟩, q1 L.length c.le z⟩
end El

set_option Elab.async false
set_option linter.all false
set_option maxRecDepth 100000
set_option maxHeartbeats 4000000
/-! Own words: `in`, `not in` and `[..]` of own classes. -/
namespace El
open PySem PySem.Spec PyProof.Rows L2
/-- an own class's `__contains__` -/
structure InC (K : PySem.W.Frag) (C f : Addr) : Prop where
  at_ : PySem.W.findIn K (.ref C) "__contains__" = some (some (.ref f))
  fn : PySem.W.isFn K (.ref f) = true
/-- an own class's `__getitem__` -/
structure ItC (K : PySem.W.Frag) (C f : Addr) : Prop where
  at_ : PySem.W.findIn K (.ref C) "__getitem__" = some (some (.ref f))
  fn : PySem.W.isFn K (.ref f) = true
  ns : PySem.W.noSeq K C = true
section
variable {X : Cx} {CX : CXT} {k : Nat} {C f : Addr} {fd : FuncData} {ps : List Str} {sp : Sp} {E : XK}
/-- x in a, a of the class at C; n: not in -/
def rInO (n : Bool) (C : Addr) (sp : Sp) (E : XK) : R2 := fun x y H Q => ∃ a dx fs, y = .ref a ∧ H a = some (.ins C dx fs) ∧ sp [.ref a, x] H (fun v H' => ∃ b : Bool, v = .bl b ∧ Q (.bl (n ^^ b)) H') E
theorem op_inO (c : InC X.K C f) (F : FnOk X.prog X.w X.K X.mg X.base CX k f fd ps sp) (hr : Room k X.A) (hb : Binds X.K fd ps []) (hx : Passes CX X E) : OpR X (compareOp .In) (rInO false C sp E) := by
  intro pins s σ H x y v u Q I rx ry h
  obtain ⟨a, dx, fs, rfl, ea, q⟩ := h
  obtain rfl : u = Value.ref a := ry
  obtain ⟨m, fr⟩ := I.fr
  obtain ⟨mA, O, _⟩ := ins_get I.hok ea
  obtain ⟨od, J, _⟩ := O.look
  refine PySem.W.in_K fr I.ok.mod.kin J c.at_ c.fn ?_
  refine wpAny_mono (run_fn (us := [.ref a, v]) (vs := [.ref a, x]) (ds := []) (dvs := []) F hr hb .nil hx I (.cons rfl (.cons rx .nil)) q) (fun u' s' h' => ?_) fun _ _ z => z
  obtain ⟨w, H', I', rw', b, rfl, q'⟩ := h'
  cases (show u' = Value.bool b from rw')
  refine wpAny_pure ⟨.bl b, H', I', rfl, ?_⟩
  cases b <;> exact q'
theorem op_notInO (c : InC X.K C f) (F : FnOk X.prog X.w X.K X.mg X.base CX k f fd ps sp) (hr : Room k X.A) (hb : Binds X.K fd ps []) (hx : Passes CX X E) : OpR X (compareOp .NotIn) (rInO true C sp E) := by
  intro pins s σ H x y v u Q I rx ry h
  obtain ⟨a, dx, fs, rfl, ea, q⟩ := h
  obtain rfl : u = Value.ref a := ry
  obtain ⟨m, fr⟩ := I.fr
  obtain ⟨mA, O, _⟩ := ins_get I.hok ea
  obtain ⟨od, J, _⟩ := O.look
  refine PySem.W.notIn_K fr I.ok.mod.kin J c.at_ c.fn ?_
  refine wpAny_mono (run_fn (us := [.ref a, v]) (vs := [.ref a, x]) (ds := []) (dvs := []) F hr hb .nil hx I (.cons rfl (.cons rx .nil)) q) (fun u' s' h' => ?_) fun _ _ z => z
  obtain ⟨w, H', I', rw', b, rfl, q'⟩ := h'
  cases (show u' = Value.bool b from rw')
  refine wpAny_pure ⟨.bl (!b), H', I', rfl, ?_⟩
  cases b <;> exact q'
/-- a[y], a of the class at C -/
def rItO (C : Addr) (sp : Sp) (E : XK) : R2 := fun x y H Q => ∃ a dx fs, x = .ref a ∧ H a = some (.ins C dx fs) ∧ sp [.ref a, y] H Q E
theorem op_itO (c : ItC X.K C f) (F : FnOk X.prog X.w X.K X.mg X.base CX k f fd ps sp) (hr : Room k X.A) (hb : Binds X.K fd ps []) (hx : Passes CX X E) : OpR X getItem (rItO C sp E) := by
  intro pins s σ H x y v u Q I rx ry h
  obtain ⟨a, dx, fs, rfl, ea, q⟩ := h
  obtain rfl : v = Value.ref a := rx
  obtain ⟨m, fr⟩ := I.fr
  obtain ⟨mA, O, _⟩ := ins_get I.hok ea
  obtain ⟨od, J, _⟩ := O.look
  refine PySem.W.getItem_K fr I.ok.mod.kin J c.ns c.at_ c.fn ?_
  exact run_fn (us := [.ref a, u]) (vs := [.ref a, y]) (ds := []) (dvs := []) F hr hb .nil hx I (.cons rfl (.cons ry .nil)) q
end
end El

set_option Elab.async false
set_option linter.all false
set_option maxRecDepth 100000
set_option maxHeartbeats 4000000
/-! Own words: `in`, `not in` for pairs of texts in tuples and lists of such, `==` of such pairs; keyword-only parameters with defaults. -/
namespace El
open PySem PySem.Spec PyProof.Rows L2
theorem dec_iff {p : Prop} {i : Decidable p} : @decide p i = true ↔ p := decide_eq_true_iff
section
variable {X : Cx}
/-- the tuple (a, b) of texts -/
def PairAt (K : PySem.W.Frag) (H : Hp) (v : V) (p : Str × Str) : Prop := ∃ r, v = .ref r ∧ SqT K H r [.str p.1, .str p.2]
/-- a row of such -/
inductive PairsIn (K : PySem.W.Frag) (H : Hp) : List V → List (Str × Str) → Prop
  | nil : PairsIn K H [] []
  | cons {v : V} {p : Str × Str} {vs : List V} {ps : List (Str × Str)} : PairAt K H v p → PairsIn K H vs ps → PairsIn K H (v :: vs) (p :: ps)
theorem PairAt.dp {K : PySem.W.Frag} {H : Hp} {v : V} {p : Str × Str} (h : PairAt K H v p) : Dp K H v (PySem.W.Datum.toD p) := by
  obtain ⟨r, rfl, h⟩ := h
  exact .tup h (.cons (.str _) (.cons (.str _) .nil))
theorem PairsIn.dp {K : PySem.W.Frag} {H : Hp} {vs : List V} {ps : List (Str × Str)} (h : PairsIn K H vs ps) : DpAll K H vs (ps.map PySem.W.Datum.toD) := by
  induction h with
  | nil => exact .nil
  | cons a _ ih => exact .cons a.dp ih
def rInP (K : PySem.W.Frag) (neg : Bool) : R2 := fun x y H Q => ∃ (p : Str × Str) (l : Addr) (vs : List V) (ps : List (Str × Str)), PairAt K H x p ∧ y = .ref l ∧ (SqT K H l vs ∨ SqL K H l vs) ∧ PairsIn K H vs ps ∧ Q (.bl (if neg then decide (p ∉ ps) else decide (p ∈ ps))) H
theorem op_inP (K : PySem.W.Frag) (neg : Bool) (hu : X.A.units + 64 < cLine) (hK : X.K = K := by rfl) : OpR X (compareOp (if neg then .NotIn else .In)) (rInP K neg) := by
  subst hK
  intro pins s σ H x y v u Q I rx ry h
  obtain ⟨p, l, vs, ps, hp, rfl, hl, hv, q⟩ := h
  obtain ⟨bs, rd⟩ := Dp.reads I _ x v hp.dp rx
  have dep : PySem.W.Datum.depth (Str × Str) ≤ 2 := by decide
  have any_ : ((ps.map PySem.W.Datum.toD).any fun d => PyData.eqv d (PySem.W.Datum.toD p)) = true ↔ p ∈ ps := by
    have z := PySem.W.any_datum ps p
    exact (Bool.eq_iff_iff.mp z).trans dec_iff
  have room : X.A.units + 1 + min (PyData.depthAll (ps.map PySem.W.Datum.toD)) (PySem.W.Datum.toD p).depth < cLine := by
    have := PySem.W.Datum.depth_le p
    have := Nat.min_le_right (PyData.depthAll (ps.map PySem.W.Datum.toD)) (PySem.W.Datum.toD p).depth
    omega
  have yes : ∀ b : Bool, (b = true ↔ p ∈ ps) → b = decide (p ∈ ps) := fun b hb => by rw [Bool.eq_iff_iff, hb, decide_eq_true_iff]
  have no : ∀ b : Bool, (b = true ↔ p ∈ ps) → (!b) = decide (p ∉ ps) := fun b hb => by rw [yes b hb, decide_not]
  rcases hl with hl | hl
  · obtain ⟨as, rc⟩ := Dp.reads I _ (.ref l) u (.tup hl hv.dp) ry
    cases neg
    · exact PySem.SeqAt.in_tuple_data rc rd (PySem.W.plainAll_map ps) (PySem.W.Datum.plain p) room (by rw [yes _ any_]; exact ⟨.bl _, H, I, rfl, q⟩)
    · exact PySem.SeqAt.notIn_tuple_data rc rd (PySem.W.plainAll_map ps) (PySem.W.Datum.plain p) room (by rw [no _ any_]; exact ⟨.bl _, H, I, rfl, q⟩)
  · obtain ⟨as, rc⟩ := Dp.reads I _ (.ref l) u (.lst hl hv.dp) ry
    cases neg
    · exact PySem.SeqAt.in_list_data rc rd (PySem.W.plainAll_map ps) (PySem.W.Datum.plain p) room (by rw [yes _ any_]; exact ⟨.bl _, H, I, rfl, q⟩)
    · exact PySem.SeqAt.notIn_list_data rc rd (PySem.W.plainAll_map ps) (PySem.W.Datum.plain p) room (by rw [no _ any_]; exact ⟨.bl _, H, I, rfl, q⟩)
theorem inP (K : PySem.W.Frag) (hu : X.A.units + 64 < cLine) (hK : X.K = K := by rfl) : OpR X (compareOp .In) (rInP K false) := op_inP K false hu hK
theorem notInP (K : PySem.W.Frag) (hu : X.A.units + 64 < cLine) (hK : X.K = K := by rfl) : OpR X (compareOp .NotIn) (rInP K true) := op_inP K true hu hK
def rEqP (K : PySem.W.Frag) : R2 := fun x y H Q => ∃ p q : Str × Str, PairAt K H x p ∧ PairAt K H y q ∧ Q (.bl (decide (p = q))) H
theorem eqP (K : PySem.W.Frag) (hu : X.A.units + 64 < cLine) (hK : X.K = K := by rfl) : OpR X (compareOp .Eq) (rEqP K) := by
  subst hK
  intro pins s σ H x y v u Q I rx ry h
  obtain ⟨p, q, hp, hq, k⟩ := h
  obtain ⟨as, ra⟩ := Dp.reads I _ x v hp.dp rx
  obtain ⟨bs, rb⟩ := Dp.reads I _ y u hq.dp ry
  have dep : PySem.W.Datum.depth (Str × Str) ≤ 2 := by decide
  have := PySem.W.Datum.depth_le p
  have := Nat.min_le_left (PySem.W.Datum.toD p).depth (PySem.W.Datum.toD q).depth
  exact PySem.SeqAt.eq_plain ra rb (PySem.W.Datum.plain p) (PySem.W.Datum.plain q) (by omega) (by rw [PySem.W.Datum.eqv]; exact ⟨.bl _, H, I, rfl, k⟩)
/-- len(set(t)), t a tuple of pairs of texts -/
def tLenSetP (K : PySem.W.Frag) (ta : TE) : TE := fun σ H Q => ta σ H fun x H1 => ∃ (l : Addr) (vs : List V) (ps : List (Str × Str)), x = .ref l ∧ SqT K H1 l vs ∧ PairsIn K H1 vs ps ∧ ps.length < 64 ∧ ∀ c : Nat, c ≤ ps.length → (c = ps.length ↔ ps.Nodup) → Q (.int c) H1
theorem pairs_ks {K : PySem.W.Frag} {H : Hp} {vs : List V} {ps : List (Str × Str)} (h : PairsIn K H vs ps) : ∃ ks : List (Addr × List Str), vs = ks.map (fun p => V.ref p.1) ∧ (∀ p ∈ ks, SqT K H p.1 (p.2.map V.str)) ∧ ks.map (·.2) = ps.map fun p => [p.1, p.2] := by
  induction h with
  | nil => exact ⟨[], rfl, fun _ z => (nomatch z), rfl⟩
  | @cons v p vs ps a _ ih =>
    obtain ⟨r, rfl, h⟩ := a
    obtain ⟨ks, e1, e2, e3⟩ := ih
    refine ⟨(r, [p.1, p.2]) :: ks, by rw [e1]; rfl, fun q hq => ?_, by rw [List.map_cons, List.map_cons, e3]⟩
    cases hq with
    | head => exact h
    | tail _ hq => exact e2 q hq
theorem nodup_map_inj {α β : Type} {f : α → β} (hf : ∀ a b, f a = f b → a = b) {l : List α} : (l.map f).Nodup ↔ l.Nodup :=
  ⟨fun h => List.Pairwise.of_map f (fun _ _ n e => n (congrArg f e)) h, fun h => List.pairwise_map.mpr (List.Pairwise.imp (fun n e => n (hf _ _ e)) h)⟩
theorem pe_lenSetP {a : Expr} {ta : TE} {p p2 q pos : Pos} (K : PySem.W.Frag) (hg : Gl X "len") (hm : X.mg "len" = none) (hg2 : Gl X "set") (hm2 : X.mg "set" = none) (hu : X.A.units + 64 < cLine) (ha : PE X a ta) (hc : X.calm = true := by rfl)
    (na : starEach [a] X.env = (false, eval a X.env) :: starEach [] X.env := by rfl) (hK : X.K = K := by rfl) : PE X (.Call (.Name "len" p) [.Call (.Name "set" p2) [a] [] q] [] pos) (tLenSetP K ta) := by
  subst hK
  refine ⟨fun pins s σ H Q I h => Call_ (ld_blt I hg hm boot_len (PyProof.Rows.callWith_builtin1 (PyProof.Rows.args_cons (Call_ (ld_blt I hg2 hm2 boot_set (PyProof.Rows.callWith_type1 (PyProof.Rows.args_cons (thn (ha.run pins s σ H _ I h) fun v s1 ⟨x, H1, I1, r1, q1⟩ => PyProof.Rows.args_nil ?_) na) na rfl))) rfl) rfl rfl))⟩
  obtain ⟨l, vs, ps, rfl, ht, hv, few, q1⟩ := q1
  obtain ⟨ks, rfl, hk, e3⟩ := pairs_ks hv
  have el : ks.length = ps.length := by
    have := congrArg List.length e3
    rwa [List.length_map, List.length_map] at this
  obtain rfl : v = Value.ref l := r1
  obtain ⟨its, rv, pl, _⟩ := I1.tuple ht
  refine call_set_tk (ks := ks) (I1.ok.hd hc) pl (by simpa using refs_tk rv) (fun p hp => ?_) (by omega) (by omega) fun h' n L es ep t c B keep => PyProof.Rows.args_nil ?_
  · obtain ⟨us, r, ⟨o, e1, e2, m, e3⟩, _⟩ := I1.tuple (hk p hp)
    exact ⟨o, us.toArray, m, e1, e2, e3, by simpa using items_tk r⟩
  · have I2 : Inv X pins σ H1 { s1 with heap := h', toks := n } := I1.kept keep
    obtain ⟨o, e1, e2, e4⟩ := B.ob
    have z := c.full
    rw [List.take_length] at z
    have c1 := c.le
    refine call_len_set e1 e2 e4 (fits_of B.rows (by rw [B.tab.sz, List.length_map]) B.tab.dm (by have := B.room; omega)) (by rw [size_rows B.rows]; have := B.few; omega) ⟨.int L.length, H1, I2.tok _, ⟨_, by rw [size_rows B.rows]⟩, q1 L.length (by omega) ?_⟩
    rw [← el, z, e3]
    exact nodup_map_inj fun a b e => by
      injection e with e1 e2
      injection e2 with e2 _
      exact Prod.ext e1 e2
end

/-! ### two keyword-only parameters with defaults -/
structure Kw2 (K : PySem.W.Frag) (fd : FuncData) (ps : List Str) (n : Nat) (k1 k2 : Str) (d1 d2 : V) : Prop where
  no : ∃ g, KBn K fd ps n [] g (fun vs _ => vs ++ [d1, d2])
  one : ∃ g, KBn K fd ps n [k1] g (fun vs zs => vs ++ (zs ++ [d2]))
  two : ∃ g, KBn K fd ps n [k2] g (fun vs zs => vs ++ (d1 :: zs))
  all : ∃ g, KBn K fd ps n [k1, k2] g (fun vs zs => vs ++ zs)
theorem Vals.app {vs ws : List V} {us xs : List Value} (a : Vals vs us) (b : Vals ws xs) : Vals (vs ++ ws) (us ++ xs) := by
  induction a with
  | nil => exact b
  | cons r _ ih => exact .cons r ih
theorem kw2_mk {K : PySem.W.Frag} {x qual : Str} {params : Arguments} {body : List Stmt} {scope : Scope} {f : Addr} {fd : FuncData} {ps : List Str} {k1 k2 : Str} {d1 d2 : V} (n : Nat) (F : FunD K x qual params body scope [] [(k1, d1), (k2, d2)] f fd)
    (h0 : ∀ (D : Addr) (doc pm : Value) (an : Option Addr) (cdv ct : Value) (us : List Value) (m1 m2 : Value), us.length = n → KwChain D [(k1, m1), (k2, m2)] (bindArgs (PySem.W.fnOf x qual params body scope .none (.ref D) doc pm an cdv ct) ⟨us, []⟩) (ps.zip (us ++ [m1, m2])))
    (h1 : ∀ (D : Addr) (doc pm : Value) (an : Option Addr) (cdv ct : Value) (us : List Value) (m2 w1 : Value), us.length = n → KwChain D [(k2, m2)] (bindArgs (PySem.W.fnOf x qual params body scope .none (.ref D) doc pm an cdv ct) ⟨us, [(k1, w1)]⟩) (ps.zip (us ++ [w1, m2])))
    (h2 : ∀ (D : Addr) (doc pm : Value) (an : Option Addr) (cdv ct : Value) (us : List Value) (m1 w2 : Value), us.length = n → KwChain D [(k1, m1)] (bindArgs (PySem.W.fnOf x qual params body scope .none (.ref D) doc pm an cdv ct) ⟨us, [(k2, w2)]⟩) (ps.zip (us ++ [m1, w2])))
    (h3 : ∀ (D : Addr) (doc pm : Value) (an : Option Addr) (cdv ct : Value) (us : List Value) (w1 w2 : Value), us.length = n → KwChain D [] (bindArgs (PySem.W.fnOf x qual params body scope .none (.ref D) doc pm an cdv ct) ⟨us, [(k1, w1), (k2, w2)]⟩) (ps.zip (us ++ [w1, w2]))) :
    Kw2 K fd ps n k1 k2 d1 d2 where
  no := by
    obtain ⟨mv, h⟩ := F.kbinds0 n [] [(k1, d1), (k2, d2)] (fun us ms _ => us ++ ms) (by simp) (fun q h => h) (fun a b _ => Vals.app a b) fun D doc pm an cdv ct us mv ws l1 l2 l3 => match mv, ws, l2, l3 with | [m1, m2], [], _, _ => h0 D doc pm an cdv ct us m1 m2 l1
    exact ⟨_, h⟩
  one := by
    obtain ⟨mv, h⟩ := F.kbinds0 n [k1] [(k2, d2)] (fun us ms ws => us ++ (ws ++ ms)) (by simp) (fun q h => List.mem_cons_of_mem _ h) (fun a b c => Vals.app a (Vals.app c b)) fun D doc pm an cdv ct us mv ws l1 l2 l3 => match mv, ws, l2, l3 with | [m2], [w1], _, _ => h1 D doc pm an cdv ct us m2 w1 l1
    exact ⟨_, h⟩
  two := by
    obtain ⟨mv, h⟩ := F.kbinds0 n [k2] [(k1, d1)] (fun us ms ws => us ++ (ms ++ ws)) (by simp) (fun q h => by rw [List.mem_singleton.mp h]; exact List.mem_cons_self) (fun a b c => Vals.app a (Vals.app b c)) fun D doc pm an cdv ct us mv ws l1 l2 l3 => match mv, ws, l2, l3 with | [m1], [w2], _, _ => h2 D doc pm an cdv ct us m1 w2 l1
    exact ⟨_, h⟩
  all := by
    obtain ⟨mv, h⟩ := F.kbinds0 n [k1, k2] [] (fun us ms ws => us ++ ws) (by simp) (fun q h => nomatch h) (fun a b c => Vals.app a c) fun D doc pm an cdv ct us mv ws l1 l2 l3 => match mv, ws, l2, l3 with | [], [w1, w2], _, _ => h3 D doc pm an cdv ct us w1 w2 l1
    exact ⟨_, h⟩
/-- a def of the text with two keyword-only parameters that have defaults -/
theorem fundk_mk {K : PySem.W.Frag} {x qual k1 k2 : Str} {st : Stmt} {f D e1 e2 : Addr} {oc : Value} {od an : Option Addr} {osl : Array (Option Value)} {doc pm cdv ct : Value}
    (l : K.lookup f = some ⟨oc, od, .func (PySem.W.fnOf x qual (defArgs st) (defBody st) (defScope st) .none (.ref D) doc pm an cdv ct), osl⟩) (c : PySem.W.codeIn K cdv qual = true) (k : PySem.W.keepIn K (.ref f) = true)
    (h1 : PySem.W.nsIn K D k1 = some (some (.ref e1))) (h2 : PySem.W.nsIn K D k2 = some (some (.ref e2))) : FunD K x qual (defArgs st) (defBody st) (defScope st) [] [(k1, V.ref e1), (k2, V.ref e2)] f (PySem.W.fnOf x qual (defArgs st) (defBody st) (defScope st) .none (.ref D) doc pm an cdv ct) := by
  refine ⟨⟨oc, od, .none, .ref D, doc, pm, an, cdv, ct, osl, rfl, l, c, .inl ⟨rfl, rfl⟩, .inr ⟨D, rfl, fun q hq => ?_⟩⟩, k⟩
  cases hq with
  | head => exact ⟨_, h1, rfl⟩
  | tail _ hq =>
    cases hq with
    | head => exact ⟨_, h2, rfl⟩
    | tail _ hq => exact nomatch hq
/-- a class whose __init__ has two keyword-only parameters, their defaults empty tuples -/
structure CalK (P : Program) (w : World) (K : PySem.W.Frag) (mg : Str → Option Value) (base : Heap) (CX : CXT) (k : Nat) (x : Str) (C f : Addr) (fd : FuncData) (ps : List Str) (n : Nat) (k1 k2 : Str) (e1 e2 : Addr) (sp : Sp) : Prop where
  G : FnOk P w K mg base CX k f fd ps sp
  b : Kw2 K fd ps n k1 k2 (.ref e1) (.ref e2)
  mkc : Mk K C f
  m : mg x = some (.ref C)
  t1 : ∀ H, SqT K H e1 []
  t2 : ∀ H, SqT K H e2 []
section
variable {X : Cx} {CX : CXT} {k : Nat} {C f e1 e2 : Addr} {fd : FuncData} {ps : List Str} {sp : Sp} {E : XK} {x k1 k2 : Str} {p pos : Pos} {e : Expr} {es : List Expr} {t tk : TA} {kws : List Keyword} {n : Nat}
theorem pe_mkNo (c : CalK X.prog X.w X.K X.mg X.base CX k x C f fd ps (n + 1) k1 k2 e1 e2 sp) (hr : Room (k + 1) X.A) (hg : Gl X x) (hx : Passes CX X E) (ha : PA X (e :: es) t) (hkw : PK X [] tk) (hdb : (x == ("__debug__" : Str)) = false := by decide)
    (he : starEach (e :: es) X.env = (false, eval e X.env) :: starEach es X.env := by rfl) (hpl : ((backTo pos (starEach (e :: es) X.env)).any (·.1) || (backToKw pos (keywordEach [] X.env)).any (·.1.isNone)) = false := by rfl) (hall : (backToKw pos (keywordEach [] X.env)).all (·.1.isSome) = true := by rfl) (hks : (backToKw pos (keywordEach [] X.env)).filterMap (·.1) = [] := by rfl) :
    PE X (.Call (.Name x p) (e :: es) [] pos) (tMakeK C n 0 sp (fun vs _ => vs ++ [.ref e1, .ref e2]) E t tk) := by
  obtain ⟨g, hb⟩ := c.b.no
  exact pe_makeK c.mkc c.G hr hg c.m hb hx ha hkw hall hks hdb he hpl
theorem pe_mkOne (c : CalK X.prog X.w X.K X.mg X.base CX k x C f fd ps (n + 1) k1 k2 e1 e2 sp) (hr : Room (k + 1) X.A) (hg : Gl X x) (hx : Passes CX X E) (ha : PA X (e :: es) t) (hkw : PK X kws tk) (hdb : (x == ("__debug__" : Str)) = false := by decide)
    (he : starEach (e :: es) X.env = (false, eval e X.env) :: starEach es X.env := by rfl) (hpl : ((backTo pos (starEach (e :: es) X.env)).any (·.1) || (backToKw pos (keywordEach kws X.env)).any (·.1.isNone)) = false := by rfl) (hall : (backToKw pos (keywordEach kws X.env)).all (·.1.isSome) = true := by rfl) (hks : (backToKw pos (keywordEach kws X.env)).filterMap (·.1) = [k1] := by rfl) :
    PE X (.Call (.Name x p) (e :: es) kws pos) (tMakeK C n 1 sp (fun vs zs => vs ++ (zs ++ [.ref e2])) E t tk) := by
  obtain ⟨g, hb⟩ := c.b.one
  exact pe_makeK c.mkc c.G hr hg c.m hb hx ha hkw hall hks hdb he hpl
theorem pe_mkTwo (c : CalK X.prog X.w X.K X.mg X.base CX k x C f fd ps (n + 1) k1 k2 e1 e2 sp) (hr : Room (k + 1) X.A) (hg : Gl X x) (hx : Passes CX X E) (ha : PA X (e :: es) t) (hkw : PK X kws tk) (hdb : (x == ("__debug__" : Str)) = false := by decide)
    (he : starEach (e :: es) X.env = (false, eval e X.env) :: starEach es X.env := by rfl) (hpl : ((backTo pos (starEach (e :: es) X.env)).any (·.1) || (backToKw pos (keywordEach kws X.env)).any (·.1.isNone)) = false := by rfl) (hall : (backToKw pos (keywordEach kws X.env)).all (·.1.isSome) = true := by rfl) (hks : (backToKw pos (keywordEach kws X.env)).filterMap (·.1) = [k2] := by rfl) :
    PE X (.Call (.Name x p) (e :: es) kws pos) (tMakeK C n 1 sp (fun vs zs => vs ++ (.ref e1 :: zs)) E t tk) := by
  obtain ⟨g, hb⟩ := c.b.two
  exact pe_makeK c.mkc c.G hr hg c.m hb hx ha hkw hall hks hdb he hpl
theorem pe_mkAll (c : CalK X.prog X.w X.K X.mg X.base CX k x C f fd ps (n + 1) k1 k2 e1 e2 sp) (hr : Room (k + 1) X.A) (hg : Gl X x) (hx : Passes CX X E) (ha : PA X (e :: es) t) (hkw : PK X kws tk) (hdb : (x == ("__debug__" : Str)) = false := by decide)
    (he : starEach (e :: es) X.env = (false, eval e X.env) :: starEach es X.env := by rfl) (hpl : ((backTo pos (starEach (e :: es) X.env)).any (·.1) || (backToKw pos (keywordEach kws X.env)).any (·.1.isNone)) = false := by rfl) (hall : (backToKw pos (keywordEach kws X.env)).all (·.1.isSome) = true := by rfl) (hks : (backToKw pos (keywordEach kws X.env)).filterMap (·.1) = [k1, k2] := by rfl) :
    PE X (.Call (.Name x p) (e :: es) kws pos) (tMakeK C n 2 sp (fun vs zs => vs ++ zs) E t tk) := by
  obtain ⟨g, hb⟩ := c.b.all
  exact pe_makeK c.mkc c.G hr hg c.m hb hx ha hkw hall hks hdb he hpl
end
end El

set_option Elab.async false
set_option linter.all false
set_option maxRecDepth 100000
set_option maxHeartbeats 4000000
/-! Own words: iterating an own class whose `__iter__` returns iter(..) of a tuple. -/
namespace El
open PySem PySem.Spec PyProof.Rows L2
/-- a promise that may speak of how many objects there were at the call -/
def FnS (P : Program) (w : World) (K : PySem.W.Frag) (mg : Str → Option Value) (base : Heap) (CX : CXT) (k : Nat) (f : Addr) (sp : Nat → Sp) : Prop :=
  ∀ (A : Around) (outer : List Env) (s : Shared) (H : Hp) (us : List Value) (vs : List V) (Q : VK) (E : XK), Room k A → Env0 P w K mg base A outer s H → Vals vs us → sp s.heap.objs.size vs H Q E →
    codeAny (model P w) A (.call (.ref f) ⟨us, []⟩) (CR CX outer P w H s Q E) s
section
variable {P : Program} {w : World} {K : PySem.W.Frag} {mg : Str → Option Value} {base : Heap} {j k : Nat} {f : Addr} {sp : Nat → Sp}
theorem FnS.mono {CX : CXT} (F : FnS P w K mg base CX j f sp) (h : j ≤ k) : FnS P w K mg base CX k f sp := fun A outer s H us vs Q E hr => F A outer s H us vs Q E (hr.mono h)
theorem fun_okS {x qual : Str} {st : Stmt} {fd : FuncData} {N ps : List Str} (F : Fun K x qual st f fd) (S : FnScope N ps (defScope st)) (hb : Binds K fd ps []) (len : ∀ n vs H Q E, sp n vs H Q E → vs.length = ps.length)
    (hbody : ∀ (cdv : Value) (A : Around) (outer : List Env) (s : Shared) (H : Hp) (vs : List V) (Q : VK) (E : XK), Room k (A.deeper (envOfC qual (defScope st) s.heap.objs.size f cdv)) → sp s.heap.objs.size vs H Q E →
      ∃ t, PSs (cxOf CX0 P w K mg base N qual (defScope st) f cdv A outer s H E).nox (defBody st) t ∧ t { nx := fun _ H' => Q .non H', rt := Q } (start N vs) H) : FnS P w K mg base CX0 (k + 1) f sp := by
  obtain ⟨oc, od, kV, doc, pm, an, cdv, ct, osl, rfl, lk, hcd⟩ := F.ex
  intro A outer s H us vs Q E hr e0 r hsp
  have hl := len _ _ _ _ _ hsp
  have KX : K.In s.heap := e0.mod.kin.keeps fun b o e => (e0.bs b o e).1
  have bt := hb s us KX (by rw [List.append_nil, ← r.length]; exact hl)
  rw [List.append_nil] at bt
  have nl : s.heap.NoLimit := e0.mod.nolimit.keeps fun b o e => (e0.bs b o e).1
  refine codeAny_call_function hr.depth (KX _ _ lk) rfl S.co S.gen rfl (PySem.W.codeRec_of KX hcd) (bt _ _ _ _ ?_)
  refine wpAny_newFunctionEnv_cells S.kind (fun y hy => (S.par y.1 (List.of_mem_zip hy).1).imp id fun q => ⟨q, PySem.W.cellsFrom_some _ _ _ (.inl q)⟩) fun env he s1 x => ⟨nl.keeps x.toInCall.keep, codeAny_func ?_⟩
  subst he
  obtain ⟨t, ht, hq⟩ := hbody cdv A outer s H vs Q E (hr.deeper _) hsp
  have I := inv_start (CX := CX0) (w := w) (E := E) S hr.hd e0 hl r x
  refine wpAny_mono (ht.nox.run [] s1 (start N vs) H _ I hq) (fun fl s' hs => ?_) fun _ _ hs => hs
  match fl, hs with
  | .ret u, ⟨v, σ', H', J, rv, q⟩ => exact ⟨v, H', J.os, J.bare, J.base, J.hok, rv, q⟩
  | .next, ⟨σ', H', J, q⟩ => exact ⟨V.non, H', J.os, J.bare, J.base, J.hok, rfl, q⟩
  | .brk, ⟨_, _, _, q⟩ => exact False.elim q
  | .cont, ⟨_, _, _, q⟩ => exact False.elim q
end

/-! ### iter(..) of a tuple -/
def tiObj (t : Addr) : Obj := { cls := .type "tuple_iterator", data := .fields #[.ref t, .int 0 0] }
/-- at it the iterator of the tuple at t, at its beginning -/
def TitO (t it : Addr) : HO := .ext fun h => h.get? it = some (tiObj t)
theorem titO_ok {P : Program} {w : World} {H : Hp} {h : Heap} {t it : Addr} (e : h.get? it = some (tiObj t)) : ObjOk P w H h it (TitO t it) := ⟨e, ⟨_, e⟩, fun _ _ q k => k _ q⟩
theorem titO_get {X : Cx} {pins : List (Addr × Obj)} {σ : L2.St} {H : Hp} {s : Shared} {t it : Addr} (I : Inv X pins σ H s) (e : H it = some (TitO t it)) : s.heap.get? it = some (tiObj t) := (I.hok it _ e).1
def rIterT (K : PySem.W.Frag) (n : Nat) : List V → Hp → VK → Prop := fun xs H Q => ∃ (t : Addr) (zs : List V), xs = [.ref t] ∧ SqT K H t zs ∧ ∀ it, H it = none → n ≤ it → Q (.ref it) (upd H it (TitO t it))
theorem run_iterT {prog : Program} {w : World} {A : Around} {E : Value → Shared → Prop} {s : Shared} {t : Addr} {items : Array Value} {Q : Value → Shared → Prop} (ht : s.heap.IsTuple t items) (h : Q (.ref s.heap.objs.size) { s with heap := s.heap.push (tiObj t) }) : wpAny (model prog w) A (call (.builtin "iter") [.ref t]) Q E s := by
  refine Calls.call_function_entry (by decide +kernel) (by decide +kernel) PySem.W.kdk_entry_iter (PySem.W.kdk_args_iter _) ?_
  unfold Builtin.«iter»
  refine wpAny_bind (m := someArgs "iter" 1 2 _) (wpAny_of_eq (a := [Value.ref t]) (by first | rfl | kernel_rfl!) ?_)
  exact wpAny_bind (wpAny_pyIter_tuple ht (wpAny_pure ⟨_, rfl, h⟩))
theorem call_iterT {X : Cx} : CallR X (.builtin "iter") (rIterT X.K X.s_0.heap.objs.size) := by
  intro pins s σ H xs us Q I r h
  obtain ⟨t, zs, rfl, hq, q⟩ := h
  obtain rfl := Vals.ref1 r
  obtain ⟨its, rv, p, hz⟩ := I.tuple hq
  refine run_iterT (show s.heap.IsTuple t its.toArray from p) ?_
  exact ⟨.ref s.heap.objs.size, _, I.laid (t' := s.toks) (fun b u e => Heap.get?_push_of_some _ e) (Nat.le_refl _) (titO_ok (Heap.get?_push_size _ rfl)), rfl, q _ (I.hok.fresh (Nat.le_refl _)) I.sz⟩
theorem iterTK {X : Cx} (K : PySem.W.Frag) (n : Nat) (h : X.K = K := by rfl) (hn : X.s_0.heap.objs.size = n := by rfl) : CallR X (.builtin "iter") (rIterT K n) := h ▸ hn ▸ call_iterT

/-! ### for x in a, a of the class at C -/
structure OitC (K : PySem.W.Frag) (C f : Addr) : Prop where
  at_ : PySem.W.findIn K (.ref C) "__iter__" = some (some (.ref f))
  fn : PySem.W.isFn K (.ref f) = true
/-- behind the call the iterator is forgotten -/
def iOwnT (K : PySem.W.Frag) (C : Addr) (sp : Nat → Sp) (n : Nat) (E : XK) (te : TE) : TI := fun σ H R => te σ H fun x H1 => ∃ a dx fs, x = .ref a ∧ H1 a = some (.ins C dx fs) ∧ ∀ m, n ≤ m → sp m [.ref a] H1 (fun v H2 => ∃ t it, v = .ref it ∧ H2 it = some (TitO t it) ∧ n ≤ it ∧ R (Itt K t) (ItX.dropH H2 it)) E
theorem pi_ownT {X : Cx} {CX : CXT} {k : Nat} {C f : Addr} {sp : Nat → Sp} {E : XK} {tg e : Expr} {te : TE} (c : OitC X.K C f) (F : FnS X.prog X.w X.K X.mg X.base CX k f sp) (hr : Room k X.A) (hx : Passes CX X E) (he : PE X e te) : PI X tg e (iOwnT X.K C sp X.s_0.heap.objs.size E te) := by
  refine ⟨fun pins s σ H R I h => ?_⟩
  refine thn (he.run pins s σ H _ I h) fun v s1 ⟨x, H1, I1, r1, a, dx, fs, ex, ea, q⟩ => ?_
  subst ex
  obtain rfl : v = Value.ref a := r1
  obtain ⟨m, fr⟩ := I1.fr
  obtain ⟨mA, O, _⟩ := ins_get I1.hok ea
  obtain ⟨od, J, _⟩ := O.look
  refine PySem.W.owit_iter fr I1.ok.mod.kin J c.at_ c.fn ?_
  refine wpAny_call (codeAny_mono (F X.A X.stack s1 H1 [.ref a] [.ref a] _ E hr I1.env0 (.cons rfl .nil) (q _ I1.sz)) fun r s' hq => ?_)
  match r, hq with
  | .error e, hq => exact hx pins σ H1 s1 e s' I1 hq
  | .ok (.ret u), hq =>
    obtain ⟨w', H2, I2, rw', t, it, rfl, hi, hn, hR⟩ := I1.after hq
    obtain rfl : u = Value.ref it := rw'
    have eo := titO_get I2 hi
    have hi' := hi
    unfold TitO at hi'
    have LT : PySem.W.Looks (model X.prog X.w) s'.heap (typeOf (.ref it)) (.type "tuple_iterator") := (PySem.W.Looks.ld (part := none) eo).andThen .now
    have LN : PySem.W.Looks (model X.prog X.w) s'.heap (specialOf (.ref it) (Str.ofString "__next__")) (some (.builtin "tuple_iterator.__next__")) := LT.andThen (PySem.W.Looks.of_pure slot_tupleiter_next.lookup)
    refine LN.here ?_
    refine ⟨it, [it], _, _, ItX.dropH H2 it, rfl, ItX.inv_drop I2 hi', turn_tuple t it, ⟨_, eo, rfl, rfl⟩, fun b hb => ?_, hR⟩
    have e : b = it := by simpa using hb
    rw [e]
    exact ItX.inv_fp I2 hi hn
  | .ok .next, hq => exact False.elim hq
  | .ok .brk, hq => exact False.elim hq
  | .ok .cont, hq => exact False.elim hq
end El

set_option Elab.async false
set_option linter.all false
set_option maxRecDepth 100000
set_option maxHeartbeats 4000000
/-! Own words: len(set(xs)) of a list or a tuple of any number of texts. -/
namespace El
open PySem PySem.Spec PyProof.Rows L2
section
variable {prog : Program} {w : World} {A : Around} {E : Value → Shared → Prop} {s : Shared}
/-- what set.__init__ does to a new set with a list of texts -/
theorem init_txL {l : Addr} {items : Array Value} {xs : List Str} {led : Bool} (hh : A.handled = none) (hl : s.heap.IsList l items) (hi : PyProof.Rows.StrsAre items.toList xs) (hx : xs.length + 1 < scanBound) :
    codeAny (model prog w) A (.call (.builtin "set.__init__") ⟨[.ref s.heap.objs.size, .ref l], []⟩)
      (wants (fun r s2 => r = .none ∧ ∃ h' tk c, s2 = { s with heap := h', toks := tk } ∧ Cnt xs xs.length c ∧ h'.SetOf (PySem.strKind prog w) s.heap.objs.size (Has xs xs.length) c ∧ (∀ q o, s.heap.get? q = some o → h'.get? q = some o)) E)
      { s with heap := s.heap.push (setObj led) } := by
  have hT : Shared.TypeIs { s with heap := s.heap.push (setObj led) } (.ref s.heap.objs.size) "set" := ⟨_, Heap.get?_push_size _ rfl, rfl⟩
  refine codeAny_call_builtin PySem.F.called_set.init.plain PySem.F.entry_set_init (check_set_init_1 hT ?_)
  obtain ⟨⟨kc, kd, kx, ks⟩, hol, hcl, nl, hdl⟩ := hl
  simp only at hcl hdl
  subst hcl hdl
  have hol' : (s.heap.push (setObj led)).get? l = some _ := Heap.get?_push_of_some _ hol
  have hl1 : (s.heap.push (setObj led)).IsList l items := ⟨_, hol', rfl, nl, rfl⟩
  have hsls := PySem.F.sub_list_set
  have hslf := PySem.F.sub_list_frozenset
  have hne : (Value.type "list" == Value.type "dict") = false := by decide
  unfold Builtin.«set.__init__» noKeywords Builtin.Frozenset.updateFrom
  generalize ePI : pyIter = PI
  wp_walk
  subst ePI
  refine wpAny_pyIter_list hl1 (wpAny_bind (wpAny_runValue ?_))
  have below : l < s.heap.objs.size := Heap.lt_size hol
  have nh : A.in1.in1.handled = none := by simp [hh]
  have z1 : (s.heap.push (setObj led)).objs.size = s.heap.objs.size + 1 := Heap.size_push ..
  have apart : l ≠ (s.heap.push (setObj led)).objs.size := by
    rw [z1]
    exact Nat.ne_of_lt (Nat.lt_succ_of_lt below)
  have out : s.heap.objs.size ∉ [(s.heap.push (setObj led)).objs.size, l] := by
    rw [List.mem_cons, List.mem_singleton, z1]
    exact fun q => q.elim (Nat.ne_of_lt (Nat.lt_succ_self _)) (Nat.ne_of_gt below)
  have zx : xs.length = items.size := by rw [← StrsAre.len_eq hi, Array.length_toList]
  refine loopTx ((Walks.list nh _ l apart items).toS) s.heap.objs.size out xs zx (zx ▸ hx) (fun i v e => SS.strs_at hi i v (Array.getElem?_toList ▸ e)) (items.size - 0) 0 _ (by omega) (Nat.zero_le _) ?at_ ?first ?last
  case at_ => exact ⟨⟨_, Heap.get?_push_size _ rfl, rfl, rfl⟩, hl1.push _⟩
  case first =>
    refine ⟨0, Cnt.nil xs, ?_⟩
    refine SetOf_congr ((PyProof.Rows.setObjOf_fresh (knd := PySem.strKind prog w) led).setOf (Heap.get?_push_of_some _ (Heap.get?_push_size _ rfl)) (by unfold scanBound; omega)) (fun y => ?_) rfl
    rfl
  case last =>
    rintro ⟨h', g', d', tk', os'⟩ c mv hc ho
    obtain rfl : g' = s.gens := mv.gens
    obtain rfl : d' = s.drawn := mv.drawn
    obtain rfl : os' = s.os := mv.os
    refine wpAny_pure (wpAny_pure ⟨rfl, h', tk', c, rfl, zx ▸ hc, zx ▸ ho, fun q o e => ?_⟩)
    have lq := Heap.lt_size e
    refine mv.heap q o (by rw [List.mem_cons, List.mem_singleton, z1]; exact fun z => z.elim (Nat.ne_of_lt lq) (Nat.ne_of_lt (Nat.lt_succ_of_lt lq))) (Heap.get?_push_of_some _ (Heap.get?_push_of_some _ e))
set_option maxHeartbeats 8000000 in
theorem call_set_txL {l : Addr} {items : Array Value} {xs : List Str} {Q : Value → Shared → Prop} (hh : A.handled = none) (hl : s.heap.IsList l items) (hi : PyProof.Rows.StrsAre items.toList xs) (hx : xs.length + 1 < scanBound)
    (h : ∀ (h' : Heap) (tk c : Nat), Cnt xs xs.length c → h'.SetOf (PySem.strKind prog w) s.heap.objs.size (Has xs xs.length) c → (∀ q o, s.heap.get? q = some o → h'.get? q = some o) → Q (.ref s.heap.objs.size) { s with heap := h', toks := tk }) :
    wpAny (model prog w) A (call (.type "set") [.ref l]) Q E s := by
  obtain ⟨_, _, hmro⟩ := PySem.F.called_set.mro
  have hmade := PySem.F.called_set.made
  have hsub := PySem.F.called_set.sub
  have h1 := PySem.F.called_set.notType
  have h2 := PySem.F.called_set.canCreate
  have hct := PySem.F.typeCall_set_1 (.ref l)
  refine wpAny_call (codeAny_of_tree (wpAny_pure (a := _) ⟨Code.quiet_builtin _ (by decide +kernel), codeAny_builtin PySem.F.entry_type_call ?_⟩))
  rw [Around.under_plain (weight_type_call_type "set" [.ref l] []) rfl]
  repeat (any_goals (first | assumption | wp_step))
  refine codeAny_mono (code_set_new_1 (.ref l) (E := E) (Q₁ := fun v s1 => ∃ led, v = .ref s.heap.objs.size ∧ s1 = { s with heap := s.heap.push (setObj led) }) fun led => ⟨led, rfl, rfl⟩) fun r s1 hr => ?_
  match r, hr with
  | .ok (.ret v), hr =>
    obtain ⟨led, rfl, rfl⟩ := hr
    have hS : (s.heap.push (setObj led)).get? s.heap.objs.size = some (setObj led) := Heap.get?_push_size _ rfl
    have hT : Shared.TypeIs { s with heap := s.heap.push (setObj led) } (.ref s.heap.objs.size) "set" := ⟨_, hS, rfl⟩
    have hli := PySem.F.called_set.init.lookup
    have hbi := PySem.F.called_set.init.bind (.ref s.heap.objs.size)
    repeat (any_goals (first | assumption | wp_step))
    refine codeAny_mono (init_txL (E := E) (by simp [hh]) hl hi hx) fun r s2 hr => ?_
    match r, hr with
    | .ok (.ret v), hr =>
      obtain ⟨rfl, h', tk, c, rfl, hc, ho, keep⟩ := hr
      repeat (any_goals (first | assumption | wp_step))
      exact h h' tk c hc ho keep
    | .error e, hr => exact hr
    | .ok .next, hr => exact hr.elim
    | .ok .brk, hr => exact hr.elim
    | .ok .cont, hr => exact hr.elim
  | .error e, hr => exact hr
  | .ok .next, hr => exact hr.elim
  | .ok .brk, hr => exact hr.elim
  | .ok .cont, hr => exact hr.elim
end
/-- len(set(xs)), xs a tuple or a list of texts -/
def tLenSetS (K : PySem.W.Frag) (ta : TE) : TE := fun σ H Q => ta σ H fun x H1 => ∃ (l : Addr) (xs : List Str), x = .ref l ∧ (SqT K H1 l (xs.map V.str) ∨ SqL K H1 l (xs.map V.str)) ∧ xs.length < 64 ∧ ∀ c : Nat, c ≤ xs.length → (c = xs.length ↔ xs.Nodup) → Q (.int c) H1
theorem pe_lenSetS {X : Cx} {a : Expr} {ta : TE} {p p2 q pos : Pos} (K : PySem.W.Frag) (hg : Gl X "len") (hm : X.mg "len" = none) (hg2 : Gl X "set") (hm2 : X.mg "set" = none) (ha : PE X a ta) (hc : X.calm = true := by rfl)
    (na : starEach [a] X.env = (false, eval a X.env) :: starEach [] X.env := by rfl) (hK : X.K = K := by rfl) : PE X (.Call (.Name "len" p) [.Call (.Name "set" p2) [a] [] q] [] pos) (tLenSetS K ta) := by
  subst hK
  refine ⟨fun pins s σ H Q I h => Call_ (ld_blt I hg hm boot_len (PyProof.Rows.callWith_builtin1 (PyProof.Rows.args_cons (Call_ (ld_blt I hg2 hm2 boot_set (PyProof.Rows.callWith_type1 (PyProof.Rows.args_cons (thn (ha.run pins s σ H _ I h) fun v s1 ⟨x, H1, I1, r1, q1⟩ => PyProof.Rows.args_nil ?_) na) na rfl))) rfl) rfl rfl))⟩
  obtain ⟨l, xs, rfl, ht, few, q1⟩ := q1
  obtain rfl : v = Value.ref l := r1
  have fin : ∀ (h' : Heap) (tk c : Nat), Cnt xs xs.length c → h'.SetOf (PySem.strKind X.prog X.w) s1.heap.objs.size (Has xs xs.length) c → (∀ q o, s1.heap.get? q = some o → h'.get? q = some o) → wpAny (model X.prog X.w) X.A (call (.builtin "len") [.ref s1.heap.objs.size]) (EP X pins σ Q) X.xe { s1 with heap := h', toks := tk } := fun h' tk c hcn hS keep => by
    obtain ⟨o, es, ep, tb, ho, hex, hd, _, _, _, hf, hn⟩ := hS
    have I2 : Inv X pins σ H1 { s1 with heap := h', toks := tk } := I1.kept keep
    obtain ⟨c1, c2⟩ := hcn
    rw [List.take_length] at c2
    exact call_len_set ho hex hd hf (by rw [hn]; omega) ⟨.int c, H1, I2.tok _, ⟨_, by rw [hn]⟩, q1 c c1 c2⟩
  rcases ht with ht | ht
  · obtain ⟨its, rv, pl, _⟩ := I1.tuple ht
    exact call_set_tx (I1.ok.hd hc) pl (by simpa using strsAre_of rv) (by unfold scanBound; omega) fun h' tk c hcn hS keep => PyProof.Rows.args_nil (fin h' tk c hcn hS keep)
  · obtain ⟨its, rv, pl, _⟩ := I1.list ht
    exact call_set_txL (I1.ok.hd hc) pl.isList (by simpa using strsAre_of rv) (by unfold scanBound; omega) fun h' tk c hcn hS keep => PyProof.Rows.args_nil (fin h' tk c hcn hS keep)
end El

set_option Elab.async false
set_option linter.all false
set_option maxRecDepth 100000
set_option maxHeartbeats 4000000
/-! Own words: enumerate(t) of a tuple. -/
namespace El
open PySem PySem.Spec PyProof.Rows L2
open AutoSeq1 (wpAny_loadPart')
/-- the tuple at a, each item in a new pair with its place -/
def IteT (K : PySem.W.Frag) (a : Addr) : It where
  go := fun i H => ∃ (xs : List V) (x : V), SqT K H a xs ∧ xs[i]? = some x
  yld := fun i H v H' => ∃ T x, v = .ref T ∧ H T = none ∧ H' = upd H T (.tup [.int (i : Nat), x]) ∧ ∀ xs, SqT K H a xs → xs[i]? = some x
  stop := fun i H => ∃ xs : List V, SqT K H a xs ∧ xs.length ≤ i
theorem walk_enumT {K : PySem.W.Frag} {a : Addr} {xs : List V} : Walk (IteT K a) xs.length (fun H => SqT K H a xs) (YPair (fun i => some (.int (i : Nat))) (fun i => xs[i]?)) where
  goes := fun i _ hi q => ⟨xs, xs[i], q, by simp [hi]⟩
  stops := fun _ q => ⟨xs, q, Nat.le_refl _⟩
  yields := fun i H v H' _ q y => by
    obtain ⟨T, x, h1, h2, h3, h4⟩ := y
    exact ⟨T, .int (i : Nat), x, h1, h2, h3, rfl, h4 xs q⟩
/-- the object of an enumerate over it, at its beginning -/
def enObj (it : Addr) : Obj := { cls := .type "enumerate", data := .fields #[.none, .bool false, .ref it, rawInt 0, .none, .none] }
theorem enum_newT (t : Addr) (items : Array Value) (n : Nat) (dct : Option Addr) (sl : Array (Option Value)) :
    Meets (Builtin.«enumerate.__new__» ⟨[.type "enumerate", .ref t], []⟩) (fun _ R s => s.heap.get? t = some ⟨.type "tuple", dct, .seq items n, sl⟩ ∧ R (.ok (.ret (.ref (s.heap.push (tiObj t)).objs.size))) { s with heap := (s.heap.push (tiObj t)).push (enObj s.heap.objs.size) }) :=
  .of_wp fun prog w A R s h => by
    obtain ⟨hp, g, d, tk, os⟩ := s
    obtain ⟨ht, h⟩ := h
    have hsub := sub_enumerate
    have hT : Heap.IsTuple (Shared.heap ⟨hp, g, d, tk, os⟩) t items := ⟨_, ht, rfl, n, rfl⟩
    wp_walk using wpAny_loadPart' ht
    refine wpAny_stack_any fun st => wpAny_pure ?_
    split
    · rename_i c _ _ _ _ _
      cases (c == Value.type "enumerate") <;> (wp_walk using wpAny_loadPart' ht, wpAny_pyIter_tuple hT; exact ⟨_, rfl, h⟩)
    · wp_walk using wpAny_loadPart' ht, wpAny_pyIter_tuple hT
      exact ⟨_, rfl, h⟩
section
variable {prog : Program} {w : World} {A : Around} {E : Value → Shared → Prop} {s : Shared}
theorem call_enumT {t : Addr} {items : Array Value} {Q : Value → Shared → Prop} (hT : s.heap.IsTuple t items)
    (h : ∀ h', IsEnum h' (s.heap.objs.size + 1) s.heap.objs.size 0 .none → h'.IsTupleIter s.heap.objs.size t 0 → (∀ b o, s.heap.get? b = some o → h'.get? b = some o) → Q (.ref (s.heap.objs.size + 1)) { s with heap := h' }) :
    wpAny (model prog w) A (call (.type "enumerate") [.ref t]) Q E s := by
  obtain ⟨⟨c, dct, dt, sl⟩, ht, hc, n, hd⟩ := hT
  simp only at hc hd
  subst hc hd
  refine callType_new F.called_enumerate (by decide) (F.typeCall_enumerate_1 _) (F.newCall_enumerate_1 _) (fun obj => F.args_object_init_2 obj _) F.entry_enumerate_new (enum_newT t items n dct sl) ⟨ht, ?_⟩
  have hz : (s.heap.push (tiObj t)).objs.size = s.heap.objs.size + 1 := Heap.size_push ..
  have he : IsEnum ((s.heap.push (tiObj t)).push (enObj s.heap.objs.size)) (s.heap.objs.size + 1) s.heap.objs.size 0 .none := by
    have q := Heap.get?_push_size (s.heap.push (tiObj t)) (o := enObj s.heap.objs.size) rfl
    rw [hz] at q
    exact q
  rw [hz]
  exact ⟨⟨_, he, rfl⟩, h _ he ⟨_, Heap.get?_push_of_some _ (Heap.get?_push_size _ rfl), rfl, rfl⟩ fun b o x => Heap.get?_push_of_some _ (Heap.get?_push_of_some _ x)⟩
end
theorem turn_enumT {P : Program} {w : World} {K : PySem.W.Frag} {elts : List Expr} {kk : Nat} {tpos : Pos} (t e it : Addr) (items : Array Value) :
    Turn P w K (.Tuple elts kk tpos) (IteT K t) [e, it] e (fun i h => (∃ old, IsEnum h e it ((i : Nat) : Int) old) ∧ h.IsTupleIter it t i ∧ e ≠ it ∧ t ≠ it ∧ t ≠ e) where
  mem := List.mem_cons_self
  obj := fun i h st b hb => by
    obtain ⟨⟨old, he⟩, ⟨o, ho, hc, hd⟩, _⟩ := st
    rw [List.mem_cons, List.mem_singleton] at hb
    rcases hb with z | z
    · exact z ▸ ⟨_, he, fun v q => nomatch q⟩
    · exact z ▸ ⟨o, ho, fun v q => by rw [hd] at q; cases q⟩
  keep := fun i h h' st k => by
    obtain ⟨⟨old, he⟩, hi, hne⟩ := st
    exact ⟨⟨old, k e List.mem_cons_self _ he⟩, hi.at fun o q => k it (List.mem_cons_of_mem _ List.mem_cons_self) o q, hne⟩
  item := by
    intro X hP hw hK hc i pins s σ H E I hf st hg
    subst hP hw hK
    obtain ⟨⟨old, he⟩, hit, hne, n1, n2⟩ := st
    obtain ⟨xs, x, hq, hx⟩ := hg
    obtain ⟨its, rv, p, hz⟩ := I.tuple hq
    obtain ⟨u, hu, ru⟩ := rv.get hx
    have lt : i < its.toArray.size := by
      have := (List.getElem?_eq_some_iff.mp hu).1
      simpa using this
    have le : e < s.heap.objs.size := Heap.lt_size he
    have li : it < s.heap.objs.size := by obtain ⟨_, q, _⟩ := hit; exact Heap.lt_size q
    have nf : e ∉ [it, t] := by
      rw [List.mem_cons, List.mem_singleton]
      exact fun z => z.elim hne fun z => n2 z.symm
    refine wpAny_pyNext_enum_itemD (Draws.tuple (A := X.A.in1) (by simpa using I.ok.hd hc) it t n1 its.toArray) he ⟨hit, p⟩ lt hne nf fun v h' tk hv ho hit' hT hsz hk => ?_
    obtain rfl : v = u := by
      have e1 : its.toArray[i]? = some u := by simpa using hu
      exact Option.some.inj (hv.symm.trans e1)
    refine ⟨_, rfl, wpAny_letOwnedTupleGo_enum (s := { s with heap := h', toks := tk + 1 }) ho fun h'' he' sb => ?_⟩
    have hT2 := (sb.2 _ (Nat.ne_of_gt le)).trans hT
    have new : ObjOk X.prog X.w (upd H s.heap.objs.size (.tup [.int (i : Nat), x])) h'' s.heap.objs.size (.tup [.int (i : Nat), x]) :=
      ⟨by show 2 ≤ sizeLine; decide, [.int i tk, v], .cons ⟨_, rfl⟩ (.cons ru .nil), ⟨_, hT2, rfl, _, rfl⟩⟩
    have I1 : Inv X pins σ (upd H s.heap.objs.size (.tup [.int (i : Nat), x])) { s with heap := h'', toks := tk + 1 } := by
      refine I.turnedNew (ch := [e, it]) (fun b ob hb q => ?_) hf (Nat.le_refl _) new
      rw [List.mem_cons, List.mem_singleton, not_or] at hb
      exact (sb.2 b hb.1).trans (hk b ob hb.1 hb.2 q)
    refine ⟨.ref s.heap.objs.size, _, I1, rfl, ⟨_, x, rfl, I.hok.fresh (Nat.le_refl _), rfl, fun ys hy => by rw [I.tuple_inj hy hq]; exact hx⟩, ⟨⟨v, ?_⟩, hit'.1.at fun o q => (sb.2 it (Ne.symm hne)).trans q, hne, n1, n2⟩, fun b hb => ?_⟩
    · have e1 : ((i + 1 : Nat) : Int) = (i : Int) + 1 := by omega
      rw [e1]
      exact he'
    · have lb : b < s.heap.objs.size := by
        rw [List.mem_cons, List.mem_singleton] at hb
        rcases hb with z | z
        · rw [z]; exact le
        · rw [z]; exact li
      rw [upd_ne (Nat.ne_of_lt lb)]
      exact (hf b hb).1
  done := by
    intro X hP hw hK hc i pins s σ H E I hf st hg
    subst hP hw hK
    obtain ⟨⟨old, he⟩, hit, hne, n1, n2⟩ := st
    obtain ⟨xs, hq, hx⟩ := hg
    obtain ⟨its, rv, p, hz⟩ := I.tuple hq
    obtain ⟨f0, f1, f2, f3, f4, f5⟩ := hf it (List.mem_cons_of_mem _ List.mem_cons_self)
    have none_ : its.toArray[i]? = none := by
      have hl := rv.length
      simp
      omega
    have D : Draws X.prog X.w X.A.in1 it [it, t] 0 (fun _ _ => False) (fun _ h => h.IsTupleIter it t i ∧ h.IsTuple t its.toArray) :=
      { live := fun _ _ st => let ⟨o, ho, _⟩ := st.1; ⟨o, ho⟩
        frame := fun _ _ _ st hk => ⟨st.1.at fun o e => hk it List.mem_cons_self o e, st.2.at fun o e => hk t (List.mem_cons_of_mem _ List.mem_cons_self) o e⟩
        item := fun _ _ _ _ z => absurd z (Nat.not_lt_zero _)
        done := fun s Q E st hE => wpAny_nextOf_tuple_end (by simpa using I.ok.hd hc) st.1 st.2 none_ hE }
    exact wpAny_pyNext_enum_endD D he ⟨hit, p⟩ fun h' eb => ⟨rfl, I.turned (t' := s.toks) (fun b o hb q => eb b o hb q) f0 f1 f3 f4 f5⟩
  self := fun A i s Q E st h => by
    obtain ⟨⟨_, he⟩, _⟩ := st
    exact wpAny_pyIter_enum he h
def iEnumT (K : PySem.W.Frag) (ta : TA) : TI := fun σ H R => ta σ H fun vs H1 => ∃ a xs, vs = [.ref a] ∧ SqT K H1 a xs ∧ R (IteT K a) H1
theorem pi_enumT {X : Cx} {e : Expr} {ta : TA} {p pos tpos : Pos} {elts : List Expr} {kk : Nat} (hg : Gl X "enumerate") (hm : X.mg "enumerate" = none) (ha : PA X [e] ta) (hs : starEach [e] X.env = [(false, eval e X.env)] := by rfl) :
    PI X (.Tuple elts kk tpos) (.Call (.Name "enumerate" p) [e] [] pos) (iEnumT X.K ta) := by
  refine ⟨fun pins s σ H R I h => Call_ (ld_blt I hg hm boot_enumerate (PyProof.Rows.callWith_type1 (thn (ha.run pos pins s σ H _ I h) fun us s1 ⟨vs, H1, I1, r1, a, xs, ex, hq, q⟩ => ?_) hs rfl))⟩
  subst ex
  obtain rfl := Vals.ref1 r1
  obtain ⟨its, rv, pt, hz⟩ := I1.tuple hq
  have la : a < s1.heap.objs.size := by obtain ⟨o, ho, _⟩ := pt; exact Heap.lt_size ho
  refine call_enumT pt fun h' he hit hk => wpAny_pyIter_enum he ?_
  refine ⟨s1.heap.objs.size + 1, [s1.heap.objs.size + 1, s1.heap.objs.size], _, _, H1, rfl, I1.kept (t' := s1.toks) hk, turn_enumT a (s1.heap.objs.size + 1) s1.heap.objs.size its.toArray, ⟨⟨.none, he⟩, hit, Nat.succ_ne_self _, Nat.ne_of_lt la, Nat.ne_of_lt (Nat.lt_succ_of_lt la)⟩, fun b hb => ?_, q⟩
  have hle : s1.heap.objs.size ≤ b := by
    rw [List.mem_cons, List.mem_singleton] at hb
    rcases hb with z | z
    · exact z ▸ Nat.le_succ _
    · exact z ▸ Nat.le_refl _
  exact I1.fpOk hle (I1.hok.fresh hle)
end El

set_option Elab.async false
set_option linter.all false
set_option maxRecDepth 100000
set_option maxHeartbeats 4000000
/-! Own words: a list or a tuple walked; own classes made, read by [..] inside a try; own exceptions without arguments. -/
namespace El
open PySem PySem.Spec PyProof.Rows L2 NdefX
section
variable {X : Cx} {tg l : Expr} {tl : TE}
def iSeq (K : PySem.W.Frag) (tl : TE) : TI := fun σ H R => tl σ H fun x H1 => ∃ a xs, x = .ref a ∧ ((SqL K H1 a xs ∧ R (Itl K a) H1) ∨ (SqT K H1 a xs ∧ R (Itt K a) H1))
theorem pi_seq (hl : PE X l tl) : PI X tg l (iSeq X.K tl) := by
  refine ⟨fun pins s σ H R I h => thn (hl.run pins s σ H _ I h) fun v s1 ⟨x, H1, I1, r1, a, xs, ex, q⟩ => ?_⟩
  subst ex
  obtain rfl : v = Value.ref a := r1
  have new : ∀ b ∈ [s1.heap.objs.size], FpOk X pins H1 b := fun b hb => by
    rw [List.mem_singleton] at hb
    exact hb ▸ I1.fpOk (Nat.le_refl _) (I1.hok.fresh (Nat.le_refl _))
  rcases q with ⟨hq, q⟩ | ⟨hq, q⟩
  · obtain ⟨its, rv, p, _⟩ := I1.list hq
    exact wpAny_pyIter_list p.isList ⟨_, _, _, _, H1, rfl, I1.kept (t' := s1.toks) fun b o e => Heap.get?_push_of_some _ e, turn_list a _, ⟨_, Heap.get?_push_size _ rfl, rfl, rfl⟩, new, q⟩
  · obtain ⟨its, rv, p, _⟩ := I1.tuple hq
    exact wpAny_pyIter_tuple p ⟨_, _, _, _, H1, rfl, I1.kept (t' := s1.toks) fun b o e => Heap.get?_push_of_some _ e, turn_tuple a _, ⟨_, Heap.get?_push_size _ rfl, rfl, rfl⟩, new, q⟩
end
theorem pi_seqK {X : Cx} {tg l : Expr} {tl : TE} (K : PySem.W.Frag) (hl : PE X l tl) (h : X.K = K := by rfl) : PI X tg l (iSeq K tl) := h ▸ pi_seq hl
section
variable {X : Cx} {CX : CXT} {k : Nat} {C f : Addr} {fd : FuncData} {ps : List Str} {ds : List Value} {dvs : List V} {sp : Sp} {E : L2.St → XK} {x : Str} {p pos : Pos} {a b e : Expr} {es : List Expr} {ta tb : TE} {t : TA}
/-- C(e, ..), what its __init__ lets out being taken where it stands -/
def tMakeS (C : Addr) (sp : Sp) (E : L2.St → XK) (t : TA) : TE := fun σ H Q => t σ H fun vs H1 => ∀ x dx, H1 x = none → H1 dx = none → dx ≠ x → sp (.ref x :: vs) (upd (upd H1 dx (.own x)) x (.ins C dx [])) (fun v H2 => v = .non ∧ Q (.ref x) H2) (E σ)
theorem run_makeS {pins : List (Addr × Obj)} {σ : L2.St} {H : Hp} {s : Shared} {Q : VK} {us : List Value} {vs : List V} {E : XK} (M : Mk X.K C f) (F : FnOk X.prog X.w X.K X.mg X.base CX k f fd ps sp) (hr : Room (k + 1) X.A) (hb : Binds X.K fd ps [])
    (hx : PassesAt CX X σ E) (I : Inv X pins σ H s) (r : Vals vs us)
    (h : ∀ x dx, H x = none → H dx = none → dx ≠ x → sp (.ref x :: vs) (upd (upd H dx (.own x)) x (.ins C dx [])) (fun v H2 => v = .non ∧ Q (.ref x) H2) E) : wpAny (model X.prog X.w) X.A (call (.ref C) us) (EP X pins σ Q) X.xe s := by
  have fresh := fun n hn => I.hok.fresh (a := n) hn
  have q := h (s.heap.objs.size + 1) s.heap.objs.size (fresh _ (Nat.le_succ _)) (fresh _ (Nat.le_refl _)) (Nat.ne_of_lt (Nat.lt_succ_self _))
  have J := Inv.made (C := C) I
  have rr : Vals (V.ref (s.heap.objs.size + 1) :: vs) (Value.ref (s.heap.objs.size + 1) :: us) := .cons rfl r
  have hl : (Value.ref (s.heap.objs.size + 1) :: us ++ []).length = ps.length := by rw [List.append_nil, ← rr.length]; exact F.len _ _ _ _ q
  have bt := hb _ (Value.ref (s.heap.objs.size + 1) :: us) J.kIn hl
  rw [List.append_nil] at bt
  refine wpAny_call (make_map (f := f) I.kIn M.makes M.init (beq_iff_eq.mp M.fn) (codeAny_mono (F.run _ X.stack _ _ ⟨Value.ref (s.heap.objs.size + 1) :: us, []⟩ _ _ _ E (hr.make C us []) (J.env0.make C us []) bt rr q) fun r s' hs => ?_))
  match r, hs with
  | .error e, hs => exact hx pins _ _ e s' J hs
  | .ok (.ret u), hs =>
    obtain ⟨v, H', J', rv, ev, q'⟩ := J.after hs
    subst ev
    exact ⟨rv, V.ref (s.heap.objs.size + 1), H', J', rfl, q'⟩
  | .ok .next, hs => exact False.elim hs
  | .ok .brk, hs => exact False.elim hs
  | .ok .cont, hs => exact False.elim hs
theorem pe_makeS (M : Mk X.K C f) (F : FnOk X.prog X.w X.K X.mg X.base CX k f fd ps sp) (hr : Room (k + 1) X.A) (hg : Gl X x) (hm : X.mg x = some (.ref C)) (hb : Binds X.K fd ps []) (hx : ∀ σ, PassesAt CX X σ (E σ)) (ha : PA X (e :: es) t)
    (hdb : (x == ("__debug__" : Str)) = false := by decide) (he : starEach (e :: es) X.env = (false, eval e X.env) :: starEach es X.env := by rfl) (hpl : (backTo pos (starEach es X.env)).any (·.1) = false := by rfl) :
    PE X (.Call (.Name x p) (e :: es) [] pos) (tMakeS C sp E t) := by
  refine ⟨fun pins s σ H Q I h => wpAny_Call_Name_kw (ld_glob I hg hm ?_ hdb)⟩
  refine PySem.W.callWith_K (h₀ := X.base) I.ok.mod.kin M.kp (thn (ha.run pos pins s σ H _ I h) fun us s1 ⟨vs, H1, I1, r, q⟩ => ⟨I1.kIn, ?_⟩) he hpl
  exact run_makeS M F hr hb (hx σ) I1 r q
/-- an own class's `__getitem__`, as it is read by [..] -/
structure SubC (K : PySem.W.Frag) (C f : Addr) : Prop where
  at_ : PySem.W.findIn K (.ref C) "__getitem__" = some (some (.ref f))
  fn : PySem.W.isFn K (.ref f) = true
  fi : PySem.W.fnIn K f = true
/-- a[y], a of the class at C, what it lets out being taken where it stands -/
def tItS (C : Addr) (sp : Sp) (E : L2.St → XK) (ta tb : TE) : TE := fun σ H Q => ta σ H fun x H1 => tb σ H1 fun y H2 => ∃ a dx fs, x = .ref a ∧ H2 a = some (.ins C dx fs) ∧ sp [.ref a, y] H2 Q (E σ)
theorem pe_itS (c : SubC X.K C f) (F : FnOk X.prog X.w X.K X.mg X.base CX k f fd ps sp) (hr : Room (k + 1) X.A) (hb : Binds X.K fd ps []) (hx : ∀ σ, PassesAt CX X σ (E σ)) (ha : PE X a ta) (hb2 : PE X b tb)
    (hs : ∀ o i, subscripted b true o i = runValue (.builtin "lifetime.subscript" ⟨[o, i], []⟩) := by intro _ _; rfl) : PE X (.Subscript a b pos) (tItS C sp E ta tb) := by
  refine ⟨fun pins s σ H Q I h => Subscript_ (binT ha hb2 I (R := fun x y H2 => ∃ a dx fs, x = .ref a ∧ H2 a = some (.ins C dx fs) ∧ sp [.ref a, y] H2 Q (E σ)) h fun v u s2 x y H2 I2 rx ry q => ?_)⟩
  obtain ⟨a, dx, fs, rfl, ea, q⟩ := q
  obtain rfl : v = Value.ref a := rx
  obtain ⟨m, fr⟩ := I2.fr
  obtain ⟨mA, O, _⟩ := ins_get I2.hok ea
  obtain ⟨od, J, _⟩ := O.look
  refine PySem.W.sub_K fr I2.ok.mod.kin J c.at_ c.fi c.fn ?_ (hs _ _)
  have hl : ([Value.ref a, u] ++ []).length = ps.length := F.len _ _ _ _ q
  have bt := hb s2 [.ref a, u] I2.kIn hl
  rw [List.append_nil] at bt
  refine wpAny_call (codeAny_mono (F.run X.A.in1 X.stack s2 H2 ⟨[.ref a, u], []⟩ [.ref a, u] [.ref a, y] Q (E σ) hr.in1 I2.env0.in1 bt (.cons rfl (.cons ry .nil)) q) fun r s' hq => ?_)
  match r, hq with
  | .error e, hq => exact hx σ pins H2 s2 e s' I2 hq
  | .ok (.ret u), hq => exact I2.after hq
  | .ok .next, hq => exact False.elim hq
  | .ok .brk, hq => exact False.elim hq
  | .ok .cont, hq => exact False.elim hq
end
section
variable {X : Cx} {CX : CXT} {k : Nat} {C f : Addr} {fd : FuncData} {ps : List Str} {sp : Sp} {E : XK} {pos : Pos} {a b : Expr} {ta tb : TE}
theorem pe_itO (c : SubC X.K C f) (F : FnOk X.prog X.w X.K X.mg X.base CX k f fd ps sp) (hr : Room (k + 1) X.A) (hb : Binds X.K fd ps []) (hx : Passes CX X E) (ha : PE X a ta) (hb2 : PE X b tb)
    (hs : ∀ o i, subscripted b true o i = runValue (.builtin "lifetime.subscript" ⟨[o, i], []⟩) := by intro _ _; rfl) : PE X (.Subscript a b pos) (tItS C sp (fun _ => E) ta tb) :=
  pe_itS c F hr hb (fun σ pins H s e s' I h => hx pins σ H s e s' I h) ha hb2 hs
end
/-! ### an own exception made without arguments -/
section
variable {X : Cx} {p pos : Pos}
theorem pmk_oex0 {CX : CXT} {x : Str} {C fI : Addr} {k : Nat} {fd : FuncData} {ps : List Str} {sp : Sp} (T : OexC X.K C) (iC : PySem.W.findIn X.K (.ref C) "__init__" = some (some (.ref fI))) (tI : PySem.W.typeIn X.K (.ref fI) = some (.type "function"))
    (F1 : FnOk X.prog X.w X.K X.mg X.base CX k fI fd ps sp) (hr : Room (k + 1) X.A) (hb : Binds X.K fd ps []) (hx : Passes CX X (fun _ _ _ => False)) (hg : Gl X x) (hm : X.mg x = some (.ref C)) (hdb : (x == ("__debug__" : Str)) = false := by decide) :
    PMk X (.Call (.Name x p) [] [] pos) (tMkO C sp [] tNil) := by
  intro pins s σ H Q I h
  obtain ⟨nm, q, N, bs, bm, sn, sub, ab, col, dd, k0, k1, k2, k3, k5, hC, hbm⟩ := T.cls
  refine wpAny_Call_Name_kw (ld_glob I hg hm ?_ hdb)
  refine PySem.W.callWith_K0 I.kIn T.kC ?_
  obtain ⟨_, q1⟩ := h
  obtain ⟨hp, g, dr, tk, os⟩ := s
  have up : hp.objs.size ≤ hp.objs.size + 1 := Nat.le_succ _
  have hq := q1 (hp.objs.size + 1) (I.hok.fresh up)
  have stay : ∀ b o, hp.get? b = some o → ((hp.push (PySem.W.kdv_tup [])).push (PySem.HandSPX.excO C hp.objs.size)).get? b = some o := fun b o e => Heap.get?_push_of_some _ (Heap.get?_push_of_some _ e)
  have there : ((hp.push (PySem.W.kdv_tup [])).push (PySem.HandSPX.excO C hp.objs.size)).get? (hp.objs.size + 1) = some (PySem.HandSPX.excO C hp.objs.size) := by heap_get
  have I2 := I.laid (t' := tk) (a := hp.objs.size + 1) (o := exo (hp.objs.size + 1) C none) (h' := (hp.push (PySem.W.kdv_tup [])).push (PySem.HandSPX.excO C hp.objs.size)) stay up (exo_ok there)
  have hl : ([Value.ref (hp.objs.size + 1)] ++ []).length = ps.length := F1.len _ _ _ _ hq
  refine wpAny_call (PySem.HandSPX.call_own F.excBase_ValueError (fun Y => PySem.HandSPX.refsVE_contains Y bm hbm) (I.kIn _ _ hC) (PySem.W.looks_findIn I.kIn iC) (fun self => PySem.W.bind_fn I.kIn self tI) (Nat.zero_le _)
    (codeAny_mono (F1.run _ X.stack _ _ ⟨[Value.ref (hp.objs.size + 1)], []⟩ [Value.ref (hp.objs.size + 1)] _ _ (fun _ _ _ => False) (hr.make C [] []) (I2.env0.make C [] []) (hb _ [Value.ref (hp.objs.size + 1)] I2.kIn hl) (show Vals [V.ref (hp.objs.size + 1)] [Value.ref (hp.objs.size + 1)] from .cons rfl .nil) hq) fun r s' hs => ?_))
  match r, hs with
  | .error er, hs => exact hx pins σ _ _ er s' I2 hs
  | .ok (.ret u), hs =>
    obtain ⟨v, H2, os2, bare2, un2, hok2, rv, ev, d, fs, ea, ed, hd1, q2⟩ := hs
    subst ev
    obtain ⟨h2, g2, d2, t2, os'⟩ := s'
    exact ⟨rv, mk_end (raises_own T.exC T.tyC) I up stay un2 hok2 os2 bare2 ea ed hd1 q2⟩
  | .ok .next, hs => exact False.elim hs
  | .ok .brk, hs => exact False.elim hs
  | .ok .cont, hs => exact False.elim hs
end
/-! ### lists turned round, places of items -/
theorem mt_reverseL {X : Cx} : MtM X "list.reverse" (fun x vs H Q => ∃ l xs, x = .ref l ∧ vs = [] ∧ H l = some (.lst xs) ∧ Q .non (upd H l (.lst xs.reverse))) := by
  intro pins s σ H x vs v us Q I rx rv h
  obtain ⟨l, xs, rfl, rfl, hH, q⟩ := h
  obtain rfl : v = Value.ref l := rx
  obtain rfl := rv.zero
  obtain ⟨z, its, n, r, hl, e⟩ := I.lstM hH
  have few : its.length ≤ sizeLine := by rw [← r.length]; omega
  refine call_meets F.slot_list_reverse ⟨_, e, rfl⟩ F.entry_list_reverse (F.args_list_reverse_1 _) (AutoSeq1.list_reverse_list_0 l its.toArray n (by simpa using few)) ⟨e, ?_⟩
  exact ⟨.non, _, I.lset (its' := its.reverse) (ys := xs.reverse) hH e (by simp) r.reverse (by rw [List.length_reverse]; omega), rfl, q⟩
theorem mindexK {X : Cx} (K : PySem.W.Frag) (h : X.K = K := by rfl) : MtR X "list.index" (rIndex K) := h ▸ mt_index
theorem mtupK {X : Cx} (K : PySem.W.Frag) (h : X.K = K := by rfl) : MtR X "tuple.index" (fun x xs H Q => ∃ p, ∃ ys : List Str, ∃ z j, x = .ref p ∧ xs = [.str z] ∧ SqT K H p (ys.map V.str) ∧ ys[j]? = some z ∧ (∀ m, m < j → ys[m]? ≠ some z) ∧ Q (.int (j : Nat)) H) := h ▸ mt_tup_index
/-! ### defs of own classes, ready to be called -/
structure CalIn (P : Program) (w : World) (K : PySem.W.Frag) (mg : Str → Option Value) (base : Heap) (CX : CXT) (k : Nat) (C f : Addr) (fd : FuncData) (ps : List Str) (sp : Sp) : Prop extends CalB P w K mg base CX k f fd ps sp where
  ic : InC K C f
structure CalSub (P : Program) (w : World) (K : PySem.W.Frag) (mg : Str → Option Value) (base : Heap) (CX : CXT) (k : Nat) (C f : Addr) (fd : FuncData) (ps : List Str) (sp : Sp) : Prop extends CalB P w K mg base CX k f fd ps sp where
  su : SubC K C f
structure CalIt (P : Program) (w : World) (K : PySem.W.Frag) (mg : Str → Option Value) (base : Heap) (CX : CXT) (k : Nat) (C f : Addr) (sp : Nat → Sp) : Prop where
  F : FnS P w K mg base CX k f sp
  oi : OitC K C f
end El

set_option Elab.async false
set_option linter.all false
set_option maxRecDepth 100000
set_option maxHeartbeats 4000000
/-! Own words: plain defs with defaults, called with and without them. -/
namespace El
open PySem PySem.Spec PyProof.Rows L2
structure CalD (P : Program) (w : World) (K : PySem.W.Frag) (mg : Str → Option Value) (base : Heap) (CX : CXT) (k : Nat) (x : Str) (f : Addr) (fd : FuncData) (ps : List Str) (dvs : List V) (sp : Sp) : Prop extends Cal P w K mg base CX k x f fd ps sp where
  bd : ∃ ds, Vals dvs ds ∧ Binds K fd ps ds
section
variable {X : Cx} {CX : CXT} {k : Nat} {f : Addr} {fd : FuncData} {ps : List Str} {dvs : List V} {sp : Sp} {E : XK} {x : Str} {p pos : Pos} {e : Expr} {es : List Expr} {t : TA}
theorem pe_callD (c : CalD X.prog X.w X.K X.mg X.base CX k x f fd ps dvs sp) (hr : Room k X.A) (hg : Gl X x) (hx : Passes CX X E) (ha : PA X (e :: es) t) (hdb : (x == ("__debug__" : Str)) = false := by decide)
    (he : starEach (e :: es) X.env = (false, eval e X.env) :: starEach es X.env := by rfl) (hpl : (backTo pos (starEach es X.env)).any (·.1) = false := by rfl) :
    PE X (.Call (.Name x p) (e :: es) [] pos) (tCall sp dvs E t) := by
  obtain ⟨ds, hd, hb⟩ := c.bd
  exact pe_call c.G hr hg c.m c.kp hb hd hx ha hdb he hpl
end
theorem binds_nil {K : PySem.W.Frag} {fd : FuncData} {ps : List Str} (h : ∃ ds, Vals ([] : List V) ds ∧ Binds K fd ps ds) : Binds K fd ps [] := by
  obtain ⟨ds, hv, hb⟩ := h
  cases hv
  exact hb
end El

set_option Elab.async false
set_option linter.all false
set_option maxRecDepth 100000
set_option maxHeartbeats 4000000
/-! Own words: an own exception whose __init__ takes nothing and keeps nothing. -/
namespace El
open PySem PySem.Spec PyProof.Rows L2 NdefX
/-- its __init__ -/
def spE0 (C : Addr) : Sp := fun vs H Q _ => ∃ a : Addr, vs = [.ref a] ∧ H a = some (exo a C none) ∧ Q .non H
/-- the end of C(): the exception is let go -/
theorem mk_none {X : Cx} {pins : List (Addr × Obj)} {σ : L2.St} {H1 : Hp} {Q : XK} {hp hp2 h2 : Heap} {g1 g2 : Array GenState} {d1 d2 : Drawn} {t1 t2 : Nat} {os1 os2 : OsState} {a C : Addr} (T : Raises X (.ref C)) (I1 : Inv X pins σ H1 ⟨hp, g1, d1, t1, os1⟩)
    (ha : hp.objs.size ≤ a) (k : ∀ b o, hp.get? b = some o → hp2.get? b = some o) (un : Un (frs X.stack) [] (upd H1 a (exo a C none)) (upd H1 a (exo a C none)) hp2 h2) (hok : HOk X.prog X.w (upd H1 a (exo a C none)) h2) (ho : os2 = os1) (hb : AllBare g2)
    (q : Q (.ref C) none H1) : MkP X pins σ Q (.ref a) ⟨h2, g2, d2, t2, os2⟩ := by
  have ea : (upd H1 a (exo a C none)) a = some (exo a C none) := upd_same
  obtain ⟨t0, hoe⟩ := exo_at hok ea
  have na : H1 a = none := I1.hok.fresh ha
  obtain ⟨G, g1', g2'⟩ := restrict h2 fun b => decide (b ≠ a)
  have gk : ∀ {b}, b ≠ a → G.get? b = h2.get? b := fun {b} z => g1' b (decide_eq_true z)
  have ge : G.get? a = none := g2' a (by simp)
  have old : ∀ {b : Addr} {o : Obj}, hp.get? b = some o → b ≠ a := fun {b o} z => Nat.ne_of_lt (Nat.lt_of_lt_of_le (Heap.lt_size z) ha)
  have up : ∀ {b : Addr}, b ≠ a → H1 b = none → upd H1 a (exo a C none) b = none := fun {b} z n => by rw [upd_ne z]; exact n
  have U : Un (frs X.stack) [] H1 H1 hp G :=
    { keep := fun b o z n hf hx => (gk (old z)).trans (un.keep b o (k b o z) (up (old z) n) hf hx)
      slot := fun b o z n hf hx => by
        rw [gk (old z)]
        exact un.slot b o (k b o z) (up (old z) n) hf hx
      free := fun b o z n hx => n
      there := fun b o z hx => by
        rw [gk (old z)]
        exact un.there b o (k b o z) hx
      tups := fun b xs z => z
      frzs := fun b o v z => z
      tbls := fun b ps z => ⟨#[], by rw [Array.append_empty]; exact z⟩ }
  have own_ne : ∀ {b c : Addr}, upd H1 a (exo a C none) c = some (.own b) → c ≠ a := fun {b c} z => at_ne ea z exo_own
  have hok3 : HOk X.prog X.w H1 G := fun b o z => by
    have hba : b ≠ a := fun e => by rw [e, na] at z; cases z
    refine (hok b o (by rw [upd_ne hba]; exact z)).stay (fun c v hc y => ?_) (fun c hc => ?_) (fun c xs hc => ?_)
    · have hca : c ≠ a := hc.elim (fun e => e ▸ hba) fun e => own_ne e
      exact (gk hca).trans y
    · have := own_ne hc
      rwa [upd_ne this] at hc
    · have := at_ne ea hc exo_tup
      rwa [upd_ne this] at hc
  have J : Inv X pins σ H1 ⟨G, g2, d2, t2, os2⟩ := I1.call' (ch := []) ho U hok3 hb (fun b z => absurd z (by simp))
  refine ⟨a, _, _, ⟨G, g2, d2, t2, os2⟩, _, .ref C, none, rfl, J, fun b o z => ?_, ge, hoe, ⟨rfl, rfl⟩, rfl, rfl, na, rfl, hb, T, q⟩
  by_cases hba : b = a
  · rw [hba, ge] at z
    cases z
  · exact (gk hba).symm.trans z
section
variable {X : Cx} {p pos : Pos}
theorem pmk_none {CX : CXT} {x : Str} {C fI : Addr} {k : Nat} {fd : FuncData} {ps : List Str} (T : OexC X.K C) (iC : PySem.W.findIn X.K (.ref C) "__init__" = some (some (.ref fI))) (tI : PySem.W.typeIn X.K (.ref fI) = some (.type "function"))
    (F1 : FnOk X.prog X.w X.K X.mg X.base CX k fI fd ps (spE0 C)) (hr : Room (k + 1) X.A) (hb : Binds X.K fd ps []) (hx : Passes CX X (fun _ _ _ => False)) (hg : Gl X x) (hm : X.mg x = some (.ref C)) (hdb : (x == ("__debug__" : Str)) = false := by decide) :
    PMk X (.Call (.Name x p) [] [] pos) (fun _ H Q => Q (.ref C) none H) := by
  intro pins s σ H Q I h
  obtain ⟨nm, q, N, bs, bm, sn, sub, ab, col, dd, k0, k1, k2, k3, k5, hC, hbm⟩ := T.cls
  refine wpAny_Call_Name_kw (ld_glob I hg hm (PySem.W.callWith_K0 I.kIn T.kC ?_) hdb)
  obtain ⟨hp, g, dr, tk, os⟩ := s
  have up : hp.objs.size ≤ hp.objs.size + 1 := Nat.le_succ _
  have hq : spE0 C [V.ref (hp.objs.size + 1)] (upd H (hp.objs.size + 1) (exo (hp.objs.size + 1) C none)) (fun v H2 => v = .non ∧ H2 = upd H (hp.objs.size + 1) (exo (hp.objs.size + 1) C none)) (fun _ _ _ => False) := ⟨_, rfl, upd_same, rfl, rfl⟩
  have stay : ∀ b o, hp.get? b = some o → ((hp.push (PySem.W.kdv_tup [])).push (PySem.HandSPX.excO C hp.objs.size)).get? b = some o := fun b o e => Heap.get?_push_of_some _ (Heap.get?_push_of_some _ e)
  have there : ((hp.push (PySem.W.kdv_tup [])).push (PySem.HandSPX.excO C hp.objs.size)).get? (hp.objs.size + 1) = some (PySem.HandSPX.excO C hp.objs.size) := by heap_get
  have I2 := I.laid (t' := tk) (a := hp.objs.size + 1) (o := exo (hp.objs.size + 1) C none) (h' := (hp.push (PySem.W.kdv_tup [])).push (PySem.HandSPX.excO C hp.objs.size)) stay up (exo_ok there)
  have hl : ([Value.ref (hp.objs.size + 1)] ++ []).length = ps.length := F1.len _ _ _ _ hq
  refine wpAny_call (PySem.HandSPX.call_own F.excBase_ValueError (fun Y => PySem.HandSPX.refsVE_contains Y bm hbm) (I.kIn _ _ hC) (PySem.W.looks_findIn I.kIn iC) (fun self => PySem.W.bind_fn I.kIn self tI) (Nat.zero_le _)
    (codeAny_mono (F1.run _ X.stack _ _ ⟨[Value.ref (hp.objs.size + 1)], []⟩ [Value.ref (hp.objs.size + 1)] _ _ (fun _ _ _ => False) (hr.make C [] []) (I2.env0.make C [] []) (hb _ [Value.ref (hp.objs.size + 1)] I2.kIn hl) (show Vals [V.ref (hp.objs.size + 1)] [Value.ref (hp.objs.size + 1)] from .cons rfl .nil) hq) fun r s' hs => ?_))
  match r, hs with
  | .error er, hs => exact hx pins σ _ _ er s' I2 hs
  | .ok (.ret u), hs =>
    obtain ⟨v, H2, os2, bare2, un2, hok2, rv, ev, eH⟩ := hs
    subst ev eH
    obtain ⟨h2, g2, d2, t2, os'⟩ := s'
    exact ⟨rv, mk_none (raises_own T.exC T.tyC) I up stay un2 hok2 os2 bare2 h⟩
  | .ok .next, hs => exact False.elim hs
  | .ok .brk, hs => exact False.elim hs
  | .ok .cont, hs => exact False.elim hs
end
/-- the class, its __init__, ready for a raise -/
structure CalE0 (P : Program) (w : World) (K : PySem.W.Frag) (mg : Str → Option Value) (base : Heap) (k : Nat) (x : Str) (C f : Addr) (fd : FuncData) (ps : List Str) : Prop where
  G : FnOk P w K mg base CX0 k f fd ps (spE0 C)
  b : Binds K fd ps []
  X : ExK K C f []
  m : mg x = some (.ref C)
/-- isinstance(e, c), e the exception that the suite holds, without a dict -/
theorem call_isN {X : Cx} {a : Addr} {oe : Obj} {cls : Value} {d : Option Addr} {pn : List (Addr × Obj)} (hz : Zc cls d oe) (hf : ∃ vs, oe.data = .fields vs) : CallR (X.suite a ((a, oe) :: pn)) (.builtin "isinstance") (fun xs H Q => rIsX X.K cls d a xs H Q ∨ ∃ (D : Addr) (c : V) (cv : Value) (b : Bool), xs = [.ref a, c] ∧ cls = .ref D ∧ d = none ∧ ExcC X.K D ∧ (∀ u, RelV c u → u = cv) ∧ PySem.W.kitOne X.K (.ref D) cv = some b ∧ Q (.bl b) H) := by
  intro pins s σ H xs us Q I r h
  rcases h with h | ⟨D, c, cv, b, rfl, rfl, rfl, C, hcv, e, q⟩
  · exact call_isX hz hf pins s σ H xs us Q I r h
  cases r with
  | cons rx rr =>
    cases rr with
    | cons rt rr =>
      cases rr
      cases rx
      have ec := hcv _ rt
      subst ec
      obtain ⟨hget, _⟩ := I.pin (a, oe) (List.mem_append.mpr (.inl List.mem_cons_self))
      obtain ⟨vs, hv⟩ := hf
      have J : PySem.W.InstAt s.heap a oe D none := ⟨hget, hz.1, by unfold PySem.W.notCls; rw [hv] <;> rfl, by rw [hz.2]; exact trivial⟩
      obtain ⟨cdD, hcD, _⟩ := PySem.W.any_some C.hd
      exact PySem.W.kia_one (PySem.W.kitx_exc (by rw [hcD]; rfl) C.hg C.hk C.hs C.ha C.hn C.ht C.hm) I.kIn J e (fun z => nomatch z) fun tk => ⟨.bl b, H, I.kept (t' := tk) fun _ _ z => z, rfl, q⟩
end El

set_option Elab.async false
set_option linter.all false
set_option maxRecDepth 100000
set_option maxHeartbeats 4000000
/-! Own words: operators of own classes with a text, t[::-1] of a tuple. -/
namespace El
open PySem PySem.Spec PyProof.Rows L2
/-! ### a op z, a of the class at C, z a text -/
section
variable {X : Cx} {CX : CXT} {k : Nat} {C f : Addr} {fd : FuncData} {ps : List Str} {sp : Sp} {E : L2.St → XK} {op : Operator} {a b : Expr} {ta tb : TE} {pos : Pos}
def tTxtS (C : Addr) (sp : Sp) (E : L2.St → XK) (ta tb : TE) : TE := fun σ H Q => ta σ H fun x H1 => tb σ H1 fun y H2 => ∃ a dx fs z, x = .ref a ∧ y = .str z ∧ H2 a = some (.ins C dx fs) ∧ sp [.ref a, .str z] H2 Q (E σ)
theorem run_opS {pins : List (Addr × Obj)} {σ : L2.St} {H : Hp} {s : Shared} {Q : VK} {y a : Addr} {z : Str} {t : PySem.Tok} (c : OpT X.K C f op "str") (F : FnOk X.prog X.w X.K X.mg X.base CX k f fd ps sp) (hr : Room k X.A) (hb : Binds X.K fd ps []) (hx : PassesAt CX X σ (E σ)) (I : Inv X pins σ H s)
    {dx : Addr} {fs : List (Str × V)} (ea : H a = some (.ins C dx fs)) (q : sp [.ref a, .str z] H Q (E σ)) : wpAny (model X.prog X.w) X.A (binaryOp op (.ref a) (.str z t)) (EP X pins σ Q) X.xe s := by
  obtain ⟨m, fr⟩ := I.fr
  obtain ⟨mA, O, _⟩ := ins_get I.hok ea
  obtain ⟨od, J, _⟩ := O.look
  obtain ⟨rc, hr1, hr2⟩ := c.hr
  obtain ⟨fo, h1⟩ := c.h1
  obtain ⟨ro, h2⟩ := c.h2
  refine PySem.W.ksp_binT fr I.ok.mod.kin J (T := "str") rfl c.c.sf c.c.at_ c.c.fn hr1 hr2 h1 h2 c.sub ?_
  exact wpAny_mono (run_fnS (us := [.ref a, .str z t]) (vs := [.ref a, .str z]) F hr hb hx I (.cons rfl (.cons ⟨t, rfl⟩ .nil)) q) (fun u' s' h' => cmpBack_of h') fun _ _ z => z
theorem pe_bopTS (c : OpT X.K C f op "str") (F : FnOk X.prog X.w X.K X.mg X.base CX k f fd ps sp) (hr : Room k X.A) (hb : Binds X.K fd ps []) (hx : ∀ σ, PassesAt CX X σ (E σ)) (ha : PE X a ta) (hb2 : PE X b tb) : PE X (.BinOp a op b pos) (tTxtS C sp E ta tb) := by
  refine ⟨fun pins s σ H Q I h => wpAny_BinOp (thn (ha.run pins s σ H _ I h) fun v s1 ⟨x, H1, I1, rx, q1⟩ => thn (hb2.run pins s1 σ H1 _ I1 q1) fun u s2 ⟨y, H2, I2, ry, a, dx, fs, z, ex, ey, ea, q⟩ => ?_)⟩
  subst ex ey
  obtain rfl : v = Value.ref a := rx
  obtain ⟨t, rfl⟩ := ry
  exact run_opS (y := a) c F hr hb (hx σ) I2 ea q
end
section
variable {X : Cx} {CX : CXT} {k : Nat} {C f : Addr} {fd : FuncData} {ps : List Str} {sp : Sp} {E : XK} {op : Operator} {a b : Expr} {ta tb : TE} {pos : Pos}
theorem pe_bopT (c : OpT X.K C f op "str") (F : FnOk X.prog X.w X.K X.mg X.base CX k f fd ps sp) (hr : Room k X.A) (hb : Binds X.K fd ps []) (hx : Passes CX X E) (ha : PE X a ta) (hb2 : PE X b tb) : PE X (.BinOp a op b pos) (tTxtS C sp (fun _ => E) ta tb) :=
  pe_bopTS c F hr hb (fun σ pins H s e s' I h => hx pins σ H s e s' I h) ha hb2
end
/-! ### z + a, z a text: __radd__ -/
structure RadC (K : PySem.W.Frag) (C f : Addr) : Prop where
  sf : PySem.W.selfFirst K C = true
  add : ∃ g : Addr, PySem.W.findIn K (.ref C) (PySem.dunder "add") = some (some (.ref g))
  at_ : PySem.W.findIn K (.ref C) (PySem.dunderR "add") = some (some (.ref f))
  fn : PySem.W.isFn K (.ref f) = true
section
open PySem.W PySem.Calls
variable {prog : Program} {w : World} {A : Around} {E : Value → Shared → Prop} {s : Shared} {K : PySem.W.Frag} {x C f : Addr} {ox : Obj} {od : Option Obj}
theorem rad_run {z : Str} {t : PySem.Tok} {Q : Value → Shared → Prop} (X : K.In s.heap) (I : PySem.W.InstAt s.heap x ox C od) (c : RadC K C f)
    (h : wpAny (model prog w) A (call (.ref f) [.ref x, .str z t]) (PySem.W.CmpBack Q) E s) : wpAny (model prog w) A (binaryOp .Add (.str z t) (.ref x)) Q E s := by
  obtain ⟨cd, rest, hcd, hm⟩ := PySem.W.ksp_first c.sf
  obtain ⟨gm, hg⟩ := c.add
  have one := PySem.W.ksp_try X I c.at_ c.fn h
  obtain ⟨hh, g, d, tt, os⟩ := s
  have L1 : Looks (model prog w) hh (typeOf (.str z t)) (.type "str") := Looks.of_pure rfl
  have L2 : Looks (model prog w) hh (typeOf (.ref x)) (.ref C) := I.type
  have L3 : Looks (model prog w) hh (fillsNumberSlot (.type "str") "add") false := Looks.of_pure PySem.noFill_str_add
  have L4 : Looks (model prog w) hh (fillsNumberSlot (.ref C) "add") true := fills_K X hcd hm hg
  have hne : (Value.type "str" == Value.ref C) = false := Bool.eq_false_iff.mpr fun q => by cases beq_iff_eq.mp q
  have hi : Operator.Add.info = ("+", "add") := rfl
  simp only [binaryOp, hi]
  refine wpAny_holding (wpAny_bind ?_)
  unfold binaryOp1
  refine wpAny_bind (L1.at (wpAny_bind (L2.at (wpAny_bind (L3.at ?_)))))
  simp only [hne, Bool.false_eq_true, if_false]
  ksp_lk
  refine wpAny_mono one (fun r s' hr' => ?_) fun _ _ e => e
  obtain ⟨v, rfl, hq⟩ := hr'
  first
    | exact wpAny_bind (wpAny_rule (wpAny_pure (wpAny_pure hq)))
    | (ksp_lk; exact hq)
end
section
variable {X : Cx} {CX : CXT} {k : Nat} {C f : Addr} {fd : FuncData} {ps : List Str} {sp : Sp} {E : L2.St → XK} {a b : Expr} {ta tb : TE} {pos : Pos}
def tRadS (C : Addr) (sp : Sp) (E : L2.St → XK) (ta tb : TE) : TE := fun σ H Q => ta σ H fun x H1 => tb σ H1 fun y H2 => ∃ a dx fs z, x = .str z ∧ y = .ref a ∧ H2 a = some (.ins C dx fs) ∧ sp [.ref a, .str z] H2 Q (E σ)
theorem pe_radS (c : RadC X.K C f) (F : FnOk X.prog X.w X.K X.mg X.base CX k f fd ps sp) (hr : Room k X.A) (hb : Binds X.K fd ps []) (hx : ∀ σ, PassesAt CX X σ (E σ)) (ha : PE X a ta) (hb2 : PE X b tb) : PE X (.BinOp a .Add b pos) (tRadS C sp E ta tb) := by
  refine ⟨fun pins s σ H Q I h => wpAny_BinOp (thn (ha.run pins s σ H _ I h) fun v s1 ⟨x, H1, I1, rx, q1⟩ => thn (hb2.run pins s1 σ H1 _ I1 q1) fun u s2 ⟨y, H2, I2, ry, a, dx, fs, z, ex, ey, ea, q⟩ => ?_)⟩
  subst ex ey
  obtain ⟨t, rfl⟩ := rx
  obtain rfl : u = Value.ref a := ry
  obtain ⟨mA, O, _⟩ := ins_get I2.hok ea
  obtain ⟨od, J, _⟩ := O.look
  refine rad_run I2.kIn J c ?_
  exact wpAny_mono (run_fnS (us := [.ref a, .str z t]) (vs := [.ref a, .str z]) F hr hb (hx σ) I2 (.cons rfl (.cons ⟨t, rfl⟩ .nil)) q) (fun u' s' h' => cmpBack_of h') fun _ _ z => z
end
/-! ### a += z -/
structure InpC (K : PySem.W.Frag) (C f : Addr) (op : Operator) : Prop where
  sf : PySem.W.selfFirst K C = true
  at_ : PySem.W.findIn K (.ref C) (PySem.dunderI op.info.2) = some (some (.ref f))
  fn : PySem.W.isFn K (.ref f) = true
section
variable {X : Cx} {CX : CXT} {k : Nat} {C f : Addr} {fd : FuncData} {ps : List Str} {sp : Sp} {E : L2.St → XK} {op : Operator} {x : Str} {i : Nat} {e : Expr} {te : TE} {pos pos' : Pos}
/-- a name's own object op= a text, what it lets out being taken where it stands -/
def tAugTS (i : Nat) (C : Addr) (sp : Sp) (E : L2.St → XK) (te : TE) : TS := fun D σ H => ∃ a, σ[i]? = some (some (V.ref a)) ∧ te σ H fun y H1 => ∃ dx fs z, y = .str z ∧ H1 a = some (.ins C dx fs) ∧ sp [.ref a, .str z] H1 (fun v H2 => D.nx (σ.set i (some v)) H2) (E σ)
theorem ps_augTS (hN : X.N.Nodup) (hi : X.N[i]? = some x) (hx0 : Loc X.env.scope x) (c : InpC X.K C f op) (F : FnOk X.prog X.w X.K X.mg X.base CX k f fd ps sp) (hr : Room k X.A) (hb : Binds X.K fd ps []) (hx : ∀ σ, PassesAt CX X σ (E σ)) (he : PE X e te)
    (hf : X.fn x = true ∨ X.env.scope.names.lookup x = some .local := by first | exact .inl rfl | exact .inr rfl | assumption) : PS X (.AugAssign (.Name x pos') op e pos) (tAugTS i C sp E te) := by
  refine ⟨fun pins s σ H D I h => ?_⟩
  obtain ⟨a, e1, h⟩ := h
  obtain ⟨m, hn, hl⟩ := I.loc
  have vis : Vis X.env.scope x := hx0.elim (fun k => .inl k) fun k => .inr (.inl k)
  obtain ⟨u, r, l⟩ := hl i x _ hi e1 vis
  obtain rfl : u = Value.ref a := r
  refine wpAny_AugAssign_Name ?_
  have go : wpAny (model X.prog X.w) X.A (eval e X.env) (fun w s₂ => wpAny (model X.prog X.w) X.A (inplaceOp op (.ref a) w) (fun r s₃ => wpAny (model X.prog X.w) X.A (storeName X.env x r) (fun _ => SP X pins D .next) X.xe s₃) X.xe s₂) X.xe s := by
    refine thn (he.run pins s σ H _ I h) fun w s1 ⟨y, H1, I1, r1, dx, fs, z, ey, ea, q⟩ => ?_
    subst ey
    obtain ⟨t, rfl⟩ := r1
    obtain ⟨m1, fr⟩ := I1.fr
    obtain ⟨mA, O, _⟩ := ins_get I1.hok ea
    obtain ⟨od, J, _⟩ := O.look
    have run := PySem.W.ksp_inplace (b := .str z t) fr I1.ok.mod.kin J c.sf c.at_ c.fn (wpAny_mono (run_fnS (us := [.ref a, .str z t]) (vs := [.ref a, .str z]) F hr hb (hx σ) I1 (.cons rfl (.cons ⟨t, rfl⟩ .nil)) q) (fun u' s' h' => cmpBack_of h') fun _ _ z => z)
    exact thn run fun z s2 ⟨zv, H2, I2, r2, q2⟩ => store_ok I2 hN hi hx0 r2 (fun s3 I3 => ⟨_, H2, I3, q2⟩) hf
  rcases l with ⟨hk, hm⟩ | ⟨hk, c, hc, hcell⟩
  · exact wpAny_loadName_local I.ok.kind hk hn hm go
  · have no : ∀ q : NameKind, X.env.scope.names.lookup x = some .free → X.env.scope.names.lookup x = some q → q = .free := fun q h1 h2 => (Option.some.inj (h1.symm.trans h2)).symm
    rcases hk with hk | hk
    · exact wpAny_loadName_cell I.ok.kind hk hc hcell go
    · rcases hx0 with k | k
      · exact nomatch no _ hk k
      · exact nomatch no _ hk k
end
/-! ### t[::-1] -/
section
variable {prog : Program} {w : World} {A : Around} {E : Value → Shared → Prop} {s : Shared}
theorem adjust_rev (n : Nat) : Builtin.Slice.sliceAdjust none none (-1) (n : Int) = ((n : Int) - 1, -1) := rfl
theorem places_rev (n : Nat) : Builtin.Slice.slicePlaces ((n : Int) - 1) (-1) (-1) = n := by
  unfold Builtin.Slice.slicePlaces
  rw [if_neg (by decide)]
  by_cases h : (n : Int) - 1 > -1
  · rw [if_pos h]
    have : ((n : Int) - 1 - -1 - 1) / (- -1) = (n : Int) - 1 := by
      rw [show (- -1 : Int) = 1 by decide, Int.ediv_one]
      omega
    rw [this]
    omega
  · rw [if_neg h]
    omega
theorem fm_congr {f g : Nat → Option Value} : ∀ {l : List Nat}, (∀ x ∈ l, f x = g x) → l.filterMap f = l.filterMap g
  | [], _ => rfl
  | y :: r, h => by
    have h1 := h y List.mem_cons_self
    have h2 := fm_congr (l := r) fun x hx => h x (List.mem_cons_of_mem _ hx)
    cases e : g y with
    | none => rw [List.filterMap_cons_none (h1.trans e), List.filterMap_cons_none e, h2]
    | some v => rw [List.filterMap_cons_some (h1.trans e), List.filterMap_cons_some e, h2]
theorem pick_rev (xs : Array Value) : ((List.range xs.size).filterMap fun (k : Nat) => xs[((xs.size : Int) - 1 + (k : Int) * -1).toNat]?).toArray = xs.toList.reverse.toArray := by
  have e : ∀ k ∈ List.range xs.size, (fun (k : Nat) => xs[((xs.size : Int) - 1 + (k : Int) * -1).toNat]?) k = (xs.toList.reverse)[k]? := fun k hk => by
    have hk := List.mem_range.mp hk
    have e1 : ((xs.size : Int) - 1 + (k : Int) * -1).toNat = xs.size - 1 - k := by omega
    show xs[((xs.size : Int) - 1 + (k : Int) * -1).toNat]? = _
    rw [e1, List.getElem?_reverse (by simpa using hk), Array.getElem?_toList, Array.length_toList]
  rw [fm_congr e]
  congr 1
  have all : ∀ l : List Value, (List.range l.length).filterMap (fun k => l[k]?) = l := fun l => by
    induction l with
    | nil => rfl
    | cons y r ih =>
      rw [List.length_cons, List.range_succ_eq_map, List.filterMap_cons_some (f := fun k => (y :: r)[k]?) (b := y) rfl, List.filterMap_map]
      exact congrArg (y :: ·) ih
  have := all xs.toList.reverse
  rw [List.length_reverse, Array.length_toList] at this
  exact this
theorem applied_rev {sl : Addr} {vs : Value} {n : Nat} {Q : Int × Int × Nat → Shared → Prop} (hs : s.heap.IsSliceOf sl .none .none vs) (pv : IsPart vs (some (-1))) (h : Q ((n : Int) - 1, -1, n) s) : wpAny (model prog w) A (Builtin.Slice.sliceApplied (.ref sl) (pure (n : Int))) Q E s := by
  obtain ⟨os, hos, hcs, hds⟩ := id hs
  unfold Builtin.Slice.sliceApplied Builtin.Slice.sliceFields
  refine wpAny_bind (wpAny_bind (wpAny_field hos hds (x := .none) rfl (wpAny_bind (wpAny_field hos hds (x := .none) rfl (wpAny_bind (wpAny_field hos hds (x := vs) rfl (wpAny_pure ?_)))))))
  refine wpAny_bind (HT.slicePart_ pv ?_)
  show wpAny _ _ (if ((-1 : Int) == 0) = true then _ else _) _ _ s
  rw [if_neg (by decide)]
  refine wpAny_bind (slicePart_none (wpAny_bind (slicePart_none (wpAny_bind (wpAny_pure ?_)))))
  show wpAny _ _ (pure ((n : Int) - 1, (-1 : Int), Builtin.Slice.slicePlaces ((n : Int) - 1) (-1) (-1))) _ _ s
  rw [places_rev]
  exact wpAny_pure h
theorem getItem_rev {t sl : Addr} {items : Array Value} {vs : Value} {Q : Value → Shared → Prop} (ht : IsTup s.heap t items) (hs : s.heap.IsSliceOf sl .none .none vs) (pv : IsPart vs (some (-1)))
    (h : Q (.ref s.heap.objs.size) { s with heap := s.heap.push { cls := .type "tuple", data := .seq items.toList.reverse.toArray } }) (hsz : items.size ≤ sizeLine) : wpAny (model prog w) A (getItem (.ref t) (.ref sl)) Q E s := by
  have fits : sizeOk (.seq items.toList.reverse.toArray) := by
    show items.toList.reverse.toArray.size ≤ sizeLine
    rw [List.size_toArray, List.length_reverse, Array.length_toList]
    exact hsz
  have hTs : s.TypeIs (.ref sl) "slice" := by obtain ⟨os, hos, hcs, _⟩ := hs; exact ⟨os, hos, hcs⟩
  unfold getItem
  try with_reducible refine wpAny_holding ?_
  first | refine wpAny_bind (wpAny_pure ?_) | skip
  refine wpAny_bind (wpAny_sequenceKey ht.typeIs (by decide) ?_)
  refine wpAny_bind (wpAny_callSpecial?_slot (name := Str.ofString "__getitem__") ht.typeIs PyProof.Rows.slot_tuple_getitem
    (wpAny_call_entry PyProof.Rows.slot_tuple_getitem ht.typeIs entry_tuple_getitem ?_ (args_tuple_getitem _ _)))
  refine wpAny_bind (m := Builtin.Tuple.tupleItemsOf (.ref t)) (tupleItemsOf_ ht (wpAny_bind (wpAny_typeOf hTs ?_)))
  rw [if_pos (by decide)]
  refine wpAny_bind (applied_rev hs pv ?_)
  show wpAny _ _ (if (((items.size : Int) - 1) == 0 && (-1 : Int) == 1 && items.size == items.size) = true then _ else _) _ _ s
  rw [if_neg (by rw [show ((-1 : Int) == 1) = false from rfl, Bool.and_false, Bool.false_and]; decide), pick_rev]
  first
    | exact wpAny_bind (m := Builtin.Tuple.tupleExact _) (wpAny_newObj_type (wpAny_pure ⟨_, rfl, wpAny_pure h⟩) fits)
    | exact wpAny_bind (wpAny_bind (m := Builtin.Tuple.tupleExact _) (wpAny_newObj_type (wpAny_pure (wpAny_pure ⟨_, rfl, wpAny_pure h⟩)) fits))
    | exact wpAny_bind (wpAny_bind (m := Builtin.Tuple.tupleExact _) (wpAny_newObj_type (wpAny_pure ⟨_, rfl, wpAny_pure h⟩) fits))
end
/-- t[::-1] -/
def tRevT (K : PySem.W.Frag) (te : TE) : TE := fun σ H Q => te σ H fun x H1 => ∃ a xs, x = .ref a ∧ SqT K H1 a xs ∧ ∀ p, H1 p = none → Q (.ref p) (upd H1 p (.tup xs.reverse))
theorem pe_revT {X : Cx} {e : Expr} {te : TE} {k : Nat} {p1 p2 p3 pos : Pos} (he : PE X e te) : PE X (.Subscript e (.Slice none none (some (.UnaryOp .USub (.Constant (.int 1) k p1) p2)) p3) pos) (tRevT X.K te) := by
  refine ⟨fun pins s σ H Q I h => Subscript_ (thn (he.run pins s σ H _ I h) fun v s1 ⟨x, H1, I1, r1, a, xs, ex, hx, q⟩ => ?_)⟩
  subst ex
  obtain rfl : v = Value.ref a := r1
  have step : PO X (some (.UnaryOp .USub (.Constant (.int 1) k p1) p2)) (tPart (tUn (rU fun i => .int (-i)) (tC (.int 1)))) := po_some (pe_un un_neg pe_int)
  refine wpAny_Slice (thn (po_none.run pins s1 σ H1 (fun o H2 => o = none ∧ H2 = H1) I1 ⟨rfl, rfl⟩) fun vl s2 ⟨l, H2, I2, pl, el, e2⟩ => ?_)
  subst el e2
  refine thn (po_none.run pins s2 σ H2 (fun o H3 => o = none ∧ H3 = H2) I2 ⟨rfl, rfl⟩) fun vu s3 ⟨u, H3, I3, pu, eu, e3⟩ => ?_
  subst eu e3
  refine thn (step.run pins s3 σ H3 (fun o H4 => o = some (-1) ∧ H4 = H3) I3 ⟨1, rfl, -1, rfl, rfl, rfl⟩) fun vs s4 ⟨o, H4, I4, pv, eo, e4⟩ => ?_
  subst eo e4
  obtain rfl : vl = Value.none := by cases pl; rfl
  obtain rfl : vu = Value.none := by cases pu; rfl
  have I5 : Inv X pins σ H4 { s4 with heap := s4.heap.push { cls := .type "slice", data := .fields #[.none, .none, vs] } } := I4.kept (t' := s4.toks) fun b ob q => Heap.get?_push_of_some _ q
  obtain ⟨its, r, ht, hz⟩ := I5.tuple hx
  have hlen := r.length
  show wpAny (model X.prog X.w) X.A (subscriptTail e (.Slice none none (some (.UnaryOp .USub (.Constant (.int 1) k p1) p2)) p3) (.ref a) (.ref s4.heap.objs.size)) (EP X pins σ Q) X.xe { s4 with heap := s4.heap.push { cls := .type "slice", data := .fields #[.none, .none, vs] } }
  refine tail_any (ops := [.ref a, .ref s4.heap.objs.size]) ht.typeIs PyProof.Rows.slot_tuple_getitem.lookup ?_ (by with_unfolding_all rfl)
  refine getItem_rev ht (Heap.IsSliceOf.new _ .none .none vs) pv ?_ (by rw [List.size_toArray, ← hlen]; exact hz)
  refine ⟨.ref _, _, I5.laid (t' := s4.toks) (o := .tup xs.reverse) (fun b ob q => Heap.get?_push_of_some _ q) (Nat.le_refl _) ?_, rfl, q _ (I5.hok.fresh (Nat.le_refl _))⟩
  exact ⟨by rw [List.length_reverse]; exact hz, _, r.reverse, IsTup.new _ _⟩
/-! ### defs of own classes, ready to be called -/
structure CalT (P : Program) (w : World) (K : PySem.W.Frag) (mg : Str → Option Value) (base : Heap) (CX : CXT) (k : Nat) (C : Addr) (op : Operator) (f : Addr) (fd : FuncData) (ps : List Str) (sp : Sp) : Prop extends CalB P w K mg base CX k f fd ps sp where
  ot : OpT K C f op "str"
structure CalRad (P : Program) (w : World) (K : PySem.W.Frag) (mg : Str → Option Value) (base : Heap) (CX : CXT) (k : Nat) (C f : Addr) (fd : FuncData) (ps : List Str) (sp : Sp) : Prop extends CalB P w K mg base CX k f fd ps sp where
  ra : RadC K C f
structure CalInp (P : Program) (w : World) (K : PySem.W.Frag) (mg : Str → Option Value) (base : Heap) (CX : CXT) (k : Nat) (C : Addr) (op : Operator) (f : Addr) (fd : FuncData) (ps : List Str) (sp : Sp) : Prop extends CalB P w K mg base CX k f fd ps sp where
  ip : InpC K C f op
structure CalInv (P : Program) (w : World) (K : PySem.W.Frag) (mg : Str → Option Value) (base : Heap) (CX : CXT) (k : Nat) (C f : Addr) (fd : FuncData) (ps : List Str) (sp : Sp) : Prop extends CalB P w K mg base CX k f fd ps sp where
  iv : InvC K C f
/-- one or the other reading of the same expression -/
def tEither (t1 t2 : TE) : TE := fun σ H Q => t1 σ H Q ∨ t2 σ H Q
theorem pe_either {X : Cx} {e : Expr} {t1 t2 : TE} (h1 : PE X e t1) (h2 : PE X e t2) : PE X e (tEither t1 t2) := ⟨fun pins s σ H Q I h => h.elim (h1.run pins s σ H Q I) (h2.run pins s σ H Q I)⟩
/-- what isinstance asks of an own class -/
structure IsC (K : PySem.W.Frag) (C : Addr) : Prop where
  ha : PySem.W.findIn K (.ref C) "__class__" = some (some (.builtin "object.__class__"))
  hn : PySem.W.specialIn K (.builtin "object.__class__") "__get__" = some (some (.builtin "getset_descriptor.__get__"))
  tk : PySem.W.takesIn K (.builtin "object.__class__") = some true
  hm : PySem.W.mroIn K C (.type "object") = some true
theorem ty_ins {K : PySem.W.Frag} {H : Hp} {a C dx : Addr} {fs : List (Str × V)} (e : H a = some (.ins C dx fs)) (cl : Cls K C) (i : IsC K C) : TyX K H (.ref a) (.ref C) := .base (.ins e cl i.ha i.hn i.tk i.hm)
theorem kit_self {K : PySem.W.Frag} {C : Addr} : PySem.W.kitOne K (.ref C) (.ref C) = some true := by
  unfold PySem.W.kitOne
  rw [if_pos (beq_iff_eq.mpr rfl)]
end El

set_option Elab.async false
set_option linter.all false
set_option maxRecDepth 100000
set_option maxHeartbeats 4000000
/-! Own words: comprehensions with two clauses, walk in walk. -/
namespace El
open PySem PySem.Spec PyProof.Rows L2
/-- the second clause's loop, from which Nx is reached -/
def Inner2 (J1 : It) (g1 : TG) (tt1 : TT) (te : TE) (σ2 : L2.St) (vs1 : List Nat) (D : Addr) (Nx : Hp → Prop) (H4 : Hp) : Prop :=
  ∃ W1 : Nat → Nat → Hp → Prop, (∃ m, W1 0 m H4) ∧ ∀ j k H, W1 j k H → (J1.stop j H ∧ Nx H) ∨ (J1.go j H ∧ ∃ Nx1 : Hp → Prop, (∀ H', Nx1 H' → ∃ k', k' < k ∧ W1 (j + 1) k' H') ∧ ∀ x H', J1.yld j H x H' → g1 x (wipe σ2 vs1) H' fun σ3 H5 => wipe σ3 vs1 = wipe σ2 vs1 ∧ tt1 σ3 H5 fun b H6 =>
    if b = true then te σ3 H6 fun y H7 => ∃ acc, H7 D = some (.lst acc) ∧ acc.length < sizeLine ∧ Nx1 (upd H7 D (.lst (acc ++ [y]))) else Nx1 H6)
theorem inner2_it {J1 : It} {n : Nat} {G : Hp → Prop} {Y : Nat → Hp → V → Hp → Prop} (w : Walk J1 n G Y) {g1 : TG} {tt1 : TT} {te : TE} {σ2 : L2.St} {vs1 : List Nat} {D : Addr} {Nx : Hp → Prop} {H4 : Hp} (Pv : Nat → Hp → Prop) (h0 : Pv 0 H4) (hG : ∀ j H, j ≤ n → Pv j H → G H)
    (hs : ∀ j x H H', j < n → Pv j H → Y j H x H' → g1 x (wipe σ2 vs1) H' fun σ3 H5 => wipe σ3 vs1 = wipe σ2 vs1 ∧ tt1 σ3 H5 fun b H6 =>
      if b = true then te σ3 H6 fun y H7 => ∃ acc, H7 D = some (.lst acc) ∧ acc.length < sizeLine ∧ Pv (j + 1) (upd H7 D (.lst (acc ++ [y]))) else Pv (j + 1) H6)
    (hd : ∀ H, Pv n H → Nx H) : Inner2 J1 g1 tt1 te σ2 vs1 D Nx H4 := by
  refine ⟨fun j k H => k = n - j ∧ j ≤ n ∧ Pv j H, ⟨n, by simp, Nat.zero_le _, h0⟩, ?_⟩
  rintro j k H ⟨rfl, hj, p⟩
  have q := hG j H hj p
  by_cases e : j < n
  · exact .inr ⟨w.goes j H e q, Pv (j + 1), fun H' p' => ⟨n - (j + 1), by omega, rfl, e, p'⟩, fun x H' y => hs j x H H' e p (w.yields j H x H' e q y)⟩
  · obtain rfl : j = n := by omega
    exact .inl ⟨w.stops H q, hd H p⟩
theorem lc2_it {J : It} {n : Nat} {G : Hp → Prop} {Y : Nat → Hp → V → Hp → Prop} (w : Walk J n G Y) {g : TG} {tt : TT} {wi1 : TI} {g1 : TG} {tt1 : TT} {te : TE} {vs vs1 : List Nat} {σ : L2.St} {H1 : Hp} {D : Addr} {Qd : Hp → Prop} (Pv : Nat → Hp → Prop) (h0 : Pv 0 (upd H1 D (.lst []))) (hG : ∀ i H, i ≤ n → Pv i H → G H)
    (hs : ∀ i x H H', i < n → Pv i H → Y i H x H' → g x (wipe σ vs) H' fun σ2 H2 => wipe σ2 vs = wipe σ vs ∧ tt σ2 H2 fun b H3 =>
      if b = true then wi1 σ2 H3 fun J1 H4 => Inner2 J1 g1 tt1 te σ2 vs1 D (Pv (i + 1)) H4 else Pv (i + 1) H3)
    (hd : ∀ H, Pv n H → Qd H) :
    ∃ W : Nat → Nat → Hp → Prop, (∃ m, W 0 m (upd H1 D (.lst []))) ∧ ∀ i m H, W i m H →
      (J.stop i H ∧ Qd H) ∨ (J.go i H ∧ ∃ Nx : Hp → Prop, (∀ H', Nx H' → ∃ m', m' < m ∧ W (i + 1) m' H') ∧ ∀ x H', J.yld i H x H' → g x (wipe σ vs) H' fun σ2 H2 => wipe σ2 vs = wipe σ vs ∧ tt σ2 H2 fun b H3 =>
        if b = true then wi1 σ2 H3 fun J1 H4 => Inner2 J1 g1 tt1 te σ2 vs1 D Nx H4 else Nx H3) := by
  refine ⟨fun i m H => m = n - i ∧ i ≤ n ∧ Pv i H, ⟨n, by simp, Nat.zero_le _, h0⟩, ?_⟩
  rintro i m H ⟨rfl, hi, p⟩
  have q := hG i H hi p
  by_cases e : i < n
  · exact .inr ⟨w.goes i H e q, Pv (i + 1), fun H' p' => ⟨n - (i + 1), by omega, rfl, e, p'⟩, fun x H' y => hs i x H H' e p (w.yields i H x H' e q y)⟩
  · obtain rfl : i = n := by omega
    exact .inl ⟨w.stops H q, hd H p⟩
/-- tuple(p), p a list or a tuple: a tuple of the same items stands behind it -/
theorem tupS {X : Cx} : CallR X (.type "tuple") (fun xs H Q => ∃ p ys, xs = [.ref p] ∧ (H p = some (.lst ys) ∨ H p = some (.tup ys)) ∧ ∀ H1 t, (∀ b o, H b = some o → H1 b = some o) → H1 t = some (.tup ys) → Q (.ref t) H1) := cwk call_tuple_of fun xs H Q q => by
  obtain ⟨p, ys, rfl, hp, q⟩ := q
  rcases hp with hp | hp
  · refine ⟨p, ys, rfl, .inl ⟨SqL.of hp, fun l nl => q _ l (fun b o hb => ?_) upd_same⟩⟩
    rw [upd_ne (fun e => by rw [e, nl] at hb; cases hb)]
    exact hb
  · exact ⟨p, ys, rfl, .inr ⟨SqT.of hp, q H p (fun _ _ h => h) hp⟩⟩
end El

set_option Elab.async false
set_option linter.all false
set_option maxRecDepth 100000
set_option maxHeartbeats 4000000
/-! Own words: methods, and classes with keyword-only parameters, called inside a try. -/
namespace El
open PySem PySem.Spec PyProof.Rows L2
section
variable {X : Cx} {CX : CXT} {k : Nat} {C f : Addr} {fd : FuncData} {ps : List Str} {sp : Sp} {E : L2.St → XK} {o e : Expr} {es : List Expr} {m : Str} {pos apos : Pos} {ta : TE} {t : TA} {pl : Sem Bool}
/-- o.m(e, ..), what it lets out being taken where it stands -/
def tMcS (C : Addr) (m : Str) (sp : Sp) (E : L2.St → XK) (ta : TE) (t : TA) : TE := fun σ H Q => ta σ H fun x H1 => ∃ a dx fs, x = .ref a ∧ H1 a = some (.ins C dx fs) ∧ fs.lookup m = none ∧ t σ H1 fun vs H2 => sp (x :: vs) H2 Q (E σ)
theorem pe_mcS (he : PE X o ta) (c : Cls X.K C) (hm : Meth X.K C m f) (F : FnOk X.prog X.w X.K X.mg X.base CX k f fd ps sp) (hr : Room k X.A) (hb : Binds X.K fd ps []) (hx : ∀ σ, PassesAt CX X σ (E σ)) (ha : PA X (e :: es) t)
    (hst : starEach (e :: es) X.env = (false, eval e X.env) :: starEach es X.env := by rfl) (hpl : (backTo pos (starEach es X.env)).any (·.1) = false := by rfl)
    (ht : eval (.Call (.Attribute o m apos) (e :: es) [] pos) X.env = (do
      let ov ← eval o X.env
      standAt apos.atName
      let (f, first) ← holding [ov] (getMethod ov m pl)
      callWith pos f first (backTo pos (starEach (e :: es) X.env)) (backToKw pos (keywordEach [] X.env))) := by rfl) :
    PE X (.Call (.Attribute o m apos) (e :: es) [] pos) (tMcS C m sp E ta t) := by
  refine ⟨fun pins s σ H Q I h => PySem.W.methodCall_KW (pl := pl) (thn (he.run pins s σ H _ I h) fun u s1 ⟨x, H1, I1, rx, a, dx, fs, ex, ea, l, q⟩ => ?_) ht⟩
  subst ex
  cases (show u = Value.ref a from rx)
  refine getmeth_ok I1 ea c hm l (PySem.W.callWith_K (first := [.ref a]) (h₀ := X.base) I.ok.mod.kin hm.kp (thn (ha.run pos pins s1 σ H1 _ I1 q) fun us s2 ⟨vs, H2, I2, r, q2⟩ => ⟨I2.kIn, ?_⟩) hst hpl)
  exact run_fnS (us := .ref a :: us) (vs := .ref a :: vs) F hr hb (hx σ) I2 (.cons rfl r) q2
end
section
variable {X : Cx} {CX : CXT} {k n : Nat} {C f e1 e2 : Addr} {fd : FuncData} {ps ks : List Str} {sp : Sp} {E : L2.St → XK} {x k1 k2 : Str} {p pos : Pos} {e : Expr} {es : List Expr} {kws : List Keyword} {t tk : TA} {g : List Value → List Value → List Value} {gV : List V → List V → List V}
/-- C(e, .., k = v, ..), what its __init__ lets out being taken where it stands -/
def tMkKS (C : Addr) (n m : Nat) (sp : Sp) (gV : List V → List V → List V) (E : L2.St → XK) (t tk : TA) : TE := fun σ H Q => t σ H fun vs H1 => tk σ H1 fun zs H2 => vs.length = n ∧ zs.length = m ∧ ∀ x dx, H2 x = none → H2 dx = none → dx ≠ x →
  sp (gV (.ref x :: vs) zs) (upd (upd H2 dx (.own x)) x (.ins C dx [])) (fun v H3 => v = .non ∧ Q (.ref x) H3) (E σ)
theorem run_mkKS {pins : List (Addr × Obj)} {σ : L2.St} {H : Hp} {s : Shared} {Q : VK} {us ws : List Value} {vs zs : List V} {E : XK} (M : Mk X.K C f) (F : FnOk X.prog X.w X.K X.mg X.base CX k f fd ps sp) (hr : Room (k + 1) X.A) (hb : KBn X.K fd ps (n + 1) ks g gV) (hx : PassesAt CX X σ E)
    (I : Inv X pins σ H s) (r : Vals vs us) (rz : Vals zs ws) (l1 : vs.length = n) (l2 : zs.length = ks.length)
    (h : ∀ x dx, H x = none → H dx = none → dx ≠ x → sp (gV (.ref x :: vs) zs) (upd (upd H dx (.own x)) x (.ins C dx [])) (fun v H2 => v = .non ∧ Q (.ref x) H2) E) :
    wpAny (model X.prog X.w) X.A (call (.ref C) us (ks.zip ws)) (EP X pins σ Q) X.xe s := by
  have fresh := fun n hn => I.hok.fresh (a := n) hn
  have q := h (s.heap.objs.size + 1) s.heap.objs.size (fresh _ (Nat.le_succ _)) (fresh _ (Nat.le_refl _)) (Nat.ne_of_lt (Nat.lt_succ_self _))
  have J := Inv.made (C := C) I
  have rr : Vals (V.ref (s.heap.objs.size + 1) :: vs) (Value.ref (s.heap.objs.size + 1) :: us) := .cons rfl r
  have len : (Value.ref (s.heap.objs.size + 1) :: us).length = n + 1 := by rw [← rr.length, List.length_cons, l1]
  have bt := hb.to _ (Value.ref (s.heap.objs.size + 1) :: us) ws J.kIn len (rz.length.symm.trans l2)
  refine wpAny_call (make_map (f := f) I.kIn M.makes M.init (beq_iff_eq.mp M.fn) (codeAny_mono (F.run _ X.stack _ _ ⟨Value.ref (s.heap.objs.size + 1) :: us, ks.zip ws⟩ _ _ _ E (hr.make C us (ks.zip ws)) (J.env0.make C us (ks.zip ws)) bt (hb.rel rr rz) q) fun r s' hs => ?_))
  match r, hs with
  | .error e, hs => exact hx pins _ _ e s' J hs
  | .ok (.ret u), hs =>
    obtain ⟨v, H', J', rv, ev, q'⟩ := J.after hs
    subst ev
    exact ⟨rv, V.ref (s.heap.objs.size + 1), H', J', rfl, q'⟩
  | .ok .next, hs => exact False.elim hs
  | .ok .brk, hs => exact False.elim hs
  | .ok .cont, hs => exact False.elim hs
theorem pe_mkKS (M : Mk X.K C f) (F : FnOk X.prog X.w X.K X.mg X.base CX k f fd ps sp) (hr : Room (k + 1) X.A) (hg : Gl X x) (hm : X.mg x = some (.ref C)) (hb : KBn X.K fd ps (n + 1) ks g gV) (hx : ∀ σ, PassesAt CX X σ (E σ)) (ha : PA X (e :: es) t) (hkw : PK X kws tk)
    (hall : (backToKw pos (keywordEach kws X.env)).all (·.1.isSome) = true := by rfl) (hks : (backToKw pos (keywordEach kws X.env)).filterMap (·.1) = ks := by rfl) (hdb : (x == ("__debug__" : Str)) = false := by decide)
    (he : starEach (e :: es) X.env = (false, eval e X.env) :: starEach es X.env := by rfl) (hpl : ((backTo pos (starEach (e :: es) X.env)).any (·.1) || (backToKw pos (keywordEach kws X.env)).any (·.1.isNone)) = false := by rfl) :
    PE X (.Call (.Name x p) (e :: es) kws pos) (tMkKS C n ks.length sp gV E t tk) := by
  refine ⟨fun pins s σ H Q I h => wpAny_Call_Name_kw (ld_glob I hg hm (PySem.W.callWith_KW (h₀ := X.base) I.ok.mod.kin M.kp hall (thn (ha.run pos pins s σ H _ I h) fun us s1 ⟨vs, H1, I1, r, q⟩ => ?_) hpl he) hdb)⟩
  refine thn (hkw.run pos pins s1 σ H1 _ I1 q) fun ws s2 ⟨zs, H2, I2, rz, l1, l2, q2⟩ => ⟨I2.kIn, ?_⟩
  rw [hks]
  exact run_mkKS M F hr hb (hx σ) I2 r rz l1 l2 q2
theorem pe_mkAllS (c : CalK X.prog X.w X.K X.mg X.base CX k x C f fd ps (n + 1) k1 k2 e1 e2 sp) (hr : Room (k + 1) X.A) (hg : Gl X x) (hx : ∀ σ, PassesAt CX X σ (E σ)) (ha : PA X (e :: es) t) (hkw : PK X kws tk) (hdb : (x == ("__debug__" : Str)) = false := by decide)
    (he : starEach (e :: es) X.env = (false, eval e X.env) :: starEach es X.env := by rfl) (hpl : ((backTo pos (starEach (e :: es) X.env)).any (·.1) || (backToKw pos (keywordEach kws X.env)).any (·.1.isNone)) = false := by rfl) (hall : (backToKw pos (keywordEach kws X.env)).all (·.1.isSome) = true := by rfl) (hks : (backToKw pos (keywordEach kws X.env)).filterMap (·.1) = [k1, k2] := by rfl) :
    PE X (.Call (.Name x p) (e :: es) kws pos) (tMkKS C n 2 sp (fun vs zs => vs ++ zs) E t tk) := by
  obtain ⟨g, hb⟩ := c.b.all
  exact pe_mkKS c.mkc c.G hr hg c.m hb hx ha hkw hall hks hdb he hpl
end
end El

set_option Elab.async false
set_option linter.all false
set_option maxRecDepth 100000
set_option maxHeartbeats 4000000
/-! Own words: iterating an own class whose `__iter__` returns iter(..) of a dict's values; an own `__setitem__`; own classes with a star parameter. -/
namespace El
open PySem PySem.Spec PyProof.Rows L2 StX
/-! ### d.values() and iter(..) of it -/
/-- at v the view of the values of the dict at d -/
def VvO (d v : Addr) : HO := .ext fun h => h.IsValuesView v d
def vvObj (d : Addr) : Obj := { cls := .type "dict_values", data := .fields #[.ref d] }
theorem vvO_ok {P : Program} {w : World} {H : Hp} {h : Heap} {d v : Addr} (e : h.get? v = some (vvObj d)) : ObjOk P w H h v (VvO d v) := ⟨⟨_, e, rfl, rfl⟩, ⟨_, e⟩, fun _ _ ⟨o, h1, h2, h3⟩ k => ⟨o, k _ h1, h2, h3⟩⟩
/-- e.values(), e a dict that no one changes now -/
def tVals (te : TE) : TE := fun σ H Q => te σ H fun x H1 => ∃ d o kvs, x = .ref d ∧ H1 d = some (.frz o (.dK kvs)) ∧ ∀ v, H1 v = none → Q (.ref v) (upd H1 v (VvO d v))
section
variable {X : Cx}
theorem pe_vals {e : Expr} {te : TE} {apos cpos : Pos} (he : PE X e te) (hbase : attributeBase e "values" X.env (eval e X.env) = eval e X.env := by rfl) (hline : (apos.endLine == cpos.line) = true := by rfl) :
    PE X (.Call (.Attribute e "values" apos) [] [] cpos) (tVals te) := by
  refine ⟨fun pins s σ H Q I h => wpAny_Call_method (T := "dict") (id := "dict.values") hbase rfl hline F.plainAttrs_dict F.slot_dict_values F.type_dict_values (thn (he.run pins s σ H _ I h) fun u s1 ⟨x, H1, I1, rx, q⟩ => ?_)⟩
  obtain ⟨d, o, kvs, ex, hd, q⟩ := q
  subst ex
  cases (show u = Value.ref d from rx)
  obtain ⟨hs, _, _, _, _, vs, _, _, _, hm⟩ := I1.frzK hd
  refine ⟨hm.dictOf.typeIs, hm.dictOf.mapOf.noDict, ?_⟩
  have stay : ∀ b ob, s1.heap.get? b = some ob → (s1.heap.push (vvObj d)).get? b = some ob := fun b ob z => Heap.get?_push_of_some _ z
  have fin : EP X pins σ Q (.ref s1.heap.objs.size) { s1 with heap := s1.heap.push (vvObj d) } := ⟨.ref s1.heap.objs.size, _, I1.laid (t' := s1.toks) stay (Nat.le_refl _) (vvO_ok (Heap.get?_push_size _ rfl)), rfl, q _ (I1.hok.fresh (Nat.le_refl _))⟩
  show wpAny _ _ (callWith cpos (.builtin "dict.values") [.ref d] [] []) _ X.xe s1
  exact method_meetsIn F.slot_dict_values F.entry_dict_values rfl (PySem.evalArgs_none ⟨rfl, hm.dictOf.typeIs, F.args_dict_values_1 _, _, meets_dict_values (mixKind X.prog X.w) d hs, ⟨vs, hm.dictOf⟩, fin⟩)
end
def vitObj (d : Addr) (n ep : Nat) : Obj := { cls := .type "dict_valueiterator", data := .fields #[.ref d, .int 0 0, .int n 0, .int ep 0] }
/-- at it the iterator of the values of the dict at d, at its beginning; o is the dict's object -/
def VitO (d : Addr) (o : Obj) (n : Nat) (it : Addr) : HO := .ext fun h => ∃ es ep, o.data = .dict es ep ∧ h.IsValIter it d 0 n ep
theorem vitO_ok {P : Program} {w : World} {H : Hp} {h : Heap} {d it : Addr} {o : Obj} {n ep : Nat} {es : Array DictEntry} (ho : o.data = .dict es ep) (e : h.get? it = some (vitObj d n ep)) : ObjOk P w H h it (VitO d o n it) :=
  ⟨⟨es, ep, ho, _, e, rfl, rfl⟩, ⟨_, e⟩, fun _ _ ⟨es, ep, ho, ob, h1, h2⟩ k => ⟨es, ep, ho, ob, k _ h1, h2⟩⟩
def rIterV (n : Nat) : List V → Hp → VK → Prop := fun xs H Q => ∃ (v d : Addr) (o : Obj) (kvs : List (Key × V)), xs = [.ref v] ∧ H v = some (VvO d v) ∧ H d = some (.frz o (.dK kvs)) ∧ ∀ it, H it = none → n ≤ it → Q (.ref it) (upd H it (VitO d o kvs.length it))
theorem call_iterV {X : Cx} : CallR X (.builtin "iter") (rIterV X.s_0.heap.objs.size) := by
  intro pins s σ H xs us Q I r h
  obtain ⟨v, d, o, kvs, rfl, hv, hd, q⟩ := h
  obtain rfl := Vals.ref1 r
  obtain ⟨hs, hgd, hx, es, ep, vs, hdt, hsz, kv, hm⟩ := I.frzK hd
  have view : s.heap.IsValuesView v d := (I.hok v _ hv).1
  have hl : vs.length = kvs.length := (Paired.length kv).symm
  refine Calls.call_function_entry (by decide +kernel) (by decide +kernel) PySem.W.kdk_entry_iter (PySem.W.kdk_args_iter _) ?_
  unfold Builtin.«iter»
  refine wpAny_bind (m := someArgs "iter" 1 2 _) (wpAny_of_eq (a := [Value.ref v]) (by first | rfl | kernel_rfl!) ?_)
  refine wpAny_bind (wpAny_pyIter_values (d := d) (knd := mixKind X.prog X.w) view hm (wpAny_pure ⟨_, rfl, ?_⟩))
  rw [hl]
  exact ⟨.ref s.heap.objs.size, _, I.laid (t' := s.toks) (h' := s.heap.push (vitObj d kvs.length ep)) (fun b u e => Heap.get?_push_of_some _ e) (Nat.le_refl _) (vitO_ok hdt (Heap.get?_push_size _ rfl)), rfl, q _ (I.hok.fresh (Nat.le_refl _)) I.sz⟩
theorem iterVK {X : Cx} (n : Nat) (hn : X.s_0.heap.objs.size = n := by rfl) : CallR X (.builtin "iter") (rIterV n) := hn ▸ call_iterV
/-! ### for x in a, a of the class at C -/
/-- `__iter__` gives a tuple's iterator; no word of how many objects there were -/
def iOwnTn (K : PySem.W.Frag) (C : Addr) (sp : Nat → Sp) (E : XK) (te : TE) : TI := fun σ H R => te σ H fun x H1 => ∃ a dx fs, x = .ref a ∧ H1 a = some (.ins C dx fs) ∧ ∀ m, sp m [.ref a] H1 (fun v H2 => ∃ t it, v = .ref it ∧ H2 it = some (TitO t it) ∧ m ≤ it ∧ R (Itt K t) (ItX.dropH H2 it)) E
/-- `__iter__` gives the iterator of a dict's values -/
def iOwnVn (C : Addr) (sp : Nat → Sp) (E : XK) (te : TE) : TI := fun σ H R => te σ H fun x H1 => ∃ a dx fs, x = .ref a ∧ H1 a = some (.ins C dx fs) ∧ ∀ m, sp m [.ref a] H1 (fun v H2 => ∃ d o kvs it, v = .ref it ∧ H2 d = some (.frz o (.dK kvs)) ∧ d ≠ it ∧ H2 it = some (VitO d o kvs.length it) ∧ m ≤ it ∧ R (Itd d o kvs) (ItX.dropH H2 it)) E
section
variable {X : Cx} {CX : CXT} {k : Nat} {C f : Addr} {sp : Nat → Sp} {E : XK} {tg e : Expr} {te : TE}
theorem pi_ownTn (K : PySem.W.Frag) (c : OitC X.K C f) (F : FnS X.prog X.w X.K X.mg X.base CX k f sp) (hr : Room k X.A) (hx : Passes CX X E) (he : PE X e te) (hK : X.K = K := by rfl) : PI X tg e (iOwnTn K C sp E te) := by
  subst hK
  refine ⟨fun pins s σ H R I h => thn (he.run pins s σ H _ I h) fun v s1 ⟨x, H1, I1, r1, a, dx, fs, ex, ea, q⟩ => ?_⟩
  subst ex
  obtain rfl : v = Value.ref a := r1
  obtain ⟨m, fr⟩ := I1.fr
  obtain ⟨mA, O, _⟩ := ins_get I1.hok ea
  obtain ⟨od, J, _⟩ := O.look
  refine PySem.W.owit_iter fr I1.ok.mod.kin J c.at_ c.fn (wpAny_call (codeAny_mono (F X.A X.stack s1 H1 [.ref a] [.ref a] _ E hr I1.env0 (.cons rfl .nil) (q _)) fun r s' hq => ?_))
  match r, hq with
  | .error e, hq => exact hx pins σ H1 s1 e s' I1 hq
  | .ok (.ret u), hq =>
    obtain ⟨w', H2, I2, rw', t, it, rfl, hi, hn, hR⟩ := I1.after hq
    obtain rfl : u = Value.ref it := rw'
    have eo := titO_get I2 hi
    have hi' := hi
    unfold TitO at hi'
    have LT : PySem.W.Looks (model X.prog X.w) s'.heap (typeOf (.ref it)) (.type "tuple_iterator") := (PySem.W.Looks.ld (part := none) eo).andThen .now
    have LN : PySem.W.Looks (model X.prog X.w) s'.heap (specialOf (.ref it) (Str.ofString "__next__")) (some (.builtin "tuple_iterator.__next__")) := LT.andThen (PySem.W.Looks.of_pure slot_tupleiter_next.lookup)
    refine LN.here ⟨it, [it], _, _, ItX.dropH H2 it, rfl, ItX.inv_drop I2 hi', turn_tuple t it, ⟨_, eo, rfl, rfl⟩, fun b hb => ?_, hR⟩
    rw [show b = it by simpa using hb]
    exact ItX.inv_fp I2 hi (Nat.le_trans I1.sz hn)
  | .ok .next, hq => exact False.elim hq
  | .ok .brk, hq => exact False.elim hq
  | .ok .cont, hq => exact False.elim hq
theorem pi_ownVn (c : OitC X.K C f) (F : FnS X.prog X.w X.K X.mg X.base CX k f sp) (hr : Room k X.A) (hx : Passes CX X E) (he : PE X e te) : PI X tg e (iOwnVn C sp E te) := by
  refine ⟨fun pins s σ H R I h => thn (he.run pins s σ H _ I h) fun v s1 ⟨x, H1, I1, r1, a, dx, fs, ex, ea, q⟩ => ?_⟩
  subst ex
  obtain rfl : v = Value.ref a := r1
  obtain ⟨m, fr⟩ := I1.fr
  obtain ⟨mA, O, _⟩ := ins_get I1.hok ea
  obtain ⟨od, J, _⟩ := O.look
  refine PySem.W.owit_iter fr I1.ok.mod.kin J c.at_ c.fn (wpAny_call (codeAny_mono (F X.A X.stack s1 H1 [.ref a] [.ref a] _ E hr I1.env0 (.cons rfl .nil) (q _)) fun r s' hq => ?_))
  match r, hq with
  | .error e, hq => exact hx pins σ H1 s1 e s' I1 hq
  | .ok (.ret u), hq =>
    obtain ⟨w', H2, I2, rw', d, o, kvs, it, rfl, hd, hne, hi, hn, hR⟩ := I1.after hq
    obtain rfl : u = Value.ref it := rw'
    obtain ⟨es, ep, ho, st⟩ : ∃ es ep, o.data = .dict es ep ∧ s'.heap.IsValIter it d 0 kvs.length ep := (I2.hok it _ hi).1
    have hi' := hi
    unfold VitO at hi'
    have LT : PySem.W.Looks (model X.prog X.w) s'.heap (typeOf (.ref it)) (.type "dict_valueiterator") := by
      obtain ⟨ob, e1, e2, _⟩ := st
      rw [← e2]
      exact (PySem.W.Looks.ld (part := none) e1).andThen .now
    have LN : PySem.W.Looks (model X.prog X.w) s'.heap (specialOf (.ref it) (Str.ofString "__next__")) (some (.builtin "dict_valueiterator.__next__")) := LT.andThen (PySem.W.Looks.of_pure PySem.F.slot_dict_valueiterator_next.lookup)
    refine LN.here ⟨it, [it], _, _, ItX.dropH H2 it, rfl, ItX.inv_drop I2 hi', turn_vals it ho, st, fun b hb => ?_, hR⟩
    rw [show b = it by simpa using hb]
    exact ItX.inv_fp I2 hi (Nat.le_trans I1.sz hn)
  | .ok .next, hq => exact False.elim hq
  | .ok .brk, hq => exact False.elim hq
  | .ok .cont, hq => exact False.elim hq
end
/-! ### a[i] = v, a of the class at C -/
structure SetC (K : PySem.W.Frag) (C f : Addr) : Prop where
  at_ : PySem.W.findIn K (.ref C) "__setitem__" = some (some (.ref f))
  fn : PySem.W.isFn K (.ref f) = true
  sq : PySem.W.noSeq K C = true
def rSetO (C : Addr) (sp : Sp) (E : XK) : TSet := fun o i v H Q => ∃ a dx fs, o = .ref a ∧ H a = some (.ins C dx fs) ∧ sp [.ref a, i, v] H (fun _ H' => Q H') E
theorem set_own {X : Cx} {CX : CXT} {k : Nat} {C f : Addr} {fd : FuncData} {ps : List Str} {sp : Sp} {E : XK} (c : SetC X.K C f) (F : FnOk X.prog X.w X.K X.mg X.base CX k f fd ps sp) (hr : Room k X.A) (hb : Binds X.K fd ps []) (hx : Passes CX X E) : PSet X (rSetO C sp E) := by
  intro pins s σ H o i v ov iv u Q I ro ri rv h
  obtain ⟨a, dx, fs, rfl, ea, q⟩ := h
  obtain rfl : ov = Value.ref a := ro
  obtain ⟨m, fr⟩ := I.fr
  obtain ⟨mA, O, _⟩ := ins_get I.hok ea
  obtain ⟨od, J, _⟩ := O.look
  refine PySem.W.ksp_setItem fr I.ok.mod.kin J c.sq c.at_ c.fn ?_
  have hl : ([Value.ref a, iv, u] ++ []).length = ps.length := F.len _ _ _ _ q
  have bt := hb s [.ref a, iv, u] I.kIn hl
  rw [List.append_nil] at bt
  refine wpAny_call (codeAny_mono (F.run X.A X.stack s H ⟨[.ref a, iv, u], []⟩ [.ref a, iv, u] [.ref a, i, v] _ E hr I.env0 bt (.cons rfl (.cons ri (.cons rv .nil))) q) fun r s' hq => ?_)
  match r, hq with
  | .error e, hq => exact hx pins σ H s e s' I hq
  | .ok (.ret u), hq =>
    obtain ⟨w', H2, I2, _, q2⟩ := I.after hq
    exact ⟨H2, I2, q2⟩
  | .ok .next, hq => exact False.elim hq
  | .ok .brk, hq => exact False.elim hq
  | .ok .cont, hq => exact False.elim hq
structure CalSet (P : Program) (w : World) (K : PySem.W.Frag) (mg : Str → Option Value) (base : Heap) (CX : CXT) (k : Nat) (C f : Addr) (fd : FuncData) (ps : List Str) (sp : Sp) : Prop extends CalB P w K mg base CX k f fd ps sp where
  se : SetC K C f
/-! ### star parameters -/
/-- what a def with the parameters before and a star parameter promises: the star's tuple is new -/
def spV (n : Nat) (sp : Sp) : Sp := fun vs H Q E => ∃ ws rest, vs = ws ++ rest ∧ ws.length = n ∧ rest.length ≤ sizeLine ∧ ∀ p, H p = none → sp (ws ++ [V.ref p]) (upd H p (.tup rest)) Q E
section
variable {P : Program} {w : World} {K : PySem.W.Frag} {mg : Str → Option Value} {base : Heap} {k : Nat} {f : Addr} {x qual : Str} {st : Stmt} {fd : FuncData} {N ps : List Str} {pv : Str} {sp : Sp}
theorem Fun.okV0 (F : Fun K x qual st f fd) (S : FnScope N (ps ++ [pv]) (defScope st))
    (hb : ∀ (kV doc pm : Value) (an : Option Addr) (cdv ct : Value) (us rest : List Value), us.length = ps.length → bindArgs (PySem.W.fnOf x qual (defArgs st) (defBody st) (defScope st) .none kV doc pm an cdv ct) ⟨us ++ rest, []⟩ = (newTuple rest >>= fun t => pure (ps.zip us ++ [(pv, t)])))
    (body : ∀ (cdv : Value) (A : Around) (outer : List Env) (s : Shared) (H : Hp) (vs : List V) (Q : VK) (E : XK), Room k (A.deeper (envOfC qual (defScope st) s.heap.objs.size f cdv)) → sp vs H Q E →
      ∃ t, PSs (cxOf CX0 P w K mg base N qual (defScope st) f cdv A outer s H E).nox (defBody st) t ∧ t { nx := fun _ H' => Q .non H', rt := Q } (start N vs) H) : FnR P w K mg base CX0 (k + 1) f (spV ps.length sp) := by
  obtain ⟨oc, od, kV, doc, pm, an, cdv, ct, osl, rfl, lk, hcd⟩ := F.ex
  exact fn_star lk hcd S cxUp_none (hb kV doc pm an cdv ct) fun A outer s H vs Q E hr hsp => (body cdv A outer s H vs Q E hr hsp).imp fun t z => ⟨z.1.nox, z.2⟩
theorem Fun.okVX (F : Fun K x qual st f fd) (S : FnScope N (ps ++ [pv]) (defScope st))
    (hb : ∀ (kV doc pm : Value) (an : Option Addr) (cdv ct : Value) (us rest : List Value), us.length = ps.length → bindArgs (PySem.W.fnOf x qual (defArgs st) (defBody st) (defScope st) .none kV doc pm an cdv ct) ⟨us ++ rest, []⟩ = (newTuple rest >>= fun t => pure (ps.zip us ++ [(pv, t)])))
    (body : ∀ (cdv : Value) (A : Around) (outer : List Env) (s : Shared) (H : Hp) (vs : List V) (Q : VK) (E : XK), Room k (A.deeper (envOfC qual (defScope st) s.heap.objs.size f cdv)) → sp vs H Q E →
      ∃ t, PSs (cxOf (L2.CX P w) P w K mg base N qual (defScope st) f cdv A outer s H E) (defBody st) t ∧ t { nx := fun _ H' => Q .non H', rt := Q } (start N vs) H) : FnR P w K mg base (L2.CX P w) (k + 1) f (spV ps.length sp) := by
  obtain ⟨oc, od, kV, doc, pm, an, cdv, ct, osl, rfl, lk, hcd⟩ := F.ex
  exact fn_star lk hcd S cxUp (hb kV doc pm an cdv ct) fun A outer s H vs Q E hr hsp => body cdv A outer s H vs Q E hr hsp
end
theorem FnR.up {P : Program} {w : World} {K : PySem.W.Frag} {mg : Str → Option Value} {base : Heap} {CX : CXT} {j k : Nat} {f : Addr} {sp : Sp} (F : FnR P w K mg base CX j f sp) (h : j ≤ k) : FnR P w K mg base CX k f sp := fun A outer s H us vs Q E hr => F A outer s H us vs Q E (hr.mono h)
/-- a class whose `__init__` has a star parameter -/
structure CalIV (P : Program) (w : World) (K : PySem.W.Frag) (mg : Str → Option Value) (base : Heap) (CX : CXT) (k : Nat) (x : Str) (C f : Addr) (n : Nat) (sp : Sp) : Prop where
  G : FnR P w K mg base CX k f (spV n sp)
  mkc : Mk K C f
  m : mg x = some (.ref C)
/-- a def of the module with a star parameter -/
structure CalV (P : Program) (w : World) (K : PySem.W.Frag) (mg : Str → Option Value) (base : Heap) (CX : CXT) (k : Nat) (x : Str) (f : Addr) (n : Nat) (sp : Sp) : Prop where
  G : FnR P w K mg base CX k f (spV n sp)
  kp : PySem.W.keepIn K (.ref f) = true
  m : mg x = some (.ref f)
section
variable {X : Cx} {CX : CXT} {k : Nat} {C f : Addr} {sp : Sp} {E : XK} {x : Str} {e : Expr} {es : List Expr} {t : TA} {p pos : Pos}
/-- C(e, .., *y) -/
theorem pe_makeRS (M : Mk X.K C f) (F : FnR X.prog X.w X.K X.mg X.base CX k f sp) (hr : Room (k + 1) X.A) (hg : Gl X x) (hm : X.mg x = some (.ref C)) (hx : Passes CX X E) (ha : PA X (e :: es) t) (hdb : (x == ("__debug__" : Str)) = false := by decide)
    (he : starEach (e :: es) X.env = (false, eval e X.env) :: starEach es X.env := by rfl) (hst : (backTo pos (starEach es X.env)).any (·.1) = true := by rfl) : PE X (.Call (.Name x p) (e :: es) [] pos) (StX.tMakeR C sp E t) := by
  refine ⟨fun pins s σ H Q I h => wpAny_Call_Name_kw (ld_glob I hg hm ?_ hdb)⟩
  exact PySem.W.callWith_S2 (h₀ := X.base) I.ok.mod.kin M.kp (thn (ha.run pos pins s σ H _ I h) fun us s1 ⟨vs, H1, I1, r, q⟩ => ⟨I1.kIn, StX.run_makeR M F hr hx I1 r q⟩) he hst
/-- f(e, ..), f a def with a star parameter -/
theorem pe_callR (F : FnR X.prog X.w X.K X.mg X.base CX k f sp) (hr : Room k X.A) (hk : PySem.W.keepIn X.K (.ref f) = true) (hg : Gl X x) (hm : X.mg x = some (.ref f)) (hx : Passes CX X E) (ha : PA X (e :: es) t) (hd : (x == ("__debug__" : Str)) = false := by decide)
    (he : starEach (e :: es) X.env = (false, eval e X.env) :: starEach es X.env := by rfl) (hpl : (backTo pos (starEach es X.env)).any (·.1) = false := by rfl) : PE X (.Call (.Name x p) (e :: es) [] pos) (fun σ H Q => t σ H fun vs H1 => sp vs H1 Q E) := by
  refine ⟨fun pins s σ H Q I h => wpAny_Call_Name_kw (ld_glob I hg hm ?_ hd)⟩
  exact PySem.W.callWith_K (h₀ := X.base) I.ok.mod.kin hk (thn (ha.run pos pins s σ H _ I h) fun us s1 ⟨vs, H1, I1, r, q⟩ => ⟨I1.kIn, wpAny_call (run_fnR F hr hx I1 r q)⟩) he hpl
end
/-- three parameters ahead of a star parameter -/
theorem bind_star3 {B : List Value → Sem (List (Str × Value))} {p1 p2 p3 pv : Str} (h0 : ∀ a b c, B [a, b, c] = (newTuple [] >>= fun t => pure [(p1, a), (p2, b), (p3, c), (pv, t)])) (h1 : ∀ a b c r rs, B (a :: b :: c :: r :: rs) = (newTuple (r :: rs) >>= fun t => pure [(p1, a), (p2, b), (p3, c), (pv, t)])) :
    ∀ us rest : List Value, us.length = [p1, p2, p3].length → B (us ++ rest) = (newTuple rest >>= fun t => pure ([p1, p2, p3].zip us ++ [(pv, t)]))
  | [a, b, c], [], _ => h0 a b c
  | [a, b, c], r :: rs, _ => h1 a b c r rs
end El

set_option Elab.async false
set_option linter.all false
set_option maxRecDepth 100000
set_option maxHeartbeats 4000000
/-! Own words: rows of ints and texts (keys of a dict) compared, looked for and sorted; setdefault and del for dicts by such rows. -/
namespace El
open PySem PySem.Spec PyProof.Rows L2
instance decKy (k : List Key) (ks : List (List Key)) : Decidable (k ∈ ks) := decidable_of_iff ((ks.any fun j => decide (j = k)) = true) (by rw [List.any_eq_true]; exact ⟨fun ⟨j, h, e⟩ => by rw [← of_decide_eq_true e]; exact h, fun h => ⟨k, h, decide_eq_true rfl⟩⟩)
section
variable {X : Cx}
/-! ### rows of ints and texts as data -/
def kD : Key → PyData
  | .inl i => .int i
  | .inr z => .str z
def ksD (k : List Key) : PyData := .tuple (k.map kD)
theorem kD_eqv : ∀ a b : Key, PyData.eqv (kD a) (kD b) = decide (a = b)
  | .inl i, .inl j => by
    simp only [kD, PyData.eqv]
    rw [Bool.eq_iff_iff, beq_iff_eq, decide_eq_true_iff, Sum.inl.injEq]
  | .inl i, .inr z => by simp [kD, PyData.eqv]
  | .inr z, .inl i => by simp [kD, PyData.eqv]
  | .inr z, .inr y => by
    simp only [kD, PyData.eqv]
    rw [Bool.eq_iff_iff, beq_iff_eq, decide_eq_true_iff, Sum.inr.injEq]
theorem kDs_eqv : ∀ a b : List Key, PyData.eqvAll (a.map kD) (b.map kD) = decide (a = b)
  | [], [] => by simp [PyData.eqvAll]
  | [], _ :: _ => by simp [PyData.eqvAll]
  | _ :: _, [] => by simp [PyData.eqvAll]
  | x :: a, y :: b => by
    simp only [List.map_cons, PyData.eqvAll]
    rw [kD_eqv, kDs_eqv a b, Bool.eq_iff_iff, Bool.and_eq_true, decide_eq_true_iff, decide_eq_true_iff, decide_eq_true_iff, List.cons.injEq]
theorem ksD_eqv (a b : List Key) : PyData.eqv (ksD a) (ksD b) = decide (a = b) := by
  unfold ksD
  simp only [PyData.eqv]
  exact kDs_eqv a b
theorem kD_plains : ∀ k : List Key, PyData.plainAll (k.map kD) = true
  | [] => by simp [PyData.plainAll]
  | .inl i :: r => by simp [PyData.plainAll, PyData.plain, kD, kD_plains r]
  | .inr z :: r => by simp [PyData.plainAll, PyData.plain, kD, kD_plains r]
theorem ksD_plain (k : List Key) : PyData.plain (ksD k) = true := by
  unfold ksD
  simp only [PyData.plain]
  exact kD_plains k
theorem kD_depths : ∀ k : List Key, PyData.depthAll (k.map kD) ≤ 1
  | [] => by simp [PyData.depthAll]
  | .inl i :: r => by
    have := kD_depths r
    simp only [List.map_cons, PyData.depthAll, kD, PyData.depth]
    omega
  | .inr z :: r => by
    have := kD_depths r
    simp only [List.map_cons, PyData.depthAll, kD, PyData.depth]
    omega
theorem ksD_depth (k : List Key) : (ksD k).depth ≤ 2 := by
  have := kD_depths k
  unfold ksD
  simp only [PyData.depth]
  omega
/-- a row of ints and texts -/
def KyAt (K : PySem.W.Frag) (H : Hp) (v : V) (k : List Key) : Prop := ∃ r, v = .ref r ∧ SqT K H r (k.map kV)
theorem kV_dp {K : PySem.W.Frag} {H : Hp} : ∀ k : Key, Dp K H (kV k) (kD k)
  | .inl _ => .int _
  | .inr _ => .str _
theorem kVs_dp {K : PySem.W.Frag} {H : Hp} : ∀ k : List Key, DpAll K H (k.map kV) (k.map kD)
  | [] => .nil
  | a :: r => .cons (kV_dp a) (kVs_dp r)
theorem KyAt.dp {K : PySem.W.Frag} {H : Hp} {v : V} {k : List Key} (h : KyAt K H v k) : Dp K H v (ksD k) := by
  obtain ⟨r, rfl, h⟩ := h
  exact .tup h (kVs_dp k)
inductive KysIn (K : PySem.W.Frag) (H : Hp) : List V → List (List Key) → Prop
  | nil : KysIn K H [] []
  | cons {v : V} {k : List Key} {vs : List V} {ks : List (List Key)} : KyAt K H v k → KysIn K H vs ks → KysIn K H (v :: vs) (k :: ks)
theorem KysIn.dp {K : PySem.W.Frag} {H : Hp} {vs : List V} {ks : List (List Key)} (h : KysIn K H vs ks) : DpAll K H vs (ks.map ksD) := by
  induction h with
  | nil => exact .nil
  | cons a _ ih => exact .cons a.dp ih
theorem ksD_plainAll : ∀ ks : List (List Key), PyData.plainAll (ks.map ksD) = true
  | [] => by simp [PyData.plainAll]
  | k :: r => by
    rw [List.map_cons]
    simp only [PyData.plainAll, Bool.and_eq_true]
    exact ⟨ksD_plain k, ksD_plainAll r⟩
theorem ksD_any (ks : List (List Key)) (k : List Key) : ((ks.map ksD).any fun d => PyData.eqv d (ksD k)) = decide (k ∈ ks) := by
  induction ks with
  | nil => simp
  | cons a r ih =>
    rw [List.map_cons, List.any_cons, ih, ksD_eqv, Bool.eq_iff_iff, Bool.or_eq_true, decide_eq_true_iff, decide_eq_true_iff, decide_eq_true_iff, List.mem_cons]
    exact ⟨fun h => h.imp (fun e => e.symm) id, fun h => h.imp (fun e => e.symm) id⟩
def rInKy (K : PySem.W.Frag) (neg : Bool) : R2 := fun x y H Q => ∃ (k : List Key) (l : Addr) (vs : List V) (ks : List (List Key)), KyAt K H x k ∧ y = .ref l ∧ (SqT K H l vs ∨ SqL K H l vs) ∧ KysIn K H vs ks ∧ Q (.bl (if neg then !decide (k ∈ ks) else decide (k ∈ ks))) H
theorem op_inKy (K : PySem.W.Frag) (neg : Bool) (hu : X.A.units + 64 < cLine) (hK : X.K = K := by rfl) : OpR X (compareOp (if neg then .NotIn else .In)) (rInKy K neg) := by
  subst hK
  intro pins s σ H x y v u Q I rx ry h
  obtain ⟨k, l, vs, ks, hp, rfl, hl, hv, q⟩ := h
  obtain ⟨bs, rd⟩ := Dp.reads I _ x v hp.dp rx
  have room : X.A.units + 1 + min (PyData.depthAll (ks.map ksD)) (ksD k).depth < cLine := by
    have := ksD_depth k
    have := Nat.min_le_right (PyData.depthAll (ks.map ksD)) (ksD k).depth
    omega
  rcases hl with hl | hl
  · obtain ⟨as, rc⟩ := Dp.reads I _ (.ref l) u (.tup hl hv.dp) ry
    cases neg
    · exact PySem.SeqAt.in_tuple_data rc rd (ksD_plainAll ks) (ksD_plain k) room (by rw [ksD_any]; exact ⟨.bl _, H, I, rfl, q⟩)
    · exact PySem.SeqAt.notIn_tuple_data rc rd (ksD_plainAll ks) (ksD_plain k) room (by rw [ksD_any]; exact ⟨.bl _, H, I, rfl, q⟩)
  · obtain ⟨as, rc⟩ := Dp.reads I _ (.ref l) u (.lst hl hv.dp) ry
    cases neg
    · exact PySem.SeqAt.in_list_data rc rd (ksD_plainAll ks) (ksD_plain k) room (by rw [ksD_any]; exact ⟨.bl _, H, I, rfl, q⟩)
    · exact PySem.SeqAt.notIn_list_data rc rd (ksD_plainAll ks) (ksD_plain k) room (by rw [ksD_any]; exact ⟨.bl _, H, I, rfl, q⟩)
theorem inKy (K : PySem.W.Frag) (hu : X.A.units + 64 < cLine) (hK : X.K = K := by rfl) : OpR X (compareOp .In) (rInKy K false) := op_inKy K false hu hK
theorem notInKy (K : PySem.W.Frag) (hu : X.A.units + 64 < cLine) (hK : X.K = K := by rfl) : OpR X (compareOp .NotIn) (rInKy K true) := op_inKy K true hu hK
def rEqKy (K : PySem.W.Frag) : R2 := fun x y H Q => ∃ p q : List Key, KyAt K H x p ∧ KyAt K H y q ∧ Q (.bl (decide (p = q))) H
theorem eqKy (K : PySem.W.Frag) (hu : X.A.units + 64 < cLine) (hK : X.K = K := by rfl) : OpR X (compareOp .Eq) (rEqKy K) := by
  subst hK
  intro pins s σ H x y v u Q I rx ry h
  obtain ⟨p, q, hp, hq, k⟩ := h
  obtain ⟨as, ra⟩ := Dp.reads I _ x v hp.dp rx
  obtain ⟨bs, rb⟩ := Dp.reads I _ y u hq.dp ry
  have := ksD_depth p
  have := Nat.min_le_left (ksD p).depth (ksD q).depth
  exact PySem.SeqAt.eq_plain ra rb (ksD_plain p) (ksD_plain q) (by omega) (by rw [ksD_eqv]; exact ⟨.bl _, H, I, rfl, k⟩)
def rNeKy (K : PySem.W.Frag) : R2 := fun x y H Q => ∃ p q : List Key, KyAt K H x p ∧ KyAt K H y q ∧ Q (.bl (!decide (p = q))) H
theorem neKy (K : PySem.W.Frag) (hu : X.A.units + 64 < cLine) (hK : X.K = K := by rfl) : OpR X (compareOp .NotEq) (rNeKy K) := by
  subst hK
  intro pins s σ H x y v u Q I rx ry h
  obtain ⟨p, q, hp, hq, k⟩ := h
  obtain ⟨as, ra⟩ := Dp.reads I _ x v hp.dp rx
  obtain ⟨bs, rb⟩ := Dp.reads I _ y u hq.dp ry
  have := ksD_depth p
  have := Nat.min_le_left (ksD p).depth (ksD q).depth
  exact PySem.SeqAt.ne_plain ra rb (ksD_plain p) (ksD_plain q) (by omega) (by rw [ksD_eqv]; exact ⟨.bl _, H, I, rfl, k⟩)

/-! ### setdefault and del for dicts by rows -/
theorem kt_none {H : Hp} {kvs : List (List Key × V)} {xs : List (List Key × Addr × Value)} (rel : KT H kvs xs) {k : List Key} (h : atKey xs k = none) : valV kvs k = none := by
  have r := rel.val k
  rw [h] at r
  cases e : valV kvs k with
  | none => rfl
  | some v => rw [e] at r; exact (show False from r).elim
theorem kt_some {H : Hp} {kvs : List (List Key × V)} {xs : List (List Key × Addr × Value)} (rel : KT H kvs xs) {k : List Key} {p : Addr × Value} (h : atKey xs k = some p) : ∃ v, valV kvs k = some v ∧ RelV v p.2 := by
  have r := rel.val k
  rw [h] at r
  cases e : valV kvs k with
  | none => rw [e] at r; exact (show False from r).elim
  | some v => rw [e] at r; exact ⟨v, rfl, r⟩
def tDSetdT (td ty tx : TE) : TE := fun σ H Q => td σ H fun x H1 => ∃ a, x = .ref a ∧ IsD H1 a ∧ ty σ H1 fun y H2 => tx σ H2 fun z H3 => ∃ (kvs : List (List Key × V)) (k : List Key) (b : Addr), H3 a = some (.dT kvs) ∧ y = .ref b ∧ H3 b = some (.tup (k.map kV)) ∧ kvs.length < sizeLine ∧
  (∀ v, valV kvs k = some v → Q v H3) ∧ (valV kvs k = none → Q z (upd H3 a (.dT (putK kvs k z))))
theorem pe_dsetdT {o e f : Expr} {td ty tx : TE} {apos cpos : Pos} (hu : X.A.units + 64 < cLine) (ho : PE X o td) (he : PE X e ty) (hf : PE X f tx) (m : M2 X o "setdefault" apos e f cpos) : PE X (.Call (.Attribute o "setdefault" apos) [e, f] [] cpos) (tDSetdT td ty tx) := by
  refine ⟨fun pins s σ H Q I h => wpAny_Call_method m.base m.few m.line PySem.F.plainAttrs_dict PySem.F.slot_dict_setdefault PySem.F.type_dict_setdefault (thn (ho.run pins s σ H _ I h) fun u s1 ⟨x, H1, I1, rx, a, ex, d, q1⟩ => ?_)⟩
  subst ex
  obtain rfl : u = Value.ref a := rx
  obtain ⟨g1, g2, _⟩ := isD_at I1 d
  refine ⟨g1, g2, ?_⟩
  rw [m.trees]
  refine Calls.callWith_builtin rfl (Calls.evalArgs_plain (Calls.spliced_cons (thn (he.run pins s1 σ H1 _ I1 q1) fun ku s2 ⟨y, H2, I2, ry, q2⟩ => Calls.spliced_cons (thn (hf.run pins s2 σ H2 _ I2 q2) fun du s3 ⟨z, H3, I3, rz, kvs, k, b, ea, ey, eb, hl, q3, q4⟩ => Calls.spliced_nil ?_))))
  subst ey
  obtain rfl : ku = Value.ref b := ry
  obtain ⟨z0, hd, xs, rel, dd⟩ := dt_of I3.hok ea
  have hz : xs.length ≤ sizeLine := by rw [← Paired.length rel]; exact z0
  refine call_setdefault_heap (knd := tupleKind (mixKind X.prog X.w)) (k := k) (hsz := hz) (tupleKind_room_in1 (by omega)) (key_of I3.hok eb) hd dd (fun p hp => ?_) fun hn h' dd' hs => ?_
  · obtain ⟨v, ev, rv⟩ := kt_some rel hp
    exact ⟨v, H3, I3.tok _, rv, q3 v ev⟩
  · have ev := kt_none rel hn
    have hl2 : (putK kvs k z).length ≤ sizeLine := by
      have := length_putK kvs k z
      omega
    obtain ⟨q, es, ep, hq, h2, h3, h4, _, h5⟩ := dd'
    have keep : ∀ c ys, H3 c = some (.tup ys) → (upd H3 a (.dT (putK kvs k z))) c = some (.tup ys) := fun c ys ec => by
      rw [upd_ne (ne_of ec ea (fun z => nomatch z))]
      exact ec
    have nw : ObjOk X.prog X.w (upd H3 a (.dT (putK kvs k z))) h' a (.dT (putK kvs k z)) := ⟨hl2, hd, _, (rel.put k eb rz).keeps keep, q, es, ep, hq, h2, h3, h4, h5⟩
    exact ⟨z, _, d_write I3 (by rw [ea]; exact True.intro) hs ⟨q, hq⟩ nw, rz, q4 ev⟩
def sDDelT (td ty : TE) : TS := fun D σ H => td σ H fun x H1 => ty σ H1 fun y H2 => ∃ (a b : Addr) (kvs : List (List Key × V)) (k : List Key), x = .ref a ∧ y = .ref b ∧ H2 a = some (.dT kvs) ∧ H2 b = some (.tup (k.map kV)) ∧ (valV kvs k).isSome = true ∧ D.nx σ (upd H2 a (.dT (dropK kvs k)))
theorem ps_ddelT {o i : Expr} {td ty : TE} {tpos pos : Pos} (hu : X.A.units + 64 < cLine) (ho : PE X o td) (hi : PE X i ty) : PS X (.Delete [.Subscript o i tpos] pos) (sDDelT td ty) := by
  refine ⟨fun pins s σ H D I h => wpAny_Delete (wpAny_deleteEach_cons (wpAny_delete_Subscript (thn (ho.run pins s σ H _ I h) fun u s1 ⟨x, H1, I1, rx, q1⟩ => thn (hi.run pins s1 σ H1 _ I1 q1) fun iv s2 ⟨y, H2, I2, ry, a, b, kvs, k, ex, ey, ea, eb, l, q⟩ => ?_)))⟩
  subst ex
  subst ey
  obtain rfl : u = Value.ref a := rx
  obtain rfl : iv = Value.ref b := ry
  obtain ⟨z0, hd, xs, rel, dd⟩ := dt_of I2.hok ea
  have hz : xs.length ≤ sizeLine := by rw [← Paired.length rel]; exact z0
  obtain ⟨p, hp⟩ : ∃ p, atKey xs k = some p := by
    cases e : atKey xs k with
    | none => rw [kt_none rel e] at l; cases l
    | some p => exact ⟨p, rfl⟩
  refine wpAny_delItem_heap (knd := tupleKind (mixKind X.prog X.w)) (k := k) (hsz := hz) (tupleKind_room_in1 (by omega)) (key_of I2.hok eb) hd dd hp fun h' dd' hs => wpAny_deleteEach_nil ?_
  obtain ⟨r, es, ep, hr, h2, h3, h4, _, h5⟩ := dd'
  have keep : ∀ c ys, H2 c = some (.tup ys) → (upd H2 a (.dT (dropK kvs k))) c = some (.tup ys) := fun c ys ec => by
    rw [upd_ne (ne_of ec ea (fun z => nomatch z))]
    exact ec
  have nw : ObjOk X.prog X.w (upd H2 a (.dT (dropK kvs k))) h' a (.dT (dropK kvs k)) := ⟨Nat.le_trans (dropK_le kvs k) z0, hd, _, (DX.KT_drop k rel).keeps keep, r, es, ep, hr, h2, h3, h4, h5⟩
  exact ⟨σ, _, d_write I2 (by rw [ea]; exact True.intro) hs ⟨r, hr⟩ nw, q⟩
/-! ### sorted, the items being tuples of data -/
theorem each_vals {xs : List V} {us : List Value} (r : Vals xs us) : PySem.W.EachIs (fun (u : Value) (x : V) => RelV x u) us xs := by
  induction r with
  | nil => exact .nil
  | cons h _ ih => exact .cons h ih
theorem vals_each {xs : List V} {us : List Value} (r : PySem.W.EachIs (fun (u : Value) (x : V) => RelV x u) us xs) : Vals xs us := by
  induction r with
  | nil => exact .nil
  | cons h _ ih => exact .cons h ih
theorem each_dp {pins : List (Addr × Obj)} {σ : L2.St} {H : Hp} {s : Shared} {k : V → PyData} (I : Inv X pins σ H s) {xs : List V} {us : List Value} (r : Vals xs us) (h : ∀ x ∈ xs, Dp X.K H x (k x)) : PySem.W.EachIs (fun (u : Value) (x : V) => ∃ as, Reads s.heap u (k x) as) us xs := by
  induction r with
  | nil => exact .nil
  | cons e _ ih => exact .cons (Dp.reads I _ _ _ (h _ List.mem_cons_self) e) (ih fun x hx => h x (List.mem_cons_of_mem _ hx))
def rSortedD (K : PySem.W.Frag) : List V → Hp → VK → Prop := fun vs H Q => ∃ (a : Addr) (xs : List V) (k : V → PyData), vs = [.ref a] ∧ SqL K H a xs ∧ (∀ x ∈ xs, Dp K H x (k x) ∧ (∃ y r, k x = .tuple (y :: r)) ∧ (k x).depth ≤ 10) ∧ PySem.W.AllAlike (xs.map k) ∧
  ∀ p, H p = none → Q (.ref p) (upd H p (.lst (xs.mergeSort (PySem.W.dataLe false k))))
theorem cr_sortedD (K : PySem.W.Frag) (hu : X.A.units + 64 < cLine) (hK : X.K = K := by rfl) : CallR X (.builtin "sorted") (rSortedD K) := by
  subst hK
  intro pins s σ H vs us Q I r h
  obtain ⟨a, xs, k, rfl, hs, hx, al, q⟩ := h
  obtain ⟨its, rv, hl, hz⟩ := I.list hs
  obtain ⟨u, rfl, ru⟩ := vals1 r
  obtain rfl : u = Value.ref a := ru
  refine PySem.W.sorted_data (R := fun (u : Value) (x : V) => RelV x u) (bs := xs) (enc := k) hl.isList (each_vals rv) (each_dp I rv fun x m => (hx x m).1) al (.inl fun d hd => ?_) hz (fun x m => by have := (hx x m).2.2; omega) fun out lo eo => ?_
  · obtain ⟨x, m, rfl⟩ := List.mem_map.mp hd
    exact (hx x m).2.1
  · obtain ⟨c, hc⟩ := PyProof.Rows.sortedAll_at s.heap its out.toArray
    have lm : (xs.mergeSort (PySem.W.dataLe false k)).length = xs.length := List.length_mergeSort _
    have nw : ObjOk X.prog X.w (upd H (s.heap.objs.size + 1) (.lst (xs.mergeSort (PySem.W.dataLe false k)))) (sortedAll s.heap its out.toArray) (s.heap.objs.size + 1) (.lst (xs.mergeSort (PySem.W.dataLe false k))) := ⟨by rw [lm]; exact hz, out, c, vals_each eo, hc⟩
    exact ⟨.ref (s.heap.objs.size + 1), _, I.laid (t' := s.toks) (fun b o e => PyProof.Rows.sortedAll_old e) (Nat.le_succ _) nw, rfl, q _ (I.hok.fresh (Nat.le_succ _))⟩
/-! ### < and <= of data -/
def rLtD (K : PySem.W.Frag) : R2 := fun x y H Q => ∃ d e : PyData, Dp K H x d ∧ Dp K H y e ∧ PySem.W.alike d e = true ∧ d ≠ .none ∧ d.depth ≤ 10 ∧ Q (.bl (PySem.W.dataLt d e)) H
theorem ltD (K : PySem.W.Frag) (hu : X.A.units + 64 < cLine) (hK : X.K = K := by rfl) : OpR X (compareOp .Lt) (rLtD K) := by
  subst hK
  intro pins s σ H x y v u Q I rx ry h
  obtain ⟨d, e, hd, he, al, nn, dp, q⟩ := h
  obtain ⟨as, ra⟩ := Dp.reads I _ x v hd rx
  obtain ⟨bs, rb⟩ := Dp.reads I _ y u he ry
  have := Nat.min_le_left d.depth e.depth
  exact PySem.W.lt_data ra rb al nn (by omega) ⟨.bl _, H, I, rfl, q⟩
def rLeD (K : PySem.W.Frag) : R2 := fun x y H Q => ∃ d e : PyData, Dp K H x d ∧ Dp K H y e ∧ PySem.W.alike d e = true ∧ d ≠ .none ∧ d.depth ≤ 10 ∧ Q (.bl (!PySem.W.dataLt e d)) H
theorem leD (K : PySem.W.Frag) (hu : X.A.units + 64 < cLine) (hK : X.K = K := by rfl) : OpR X (compareOp .LtE) (rLeD K) := by
  subst hK
  intro pins s σ H x y v u Q I rx ry h
  obtain ⟨d, e, hd, he, al, nn, dp, q⟩ := h
  obtain ⟨as, ra⟩ := Dp.reads I _ x v hd rx
  obtain ⟨bs, rb⟩ := Dp.reads I _ y u he ry
  have := Nat.min_le_left d.depth e.depth
  exact PySem.W.le_data ra rb al nn (by omega) ⟨.bl _, H, I, rfl, q⟩
end
/-! ### a method with a star parameter: L2.pe_methR of HandS.More -/
structure CalMV (P : Program) (w : World) (K : PySem.W.Frag) (mg : Str → Option Value) (base : Heap) (CX : CXT) (k : Nat) (C : Addr) (m : Str) (f : Addr) (n : Nat) (sp : Sp) : Prop where
  G : FnR P w K mg base CX k f (spV n sp)
  cl : Cls K C
  me : Meth K C m f
end El

set_option Elab.async false
set_option linter.all false
set_option maxRecDepth 100000
set_option maxHeartbeats 4000000
/-! Own words: an own class compared (==, <, <=) by its own defs; a tuple times an int, with all its cases. -/
namespace El
open PySem PySem.Spec PyProof.Rows L2
structure CmpC (K : PySem.W.Frag) (C f : Addr) (op : CmpOp) : Prop where
  at_ : PySem.W.findIn K (.ref C) (cmpInfo op).2.1 = some (some (.ref f))
  fn : PySem.W.isFn K (.ref f) = true
structure CalCm (P : Program) (w : World) (K : PySem.W.Frag) (mg : Str → Option Value) (base : Heap) (CX : CXT) (k : Nat) (C : Addr) (op : CmpOp) (f : Addr) (fd : FuncData) (ps : List Str) (sp : Sp) : Prop extends CalB P w K mg base CX k f fd ps sp where
  cm : CmpC K C f op
section
variable {X : Cx} {CX : CXT} {k : Nat} {C f : Addr} {fd : FuncData} {ps : List Str} {sp : Sp} {E : XK} {op : CmpOp}
theorem op_cmpO (c : CmpC X.K C f op) (F : FnOk X.prog X.w X.K X.mg X.base CX k f fd ps sp) (hr : Room k X.A) (hb : Binds X.K fd ps []) (hx : Passes CX X E) (hop : ∀ a b, compareOp op a b = richCompare op a b := by intro _ _; rfl) : OpR X (compareOp op) (rOwn C sp E) := by
  intro pins s σ H x y v u Q I rx ry h
  obtain ⟨a, b, dx, fs, dy, gs, rfl, rfl, ea, eb, q⟩ := h
  obtain rfl : v = Value.ref a := rx
  obtain rfl : u = Value.ref b := ry
  obtain ⟨m, fr⟩ := I.fr
  obtain ⟨mA, O, _⟩ := ins_get I.hok ea
  obtain ⟨od, J, _⟩ := O.look
  obtain ⟨mB, O2, _⟩ := ins_get I.hok eb
  obtain ⟨od2, J2, _⟩ := O2.look
  rw [hop]
  refine PySem.W.cmp_K (tb := .ref C) hr.units0 fr I.ok.mod.kin J J2.type (by simp [PySem.W.notFirst]) c.at_ c.fn ?_
  refine wpAny_mono (run_fn (us := [.ref a, .ref b]) (vs := [.ref a, .ref b]) (ds := []) (dvs := []) F hr hb .nil hx I (.cons rfl (.cons rfl .nil)) q) (fun u' s' h' => cmpBack_of h') fun _ _ z => z
end
/-! ### a += y, by an own def -/
section
variable {X : Cx} {CX : CXT} {k : Nat} {C f : Addr} {fd : FuncData} {ps : List Str} {sp : Sp} {E : L2.St → XK} {op : Operator} {x : Str} {i : Nat} {e : Expr} {te : TE} {pos pos' : Pos}
def tAugO (i : Nat) (C : Addr) (sp : Sp) (E : L2.St → XK) (te : TE) : TS := fun D σ H => ∃ a, σ[i]? = some (some (V.ref a)) ∧ te σ H fun y H1 => ∃ dx fs, H1 a = some (.ins C dx fs) ∧ sp [.ref a, y] H1 (fun v H2 => D.nx (σ.set i (some v)) H2) (E σ)
theorem ps_augO (hN : X.N.Nodup) (hi : X.N[i]? = some x) (hx0 : Loc X.env.scope x) (c : InpC X.K C f op) (F : FnOk X.prog X.w X.K X.mg X.base CX k f fd ps sp) (hr : Room k X.A) (hb : Binds X.K fd ps []) (hx : ∀ σ, PassesAt CX X σ (E σ)) (he : PE X e te)
    (hf : X.fn x = true ∨ X.env.scope.names.lookup x = some .local := by first | exact .inl rfl | exact .inr rfl | assumption) : PS X (.AugAssign (.Name x pos') op e pos) (tAugO i C sp E te) := by
  refine ⟨fun pins s σ H D I h => ?_⟩
  obtain ⟨a, e1, h⟩ := h
  obtain ⟨m, hn, hl⟩ := I.loc
  have vis : Vis X.env.scope x := hx0.elim (fun k => .inl k) fun k => .inr (.inl k)
  obtain ⟨u, r, l⟩ := hl i x _ hi e1 vis
  obtain rfl : u = Value.ref a := r
  refine wpAny_AugAssign_Name ?_
  have go : wpAny (model X.prog X.w) X.A (eval e X.env) (fun w s₂ => wpAny (model X.prog X.w) X.A (inplaceOp op (.ref a) w) (fun r s₃ => wpAny (model X.prog X.w) X.A (storeName X.env x r) (fun _ => SP X pins D .next) X.xe s₃) X.xe s₂) X.xe s := by
    refine thn (he.run pins s σ H _ I h) fun w s1 ⟨y, H1, I1, r1, dx, fs, ea, q⟩ => ?_
    obtain ⟨m1, fr⟩ := I1.fr
    obtain ⟨mA, O, _⟩ := ins_get I1.hok ea
    obtain ⟨od, J, _⟩ := O.look
    have run := PySem.W.ksp_inplace (b := w) fr I1.ok.mod.kin J c.sf c.at_ c.fn (wpAny_mono (run_fnS (us := [.ref a, w]) (vs := [.ref a, y]) F hr hb (hx σ) I1 (.cons rfl (.cons r1 .nil)) q) (fun u' s' h' => cmpBack_of h') fun _ _ z => z)
    exact thn run fun z s2 ⟨zv, H2, I2, r2, q2⟩ => store_ok I2 hN hi hx0 r2 (fun s3 I3 => ⟨_, H2, I3, q2⟩) hf
  rcases l with ⟨hk, hm⟩ | ⟨hk, c, hc, hcell⟩
  · exact wpAny_loadName_local I.ok.kind hk hn hm go
  · have no : ∀ q : NameKind, X.env.scope.names.lookup x = some .free → X.env.scope.names.lookup x = some q → q = .free := fun q h1 h2 => (Option.some.inj (h1.symm.trans h2)).symm
    rcases hk with hk | hk
    · exact wpAny_loadName_cell I.ok.kind hk hc hcell go
    · rcases hx0 with k | k
      · exact nomatch no _ hk k
      · exact nomatch no _ hk k
end
/-! ### a tuple times an int -/
theorem mulT_self (p : Addr) (xs : Array Value) (m : Nat) (dd : Option Addr) (sl : Array (Option Value)) (i : Int) (u : PySem.Tok) (b0 : (decide (i < -(2 ^ 63)) || decide (i ≥ 2 ^ 63)) = false) (b1 : (xs.isEmpty || i == 1) = true) :
    Meets (Builtin.«tuple.__mul__» ⟨[.ref p, .int i u], []⟩) (fun _ R s => s.heap.get? p = some { cls := .type "tuple", dict := dd, data := .seq xs m, slots := sl } ∧ R (.ok (.ret (Value.ref p))) s) :=
  .of_wp fun prog w A R s h => by
    obtain ⟨hp, g, d, tk, os⟩ := s
    obtain ⟨hq, h⟩ := h
    have f1 := AutoSeq1.idx_int
    wp_walk using wpAny_loadPart' hq
    repeat (first
      | (refine wpAny_ite_false (decide_eq_false (by rw [b0]; exact Bool.false_ne_true)) ?_; wp_walk using wpAny_loadPart' hq)
      | (refine wpAny_ite_true (by rw [b1]) ?_; wp_walk using wpAny_loadPart' hq))
    exact ⟨_, rfl, h⟩
theorem mulT_none (p : Addr) (xs : Array Value) (m : Nat) (dd : Option Addr) (sl : Array (Option Value)) (i : Int) (u : PySem.Tok) (b0 : (decide (i < -(2 ^ 63)) || decide (i ≥ 2 ^ 63)) = false) (b1 : (xs.isEmpty || i == 1) = false) (b2 : (decide (i ≤ 0) || xs.isEmpty) = true) :
    Meets (Builtin.«tuple.__mul__» ⟨[.ref p, .int i u], []⟩) (fun _ R s => s.heap.get? p = some { cls := .type "tuple", dict := dd, data := .seq xs m, slots := sl } ∧
      R (.ok (.ret (Value.ref s.heap.objs.size))) { s with heap := s.heap.push { cls := Value.type "tuple", data := Data.seq #[] }, toks := s.toks }) :=
  .of_wp fun prog w A R s h => by
    obtain ⟨hp, g, d, tk, os⟩ := s
    obtain ⟨hq, h⟩ := h
    have f1 := AutoSeq1.idx_int
    wp_walk using wpAny_loadPart' hq
    repeat (first
      | (refine wpAny_ite_false (decide_eq_false (by rw [b0]; exact Bool.false_ne_true)) ?_; wp_walk using wpAny_loadPart' hq)
      | (refine wpAny_ite_false (decide_eq_false (by rw [b1]; exact Bool.false_ne_true)) ?_; wp_walk using wpAny_loadPart' hq)
      | (refine wpAny_ite_true (by rw [b2]) ?_; wp_walk using wpAny_loadPart' hq))
    exact ⟨_, rfl, h⟩
/-- the cases: the same tuple, a new one -/
def rMulT (K : PySem.W.Frag) : R2 := fun x y H Q => ∃ (l : Addr) (k : Int) (xs : List V), x = .ref l ∧ y = .int k ∧ SqT K H l xs ∧ 0 ≤ k ∧ k ≤ 1000 ∧ xs.length ≤ 1000 ∧ (xs = [] ∨ k = 1 → Q (.ref l) H) ∧ ∀ p, H p = none → Q (.ref p) (upd H p (.tup (List.replicate k.toNat xs).flatten))
theorem op_mulT {X : Cx} (K : PySem.W.Frag) (hK : X.K = K := by rfl) : OpR X (binaryOp .Mult) (rMulT K) := by
  subst hK
  intro pins s σ H x y v u Q I rx ry h
  obtain ⟨l, k, xs, rfl, rfl, hT, k0, k1, few, q1, q2⟩ := h
  by_cases two : xs ≠ [] ∧ 2 ≤ k
  · exact op_repT pins s σ H _ _ v u Q I rx ry ⟨l, k, xs, rfl, rfl, hT, two.1, two.2, k1, few, q2⟩
  obtain rfl : v = Value.ref l := rx
  obtain ⟨t, rfl⟩ := ry
  obtain ⟨us, r, ⟨⟨cl, dd, da, sl⟩, ho, e1, n, e2⟩, hz⟩ := I.tuple hT
  simp only at e1 e2
  subst e1 e2
  have eL : us.length = xs.length := r.length.symm
  have b0 : (decide (k < -(2 ^ 63)) || decide (k ≥ 2 ^ 63)) = false := by
    rw [Bool.or_eq_false_iff, decide_eq_false_iff_not, decide_eq_false_iff_not]
    omega
  refine wpAny_binaryOp_repeat_ref (T := "tuple") (U := "int") (by decide) ⟨_, ho, rfl⟩ (fun z => typeIs_int z k t) noFill_tuple_mul F.fills_int_mul F.slot_int_rmul repeat_tuple F.slot_int_index.lookup ?_
  refine call_meets F.slot_int_rmul (typeIs_int s k t) F.entry_int_rmul (F.args_int_rmul_2 _ _) (int_rmul_tuple k t l us.toArray n dd sl) ⟨ho, ?_⟩
  refine ⟨rfl, ⟨_, ho, rfl⟩, ?_⟩
  by_cases one : (us.toArray.isEmpty || k == 1) = true
  · refine call_meets F.slot_tuple_mul ⟨_, ho, rfl⟩ F.entry_tuple_mul (F.args_tuple_mul_2 _ _) (mulT_self l us.toArray n dd sl k t b0 one) ⟨ho, ?_⟩
    refine ⟨.ref l, H, I, rfl, q1 ?_⟩
    rcases Bool.or_eq_true_iff.mp one with e | e
    · left
      have : us = [] := by
        cases us with
        | nil => rfl
        | cons a b => cases e
      rw [this] at eL
      exact List.eq_nil_of_length_eq_zero eL.symm
    · exact .inr (eq_of_beq e)
  · have one := Bool.eq_false_iff.mpr one
    have kz : k ≤ 0 := by
      rw [Bool.or_eq_false_iff] at one
      have n1 : k ≠ 1 := fun e => by rw [e] at one; exact absurd one.2 (by decide)
      have n2 : xs ≠ [] := fun e => by
        rw [e] at eL
        have : us = [] := List.eq_nil_of_length_eq_zero eL
        rw [this] at one
        exact absurd one.1 (by decide)
      have : ¬ 2 ≤ k := fun c => two ⟨n2, c⟩
      omega
    obtain rfl : k = 0 := by omega
    refine call_meets F.slot_tuple_mul ⟨_, ho, rfl⟩ F.entry_tuple_mul (F.args_tuple_mul_2 _ _) (mulT_none l us.toArray n dd sl 0 t b0 one rfl) ⟨ho, ?_⟩
    refine ⟨.ref s.heap.objs.size, _, I.laid (t' := s.toks) (o := .tup []) (fun b ob q => Heap.get?_push_of_some _ q) (Nat.le_refl _) ?_, rfl, q2 _ (I.hok.fresh (Nat.le_refl _))⟩
    exact ⟨Nat.zero_le _, [], .nil, IsTup.new _ _⟩
end El

set_option Elab.async false
set_option linter.all false
set_option maxRecDepth 100000
set_option maxHeartbeats 4000000
/-! Own words: the head of a large law. The top is run by the kernel and looked at with a view that holds the law alone, all other names being loose: what the walk leans on is told by the objects of K, off the tree. Two runs (looks, objects); once for each answer of one row of the world. -/
namespace El
open PySem PySem.W PySem.Calls PyProof.Rows HeadRun
noncomputable abbrev topQ (p : Program) (M : Nat) (w : World) (os : OsState) : Option SharedT := endF (stepQ (denQ tabQ) p w) M p w os
abbrev topX (q : Program) (r : OpenRow) (s : Shared) : Bool := xlAt q [] s && recOk r.toRowW.records s
/-- the looks behind the top, at a world -/
def TopLooks (r : OpenRow) (q : Program) (loose : List PySem.Str) (M : Nat) (w : World) : Prop :=
  ∀ os : OsState, (topQ r.prog M w os).map (fun s => (looksF r.prog (boot_heap w.params) s.abs, seenQ q loose (importedModules r.prog.main.body) (topX q r) s.abs)) = some (true, openGood q loose)
/-- the objects behind the top, at a world -/
def TopObjs (r : OpenRow) (K : Params → Frag) (as : List Addr) (M : Nat) (w : World) : Prop :=
  ∀ os : OsState, (topQ r.prog M w os).map (fun s => as.map (getT s)) = some ((K w.params).map fun x => some x.2)
theorem top_flat {α β γ δ : Type} {o : Option α} {f : α → β} {g : α → γ} {h : α → δ} {b : β} {c : γ} {d : δ} (h1 : o.map (fun s => (f s, g s)) = some (b, c)) (h2 : o.map h = some d) : o.map (fun s => (f s, g s, h s)) = some (b, c, d) := by
  cases o with
  | none => cases h1
  | some a => cases h1; cases h2; rfl
theorem head_tiny {r : OpenRow} {q : Program} {loose : List PySem.Str} {K : Params → Frag} {as : List Addr} {ek : ∀ P, as = (K P).map (·.1)} {d : DefRec} {kwd : List (PySem.Str × PySem.Expr)} (M : Nat)
    (A : ∀ w, TopLooks r q loose M w) (C : ∀ w, TopObjs r K as M w) (e : opening r.prog = plainProg r.prog.main.scope.names) (f : ∀ s, fenceModules? r.prog s = some s)
    (hdef : defOf q r.name = some (d, kwd)) (hp : r.prog.theDef r.name = some (d.params, d.body, d.scope)) (hk : kwWritten? d.params.kwonlyargs d.params.kw_defaults = some kwd)
    (hwr : (!r.writes || r.records.isEmpty) = true) (k1 : r.wellSaid = true) (ok : (chainsOk q && opensWell r.prog && (frees r.toRowW && r.within.isEmpty)) = true) (hb : r.prog.bare) (hw : r.toRowW.promised)
    (call : WalkO q loose (XL q []) (Hook.says (kHook K as ek)) r.toRowW d kwd fun f vs => PySem.call f vs) : r.Holds := by
  have left : LeftO r.prog q loose (topX q r) (Hook.obs (kHook K as ek)) (Hook.val (kHook K as ek)) (M + 600) true :=
    left_oneK (M := M) e (Nat.ble_eq_true_of_le (by omega)) f (Nat.ble_eq_true_of_le (by omega)) fun w os => top_flat (A w os) (C w os)
  exact holds_open (r := r) (q := q) (loose := loose) (XP := XL q []) (YP := Hook.says (kHook K as ek)) (d := d) (kwd := kwd) left (Hook.of _) (Hook.keeps _) (fun s z => xl_of s (Bool.and_eq_true_iff.mp z).1) XL.keeps hdef hp hk (fun s z => recFacts_of (Bool.and_eq_true_iff.mp z).2) hwr k1 ok hb hw call
end El
namespace El
open PySem PySem.W
/-- the places of a fragment, told by a walk that needs no depth -/
noncomputable def placesAre : List Nat → Frag → Bool := List.rec (motive := fun _ => Frag → Bool) (fun l => List.rec (motive := fun _ => Bool) true (fun _ _ _ => false) l)
  (fun a _ ih l => List.rec (motive := fun _ => Bool) false (fun p r _ => Bool.rec (motive := fun _ => Bool) false (ih r) (Nat.beq a p.1)) l)
theorem places_ok : ∀ (as : List Nat) (K : Frag), placesAre as K = true → as = K.map (·.1)
  | [], [], _ => rfl
  | [], _ :: _, h => nomatch (show false = true from h)
  | _ :: _, [], h => nomatch (show false = true from h)
  | a :: as, p :: K, h => by
    have h1 : Bool.rec (motive := fun _ => Bool) false (placesAre as K) (Nat.beq a p.1) = true := h
    cases e : Nat.beq a p.1 with
    | false =>
      rw [e] at h1
      cases h1
    | true =>
      rw [e] at h1
      rw [List.map_cons, ← places_ok as K h1, Nat.eq_of_beq_eq_true e]
end El

set_option Elab.async false
set_option linter.all false
set_option maxRecDepth 100000
set_option maxHeartbeats 4000000
namespace K44
open PySem PySem.Spec PyProof.Rows L2 El NdefX
def topS (i : Nat) : Stmt := PySem.Challenge.pw_elseput_k44_weavings_as_values.main.body.getD i (.Pass ⟨0, 0, 0, 0⟩)
abbrev s_split_line : Stmt := topS 11
theorem sc_split_line : FnScope ["line", "number", "found", "at", "end"] ["line", "number"] (defScope s_split_line) := ⟨rfl, rfl, rfl, by decide +kernel, rfl, by decide +kernel, by decide +kernel⟩

abbrev s_token_end : Stmt := topS 12
theorem sc_token_end : FnScope ["line", "at", "piece", "end"] ["line", "at"] (defScope s_token_end) := ⟨rfl, rfl, rfl, by decide +kernel, rfl, by decide +kernel, by decide +kernel⟩

abbrev s_run_end : Stmt := topS 13
theorem sc_run_end : FnScope ["line", "at", "characters", "end"] ["line", "at", "characters"] (defScope s_run_end) := ⟨rfl, rfl, rfl, by decide +kernel, rfl, by decide +kernel, by decide +kernel⟩

abbrev s_in_bound : Stmt := topS 17
theorem sc_in_bound : FnScope ["value"] ["value"] (defScope s_in_bound) := ⟨rfl, rfl, rfl, by decide +kernel, rfl, by decide +kernel, by decide +kernel⟩

abbrev s_check_times : Stmt := topS 18
theorem sc_check_times : FnScope ["times"] ["times"] (defScope s_check_times) := ⟨rfl, rfl, rfl, by decide +kernel, rfl, by decide +kernel, by decide +kernel⟩

abbrev s_is_integer : Stmt := topS 21
theorem sc_is_integer : FnScope ["token"] ["token"] (defScope s_is_integer) := ⟨rfl, rfl, rfl, by decide +kernel, rfl, by decide +kernel, by decide +kernel⟩

abbrev s__law_state : Stmt := topS 26
theorem sc__law_state : FnScope ["_law_script"] ["_law_script"] (defScope s__law_state) := ⟨rfl, rfl, rfl, by decide +kernel, rfl, by decide +kernel, by decide +kernel⟩

abbrev s__law_draw : Stmt := topS 27
theorem sc__law_draw : FnScope ["_law_state_here", "_law_many", "_law_first", "_law_second", "_law_third", "_law_digit"] ["_law_state_here", "_law_many"] (defScope s__law_draw) := ⟨rfl, rfl, rfl, by decide +kernel, rfl, by decide +kernel, by decide +kernel⟩

abbrev s__law_pick : Stmt := topS 28
theorem sc__law_pick : FnScope ["_law_state_here", "_law_row"] ["_law_state_here", "_law_row"] (defScope s__law_pick) := ⟨rfl, rfl, rfl, by decide +kernel, rfl, by decide +kernel, by decide +kernel⟩

abbrev s__law_number : Stmt := topS 29
theorem sc__law_number : FnScope ["_law_state_here", "_law_kind"] ["_law_state_here"] (defScope s__law_number) := ⟨rfl, rfl, rfl, by decide +kernel, rfl, by decide +kernel, by decide +kernel⟩

abbrev s__law_is_int : Stmt := topS 30
theorem sc__law_is_int : FnScope ["_law_thing"] ["_law_thing"] (defScope s__law_is_int) := ⟨rfl, rfl, rfl, by decide +kernel, rfl, by decide +kernel, by decide +kernel⟩

abbrev s__law_same : Stmt := topS 31
theorem sc__law_same : FnScope ["_law_actual", "_law_due", "_law_k", "_law_key"] ["_law_actual", "_law_due"] (defScope s__law_same) := ⟨rfl, rfl, rfl, by decide +kernel, rfl, by decide +kernel, by decide +kernel⟩

abbrev s__law_numbers : Stmt := topS 32
theorem sc__law_numbers : FnScope ["_law_state_here", "_law_most", "_law_result", "_law_k"] ["_law_state_here", "_law_most"] (defScope s__law_numbers) := ⟨rfl, rfl, rfl, by decide +kernel, rfl, by decide +kernel, by decide +kernel⟩

abbrev s__law_near : Stmt := topS 33
theorem sc__law_near : FnScope ["_law_state_here", "_law_turns", "_law_kind", "_law_at"] ["_law_state_here", "_law_turns"] (defScope s__law_near) := ⟨rfl, rfl, rfl, by decide +kernel, rfl, by decide +kernel, by decide +kernel⟩

abbrev s__law_less : Stmt := topS 34
theorem sc__law_less : FnScope ["_law_first", "_law_second", "_law_k"] ["_law_first", "_law_second"] (defScope s__law_less) := ⟨rfl, rfl, rfl, by decide +kernel, rfl, by decide +kernel, by decide +kernel⟩

abbrev s__law_try : Stmt := topS 35
theorem sc__law_try : FnScope ["_law_deed", "_law_weaving", "_law_thing", "e", "_law_result", "_law_place"] ["_law_deed", "_law_weaving", "_law_thing"] (defScope s__law_try) := ⟨rfl, rfl, rfl, by decide +kernel, rfl, by decide +kernel, by decide +kernel⟩

abbrev s__law_shows : Stmt := topS 36
theorem sc__law_shows : FnScope ["_law_weaving", "_law_turns", "_law_one"] ["_law_weaving", "_law_turns"] (defScope s__law_shows) := ⟨rfl, rfl, rfl, by decide +kernel, rfl, by decide +kernel, by decide +kernel⟩

abbrev s__law_all_right : Stmt := topS 37
theorem sc__law_all_right : FnScope ["_law_weavings", "_law_rows", "_law_k", "_law_j", "_law_same_here", "_law_less_here"] ["_law_weavings", "_law_rows"] (defScope s__law_all_right) := ⟨rfl, rfl, rfl, by decide +kernel, rfl, by decide +kernel, by decide +kernel⟩

abbrev s__law_times_right : Stmt := topS 38
theorem sc__law_times_right : FnScope ["_law_state_here", "_law_weaving", "_law_turns", "_law_times", "_law_deed", "_law_told"] ["_law_state_here", "_law_weaving", "_law_turns"] (defScope s__law_times_right) := ⟨rfl, rfl, rfl, by decide +kernel, rfl, by decide +kernel, by decide +kernel⟩

abbrev s__law_line_right : Stmt := topS 39
theorem sc__law_line_right : FnScope ["_law_state_here", "_law_turns", "_law_strange", "_law_parts", "_law_good", "_law_k", "_law_line", "_law_columns", "_law_bad", "_law_told", "_law_at", "_law_pool", "_law_one"] ["_law_state_here", "_law_turns"] (defScope s__law_line_right) := ⟨rfl, rfl, rfl, by decide +kernel, rfl, by decide +kernel, by decide +kernel⟩

abbrev s_law : Stmt := topS 40
theorem sc_law : FnScope ["_law_script", "_law_state_here", "_law_first", "_law_rows", "_law_handed", "_law_weavings", "_law_writer", "_law_joined", "_law_alias", "_law_two", "_law_row", "_law_spot", "_law_below", "_law_lowest", "_law_one", "_law_three", "_law_turn"] ["_law_script"] (defScope s_law) := ⟨rfl, rfl, rfl, by decide +kernel, rfl, by decide +kernel, by decide +kernel⟩

abbrev s_Reader___init__ : Stmt := mthS (topS 22) 0
theorem sc_Reader___init__ : FnScope ["self", "line", "number"] ["self", "line", "number"] (defScope s_Reader___init__) := ⟨rfl, rfl, rfl, by decide +kernel, rfl, by decide +kernel, by decide +kernel⟩

abbrev s_Reader_at_end : Stmt := mthS (topS 22) 1
theorem sc_Reader_at_end : FnScope ["self"] ["self"] (defScope s_Reader_at_end) := ⟨rfl, rfl, rfl, by decide +kernel, rfl, by decide +kernel, by decide +kernel⟩

abbrev s_Reader_ahead : Stmt := mthS (topS 22) 2
theorem sc_Reader_ahead : FnScope ["self"] ["self"] (defScope s_Reader_ahead) := ⟨rfl, rfl, rfl, by decide +kernel, rfl, by decide +kernel, by decide +kernel⟩

abbrev s_Reader_take_natural : Stmt := mthS (topS 22) 6
theorem sc_Reader_take_natural : FnScope ["self", "token"] ["self"] (defScope s_Reader_take_natural) := ⟨rfl, rfl, rfl, by decide +kernel, rfl, by decide +kernel, by decide +kernel⟩

abbrev s_Reader__take_if : Stmt := mthS (topS 22) 9
theorem sc_Reader__take_if : FnScope ["self", "fits", "token"] ["self", "fits"] (defScope s_Reader__take_if) := ⟨rfl, rfl, rfl, by decide +kernel, rfl, by decide +kernel, by decide +kernel⟩

abbrev s_Reader__refuse : Stmt := mthS (topS 22) 10
theorem sc_Reader__refuse : FnScope ["self", "column"] ["self"] (defScope s_Reader__refuse) := ⟨rfl, rfl, rfl, by decide +kernel, rfl, by decide +kernel, by decide +kernel⟩

abbrev s_Weaving___init__ : Stmt := mthS (topS 24) 0
theorem sc_Weaving___init__ : FnScope ["self", "turns", "writer"] ["self", "turns"] (defScope s_Weaving___init__) := ⟨rfl, rfl, rfl, by decide +kernel, rfl, by decide +kernel, by decide +kernel⟩

abbrev s_Weaving_read : Stmt := mthS (topS 24) 1
theorem sc_Weaving_read : FnScope ["line", "reader", "turns"] ["line"] (defScope s_Weaving_read) := ⟨rfl, rfl, rfl, by decide +kernel, rfl, by decide +kernel, by decide +kernel⟩

abbrev s_Weaving_text : Stmt := mthS (topS 24) 2
theorem sc_Weaving_text : FnScope ["self", "writer"] ["self"] (defScope s_Weaving_text) := ⟨rfl, rfl, rfl, by decide +kernel, rfl, by decide +kernel, by decide +kernel⟩

abbrev s_Weaving_without : Stmt := mthS (topS 24) 3
theorem sc_Weaving_without : FnScope ["self", "writer", "other"] ["self", "writer"] (defScope s_Weaving_without) := ⟨rfl, rfl, rfl, by decide +kernel, rfl, by decide +kernel, by decide +kernel⟩

abbrev s_Weaving___len__ : Stmt := mthS (topS 24) 4
theorem sc_Weaving___len__ : FnScope ["self"] ["self"] (defScope s_Weaving___len__) := ⟨rfl, rfl, rfl, by decide +kernel, rfl, by decide +kernel, by decide +kernel⟩

abbrev s_Weaving___iter__ : Stmt := mthS (topS 24) 5
theorem sc_Weaving___iter__ : FnScope ["self"] ["self"] (defScope s_Weaving___iter__) := ⟨rfl, rfl, rfl, by decide +kernel, rfl, by decide +kernel, by decide +kernel⟩

abbrev s_Weaving___add__ : Stmt := mthS (topS 24) 6
theorem sc_Weaving___add__ : FnScope ["self", "other"] ["self", "other"] (defScope s_Weaving___add__) := ⟨rfl, rfl, rfl, by decide +kernel, rfl, by decide +kernel, by decide +kernel⟩

abbrev s_Weaving___iadd__ : Stmt := mthS (topS 24) 7
theorem sc_Weaving___iadd__ : FnScope ["self", "other"] ["self", "other"] (defScope s_Weaving___iadd__) := ⟨rfl, rfl, rfl, by decide +kernel, rfl, by decide +kernel, by decide +kernel⟩

abbrev s_Weaving___mul__ : Stmt := mthS (topS 24) 8
theorem sc_Weaving___mul__ : FnScope ["self", "times"] ["self", "times"] (defScope s_Weaving___mul__) := ⟨rfl, rfl, rfl, by decide +kernel, rfl, by decide +kernel, by decide +kernel⟩

abbrev s_Weaving___rmul__ : Stmt := mthS (topS 24) 9
theorem sc_Weaving___rmul__ : FnScope ["self", "times"] ["self", "times"] (defScope s_Weaving___rmul__) := ⟨rfl, rfl, rfl, by decide +kernel, rfl, by decide +kernel, by decide +kernel⟩

abbrev s_Weaving___eq__ : Stmt := mthS (topS 24) 10
theorem sc_Weaving___eq__ : FnScope ["self", "other"] ["self", "other"] (defScope s_Weaving___eq__) := ⟨rfl, rfl, rfl, by decide +kernel, rfl, by decide +kernel, by decide +kernel⟩

abbrev s_Weaving___lt__ : Stmt := mthS (topS 24) 11
theorem sc_Weaving___lt__ : FnScope ["self", "other"] ["self", "other"] (defScope s_Weaving___lt__) := ⟨rfl, rfl, rfl, by decide +kernel, rfl, by decide +kernel, by decide +kernel⟩

abbrev s_Weaving___le__ : Stmt := mthS (topS 24) 12
theorem sc_Weaving___le__ : FnScope ["self", "other"] ["self", "other"] (defScope s_Weaving___le__) := ⟨rfl, rfl, rfl, by decide +kernel, rfl, by decide +kernel, by decide +kernel⟩

abbrev s_BadNumber : Stmt := mthS (topS 3) 0
theorem sc_BadNumber : NdefX.NScope ["self", "value", "__class__"] ["self", "value"] ["__class__"] (defScope s_BadNumber) := NdefX.nscope_by (by decide +kernel)
abbrev s_BadText : Stmt := mthS (topS 4) 0
theorem sc_BadText : NdefX.NScope ["self", "line", "column", "__class__"] ["self", "line", "column"] ["__class__"] (defScope s_BadText) := NdefX.nscope_by (by decide +kernel)
abbrev s_BadTurn : Stmt := mthS (topS 5) 0
theorem sc_BadTurn : NdefX.NScope ["self", "writer", "__class__"] ["self", "writer"] ["__class__"] (defScope s_BadTurn) := NdefX.nscope_by (by decide +kernel)
section
variable {P : Program} {w : World} {K : PySem.W.Frag} {mg : Str → Option Value} {base : Heap}
variable {t_BOUND t_DIGITS t_LETTERS t_LONGEST_INTEGER t_MOST_TIMES : Tok} {a_MARKS a_SIGNS a_BadNumber a_BadText a_BadTurn a_ElseputError a_Reader a_Weaving : Addr}
structure Gs (K : PySem.W.Frag) (mg : Str → Option Value) (t_BOUND t_DIGITS t_LETTERS t_LONGEST_INTEGER t_MOST_TIMES : Tok) (a_MARKS a_SIGNS a_BadNumber a_BadText a_BadTurn a_ElseputError a_Reader a_Weaving : Addr) : Prop where
  z_NotImplemented : mg "NotImplemented" = none
  z_abs : mg "abs" = none
  z_bool : mg "bool" = none
  z_dict : mg "dict" = none
  z_int : mg "int" = none
  z_isinstance : mg "isinstance" = none
  z_iter : mg "iter" = none
  z_len : mg "len" = none
  z_list : mg "list" = none
  z_range : mg "range" = none
  z_staticmethod : mg "staticmethod" = none
  z_str : mg "str" = none
  z_super : mg "super" = none
  z_tuple : mg "tuple" = none
  g_BOUND : mg "BOUND" = some (.int 1000000000000000000000000000000 t_BOUND)
  g_DIGITS : mg "DIGITS" = some (.str "0123456789" t_DIGITS)
  g_LETTERS : mg "LETTERS" = some (.str "abcdefghijklmnopqrstuvwxyz" t_LETTERS)
  g_LONGEST_INTEGER : mg "LONGEST_INTEGER" = some (.int 32 t_LONGEST_INTEGER)
  g_MOST_TIMES : mg "MOST_TIMES" = some (.int 1000 t_MOST_TIMES)
  g_MARKS : mg "MARKS" = some (.ref a_MARKS)
  q_MARKS : ∀ H, SqT K H a_MARKS [(.str "("), (.str ")"), (.str ","), (.str ";"), (.str ":")]
  g_SIGNS : mg "SIGNS" = some (.ref a_SIGNS)
  q_SIGNS : ∀ H, SqT K H a_SIGNS [(.str "<"), (.str "<="), (.str "=="), (.str "!="), (.str ">="), (.str ">")]
  g_BadNumber : mg "BadNumber" = some (.ref a_BadNumber)
  n_BadNumber : PySem.W.nsIn K mainGlobals "BadNumber" = some (some (.ref a_BadNumber))
  x_BadNumber : ExV K a_BadNumber ["value"]
  g_BadText : mg "BadText" = some (.ref a_BadText)
  n_BadText : PySem.W.nsIn K mainGlobals "BadText" = some (some (.ref a_BadText))
  x_BadText : ExV K a_BadText ["line", "column"]
  g_BadTurn : mg "BadTurn" = some (.ref a_BadTurn)
  n_BadTurn : PySem.W.nsIn K mainGlobals "BadTurn" = some (some (.ref a_BadTurn))
  x_BadTurn : ExV K a_BadTurn ["writer"]
  g_ElseputError : mg "ElseputError" = some (.ref a_ElseputError)
  n_ElseputError : PySem.W.nsIn K mainGlobals "ElseputError" = some (some (.ref a_ElseputError))
  g_Reader : mg "Reader" = some (.ref a_Reader)
  n_Reader : PySem.W.nsIn K mainGlobals "Reader" = some (some (.ref a_Reader))
  g_Weaving : mg "Weaving" = some (.ref a_Weaving)
  n_Weaving : PySem.W.nsIn K mainGlobals "Weaving" = some (some (.ref a_Weaving))
  cl_Reader : Cls K a_Reader
  na_Reader__at : NoAttr K a_Reader "_at"
  na_Reader__end : NoAttr K a_Reader "_end"
  na_Reader__number : NoAttr K a_Reader "_number"
  na_Reader__parts : NoAttr K a_Reader "_parts"
  rd_Reader : ClX.CRead K a_Reader (.type "type")
  cl_Weaving : Cls K a_Weaving
  na_Weaving__many : NoAttr K a_Weaving "_many"
  na_Weaving_turns : NoAttr K a_Weaving "turns"
  rd_Weaving : ClX.CRead K a_Weaving (.type "type")
  is_Weaving : IsC K a_Weaving
  m_BadNumber_ElseputError : PySem.W.exmOne K (.ref a_BadNumber) (.ref a_ElseputError) = some true
  m_BadText_ElseputError : PySem.W.exmOne K (.ref a_BadText) (.ref a_ElseputError) = some true
  m_BadTurn_ElseputError : PySem.W.exmOne K (.ref a_BadTurn) (.ref a_ElseputError) = some true
  k_BadNumber_BadTurn : PySem.W.kitOne K (.ref a_BadNumber) (.ref a_BadTurn) = some false
  k_BadNumber_BadNumber : PySem.W.kitOne K (.ref a_BadNumber) (.ref a_BadNumber) = some true
  k_BadNumber_BadText : PySem.W.kitOne K (.ref a_BadNumber) (.ref a_BadText) = some false
  k_BadText_BadTurn : PySem.W.kitOne K (.ref a_BadText) (.ref a_BadTurn) = some false
  k_BadText_BadNumber : PySem.W.kitOne K (.ref a_BadText) (.ref a_BadNumber) = some false
  k_BadText_BadText : PySem.W.kitOne K (.ref a_BadText) (.ref a_BadText) = some true
  k_BadTurn_BadTurn : PySem.W.kitOne K (.ref a_BadTurn) (.ref a_BadTurn) = some true
  k_BadTurn_BadNumber : PySem.W.kitOne K (.ref a_BadTurn) (.ref a_BadNumber) = some false
  k_BadTurn_BadText : PySem.W.kitOne K (.ref a_BadTurn) (.ref a_BadText) = some false
/-! ### the script's state -/
def stv (scr : Addr) (i v m c : Int) : List V := [.ref scr, .int i, .int v, .int m, .int c]
def DrAt (H : Hp) (st scr : Addr) : Prop := ∃ (ns : List Int) (i v m c : Int), H st = some (.lst (stv scr i v m c)) ∧ H scr = some (.lst (ns.map V.int)) ∧ ns.length ≤ 63 ∧ 0 ≤ i
theorem DrAt.ne {H : Hp} {st scr : Addr} {ns : List Int} {i v m c : Int} (h : H st = some (.lst (stv scr i v m c))) (h2 : H scr = some (.lst (ns.map V.int))) : scr ≠ st := by
  refine ne_of h2 h fun e => ?_
  injection e with e
  cases ns with
  | nil => simp [stv] at e
  | cons a r => simp [stv] at e
theorem DrAt.upd {H : Hp} {st scr : Addr} {ns : List Int} {i v m c i' v' m' c' : Int} (h : H st = some (.lst (stv scr i v m c))) (h2 : H scr = some (.lst (ns.map V.int))) (hl : ns.length ≤ 63) (h0 : 0 ≤ i') : DrAt (upd H st (.lst (stv scr i' v' m' c'))) st scr :=
  ⟨ns, i', v', m', c', upd_same, by rw [upd_ne (DrAt.ne h h2)]; exact h2, hl, h0⟩
theorem upd_id {H : Hp} {a : Addr} {o : HO} (h : H a = some o) : upd H a o = H := by
  funext b
  unfold L2.upd
  split
  · rename_i e; rw [e, h]
  · rfl
theorem DrAt.lst {H : Hp} {st scr : Addr} (h : DrAt H st scr) : ∃ l, H st = some (.lst l) := by
  obtain ⟨ns, i, v, m, c, h, _⟩ := h
  exact ⟨_, h⟩
theorem DrAt.new {H H' : Hp} {st scr : Addr} (h : DrAt H st scr) (s : Same H H') : DrAt H' st scr := by
  obtain ⟨ns, i, v, m, c, h1, h2, h3⟩ := h
  exact ⟨ns, i, v, m, c, s _ _ h1, s _ _ h2, h3⟩
theorem DrAt.at {H : Hp} {st scr p : Addr} {o : HO} (h : DrAt H st scr) (h1 : p ≠ st) (h2 : p ≠ scr) : DrAt (L2.upd H p o) st scr := by
  obtain ⟨ns, i, v, m, c, e1, e2, h3⟩ := h
  exact ⟨ns, i, v, m, c, by rw [upd_ne h1.symm]; exact e1, by rw [upd_ne h2.symm]; exact e2, h3⟩
theorem same_new {H : Hp} {p : Addr} {o : HO} (h : H p = none) : Same H (upd H p o) := fun b u q => by rw [upd_ne (ne_of_none q h)]; exact q
theorem free_new {H : Hp} {p q : Addr} {o : HO} (h : upd H p o q = none) : H q = none := by
  unfold L2.upd at h
  split at h
  · cases h
  · exact h
theorem new_ne {H : Hp} {p q : Addr} {o : HO} (h : upd H p o q = none) : q ≠ p := fun e => by rw [e, upd_same] at h; cases h
theorem len_add (a b : Str) : (a ++ b).length = a.length + b.length := by
  show (a.cps ++ b.cps).size = _
  rw [Array.size_append]
  rfl
theorem cps_add (a b : Str) : (a ++ b).cps.toList = a.cps.toList ++ b.cps.toList := by
  show (a.cps ++ b.cps).toList = _
  rw [Array.toList_append]
theorem len_cps (z : Str) : z.cps.toList.length = z.length := Array.length_toList
theorem line_of {n : Nat} (h : n ≤ 100000) : n ≤ sizeLine := Nat.le_trans h (by decide)
theorem line_lt {n : Nat} (h : n < 100000) : n < sizeLine := Nat.lt_of_lt_of_le h (by decide)
/-- all that stood stands, st's own numbers aside -/
def Bt (st : Addr) (H H' : Hp) : Prop := ∀ b o, b ≠ st → H b = some o → H' b = some o
theorem Bt.refl (st : Addr) (H : Hp) : Bt st H H := fun _ _ _ h => h
theorem Bt.trans {st : Addr} {H H1 H2 : Hp} (a : Bt st H H1) (b : Bt st H1 H2) : Bt st H H2 := fun c o n h => b c o n (a c o n h)
theorem Bt.same {st : Addr} {H H' : Hp} (s : Same H H') : Bt st H H' := fun b o _ h => s b o h
theorem Bt.st {st : Addr} {H : Hp} {o : HO} : Bt st H (upd H st o) := fun b u n h => by rw [upd_ne n]; exact h
theorem Bt.free {st : Addr} {H H' : Hp} (s : Bt st H H') {l : Addr} (n : l ≠ st) (h : H' l = none) : H l = none := by
  cases q : H l with
  | none => rfl
  | some o => rw [s l o n q] at h; cases h
theorem DrAt.ne_new {H : Hp} {st scr p : Addr} (h : DrAt H st scr) (n : H p = none) : p ≠ st := by
  obtain ⟨l, e⟩ := h.lst
  exact (ne_of_none e n).symm

theorem DrAt.ne_scr {H : Hp} {st scr p : Addr} (h : DrAt H st scr) (n : H p = none) : p ≠ scr := by
  obtain ⟨ns, i, v, m, c, e1, e2, h3⟩ := h
  exact (ne_of_none e2 n).symm

/-! ### is_name -/
abbrev letters : Str := "abcdefghijklmnopqrstuvwxyz"
abbrev resv : List V := [.str "always", .str "never", .str "and", .str "or", .str "not", .str "when", .str "add", .str "set", .str "change", .str "tell", .str "refuse", .str "take", .str "look", .str "free", .str "lock", .str "keep", .str "keys", .str "fields"]
def isName (z : Str) : Bool := if (decide ((z.length : Int) < 1) || decide ((12 : Int) < z.length) || inV (.str z) resv) = true then false else z.cps.toList.all fun c => decide (c ∈ letters.cps.toList)
end
section
variable {P : Program} {w : World} {K : PySem.W.Frag} {mg : Str → Option Value} {base : Heap}
variable {t_BOUND t_DIGITS t_LETTERS t_LONGEST_INTEGER t_MOST_TIMES : Tok} {a_MARKS a_SIGNS a_BadNumber a_BadText a_BadTurn a_ElseputError a_Reader a_Weaving : Addr}
/-! ### BadTurn -/
theorem len_spE {C : Addr} {ok : List V → Prop} {fs : List V → List (Str × V)} {n : Nat} (hn : ∀ ws, ok ws → ws.length = n) {vs : List V} {H : Hp} {Q : VK} {E : XK} (h : spE C ok fs vs H Q E) : vs.length = n + 1 := by
  obtain ⟨a, ws, rfl, h, _⟩ := h
  rw [List.length_cons, hn _ h]
theorem log_200 {i : Int} (h : i.natAbs < 2 ^ 200) : i.natAbs.log2 < 1920 := by
  by_cases hz : i.natAbs = 0
  · rw [hz]
    decide
  · exact (Nat.log2_lt hz).mpr (Nat.lt_of_lt_of_le h (Nat.pow_le_pow_right (by decide) (by decide)))
def okx_BadTurn (ws : List V) : Prop := ∃ l : Int, ws = [.int l] ∧ l.natAbs < 2 ^ 200
def fs_BadTurn (ws : List V) : List (Str × V) := match ws with | [l] => [("writer", l)] | _ => []
theorem ok_BadTurn {C f cc cda : Addr} {doc pm ct oc ccl cl : Value} {od cdd cld : Option Addr} {osl ccs csl : Array (Option Value)} {vs0 : Array Value} {file : Str} {tf : Tok} {cdD : ClassData}
    (X : ExK K C f ["writer"]) (lk : K.lookup f = some ⟨oc, od, .func (PySem.W.fnX "__init__" "BadTurn.__init__" (defArgs s_BadTurn) (defBody s_BadTurn) (defScope s_BadTurn) [("__class__", cc)] .none .none doc pm none (.ref cda) ct), osl⟩)
    (hcd : PySem.W.codeIn K (.ref cda) "BadTurn.__init__" = true) (hcode : K.lookup cda = some ⟨ccl, cdd, .fields vs0, ccs⟩) (hvs : vs0[2]? = some (.str file tf)) (hfile : ((P.main.file : Str) == file) = true)
    (hcell : K.lookup cc = some ⟨cl, cld, .cell (some (.ref C)), csl⟩) (hD : PySem.W.clsIn K C = some cdD) (hsuper : mg "super" = none) (hop : PySem.W.nsIn K PySem.cStatics "thirdparty.any" = some none) (htop : (P.main.scope.names.lookup ("super" : Str)).isSome = false) :
    FnOk P w K mg base CX0 1 f (PySem.W.fnX "__init__" "BadTurn.__init__" (defArgs s_BadTurn) (defBody s_BadTurn) (defScope s_BadTurn) [("__class__", cc)] .none .none doc pm none (.ref cda) ct) ["self", "writer"] (spE C okx_BadTurn fs_BadTurn) := by
  refine fn_super lk hcd sc_BadTurn hcode hvs hfile hcell hD hsuper hop rfl rfl rfl htop rfl (fun vs H Q E h => len_spE (n := 1) (fun ws h => by obtain ⟨_, rfl, _⟩ := h; rfl) h) (fun A outer s H vs Q E hr h => ?_) (fun _ => rfl) (fun _ => rfl) (fun _ => rfl)
  obtain ⟨a, ws, rfl, ⟨l, rfl, l0⟩, ea, q⟩ := h
  refine ⟨a, C, _, _, rfl, ea, X.oex, X.mro, X.sup, X.subV, pa_cons (pe_joined (.cons pe_str (.cons (pe_fmt (v_ 1)) .nil))) pa_nil, pss_one (ps_ost (v_ 0) (v_ 1)), ?_⟩
  have tl := int_text_len_1921 (log_200 l0)
  have z0 : Str.empty.length = 0 := rfl
  have z1 : (Str.ofString "no writer ").length = 10 := rfl
  refine ⟨_, rfl, line_of (by rw [len_add]; omega), .inr ⟨_, rfl, log_200 l0, _, rfl, line_of (by rw [len_add, len_add]; omega), ?_⟩⟩
  refine ⟨ea, (by show 1 ≤ 1000; decide), ?_⟩
  exact ⟨a, C, rfl, X.oex, X.no _ (by simp), .inl ⟨ea, ost1 ea fun dx H' n ne e1 e2 hh => q dx _ n ne e1 e2 hh⟩⟩
/-! ### BadNumber -/
def okx_BadNumber (ws : List V) : Prop := ∃ l : Int, ws = [.int l] ∧ l.natAbs < 2 ^ 200
def fs_BadNumber (ws : List V) : List (Str × V) := match ws with | [l] => [("value", l)] | _ => []
theorem ok_BadNumber {C f cc cda : Addr} {doc pm ct oc ccl cl : Value} {od cdd cld : Option Addr} {osl ccs csl : Array (Option Value)} {vs0 : Array Value} {file : Str} {tf : Tok} {cdD : ClassData}
    (X : ExK K C f ["value"]) (lk : K.lookup f = some ⟨oc, od, .func (PySem.W.fnX "__init__" "BadNumber.__init__" (defArgs s_BadNumber) (defBody s_BadNumber) (defScope s_BadNumber) [("__class__", cc)] .none .none doc pm none (.ref cda) ct), osl⟩)
    (hcd : PySem.W.codeIn K (.ref cda) "BadNumber.__init__" = true) (hcode : K.lookup cda = some ⟨ccl, cdd, .fields vs0, ccs⟩) (hvs : vs0[2]? = some (.str file tf)) (hfile : ((P.main.file : Str) == file) = true)
    (hcell : K.lookup cc = some ⟨cl, cld, .cell (some (.ref C)), csl⟩) (hD : PySem.W.clsIn K C = some cdD) (hsuper : mg "super" = none) (hop : PySem.W.nsIn K PySem.cStatics "thirdparty.any" = some none) (htop : (P.main.scope.names.lookup ("super" : Str)).isSome = false) :
    FnOk P w K mg base CX0 1 f (PySem.W.fnX "__init__" "BadNumber.__init__" (defArgs s_BadNumber) (defBody s_BadNumber) (defScope s_BadNumber) [("__class__", cc)] .none .none doc pm none (.ref cda) ct) ["self", "value"] (spE C okx_BadNumber fs_BadNumber) := by
  refine fn_super lk hcd sc_BadNumber hcode hvs hfile hcell hD hsuper hop rfl rfl rfl htop rfl (fun vs H Q E h => len_spE (n := 1) (fun ws h => by obtain ⟨_, rfl, _⟩ := h; rfl) h) (fun A outer s H vs Q E hr h => ?_) (fun _ => rfl) (fun _ => rfl) (fun _ => rfl)
  obtain ⟨a, ws, rfl, ⟨l, rfl, l0⟩, ea, q⟩ := h
  refine ⟨a, C, _, _, rfl, ea, X.oex, X.mro, X.sup, X.subV, pa_cons (pe_joined (.cons pe_str (.cons (pe_fmt (v_ 1)) .nil))) pa_nil, pss_one (ps_ost (v_ 0) (v_ 1)), ?_⟩
  have tl := int_text_len_1921 (log_200 l0)
  have z0 : Str.empty.length = 0 := rfl
  have z1 : (Str.ofString "out of bounds: ").length = 15 := rfl
  refine ⟨_, rfl, line_of (by rw [len_add]; omega), .inr ⟨_, rfl, log_200 l0, _, rfl, line_of (by rw [len_add, len_add]; omega), ?_⟩⟩
  refine ⟨ea, (by show 1 ≤ 1000; decide), ?_⟩
  exact ⟨a, C, rfl, X.oex, X.no _ (by simp), .inl ⟨ea, ost1 ea fun dx H' n ne e1 e2 hh => q dx _ n ne e1 e2 hh⟩⟩
theorem log_small {i : Int} (h0 : 0 ≤ i) (h1 : i ≤ 100000) : i.natAbs.log2 < 1920 := by
  by_cases hz : i.natAbs = 0
  · rw [hz]
    decide
  · refine (Nat.log2_lt hz).mpr ?_
    have : i.natAbs ≤ 100000 := by omega
    exact Nat.lt_of_le_of_lt this (Nat.lt_of_lt_of_le (show 100000 < 2 ^ 17 by decide) (Nat.pow_le_pow_right (by decide) (by decide)))
theorem text_small {i : Int} (h0 : 0 ≤ i) (h1 : i ≤ 100000) : (Str.ofString (toString i)).length ≤ 6 := toString_length_le h0 (by decide) (by omega)
theorem str_eq {a b : Str} : a = b ↔ a.cps.toList = b.cps.toList := by
  constructor
  · rintro rfl; rfl
  · intro h
    cases a
    cases b
    congr
    exact Array.toList_inj.mp h
theorem one_len (c : Nat) : (⟨#[c]⟩ : Str).length = 1 := rfl
theorem one_cps (c : Nat) : (⟨#[c]⟩ : Str).cps.toList = [c] := rfl
def inB (i : Int) : Bool := decide (-1000000000000000000000000000000 ≤ i) && decide (i ≤ 1000000000000000000000000000000)
end
section
variable {P : Program} {w : World} {K : PySem.W.Frag} {mg : Str → Option Value} {base : Heap}
variable {t_BOUND t_DIGITS t_LETTERS t_LONGEST_INTEGER t_MOST_TIMES : Tok} {a_MARKS a_SIGNS a_BadNumber a_BadText a_BadTurn a_ElseputError a_Reader a_Weaving : Addr}
theorem inV_str {z : Str} : ∀ {xs : List Str}, inV (.str z) (xs.map V.str) = decide (z ∈ xs)
  | [] => rfl
  | a :: r => by
    have ih := inV_str (z := z) (xs := r)
    unfold inV at ih ⊢
    rw [List.map_cons, List.any_cons, ih]
    have : eqV (.str a) (.str z) = decide (z = a) := by
      show (a == z) = _
      rw [Bool.eq_iff_iff, beq_iff_eq, decide_eq_true_iff, eq_comm]
    rw [this, Bool.eq_iff_iff, Bool.or_eq_true, decide_eq_true_iff, decide_eq_true_iff, decide_eq_true_iff, List.mem_cons]
theorem flat_strs {xs : List Str} : (xs.map V.str).all flatV = true := by
  rw [List.all_map]
  exact List.all_eq_true.mpr fun _ _ => rfl
def sp__law_draw (K : PySem.W.Frag) : Sp := fun vs H Q _ => ∃ (st scr : Addr) (many : Int), vs = [.ref st, .int many] ∧ DrAt H st scr ∧ 0 < many ∧ many.natAbs < 2 ^ 200 ∧
  ∀ (r : Int) (l : List V), 0 ≤ r → r < many → DrAt (upd H st (.lst l)) st scr → Q (.int r) (upd H st (.lst l))
theorem len__law_draw {vs : List V} {H : Hp} {Q : VK} {E : XK} (h : sp__law_draw K vs H Q E) : vs.length = 2 := by
  obtain ⟨_, _, _, rfl, _⟩ := h
  rfl
theorem ok__law_draw {f : Addr} {fd : FuncData} (F : Fun K "_law_draw" "_law_draw" s__law_draw f fd) (T : Gs K mg t_BOUND t_DIGITS t_LETTERS t_LONGEST_INTEGER t_MOST_TIMES a_MARKS a_SIGNS a_BadNumber a_BadText a_BadTurn a_ElseputError a_Reader a_Weaving) : FnOk P w K mg base CX0 1 f fd ["_law_state_here", "_law_many"] (sp__law_draw K) := by
  refine F.ok sc__law_draw (fun vs H Q E h => len__law_draw h) (fun cdv A outer s H vs Q E hr h => ?_)
  obtain ⟨st, scr, many, rfl, ⟨ns, i, v, m, c, hst, hscr, hl, h0⟩, hm0, hm1, q⟩ := h
  have hne := DrAt.ne hst hscr
  refine ⟨_, (Evl.pss_cut (ps_if (pt_c (eqK K hr.units) (e_x K (v_ 0) pe_int) pe_int) (pss_cons (ps_if (pt_c op_geM (e_x K (v_ 0) pe_int) (pe_callB (lenK K) (by rfl) T.z_len PySem.boot_len (pa_cons (e_x K (v_ 0) pe_int) pa_nil))) (pss_one (ps_ret pe_int)) pss_nil) (pss_cons (ps_asg (pe_callTy call_intM (by rfl) T.z_int (by decide +kernel) (pa_cons (e_x K (e_x K (v_ 0) pe_int) (e_x K (v_ 0) pe_int)) pa_nil)) (pg_sub (v_ 0) pe_int set_list)) (pss_cons (ps_asg (pe_op (addK K) (e_x K (v_ 0) pe_int) pe_int) (pg_sub (v_ 0) pe_int set_list)) (pss_cons (ps_asg pe_int (pg_sub (v_ 0) pe_int set_list)) (pss_cons (ps_asg pe_int (pg_sub (v_ 0) pe_int set_list)) (pss_one (ps_if (pt_c op_ltM (e_x K (v_ 0) pe_int) (pe_op op_powM pe_int pe_int)) (pss_one (ps_asg pe_int (pg_sub (v_ 0) pe_int set_list))) pss_nil))))))) pss_nil) (pss_cons (ps_asg (pe_op (addK K) (e_x K (v_ 0) pe_int) pe_int) (pg_sub (v_ 0) pe_int set_list)) (pss_cons (ps_if (pt_c (eqK K hr.units) (e_x K (v_ 0) pe_int) pe_int) (pss_cons (ps_set (i := 5) sc__law_draw.nd rfl (.inl rfl) (pe_op op_modM (pe_callTy call_intM (by rfl) T.z_int (by decide +kernel) (pa_cons (e_x K (v_ 0) pe_int) pa_nil)) (v_ 1))) (pss_cons (ps_asg (pe_op op_divM (pe_callTy call_intM (by rfl) T.z_int (by decide +kernel) (pa_cons (e_x K (v_ 0) pe_int) pa_nil)) (v_ 1)) (pg_sub (v_ 0) pe_int set_list)) (Evl.pss_cut (ps_if (PW.pt (pw_or (pt_c (eqK K hr.units) (e_x K (v_ 0) pe_int) pe_int) (pw_or1 (pt_c op_geM (e_x K (v_ 0) pe_int) pe_int)))) (pss_one (ps_asg pe_int (pg_sub (v_ 0) pe_int set_list))) pss_nil) (pss_one (ps_ret (v_ 5)))))) pss_nil) (pss_cons (ps_set (i := 2) sc__law_draw.nd rfl (.inl rfl) (pe_op op_modM (pe_callTy call_intM (by rfl) T.z_int (by decide +kernel) (pa_cons (pe_op (addK K) (pe_op op_mulSM (e_x K (v_ 0) pe_int) pe_int) (pe_op op_mulSM (e_x K (v_ 0) pe_int) pe_int)) pa_nil)) pe_int)) (pss_cons (ps_set (i := 3) sc__law_draw.nd rfl (.inl rfl) (pe_op op_modM (pe_callTy call_intM (by rfl) T.z_int (by decide +kernel) (pa_cons (pe_op (addK K) (pe_op (addK K) (pe_op op_mulSM (v_ 2) (v_ 2)) (pe_op op_mulSM (e_x K (v_ 0) pe_int) pe_int)) pe_int) pa_nil)) pe_int)) (Evl.pss_cut (ps_if (pt_c op_geM (e_x K (v_ 0) pe_int) pe_int) (pss_one (ps_asg pe_int (pg_sub (v_ 0) pe_int set_list))) pss_nil) (pss_cons (ps_set (i := 4) sc__law_draw.nd rfl (.inl rfl) (pe_op op_modM (pe_callTy call_intM (by rfl) T.z_int (by decide +kernel) (pa_cons (pe_op (addK K) (pe_op op_mulSM (v_ 3) pe_int) (v_ 2)) pa_nil)) pe_int)) (pss_one (ps_ret (pe_op op_modM (pe_callTy call_intM (by rfl) T.z_int (by decide +kernel) (pa_cons (v_ 4) pa_nil)) (v_ 1))))))))))), ?_⟩
  refine ⟨fun σ' H' => σ' = [some (.ref st), some (.int many), none, none, none, none] ∧ ∃ i v m c, H' = upd H st (.lst (stv scr i v m c)) ∧ 0 ≤ i, ?_, ?_⟩
  · refine ⟨_, .inl (SqL.of hst), _, rfl, ?_⟩
    refine ite2 (fun e => ?_) (fun e => ?_)
    · refine ⟨_, .inl (SqL.of hst), _, rfl, _, .inl (SqL.of hst), _, rfl, .inl ⟨_, .inl (SqL.of hscr), ?_⟩⟩
      refine ite2 (fun e1 => ?_) (fun e1 => ?_)
      · have z := q 0 (stv scr i v m c) (by omega) hm0 (DrAt.upd hst hscr hl h0)
        rw [upd_id hst] at z
        exact z
      · have e2 := of_decide_eq_false (Bool.eq_false_iff.mpr e1)
        rw [List.length_map] at e2
        obtain ⟨z, hz⟩ : ∃ z, atI (ns.map V.int) i = some (.int z) := by
          have hi : i.toNat < ns.length := by omega
          refine ⟨ns[i.toNat], ?_⟩
          have hq : atI (ns.map V.int) ((i.toNat : Nat) : Int) = some (.int ns[i.toNat]) := atI_nat (by rw [List.getElem?_map, List.getElem?_eq_getElem hi]; rfl)
          rwa [show ((i.toNat : Nat) : Int) = i by omega] at hq
        refine ⟨_, .inl (SqL.of hst), _, rfl, _, .inl (SqL.of hst), _, rfl, _, .inl (SqL.of hscr), _, hz, ?_⟩
        refine ⟨_, _, _, 2, rfl, rfl, hst, rfl, ?_⟩
        refine ⟨_, .inl (SqL.of upd_same), _, rfl, ?_⟩
        refine ⟨_, _, _, 1, rfl, rfl, upd_same, rfl, ?_⟩
        refine ⟨_, _, _, 3, rfl, rfl, upd_same, rfl, ?_⟩
        refine ⟨_, _, _, 4, rfl, rfl, upd_same, rfl, ?_⟩
        refine ⟨_, .inl (SqL.of upd_same), _, rfl, (by unfold CPow; decide), ?_⟩
        refine ite2 (fun e3 => ?_) (fun e3 => ?_)
        · refine ⟨_, _, _, 3, rfl, rfl, upd_same, rfl, rfl, i + 1, z, 2, 0, ?_, by omega⟩
          rw [upd_upd, upd_upd, upd_upd, upd_upd]
          rfl
        · refine ⟨rfl, i + 1, z, 1, 0, ?_, by omega⟩
          rw [upd_upd, upd_upd, upd_upd]
          rfl
    · exact ⟨rfl, i, v, m, c, (upd_id hst).symm, h0⟩
  · rintro σ' H' ⟨rfl, i, v, m, c, rfl, h0⟩
    have hscr' : ∀ o, upd H st o scr = some (.lst (ns.map V.int)) := fun o => by rw [upd_ne hne]; exact hscr
    refine ⟨_, .inl (SqL.of upd_same), _, rfl, ?_⟩
    refine ⟨_, _, _, 4, rfl, rfl, upd_same, rfl, ?_⟩
    rw [upd_upd]
    refine ⟨_, .inl (SqL.of upd_same), _, rfl, ?_⟩
    refine ite2 (fun e => ?_) (fun e => ?_)
    · refine ⟨_, .inl (SqL.of upd_same), _, rfl, hm0, ?_⟩
      refine ⟨_, .inl (SqL.of upd_same), _, rfl, .inr (wide_div hm0 (b := 200) hm1 (by decide) (by decide)), ?_⟩
      refine ⟨_, _, _, 2, rfl, rfl, upd_same, rfl, ?_⟩
      rw [upd_upd]
      have fin : ∀ m' : Int, Q (.int (v % many)) (upd H st (.lst (stv scr i (v / many) m' (c + 1)))) := fun m' => q _ _ (Int.emod_nonneg _ (by omega)) (Int.emod_lt_of_pos _ hm0) (DrAt.upd hst hscr hl h0)
      refine ⟨fun σ' H' => σ' = [some (.ref st), some (.int many), none, none, none, some (.int (v % many))] ∧ ∃ m', H' = upd H st (.lst (stv scr i (v / many) m' (c + 1))), ?_, ?_⟩
      · refine ⟨_, .inl (SqL.of upd_same), _, rfl, ?_⟩
        refine ite2 (fun e1 => ?_) (fun e1 => ?_)
        · refine ⟨_, _, _, 3, rfl, rfl, upd_same, rfl, rfl, 0, ?_⟩
          rw [upd_upd]
          rfl
        · refine ⟨_, .inl (SqL.of upd_same), _, rfl, ?_⟩
          refine ite2 (fun e1 => ?_) (fun e1 => ?_)
          · refine ⟨_, _, _, 3, rfl, rfl, upd_same, rfl, rfl, 0, ?_⟩
            rw [upd_upd]
            rfl
          · exact ⟨rfl, m, rfl⟩
      · rintro σ' H' ⟨rfl, m', rfl⟩
        exact fin m'
    · refine ⟨_, .inl (SqL.of upd_same), _, rfl, .inl (.inr ⟨by decide, by decide⟩), ?_⟩
      refine ⟨_, .inl (SqL.of upd_same), _, rfl, .inl (.inr ⟨by decide, by decide⟩), (by decide), ?_⟩
      have f0 := Int.emod_nonneg (v * 48271 + (c + 1) * 69621) (by decide : (2147483647 : Int) ≠ 0)
      have f1 := Int.emod_lt_of_pos (v * 48271 + (c + 1) * 69621) (by decide : (0 : Int) < 2147483647)
      refine ⟨.inl (.inl ⟨by omega, by omega⟩), ?_⟩
      refine ⟨_, .inl (SqL.of upd_same), _, rfl, .inl (.inr ⟨by decide, by decide⟩), (by decide), ?_⟩
      have fin : ∀ (m' x : Int), Q (.int (x % many)) (upd H st (.lst (stv scr i v m' (c + 1)))) := fun m' x => q _ _ (Int.emod_nonneg _ (by omega)) (Int.emod_lt_of_pos _ hm0) (DrAt.upd hst hscr hl h0)
      refine ⟨fun σ' H' => (∃ a b, σ' = [some (.ref st), some (.int many), some (.int a), some (.int b), none, none]) ∧ ∃ m', H' = upd H st (.lst (stv scr i v m' (c + 1))), ?_, ?_⟩
      · refine ⟨_, .inl (SqL.of upd_same), _, rfl, ?_⟩
        refine ite2 (fun e1 => ?_) (fun e1 => ?_)
        · refine ⟨_, _, _, 3, rfl, rfl, upd_same, rfl, ⟨_, _, rfl⟩, 0, ?_⟩
          rw [upd_upd]
          rfl
        · exact ⟨⟨_, _, rfl⟩, m, rfl⟩
      · rintro σ' H' ⟨⟨a, b, rfl⟩, m', rfl⟩
        refine ⟨.inl (.inr ⟨by decide, by decide⟩), (by decide), hm0, ?_⟩
        exact fin m' _

/-! ### _law_state -/
def sp__law_state (K : PySem.W.Frag) : Sp := fun vs H Q _ => ∃ (a : Addr) (ns : List Int), vs = [.ref a] ∧ SqL K H a (ns.map V.int) ∧ ns.length ≤ 63 ∧
  ∀ (H' : Hp) (st scr : Addr), Same H H' → H st = none → H scr = none → DrAt H' st scr → Q (.ref st) H'
theorem len__law_state {vs : List V} {H : Hp} {Q : VK} {E : XK} (h : sp__law_state K vs H Q E) : vs.length = 1 := by
  obtain ⟨_, _, rfl, _⟩ := h
  rfl
theorem ok__law_state {f : Addr} {fd : FuncData} (F : Fun K "_law_state" "_law_state" s__law_state f fd) (T : Gs K mg t_BOUND t_DIGITS t_LETTERS t_LONGEST_INTEGER t_MOST_TIMES a_MARKS a_SIGNS a_BadNumber a_BadText a_BadTurn a_ElseputError a_Reader a_Weaving) : FnOk P w K mg base CX0 1 f fd ["_law_script"] (sp__law_state K) := by
  refine F.ok sc__law_state (fun vs H Q E h => len__law_state h) (fun cdv A outer s H vs Q E hr h => ?_)
  obtain ⟨a, ns, rfl, hS, hl, q⟩ := h
  refine ⟨_, (pss_one (ps_ret (pe_lst (pa_cons (pe_callTy (listK K) (by rfl) T.z_list (by decide +kernel) (pa_cons (v_ 0) pa_nil)) (pa_cons pe_int (pa_cons pe_int (pa_cons pe_int (pa_cons pe_int pa_nil)))))))), ?_⟩
  refine ⟨_, _, rfl, .inl hS, fun l nl => ?_⟩
  refine ⟨(by show 5 ≤ sizeLine; decide), fun st nst => ?_⟩
  have hne := new_ne nst
  refine q _ st l ((same_new nl).trans (same_new nst)) (free_new nst) nl ⟨ns, 0, 0, 0, 0, upd_same, ?_, hl, by omega⟩
  rw [upd_ne hne.symm, upd_same]

theorem at_list {α : Type} {xs : List α} {r : Int} (h0 : 0 ≤ r) (h1 : r < xs.length) : ∃ x, atI xs r = some x ∧ x ∈ xs := by
  have hi : r.toNat < xs.length := by omega
  refine ⟨xs[r.toNat], ?_, List.getElem_mem hi⟩
  have hq : atI xs ((r.toNat : Nat) : Int) = some xs[r.toNat] := atI_nat (List.getElem?_eq_getElem hi)
  rwa [show ((r.toNat : Nat) : Int) = r by omega] at hq
theorem at_str {z : Str} {r : Int} (h0 : 0 ≤ r) (h1 : r < z.length) : ∃ c, atI z.cps.toList r = some c ∧ c ∈ z.cps.toList := at_list h0 (by rw [len_cps]; exact h1)
theorem many_small {m : Int} (h0 : 0 < m) (h1 : m ≤ 1000000000) : m.natAbs < 2 ^ 200 := Nat.lt_of_le_of_lt (show m.natAbs ≤ 2 ^ 30 by omega) (Nat.pow_lt_pow_right (by decide) (by decide))
/-! ### _law_pick -/
def sp__law_pick (K : PySem.W.Frag) : Sp := fun vs H Q _ => ∃ (st scr : Addr) (v : V), vs = [.ref st, v] ∧ DrAt H st scr ∧
  ((∃ z : Str, v = .str z ∧ 0 < z.length ∧ z.length ≤ 1000 ∧ ∀ (c : Nat) (l : List V), c ∈ z.cps.toList → DrAt (upd H st (.lst l)) st scr → Q (.str ⟨#[c]⟩) (upd H st (.lst l))) ∨
    ∃ (p : Addr) (xs : List V), v = .ref p ∧ H p = some (.lst xs) ∧ p ≠ st ∧ 0 < xs.length ∧ xs.length ≤ 1000 ∧ ∀ (x : V) (l : List V), x ∈ xs → DrAt (upd H st (.lst l)) st scr → Q x (upd H st (.lst l)))
theorem len__law_pick {vs : List V} {H : Hp} {Q : VK} {E : XK} (h : sp__law_pick K vs H Q E) : vs.length = 2 := by
  obtain ⟨_, _, _, rfl, _⟩ := h
  rfl
theorem ok__law_pick {f : Addr} {fd : FuncData} {f__law_draw : Addr} {fd__law_draw : FuncData} (F : Fun K "_law_pick" "_law_pick" s__law_pick f fd) (T : Gs K mg t_BOUND t_DIGITS t_LETTERS t_LONGEST_INTEGER t_MOST_TIMES a_MARKS a_SIGNS a_BadNumber a_BadText a_BadTurn a_ElseputError a_Reader a_Weaving) (c__law_draw : Cal P w K mg base CX0 1 "_law_draw" f__law_draw fd__law_draw ["_law_state_here", "_law_many"] (sp__law_draw K)) : FnOk P w K mg base CX0 2 f fd ["_law_state_here", "_law_row"] (sp__law_pick K) := by
  refine F.ok sc__law_pick (fun vs H Q E h => len__law_pick h) (fun cdv A outer s H vs Q E hr h => ?_)
  obtain ⟨st, scr, v, rfl, hd, h⟩ := h
  refine ⟨_, (pss_one (ps_ret (e_x K (v_ 1) (pe_call c__law_draw.G (hr.mono (by first | decide | omega)) rfl c__law_draw.m c__law_draw.kp c__law_draw.b .nil pass0 (pa_cons (v_ 0) (pa_cons (pe_callB (lenK K) (by rfl) T.z_len PySem.boot_len (pa_cons (v_ 1) pa_nil)) pa_nil)))))), ?_⟩
  rcases h with ⟨z, rfl, h0, h1, q⟩ | ⟨p, xs, rfl, hp, hne, h0, h1, q⟩
  · refine ⟨line_of (by omega), st, scr, _, rfl, hd, by omega, many_small (by omega) (by omega), fun r l r0 r1 hd' => ?_⟩
    obtain ⟨c, hc, hm⟩ := at_str r0 r1
    exact ⟨line_of (by omega), c, hc, q c l hm hd'⟩
  · refine .inl ⟨_, .inl (SqL.of hp), st, scr, _, rfl, hd, by omega, many_small (by omega) (by omega), fun r l r0 r1 hd' => ?_⟩
    obtain ⟨x, hx, hm⟩ := at_list r0 r1
    exact ⟨_, .inl (SqL.of (by rw [upd_ne hne]; exact hp)), x, hx, q x l hm hd'⟩

theorem cutV_take (xs : List V) {k : Int} (h : 0 ≤ k) : cutV xs none (some k) = xs.take k.toNat := by
  unfold cutV
  have e := HT.sIx_nat xs.length xs.length k.toNat
  rw [show ((k.toNat : Nat) : Int) = k by omega] at e
  rw [e, HT.sIx_none, List.drop_zero]
  by_cases hk : k.toNat ≤ xs.length
  · rw [Nat.min_eq_left hk, Nat.sub_zero]
  · rw [Nat.min_eq_right (by omega), Nat.sub_zero, List.take_length, List.take_of_length_le (by omega)]
theorem cutV_drop (xs : List V) {k : Int} (h : 0 ≤ k) : cutV xs (some k) none = xs.drop k.toNat := by
  unfold cutV
  have e := HT.sIx_nat xs.length 0 k.toNat
  rw [show ((k.toNat : Nat) : Int) = k by omega] at e
  rw [e, HT.sIx_none]
  by_cases hk : k.toNat ≤ xs.length
  · rw [Nat.min_eq_left hk, List.take_of_length_le (by rw [List.length_drop]; omega)]
  · rw [Nat.min_eq_right (by omega), List.drop_of_length_le (Nat.le_refl _), List.drop_of_length_le (by omega)]
    exact List.take_nil
theorem take_snoc {α : Type} {xs : List α} {i : Nat} {x : α} (h : xs[i]? = some x) : xs.take (i + 1) = xs.take i ++ [x] := by
  rw [List.take_add_one, h]
  rfl
theorem SqT.same {K : PySem.W.Frag} {H H' : Hp} {a : Addr} {xs : List V} (h : SqT K H a xs) (s : Same H H') : SqT K H' a xs := by
  rcases h with (h | ⟨o, h⟩) | h
  · exact .inl (.inl (s _ _ h))
  · exact .inl (.inr ⟨o, s _ _ h⟩)
  · exact .inr h
/-- no tuple stands at st -/
def NT (H : Hp) (st : Addr) : Prop := ∀ xs : List V, H st ≠ some (.tup xs) ∧ ∀ o, H st ≠ some (.frz o (.tup xs))
theorem NT.lst {H : Hp} {st : Addr} (h : ∃ l, H st = some (.lst l)) : NT H st := fun xs => by
  obtain ⟨l, h⟩ := h
  rw [h]
  exact ⟨(fun e => by cases e), (fun o e => by cases e)⟩
theorem NT.ins {H : Hp} {st C dx : Addr} {fs : List (Str × V)} (h : H st = some (.ins C dx fs)) : NT H st := fun xs => by
  rw [h]
  exact ⟨(fun e => by cases e), (fun o e => by cases e)⟩
theorem SqT.bt {K : PySem.W.Frag} {H H' : Hp} {a st : Addr} {xs : List V} (h : SqT K H a xs) (hs : NT H st) (s : Bt st H H') : SqT K H' a xs := by
  rcases h with (h | ⟨o, h⟩) | h
  · exact .inl (.inl (s _ _ (fun e => (hs xs).1 (e ▸ h)) h))
  · exact .inl (.inr ⟨o, s _ _ (fun e => (hs xs).2 o (e ▸ h)) h⟩)
  · exact .inr h
theorem ty_tup {K : PySem.W.Frag} {H : Hp} {a : Addr} {xs : List V} (h : SqT K H a xs) : TyX K H (.ref a) (.type "tuple") := by
  rcases h with (h | ⟨o, h⟩) | ⟨o, its, n, e, c, _⟩
  · exact .base (.tup h)
  · exact .fTuple h
  · exact .kTuple e c
end
section
variable {P : Program} {w : World} {K : PySem.W.Frag} {mg : Str → Option Value} {base : Heap}
variable {t_BOUND t_DIGITS t_LETTERS t_LONGEST_INTEGER t_MOST_TIMES : Tok} {a_MARKS a_SIGNS a_BadNumber a_BadText a_BadTurn a_ElseputError a_Reader a_Weaving : Addr}
def Bd (i : Int) : Prop := -1000000000000000000000000000000 ≤ i ∧ i ≤ 1000000000000000000000000000000
def sp__law_number (K : PySem.W.Frag) : Sp := fun vs H Q _ => ∃ (st scr : Addr), vs = [.ref st] ∧ DrAt H st scr ∧ ∀ (l : List V) (i : Int), Bd i → DrAt (upd H st (.lst l)) st scr → Q (.int i) (upd H st (.lst l))
theorem len__law_number {vs : List V} {H : Hp} {Q : VK} {E : XK} (h : sp__law_number K vs H Q E) : vs.length = 1 := by
  obtain ⟨_, _, rfl, _⟩ := h
  rfl
theorem p30 : (10 : Int) ^ (30 : Int).toNat = 1000000000000000000000000000000 := by decide +kernel
theorem ok__law_number {f : Addr} {fd : FuncData} {f__law_draw : Addr} {fd__law_draw : FuncData} (F : Fun K "_law_number" "_law_number" s__law_number f fd) (T : Gs K mg t_BOUND t_DIGITS t_LETTERS t_LONGEST_INTEGER t_MOST_TIMES a_MARKS a_SIGNS a_BadNumber a_BadText a_BadTurn a_ElseputError a_Reader a_Weaving) (c__law_draw : Cal P w K mg base CX0 1 "_law_draw" f__law_draw fd__law_draw ["_law_state_here", "_law_many"] (sp__law_draw K)) : FnOk P w K mg base CX0 2 f fd ["_law_state_here"] (sp__law_number K) := by
  refine F.ok sc__law_number (fun vs H Q E h => len__law_number h) (fun cdv A outer s H vs Q E hr h => ?_)
  obtain ⟨st, scr, rfl, hd, q⟩ := h
  refine ⟨_, (pss_cons (ps_set (i := 1) sc__law_number.nd rfl (.inl rfl) (pe_call c__law_draw.G (hr.mono (by first | decide | omega)) rfl c__law_draw.m c__law_draw.kp c__law_draw.b .nil pass0 (pa_cons (v_ 0) (pa_cons pe_int pa_nil)))) (pss_cons (ps_if (pt_c op_ltM (v_ 1) pe_int) (pss_one (ps_ret (pe_op op_subM (pe_call c__law_draw.G (hr.mono (by first | decide | omega)) rfl c__law_draw.m c__law_draw.kp c__law_draw.b .nil pass0 (pa_cons (v_ 0) (pa_cons pe_int pa_nil))) pe_int))) pss_nil) (pss_cons (ps_if (pt_c (eqK K hr.units) (v_ 1) pe_int) (pss_one (ps_ret (pe_op op_subM (pe_call c__law_draw.G (hr.mono (by first | decide | omega)) rfl c__law_draw.m c__law_draw.kp c__law_draw.b .nil pass0 (pa_cons (v_ 0) (pa_cons pe_int pa_nil))) pe_int))) pss_nil) (pss_cons (ps_if (pt_c (eqK K hr.units) (v_ 1) pe_int) (pss_one (ps_ret (pe_op op_subM (pe_op op_powM pe_int pe_int) (pe_call c__law_draw.G (hr.mono (by first | decide | omega)) rfl c__law_draw.m c__law_draw.kp c__law_draw.b .nil pass0 (pa_cons (v_ 0) (pa_cons pe_int pa_nil)))))) pss_nil) (pss_cons (ps_if (pt_c (eqK K hr.units) (v_ 1) pe_int) (pss_one (ps_ret (pe_op op_subM (pe_call c__law_draw.G (hr.mono (by first | decide | omega)) rfl c__law_draw.m c__law_draw.kp c__law_draw.b .nil pass0 (pa_cons (v_ 0) (pa_cons pe_int pa_nil))) (pe_op op_powM pe_int pe_int)))) pss_nil) (pss_one (ps_ret (pe_op op_subM (pe_call c__law_draw.G (hr.mono (by first | decide | omega)) rfl c__law_draw.m c__law_draw.kp c__law_draw.b .nil pass0 (pa_cons (v_ 0) (pa_cons (pe_op (addK K) (pe_op op_mulSM pe_int (pe_op op_powM pe_int pe_int)) pe_int) pa_nil))) (pe_op op_powM pe_int pe_int))))))))), ?_⟩
  refine ⟨st, scr, _, rfl, hd, by decide, many_small (by decide) (by decide), fun kd l _ _ hd1 => ?_⟩
  have q : ∀ (l2 : List V) (i : Int), Bd i → DrAt (upd (upd H st (.lst l)) st (.lst l2)) st scr → Q (.int i) (upd (upd H st (.lst l)) st (.lst l2)) := fun l2 i b d => by
    rw [upd_upd] at d ⊢
    exact q l2 i b d
  generalize upd H st (.lst l) = H1 at hd1 q ⊢
  refine ite2 (fun e => ?_) (fun e => ?_)
  · refine ⟨st, scr, _, rfl, hd1, by decide, many_small (by decide) (by decide), fun r l2 r0 r1 hd2 => ?_⟩
    exact q l2 _ (by unfold Bd; omega) hd2
  refine ite2 (fun e => ?_) (fun e => ?_)
  · refine ⟨st, scr, _, rfl, hd1, by decide, many_small (by decide) (by decide), fun r l2 r0 r1 hd2 => ?_⟩
    exact q l2 _ (by unfold Bd; omega) hd2
  refine ite2 (fun e => ?_) (fun e => ?_)
  · refine ⟨(by unfold CPow; decide), ?_⟩
    refine ⟨st, scr, _, rfl, hd1, by decide, many_small (by decide) (by decide), fun r l2 r0 r1 hd2 => ?_⟩
    rw [p30]
    exact q l2 _ (by unfold Bd; omega) hd2
  refine ite2 (fun e => ?_) (fun e => ?_)
  · refine ⟨st, scr, _, rfl, hd1, by decide, many_small (by decide) (by decide), fun r l2 r0 r1 hd2 => ?_⟩
    refine ⟨(by unfold CPow; decide), ?_⟩
    rw [p30]
    exact q l2 _ (by unfold Bd; omega) hd2
  refine ⟨(by unfold CPow; decide), ?_⟩
  rw [p30]
  refine ⟨.inl (.inl ⟨by decide, by decide⟩), ?_⟩
  refine ⟨st, scr, _, rfl, hd1, by decide, by decide +kernel, fun r l2 r0 r1 hd2 => ?_⟩
  refine ⟨(by unfold CPow; decide), ?_⟩
  rw [p30]
  exact q l2 _ (by unfold Bd; omega) hd2
end
section
variable {P : Program} {w : World} {K : PySem.W.Frag} {mg : Str → Option Value} {base : Heap}
variable {t_BOUND t_DIGITS t_LETTERS t_LONGEST_INTEGER t_MOST_TIMES : Tok} {a_MARKS a_SIGNS a_BadNumber a_BadText a_BadTurn a_ElseputError a_Reader a_Weaving : Addr}
/-! ### _law_same -/
def sp__law_is_int (K : PySem.W.Frag) : Sp := fun vs H Q _ => ∃ i : Int, vs = [.int i] ∧ Q (.bl true) H
theorem len__law_is_int {vs : List V} {H : Hp} {Q : VK} {E : XK} (h : sp__law_is_int K vs H Q E) : vs.length = 1 := by
  obtain ⟨_, rfl, _⟩ := h
  rfl
theorem ok__law_is_int {f : Addr} {fd : FuncData} (F : Fun K "_law_is_int" "_law_is_int" s__law_is_int f fd) (T : Gs K mg t_BOUND t_DIGITS t_LETTERS t_LONGEST_INTEGER t_MOST_TIMES a_MARKS a_SIGNS a_BadNumber a_BadText a_BadTurn a_ElseputError a_Reader a_Weaving) : FnOk P w K mg base CX0 1 f fd ["_law_thing"] (sp__law_is_int K) := by
  refine F.ok sc__law_is_int (fun vs H Q E h => len__law_is_int h) (fun cdv A outer s H vs Q E hr h => ?_)
  obtain ⟨i, rfl, q⟩ := h
  refine ⟨_, (pss_one (ps_ret (pe_andM (pe_callB (isiK K) (by rfl) T.z_isinstance (by decide +kernel) (pa_cons (v_ 0) (pa_cons (pe_bltn (v := .ty "int") (u := .type "int") (by rfl) T.z_int (by decide +kernel) rfl) pa_nil))) (pe_one (pe_notM (pe_callB (isiK K) (by rfl) T.z_isinstance (by decide +kernel) (pa_cons (v_ 0) (pa_cons (pe_bltn (v := .ty "bool") (u := .type "bool") (by rfl) T.z_bool (by decide +kernel) rfl) pa_nil)))))))), ?_⟩
  refine ⟨_, _, _, _, true, rfl, .ty _, .base (.int i), kit_ty (by decide +kernel), ?_⟩
  exact ⟨_, _, _, _, false, rfl, .ty _, .base (.int i), kit_ty (by decide +kernel), q⟩
def Fl (x : V) : Prop := (∃ i : Int, x = .int i) ∨ (∃ z : Str, x = .str z) ∨ (∃ b : Bool, x = .bl b) ∨ x = .non
def SameV (K : PySem.W.Frag) (H : Hp) : Nat → V → V → Prop
  | 0, _, _ => False
  | n + 1, x, y => (x = y ∧ Fl y) ∨ (∃ (p q : Addr) (xs ys : List V), x = .ref p ∧ y = .ref q ∧ SqT K H p xs ∧ SqT K H q ys ∧ xs.length = ys.length ∧ ys.length ≤ 1000 ∧ ∀ (i : Nat) (a b : V), xs[i]? = some a → ys[i]? = some b → SameV K H n a b) ∨
      (∃ (p q : Addr) (xs ys : List V), x = .ref p ∧ y = .ref q ∧ H p = some (.lst xs) ∧ H q = some (.lst ys) ∧ xs.length = ys.length ∧ ys.length ≤ 1000 ∧ ∀ (i : Nat) (a b : V), xs[i]? = some a → ys[i]? = some b → SameV K H n a b) ∨
      ∃ (p q : Addr) (ks ls : List (Key × V)), x = .ref p ∧ y = .ref q ∧ H p = some (.dK ks) ∧ H q = some (.dK ls) ∧ ks.length = ls.length ∧ n ≠ 0 ∧ ∀ (i : Nat) (k : Key) (v : V), ls[i]? = some (k, v) → ∃ u : V, Fl u ∧ valV ls k = some u ∧ valV ks k = some u
theorem same_fl {H : Hp} {n : Nat} {x : V} (h : Fl x) : SameV K H (n + 1) x x := .inl ⟨rfl, h⟩
def spSame (n : Nat) : PySem.W.Frag → Sp := fun K vs H Q _ => ∃ x y : V, vs = [x, y] ∧ SameV K H n x y ∧ Q (.bl true) H
theorem len_same {n : Nat} {vs : List V} {H : Hp} {Q : VK} {E : XK} (h : spSame n K vs H Q E) : vs.length = 2 := by
  obtain ⟨_, _, rfl, _⟩ := h
  rfl
theorem same_step {n k : Nat} {f : Addr} {fd : FuncData} {f__law_is_int : Addr} {fd__law_is_int : FuncData} (F : Fun K "_law_same" "_law_same" s__law_same f fd) (T : Gs K mg t_BOUND t_DIGITS t_LETTERS t_LONGEST_INTEGER t_MOST_TIMES a_MARKS a_SIGNS a_BadNumber a_BadText a_BadTurn a_ElseputError a_Reader a_Weaving)
    (c__law_is_int : Cal P w K mg base CX0 1 "_law_is_int" f__law_is_int fd__law_is_int ["_law_thing"] (sp__law_is_int K)) (c__law_same : Cal P w K mg base CX0 k "_law_same" f fd ["_law_actual", "_law_due"] (spSame n K)) (hk : 1 ≤ k) : FnOk P w K mg base CX0 (k + 1) f fd ["_law_actual", "_law_due"] (spSame (n + 1) K) := by
  refine F.ok sc__law_same (fun vs H Q E h => len_same h) (fun cdv A outer s H vs Q E hr h => ?_)
  obtain ⟨x, y, rfl, h, q⟩ := h
  refine ⟨_, (pss_cons (ps_if (pt_c op_isM (v_ 1) pe_non) (pss_one (ps_ret (pe_c op_isM (v_ 0) pe_non))) pss_nil) (pss_cons (ps_if (pt_c op_isM (v_ 1) pe_bl) (pss_one (ps_ret (pe_c op_isM (v_ 0) pe_bl))) pss_nil) (pss_cons (ps_if (pt_c op_isM (v_ 1) pe_bl) (pss_one (ps_ret (pe_c op_isM (v_ 0) pe_bl))) pss_nil) (pss_cons (ps_if (pt_t K (pe_callB (isiK K) (by rfl) T.z_isinstance (by decide +kernel) (pa_cons (v_ 1) (pa_cons (pe_bltn (v := .ty "int") (u := .type "int") (by rfl) T.z_int (by decide +kernel) rfl) pa_nil)))) (pss_one (ps_ret (pe_andM (pe_call c__law_is_int.G (hr.mono (by first | decide | omega)) rfl c__law_is_int.m c__law_is_int.kp c__law_is_int.b .nil pass0 (pa_cons (v_ 0) pa_nil)) (pe_one (pe_c (eqK K hr.units) (v_ 0) (v_ 1)))))) pss_nil) (pss_cons (ps_if (pt_t K (pe_callB (isiK K) (by rfl) T.z_isinstance (by decide +kernel) (pa_cons (v_ 1) (pa_cons (pe_bltn (v := .ty "str") (u := .type "str") (by rfl) T.z_str (by decide +kernel) rfl) pa_nil)))) (pss_one (ps_ret (pe_andM (pe_callB (isiK K) (by rfl) T.z_isinstance (by decide +kernel) (pa_cons (v_ 0) (pa_cons (pe_bltn (v := .ty "str") (u := .type "str") (by rfl) T.z_str (by decide +kernel) rfl) pa_nil))) (pe_one (pe_c (eqK K hr.units) (v_ 0) (v_ 1)))))) pss_nil) (pss_cons (ps_if (pt_t K (pe_callB (isiK K) (by rfl) T.z_isinstance (by decide +kernel) (pa_cons (v_ 1) (pa_cons (pe_bltn (v := .ty "dict") (u := .type "dict") (by rfl) T.z_dict (by decide +kernel) rfl) pa_nil)))) (pss_cons (ps_if (PW.pt (pw_or (pt_not (pt_t K (pe_callB (isiK K) (by rfl) T.z_isinstance (by decide +kernel) (pa_cons (v_ 0) (pa_cons (pe_bltn (v := .ty "dict") (u := .type "dict") (by rfl) T.z_dict (by decide +kernel) rfl) pa_nil))))) (pw_or1 (pt_c (neK K hr.units) (pe_callB (lenK K) (by rfl) T.z_len PySem.boot_len (pa_cons (v_ 0) pa_nil)) (pe_callB (lenK K) (by rfl) T.z_len PySem.boot_len (pa_cons (v_ 1) pa_nil)))))) (pss_one (ps_ret pe_bl)) pss_nil) (pss_cons (ps_lock (ps_for PassesOwn.never rfl (pi_keys (v_ 1)) (pg_name (i := 3) sc__law_same.nd rfl (.inl rfl)) (pss_one (ps_if (PW.pt (pw_or (pt_cmp (pc_dnotin (hu_of hr) (v_ 3) (v_ 0))) (pw_or1 (pt_not (pt_t K (pe_call c__law_same.G (hr.mono (by first | decide | omega)) rfl c__law_same.m c__law_same.kp c__law_same.b .nil pass0 (pa_cons (pe_dget (hu_of hr) (v_ 0) (v_ 3) (fun _ _ => rfl)) (pa_cons (pe_dget (hu_of hr) (v_ 1) (v_ 3) (fun _ _ => rfl)) pa_nil)))))))) (pss_one (ps_ret pe_bl)) pss_nil)))) (pss_one (ps_ret pe_bl)))) pss_nil) (pss_cons (ps_if (PW.pt (pw_and (pt_t K (pe_callB (isiK K) (by rfl) T.z_isinstance (by decide +kernel) (pa_cons (v_ 1) (pa_cons (pe_bltn (v := .ty "list") (u := .type "list") (by rfl) T.z_list (by decide +kernel) rfl) pa_nil)))) (pw_and1 (pt_not (pt_t K (pe_callB (isiK K) (by rfl) T.z_isinstance (by decide +kernel) (pa_cons (v_ 0) (pa_cons (pe_bltn (v := .ty "list") (u := .type "list") (by rfl) T.z_list (by decide +kernel) rfl) pa_nil)))))))) (pss_one (ps_ret pe_bl)) pss_nil) (pss_cons (ps_if (PW.pt (pw_and (pt_t K (pe_callB (isiK K) (by rfl) T.z_isinstance (by decide +kernel) (pa_cons (v_ 1) (pa_cons (pe_bltn (v := .ty "tuple") (u := .type "tuple") (by rfl) T.z_tuple (by decide +kernel) rfl) pa_nil)))) (pw_and1 (pt_not (pt_t K (pe_callB (isiK K) (by rfl) T.z_isinstance (by decide +kernel) (pa_cons (v_ 0) (pa_cons (pe_bltn (v := .ty "tuple") (u := .type "tuple") (by rfl) T.z_tuple (by decide +kernel) rfl) pa_nil)))))))) (pss_one (ps_ret pe_bl)) pss_nil) (pss_cons (ps_if (pt_c (neK K hr.units) (pe_callB (lenK K) (by rfl) T.z_len PySem.boot_len (pa_cons (v_ 0) pa_nil)) (pe_callB (lenK K) (by rfl) T.z_len PySem.boot_len (pa_cons (v_ 1) pa_nil))) (pss_one (ps_ret pe_bl)) pss_nil) (pss_cons (ps_for PassesOwn.never rfl (pi_range1 rfl T.z_range (pa_cons (pe_callB (lenK K) (by rfl) T.z_len PySem.boot_len (pa_cons (v_ 1) pa_nil)) pa_nil)) (pg_name (i := 2) sc__law_same.nd rfl (.inl rfl)) (pss_one (ps_if (pt_not (pt_t K (pe_call c__law_same.G (hr.mono (by first | decide | omega)) rfl c__law_same.m c__law_same.kp c__law_same.b .nil pass0 (pa_cons (e_x K (v_ 0) (v_ 2)) (pa_cons (e_x K (v_ 1) (v_ 2)) pa_nil))))) (pss_one (ps_ret pe_bl)) pss_nil))) (pss_one (ps_ret pe_bl)))))))))))), ?_⟩
  rcases h with ⟨rfl, ⟨i, rfl⟩ | ⟨z, rfl⟩ | ⟨c, rfl⟩ | rfl⟩ | ⟨a, b, xs, ys, rfl, rfl, ha, hb, hl, h1, hs⟩ | ⟨a, b, xs, ys, rfl, rfl, ha, hb, hl, h1, hs⟩ | ⟨a, b, ks, ls, rfl, rfl, ha, hb, hl, hn, hs⟩
  · refine ⟨_, _, _, _, true, rfl, .ty _, .base (.int i), kit_ty (by decide +kernel), ?_⟩
    refine ⟨i, rfl, ?_⟩
    have e : decide (i = i) = true := decide_eq_true rfl
    rw [← e] at q
    exact q
  · refine ⟨_, _, _, _, false, rfl, .ty _, .base (.str z), kit_ty (by decide +kernel), ?_⟩
    refine ⟨_, _, _, _, true, rfl, .ty _, .base (.str z), kit_ty (by decide +kernel), ?_⟩
    refine ⟨_, _, _, _, true, rfl, .ty _, .base (.str z), kit_ty (by decide +kernel), ?_⟩
    have e : decide (z = z) = true := decide_eq_true rfl
    rw [← e] at q
    exact q
  · cases c with
    | true => exact q
    | false => exact q
  · exact q
  · have tb := ty_tup hb
    refine ⟨_, _, _, _, false, rfl, .ty _, tb, kit_ty (by decide +kernel), ?_⟩
    refine ⟨_, _, _, _, false, rfl, .ty _, tb, kit_ty (by decide +kernel), ?_⟩
    refine ⟨_, _, _, _, false, rfl, .ty _, tb, kit_ty (by decide +kernel), ?_⟩
    refine ⟨_, _, _, _, false, rfl, .ty _, tb, kit_ty (by decide +kernel), ?_⟩
    refine ⟨_, _, _, _, true, rfl, .ty _, tb, kit_ty (by decide +kernel), ?_⟩
    refine ⟨_, _, _, _, true, rfl, .ty _, ty_tup ha, kit_ty (by decide +kernel), ?_⟩
    refine .inl ⟨_, .inr ha, .inl ⟨_, .inr hb, ?_⟩⟩
    refine ite2 (fun e => ?_) (fun _ => ?_)
    · exact absurd e (by rw [hl]; simp)
    refine .inl ⟨_, .inr hb, _, rfl, by omega, by omega, ?_⟩
    refine for_range (lo := 0) (n := ys.length) (fun i σ' H' => H' = H ∧ ∃ y, σ' = [some (.ref a), some (.ref b), y, none]) ⟨rfl, _, rfl⟩ ?_ ?_
    · rintro i σ' H' hi ⟨rfl, y, rfl⟩
      have ex := List.getElem?_eq_getElem (l := xs) (i := i) (by omega)
      have ey := List.getElem?_eq_getElem (l := ys) hi
      refine ⟨_, .inr ha, xs[i], ?_, _, .inr hb, ys[i], ?_, _, _, rfl, hs i _ _ ex ey, ?_⟩
      · rw [show (0 : Int) + i = ((i : Nat) : Int) by omega]
        exact atI_nat ex
      · rw [show (0 : Int) + i = ((i : Nat) : Int) by omega]
        exact atI_nat ey
      exact ⟨rfl, _, rfl⟩
    · rintro σ' H' ⟨rfl, y, rfl⟩
      exact q
  · have tb : TyX K H (.ref b) (.type "list") := .base (.lst hb)
    refine ⟨_, _, _, _, false, rfl, .ty _, tb, kit_ty (by decide +kernel), ?_⟩
    refine ⟨_, _, _, _, false, rfl, .ty _, tb, kit_ty (by decide +kernel), ?_⟩
    refine ⟨_, _, _, _, false, rfl, .ty _, tb, kit_ty (by decide +kernel), ?_⟩
    refine ⟨_, _, _, _, true, rfl, .ty _, tb, kit_ty (by decide +kernel), ?_⟩
    refine ⟨_, _, _, _, true, rfl, .ty _, .base (.lst ha), kit_ty (by decide +kernel), ?_⟩
    refine ⟨_, _, _, _, false, rfl, .ty _, tb, kit_ty (by decide +kernel), ?_⟩
    refine .inl ⟨_, .inl (SqL.of ha), .inl ⟨_, .inl (SqL.of hb), ?_⟩⟩
    refine ite2 (fun e => ?_) (fun _ => ?_)
    · exact absurd e (by rw [hl]; simp)
    refine .inl ⟨_, .inl (SqL.of hb), _, rfl, by omega, by omega, ?_⟩
    refine for_range (lo := 0) (n := ys.length) (fun i σ' H' => H' = H ∧ ∃ y, σ' = [some (.ref a), some (.ref b), y, none]) ⟨rfl, _, rfl⟩ ?_ ?_
    · rintro i σ' H' hi ⟨rfl, y, rfl⟩
      have ex := List.getElem?_eq_getElem (l := xs) (i := i) (by omega)
      have ey := List.getElem?_eq_getElem (l := ys) hi
      refine ⟨_, .inl (SqL.of ha), xs[i], ?_, _, .inl (SqL.of hb), ys[i], ?_, _, _, rfl, hs i _ _ ex ey, ?_⟩
      · rw [show (0 : Int) + i = ((i : Nat) : Int) by omega]
        exact atI_nat ex
      · rw [show (0 : Int) + i = ((i : Nat) : Int) by omega]
        exact atI_nat ey
      exact ⟨rfl, _, rfl⟩
    · rintro σ' H' ⟨rfl, y, rfl⟩
      exact q
  · have tb : TyX K H (.ref b) (.type "dict") := .base (.dK hb)
    refine ⟨_, _, _, _, false, rfl, .ty _, tb, kit_ty (by decide +kernel), ?_⟩
    refine ⟨_, _, _, _, false, rfl, .ty _, tb, kit_ty (by decide +kernel), ?_⟩
    refine ⟨_, _, _, _, true, rfl, .ty _, tb, kit_ty (by decide +kernel), ?_⟩
    refine ⟨_, _, _, _, true, rfl, .ty _, .base (.dK ha), kit_ty (by decide +kernel), ?_⟩
    refine .inr ⟨_, ha, .inr ⟨_, hb, ?_⟩⟩
    refine ite2 (fun e => absurd e (by rw [hl]; simp)) (fun _ => ?_)
    refine ⟨b, .dK ls, hb, True.intro, fun od => ?_⟩
    refine ⟨b, od, rfl, .inl ⟨ls, upd_same, ?_⟩⟩
    have rb : Rd (upd H b (.frz od (.dK ls))) b (.dK ls) := .inr ⟨od, upd_same⟩
    have ra : ∃ ks', ks' = ks ∧ Rd (upd H b (.frz od (.dK ls))) a (.dK ks') := by
      by_cases e : a = b
      · rw [e, hb] at ha
        cases ha
        exact ⟨_, rfl, e ▸ rb⟩
      · exact ⟨ks, rfl, .inl (by rw [upd_ne e]; exact ha)⟩
    obtain ⟨_, rfl, ra⟩ := ra
    refine for_it walk_keys (fun i σ' H' => H' = upd H b (.frz od (.dK ls)) ∧ ∃ y, σ' = [some (.ref a), some (.ref b), none, y]) ⟨rfl, _, rfl⟩ (fun i σ' H' _ h => by rw [h.1]; exact upd_same) ?_ ?_
    · rintro i x σ' H2 H3 hi ⟨rfl, y, rfl⟩ ⟨rfl, k, v, hk, rfl⟩
      obtain ⟨m, hm, h1, h2⟩ := hs i k v hk
      have ga : DGet (upd H b (.frz od (.dK ls))) a (kV k) (some m) := .inl ⟨_, k, ra, rfl, h2.symm⟩
      have gb : DGet (upd H b (.frz od (.dK ls))) b (kV k) (some m) := .inl ⟨_, k, rb, rfl, h1.symm⟩
      refine ⟨a, _, rfl, ga, _, rfl, ?_⟩
      refine ⟨a, _, rfl, ga, b, _, rfl, gb, _, _, rfl, ?_, ?_⟩
      · cases n with
        | zero => exact absurd rfl hn
        | succ n => exact same_fl hm
      · exact ⟨rfl, _, rfl⟩
    · rintro σ' H2 ⟨rfl, y, rfl⟩
      refine ⟨upd_same, ?_⟩
      rw [upd_upd, upd_id hb]
      exact q
theorem same_all {f : Addr} {fd : FuncData} {f__law_is_int : Addr} {fd__law_is_int : FuncData} (F : Fun K "_law_same" "_law_same" s__law_same f fd) (T : Gs K mg t_BOUND t_DIGITS t_LETTERS t_LONGEST_INTEGER t_MOST_TIMES a_MARKS a_SIGNS a_BadNumber a_BadText a_BadTurn a_ElseputError a_Reader a_Weaving)
    (c__law_is_int : Cal P w K mg base CX0 1 "_law_is_int" f__law_is_int fd__law_is_int ["_law_thing"] (sp__law_is_int K)) (b : Binds K fd ["_law_actual", "_law_due"] []) (kp : PySem.W.keepIn K (.ref f) = true) (m : mg "_law_same" = some (.ref f)) :
    ∀ n : Nat, FnOk P w K mg base CX0 (n + 2) f fd ["_law_actual", "_law_due"] (spSame n K)
  | 0 => ⟨fun _ _ _ _ h => len_same h, by
    intro A outer s H args us vs Q E _ _ _ _ h
    obtain ⟨_, _, _, h, _⟩ := h
    exact False.elim h⟩
  | n + 1 => same_step F T c__law_is_int ⟨same_all F T c__law_is_int b kp m n, b, kp, m⟩ (by omega)
def sp__law_same : PySem.W.Frag → Sp := spSame 24
theorem ok__law_same {f : Addr} {fd : FuncData} {f__law_is_int : Addr} {fd__law_is_int : FuncData} (F : Fun K "_law_same" "_law_same" s__law_same f fd) (T : Gs K mg t_BOUND t_DIGITS t_LETTERS t_LONGEST_INTEGER t_MOST_TIMES a_MARKS a_SIGNS a_BadNumber a_BadText a_BadTurn a_ElseputError a_Reader a_Weaving)
    (c__law_is_int : Cal P w K mg base CX0 1 "_law_is_int" f__law_is_int fd__law_is_int ["_law_thing"] (sp__law_is_int K)) (b : Binds K fd ["_law_actual", "_law_due"] []) (kp : PySem.W.keepIn K (.ref f) = true) (m : mg "_law_same" = some (.ref f)) :
    FnOk P w K mg base CX0 26 f fd ["_law_actual", "_law_due"] (sp__law_same K) := same_all F T c__law_is_int b kp m 24
theorem same_int {H : Hp} {n : Nat} (i : Int) : SameV K H (n + 1) (.int i) (.int i) := same_fl (.inl ⟨i, rfl⟩)
theorem same_str {H : Hp} {n : Nat} (z : Str) : SameV K H (n + 1) (.str z) (.str z) := same_fl (.inr (.inl ⟨z, rfl⟩))
theorem same_bl {H : Hp} {n : Nat} (b : Bool) : SameV K H (n + 1) (.bl b) (.bl b) := same_fl (.inr (.inr (.inl ⟨b, rfl⟩)))
theorem same_tupN {H : Hp} {t u : Addr} {xs ys : List V} {n : Nat} (h1 : SqT K H t xs) (h2 : SqT K H u ys) (hl : xs.length = ys.length) (h4 : ys.length ≤ 1000) (h : ∀ (i : Nat) (a b : V), xs[i]? = some a → ys[i]? = some b → SameV K H n a b) : SameV K H (n + 1) (.ref t) (.ref u) :=
  .inr (.inl ⟨t, u, _, _, rfl, rfl, h1, h2, hl, h4, h⟩)
theorem same_two {H : Hp} {t u : Addr} {w : Str} {x y : V} {m : Nat} (h1 : SqT K H t [.str w, x]) (h2 : SqT K H u [.str w, y]) (h : SameV K H (m + 1) x y) : SameV K H (m + 2) (.ref t) (.ref u) := by
  refine same_tupN h1 h2 rfl (by show 2 ≤ 1000; decide) fun i a b ha hb => ?_
  match i, ha, hb with
  | 0, ha, hb => cases ha; cases hb; exact same_str _
  | 1, ha, hb => cases ha; cases hb; exact h
theorem same_strs {H : Hp} {t u : Addr} {zs : List Str} {n : Nat} (h1 : SqT K H t (zs.map V.str)) (h2 : SqT K H u (zs.map V.str)) (hl : zs.length ≤ 1000) : SameV K H (n + 2) (.ref t) (.ref u) := by
  refine same_tupN h1 h2 rfl (by rw [List.length_map]; exact hl) fun i a b ha hb => ?_
  rw [ha] at hb
  cases hb
  rw [List.getElem?_map] at ha
  obtain ⟨z, hz, rfl⟩ := Option.map_eq_some_iff.mp ha
  exact same_str z
end
section
variable {P : Program} {w : World} {K : PySem.W.Frag} {mg : Str → Option Value} {base : Heap}
variable {t_BOUND t_DIGITS t_LETTERS t_LONGEST_INTEGER t_MOST_TIMES : Tok} {a_MARKS a_SIGNS a_BadNumber a_BadText a_BadTurn a_ElseputError a_Reader a_Weaving : Addr}
theorem letters_cps : letters.cps.toList = El.LT := by decide +kernel
theorem digits_cps : ("0123456789" : Str).cps.toList = DG := by decide +kernel
theorem at_head {z : Str} (h : 0 < z.length) : atI z.cps.toList 0 = some (z.cps.toList.headD 0) := by
  have h2 := len_cps z
  cases e : z.cps.toList with
  | nil => rw [e] at h2; rw [← h2] at h; exact absurd h (by decide)
  | cons a r => exact atI_nat (j := 0) rfl
theorem at_last {z : Str} (h : 0 < z.length) : atI z.cps.toList (-1) = some (z.cps.toList.getLastD 0) := by
  have h2 := len_cps z
  generalize z.cps.toList = xs at h2 ⊢
  have hp : 0 < xs.length := by omega
  unfold atI ixN
  rw [if_neg (by decide), if_pos (by omega)]
  show xs[((-1 : Int) + (xs.length : Int)).toNat]? = _
  rw [show ((-1 : Int) + (xs.length : Int)).toNat = xs.length - 1 by omega, ← List.getLast?_eq_getElem?]
  cases xs with
  | nil => exact absurd hp (by decide)
  | cons a r => rw [List.getLast?_cons, List.getLastD_cons, List.getLastD_eq_getLast?]
theorem inV_strC {z : Str} : ∀ {xs : List Str}, inV (.str z) (xs.map V.str) = decide (z.cps.toList ∈ xs.map (·.cps.toList))
  | [] => rfl
  | a :: r => by
    have ih := inV_strC (z := z) (xs := r)
    unfold inV at ih ⊢
    rw [List.map_cons, List.any_cons, ih, List.map_cons]
    have : eqV (.str a) (.str z) = decide (z.cps.toList = a.cps.toList) := by
      show (a == z) = _
      rw [Bool.eq_iff_iff, beq_iff_eq, decide_eq_true_iff, str_eq, eq_comm]
    rw [this, Bool.eq_iff_iff, Bool.or_eq_true, decide_eq_true_iff, decide_eq_true_iff, decide_eq_true_iff, List.mem_cons]
theorem one_eq {c d : Nat} {s : Str} (h : s.cps.toList = [d]) : ((⟨#[c]⟩ : Str) = s) ↔ c = d := by
  rw [str_eq, h, one_cps]
  simp
/-! ### run_end -/
def runN (f : Nat → Bool) (l : List Nat) : Nat := (l.takeWhile f).length
theorem runN_le (f : Nat → Bool) (l : List Nat) : runN f l ≤ l.length := (List.takeWhile_sublist f).length_le
def sp_run_end (K : PySem.W.Frag) : Sp := fun vs H Q _ => ∃ (z cs : Str) (a : Nat), vs = [.str z, .int a, .str cs] ∧ a ≤ z.length ∧ z.length ≤ 20000 ∧ Q (.int ((a + runN (fun c => decide (c ∈ cs.cps.toList)) (z.cps.toList.drop a) : Nat) : Int)) H
theorem len_run_end {vs : List V} {H : Hp} {Q : VK} {E : XK} (h : sp_run_end K vs H Q E) : vs.length = 3 := by
  obtain ⟨_, _, _, rfl, _⟩ := h
  rfl
theorem drop_cons {z : Str} {e : Nat} (h : e < z.length) : ∃ c, z.cps.toList[e]? = some c ∧ z.cps.toList.drop e = c :: z.cps.toList.drop (e + 1) := by
  have hl : e < z.cps.toList.length := by rw [len_cps]; exact h
  exact ⟨_, List.getElem?_eq_getElem hl, List.drop_eq_getElem_cons hl⟩
theorem ok_run_end {f : Addr} {fd : FuncData} (F : Fun K "run_end" "run_end" s_run_end f fd) (T : Gs K mg t_BOUND t_DIGITS t_LETTERS t_LONGEST_INTEGER t_MOST_TIMES a_MARKS a_SIGNS a_BadNumber a_BadText a_BadTurn a_ElseputError a_Reader a_Weaving) : FnOk P w K mg base CX0 1 f fd ["line", "at", "characters"] (sp_run_end K) := by
  refine F.ok sc_run_end (fun vs H Q E h => len_run_end h) (fun cdv A outer s H vs Q E hr h => ?_)
  obtain ⟨z, cs, a, rfl, ha, hz, q⟩ := h
  refine ⟨_, (pss_cons (ps_set (i := 3) sc_run_end.nd rfl (.inl rfl) (v_ 1)) (pss_cons (ps_while PassesOwn.never (PW.pt (pw_and (pt_c op_ltM (v_ 3) (pe_callB (lenK K) (by rfl) T.z_len PySem.boot_len (pa_cons (v_ 0) pa_nil))) (pw_and1 (pt_c (inK K) (e_x K (v_ 0) (v_ 3)) (v_ 2))))) (pss_one (ps_aug (i := 3) sc_run_end.nd rfl (.inl rfl) pe_int ip_add))) (pss_one (ps_ret (v_ 3))))), ?_⟩
  generalize hf : (fun c => decide (c ∈ cs.cps.toList)) = f at q
  refine ⟨fun m σ' H' => ∃ e : Nat, m = z.length - e ∧ a ≤ e ∧ e ≤ z.length ∧ σ' = [some (.str z), some (.int a), some (.str cs), some (.int e)] ∧ H' = H ∧ a + runN f (z.cps.toList.drop a) = e + runN f (z.cps.toList.drop e), ⟨_, a, rfl, Nat.le_refl _, ha, rfl, rfl, rfl⟩, ?_⟩
  rintro m σ' H' ⟨e, rfl, h1, h2, rfl, rfl, he⟩
  refine ⟨line_of (by omega), ?_⟩
  have stop : runN f (z.cps.toList.drop e) = 0 → Q (.int e) H' := fun h => by
    rw [he, h, Nat.add_zero] at q
    exact q
  refine ite2 (fun e1 => ?_) (fun e1 => ?_)
  · have e1 : (e : Int) < z.length := of_decide_eq_true e1
    obtain ⟨c, hc, hd⟩ := drop_cons (z := z) (e := e) (by omega)
    refine ⟨line_of (by omega), c, atI_nat hc, c, rfl, ?_⟩
    have hfc : decide (c ∈ cs.cps.toList) = f c := by rw [← hf]
    cases hb : f c with
    | true =>
      have : decide (c ∈ cs.cps.toList) = true := hfc.trans hb
      simp only [this, if_true]
      refine ⟨fun σ2 H2 => ∃ m', m' < z.length - e ∧ ∃ e : Nat, m' = z.length - e ∧ a ≤ e ∧ e ≤ z.length ∧ σ2 = [some (.str z), some (.int a), some (.str cs), some (.int e)] ∧ H2 = H' ∧ a + runN f (z.cps.toList.drop a) = e + runN f (z.cps.toList.drop e), fun _ _ h => h, ?_⟩
      refine ⟨_, rfl, _, _, rfl, rfl, _, (by omega : z.length - (e + 1) < z.length - e), e + 1, rfl, by omega, by omega, ?_, rfl, ?_⟩
      · rfl
      · rw [he, hd]
        unfold runN
        rw [List.takeWhile_cons, hb, if_pos rfl, List.length_cons]
        omega
    | false =>
      have : decide (c ∈ cs.cps.toList) = false := hfc.trans hb
      simp only [this, Bool.false_eq_true, if_false]
      refine stop ?_
      rw [hd]
      unfold runN
      rw [List.takeWhile_cons, hb]
      rfl
  · have e1 : ¬ (e : Int) < z.length := of_decide_eq_false (Bool.eq_false_iff.mpr e1)
    refine stop ?_
    have h3 : (z.cps.toList.drop e).length = 0 := by
      rw [List.length_drop, len_cps]
      omega
    have := runN_le f (z.cps.toList.drop e)
    omega

/-! ### token_end -/
theorem cutS_mid {z : Str} {a b : Nat} (h : a ≤ b) : (cutS z (some (a : Int)) (some (b : Int))).cps.toList = (z.cps.toList.drop a).take (b - a) := by
  unfold cutS
  rw [List.toList_toArray, HT.sIx_nat, HT.sIx_nat]
  by_cases ha : a ≤ z.length
  · rw [Nat.min_eq_left ha, List.take_eq_take_iff, List.length_drop, len_cps]
    omega
  · rw [Nat.min_eq_right (by omega : z.length ≤ a), List.drop_of_length_le (by rw [len_cps]; exact Nat.le_refl _), List.drop_of_length_le (by rw [len_cps]; omega), List.take_nil, List.take_nil]
theorem tokLen_run (c : Nat) (r : List Nat) : tokLen (c :: r) = if isL c then runN isL (c :: r) else if isD c then runN isD (c :: r) else if c = 45 then (if runN isD r = 0 then 0 else 1 + runN isD r) else if inSM ((c :: r).take 2) then ((c :: r).take 2).length else if inSM [c] then 1 else 0 := rfl
theorem isL_fn : (fun c => decide (c ∈ letters.cps.toList)) = isL := funext fun c => by rw [letters_cps]; rfl
theorem isD_fn : (fun c => decide (c ∈ ("0123456789" : Str).cps.toList)) = isD := funext fun c => by rw [digits_cps]; rfl
def sp_token_end (K : PySem.W.Frag) : Sp := fun vs H Q _ => ∃ (z : Str) (a : Nat), vs = [.str z, .int a] ∧ a < z.length ∧ z.length ≤ 20000 ∧ ∀ H', Same H H' → Q (.int ((a + tokLen (z.cps.toList.drop a) : Nat) : Int)) H'
theorem len_token_end {vs : List V} {H : Hp} {Q : VK} {E : XK} (h : sp_token_end K vs H Q E) : vs.length = 2 := by
  obtain ⟨_, _, rfl, _⟩ := h
  rfl
theorem sg_in {z : Str} : inV (.str z) [.str "<", .str "<=", .str "==", .str "!=", .str ">=", .str ">"] = decide (z.cps.toList ∈ SG) := by
  refine (inV_strC (z := z) (xs := ["<", "<=", "==", "!=", ">=", ">"])).trans ?_
  rw [show (["<", "<=", "==", "!=", ">=", ">"] : List Str).map (·.cps.toList) = SG by decide +kernel]
theorem mk_in {z : Str} : inV (.str z) [.str "(", .str ")", .str ",", .str ";", .str ":"] = decide (z.cps.toList ∈ MK) := by
  refine (inV_strC (z := z) (xs := ["(", ")", ",", ";", ":"])).trans ?_
  rw [show (["(", ")", ",", ";", ":"] : List Str).map (·.cps.toList) = MK by decide +kernel]
theorem ok_token_end {f : Addr} {fd : FuncData} {f_run_end : Addr} {fd_run_end : FuncData} (F : Fun K "token_end" "token_end" s_token_end f fd) (T : Gs K mg t_BOUND t_DIGITS t_LETTERS t_LONGEST_INTEGER t_MOST_TIMES a_MARKS a_SIGNS a_BadNumber a_BadText a_BadTurn a_ElseputError a_Reader a_Weaving) (c_run_end : Cal P w K mg base CX0 1 "run_end" f_run_end fd_run_end ["line", "at", "characters"] (sp_run_end K)) : FnOk P w K mg base CX0 2 f fd ["line", "at"] (sp_token_end K) := by
  refine F.ok sc_token_end (fun vs H Q E h => len_token_end h) (fun cdv A outer s H vs Q E hr h => ?_)
  obtain ⟨z, a, rfl, ha, hz, q⟩ := h
  refine ⟨_, (pss_cons (ps_if (pt_c (inK K) (e_x K (v_ 0) (v_ 1)) (pe_glob (v := .str "abcdefghijklmnopqrstuvwxyz") rfl T.g_LETTERS ⟨_, rfl⟩)) (pss_one (ps_ret (pe_call c_run_end.G (hr.mono (by first | decide | omega)) rfl c_run_end.m c_run_end.kp c_run_end.b .nil pass0 (pa_cons (v_ 0) (pa_cons (v_ 1) (pa_cons (pe_glob (v := .str "abcdefghijklmnopqrstuvwxyz") rfl T.g_LETTERS ⟨_, rfl⟩) pa_nil)))))) pss_nil) (pss_cons (ps_if (pt_c (inK K) (e_x K (v_ 0) (v_ 1)) (pe_glob (v := .str "0123456789") rfl T.g_DIGITS ⟨_, rfl⟩)) (pss_one (ps_ret (pe_call c_run_end.G (hr.mono (by first | decide | omega)) rfl c_run_end.m c_run_end.kp c_run_end.b .nil pass0 (pa_cons (v_ 0) (pa_cons (v_ 1) (pa_cons (pe_glob (v := .str "0123456789") rfl T.g_DIGITS ⟨_, rfl⟩) pa_nil)))))) pss_nil) (pss_cons (ps_if (pt_c (eqK K hr.units) (e_x K (v_ 0) (v_ 1)) pe_str) (pss_cons (ps_set (i := 3) sc_token_end.nd rfl (.inl rfl) (pe_call c_run_end.G (hr.mono (by first | decide | omega)) rfl c_run_end.m c_run_end.kp c_run_end.b .nil pass0 (pa_cons (v_ 0) (pa_cons (pe_op (addK K) (v_ 1) pe_int) (pa_cons (pe_glob (v := .str "0123456789") rfl T.g_DIGITS ⟨_, rfl⟩) pa_nil))))) (pss_one (ps_ret (pe_ifExp (pt_c op_gtM (v_ 3) (pe_op (addK K) (v_ 1) pe_int)) (v_ 3) (v_ 1))))) pss_nil) (pss_cons (ps_for PassesOwn.never rfl (pi_tup (pe_tup (pa_cons (pe_slice (slK K) (v_ 0) (po_some (v_ 1)) (po_some (pe_op (addK K) (v_ 1) pe_int))) (pa_cons (e_x K (v_ 0) (v_ 1)) pa_nil)))) (pg_name (i := 2) sc_token_end.nd rfl (.inl rfl)) (pss_one (ps_if (PW.pt (pw_or (pt_c (inK K) (v_ 2) (pe_glob (v := .ref a_SIGNS) rfl T.g_SIGNS rfl)) (pw_or1 (pt_c (inK K) (v_ 2) (pe_glob (v := .ref a_MARKS) rfl T.g_MARKS rfl))))) (pss_one (ps_ret (pe_op (addK K) (v_ 1) (pe_callB (lenK K) (by rfl) T.z_len PySem.boot_len (pa_cons (v_ 2) pa_nil))))) pss_nil))) (pss_one (ps_ret (v_ 1))))))), ?_⟩
  obtain ⟨c, hc, hd⟩ := drop_cons (z := z) (e := a) (by omega)
  have hl : z.length ≤ sizeLine := line_of (by omega)
  have bf : ∀ {c : Bool}, ¬ c = true → c = false := fun h => Bool.eq_false_iff.mpr h
  have mL : decide (c ∈ letters.cps.toList) = isL c := congrFun isL_fn c
  have mD : decide (c ∈ ("0123456789" : Str).cps.toList) = isD c := congrFun isD_fn c
  have m45 : decide ((⟨#[c]⟩ : Str) = "-") = decide (c = 45) := by
    rw [Bool.eq_iff_iff, decide_eq_true_iff, decide_eq_true_iff, one_eq (d := 45) rfl]
  have q1 : ∀ {n : Nat} {H' : Hp}, Same H H' → tokLen (z.cps.toList.drop a) = n → Q (.int ((a + n : Nat) : Int)) H' := fun s e => e ▸ q _ s
  rw [hd, tokLen_run] at q1
  refine ⟨hl, c, atI_nat hc, c, rfl, ?_⟩
  refine ite2 (fun e1 => ?_) (fun e1 => ?_)
  · have e1 : isL c = true := mL.symm.trans e1
    refine ⟨z, _, a, rfl, by omega, hz, ?_⟩
    have := q1 (Same.refl H) (if_pos e1)
    rw [← hd] at this
    have e : (fun c => decide (c ∈ letters.cps.toList)) = isL := isL_fn
    rw [e]
    exact this
  have e1 : isL c = false := mL.symm.trans (bf e1)
  refine ⟨hl, c, atI_nat hc, c, rfl, ?_⟩
  refine ite2 (fun e2 => ?_) (fun e2 => ?_)
  · have e2 : isD c = true := mD.symm.trans e2
    refine ⟨z, _, a, rfl, by omega, hz, ?_⟩
    have := q1 (Same.refl H) ((if_neg (by rw [e1]; decide)).trans (if_pos e2))
    rw [← hd] at this
    have e : (fun c => decide (c ∈ ("0123456789" : Str).cps.toList)) = isD := isD_fn
    rw [e]
    exact this
  have e2 : isD c = false := mD.symm.trans (bf e2)
  have q2 : ∀ {n : Nat} {H' : Hp}, Same H H' → (if c = 45 then (if runN isD (z.cps.toList.drop (a + 1)) = 0 then 0 else 1 + runN isD (z.cps.toList.drop (a + 1))) else if inSM ((c :: z.cps.toList.drop (a + 1)).take 2) then ((c :: z.cps.toList.drop (a + 1)).take 2).length else if inSM [c] then 1 else 0) = n → Q (.int ((a + n : Nat) : Int)) H' := fun s e =>
    q1 s (((if_neg (by rw [e1]; decide)).trans (if_neg (by rw [e2]; decide))).trans e)
  refine ⟨hl, c, atI_nat hc, ?_⟩
  refine ite2 (fun e3 => ?_) (fun e3 => ?_)
  · have e3 : c = 45 := of_decide_eq_true (m45.symm.trans e3)
    refine ⟨z, _, a + 1, rfl, by omega, hz, ?_⟩
    have e : (fun c => decide (c ∈ ("0123456789" : Str).cps.toList)) = isD := isD_fn
    rw [e]
    generalize hk : runN isD (z.cps.toList.drop (a + 1)) = k at q2 ⊢
    have q2' := fun {n : Nat} (h : (if k = 0 then 0 else 1 + k) = n) => q2 (Same.refl H) ((if_pos e3).trans h)
    refine ite2 (fun e4 => ?_) (fun e4 => ?_)
    · have e4 : (a : Int) + 1 < ((a + 1 + k : Nat) : Int) := of_decide_eq_true e4
      have := q2' (if_neg (by omega))
      rw [← Nat.add_assoc] at this
      exact this
    · have e4 : ¬ (a : Int) + 1 < ((a + 1 + k : Nat) : Int) := of_decide_eq_false (bf e4)
      exact q2' (if_pos (by omega))
  have e3 : ¬ c = 45 := of_decide_eq_false (m45.symm.trans (bf e3))
  have q3 : ∀ {n : Nat} {H' : Hp}, Same H H' → (if inSM ((c :: z.cps.toList.drop (a + 1)).take 2) then ((c :: z.cps.toList.drop (a + 1)).take 2).length else if inSM [c] then 1 else 0) = n → Q (.int ((a + n : Nat) : Int)) H' := fun s e => q2 s ((if_neg e3).trans e)
  have hcut : (cutS z (some (a : Int)) (some ((a : Int) + 2))).cps.toList = (c :: z.cps.toList.drop (a + 1)).take 2 := by
    have := cutS_mid (z := z) (a := a) (b := a + 2) (by omega)
    rw [hd, show a + 2 - a = 2 by omega] at this
    exact this
  refine ⟨_, rfl, _, rfl, hl, hl, c, atI_nat hc, (by show 2 ≤ sizeLine; decide), fun t nt => ⟨t, rfl, ⟨_, .inl (.inl upd_same)⟩, ?_⟩⟩
  have hin : ∀ y : Str, inSM y.cps.toList = (inV (.str y) [.str "<", .str "<=", .str "==", .str "!=", .str ">=", .str ">"] || inV (.str y) [.str "(", .str ")", .str ",", .str ";", .str ":"]) := fun y => by
    rw [sg_in, mk_in]
    rfl
  have sm : Same H (upd H t (.tup [.str (cutS z (some (a : Int)) (some ((a : Int) + 2))), .str ⟨#[c]⟩])) := same_new nt
  refine for_tup (K := K) (a := t) (xs := [.str (cutS z (some (a : Int)) (some ((a : Int) + 2))), .str ⟨#[c]⟩]) (fun i σ' H' => H' = upd H t (.tup [.str (cutS z (some (a : Int)) (some ((a : Int) + 2))), .str ⟨#[c]⟩]) ∧ (∃ y w, σ' = [some (.str z), some (.int a), y, w]) ∧
    (1 ≤ i → inSM ((c :: z.cps.toList.drop (a + 1)).take 2) = false) ∧ (2 ≤ i → inSM [c] = false)) ⟨rfl, ⟨_, _, rfl⟩, fun h => absurd h (by decide), fun h => absurd h (by decide)⟩ (fun i σ' H' _ h => by rw [h.1]; exact .inl (.inl upd_same)) ?_ ?_
  · rintro i x σ' H' hi ⟨rfl, ⟨y, w, rfl⟩, g1, g2⟩
    obtain ⟨p, rfl, hp, hlen, hyes, hno⟩ : ∃ p : Str, x = .str p ∧ p.length ≤ 2 ∧ p.length ≤ sizeLine ∧ (inSM p.cps.toList = true → Q (.int ((a : Int) + p.length)) (upd H t (.tup [.str (cutS z (some (a : Int)) (some ((a : Int) + 2))), .str ⟨#[c]⟩]))) ∧
        (inSM p.cps.toList = false → (1 ≤ i + 1 → inSM ((c :: z.cps.toList.drop (a + 1)).take 2) = false) ∧ (2 ≤ i + 1 → inSM [c] = false)) := by
      match i, hi with
      | 0, hi =>
        cases hi
        have l2 : (cutS z (some (a : Int)) (some ((a : Int) + 2))).length = ((c :: z.cps.toList.drop (a + 1)).take 2).length := by rw [← hcut, len_cps]
        have l3 : ((c :: z.cps.toList.drop (a + 1)).take 2).length ≤ 2 := by rw [List.length_take]; omega
        refine ⟨_, rfl, by omega, line_of (by omega), fun h => ?_, fun h => ⟨fun _ => by rw [← hcut]; exact h, fun h2 => absurd h2 (by decide)⟩⟩
        rw [hcut] at h
        have := q3 sm (if_pos h)
        rw [← l2] at this
        exact this
      | 1, hi =>
        cases hi
        refine ⟨_, rfl, (by rw [one_len]; decide), line_of (by rw [one_len]; decide), fun h => ?_, fun h => ⟨fun _ => g1 (by decide), fun _ => h⟩⟩
        exact q3 sm ((if_neg (by rw [g1 (by decide)]; decide)).trans (if_pos h))
      | i + 2, hi => cases hi
    rw [hin] at hyes hno
    refine ⟨_, .inr (T.q_SIGNS _), rfl, rfl, ?_⟩
    refine ite2 (fun e5 => ?_) (fun e5 => ?_)
    · exact ⟨hlen, hyes (by rw [show inV (.str p) [.str "<", .str "<=", .str "==", .str "!=", .str ">=", .str ">"] = true from e5]; rfl)⟩
    refine ⟨_, .inr (T.q_MARKS _), rfl, rfl, ?_⟩
    refine ite2 (fun e6 => ?_) (fun e6 => ?_)
    · exact ⟨hlen, hyes (by rw [show inV (.str p) [.str "(", .str ")", .str ",", .str ";", .str ":"] = true from e6, Bool.or_true])⟩
    have := hno (by rw [show inV (.str p) [.str "<", .str "<=", .str "==", .str "!=", .str ">=", .str ">"] = false from bf e5, show inV (.str p) [.str "(", .str ")", .str ",", .str ";", .str ":"] = false from bf e6]; rfl)
    exact ⟨rfl, ⟨_, _, rfl⟩, this.1, this.2⟩
  · rintro σ' H' ⟨rfl, ⟨y, w, rfl⟩, g1, g2⟩
    have g1' := g1 (by show 1 ≤ 2; decide)
    have g2' := g2 (by show 2 ≤ 2; decide)
    exact q3 sm ((if_neg (by rw [g1']; decide)).trans (if_neg (by rw [g2']; decide)))

/-! ### split_line -/
def PairL (H : Hp) : List Addr → List (List Nat × Nat) → Prop
  | [], [] => True
  | t :: ts, x :: xs => (∃ z : Str, H t = some (.tup [.str z, .int (x.2 : Int)]) ∧ z.cps.toList = x.1) ∧ PairL H ts xs
  | _, _ => False
theorem PairL.same {H H' : Hp} (s : ∀ b o, (∃ z i, o = HO.tup [.str z, .int i]) → H b = some o → H' b = some o) : ∀ {ts : List Addr} {l : List (List Nat × Nat)}, PairL H ts l → PairL H' ts l
  | [], [], _ => trivial
  | t :: ts, x :: xs, ⟨⟨z, h1, h2⟩, h⟩ => ⟨⟨z, s _ _ ⟨_, _, rfl⟩ h1, h2⟩, PairL.same s h⟩
theorem PairL.snoc {H : Hp} {t : Addr} {z : Str} {n : Nat} (e : H t = some (.tup [.str z, .int (n : Int)])) : ∀ {ts : List Addr} {l : List (List Nat × Nat)}, PairL H ts l → PairL H (ts ++ [t]) (l ++ [(z.cps.toList, n)])
  | [], [], _ => ⟨⟨z, e, rfl⟩, trivial⟩
  | _ :: _, _ :: _, ⟨h1, h⟩ => ⟨h1, PairL.snoc e h⟩
theorem PairL.len {H : Hp} : ∀ {ts : List Addr} {l : List (List Nat × Nat)}, PairL H ts l → ts.length = l.length
  | [], [], _ => rfl
  | _ :: _, _ :: _, ⟨_, h⟩ => by rw [List.length_cons, List.length_cons, h.len]
/-- what split_line answers: the pairs, or the column of the strange sign in line num -/
def Splits (K : PySem.W.Frag) (H : Hp) (z : Str) (num : Int) (Q : VK) (E : XK) : Prop := match splitL z.cps.toList 1 with
  | .ok l => ∀ (H' : Hp) (p : Addr) (ts : List Addr), Same H H' → H p = none → H' p = some (.lst (ts.map V.ref)) → PairL H' ts l → Q (.ref p) H'
  | .error c => ∀ (C d : Addr) (H' : Hp), PySem.W.nsIn K mainGlobals "BadText" = some (some (.ref C)) → Same H H' → H d = none → H' d = some (.xd [("column", .int (c : Int)), ("line", .int num)]) → E (.ref C) (some d) H'
def sp_split_line (K : PySem.W.Frag) : Sp := fun vs H Q E => ∃ (z : Str) (num : Int), vs = [.str z, .int num] ∧ z.length ≤ 20000 ∧ 0 ≤ num ∧ num ≤ 100000 ∧ Splits K H z num Q E
theorem len_split_line {vs : List V} {H : Hp} {Q : VK} {E : XK} (h : sp_split_line K vs H Q E) : vs.length = 2 := by
  obtain ⟨_, _, rfl, _⟩ := h
  rfl
end
section
variable {P : Program} {w : World} {K : PySem.W.Frag} {mg : Str → Option Value} {base : Heap}
variable {t_BOUND t_DIGITS t_LETTERS t_LONGEST_INTEGER t_MOST_TIMES : Tok} {a_MARKS a_SIGNS a_BadNumber a_BadText a_BadTurn a_ElseputError a_Reader a_Weaving : Addr}
def okx_BadText (ws : List V) : Prop := ∃ l c : Int, ws = [.int l, .int c] ∧ 0 ≤ l ∧ l ≤ 100000 ∧ 0 ≤ c ∧ c ≤ 100000
def fs_BadText (ws : List V) : List (Str × V) := match ws with | [l, c] => [("column", c), ("line", l)] | _ => []
theorem ok_BadText {C f cc cda : Addr} {doc pm ct oc ccl cl : Value} {od cdd cld : Option Addr} {osl ccs csl : Array (Option Value)} {vs0 : Array Value} {file : Str} {tf : Tok} {cdD : ClassData}
    (X : ExK K C f ["line", "column"]) (lk : K.lookup f = some ⟨oc, od, .func (PySem.W.fnX "__init__" "BadText.__init__" (defArgs s_BadText) (defBody s_BadText) (defScope s_BadText) [("__class__", cc)] .none .none doc pm none (.ref cda) ct), osl⟩)
    (hcd : PySem.W.codeIn K (.ref cda) "BadText.__init__" = true) (hcode : K.lookup cda = some ⟨ccl, cdd, .fields vs0, ccs⟩) (hvs : vs0[2]? = some (.str file tf)) (hfile : ((P.main.file : Str) == file) = true)
    (hcell : K.lookup cc = some ⟨cl, cld, .cell (some (.ref C)), csl⟩) (hD : PySem.W.clsIn K C = some cdD) (hsuper : mg "super" = none) (hop : PySem.W.nsIn K PySem.cStatics "thirdparty.any" = some none) (htop : (P.main.scope.names.lookup ("super" : Str)).isSome = false) :
    FnOk P w K mg base CX0 1 f (PySem.W.fnX "__init__" "BadText.__init__" (defArgs s_BadText) (defBody s_BadText) (defScope s_BadText) [("__class__", cc)] .none .none doc pm none (.ref cda) ct) ["self", "line", "column"] (spE C okx_BadText fs_BadText) := by
  refine fn_super lk hcd sc_BadText hcode hvs hfile hcell hD hsuper hop rfl rfl rfl htop rfl (fun vs H Q E h => len_spE (n := 2) (fun ws h => by obtain ⟨_, _, rfl, _⟩ := h; rfl) h) (fun A outer s H vs Q E hr h => ?_) (fun _ => rfl) (fun _ => rfl) (fun _ => rfl)
  obtain ⟨a, ws, rfl, ⟨l, c, rfl, l0, l1, c0, c1⟩, ea, q⟩ := h
  refine ⟨a, C, _, _, rfl, ea, X.oex, X.mro, X.sup, X.subV, pa_cons (pe_joined (.cons pe_str (.cons (pe_fmt (v_ 1)) (.cons pe_str (.cons (pe_fmt (v_ 2)) .nil))))) pa_nil, pss_cons (ps_ost (v_ 0) (v_ 1)) (pss_one (ps_ost (v_ 0) (v_ 2))), ?_⟩
  have tl := text_small l0 l1
  have tc := text_small c0 c1
  have z0 : Str.empty.length = 0 := rfl
  have z1 : (Str.ofString "line ").length = 5 := rfl
  have z2 : (Str.ofString ", column ").length = 9 := rfl
  refine ⟨_, rfl, line_of (by rw [len_add]; omega), .inr ⟨_, rfl, log_small l0 l1, _, rfl, line_of (by rw [len_add, len_add]; omega), ?_⟩⟩
  refine ⟨_, rfl, line_of (by rw [len_add, len_add, len_add]; omega), .inr ⟨_, rfl, log_small c0 c1, _, rfl, line_of (by rw [len_add, len_add, len_add, len_add]; omega), ?_⟩⟩
  refine ⟨ea, (by show 1 ≤ 1000; decide), ?_⟩
  refine ⟨a, C, rfl, X.oex, X.no _ (by simp), .inl ⟨ea, ost1 ea fun dx H' n ne e1 e2 hh => ?_⟩⟩
  refine ⟨a, C, rfl, X.oex, X.no _ (by simp), .inr ⟨dx, _, e1, e2, (by show 1 ≤ 900; decide), ?_⟩⟩
  exact q dx _ n ne (by rw [upd_ne ne.symm]; exact e1) upd_same fun b h1 h2 => by rw [upd_ne h2]; exact hh b h1 h2

theorem ok_split_line {f : Addr} {fd : FuncData} {f_token_end : Addr} {fd_token_end : FuncData} {f_BadText : Addr} {fd_BadText : FuncData} (F : Fun K "split_line" "split_line" s_split_line f fd) (T : Gs K mg t_BOUND t_DIGITS t_LETTERS t_LONGEST_INTEGER t_MOST_TIMES a_MARKS a_SIGNS a_BadNumber a_BadText a_BadTurn a_ElseputError a_Reader a_Weaving) (c_token_end : Cal P w K mg base CX0 2 "token_end" f_token_end fd_token_end ["line", "at"] (sp_token_end K)) (c_BadText : CalE P w K mg base 1 "BadText" a_BadText f_BadText fd_BadText ["self", "line", "column"] okx_BadText fs_BadText ["line", "column"]) : FnOk P w K mg base (L2.CX P w) 3 f fd ["line", "number"] (sp_split_line K) := by
  refine F.okX sc_split_line (fun vs H Q E h => len_split_line h) (fun cdv A outer s H vs Q E hr h => ?_)
  obtain ⟨z, num, rfl, hz, n0, n1, q⟩ := h
  refine ⟨_, (pss_cons (ps_set (i := 2) sc_split_line.nd rfl (.inl rfl) (pe_lst pa_nil)) (pss_cons (ps_set (i := 3) sc_split_line.nd rfl (.inl rfl) pe_int) (pss_cons (ps_while (passes_of rfl) (pt_c op_ltM (v_ 3) (pe_callB (lenK K) (by rfl) T.z_len PySem.boot_len (pa_cons (v_ 0) pa_nil))) (pss_cons (ps_set (i := 4) sc_split_line.nd rfl (.inl rfl) (pe_call c_token_end.G (hr.mono (by first | decide | omega)) rfl c_token_end.m c_token_end.kp c_token_end.b .nil pass0 (pa_cons (v_ 0) (pa_cons (v_ 3) pa_nil)))) (pss_one (ps_if (pt_c op_gtM (v_ 4) (v_ 3)) (pss_cons (ps_expr (pe_bm PySem.F.plainAttrs_list PySem.F.slot_list_append PySem.F.type_list_append mt_append (v_ 2) (pa_cons (pe_tup (pa_cons (pe_slice (slK K) (v_ 0) (po_some (v_ 3)) (po_some (v_ 4))) (pa_cons (pe_op (addK K) (v_ 3) pe_int) pa_nil))) pa_nil))) (pss_one (ps_set (i := 3) sc_split_line.nd rfl (.inl rfl) (v_ 4)))) (pss_one (ps_if (pt_c (eqK K hr.units) (e_x K (v_ 0) (v_ 3)) pe_str) (pss_one (ps_aug (i := 3) sc_split_line.nd rfl (.inl rfl) pe_int ip_add)) (pss_one (ps_raise rfl (takes_of rfl rfl rfl rfl) (pmk_oex c_BadText.X.oex c_BadText.X.iC c_BadText.X.tI c_BadText.G (hr.mono (by first | decide | omega)) c_BadText.b .nil pass0 rfl c_BadText.m (pa_cons (v_ 1) (pa_cons (pe_op (addK K) (v_ 3) pe_int) pa_nil))))))))))) (pss_one (ps_ret (v_ 2)))))), ?_⟩
  have hl : z.length ≤ sizeLine := line_of (by omega)
  have bf : ∀ {c : Bool}, ¬ c = true → c = false := fun h => Bool.eq_false_iff.mpr h
  refine ⟨Nat.zero_le _, fun p np => ?_⟩
  refine ⟨fun m σ' H' => ∃ (e : Nat) (y : Option V) (ts : List Addr) (l0 : List (List Nat × Nat)), m = z.length - e ∧ e ≤ z.length ∧ σ' = [some (.str z), some (.int num), some (.ref p), some (.int e), y] ∧ Same H H' ∧ H' p = some (.lst (ts.map V.ref)) ∧ PairL H' ts l0 ∧ l0.length ≤ e ∧
    splitL z.cps.toList 1 = (match splitL (z.cps.toList.drop e) (1 + e) with | .ok l => .ok (l0 ++ l) | .error c => .error c), ⟨_, 0, _, [], [], rfl, Nat.zero_le _, rfl, same_new np, upd_same, trivial, Nat.le_refl _, ?_⟩, ?_⟩
  · rw [List.drop_zero]
    cases splitL z.cps.toList 1 <;> rfl
  rintro m σ' H' ⟨e, y, ts, l0, rfl, he, rfl, sm, hp, hts, hl0, hsp⟩
  refine ⟨hl, ?_⟩
  refine ite2 (fun e1 => ?_) (fun e1 => ?_)
  · have e1 : (e : Int) < z.length := of_decide_eq_true e1
    obtain ⟨c, hc, hd⟩ := drop_cons (z := z) (e := e) (by omega)
    have hk := tokLen_le (z.cps.toList.drop e)
    rw [List.length_drop, len_cps] at hk
    refine ⟨fun σ2 H2 => ∃ m', m' < z.length - e ∧ ∃ (e : Nat) (y : Option V) (ts : List Addr) (l0 : List (List Nat × Nat)), m' = z.length - e ∧ e ≤ z.length ∧ σ2 = [some (.str z), some (.int num), some (.ref p), some (.int e), y] ∧ Same H H2 ∧ H2 p = some (.lst (ts.map V.ref)) ∧ PairL H2 ts l0 ∧ l0.length ≤ e ∧
      splitL z.cps.toList 1 = (match splitL (z.cps.toList.drop e) (1 + e) with | .ok l => .ok (l0 ++ l) | .error c => .error c), fun _ _ h => h, ?_⟩
    refine ⟨z, e, rfl, by omega, hz, fun H2 s2 => ?_⟩
    have sm2 := sm.trans s2
    have hp2 := s2 _ _ hp
    have hts2 := hts.same fun b o _ h => s2 b o h
    generalize hkk : tokLen (z.cps.toList.drop e) = k at hk ⊢
    refine ite2 (fun e2 => ?_) (fun e2 => ?_)
    · have e2 : (e : Int) < ((e + k : Nat) : Int) := of_decide_eq_true e2
      have k0 : 0 < k := by omega
      refine ⟨.inl ⟨rfl, _, SqL.of hp2⟩, _, rfl, _, rfl, hl, (by show 2 ≤ sizeLine; decide), fun t nt => ⟨p, _, _, rfl, rfl, same_new nt _ _ hp2, line_lt (by rw [List.length_map, hts.len]; omega), ?_⟩⟩
      have pt : p ≠ t := ne_of_none hp2 nt
      have tH : H t = none := Same.free sm2 nt
      have ht : upd (upd H2 t (.tup [.str (cutS z (some (e : Int)) (some ((e + k : Nat) : Int))), .int ((e : Int) + 1)])) p (.lst (ts.map V.ref ++ [.ref t])) t = some (.tup [.str (cutS z (some (e : Int)) (some ((e + k : Nat) : Int))), .int (((1 + e : Nat) : Nat) : Int)]) := by
        rw [upd_ne pt.symm, upd_same, show (((1 + e : Nat) : Nat) : Int) = (e : Int) + 1 by omega]
      refine ⟨z.length - (e + k), by omega, e + k, _, ts ++ [t], l0 ++ [((z.cps.toList.drop e).take k, 1 + e)], rfl, by omega, rfl, ?_, ?_, ?_, ?_, ?_⟩
      · intro b o hb
        rw [upd_ne (ne_of_none hb np), upd_ne (ne_of_none hb tH)]
        exact sm2 b o hb
      · rw [upd_same, List.map_append]
        rfl
      · have h1 : PairL (upd (upd H2 t (.tup [.str (cutS z (some (e : Int)) (some ((e + k : Nat) : Int))), .int ((e : Int) + 1)])) p (.lst (ts.map V.ref ++ [.ref t]))) ts l0 := hts2.same fun b o ho hb => by
          obtain ⟨z', i', rfl⟩ := ho
          rw [upd_ne (ne_of hb hp2 (by intro e; cases e)), upd_ne (ne_of_none hb nt)]
          exact hb
        have h2 := h1.snoc ht
        rw [cutS_mid (by omega), show e + k - e = k by omega] at h2
        exact h2
      · rw [List.length_append, List.length_singleton]
        omega
      · rw [hsp, splitL_tok (by rw [hkk]; exact k0), hkk, List.drop_drop, show 1 + e + k = 1 + (e + k) by omega]
        cases splitL (z.cps.toList.drop (e + k)) (1 + (e + k)) with
        | ok l =>
          show Except.ok _ = Except.ok _
          rw [List.append_assoc]
          rfl
        | error c => rfl
    · have e2 : ¬ (e : Int) < ((e + k : Nat) : Int) := of_decide_eq_false (bf e2)
      have k0 : k = 0 := by omega
      subst k0
      have m32 : decide ((⟨#[c]⟩ : Str) = " ") = decide (c = 32) := by
        rw [Bool.eq_iff_iff, decide_eq_true_iff, decide_eq_true_iff, one_eq (d := 32) rfl]
      refine ⟨hl, c, atI_nat hc, ?_⟩
      refine ite2 (fun e3 => ?_) (fun e3 => ?_)
      · have e3 : c = 32 := of_decide_eq_true (m32.symm.trans e3)
        subst e3
        refine ⟨_, rfl, _, _, rfl, rfl, z.length - (e + 1), by omega, e + 1, _, ts, l0, rfl, by omega, rfl, sm2, hp2, hts2, by omega, ?_⟩
        rw [hsp, hd, splitL_space, Nat.add_assoc]
      · have e3 : ¬ c = 32 := of_decide_eq_false (m32.symm.trans (bf e3))
        refine mk_spE (by show 2 ≤ 1000; decide) ⟨num, (e : Int) + 1, rfl, n0, n1, by omega, by omega⟩ (fun d nd => ?_)
        have : splitL z.cps.toList 1 = .error (1 + e) := by
          rw [hsp, hd, splitL_bad (by rw [← hd]; exact hkk) e3]
        unfold Splits at q
        rw [this] at q
        refine q a_BadText d _ T.n_BadText (sm2.trans (same_new nd)) (Same.free sm2 nd) ?_
        rw [upd_same]
        rw [show (((1 + e : Nat) : Nat) : Int) = (e : Int) + 1 by omega]
        rfl
  · have e1 : ¬ (e : Int) < z.length := of_decide_eq_false (bf e1)
    have : z.cps.toList.drop e = [] := List.drop_of_length_le (by rw [len_cps]; omega)
    rw [this, splitL_nil] at hsp
    have hsp : splitL z.cps.toList 1 = .ok (l0 ++ []) := hsp
    unfold Splits at q
    rw [hsp, List.append_nil] at q
    exact q H' p ts sm np hp hts

end
section
variable {P : Program} {w : World} {K : PySem.W.Frag} {mg : Str → Option Value} {base : Heap}
variable {t_BOUND t_DIGITS t_LETTERS t_LONGEST_INTEGER t_MOST_TIMES : Tok} {a_MARKS a_SIGNS a_BadNumber a_BadText a_BadTurn a_ElseputError a_Reader a_Weaving : Addr}
def sp_in_bound (K : PySem.W.Frag) : Sp := fun vs H Q _ => ∃ i : Int, vs = [.int i] ∧ Q (.bl (inB i)) H
theorem len_in_bound {vs : List V} {H : Hp} {Q : VK} {E : XK} (h : sp_in_bound K vs H Q E) : vs.length = 1 := by
  obtain ⟨_, rfl, _⟩ := h
  rfl
theorem ok_in_bound {f : Addr} {fd : FuncData} (F : Fun K "in_bound" "in_bound" s_in_bound f fd) (T : Gs K mg t_BOUND t_DIGITS t_LETTERS t_LONGEST_INTEGER t_MOST_TIMES a_MARKS a_SIGNS a_BadNumber a_BadText a_BadTurn a_ElseputError a_Reader a_Weaving) : FnOk P w K mg base CX0 1 f fd ["value"] (sp_in_bound K) := by
  refine F.ok sc_in_bound (fun vs H Q E h => len_in_bound h) (fun cdv A outer s H vs Q E hr h => ?_)
  obtain ⟨i, rfl, q⟩ := h
  refine ⟨_, (pss_one (ps_ret (pe_chain op_leM op_leM (pe_un un_negM (pe_glob (v := .int 1000000000000000000000000000000) rfl T.g_BOUND ⟨_, rfl⟩)) (v_ 0) (pe_glob (v := .int 1000000000000000000000000000000) rfl T.g_BOUND ⟨_, rfl⟩)))), ?_⟩
  refine ⟨_, rfl, ?_⟩
  unfold inB at q
  refine ite2 (fun e => ?_) (fun e => ?_)
  · have e : decide (-1000000000000000000000000000000 ≤ i) = true := e
    rw [e, Bool.true_and] at q
    exact q
  · have e : decide (-1000000000000000000000000000000 ≤ i) = false := Bool.eq_false_iff.mpr e
    rw [e, Bool.false_and] at q
    exact q
/-! ### is_integer -/
def IntB (z : Str) (b : Bool) : Prop := (z.length = 0 ∧ b = false) ∨ (0 < z.length ∧ isD (z.cps.toList.getLastD 0) = false ∧ b = false) ∨ (0 < z.length ∧ isD (z.cps.toList.getLastD 0) = true ∧ 32 < z.length ∧ b = false) ∨
  ∃ n : Int, 0 < z.length ∧ isD (z.cps.toList.getLastD 0) = true ∧ z.length ≤ 32 ∧ PySem.intText? z = some n ∧ n.natAbs.log2 < 1920 ∧ b = (decide (((toString n : String) : Str) = z) && inB n)
def sp_is_integer (K : PySem.W.Frag) : Sp := fun vs H Q _ => ∃ (z : Str) (b : Bool), vs = [.str z] ∧ z.length ≤ 1000 ∧ IntB z b ∧ ∀ H', Same H H' → Q (.bl b) H'
theorem len_is_integer {vs : List V} {H : Hp} {Q : VK} {E : XK} (h : sp_is_integer K vs H Q E) : vs.length = 1 := by
  obtain ⟨_, _, rfl, _⟩ := h
  rfl
theorem dig_in {c : Nat} : decide (c ∈ ("0123456789" : Str).cps.toList) = isD c := by
  rw [digits_cps]
  rfl
theorem ok_is_integer {f : Addr} {fd : FuncData} {f_in_bound : Addr} {fd_in_bound : FuncData} (F : Fun K "is_integer" "is_integer" s_is_integer f fd) (T : Gs K mg t_BOUND t_DIGITS t_LETTERS t_LONGEST_INTEGER t_MOST_TIMES a_MARKS a_SIGNS a_BadNumber a_BadText a_BadTurn a_ElseputError a_Reader a_Weaving) (c_in_bound : Cal P w K mg base CX0 1 "in_bound" f_in_bound fd_in_bound ["value"] (sp_in_bound K)) : FnOk P w K mg base CX0 2 f fd ["token"] (sp_is_integer K) := by
  refine F.ok sc_is_integer (fun vs H Q E h => len_is_integer h) (fun cdv A outer s H vs Q E hr h => ?_)
  obtain ⟨z, b, rfl, hl, hz, q⟩ := h
  have q := q H (Same.refl H)
  refine ⟨_, (pss_cons (ps_if (PW.pt (pw_or (pt_c (eqK K hr.units) (v_ 0) pe_str) (pw_or (pt_c (notInK K) (e_x K (v_ 0) (pe_un un_negM pe_int)) (pe_glob (v := .str "0123456789") rfl T.g_DIGITS ⟨_, rfl⟩)) (pw_or1 (pt_c op_gtM (pe_callB (lenK K) (by rfl) T.z_len PySem.boot_len (pa_cons (v_ 0) pa_nil)) (pe_glob (v := .int 32) rfl T.g_LONGEST_INTEGER ⟨_, rfl⟩)))))) (pss_one (ps_ret pe_bl)) pss_nil) (pss_one (ps_ret (pe_andM (pe_c (eqK K hr.units) (pe_callTy call_str_int (by rfl) T.z_str (by decide +kernel) (pa_cons (pe_callTy call_int_str (by rfl) T.z_int (by decide +kernel) (pa_cons (v_ 0) pa_nil)) pa_nil)) (v_ 0)) (pe_one (pe_call c_in_bound.G (hr.mono (by first | decide | omega)) rfl c_in_bound.m c_in_bound.kp c_in_bound.b .nil pass0 (pa_cons (pe_callTy call_int_str (by rfl) T.z_int (by decide +kernel) (pa_cons (v_ 0) pa_nil)) pa_nil))))))), ?_⟩
  refine ite2 (fun e => ?_) (fun e => ?_)
  · have e : z = "" := of_decide_eq_true e
    have hb : b = false := by
      subst e
      rcases hz with h | h | h | ⟨n, h, _⟩
      · exact h.2
      · exact h.2.2
      · exact h.2.2.2
      · exact absurd h (by decide)
    rw [hb] at q
    exact q
  have e : ¬ z = "" := of_decide_eq_false (Bool.eq_false_iff.mpr e)
  have hpos : 0 < z.length := by
    rcases Nat.eq_zero_or_pos z.length with h | h
    · refine absurd (str_eq.mpr ?_) e
      have := len_cps z
      rw [h] at this
      rw [List.eq_nil_of_length_eq_zero this]
      rfl
    · exact h
  refine ⟨line_of (by omega), _, at_last hpos, _, rfl, ?_⟩
  refine ite2 (fun e => ?_) (fun e => ?_)
  · have e : (!isD (z.cps.toList.getLastD 0)) = true := by rw [← dig_in]; exact e
    have hb : b = false := by
      rw [Bool.not_eq_true'] at e
      rcases hz with h | h | h | ⟨n, _, h, _⟩
      · exact h.2
      · exact h.2.2
      · exact h.2.2.2
      · rw [e] at h; cases h
    rw [hb] at q
    exact q
  have e : isD (z.cps.toList.getLastD 0) = true := by
    have e : ¬ (!isD (z.cps.toList.getLastD 0)) = true := by rw [← dig_in]; exact e
    rw [Bool.not_eq_true, Bool.not_eq_false'] at e
    exact e
  refine ⟨line_of (by omega), ?_⟩
  refine ite2 (fun e2 => ?_) (fun e2 => ?_)
  · have e2 : (32 : Int) < z.length := of_decide_eq_true e2
    have hb : b = false := by
      rcases hz with h | h | h | ⟨n, _, _, h, _⟩
      · exact h.2
      · exact h.2.2
      · exact h.2.2.2
      · omega
    rw [hb] at q
    exact q
  have e2 : ¬ (32 : Int) < z.length := of_decide_eq_false (Bool.eq_false_iff.mpr e2)
  rcases hz with h | h | h | ⟨n, _, _, _, hn, hlog, rfl⟩
  · omega
  · rw [e] at h; cases h.2.1
  · omega
  refine ⟨z, n, rfl, hn, by omega, n, rfl, hlog, ?_⟩
  refine ite2 (fun e3 => ?_) (fun e3 => ?_)
  · refine ⟨z, n, rfl, hn, by omega, n, rfl, ?_⟩
    have e3 : decide (((toString n : String) : Str) = z) = true := e3
    rw [e3, Bool.true_and] at q
    exact q
  · have e3 : decide (((toString n : String) : Str) = z) = false := Bool.eq_false_iff.mpr e3
    rw [e3, Bool.false_and] at q
    exact q
end
section
variable {P : Program} {w : World} {K : PySem.W.Frag} {mg : Str → Option Value} {base : Heap}
variable {t_BOUND t_DIGITS t_LETTERS t_LONGEST_INTEGER t_MOST_TIMES : Tok} {a_MARKS a_SIGNS a_BadNumber a_BadText a_BadTurn a_ElseputError a_Reader a_Weaving : Addr}
/-! ### the reader -/
abbrev Tks := List (List Nat × Nat)
def RdAt (K : PySem.W.Frag) (H : Hp) (a p : Addr) (num e : Int) (toks : Tks) (i : Nat) : Prop := ∃ (C dx : Addr) (ts : List Addr), PySem.W.nsIn K mainGlobals "Reader" = some (some (.ref C)) ∧ H a = some (.ins C dx [("_parts", .ref p), ("_number", .int num), ("_end", .int e), ("_at", .int i)]) ∧ H p = some (.lst (ts.map V.ref)) ∧ PairL H ts toks ∧ i ≤ toks.length
def tokAt (toks : Tks) (i : Nat) : List Nat := (toks[i]?.map (·.1)).getD []
def colAt (toks : Tks) (e : Int) (i : Nat) : Int := (toks[i]?.map (fun x => (x.2 : Int))).getD e
/-- sizes: texts of at most 1000 signs, columns of at most 100000 -/
def TkOk (toks : Tks) : Prop := ∀ x ∈ toks, x.1.length ≤ 1000 ∧ x.2 ≤ 100000
theorem PairL.get {H : Hp} : ∀ {ts : List Addr} {l : Tks}, PairL H ts l → ∀ {i : Nat} {x : List Nat × Nat}, l[i]? = some x → ∃ t, ts[i]? = some t ∧ H t = some (.tup [.str (mkS x.1), .int (x.2 : Int)])
  | t :: ts, x :: xs, ⟨⟨z, h1, h2⟩, h⟩, 0, y, e => by
    simp at e
    subst e
    exact ⟨t, rfl, by rw [h1, mkS_of h2]⟩
  | t :: ts, x :: xs, ⟨_, h⟩, i + 1, y, e => by simpa using h.get (i := i) (x := y) (by simpa using e)
  | [], _ :: _, h, _, _, _ => False.elim h
theorem tokAt_of {toks : Tks} {i : Nat} {x : List Nat × Nat} (h : toks[i]? = some x) : tokAt toks i = x.1 := by unfold tokAt; rw [h]; rfl
theorem tokAt_end {toks : Tks} {i : Nat} (h : toks.length ≤ i) : tokAt toks i = [] := by unfold tokAt; rw [List.getElem?_eq_none h]; rfl
theorem tokAt_lt {toks : Tks} {i : Nat} (h : tokAt toks i ≠ []) : i < toks.length := by
  rcases Nat.lt_or_ge i toks.length with h1 | h1
  · exact h1
  · exact absurd (tokAt_end h1) h
theorem tokAt_le {toks : Tks} {i : Nat} (h : TkOk toks) : (tokAt toks i).length ≤ 1000 := by
  unfold tokAt
  cases e : toks[i]? with
  | none => exact Nat.zero_le _
  | some x => exact (h x (List.mem_of_getElem? e)).1
def BadAt (K : PySem.W.Frag) (H : Hp) (num col : Int) (E : XK) : Prop := ∀ (C d : Addr) (H' : Hp), PySem.W.nsIn K mainGlobals "BadText" = some (some (.ref C)) → Same H H' → H d = none → H' d = some (.xd [("column", .int col), ("line", .int num)]) → E (.ref C) (some d) H'
theorem RdAt.bt {a p : Addr} {num e : Int} {toks : Tks} {i : Nat} {H H' : Hp} (h : RdAt K H a p num e toks i) (s : Same H H') : RdAt K H' a p num e toks i := by
  obtain ⟨C, dx, ts, h1, h2, h3, h4, h5⟩ := h
  exact ⟨C, dx, ts, h1, s _ _ h2, s _ _ h3, h4.same fun b o _ hb => s b o hb, h5⟩
/-- the reader one further -/
theorem RdAt.on {a p : Addr} {num e : Int} {toks : Tks} {i : Nat} {H : Hp} {C dx : Addr} {ts : List Addr} (hC : PySem.W.nsIn K mainGlobals "Reader" = some (some (.ref C))) (h2 : H a = some (.ins C dx [("_parts", .ref p), ("_number", .int num), ("_end", .int e), ("_at", .int i)])) (h3 : H p = some (.lst (ts.map V.ref))) (h4 : PairL H ts toks) (h5 : i < toks.length) :
    RdAt K (upd H a (.ins C dx [("_parts", .ref p), ("_number", .int num), ("_end", .int e), ("_at", .int ((i + 1 : Nat) : Int))])) a p num e toks (i + 1) := by
  refine ⟨C, dx, ts, hC, upd_same, ?_, h4.same fun b o ho hb => ?_, h5⟩
  · rw [upd_ne (ne_of h3 h2 (by intro e; cases e))]
    exact h3
  · obtain ⟨z, n, rfl⟩ := ho
    rw [upd_ne (ne_of hb h2 (by intro e; cases e))]
    exact hb
def Rd0 (K : PySem.W.Frag) (H : Hp) (a p : Addr) (num e : Int) (toks : Tks) (i : Nat) : Prop := RdAt K H a p num e toks i ∧ TkOk toks ∧ 0 ≤ num ∧ num ≤ 100000 ∧ 0 ≤ e ∧ e ≤ 100000
def sp_Reader_at_end (K : PySem.W.Frag) : Sp := fun vs H Q _ => ∃ (a p : Addr) (num e : Int) (toks : Tks) (i : Nat), vs = [.ref a] ∧ RdAt K H a p num e toks i ∧ Q (.bl (decide (i = toks.length))) H
theorem len_Reader_at_end {vs : List V} {H : Hp} {Q : VK} {E : XK} (h : sp_Reader_at_end K vs H Q E) : vs.length = 1 := by
  obtain ⟨_, _, _, _, _, _, rfl, _⟩ := h
  rfl
theorem ok_Reader_at_end {f : Addr} {fd : FuncData} (F : Fun K "at_end" "Reader.at_end" s_Reader_at_end f fd) (T : Gs K mg t_BOUND t_DIGITS t_LETTERS t_LONGEST_INTEGER t_MOST_TIMES a_MARKS a_SIGNS a_BadNumber a_BadText a_BadTurn a_ElseputError a_Reader a_Weaving) : FnOk P w K mg base CX0 1 f fd ["self"] (sp_Reader_at_end K) := by
  refine F.ok sc_Reader_at_end (fun vs H Q E h => len_Reader_at_end h) (fun cdv A outer s H vs Q E hr h => ?_)
  obtain ⟨a, p, num, e, toks, i, rfl, ⟨C, dx, ts, hC, ha, hp, hts, hi⟩, q⟩ := h
  cases hC.symm.trans T.n_Reader
  refine ⟨_, (pss_one (ps_ret (pe_c (eqK K hr.units) (e_f K (v_ 0)) (pe_callB (lenK K) (by rfl) T.z_len PySem.boot_len (pa_cons (e_f K (v_ 0)) pa_nil))))), ?_⟩
  refine ⟨a, a_Reader, dx, _, _, rfl, ha, T.cl_Reader, T.na_Reader__at, rfl, ?_⟩
  refine ⟨a, a_Reader, dx, _, _, rfl, ha, T.cl_Reader, T.na_Reader__parts, rfl, ?_⟩
  refine .inl ⟨_, .inl (SqL.of hp), ?_⟩
  rw [List.length_map, hts.len]
  have e : decide ((i : Int) = (toks.length : Int)) = decide (i = toks.length) := by
    rw [Bool.eq_iff_iff, decide_eq_true_iff, decide_eq_true_iff]
    omega
  rw [← e] at q
  exact q
def sp_Reader_ahead (K : PySem.W.Frag) : Sp := fun vs H Q _ => ∃ (a p : Addr) (num e : Int) (toks : Tks) (i : Nat), vs = [.ref a] ∧ RdAt K H a p num e toks i ∧ Q (.str (mkS (tokAt toks i))) H
theorem len_Reader_ahead {vs : List V} {H : Hp} {Q : VK} {E : XK} (h : sp_Reader_ahead K vs H Q E) : vs.length = 1 := by
  obtain ⟨_, _, _, _, _, _, rfl, _⟩ := h
  rfl
theorem ok_Reader_ahead {f : Addr} {fd : FuncData} {f_Reader_at_end : Addr} {fd_Reader_at_end : FuncData} (F : Fun K "ahead" "Reader.ahead" s_Reader_ahead f fd) (T : Gs K mg t_BOUND t_DIGITS t_LETTERS t_LONGEST_INTEGER t_MOST_TIMES a_MARKS a_SIGNS a_BadNumber a_BadText a_BadTurn a_ElseputError a_Reader a_Weaving) (c_Reader_at_end : CalM P w K mg base CX0 1 a_Reader "at_end" f_Reader_at_end fd_Reader_at_end ["self"] (sp_Reader_at_end K)) : FnOk P w K mg base CX0 2 f fd ["self"] (sp_Reader_ahead K) := by
  refine F.ok sc_Reader_ahead (fun vs H Q E h => len_Reader_ahead h) (fun cdv A outer s H vs Q E hr h => ?_)
  obtain ⟨a, p, num, e, toks, i, rfl, hR, q⟩ := h
  obtain ⟨C, dx, ts, hC, ha, hp, hts, hi⟩ := id hR
  cases hC.symm.trans T.n_Reader
  refine ⟨_, (pss_one (ps_ret (pe_ifExp (pt_t K (pe_meth0 (v_ 0) c_Reader_at_end.cl c_Reader_at_end.me c_Reader_at_end.G (hr.mono (by first | decide | omega)) c_Reader_at_end.b .nil pass0)) pe_str (e_x K (e_x K (e_f K (v_ 0)) (e_f K (v_ 0))) pe_int)))), ?_⟩
  refine ⟨a, dx, _, rfl, ha, rfl, a, p, num, e, toks, i, rfl, hR, ?_⟩
  refine ite2 (fun e1 => ?_) (fun e1 => ?_)
  · have e1 : i = toks.length := of_decide_eq_true e1
    rw [tokAt_end (by omega)] at q
    exact q
  · have e1 : ¬ i = toks.length := of_decide_eq_false (Bool.eq_false_iff.mpr e1)
    obtain ⟨x, hx⟩ : ∃ x, toks[i]? = some x := ⟨_, List.getElem?_eq_getElem (by omega)⟩
    obtain ⟨t, ht1, ht2⟩ := hts.get hx
    rw [tokAt_of hx] at q
    refine ⟨a, a_Reader, dx, _, _, rfl, ha, T.cl_Reader, T.na_Reader__parts, rfl, ?_⟩
    refine ⟨a, a_Reader, dx, _, _, rfl, ha, T.cl_Reader, T.na_Reader__at, rfl, ?_⟩
    refine ⟨_, .inl (SqL.of hp), .ref t, atI_nat (by rw [List.getElem?_map, ht1]; rfl), ?_⟩
    exact ⟨_, .inr (SqT.of ht2), .str (mkS x.1), rfl, q⟩
def sp_Reader__refuse (K : PySem.W.Frag) : Sp := fun vs H Q E => ∃ (a p : Addr) (num e : Int) (toks : Tks) (i : Nat), vs = [.ref a] ∧ Rd0 K H a p num e toks i ∧ BadAt K H num (colAt toks e i) E
theorem len_Reader__refuse {vs : List V} {H : Hp} {Q : VK} {E : XK} (h : sp_Reader__refuse K vs H Q E) : vs.length = 1 := by
  obtain ⟨_, _, _, _, _, _, rfl, _⟩ := h
  rfl
theorem ok_Reader__refuse {f : Addr} {fd : FuncData} {f_Reader_at_end : Addr} {fd_Reader_at_end : FuncData} {f_BadText : Addr} {fd_BadText : FuncData} (F : Fun K "_refuse" "Reader._refuse" s_Reader__refuse f fd) (T : Gs K mg t_BOUND t_DIGITS t_LETTERS t_LONGEST_INTEGER t_MOST_TIMES a_MARKS a_SIGNS a_BadNumber a_BadText a_BadTurn a_ElseputError a_Reader a_Weaving) (c_Reader_at_end : CalM P w K mg base CX0 1 a_Reader "at_end" f_Reader_at_end fd_Reader_at_end ["self"] (sp_Reader_at_end K)) (c_BadText : CalE P w K mg base 1 "BadText" a_BadText f_BadText fd_BadText ["self", "line", "column"] okx_BadText fs_BadText ["line", "column"]) : FnOk P w K mg base (L2.CX P w) 3 f fd ["self"] (sp_Reader__refuse K) := by
  refine F.okX sc_Reader__refuse (fun vs H Q E h => len_Reader__refuse h) (fun cdv A outer s H vs Q E hr h => ?_)
  obtain ⟨a, p, num, e, toks, i, rfl, ⟨hR, hT, n0, n1, e0, e1⟩, q⟩ := h
  obtain ⟨C, dx, ts, hC, ha, hp, hts, hi⟩ := id hR
  cases hC.symm.trans T.n_Reader
  refine ⟨_, (pss_cons (ps_set (i := 1) sc_Reader__refuse.nd rfl (.inl rfl) (pe_ifExp (pt_t K (pe_meth0 (v_ 0) c_Reader_at_end.cl c_Reader_at_end.me c_Reader_at_end.G (hr.mono (by first | decide | omega)) c_Reader_at_end.b .nil pass0)) (e_f K (v_ 0)) (e_x K (e_x K (e_f K (v_ 0)) (e_f K (v_ 0))) pe_int))) (pss_one (ps_raise rfl (takes_of rfl rfl rfl rfl) (pmk_oex c_BadText.X.oex c_BadText.X.iC c_BadText.X.tI c_BadText.G (hr.mono (by first | decide | omega)) c_BadText.b .nil pass0 rfl c_BadText.m (pa_cons (e_f K (v_ 0)) (pa_cons (v_ 1) pa_nil)))))), ?_⟩
  refine ⟨a, dx, _, rfl, ha, rfl, a, p, num, e, toks, i, rfl, hR, ?_⟩
  refine ite2 (fun e2 => ?_) (fun e2 => ?_)
  · have e2 : i = toks.length := of_decide_eq_true e2
    refine ⟨a, a_Reader, dx, _, _, rfl, ha, T.cl_Reader, T.na_Reader__end, rfl, ?_⟩
    refine ⟨a, a_Reader, dx, _, _, rfl, ha, T.cl_Reader, T.na_Reader__number, rfl, ?_⟩
    refine mk_spE (by show 2 ≤ 1000; decide) ⟨num, e, rfl, n0, n1, e0, e1⟩ (fun d nd => ?_)
    have hc : colAt toks e i = e := by unfold colAt; rw [List.getElem?_eq_none (by omega)]; rfl
    rw [hc] at q
    exact q a_BadText d _ T.n_BadText (same_new nd) nd upd_same
  · have e2 : ¬ i = toks.length := of_decide_eq_false (Bool.eq_false_iff.mpr e2)
    obtain ⟨x, hx⟩ : ∃ x, toks[i]? = some x := ⟨_, List.getElem?_eq_getElem (by omega)⟩
    obtain ⟨t, ht1, ht2⟩ := hts.get hx
    have hxb := (hT x (List.mem_of_getElem? hx)).2
    refine ⟨a, a_Reader, dx, _, _, rfl, ha, T.cl_Reader, T.na_Reader__parts, rfl, ?_⟩
    refine ⟨a, a_Reader, dx, _, _, rfl, ha, T.cl_Reader, T.na_Reader__at, rfl, ?_⟩
    refine ⟨_, .inl (SqL.of hp), .ref t, atI_nat (by rw [List.getElem?_map, ht1]; rfl), ?_⟩
    refine ⟨_, .inr (SqT.of ht2), .int (x.2 : Int), rfl, ?_⟩
    refine ⟨a, a_Reader, dx, _, _, rfl, ha, T.cl_Reader, T.na_Reader__number, rfl, ?_⟩
    refine mk_spE (by show 2 ≤ 1000; decide) ⟨num, (x.2 : Int), rfl, n0, n1, by omega, by omega⟩ (fun d nd => ?_)
    have hc : colAt toks e i = (x.2 : Int) := by unfold colAt; rw [hx]; rfl
    rw [hc] at q
    exact q a_BadText d _ T.n_BadText (same_new nd) nd upd_same
def Took (K : PySem.W.Frag) (H : Hp) (a p : Addr) (num e : Int) (toks : Tks) (i : Nat) (v : V) (Q : VK) : Prop := i < toks.length ∧ ∀ H', Bt a H H' → RdAt K H' a p num e toks (i + 1) → Q v H'
def sp_Reader__take_if (K : PySem.W.Frag) : Sp := fun vs H Q E => ∃ (a p : Addr) (num e : Int) (toks : Tks) (i : Nat) (b : Bool), vs = [.ref a, .bl b] ∧ Rd0 K H a p num e toks i ∧ (if b = true then Took K H a p num e toks i (.str (mkS (tokAt toks i))) Q else BadAt K H num (colAt toks e i) E)
theorem len_Reader__take_if {vs : List V} {H : Hp} {Q : VK} {E : XK} (h : sp_Reader__take_if K vs H Q E) : vs.length = 2 := by
  obtain ⟨_, _, _, _, _, _, _, rfl, _⟩ := h
  rfl
theorem ok_Reader__take_if {f : Addr} {fd : FuncData} {f_Reader_ahead : Addr} {fd_Reader_ahead : FuncData} {f_Reader__refuse : Addr} {fd_Reader__refuse : FuncData} (F : Fun K "_take_if" "Reader._take_if" s_Reader__take_if f fd) (T : Gs K mg t_BOUND t_DIGITS t_LETTERS t_LONGEST_INTEGER t_MOST_TIMES a_MARKS a_SIGNS a_BadNumber a_BadText a_BadTurn a_ElseputError a_Reader a_Weaving) (c_Reader_ahead : CalM P w K mg base CX0 2 a_Reader "ahead" f_Reader_ahead fd_Reader_ahead ["self"] (sp_Reader_ahead K)) (c_Reader__refuse : CalM P w K mg base (L2.CX P w) 3 a_Reader "_refuse" f_Reader__refuse fd_Reader__refuse ["self"] (sp_Reader__refuse K)) : FnOk P w K mg base (L2.CX P w) 4 f fd ["self", "fits"] (sp_Reader__take_if K) := by
  refine F.okX sc_Reader__take_if (fun vs H Q E h => len_Reader__take_if h) (fun cdv A outer s H vs Q E hr h => ?_)
  obtain ⟨a, p, num, e, toks, i, b, rfl, hR0, q⟩ := h
  obtain ⟨hR, hT, n0, n1, e0, e1⟩ := id hR0
  obtain ⟨C, dx, ts, hC, ha, hp, hts, hi⟩ := id hR
  cases hC.symm.trans T.n_Reader
  refine ⟨_, (Evl.pss_cut (ps_if (pt_not (pt_t K (v_ 1))) (pss_one (ps_expr (pe_meth0 (v_ 0) c_Reader__refuse.cl c_Reader__refuse.me c_Reader__refuse.G (hr.mono (by first | decide | omega)) c_Reader__refuse.b .nil (passes_call (takes_of rfl rfl rfl rfl) (fun _ _ _ _ h => h))))) pss_nil) (pss_cons (ps_set (i := 2) sc_Reader__take_if.nd rfl (.inl rfl) (pe_meth0 (v_ 0) c_Reader_ahead.cl c_Reader_ahead.me c_Reader_ahead.G (hr.mono (by first | decide | omega)) c_Reader_ahead.b .nil pass0)) (pss_cons (ps_fldaug (v_ 0) pe_int in_add) (pss_one (ps_ret (v_ 2)))))), ?_⟩
  refine ⟨fun σ' H' => b = true ∧ σ' = [some (.ref a), some (.bl b), none] ∧ H' = H, ?_, ?_⟩
  · cases b with
    | true => exact ⟨rfl, rfl, rfl⟩
    | false =>
      rw [if_neg (by decide)] at q
      exact ⟨a, dx, _, rfl, ha, rfl, a, p, num, e, toks, i, rfl, hR0, q⟩
  rintro σ' H' ⟨rfl, rfl, rfl⟩
  rw [if_pos rfl] at q
  obtain ⟨hlt, q⟩ := q
  refine ⟨a, dx, _, rfl, ha, rfl, a, p, num, e, toks, i, rfl, hR, ?_⟩
  refine ⟨a, a_Reader, dx, _, _, rfl, ha, T.cl_Reader, T.na_Reader__at, rfl, ?_⟩
  refine ⟨_, _, rfl, rfl, dx, _, ha, (by show 4 < 1000; decide), ?_⟩
  exact q _ (fun b o nb hb => by rw [upd_ne nb]; exact hb) (RdAt.on T.n_Reader ha hp hts hlt)
end
section
variable {P : Program} {w : World} {K : PySem.W.Frag} {mg : Str → Option Value} {base : Heap}
variable {t_BOUND t_DIGITS t_LETTERS t_LONGEST_INTEGER t_MOST_TIMES : Tok} {a_MARKS a_SIGNS a_BadNumber a_BadText a_BadTurn a_ElseputError a_Reader a_Weaving : Addr}
/-! ### integers as tokens -/
theorem digitsVal_lt : ∀ (cs : List Nat) (acc : Nat), (∀ c ∈ cs, 48 ≤ c ∧ c ≤ 57) → cs.foldl (fun acc c => acc * 10 + (c - 48)) acc < (acc + 1) * 10 ^ cs.length
  | [], acc, _ => by simp
  | c :: r, acc, h => by
    have hc := h c List.mem_cons_self
    have ih := digitsVal_lt r (acc * 10 + (c - 48)) fun d hd => h d (List.mem_cons_of_mem _ hd)
    rw [List.foldl_cons, List.length_cons, Nat.pow_succ]
    refine Nat.lt_of_lt_of_le ih ?_
    rw [Nat.mul_comm (10 ^ r.length) 10, ← Nat.mul_assoc]
    exact Nat.mul_le_mul_right _ (by omega)
theorem digits_small {cs : List Nat} (h : ∀ c ∈ cs, 48 ≤ c ∧ c ≤ 57) (hl : cs.length ≤ 32) : ((PySem.NumText.digitsVal cs : Nat) : Int).natAbs.log2 < 1920 := by
  have h1 := digitsVal_lt cs 0 h
  have h2 : PySem.NumText.digitsVal cs < 10 ^ 32 := by
    refine Nat.lt_of_lt_of_le (show PySem.NumText.digitsVal cs < (0 + 1) * 10 ^ cs.length from h1) ?_
    rw [Nat.zero_add, Nat.one_mul]
    exact Nat.pow_le_pow_right (by decide) hl
  rw [Int.natAbs_natCast]
  by_cases hz : PySem.NumText.digitsVal cs = 0
  · rw [hz]
    decide
  · exact (Nat.log2_lt hz).mpr (Nat.lt_of_lt_of_le h2 (Nat.le_trans (by decide : 10 ^ 32 ≤ 2 ^ 110) (Nat.pow_le_pow_right (by decide) (by decide))))
open Classical in
noncomputable def rdI (p : List Nat) : Option Int := if h : ∃ n : Int, ((toString n : String) : Str) = mkS p ∧ inB n = true then some h.choose else none
theorem num_short {n : Int} (h : inB n = true) : ((toString n : String) : Str).length ≤ 32 := by
  unfold inB at h
  rw [Bool.and_eq_true, decide_eq_true_iff, decide_eq_true_iff] at h
  rw [PySem.ofString_length]
  refine Nat.le_trans (int_text_length_le10 (a := n) (k := 31) (by decide) ?_) (by decide)
  have e : (10 : Nat) ^ 31 = 10000000000000000000000000000000 := by decide +kernel
  rw [e]
  omega
theorem rdI_num {n : Int} (h : inB n = true) : rdI ((toString n : String) : Str).cps.toList = some n := by
  unfold rdI
  have ex : ∃ m : Int, ((toString m : String) : Str) = mkS ((toString n : String) : Str).cps.toList ∧ inB m = true := ⟨n, (mkS_self _).symm, h⟩
  rw [dif_pos ex]
  congr 1
  have hs := ex.choose_spec
  generalize ex.choose = m at hs
  obtain ⟨h1, h2⟩ := hs
  rw [mkS_self] at h1
  have e1 := num_reads' (i := m) (Nat.le_trans (num_short h2) (by decide))
  have e2 := num_reads' (i := n) (Nat.le_trans (num_short h) (by decide))
  rw [h1, e2] at e1
  exact (Option.some.inj e1).symm
theorem rdI_spec {p : List Nat} {n : Int} (h : rdI p = some n) : mkS p = ((toString n : String) : Str) ∧ inB n = true := by
  unfold rdI at h
  split at h
  · rename_i ex
    have e := Option.some.inj h
    have hs := ex.choose_spec
    rw [e] at hs
    exact ⟨hs.1.symm, hs.2⟩
  · cases h
def TokE (p : List Nat) : Prop := p = [] ∨ Tok p
theorem intB_of {p : List Nat} (h : TokE p) : IntB (mkS p) (rdI p).isSome ∧ ∀ n, rdI p = some n → PySem.intText? (mkS p) = some n ∧ p.length ≤ 32 := by
  have sec : ∀ n, rdI p = some n → PySem.intText? (mkS p) = some n ∧ p.length ≤ 32 := fun n hn => by
    obtain ⟨e, hb⟩ := rdI_spec hn
    have hl := num_short hb
    rw [e]
    refine ⟨num_reads' (Nat.le_trans hl (by decide)), ?_⟩
    rw [← mkS_len p, e]
    exact hl
  refine ⟨?_, sec⟩
  have no : ∀ {P : Prop}, (∀ n, rdI p = some n → P) → ¬ P → (rdI p).isSome = false := fun h1 h2 => by
    cases e : rdI p with
    | none => rfl
    | some n => exact absurd (h1 n e) h2
  by_cases h0 : p = []
  · refine .inl ⟨by rw [mkS_len, h0]; rfl, ?_⟩
    refine no (P := False) (fun n hn => ?_) (fun h => h)
    obtain ⟨e, _⟩ := rdI_spec hn
    have := int_text_ne n
    rw [← e, mkS_cps] at this
    exact this h0
  have hpos : 0 < (mkS p).length := by rw [mkS_len]; exact List.length_pos_iff.mpr h0
  cases hd : isD (p.getLastD 0) with
  | false =>
    refine .inr (.inl ⟨hpos, by rw [mkS_cps]; exact hd, ?_⟩)
    refine no (P := False) (fun n hn => ?_) (fun h => h)
    obtain ⟨e, _⟩ := rdI_spec hn
    have := num_last n
    rw [← e, mkS_cps, hd] at this
    cases this
  | true =>
    by_cases hl : 32 < p.length
    · refine .inr (.inr (.inl ⟨hpos, by rw [mkS_cps]; exact hd, by rw [mkS_len]; exact hl, ?_⟩))
      refine no (P := False) (fun n hn => ?_) (fun h => h)
      have := (sec n hn).2
      omega
    · have ht : Tok p := h.resolve_left h0
      obtain ⟨m, hm, hlog⟩ : ∃ m : Int, PySem.intText? (mkS p) = some m ∧ m.natAbs.log2 < 1920 := by
        cases ht with
        | word h1 h2 =>
          have := ld_l (h2 _ (getLastD_mem h1))
          rw [hd] at this
          cases this.1
        | int h1 h2 =>
          have hall : ∀ c ∈ p, 48 ≤ c ∧ c ≤ 57 := fun c hc => isD_iff.mp (h2 c hc)
          exact ⟨_, PySem.intText_digits (x := mkS p) hall h1 (by rw [mkS_len]; omega), digits_small (cs := p) hall (by omega)⟩
        | @neg r h1 h2 =>
          have hall : ∀ c ∈ r, 48 ≤ c ∧ c ≤ 57 := fun c hc => isD_iff.mp (h2 c hc)
          refine ⟨_, PySem.intText_neg (x := mkS (45 :: r)) rfl hall h1 (by rw [mkS_len]; omega), ?_⟩
          rw [Int.natAbs_neg]
          exact digits_small hall (by rw [List.length_cons] at hl; omega)
        | sm h1 =>
          have := sm_cases h1
          simp only [SG, MK, List.cons_append, List.nil_append, List.mem_cons, List.not_mem_nil, or_false] at this
          rcases this with rfl | rfl | rfl | rfl | rfl | rfl | rfl | rfl | rfl | rfl | rfl <;> exact absurd hd (by decide)
      refine .inr (.inr (.inr ⟨m, hpos, by rw [mkS_cps]; exact hd, by rw [mkS_len]; omega, hm, hlog, ?_⟩))
      cases e : rdI p with
      | some n =>
        obtain ⟨e1, e2⟩ := rdI_spec e
        have e3 := (sec n e).1
        rw [hm] at e3
        cases e3
        rw [← e1, decide_eq_true rfl, e2]
        rfl
      | none =>
        cases hb : (decide (((toString m : String) : Str) = mkS p) && inB m) with
        | false => rfl
        | true =>
          rw [Bool.and_eq_true, decide_eq_true_iff] at hb
          have := rdI_num hb.2
          rw [hb.1, mkS_cps, e] at this
          cases this
end
section
variable {P : Program} {w : World} {K : PySem.W.Frag} {mg : Str → Option Value} {base : Heap}
variable {t_BOUND t_DIGITS t_LETTERS t_LONGEST_INTEGER t_MOST_TIMES : Tok} {a_MARKS a_SIGNS a_BadNumber a_BadText a_BadTurn a_ElseputError a_Reader a_Weaving : Addr}
theorem Rd0.same {K : PySem.W.Frag} {H H' : Hp} {a p : Addr} {num e : Int} {toks : Tks} {i : Nat} (h : Rd0 K H a p num e toks i) (s : Same H H') : Rd0 K H' a p num e toks i := ⟨h.1.bt s, h.2⟩
theorem Rd0.to {K : PySem.W.Frag} {H H' : Hp} {a p : Addr} {num e : Int} {toks : Tks} {i j : Nat} (h : Rd0 K H a p num e toks i) (r : RdAt K H' a p num e toks j) : Rd0 K H' a p num e toks j := ⟨r, h.2⟩
theorem Took.same {K : PySem.W.Frag} {H H1 : Hp} {a p : Addr} {num e : Int} {toks : Tks} {i : Nat} {v : V} {Q : VK} (h : Took K H a p num e toks i v Q) (s : Same H H1) : Took K H1 a p num e toks i v Q := ⟨h.1, fun H' b r => h.2 H' ((Bt.same s).trans b) r⟩
theorem BadAt.same {K : PySem.W.Frag} {H H1 : Hp} {num col : Int} {E : XK} (h : BadAt K H num col E) (s : Same H H1) : BadAt K H1 num col E := fun C d H' hC s2 nd hd => h C d H' hC (s.trans s2) (Same.free s nd) hd
def Inits (K : PySem.W.Frag) (H : Hp) (x : Addr) (z : Str) (num : Int) (Q : VK) (E : XK) : Prop := match splitL z.cps.toList 1 with
  | .ok l => ∀ (H' : Hp) (p : Addr), Bt x H H' → RdAt K H' x p num ((z.length : Int) + 1) l 0 → Q .non H'
  | .error c => BadAt K H num (c : Int) E
def sp_Reader___init__ (K : PySem.W.Frag) : Sp := fun vs H Q E => ∃ (x C dx : Addr) (z : Str) (num : Int), vs = [.ref x, .str z, .int num] ∧ PySem.W.nsIn K mainGlobals "Reader" = some (some (.ref C)) ∧ H x = some (.ins C dx []) ∧ z.length ≤ 20000 ∧ 0 ≤ num ∧ num ≤ 100000 ∧ Inits K H x z num Q E
theorem len_Reader___init__ {vs : List V} {H : Hp} {Q : VK} {E : XK} (h : sp_Reader___init__ K vs H Q E) : vs.length = 3 := by
  obtain ⟨_, _, _, _, _, rfl, _⟩ := h
  rfl
theorem ok_Reader___init__ {f : Addr} {fd : FuncData} {f_split_line : Addr} {fd_split_line : FuncData} (F : FunD K "__init__" "Reader.__init__" (defArgs s_Reader___init__) (defBody s_Reader___init__) (defScope s_Reader___init__) [(.int 1)] [] f fd) (T : Gs K mg t_BOUND t_DIGITS t_LETTERS t_LONGEST_INTEGER t_MOST_TIMES a_MARKS a_SIGNS a_BadNumber a_BadText a_BadTurn a_ElseputError a_Reader a_Weaving) (c_split_line : Cal P w K mg base (L2.CX P w) 3 "split_line" f_split_line fd_split_line ["line", "number"] (sp_split_line K)) : FnOk P w K mg base (L2.CX P w) 4 f fd ["self", "line", "number"] (sp_Reader___init__ K) := by
  refine F.ok (CX := (L2.CX P w)) sc_Reader___init__ (fun vs H Q E h => len_Reader___init__ h) (fun cdv A outer s H vs Q E hr h => ?_)
  obtain ⟨x, C, dx, z, num, rfl, hC, hx, hz, n0, n1, q⟩ := h
  cases hC.symm.trans T.n_Reader
  refine ⟨_, (pss_cons (ps_fld (v_ 0) (pe_call c_split_line.G (hr.mono (by first | decide | omega)) rfl c_split_line.m c_split_line.kp c_split_line.b .nil (passes_call (takes_of rfl rfl rfl rfl) (fun _ _ _ _ h => h)) (pa_cons (v_ 1) (pa_cons (v_ 2) pa_nil))) (by rfl)) (pss_cons (ps_fld (v_ 0) (v_ 2) (by rfl)) (pss_cons (ps_fld (v_ 0) (pe_op (addK K) (pe_callB (lenK K) (by rfl) T.z_len PySem.boot_len (pa_cons (v_ 1) pa_nil)) pe_int) (by rfl)) (pss_one (ps_fld (v_ 0) pe_int (by rfl)))))), ?_⟩
  refine ⟨z, num, rfl, hz, n0, n1, ?_⟩
  unfold Inits at q
  unfold Splits
  cases hs : splitL z.cps.toList 1 with
  | error c =>
    rw [hs] at q
    exact q
  | ok l =>
    rw [hs] at q
    intro H1 p ts s1 np hp hts
    refine ⟨x, a_Reader, dx, _, rfl, s1 _ _ hx, T.cl_Reader, T.na_Reader__parts, by decide, ?_⟩
    refine ⟨x, a_Reader, dx, _, rfl, upd_same, T.cl_Reader, T.na_Reader__number, (by show 1 < 1000; decide), ?_⟩
    rw [upd_upd]
    refine ⟨line_of (by omega), ?_⟩
    refine ⟨x, a_Reader, dx, _, rfl, upd_same, T.cl_Reader, T.na_Reader__end, (by show 2 < 1000; decide), ?_⟩
    rw [upd_upd]
    refine ⟨x, a_Reader, dx, _, rfl, upd_same, T.cl_Reader, T.na_Reader__at, (by show 3 < 1000; decide), ?_⟩
    rw [upd_upd]
    refine q _ p (fun b o nb hb => by rw [upd_ne nb]; exact s1 _ _ hb) ⟨a_Reader, dx, ts, T.n_Reader, upd_same, ?_, hts.same fun b o ho hb => ?_, Nat.zero_le _⟩
    · rw [upd_ne (ne_of_none hx np).symm]
      exact hp
    · obtain ⟨z', i', rfl⟩ := ho
      rw [upd_ne (ne_of hb (s1 _ _ hx) (by intro e; cases e))]
      exact hb
/-- an error's place, all but the reader standing -/
def BadB (K : PySem.W.Frag) (a : Addr) (H : Hp) (num col : Int) (E : XK) : Prop := ∀ (C d : Addr) (H' : Hp), PySem.W.nsIn K mainGlobals "BadText" = some (some (.ref C)) → Bt a H H' → H d = none → H' d = some (.xd [("column", .int col), ("line", .int num)]) → E (.ref C) (some d) H'
theorem BadB.at {K : PySem.W.Frag} {a : Addr} {H H2 : Hp} {num col : Int} {E : XK} {o : HO} (q : BadB K a H num col E) (b : Bt a H H2) (ha : H2 a = some o) : BadAt K H2 num col E := fun C d H' hC s nd hd =>
  q C d H' hC (b.trans (Bt.same s)) (b.free (ne_of_none ha nd).symm nd) hd
theorem BadB.bt {K : PySem.W.Frag} {a : Addr} {H H2 : Hp} {num col : Int} {E : XK} (q : BadB K a H num col E) (b : Bt a H H2) (ha : ∃ o, H2 a = some o) : ∀ (C d : Addr) (H' : Hp), PySem.W.nsIn K mainGlobals "BadText" = some (some (.ref C)) → Bt a H2 H' → H2 d = none → H' d = some (.xd [("column", .int col), ("line", .int num)]) → E (.ref C) (some d) H' := fun C d H' hC s nd hd => by
  obtain ⟨o, ha⟩ := ha
  exact q C d H' hC (b.trans s) (b.free (ne_of_none ha nd).symm nd) hd
end
section
variable {P : Program} {w : World} {K : PySem.W.Frag} {mg : Str → Option Value} {base : Heap}
variable {t_BOUND t_DIGITS t_LETTERS t_LONGEST_INTEGER t_MOST_TIMES : Tok} {a_MARKS a_SIGNS a_BadNumber a_BadText a_BadTurn a_ElseputError a_Reader a_Weaving : Addr}
def spLaw (K : PySem.W.Frag) : Sp := fun vs H Q _ => ∃ (a : Addr) (ns : List Int), vs = [.ref a] ∧ SqL K H a (ns.map V.int) ∧ ns.length ≤ 63 ∧ ∀ H', Q (.bl true) H'
abbrev sp_law := spLaw
theorem len_law {vs : List V} {H : Hp} {Q : VK} {E : XK} (h : sp_law K vs H Q E) : vs.length = 1 := by
  obtain ⟨_, _, rfl, _⟩ := h
  rfl
/-- the names' values, written flat -/
theorem g_is {i : Nat} {v : V} {σ : L2.St} {H : Hp} {Q : L2.St → Hp → Prop} (σ' : L2.St) (e : σ.set i (some v) = σ') (h : Q σ' H) : gName i v σ H Q := by
  unfold gName
  rw [e]
  exact h
/-! ### weavings -/
def WvAt (K : PySem.W.Frag) (H : Hp) (a : Addr) (ns : List Int) : Prop := ∃ C dx t : Addr, PySem.W.nsIn K mainGlobals "Weaving" = some (some (.ref C)) ∧ H a = some (.ins C dx [("turns", .ref t), ("_many", .int (ns.length : Int))]) ∧ SqT K H t (ns.map V.int)
theorem WvAt.same {K : PySem.W.Frag} {H H' : Hp} {a : Addr} {ns : List Int} (h : WvAt K H a ns) (s : Same H H') : WvAt K H' a ns := by
  obtain ⟨C, dx, t, h1, h2, h3⟩ := h
  exact ⟨C, dx, t, h1, s _ _ h2, SqT.same h3 s⟩
theorem sqT_ins {K : PySem.W.Frag} {H : Hp} {a x C dx : Addr} {xs : List V} {fs : List (Str × V)} {o : HO} (h : SqT K H a xs) (hx : H x = some (.ins C dx fs)) : SqT K (upd H x o) a xs := by
  rcases h with (h | ⟨b, h⟩) | h
  · exact .inl (.inl (by rw [upd_ne (ne_of h hx (by intro z; cases z))]; exact h))
  · exact .inl (.inr ⟨b, by rw [upd_ne (ne_of h hx (by intro z; cases z))]; exact h⟩)
  · exact .inr h
def neg1 (ns : List Int) : Option Int := ns.find? fun i => decide (i < 0)
theorem neg_none {ns : List Int} (h : ∀ i ∈ ns, ¬ i < 0) : neg1 ns = none := by
  unfold neg1
  rw [List.find?_eq_none]
  intro i hi
  rw [decide_eq_false (h i hi)]
  decide
theorem neg_at {ns : List Int} {i : Nat} {z : Int} (h : ∀ y ∈ ns.take i, ¬ y < 0) (e : ns[i]? = some z) (hz : z < 0) : neg1 ns = some z := by
  have e1 : ns = ns.take i ++ ns.drop i := (List.take_append_drop i ns).symm
  obtain ⟨hi, e2⟩ := List.getElem?_eq_some_iff.mp e
  have e3 : ns.drop i = z :: ns.drop (i + 1) := by rw [List.drop_eq_getElem_cons hi, e2]
  have n := neg_none h
  unfold neg1 at n ⊢
  rw [e1, List.find?_append, e3, n, List.find?_cons_of_pos (p := fun i : Int => decide (i < 0)) (decide_eq_true hz)]
  rfl
def WvInit (K : PySem.W.Frag) (H : Hp) (x : Addr) (ns : List Int) (Q : VK) (E : XK) : Prop := match neg1 ns with
  | some i => ∀ (B d : Addr) (H' : Hp), PySem.W.nsIn K mainGlobals "BadTurn" = some (some (.ref B)) → Bt x H H' → H d = none → H' d = some (.xd [("writer", .int i)]) → E (.ref B) (some d) H'
  | none => ∀ H', Bt x H H' → WvAt K H' x ns → Q .non H'
def sp_Weaving___init__ (K : PySem.W.Frag) : Sp := fun vs H Q E => ∃ (x p C dx : Addr) (ns : List Int), vs = [.ref x, .ref p] ∧ PySem.W.nsIn K mainGlobals "Weaving" = some (some (.ref C)) ∧ H x = some (.ins C dx []) ∧ (SqL K H p (ns.map V.int) ∨ SqT K H p (ns.map V.int)) ∧ ns.length ≤ 100000 ∧ (∀ i ∈ ns, i.natAbs < 2 ^ 200) ∧ WvInit K H x ns Q E
theorem len_Weaving___init__ {vs : List V} {H : Hp} {Q : VK} {E : XK} (h : sp_Weaving___init__ K vs H Q E) : vs.length = 2 := by
  obtain ⟨_, _, _, _, _, rfl, _⟩ := h
  rfl
theorem ok_Weaving___init__ {f : Addr} {fd : FuncData} {f_BadTurn : Addr} {fd_BadTurn : FuncData} (F : Fun K "__init__" "Weaving.__init__" s_Weaving___init__ f fd) (T : Gs K mg t_BOUND t_DIGITS t_LETTERS t_LONGEST_INTEGER t_MOST_TIMES a_MARKS a_SIGNS a_BadNumber a_BadText a_BadTurn a_ElseputError a_Reader a_Weaving) (c_BadTurn : CalE P w K mg base 1 "BadTurn" a_BadTurn f_BadTurn fd_BadTurn ["self", "writer"] okx_BadTurn fs_BadTurn ["writer"]) : FnOk P w K mg base (L2.CX P w) 3 f fd ["self", "turns"] (sp_Weaving___init__ K) := by
  refine F.okX sc_Weaving___init__ (fun vs H Q E h => len_Weaving___init__ h) (fun cdv A outer s H vs Q E hr h => ?_)
  obtain ⟨x, p, C, dx, ns, rfl, hC, hx, hp, few, small, q⟩ := h
  cases hC.symm.trans T.n_Weaving
  refine ⟨_, (pss_cons (ps_fld (v_ 0) (pe_callTy (tupleK K) (by rfl) T.z_tuple (by decide +kernel) (pa_cons (v_ 1) pa_nil)) (by rfl)) (pss_cons (ps_fld (v_ 0) (pe_callB (lenK K) (by rfl) T.z_len PySem.boot_len (pa_cons (e_f K (v_ 0)) pa_nil)) (by rfl)) (pss_one (ps_for (passes_of rfl) rfl (pi_tup (e_f K (v_ 0))) (pg_name (i := 2) sc_Weaving___init__.nd rfl (.inl rfl)) (pss_one (ps_if (pt_c op_ltM (v_ 2) pe_int) (pss_one (ps_raise rfl (takes_of rfl rfl rfl rfl) (pmk_oex c_BadTurn.X.oex c_BadTurn.X.iC c_BadTurn.X.tI c_BadTurn.G (hr.mono (by first | decide | omega)) c_BadTurn.b .nil pass0 rfl c_BadTurn.m (pa_cons (v_ 2) pa_nil)))) pss_nil)))))), ?_⟩
  refine ⟨p, ns.map V.int, rfl, ?_⟩
  refine hp.elim (fun h => .inl ⟨h, fun t nt => ?_⟩) (fun h => .inr ⟨h, ?_⟩)
  · have s1 := same_new (o := .tup (ns.map V.int)) nt
    have ht := SqT.of (K := K) (upd_same (H := H) (a := t) (o := .tup (ns.map V.int)))
    generalize upd H t (.tup (ns.map V.int)) = H1 at s1 ht ⊢
    refine ⟨x, a_Weaving, dx, [], rfl, s1 _ _ hx, T.cl_Weaving, T.na_Weaving_turns, by decide, ?_⟩
    generalize hH2 : upd H1 x _ = H2
    have b2 : Bt x H H2 := fun b o nb hb => by rw [← hH2, upd_ne nb]; exact s1 _ _ hb
    have hx2 : H2 x = some (.ins a_Weaving dx [("turns", .ref t)]) := by rw [← hH2, upd_same]; rfl
    have ht2 : SqT K H2 t (ns.map V.int) := by rw [← hH2]; exact sqT_ins ht (s1 _ _ hx)
    clear hH2
    refine ⟨x, a_Weaving, dx, _, _, rfl, hx2, T.cl_Weaving, T.na_Weaving_turns, rfl, .inl ⟨_, .inr ht2, ?_⟩⟩
    refine ⟨x, a_Weaving, dx, _, rfl, hx2, T.cl_Weaving, T.na_Weaving__many, (by show 1 < 1000; decide), ?_⟩
    generalize hH3 : upd H2 x _ = H3
    have b3 : Bt x H H3 := fun b o nb hb => by rw [← hH3, upd_ne nb]; exact b2 _ _ nb hb
    have hx3 : H3 x = some (.ins a_Weaving dx [("turns", .ref t), ("_many", .int (ns.length : Int))]) := by rw [← hH3, upd_same, List.length_map]; rfl
    have ht3 : SqT K H3 t (ns.map V.int) := by rw [← hH3]; exact sqT_ins ht2 hx2
    clear hH3 hx2 ht2 b2
    refine ⟨x, a_Weaving, dx, _, _, rfl, hx3, T.cl_Weaving, T.na_Weaving_turns, rfl, t, rfl, ⟨_, ht3⟩, ?_⟩
    unfold WvInit at q
    refine for_tup (K := K) (a := t) (xs := ns.map V.int) (fun i σ' H' => (∃ y, σ' = [some (.ref x), some (.ref p), y]) ∧ H' = H3 ∧ ∀ y ∈ ns.take i, ¬ y < 0) ⟨⟨_, rfl⟩, rfl, fun _ h => nomatch h⟩ (fun i σ' H' _ h => by rw [h.2.1]; exact ht3) ?_ ?_
    · rintro i v σ' H' hi ⟨⟨y, rfl⟩, rfl, no⟩
      rw [List.getElem?_map] at hi
      obtain ⟨z, ez, rfl⟩ := Option.map_eq_some_iff.mp hi
      refine ite2 (fun c => ?_) (fun c => ?_)
      · have c : z < 0 := of_decide_eq_true c
        rw [neg_at no ez c] at q
        refine mk_spE (by show 1 ≤ 1000; decide) ⟨z, rfl, small z (List.mem_of_getElem? ez)⟩ (fun d nd => ?_)
        exact q a_BadTurn d _ T.n_BadTurn (b3.trans (Bt.same (same_new nd))) (b3.free (fun e => by rw [e, hx3] at nd; cases nd) nd) upd_same
      · have c : ¬ z < 0 := of_decide_eq_false (Bool.eq_false_iff.mpr c)
        refine ⟨⟨_, rfl⟩, rfl, fun y hy => ?_⟩
        rw [take_snoc ez] at hy
        rcases List.mem_append.mp hy with h | h
        · exact no y h
        · rw [List.mem_singleton.mp h]
          exact c
    rintro σ' H' ⟨⟨y, rfl⟩, rfl, no⟩
    rw [List.length_map, List.take_length] at no
    rw [neg_none no] at q
    exact q _ b3 ⟨a_Weaving, dx, t, T.n_Weaving, hx3, ht3⟩
  · have s1 := Same.refl H
    have ht := h
    refine ⟨x, a_Weaving, dx, [], rfl, s1 _ _ hx, T.cl_Weaving, T.na_Weaving_turns, by decide, ?_⟩
    generalize hH2 : upd H x _ = H2
    have b2 : Bt x H H2 := fun b o nb hb => by rw [← hH2, upd_ne nb]; exact s1 _ _ hb
    have hx2 : H2 x = some (.ins a_Weaving dx [("turns", .ref p)]) := by rw [← hH2, upd_same]; rfl
    have ht2 : SqT K H2 p (ns.map V.int) := by rw [← hH2]; exact sqT_ins ht (s1 _ _ hx)
    clear hH2
    refine ⟨x, a_Weaving, dx, _, _, rfl, hx2, T.cl_Weaving, T.na_Weaving_turns, rfl, .inl ⟨_, .inr ht2, ?_⟩⟩
    refine ⟨x, a_Weaving, dx, _, rfl, hx2, T.cl_Weaving, T.na_Weaving__many, (by show 1 < 1000; decide), ?_⟩
    generalize hH3 : upd H2 x _ = H3
    have b3 : Bt x H H3 := fun b o nb hb => by rw [← hH3, upd_ne nb]; exact b2 _ _ nb hb
    have hx3 : H3 x = some (.ins a_Weaving dx [("turns", .ref p), ("_many", .int (ns.length : Int))]) := by rw [← hH3, upd_same, List.length_map]; rfl
    have ht3 : SqT K H3 p (ns.map V.int) := by rw [← hH3]; exact sqT_ins ht2 hx2
    clear hH3 hx2 ht2 b2
    refine ⟨x, a_Weaving, dx, _, _, rfl, hx3, T.cl_Weaving, T.na_Weaving_turns, rfl, p, rfl, ⟨_, ht3⟩, ?_⟩
    unfold WvInit at q
    refine for_tup (K := K) (a := p) (xs := ns.map V.int) (fun i σ' H' => (∃ y, σ' = [some (.ref x), some (.ref p), y]) ∧ H' = H3 ∧ ∀ y ∈ ns.take i, ¬ y < 0) ⟨⟨_, rfl⟩, rfl, fun _ h => nomatch h⟩ (fun i σ' H' _ h => by rw [h.2.1]; exact ht3) ?_ ?_
    · rintro i v σ' H' hi ⟨⟨y, rfl⟩, rfl, no⟩
      rw [List.getElem?_map] at hi
      obtain ⟨z, ez, rfl⟩ := Option.map_eq_some_iff.mp hi
      refine ite2 (fun c => ?_) (fun c => ?_)
      · have c : z < 0 := of_decide_eq_true c
        rw [neg_at no ez c] at q
        refine mk_spE (by show 1 ≤ 1000; decide) ⟨z, rfl, small z (List.mem_of_getElem? ez)⟩ (fun d nd => ?_)
        exact q a_BadTurn d _ T.n_BadTurn (b3.trans (Bt.same (same_new nd))) (b3.free (fun e => by rw [e, hx3] at nd; cases nd) nd) upd_same
      · have c : ¬ z < 0 := of_decide_eq_false (Bool.eq_false_iff.mpr c)
        refine ⟨⟨_, rfl⟩, rfl, fun y hy => ?_⟩
        rw [take_snoc ez] at hy
        rcases List.mem_append.mp hy with h | h
        · exact no y h
        · rw [List.mem_singleton.mp h]
          exact c
    rintro σ' H' ⟨⟨y, rfl⟩, rfl, no⟩
    rw [List.length_map, List.take_length] at no
    rw [neg_none no] at q
    exact q _ b3 ⟨a_Weaving, dx, p, T.n_Weaving, hx3, ht3⟩
def sp_Weaving___len__ (K : PySem.W.Frag) : Sp := fun vs H Q _ => ∃ (a : Addr) (ns : List Int), vs = [.ref a] ∧ WvAt K H a ns ∧ Q (.int (ns.length : Int)) H
theorem len_Weaving___len__ {vs : List V} {H : Hp} {Q : VK} {E : XK} (h : sp_Weaving___len__ K vs H Q E) : vs.length = 1 := by
  obtain ⟨_, _, rfl, _⟩ := h
  rfl
theorem ok_Weaving___len__ {f : Addr} {fd : FuncData} (F : Fun K "__len__" "Weaving.__len__" s_Weaving___len__ f fd) (T : Gs K mg t_BOUND t_DIGITS t_LETTERS t_LONGEST_INTEGER t_MOST_TIMES a_MARKS a_SIGNS a_BadNumber a_BadText a_BadTurn a_ElseputError a_Reader a_Weaving) : FnOk P w K mg base CX0 1 f fd ["self"] (sp_Weaving___len__ K) := by
  refine F.ok sc_Weaving___len__ (fun vs H Q E h => len_Weaving___len__ h) (fun cdv A outer s H vs Q E hr h => ?_)
  obtain ⟨a, ns, rfl, ⟨C, dx, t, hC, ha, ht⟩, q⟩ := h
  cases hC.symm.trans T.n_Weaving
  refine ⟨_, (pss_one (ps_ret (pe_callB (lenK K) (by rfl) T.z_len PySem.boot_len (pa_cons (e_f K (v_ 0)) pa_nil)))), ?_⟩
  refine ⟨a, a_Weaving, dx, _, _, rfl, ha, T.cl_Weaving, T.na_Weaving_turns, rfl, .inl ⟨_, .inr ht, ?_⟩⟩
  rw [List.length_map]
  exact q
def sp_Weaving___iter__ (K : PySem.W.Frag) : Nat → Sp := fun n vs H Q _ => ∃ (a : Addr) (ns : List Int), vs = [.ref a] ∧ WvAt K H a ns ∧ ∀ t it, SqT K H t (ns.map V.int) → H it = none → n ≤ it → Q (.ref it) (upd H it (TitO t it))
theorem len_Weaving___iter__ {n : Nat} {vs : List V} {H : Hp} {Q : VK} {E : XK} (h : sp_Weaving___iter__ K n vs H Q E) : vs.length = 1 := by
  obtain ⟨_, _, rfl, _⟩ := h
  rfl
theorem ok_Weaving___iter__ {f : Addr} {fd : FuncData} (F : Fun K "__iter__" "Weaving.__iter__" s_Weaving___iter__ f fd) (B : Binds K fd ["self"] []) (T : Gs K mg t_BOUND t_DIGITS t_LETTERS t_LONGEST_INTEGER t_MOST_TIMES a_MARKS a_SIGNS a_BadNumber a_BadText a_BadTurn a_ElseputError a_Reader a_Weaving) : FnS P w K mg base CX0 1 f (sp_Weaving___iter__ K) := by
  refine fun_okS F sc_Weaving___iter__ B (fun n vs H Q E h => len_Weaving___iter__ h) (fun cdv A outer s H vs Q E hr h => ?_)
  obtain ⟨a, ns, rfl, ⟨C, dx, t, hC, ha, ht⟩, q⟩ := h
  cases hC.symm.trans T.n_Weaving
  refine ⟨_, (pss_one (ps_ret (pe_callB (iterTK K s.heap.objs.size) (by rfl) T.z_iter (by decide +kernel) (pa_cons (e_f K (v_ 0)) pa_nil)))), ?_⟩
  refine ⟨a, a_Weaving, dx, _, _, rfl, ha, T.cl_Weaving, T.na_Weaving_turns, rfl, ?_⟩
  exact ⟨t, _, rfl, ht, fun it n1 n2 => q t it ht n1 n2⟩
theorem same_mk {H : Hp} {x dx C : Addr} (nx : H x = none) (nd : H dx = none) : Same H (upd (upd H dx (.own x)) x (.ins C dx [])) := fun b o hb => by
  rw [upd_ne (ne_of_none hb nx), upd_ne (ne_of_none hb nd)]
  exact hb
structure WvOk (ns : List Int) : Prop where
  len : ns.length ≤ 50000
  small : ∀ i ∈ ns, i.natAbs < 2 ^ 200
  pos : ∀ i ∈ ns, ¬ i < 0
theorem made_weaving {K : PySem.W.Frag} {H : Hp} {C p x dx : Addr} {ns : List Int} {Q : VK} {E : XK} (nx : H x = none) (nd : H dx = none) (ne : dx ≠ x) (hC : PySem.W.nsIn K mainGlobals "Weaving" = some (some (.ref C))) (hp : SqL K H p (ns.map V.int) ∨ SqT K H p (ns.map V.int)) (len : ns.length ≤ 100000) (small : ∀ i ∈ ns, i.natAbs < 2 ^ 200)
    (q : match neg1 ns with
      | some i => ∀ (B d : Addr) (H' : Hp), PySem.W.nsIn K mainGlobals "BadTurn" = some (some (.ref B)) → Same H H' → H d = none → H' d = some (.xd [("writer", .int i)]) → E (.ref B) (some d) H'
      | none => ∀ H', Same H H' → WvAt K H' x ns → Q .non H') : sp_Weaving___init__ K [.ref x, .ref p] (upd (upd H dx (.own x)) x (.ins C dx [])) Q E := by
  have sm : Same H (upd (upd H dx (.own x)) x (.ins C dx [])) := same_mk nx nd
  have after : ∀ {H' : Hp}, Bt x (upd (upd H dx (.own x)) x (.ins C dx [])) H' → Same H H' := fun {H'} k b o hb => k b o (ne_of_none hb nx) (sm _ _ hb)
  refine ⟨x, p, C, dx, ns, rfl, hC, upd_same, hp.imp (fun h => sm.seq h) (fun h => SqT.same h sm), len, small, ?_⟩
  unfold WvInit
  cases hb : neg1 ns with
  | some z =>
    rw [hb] at q
    exact fun B d H' hB k nd' hd => q B d H' hB (after k) (free_new (free_new nd')) hd
  | none =>
    rw [hb] at q
    exact fun H' k hw => q H' (after k) hw
def sp_Weaving___add__ (K : PySem.W.Frag) : Sp := fun vs H Q _ => ∃ (a b : Addr) (ns ms : List Int), vs = [.ref a, .ref b] ∧ WvAt K H a ns ∧ WvAt K H b ms ∧ WvOk ns ∧ WvOk ms ∧ ∀ (H' : Hp) (x : Addr), Same H H' → H x = none → WvAt K H' x (ns ++ ms) → Q (.ref x) H'
theorem len_Weaving___add__ {vs : List V} {H : Hp} {Q : VK} {E : XK} (h : sp_Weaving___add__ K vs H Q E) : vs.length = 2 := by
  obtain ⟨_, _, _, _, rfl, _⟩ := h
  rfl
theorem ok_Weaving___add__ {f : Addr} {fd : FuncData} {f_Weaving___init__ : Addr} {fd_Weaving___init__ : FuncData} (F : Fun K "__add__" "Weaving.__add__" s_Weaving___add__ f fd) (T : Gs K mg t_BOUND t_DIGITS t_LETTERS t_LONGEST_INTEGER t_MOST_TIMES a_MARKS a_SIGNS a_BadNumber a_BadText a_BadTurn a_ElseputError a_Reader a_Weaving) (c_Weaving___init__ : CalI P w K mg base (L2.CX P w) 3 "Weaving" a_Weaving f_Weaving___init__ fd_Weaving___init__ ["self", "turns"] (sp_Weaving___init__ K)) : FnOk P w K mg base (L2.CX P w) 5 f fd ["self", "other"] (sp_Weaving___add__ K) := by
  refine F.okX sc_Weaving___add__ (fun vs H Q E h => len_Weaving___add__ h) (fun cdv A outer s H vs Q E hr h => ?_)
  obtain ⟨a, b, ns, ms, rfl, ⟨C, dx, t, hC, ha, ht⟩, ⟨C2, dy, u, hC2, hb, hu⟩, on, om, q⟩ := h
  cases hC.symm.trans T.n_Weaving
  cases hC2.symm.trans T.n_Weaving
  refine ⟨_, (pss_one (ps_ret (pe_make c_Weaving___init__.mkc c_Weaving___init__.G (hr.mono (by first | decide | omega)) rfl c_Weaving___init__.m c_Weaving___init__.b .nil (passes_call (takes_of rfl rfl rfl rfl) (fun _ _ _ _ h => h)) (pa_cons (pe_tup (StX.pa_star (e_f K (v_ 0)) (StX.pa_star (e_f K (v_ 1)) pa_nil))) pa_nil)))), ?_⟩
  refine ⟨a, a_Weaving, dx, _, _, rfl, ha, T.cl_Weaving, T.na_Weaving_turns, rfl, t, _, rfl, .inl ht, ?_⟩
  refine ⟨b, a_Weaving, dy, _, _, rfl, hb, T.cl_Weaving, T.na_Weaving_turns, rfl, u, _, rfl, .inl hu, ?_⟩
  have l1 := on.len
  have l2 := om.len
  have eN : ns.map V.int ++ (ms.map V.int ++ []) = (ns ++ ms).map V.int := by rw [List.append_nil, List.map_append]
  refine ⟨by rw [eN, List.length_map, List.length_append]; exact line_of (by omega), fun p np => ?_⟩
  have sp := same_new (o := .tup (ns.map V.int ++ (ms.map V.int ++ []))) np
  have hp := upd_same (H := H) (a := p) (o := .tup (ns.map V.int ++ (ms.map V.int ++ [])))
  generalize upd H p (.tup (ns.map V.int ++ (ms.map V.int ++ []))) = H1 at sp hp ⊢
  rw [eN] at hp
  refine fun x dz nx nd ne => made_weaving nx nd ne T.n_Weaving (.inr (SqT.of hp)) (by rw [List.length_append]; omega) (fun i hi => (List.mem_append.mp hi).elim (on.small i) (om.small i)) ?_
  rw [neg_none fun i hi => (List.mem_append.mp hi).elim (on.pos i) (om.pos i)]
  exact fun H2 s2 hw => ⟨rfl, q H2 x (sp.trans s2) (Same.free sp nx) hw⟩
def sp_Weaving___iadd__ (K : PySem.W.Frag) : Sp := fun vs H Q _ => ∃ (a b : Addr) (ns ms : List Int), vs = [.ref a, .ref b] ∧ WvAt K H a ns ∧ WvAt K H b ms ∧ a ≠ b ∧ WvOk ns ∧ WvOk ms ∧ ∀ (H' : Hp), Bt a H H' → WvAt K H' a (ns ++ ms) → Q (.ref a) H'
theorem len_Weaving___iadd__ {vs : List V} {H : Hp} {Q : VK} {E : XK} (h : sp_Weaving___iadd__ K vs H Q E) : vs.length = 2 := by
  obtain ⟨_, _, _, _, rfl, _⟩ := h
  rfl
theorem ok_Weaving___iadd__ {f : Addr} {fd : FuncData} (F : Fun K "__iadd__" "Weaving.__iadd__" s_Weaving___iadd__ f fd) (T : Gs K mg t_BOUND t_DIGITS t_LETTERS t_LONGEST_INTEGER t_MOST_TIMES a_MARKS a_SIGNS a_BadNumber a_BadText a_BadTurn a_ElseputError a_Reader a_Weaving) : FnOk P w K mg base CX0 1 f fd ["self", "other"] (sp_Weaving___iadd__ K) := by
  refine F.ok sc_Weaving___iadd__ (fun vs H Q E h => len_Weaving___iadd__ h) (fun cdv A outer s H vs Q E hr h => ?_)
  obtain ⟨a, b, ns, ms, rfl, ⟨C, dx, t, hC, ha, ht⟩, ⟨C2, dy, u, hC2, hb, hu⟩, ab, on, om, q⟩ := h
  cases hC.symm.trans T.n_Weaving
  cases hC2.symm.trans T.n_Weaving
  refine ⟨_, (pss_cons (ps_fld (v_ 0) (pe_tup (StX.pa_star (e_f K (v_ 0)) (StX.pa_star (e_f K (v_ 1)) pa_nil))) (by rfl)) (pss_cons (ps_fld (v_ 0) (pe_callB (lenK K) (by rfl) T.z_len PySem.boot_len (pa_cons (e_f K (v_ 0)) pa_nil)) (by rfl)) (pss_one (ps_ret (v_ 0))))), ?_⟩
  refine ⟨a, a_Weaving, dx, _, _, rfl, ha, T.cl_Weaving, T.na_Weaving_turns, rfl, t, _, rfl, .inl ht, ?_⟩
  refine ⟨b, a_Weaving, dy, _, _, rfl, hb, T.cl_Weaving, T.na_Weaving_turns, rfl, u, _, rfl, .inl hu, ?_⟩
  have l1 := on.len
  have l2 := om.len
  have eN : ns.map V.int ++ (ms.map V.int ++ []) = (ns ++ ms).map V.int := by rw [List.append_nil, List.map_append]
  refine ⟨by rw [eN, List.length_map, List.length_append]; exact line_of (by omega), fun p np => ?_⟩
  have sp := same_new (o := .tup (ns.map V.int ++ (ms.map V.int ++ []))) np
  have hp := SqT.of (K := K) (upd_same (H := H) (a := p) (o := .tup (ns.map V.int ++ (ms.map V.int ++ []))))
  generalize upd H p (.tup (ns.map V.int ++ (ms.map V.int ++ []))) = H1 at sp hp ⊢
  rw [eN] at hp
  have ha1 := sp _ _ ha
  refine ⟨a, a_Weaving, dx, _, rfl, ha1, T.cl_Weaving, T.na_Weaving_turns, (by show 2 < 1000; decide), ?_⟩
  generalize hH2 : upd H1 a _ = H2
  have b2 : Bt a H H2 := fun b o nb hb => by rw [← hH2, upd_ne nb]; exact sp _ _ hb
  have ha2 : H2 a = some (.ins a_Weaving dx [("turns", .ref p), ("_many", .int (ns.length : Int))]) := by rw [← hH2, upd_same]; rfl
  have hp2 : SqT K H2 p ((ns ++ ms).map V.int) := by rw [← hH2]; exact sqT_ins hp ha1
  clear hH2
  refine ⟨a, a_Weaving, dx, _, _, rfl, ha2, T.cl_Weaving, T.na_Weaving_turns, rfl, .inl ⟨_, .inr hp2, ?_⟩⟩
  refine ⟨a, a_Weaving, dx, _, rfl, ha2, T.cl_Weaving, T.na_Weaving__many, (by show 2 < 1000; decide), ?_⟩
  generalize hH3 : upd H2 a _ = H3
  have b3 : Bt a H H3 := fun b o nb hb => by rw [← hH3, upd_ne nb]; exact b2 _ _ nb hb
  have ha3 : H3 a = some (.ins a_Weaving dx [("turns", .ref p), ("_many", .int ((ns ++ ms).length : Int))]) := by rw [← hH3, upd_same, List.length_map]; rfl
  have hp3 : SqT K H3 p ((ns ++ ms).map V.int) := by rw [← hH3]; exact sqT_ins hp2 ha2
  exact q H3 b3 ⟨a_Weaving, dx, p, T.n_Weaving, ha3, hp3⟩
end
section
variable {P : Program} {w : World} {K : PySem.W.Frag} {mg : Str → Option Value} {base : Heap}
variable {t_BOUND t_DIGITS t_LETTERS t_LONGEST_INTEGER t_MOST_TIMES : Tok} {a_MARKS a_SIGNS a_BadNumber a_BadText a_BadTurn a_ElseputError a_Reader a_Weaving : Addr}
/-! ### how many times -/
def Times (K : PySem.W.Frag) (H : Hp) (i : Int) (q : Prop) (E : XK) : Prop := if 0 ≤ i ∧ i ≤ 1000 then q else
  ∀ (C d : Addr) (H' : Hp), PySem.W.nsIn K mainGlobals "BadNumber" = some (some (.ref C)) → Same H H' → H d = none → H' d = some (.xd [("value", .int i)]) → E (.ref C) (some d) H'
def sp_check_times (K : PySem.W.Frag) : Sp := fun vs H Q E => ∃ i : Int, vs = [.int i] ∧ i.natAbs < 2 ^ 200 ∧ Times K H i (Q .non H) E
theorem len_check_times {vs : List V} {H : Hp} {Q : VK} {E : XK} (h : sp_check_times K vs H Q E) : vs.length = 1 := by
  obtain ⟨_, rfl, _⟩ := h
  rfl
theorem ok_check_times {f : Addr} {fd : FuncData} {f_BadNumber : Addr} {fd_BadNumber : FuncData} (F : Fun K "check_times" "check_times" s_check_times f fd) (T : Gs K mg t_BOUND t_DIGITS t_LETTERS t_LONGEST_INTEGER t_MOST_TIMES a_MARKS a_SIGNS a_BadNumber a_BadText a_BadTurn a_ElseputError a_Reader a_Weaving) (c_BadNumber : CalE P w K mg base 1 "BadNumber" a_BadNumber f_BadNumber fd_BadNumber ["self", "value"] okx_BadNumber fs_BadNumber ["value"]) : FnOk P w K mg base (L2.CX P w) 3 f fd ["times"] (sp_check_times K) := by
  refine F.okX sc_check_times (fun vs H Q E h => len_check_times h) (fun cdv A outer s H vs Q E hr h => ?_)
  obtain ⟨i, rfl, hi, q⟩ := h
  refine ⟨_, (pss_one (ps_if (PW.pt (pw_or (pt_c op_ltM (v_ 0) pe_int) (pw_or1 (pt_c op_gtM (v_ 0) (pe_glob (v := .int 1000) rfl T.g_MOST_TIMES ⟨_, rfl⟩))))) (pss_one (ps_raise rfl (takes_of rfl rfl rfl rfl) (pmk_oex c_BadNumber.X.oex c_BadNumber.X.iC c_BadNumber.X.tI c_BadNumber.G (hr.mono (by first | decide | omega)) c_BadNumber.b .nil pass0 rfl c_BadNumber.m (pa_cons (v_ 0) pa_nil)))) pss_nil)), ?_⟩
  unfold Times at q
  refine ite2 (fun e => ?_) (fun e => ?_)
  · have e : i < 0 := of_decide_eq_true e
    rw [if_neg (by omega)] at q
    refine mk_spE (by show 1 ≤ 1000; decide) ⟨i, rfl, hi⟩ (fun d nd => ?_)
    exact q a_BadNumber d _ T.n_BadNumber (same_new nd) nd upd_same
  · have e : ¬ i < 0 := of_decide_eq_false (Bool.eq_false_iff.mpr e)
    refine ite2 (fun e2 => ?_) (fun e2 => ?_)
    · have e2 : 1000 < i := of_decide_eq_true e2
      rw [if_neg (by omega)] at q
      refine mk_spE (by show 1 ≤ 1000; decide) ⟨i, rfl, hi⟩ (fun d nd => ?_)
      exact q a_BadNumber d _ T.n_BadNumber (same_new nd) nd upd_same
    · have e2 : ¬ 1000 < i := of_decide_eq_false (Bool.eq_false_iff.mpr e2)
      rw [if_pos (by omega)] at q
      exact q
/-! ### weavings compared -/
def wvK (ns : List Int) : List Key := ns.map Sum.inl
def wvD (ns : List Int) : PyData := .tuple [.int (ns.length : Int), ksD (wvK ns)]
theorem wvK_vals {ns : List Int} : (wvK ns).map kV = ns.map V.int := by
  unfold wvK
  rw [List.map_map]
  rfl
theorem wvK_inj {a b : List Int} : wvK a = wvK b ↔ a = b := by
  constructor
  · intro h
    have := congrArg (List.map (fun k : Key => match k with | .inl i => i | .inr _ => 0)) h
    unfold wvK at this
    rw [List.map_map, List.map_map] at this
    have e : ∀ l : List Int, List.map ((fun k : Key => match k with | .inl i => i | .inr _ => 0) ∘ Sum.inl) l = l := fun l => by
      induction l with
      | nil => rfl
      | cons x r ih => rw [List.map_cons, ih]; rfl
    rw [e, e] at this
    exact this
  · exact fun h => congrArg wvK h
theorem wvD_eqv (a b : List Int) : PyData.eqv (wvD a) (wvD b) = decide (a = b) := by
  unfold wvD
  simp only [PyData.eqv, PyData.eqvAll]
  rw [ksD_eqv, Bool.eq_iff_iff, Bool.and_eq_true, Bool.and_true, beq_iff_eq, decide_eq_true_iff, decide_eq_true_iff, wvK_inj]
  exact ⟨fun h => h.2, fun h => ⟨by rw [h], h⟩⟩
theorem wvD_dp {K : PySem.W.Frag} {H : Hp} {t u : Addr} {ns : List Int} (ht : SqT K H t (ns.map V.int)) (hu : H u = some (.tup [.int (ns.length : Int), .ref t])) : Dp K H (.ref u) (wvD ns) :=
  .tup (SqT.of hu) (.cons (.int _) (.cons (KyAt.dp ⟨t, rfl, by rw [wvK_vals]; exact ht⟩) .nil))
def lessI : List Int → List Int → Bool
  | x :: a, y :: b => if x = y then lessI a b else decide (x < y)
  | _, _ => false
def wvLess (a b : List Int) : Bool := if a.length = b.length then lessI a b else decide (a.length < b.length)
theorem lex_same (l : List (Int ⊕ List Nat)) : PyProof.Rows.lexLt itemOrd l l = false := by 
  have := PySem.W.lex_pre l [] []
  rw [List.append_nil] at this
  exact this
theorem toks_less (l : List (Int ⊕ List Nat)) : ∀ {a b : List Int}, a.length = b.length → PyProof.Rows.lexLt itemOrd (PySem.W.keyToksAll ((wvK a).map kD) ++ l) (PySem.W.keyToksAll ((wvK b).map kD) ++ l) = lessI a b
  | [], [], _ => lex_same _
  | x :: a, y :: b, h => by
    show PyProof.Rows.lexLt itemOrd (PySem.W.keyToksAll (.int x :: (wvK a).map kD) ++ l) (PySem.W.keyToksAll (.int y :: (wvK b).map kD) ++ l) = _
    rw [PySem.W.toks_all_cons, PySem.W.toks_all_cons]
    simp only [PySem.W.keyToks, List.cons_append, List.nil_append]
    rw [lex_self]
    by_cases e : x = y
    · subst e
      rw [lex_self]
      unfold lessI
      rw [if_pos rfl]
      exact toks_less l (Nat.succ.inj h)
    · rw [lex_diff (O := itemOrd) (fun h => e (Sum.inl.inj h))]
      unfold lessI
      rw [if_neg e]
      rfl
theorem wvD_lt (a b : List Int) : PySem.W.dataLt (wvD a) (wvD b) = wvLess a b := by
  unfold PySem.W.dataLt wvD wvLess
  simp only [PySem.W.keyToks, ksD]
  rw [PySem.W.toks_all_cons, PySem.W.toks_all_cons, PySem.W.toks_all_cons, PySem.W.toks_all_cons]
  simp only [PySem.W.keyToks, List.cons_append, List.nil_append]
  rw [lex_self]
  by_cases e : a.length = b.length
  · rw [if_pos e, e, lex_self, lex_self]
    exact toks_less _ e
  · rw [if_neg e, lex_diff (O := itemOrd) (fun h => e (by have := Sum.inl.inj h; omega))]
    show decide ((a.length : Int) < b.length) = _
    rw [decide_eq_decide]
    omega
theorem wvD_alike (a b : List Int) : PySem.W.alike (wvD a) (wvD b) = true := by
  have : ∀ a b : List Int, PySem.W.alikeAll ((wvK a).map kD) ((wvK b).map kD) = true := by
    intro a
    induction a with
    | nil => intro b; simp [wvK, PySem.W.alikeAll]
    | cons x a ih =>
      intro b
      cases b with
      | nil => simp [wvK, PySem.W.alikeAll]
      | cons y b =>
        show PySem.W.alikeAll (.int x :: (wvK a).map kD) (.int y :: (wvK b).map kD) = true
        simp only [PySem.W.alikeAll, PySem.W.alike, Bool.true_and]
        exact ih b
  unfold wvD ksD
  simp only [PySem.W.alikeAll, PySem.W.alike, Bool.true_and, Bool.and_true]
  exact this a b
theorem wvD_depth (a : List Int) : (wvD a).depth ≤ 3 := by
  have := ksD_depth (wvK a)
  unfold wvD
  simp only [PyData.depth, PyData.depthAll]
  omega
theorem wvD_none (a : List Int) : wvD a ≠ .none := by
  unfold wvD
  intro h
  cases h
theorem wvD_shaped (a : List Int) : SeqAt.shaped (wvD a) = true := by
  have h1 := wvD_depth a
  have h2 : ∀ a : List Int, PyData.canLayAll0 ((wvK a).map kD) = true := fun a => by
    induction a with
    | nil => simp [wvK, PyData.canLayAll0]
    | cons x a ih =>
      show PyData.canLayAll0 (.int x :: (wvK a).map kD) = true
      simp only [PyData.canLayAll0, PyData.canLay0, Bool.true_and]
      exact ih
  show ((wvD a).canLay0 && decide ((wvD a).depth ≤ 64)) = true
  rw [Bool.and_eq_true]
  refine ⟨?_, decide_eq_true (by omega)⟩
  unfold wvD ksD
  simp only [PyData.canLay0, PyData.canLayAll0, Bool.true_and, Bool.and_true]
  exact h2 a
/-- the def of a comparison: both weavings, and what it says -/
def CmpW (f : List Int → List Int → Bool) (K : PySem.W.Frag) : Sp := fun vs H Q _ => ∃ (a b : Addr) (ns ms : List Int), vs = [.ref a, .ref b] ∧ WvAt K H a ns ∧ WvAt K H b ms ∧ ∀ H', Same H H' → Q (.bl (f ns ms)) H'
theorem CmpW.len {f : List Int → List Int → Bool} {vs : List V} {H : Hp} {Q : VK} {E : XK} (h : CmpW f K vs H Q E) : vs.length = 2 := by
  obtain ⟨_, _, _, _, rfl, _⟩ := h
  rfl
def sp_Weaving___eq__ (K : PySem.W.Frag) : Sp := CmpW (fun a b => decide (a = b)) K
theorem len_Weaving___eq__ {vs : List V} {H : Hp} {Q : VK} {E : XK} (h : sp_Weaving___eq__ K vs H Q E) : vs.length = 2 := h.len
theorem ok_Weaving___eq__ {f : Addr} {fd : FuncData} (F : Fun K "__eq__" "Weaving.__eq__" s_Weaving___eq__ f fd) (T : Gs K mg t_BOUND t_DIGITS t_LETTERS t_LONGEST_INTEGER t_MOST_TIMES a_MARKS a_SIGNS a_BadNumber a_BadText a_BadTurn a_ElseputError a_Reader a_Weaving) : FnOk P w K mg base CX0 1 f fd ["self", "other"] (sp_Weaving___eq__ K) := by
  refine F.ok sc_Weaving___eq__ (fun vs H Q E h => len_Weaving___eq__ h) (fun cdv A outer s H vs Q E hr h => ?_)
  obtain ⟨a, b, ns, ms, rfl, ⟨C, dx, t, hC, ha, ht⟩, ⟨C2, dy, u, hC2, hb, hu⟩, q⟩ := h
  cases hC.symm.trans T.n_Weaving
  cases hC2.symm.trans T.n_Weaving
  refine ⟨_, (pss_cons (ps_if (pt_not (pt_t K (pe_callB (isiK K) (by rfl) T.z_isinstance (by decide +kernel) (pa_cons (v_ 1) (pa_cons (pe_glob (v := .ref a_Weaving) rfl T.g_Weaving rfl) pa_nil))))) (pss_one ps_never) pss_nil) (pss_one (ps_ret (pe_c (eqK K hr.units) (pe_tup (pa_cons (e_f K (v_ 0)) (pa_cons (e_f K (v_ 0)) pa_nil))) (pe_tup (pa_cons (e_f K (v_ 1)) (pa_cons (e_f K (v_ 1)) pa_nil))))))), ?_⟩
  refine ⟨_, _, _, _, true, rfl, .own _, ty_ins hb T.cl_Weaving T.is_Weaving, kit_self, ?_⟩
  refine ⟨a, a_Weaving, dx, _, _, rfl, ha, T.cl_Weaving, T.na_Weaving__many, rfl, a, a_Weaving, dx, _, _, rfl, ha, T.cl_Weaving, T.na_Weaving_turns, rfl, (by show 2 ≤ sizeLine; decide), fun p np => ?_⟩
  have s1 := same_new (o := .tup [.int (ns.length : Int), .ref t]) np
  have hp := upd_same (H := H) (a := p) (o := .tup [.int (ns.length : Int), .ref t])
  generalize upd H p (.tup [.int (ns.length : Int), .ref t]) = H1 at s1 hp ⊢
  have hb1 := s1 _ _ hb
  refine ⟨b, a_Weaving, dy, _, _, rfl, hb1, T.cl_Weaving, T.na_Weaving__many, rfl, b, a_Weaving, dy, _, _, rfl, hb1, T.cl_Weaving, T.na_Weaving_turns, rfl, (by show 2 ≤ sizeLine; decide), fun r nr => ?_⟩
  have s2 := same_new (o := .tup [.int (ms.length : Int), .ref u]) nr
  have hr2 := upd_same (H := H1) (a := r) (o := .tup [.int (ms.length : Int), .ref u])
  generalize upd H1 r (.tup [.int (ms.length : Int), .ref u]) = H2 at s2 hr2 ⊢
  have s12 := s1.trans s2
  have dp1 := wvD_dp (K := K) (SqT.same ht s12) (s2 _ _ hp)
  have dp2 := wvD_dp (K := K) (SqT.same hu s12) hr2
  refine ⟨_, _, dp1, dp2, wvD_shaped _, wvD_shaped _, ?_⟩
  rw [wvD_eqv]
  exact q _ s12
def sp_Weaving___lt__ (K : PySem.W.Frag) : Sp := CmpW wvLess K
theorem len_Weaving___lt__ {vs : List V} {H : Hp} {Q : VK} {E : XK} (h : sp_Weaving___lt__ K vs H Q E) : vs.length = 2 := h.len
theorem ok_Weaving___lt__ {f : Addr} {fd : FuncData} (F : Fun K "__lt__" "Weaving.__lt__" s_Weaving___lt__ f fd) (T : Gs K mg t_BOUND t_DIGITS t_LETTERS t_LONGEST_INTEGER t_MOST_TIMES a_MARKS a_SIGNS a_BadNumber a_BadText a_BadTurn a_ElseputError a_Reader a_Weaving) : FnOk P w K mg base CX0 1 f fd ["self", "other"] (sp_Weaving___lt__ K) := by
  refine F.ok sc_Weaving___lt__ (fun vs H Q E h => len_Weaving___lt__ h) (fun cdv A outer s H vs Q E hr h => ?_)
  obtain ⟨a, b, ns, ms, rfl, ⟨C, dx, t, hC, ha, ht⟩, ⟨C2, dy, u, hC2, hb, hu⟩, q⟩ := h
  cases hC.symm.trans T.n_Weaving
  cases hC2.symm.trans T.n_Weaving
  refine ⟨_, (pss_cons (ps_if (pt_not (pt_t K (pe_callB (isiK K) (by rfl) T.z_isinstance (by decide +kernel) (pa_cons (v_ 1) (pa_cons (pe_glob (v := .ref a_Weaving) rfl T.g_Weaving rfl) pa_nil))))) (pss_one ps_never) pss_nil) (pss_one (ps_ret (pe_c (ltD K hr.units) (pe_tup (pa_cons (e_f K (v_ 0)) (pa_cons (e_f K (v_ 0)) pa_nil))) (pe_tup (pa_cons (e_f K (v_ 1)) (pa_cons (e_f K (v_ 1)) pa_nil))))))), ?_⟩
  refine ⟨_, _, _, _, true, rfl, .own _, ty_ins hb T.cl_Weaving T.is_Weaving, kit_self, ?_⟩
  refine ⟨a, a_Weaving, dx, _, _, rfl, ha, T.cl_Weaving, T.na_Weaving__many, rfl, a, a_Weaving, dx, _, _, rfl, ha, T.cl_Weaving, T.na_Weaving_turns, rfl, (by show 2 ≤ sizeLine; decide), fun p np => ?_⟩
  have s1 := same_new (o := .tup [.int (ns.length : Int), .ref t]) np
  have hp := upd_same (H := H) (a := p) (o := .tup [.int (ns.length : Int), .ref t])
  generalize upd H p (.tup [.int (ns.length : Int), .ref t]) = H1 at s1 hp ⊢
  have hb1 := s1 _ _ hb
  refine ⟨b, a_Weaving, dy, _, _, rfl, hb1, T.cl_Weaving, T.na_Weaving__many, rfl, b, a_Weaving, dy, _, _, rfl, hb1, T.cl_Weaving, T.na_Weaving_turns, rfl, (by show 2 ≤ sizeLine; decide), fun r nr => ?_⟩
  have s2 := same_new (o := .tup [.int (ms.length : Int), .ref u]) nr
  have hr2 := upd_same (H := H1) (a := r) (o := .tup [.int (ms.length : Int), .ref u])
  generalize upd H1 r (.tup [.int (ms.length : Int), .ref u]) = H2 at s2 hr2 ⊢
  have s12 := s1.trans s2
  have dp1 := wvD_dp (K := K) (SqT.same ht s12) (s2 _ _ hp)
  have dp2 := wvD_dp (K := K) (SqT.same hu s12) hr2
  have dl := wvD_depth ns
  refine ⟨_, _, dp1, dp2, wvD_alike _ _, wvD_none _, by omega, ?_⟩
  rw [wvD_lt]
  exact q _ s12
def sp_Weaving___le__ (K : PySem.W.Frag) : Sp := CmpW (fun a b => !wvLess b a) K
theorem len_Weaving___le__ {vs : List V} {H : Hp} {Q : VK} {E : XK} (h : sp_Weaving___le__ K vs H Q E) : vs.length = 2 := h.len
theorem ok_Weaving___le__ {f : Addr} {fd : FuncData} (F : Fun K "__le__" "Weaving.__le__" s_Weaving___le__ f fd) (T : Gs K mg t_BOUND t_DIGITS t_LETTERS t_LONGEST_INTEGER t_MOST_TIMES a_MARKS a_SIGNS a_BadNumber a_BadText a_BadTurn a_ElseputError a_Reader a_Weaving) : FnOk P w K mg base CX0 1 f fd ["self", "other"] (sp_Weaving___le__ K) := by
  refine F.ok sc_Weaving___le__ (fun vs H Q E h => len_Weaving___le__ h) (fun cdv A outer s H vs Q E hr h => ?_)
  obtain ⟨a, b, ns, ms, rfl, ⟨C, dx, t, hC, ha, ht⟩, ⟨C2, dy, u, hC2, hb, hu⟩, q⟩ := h
  cases hC.symm.trans T.n_Weaving
  cases hC2.symm.trans T.n_Weaving
  refine ⟨_, (pss_cons (ps_if (pt_not (pt_t K (pe_callB (isiK K) (by rfl) T.z_isinstance (by decide +kernel) (pa_cons (v_ 1) (pa_cons (pe_glob (v := .ref a_Weaving) rfl T.g_Weaving rfl) pa_nil))))) (pss_one ps_never) pss_nil) (pss_one (ps_ret (pe_c (leD K hr.units) (pe_tup (pa_cons (e_f K (v_ 0)) (pa_cons (e_f K (v_ 0)) pa_nil))) (pe_tup (pa_cons (e_f K (v_ 1)) (pa_cons (e_f K (v_ 1)) pa_nil))))))), ?_⟩
  refine ⟨_, _, _, _, true, rfl, .own _, ty_ins hb T.cl_Weaving T.is_Weaving, kit_self, ?_⟩
  refine ⟨a, a_Weaving, dx, _, _, rfl, ha, T.cl_Weaving, T.na_Weaving__many, rfl, a, a_Weaving, dx, _, _, rfl, ha, T.cl_Weaving, T.na_Weaving_turns, rfl, (by show 2 ≤ sizeLine; decide), fun p np => ?_⟩
  have s1 := same_new (o := .tup [.int (ns.length : Int), .ref t]) np
  have hp := upd_same (H := H) (a := p) (o := .tup [.int (ns.length : Int), .ref t])
  generalize upd H p (.tup [.int (ns.length : Int), .ref t]) = H1 at s1 hp ⊢
  have hb1 := s1 _ _ hb
  refine ⟨b, a_Weaving, dy, _, _, rfl, hb1, T.cl_Weaving, T.na_Weaving__many, rfl, b, a_Weaving, dy, _, _, rfl, hb1, T.cl_Weaving, T.na_Weaving_turns, rfl, (by show 2 ≤ sizeLine; decide), fun r nr => ?_⟩
  have s2 := same_new (o := .tup [.int (ms.length : Int), .ref u]) nr
  have hr2 := upd_same (H := H1) (a := r) (o := .tup [.int (ms.length : Int), .ref u])
  generalize upd H1 r (.tup [.int (ms.length : Int), .ref u]) = H2 at s2 hr2 ⊢
  have s12 := s1.trans s2
  have dp1 := wvD_dp (K := K) (SqT.same ht s12) (s2 _ _ hp)
  have dp2 := wvD_dp (K := K) (SqT.same hu s12) hr2
  have dl := wvD_depth ns
  refine ⟨_, _, dp1, dp2, wvD_alike _ _, wvD_none _, by omega, ?_⟩
  rw [wvD_lt]
  exact q _ s12
/-! ### many times -/
def repI (ns : List Int) (i : Int) : List Int := (List.replicate i.toNat ns).flatten
theorem rep_len (ns : List Int) : ∀ n : Nat, (List.replicate n ns).flatten.length = n * ns.length
  | 0 => by simp
  | n + 1 => by rw [List.replicate_succ, List.flatten_cons, List.length_append, rep_len ns n, Nat.succ_mul]; omega
theorem mem_repI {ns : List Int} {i z : Int} (h : z ∈ repI ns i) : z ∈ ns := by
  unfold repI at h
  obtain ⟨l, hl, hz⟩ := List.mem_flatten.mp h
  rw [(List.mem_replicate.mp hl).2] at hz
  exact hz
theorem rep_map (ns : List Int) (n : Nat) : (List.replicate n (ns.map V.int)).flatten = ((List.replicate n ns).flatten).map V.int := by
  rw [List.map_flatten, List.map_replicate]
def TimesW (K : PySem.W.Frag) (H : Hp) (ns : List Int) (i : Int) (Q : VK) (E : XK) : Prop := Times K H i (∀ (H' : Hp) (x : Addr), Same H H' → H x = none → WvAt K H' x (repI ns i) → Q (.ref x) H') E
def TmW (K : PySem.W.Frag) : Sp := fun vs H Q E => ∃ (a : Addr) (i : Int) (ns : List Int), vs = [.ref a, .int i] ∧ WvAt K H a ns ∧ WvOk ns ∧ ns.length ≤ 1000 ∧ (i ≤ 1000 → i.toNat * ns.length ≤ 50000) ∧ i.natAbs < 2 ^ 200 ∧ TimesW K H ns i Q E
theorem TmW.len {vs : List V} {H : Hp} {Q : VK} {E : XK} (h : TmW K vs H Q E) : vs.length = 2 := by
  obtain ⟨_, _, _, rfl, _⟩ := h
  rfl
theorem WvOk.rep {ns : List Int} (h : WvOk ns) {i : Int} (l : i.toNat * ns.length ≤ 50000) : WvOk (repI ns i) where
  len := by unfold repI; rw [rep_len]; exact l
  small := fun z hz => h.small z (mem_repI hz)
  pos := fun z hz => h.pos z (mem_repI hz)
def sp_Weaving___mul__ (K : PySem.W.Frag) : Sp := TmW K
theorem len_Weaving___mul__ {vs : List V} {H : Hp} {Q : VK} {E : XK} (h : sp_Weaving___mul__ K vs H Q E) : vs.length = 2 := h.len
theorem ok_Weaving___mul__ {f : Addr} {fd : FuncData} {f_check_times : Addr} {fd_check_times : FuncData} {f_Weaving___init__ : Addr} {fd_Weaving___init__ : FuncData} (F : Fun K "__mul__" "Weaving.__mul__" s_Weaving___mul__ f fd) (T : Gs K mg t_BOUND t_DIGITS t_LETTERS t_LONGEST_INTEGER t_MOST_TIMES a_MARKS a_SIGNS a_BadNumber a_BadText a_BadTurn a_ElseputError a_Reader a_Weaving) (c_check_times : Cal P w K mg base (L2.CX P w) 3 "check_times" f_check_times fd_check_times ["times"] (sp_check_times K)) (c_Weaving___init__ : CalI P w K mg base (L2.CX P w) 3 "Weaving" a_Weaving f_Weaving___init__ fd_Weaving___init__ ["self", "turns"] (sp_Weaving___init__ K)) : FnOk P w K mg base (L2.CX P w) 5 f fd ["self", "times"] (sp_Weaving___mul__ K) := by
  refine F.okX sc_Weaving___mul__ (fun vs H Q E h => len_Weaving___mul__ h) (fun cdv A outer s H vs Q E hr h => ?_)
  obtain ⟨a, i, ns, rfl, hA, ok, l1, l2, hi, q⟩ := h
  obtain ⟨C, dx, t, hC, ha, ht⟩ := id hA
  cases hC.symm.trans T.n_Weaving
  refine ⟨_, (pss_cons (ps_expr (pe_call c_check_times.G (hr.mono (by first | decide | omega)) rfl c_check_times.m c_check_times.kp c_check_times.b .nil (passes_call (takes_of rfl rfl rfl rfl) (fun _ _ _ _ h => h)) (pa_cons (v_ 1) pa_nil))) (pss_one (ps_ret (pe_make c_Weaving___init__.mkc c_Weaving___init__.G (hr.mono (by first | decide | omega)) rfl c_Weaving___init__.m c_Weaving___init__.b .nil (passes_call (takes_of rfl rfl rfl rfl) (fun _ _ _ _ h => h)) (pa_cons (pe_op (op_mulT K) (e_f K (v_ 0)) (v_ 1)) pa_nil))))), ?_⟩
  refine ⟨i, rfl, hi, ?_⟩
  unfold TimesW at q
  unfold Times at q ⊢
  by_cases hb : 0 ≤ i ∧ i ≤ 1000
  · rw [if_pos hb] at q ⊢
    have l3 := l2 hb.2
    have okr := ok.rep l3
    have lr := okr.len
    refine ⟨a, a_Weaving, dx, _, _, rfl, ha, T.cl_Weaving, T.na_Weaving_turns, rfl, ?_⟩
    refine ⟨t, i, _, rfl, rfl, ht, hb.1, hb.2, by rw [List.length_map]; exact l1, fun c => ?_, fun p np => ?_⟩
    · have e : (repI ns i).map V.int = ns.map V.int := by
        unfold repI
        rcases c with c | rfl
        · have : ns = [] := List.map_eq_nil_iff.mp c
          subst this
          rw [show (List.replicate i.toNat ([] : List Int)).flatten = [] from List.eq_nil_of_length_eq_zero (by rw [rep_len]; rfl)]
        · show (List.replicate 1 ns).flatten.map V.int = _
          simp
      refine fun x dz nx nd ne => made_weaving nx nd ne T.n_Weaving (.inr (by rw [e]; exact ht)) (by omega) okr.small ?_
      rw [neg_none okr.pos]
      exact fun H2 s2 hw => ⟨rfl, q H2 x s2 nx hw⟩
    · have e2 : (List.replicate i.toNat (ns.map V.int)).flatten = (repI ns i).map V.int := rep_map ns _
      rw [e2]
      have sp := same_new (o := .tup ((repI ns i).map V.int)) np
      have hp := upd_same (H := H) (a := p) (o := .tup ((repI ns i).map V.int))
      generalize upd H p (.tup ((repI ns i).map V.int)) = H1 at sp hp ⊢
      refine fun x dz nx nd ne => made_weaving nx nd ne T.n_Weaving (.inr (SqT.of hp)) (by omega) okr.small ?_
      rw [neg_none okr.pos]
      exact fun H2 s2 hw => ⟨rfl, q H2 x (sp.trans s2) (Same.free sp nx) hw⟩
  · rw [if_neg hb] at q ⊢
    exact q
def sp_Weaving___rmul__ (K : PySem.W.Frag) : Sp := TmW K
theorem len_Weaving___rmul__ {vs : List V} {H : Hp} {Q : VK} {E : XK} (h : sp_Weaving___rmul__ K vs H Q E) : vs.length = 2 := h.len
theorem ok_Weaving___rmul__ {f : Addr} {fd : FuncData} {f_Weaving___mul__ : Addr} {fd_Weaving___mul__ : FuncData} (F : Fun K "__rmul__" "Weaving.__rmul__" s_Weaving___rmul__ f fd) (T : Gs K mg t_BOUND t_DIGITS t_LETTERS t_LONGEST_INTEGER t_MOST_TIMES a_MARKS a_SIGNS a_BadNumber a_BadText a_BadTurn a_ElseputError a_Reader a_Weaving) (c_Weaving___mul__ : CalOT P w K mg base (L2.CX P w) 5 a_Weaving .Mult f_Weaving___mul__ fd_Weaving___mul__ ["self", "times"] (sp_Weaving___mul__ K)) : FnOk P w K mg base (L2.CX P w) 6 f fd ["self", "times"] (sp_Weaving___rmul__ K) := by
  refine F.okX sc_Weaving___rmul__ (fun vs H Q E h => len_Weaving___rmul__ h) (fun cdv A outer s H vs Q E hr h => ?_)
  obtain ⟨a, i, ns, rfl, hA, ok, l1, l2, hi, q⟩ := h
  obtain ⟨C, dx, t, hC, ha, ht⟩ := id hA
  cases hC.symm.trans T.n_Weaving
  refine ⟨_, (pss_one (ps_ret (pe_op (op_ownI c_Weaving___mul__.op c_Weaving___mul__.G (hr.mono (by first | decide | omega)) c_Weaving___mul__.b (passes_call (takes_of rfl rfl rfl rfl) (fun _ _ _ _ h => h))) (v_ 0) (v_ 1)))), ?_⟩
  exact ⟨a, dx, _, i, rfl, rfl, ha, a, i, ns, rfl, hA, ok, l1, l2, hi, q⟩
end
section
variable {P : Program} {w : World} {K : PySem.W.Frag} {mg : Str → Option Value} {base : Heap}
variable {t_BOUND t_DIGITS t_LETTERS t_LONGEST_INTEGER t_MOST_TIMES : Tok} {a_MARKS a_SIGNS a_BadNumber a_BadText a_BadTurn a_ElseputError a_Reader a_Weaving : Addr}
/-! ### texts, and weavings without a writer -/
abbrev numS (n : Int) : Str := ((toString n : String) : Str)
theorem one_sp : (" " : Str).length = 1 := by decide +kernel
theorem inB_bd {i : Int} (h : inB i = true) : i.natAbs ≤ 1000000000000000000000000000000 := by
  unfold inB at h
  rw [Bool.and_eq_true, decide_eq_true_iff, decide_eq_true_iff] at h
  omega
theorem inB_log {n : Int} (h : inB n = true) : n.natAbs.log2 < 1920 := by
  have h := inB_bd h
  by_cases hz : n.natAbs = 0
  · rw [hz]
    decide
  · refine (Nat.log2_lt hz).mpr (Nat.lt_of_lt_of_le (show n.natAbs < 2 ^ 100 from ?_) (Nat.pow_le_pow_right (by decide) (by decide)))
    have e : (2 : Nat) ^ 100 = 1267650600228229401496703205376 := by decide +kernel
    rw [e]
    omega
theorem sum_le {α : Type} {f : α → Nat} {B : Nat} : ∀ {l : List α}, (∀ x ∈ l, f x ≤ B) → (l.map f).sum ≤ l.length * B
  | [], _ => by simp
  | a :: r, h => by
    have h1 := h a List.mem_cons_self
    have h2 := sum_le (l := r) fun x hx => h x (List.mem_cons_of_mem _ hx)
    rw [List.map_cons, List.sum_cons, List.length_cons, Nat.succ_mul]
    omega
def wtxt (ns : List Int) : Str := Str.join " " (ns.map numS)
def sp_Weaving_without (K : PySem.W.Frag) : Sp := fun vs H Q _ => ∃ (a : Addr) (w : Int) (ns : List Int), vs = [.ref a, .int w] ∧ WvAt K H a ns ∧ WvOk ns ∧ ∀ (H' : Hp) (x : Addr), Same H H' → H x = none → WvAt K H' x (ns.filter fun z => !decide (z = w)) → Q (.ref x) H'
theorem len_Weaving_without {vs : List V} {H : Hp} {Q : VK} {E : XK} (h : sp_Weaving_without K vs H Q E) : vs.length = 2 := by
  obtain ⟨_, _, _, rfl, _⟩ := h
  rfl
theorem ok_Weaving_without {f : Addr} {fd : FuncData} {f_Weaving___init__ : Addr} {fd_Weaving___init__ : FuncData} (F : Fun K "without" "Weaving.without" s_Weaving_without f fd) (T : Gs K mg t_BOUND t_DIGITS t_LETTERS t_LONGEST_INTEGER t_MOST_TIMES a_MARKS a_SIGNS a_BadNumber a_BadText a_BadTurn a_ElseputError a_Reader a_Weaving) (c_Weaving___init__ : CalI P w K mg base (L2.CX P w) 3 "Weaving" a_Weaving f_Weaving___init__ fd_Weaving___init__ ["self", "turns"] (sp_Weaving___init__ K)) : FnOk P w K mg base (L2.CX P w) 5 f fd ["self", "writer"] (sp_Weaving_without K) := by
  refine F.okX sc_Weaving_without (fun vs H Q E h => len_Weaving_without h) (fun cdv A outer s H vs Q E hr h => ?_)
  obtain ⟨a, w, ns, rfl, hA, ok, q⟩ := h
  obtain ⟨C, dx, t, hC, ha, ht⟩ := id hA
  cases hC.symm.trans T.n_Weaving
  refine ⟨_, (pss_one (ps_ret (pe_make c_Weaving___init__.mkc c_Weaving___init__.G (hr.mono (by first | decide | omega)) rfl c_Weaving___init__.m c_Weaving___init__.b .nil (passes_call (takes_of rfl rfl rfl rfl) (fun _ _ _ _ h => h)) (pa_cons (pe_lc (own := [("other", 2)]) (g := gName 2) (by rfl) sc_Weaving_without.nd (pi_tup (e_f K (v_ 0))) (blkOk_by (N := ["self", "writer", "other"]) (sc := defScope s_Weaving_without) (by decide +kernel)) (fun _ _ _ _ _ => pg_name (i := 2) sc_Weaving_without.nd rfl (Or.inl rfl)) (fun _ _ _ _ _ => pts_one (pt_c (neK K hr.units) (v_ 2) (v_ 1))) (fun _ _ _ _ _ => (v_ 2))) pa_nil)))), ?_⟩
  refine ⟨a, a_Weaving, dx, _, _, rfl, ha, T.cl_Weaving, T.na_Weaving_turns, rfl, t, rfl, ⟨_, ht⟩, fun D nD => ?_⟩
  have el := ok.len
  refine lc_it walk_tup (fun i H' => Same H H' ∧ H' D = some (.lst (((ns.take i).filter fun z => !decide (z = w)).map V.int))) ⟨same_new nD, upd_same⟩ (fun _ _ _ h => SqT.same ht h.1) ?_ ?_
  · rintro i v H1 H2 hi ⟨sm, hD⟩ ⟨rfl, hv⟩
    have hv : (ns.map V.int)[i]? = some v := by
      first | exact hv | exact hv _ (SqT.same ht sm)
    rw [List.getElem?_map] at hv
    obtain ⟨z, ez, rfl⟩ := Option.map_eq_some_iff.mp hv
    rw [List.length_map] at hi
    refine ⟨rfl, ?_⟩
    refine ite2 (fun c => ?_) (fun c => ?_)
    · refine ⟨_, hD, line_lt (by rw [List.length_map]; have := List.length_filter_le (fun z => !decide (z = w)) (ns.take i); rw [List.length_take] at this; omega), fun b o hb => ?_, ?_⟩
      · rw [upd_ne (ne_of_none hb nD)]
        exact sm _ _ hb
      · rw [upd_same, take_snoc ez, List.filter_append, List.filter_cons_of_pos (by exact c), List.map_append]
        rfl
    · refine ⟨sm, ?_⟩
      rw [take_snoc ez, List.filter_append, List.filter_cons_of_neg (by exact c), List.filter_nil, List.append_nil]
      exact hD
  · rintro H1 ⟨sm, hD⟩
    rw [List.length_map, List.take_length] at hD
    have fl := List.length_filter_le (fun z => !decide (z = w)) ns
    refine fun x dz nx nd ne => made_weaving nx nd ne T.n_Weaving (.inl (SqL.of hD)) (by omega) (fun z hz => ok.small z (List.mem_filter.mp hz).1) ?_
    rw [neg_none fun z hz => ok.pos z (List.mem_filter.mp hz).1]
    exact fun H2 s2 hw => ⟨rfl, q H2 x (sm.trans s2) (Same.free sm nx) hw⟩
def sp_Weaving_text (K : PySem.W.Frag) : Sp := fun vs H Q _ => ∃ (a : Addr) (ns : List Int), vs = [.ref a] ∧ WvAt K H a ns ∧ ns.length ≤ 1000 ∧ (∀ z ∈ ns, inB z = true) ∧ ∀ H', Same H H' → Q (.str (wtxt ns)) H'
theorem len_Weaving_text {vs : List V} {H : Hp} {Q : VK} {E : XK} (h : sp_Weaving_text K vs H Q E) : vs.length = 1 := by
  obtain ⟨_, _, rfl, _⟩ := h
  rfl
theorem ok_Weaving_text {f : Addr} {fd : FuncData} (F : Fun K "text" "Weaving.text" s_Weaving_text f fd) (T : Gs K mg t_BOUND t_DIGITS t_LETTERS t_LONGEST_INTEGER t_MOST_TIMES a_MARKS a_SIGNS a_BadNumber a_BadText a_BadTurn a_ElseputError a_Reader a_Weaving) : FnOk P w K mg base CX0 1 f fd ["self"] (sp_Weaving_text K) := by
  refine F.ok sc_Weaving_text (fun vs H Q E h => len_Weaving_text h) (fun cdv A outer s H vs Q E hr h => ?_)
  obtain ⟨a, ns, rfl, ⟨C, dx, t, hC, ha, ht⟩, l1, small, q⟩ := h
  cases hC.symm.trans T.n_Weaving
  refine ⟨_, (pss_one (ps_ret (pe_join pe_str (pe_lc (own := [("writer", 1)]) (g := gName 1) (by rfl) sc_Weaving_text.nd (pi_tup (e_f K (v_ 0))) (blkOk_by (N := ["self", "writer"]) (sc := defScope s_Weaving_text) (by decide +kernel)) (fun _ _ _ _ _ => pg_name (i := 1) sc_Weaving_text.nd rfl (Or.inl rfl)) (fun _ _ _ _ _ => pts_nil) (fun _ _ _ _ _ => (pe_callTy call_str_int (by rfl) T.z_str (by decide +kernel) (pa_cons (v_ 1) pa_nil))))))), ?_⟩
  refine ⟨⟨_, rfl⟩, a, a_Weaving, dx, _, _, rfl, ha, T.cl_Weaving, T.na_Weaving_turns, rfl, t, rfl, ⟨_, ht⟩, fun D nD => ?_⟩
  refine lc_it walk_tup (fun i H' => Same H H' ∧ H' D = some (.lst (((ns.take i).map numS).map V.str))) ⟨same_new nD, upd_same⟩ (fun _ _ _ h => SqT.same ht h.1) ?_ ?_
  · rintro i v H1 H2 hi ⟨sm, hD⟩ ⟨rfl, hv⟩
    have hv : (ns.map V.int)[i]? = some v := by
      first | exact hv | exact hv _ (SqT.same ht sm)
    rw [List.getElem?_map] at hv
    obtain ⟨z, ez, rfl⟩ := Option.map_eq_some_iff.mp hv
    rw [List.length_map] at hi
    refine ⟨rfl, z, rfl, inB_log (small z (List.mem_of_getElem? ez)), ?_⟩
    refine ⟨_, hD, line_lt (by rw [List.length_map, List.length_map, List.length_take]; omega), fun b o hb => ?_, ?_⟩
    · rw [upd_ne (ne_of_none hb nD)]
      exact sm _ _ hb
    · rw [upd_same, take_snoc ez, List.map_append, List.map_append]
      rfl
  · rintro H1 ⟨sm, hD⟩
    rw [List.length_map, List.take_length] at hD
    refine ⟨_, D, ns.map numS, rfl, rfl, .inl (SqL.of hD), ?_, ?_⟩
    · have hs := sum_le (f := fun z : Str => z.length) (B := 32) (l := ns.map numS) fun z hz => by
        obtain ⟨x, hx, rfl⟩ := List.mem_map.mp hz
        exact num_short (small x hx)
      rw [List.length_map] at hs ⊢
      rw [one_sp]
      have hs : ((ns.map numS).map (·.length)).sum ≤ ns.length * 32 := hs
      omega
    · rw [TL.join_eq]
      exact q _ sm
end
section
variable {P : Program} {w : World} {K : PySem.W.Frag} {mg : Str → Option Value} {base : Heap}
variable {t_BOUND t_DIGITS t_LETTERS t_LONGEST_INTEGER t_MOST_TIMES : Tok} {a_MARKS a_SIGNS a_BadNumber a_BadText a_BadTurn a_ElseputError a_Reader a_Weaving : Addr}
/-! ### naturals read -/
noncomputable def natO (p : List Nat) : Option Int := (rdI p).bind fun n => if n < 0 then none else some n
theorem sign_first {p : List Nat} {n : Int} (h : TokE p) (e : rdI p = some n) : ∃ c r, p = c :: r ∧ (c = 45 ↔ n < 0) := by
  obtain ⟨e1, hi⟩ := rdI_spec e
  obtain ⟨e3, hl⟩ := (intB_of h).2 n e
  have hne : p ≠ [] := fun h0 => by
    have := int_text_ne n
    rw [← e1, mkS_cps] at this
    exact this h0
  have ht : Tok p := h.resolve_left hne
  cases ht with
  | word h1 h2 =>
    have := num_last n
    rw [← e1, mkS_cps] at this
    have h3 := ld_l (h2 _ (getLastD_mem h1))
    rw [this] at h3
    cases h3.1
  | int h1 h2 =>
    have hall : ∀ c ∈ p, 48 ≤ c ∧ c ≤ 57 := fun c hc => isD_iff.mp (h2 c hc)
    have e4 := PySem.intText_digits (x := mkS p) hall h1 (by rw [mkS_len]; omega)
    rw [e3] at e4
    cases p with
    | nil => exact absurd rfl hne
    | cons c r =>
      refine ⟨c, r, rfl, ⟨fun hc => ?_, fun hn => ?_⟩⟩
      · have := hall c List.mem_cons_self
        omega
      · have := Option.some.inj e4
        omega
  | @neg r h1 h2 =>
    have hall : ∀ c ∈ r, 48 ≤ c ∧ c ≤ 57 := fun c hc => isD_iff.mp (h2 c hc)
    have e4 := PySem.intText_neg (x := mkS (45 :: r)) rfl hall h1 (by rw [mkS_len]; omega)
    rw [e3] at e4
    refine ⟨45, r, rfl, ⟨fun _ => ?_, fun _ => rfl⟩⟩
    have e5 := Option.some.inj e4
    by_cases hz : n = 0
    · subst hz
      have : (mkS (45 :: r)).cps.toList = ((toString (0 : Int) : String) : Str).cps.toList := congrArg (fun z : Str => z.cps.toList) e1
      rw [mkS_cps, show ((toString (0 : Int) : String) : Str).cps.toList = [48] by decide +kernel] at this
      injection this with h5 _
      exact absurd h5 (by decide)
    · omega
  | sm h1 =>
    exfalso
    have h2 := num_last n
    rw [← e1, mkS_cps] at h2
    have := sm_cases h1
    simp only [SG, MK, List.cons_append, List.nil_append, List.mem_cons, List.not_mem_nil, or_false] at this
    rcases this with rfl | rfl | rfl | rfl | rfl | rfl | rfl | rfl | rfl | rfl | rfl <;> exact absurd h2 (by decide)
def sp_Reader_take_natural (K : PySem.W.Frag) : Sp := fun vs H Q E => ∃ (a p : Addr) (num e : Int) (toks : Tks) (i : Nat), vs = [.ref a] ∧ Rd0 K H a p num e toks i ∧ TokE (tokAt toks i) ∧ (match natO (tokAt toks i) with
  | some n => Took K H a p num e toks i (.int n) Q
  | none => BadAt K H num (colAt toks e i) E)
theorem len_Reader_take_natural {vs : List V} {H : Hp} {Q : VK} {E : XK} (h : sp_Reader_take_natural K vs H Q E) : vs.length = 1 := by
  obtain ⟨_, _, _, _, _, _, rfl, _⟩ := h
  rfl
theorem ok_Reader_take_natural {f : Addr} {fd : FuncData} {f_is_integer : Addr} {fd_is_integer : FuncData} {f_Reader_ahead : Addr} {fd_Reader_ahead : FuncData} {f_Reader__take_if : Addr} {fd_Reader__take_if : FuncData} (F : Fun K "take_natural" "Reader.take_natural" s_Reader_take_natural f fd) (T : Gs K mg t_BOUND t_DIGITS t_LETTERS t_LONGEST_INTEGER t_MOST_TIMES a_MARKS a_SIGNS a_BadNumber a_BadText a_BadTurn a_ElseputError a_Reader a_Weaving) (c_is_integer : Cal P w K mg base CX0 2 "is_integer" f_is_integer fd_is_integer ["token"] (sp_is_integer K)) (c_Reader_ahead : CalM P w K mg base CX0 2 a_Reader "ahead" f_Reader_ahead fd_Reader_ahead ["self"] (sp_Reader_ahead K)) (c_Reader__take_if : CalM P w K mg base (L2.CX P w) 4 a_Reader "_take_if" f_Reader__take_if fd_Reader__take_if ["self", "fits"] (sp_Reader__take_if K)) : FnOk P w K mg base (L2.CX P w) 5 f fd ["self"] (sp_Reader_take_natural K) := by
  refine F.okX sc_Reader_take_natural (fun vs H Q E h => len_Reader_take_natural h) (fun cdv A outer s H vs Q E hr h => ?_)
  obtain ⟨a, p, num, e, toks, i, rfl, hR0, hT, q⟩ := h
  obtain ⟨C, dx, ts, hC, ha, hp, hts, hi⟩ := id hR0.1
  cases hC.symm.trans T.n_Reader
  refine ⟨_, (pss_cons (ps_set (i := 1) sc_Reader_take_natural.nd rfl (.inl rfl) (pe_meth0 (v_ 0) c_Reader_ahead.cl c_Reader_ahead.me c_Reader_ahead.G (hr.mono (by first | decide | omega)) c_Reader_ahead.b .nil pass0)) (pss_one (ps_ret (pe_callTy call_int_str (by rfl) T.z_int (by decide +kernel) (pa_cons (pe_meth (v_ 0) c_Reader__take_if.cl c_Reader__take_if.me c_Reader__take_if.G (hr.mono (by first | decide | omega)) c_Reader__take_if.b .nil (passes_call (takes_of rfl rfl rfl rfl) (fun _ _ _ _ h => h)) (pa_cons (pe_andM (pe_call c_is_integer.G (hr.mono (by first | decide | omega)) rfl c_is_integer.m c_is_integer.kp c_is_integer.b .nil pass0 (pa_cons (v_ 1) pa_nil)) (pe_one (pe_c (neK K hr.units) (e_x K (v_ 1) pe_int) pe_str))) pa_nil)) pa_nil))))), ?_⟩
  obtain ⟨hb, hn⟩ := intB_of hT
  refine ⟨a, dx, _, rfl, ha, rfl, a, p, num, e, toks, i, rfl, hR0.1, ?_⟩
  refine g_is [some (.ref a), some (.str (mkS (tokAt toks i)))] rfl ?_
  cases hr : rdI (tokAt toks i) with
  | none =>
    have eo : natO (tokAt toks i) = none := by unfold natO; rw [hr]; rfl
    rw [eo] at q
    rw [hr] at hb
    refine ⟨a, dx, _, rfl, ha, rfl, _, _, rfl, by rw [mkS_len]; exact tokAt_le hR0.2.1, hb, fun H1 s1 => ?_⟩
    refine ⟨a, p, num, e, toks, i, false, rfl, hR0.same s1, ?_⟩
    rw [if_neg (by decide)]
    exact BadAt.same q s1
  | some n =>
    rw [hr] at hb
    obtain ⟨h1, h2⟩ := hn n hr
    obtain ⟨c, r, ec, hc⟩ := sign_first hT hr
    refine ⟨a, dx, _, rfl, ha, rfl, _, _, rfl, by rw [mkS_len]; exact tokAt_le hR0.2.1, hb, fun H1 s1 => ?_⟩
    refine ⟨by rw [mkS_len]; exact Nat.le_trans (tokAt_le hR0.2.1) (by decide), c, by rw [mkS_cps, ec]; exact atI_nat (j := 0) rfl, ?_⟩
    refine ⟨a, p, num, e, toks, i, !decide ((⟨#[c]⟩ : Str) = "-"), rfl, hR0.same s1, ?_⟩
    have eb : ((⟨#[c]⟩ : Str) = "-") ↔ c = 45 := one_eq (by decide +kernel)
    by_cases neg : n < 0
    · rw [decide_eq_true (eb.mpr (hc.mpr neg)), if_neg (by decide)]
      have eo : natO (tokAt toks i) = none := by unfold natO; rw [hr]; exact if_pos neg
      rw [eo] at q
      exact BadAt.same q s1
    · rw [decide_eq_false (fun h => neg (hc.mp (eb.mp h))), if_pos (show (!false) = true from rfl)]
      have eo : natO (tokAt toks i) = some n := by unfold natO; rw [hr]; exact if_neg neg
      rw [eo] at q
      obtain ⟨hlt, q⟩ := Took.same q s1
      exact ⟨hlt, fun H' b r => ⟨_, n, rfl, h1, by rw [mkS_len]; omega, q H' b r⟩⟩
theorem RdAt.put {K : PySem.W.Frag} {H : Hp} {a p L : Addr} {num e : Int} {toks : Tks} {i : Nat} {xs : List V} {o : HO} (h : RdAt K H a p num e toks i) (hL : H L = some (.lst xs)) (na : L ≠ a) (np : L ≠ p) : RdAt K (upd H L o) a p num e toks i := by
  obtain ⟨C, dx, ts, h1, h2, h3, h4, h5⟩ := h
  refine ⟨C, dx, ts, h1, by rw [upd_ne na.symm]; exact h2, by rw [upd_ne np.symm]; exact h3, h4.same fun b o ho hb => ?_, h5⟩
  obtain ⟨z, n, rfl⟩ := ho
  rw [upd_ne (ne_of hb hL (by intro e; cases e))]
  exact hb
noncomputable def numsOf (toks : Tks) : List Int := toks.map fun x => (natO x.1).getD 0
def ReadW (K : PySem.W.Frag) (H : Hp) (z : Str) (Q : VK) (E : XK) : Prop := match splitL z.cps.toList 1 with
  | .error c => BadAt K H 1 (c : Int) E
  | .ok toks => (∀ i, i < toks.length → (∀ m, m < i → (natO (tokAt toks m)).isSome = true) → natO (tokAt toks i) = none → BadAt K H 1 (colAt toks ((z.length : Int) + 1) i) E) ∧
    ((∀ m, m < toks.length → (natO (tokAt toks m)).isSome = true) → ∀ (H' : Hp) (x : Addr), Same H H' → H x = none → WvAt K H' x (numsOf toks) → Q (.ref x) H')
def LineOk (z : Str) : Prop := z.length ≤ 10000 ∧ ∀ toks, splitL z.cps.toList 1 = .ok toks → TkOk toks ∧ toks.length ≤ 1000 ∧ ∀ x ∈ toks, Tok x.1
theorem tokE_at {toks : Tks} (h : ∀ x ∈ toks, Tok x.1) (i : Nat) : TokE (tokAt toks i) := by
  by_cases c : i < toks.length
  · have e := List.getElem?_eq_getElem c
    rw [tokAt_of e]
    exact .inr (h _ (List.mem_of_getElem? e))
  · rw [tokAt_end (by omega)]
    exact .inl rfl
theorem nums_snoc {toks : Tks} {j : Nat} {n : Int} (h : j < toks.length) (e : natO (tokAt toks j) = some n) : numsOf (toks.take (j + 1)) = numsOf (toks.take j) ++ [n] := by
  have ej := List.getElem?_eq_getElem h
  rw [tokAt_of ej] at e
  unfold numsOf
  rw [take_snoc ej, List.map_append, List.map_singleton, e]
  rfl
theorem natO_spec {p : List Nat} {n : Int} (h : natO p = some n) : ¬ n < 0 ∧ n.natAbs < 2 ^ 200 := by
  unfold natO at h
  obtain ⟨m, h1, h2⟩ := Option.bind_eq_some_iff.mp h
  by_cases c : m < 0
  · rw [if_pos c] at h2
    cases h2
  · rw [if_neg c] at h2
    cases h2
    refine ⟨c, ?_⟩
    have := inB_bd (rdI_spec h1).2
    exact Nat.lt_of_le_of_lt this (by decide +kernel)
theorem nums_spec {toks : Tks} {j : Nat} (hj : j ≤ toks.length) (h : ∀ m, m < j → (natO (tokAt toks m)).isSome = true) : ∀ z ∈ numsOf (toks.take j), ¬ z < 0 ∧ z.natAbs < 2 ^ 200 := by
  intro z hz
  unfold numsOf at hz
  obtain ⟨x, hx, rfl⟩ := List.mem_map.mp hz
  obtain ⟨m, hm, em⟩ := List.getElem_of_mem hx
  rw [List.length_take] at hm
  have e := h m (by omega)
  rw [List.getElem_take] at em
  rw [tokAt_of (List.getElem?_eq_getElem (show m < toks.length by omega)), em] at e
  obtain ⟨n, en⟩ := Option.isSome_iff_exists.mp e
  rw [en]
  exact natO_spec en
def sp_Weaving_read (K : PySem.W.Frag) : Sp := fun vs H Q E => ∃ z : Str, vs = [.str z] ∧ LineOk z ∧ ReadW K H z Q E
theorem len_Weaving_read {vs : List V} {H : Hp} {Q : VK} {E : XK} (h : sp_Weaving_read K vs H Q E) : vs.length = 1 := by
  obtain ⟨_, rfl, _⟩ := h
  rfl
theorem ok_Weaving_read {f : Addr} {fd : FuncData} {f_Reader___init__ : Addr} {fd_Reader___init__ : FuncData} {f_Weaving___init__ : Addr} {fd_Weaving___init__ : FuncData} {f_Reader_at_end : Addr} {fd_Reader_at_end : FuncData} {f_Reader_take_natural : Addr} {fd_Reader_take_natural : FuncData} (F : Fun K "read" "Weaving.read" s_Weaving_read f fd) (T : Gs K mg t_BOUND t_DIGITS t_LETTERS t_LONGEST_INTEGER t_MOST_TIMES a_MARKS a_SIGNS a_BadNumber a_BadText a_BadTurn a_ElseputError a_Reader a_Weaving) (c_Reader___init__ : CalID P w K mg base (L2.CX P w) 4 "Reader" a_Reader f_Reader___init__ fd_Reader___init__ ["self", "line", "number"] [(.int 1)] (sp_Reader___init__ K)) (c_Weaving___init__ : CalI P w K mg base (L2.CX P w) 3 "Weaving" a_Weaving f_Weaving___init__ fd_Weaving___init__ ["self", "turns"] (sp_Weaving___init__ K)) (c_Reader_at_end : CalM P w K mg base CX0 1 a_Reader "at_end" f_Reader_at_end fd_Reader_at_end ["self"] (sp_Reader_at_end K)) (c_Reader_take_natural : CalM P w K mg base (L2.CX P w) 5 a_Reader "take_natural" f_Reader_take_natural fd_Reader_take_natural ["self"] (sp_Reader_take_natural K)) : FnOk P w K mg base (L2.CX P w) 6 f fd ["line"] (sp_Weaving_read K) := by
  refine F.okX sc_Weaving_read (fun vs H Q E h => len_Weaving_read h) (fun cdv A outer s H vs Q E hr h => ?_)
  obtain ⟨z, rfl, ⟨hz, hk⟩, q⟩ := h
  refine ⟨_, (pss_cons (ps_set (i := 1) sc_Weaving_read.nd rfl (.inl rfl) (pe_makeD c_Reader___init__ (hr.mono (by first | decide | omega)) rfl (passes_call (takes_of rfl rfl rfl rfl) (fun _ _ _ _ h => h)) (pa_cons (v_ 0) pa_nil))) (pss_cons (ps_set (i := 2) sc_Weaving_read.nd rfl (.inl rfl) (pe_lst pa_nil)) (pss_cons (ps_while (passes_of rfl) (pt_not (pt_t K (pe_meth0 (v_ 1) c_Reader_at_end.cl c_Reader_at_end.me c_Reader_at_end.G (hr.mono (by first | decide | omega)) c_Reader_at_end.b .nil pass0))) (pss_one (ps_expr (pe_bm PySem.F.plainAttrs_list PySem.F.slot_list_append PySem.F.type_list_append mt_append (v_ 2) (pa_cons (pe_meth0 (v_ 1) c_Reader_take_natural.cl c_Reader_take_natural.me c_Reader_take_natural.G (hr.mono (by first | decide | omega)) c_Reader_take_natural.b .nil (passes_call (takes_of rfl rfl rfl rfl) (fun _ _ _ _ h => h))) pa_nil))))) (pss_one (ps_ret (pe_make c_Weaving___init__.mkc c_Weaving___init__.G (hr.mono (by first | decide | omega)) rfl c_Weaving___init__.m c_Weaving___init__.b .nil (passes_call (takes_of rfl rfl rfl rfl) (fun _ _ _ _ h => h)) (pa_cons (v_ 2) pa_nil))))))), ?_⟩
  refine fun x dx nx nd ne => ?_
  have sm : Same H (upd (upd H dx (.own x)) x (.ins a_Reader dx [])) := fun b o hb => by
    rw [upd_ne (ne_of_none hb nx), upd_ne (ne_of_none hb nd)]
    exact hb
  refine ⟨x, a_Reader, dx, z, 1, rfl, T.n_Reader, upd_same, by omega, by decide, by decide, ?_⟩
  unfold ReadW at q
  unfold Inits
  cases hs : splitL z.cps.toList 1 with
  | error c =>
    rw [hs] at q
    exact BadAt.same (show BadAt K H 1 (c : Int) E from q) sm
  | ok toks =>
    rw [hs] at q
    obtain ⟨q1, q2⟩ := q
    intro H1 p b1 r1
    refine ⟨rfl, ?_⟩
    obtain ⟨hT, hlen, hTok⟩ := hk toks hs
    have s1 : Same H H1 := fun b o hb => b1 b o (ne_of_none hb nx) (sm _ _ hb)
    refine g_is [some (.str z), some (.ref x), none] rfl ?_
    refine ⟨Nat.zero_le _, fun D nD => ?_⟩
    have D0 : H D = none := Same.free s1 nD
    obtain ⟨C1, dx1, ts1, hC1, ha1, hp1, _⟩ := id r1
    have Dx : D ≠ x := (ne_of_none ha1 nD).symm
    have Dp : D ≠ p := (ne_of_none hp1 nD).symm
    have sD := same_new (o := .lst []) nD
    have r2 := r1.bt sD
    have hD := upd_same (H := H1) (a := D) (o := .lst [])
    have s2 := s1.trans sD
    generalize upd H1 D (.lst []) = H2 at sD r2 hD s2 ⊢
    refine g_is [some (.str z), some (.ref x), some (.ref D)] rfl ?_
    refine ⟨fun n σ' H' => ∃ j, n = toks.length - j ∧ j ≤ toks.length ∧ (∀ m, m < j → (natO (tokAt toks m)).isSome = true) ∧ σ' = [some (.str z), some (.ref x), some (.ref D)] ∧ Same H H' ∧ RdAt K H' x p 1 ((z.length : Int) + 1) toks j ∧ H' D = some (.lst ((numsOf (toks.take j)).map V.int)), ⟨_, 0, rfl, Nat.zero_le _, (fun m h => absurd h (by omega)), rfl, s2, r2, hD⟩, ?_⟩
    rintro n σ' H' ⟨j, rfl, hj, hm, rfl, s3, hR, hD⟩
    obtain ⟨C2, dx2, ts2, hC2, ha2, hp2, hts2, hi2⟩ := id hR
    cases hC2.symm.trans T.n_Reader
    refine ⟨x, dx2, _, rfl, ha2, rfl, x, p, 1, _, toks, j, rfl, hR, ?_⟩
    refine ite2 (fun c => ?_) (fun c => ?_)
    · have c : ¬ j = toks.length := by
        have c : (!decide (j = toks.length)) = true := c
        rw [Bool.not_eq_true', decide_eq_false_iff_not] at c
        exact c
      have jlt : j < toks.length := by omega
      have R0 : Rd0 K H' x p 1 ((z.length : Int) + 1) toks j := ⟨hR, hT, by decide, by decide, by omega, by omega⟩
      refine ⟨fun σ2 H2 => ∃ m', m' < toks.length - j ∧ ∃ j, m' = toks.length - j ∧ j ≤ toks.length ∧ (∀ m, m < j → (natO (tokAt toks m)).isSome = true) ∧ σ2 = [some (.str z), some (.ref x), some (.ref D)] ∧ Same H H2 ∧ RdAt K H2 x p 1 ((z.length : Int) + 1) toks j ∧ H2 D = some (.lst ((numsOf (toks.take j)).map V.int)), fun σ2 H2 h => h, ?_⟩
      refine ⟨.inl ⟨rfl, _, SqL.of hD⟩, x, dx2, _, rfl, ha2, rfl, x, p, 1, _, toks, j, rfl, R0, tokE_at hTok j, ?_⟩
      cases en : natO (tokAt toks j) with
      | none => exact BadAt.same (q1 j jlt hm en) s3
      | some n =>
        refine ⟨jlt, fun H3 b3 r3 => ?_⟩
        have hD3 := b3 _ _ Dx hD
        have nl : (numsOf (toks.take j)).length ≤ 1000 := by
          unfold numsOf
          rw [List.length_map, List.length_take]
          omega
        refine ⟨D, _, _, rfl, rfl, hD3, line_lt (by rw [List.length_map]; omega), ?_⟩
        have s4 : Same H H3 := fun b o hb => b3 b o (ne_of_none hb nx) (s3 _ _ hb)
        refine ⟨toks.length - (j + 1), by omega, j + 1, rfl, by omega, fun m h => ?_, rfl, fun b o hb => ?_, ?_, ?_⟩
        · by_cases e : m = j
          · rw [e, en]
            rfl
          · exact hm m (by omega)
        · rw [upd_ne (ne_of_none hb D0)]
          exact s4 _ _ hb
        · exact r3.put hD3 Dx Dp
        · rw [upd_same, nums_snoc jlt en, List.map_append]
          rfl
    · have c : j = toks.length := by
        have c : ¬ (!decide (j = toks.length)) = true := c
        rw [Bool.not_eq_true', decide_eq_false_iff_not] at c
        exact Decidable.not_not.mp c
      subst c
      have sp := nums_spec (Nat.le_refl _) hm
      rw [List.take_length] at hD sp
      refine fun y dz ny nz nyz => made_weaving ny nz nyz T.n_Weaving (.inl (SqL.of hD)) (by unfold numsOf; rw [List.length_map]; omega) (fun z hz => (sp z hz).2) ?_
      rw [neg_none fun z hz => (sp z hz).1]
      exact fun H4 s4 hw => ⟨rfl, q2 hm H4 y (s3.trans s4) (Same.free s3 ny) hw⟩
end
section
variable {P : Program} {w : World} {K : PySem.W.Frag} {mg : Str → Option Value} {base : Heap}
variable {t_BOUND t_DIGITS t_LETTERS t_LONGEST_INTEGER t_MOST_TIMES : Tok} {a_MARKS a_SIGNS a_BadNumber a_BadText a_BadTurn a_ElseputError a_Reader a_Weaving : Addr}
/-! ### the law's numbers -/
def NmOk (ns : List Int) : Prop := ∀ z ∈ ns, ¬ z < 0 ∧ inB z = true
theorem NmOk.wv {ns : List Int} (h : NmOk ns) (l : ns.length ≤ 50000) : WvOk ns where
  len := l
  small := fun z hz => Nat.lt_of_le_of_lt (inB_bd (h z hz).2) (by decide +kernel)
  pos := fun z hz => (h z hz).1
theorem NmOk.app {ns ms : List Int} (h : NmOk ns) (g : NmOk ms) : NmOk (ns ++ ms) := fun z hz => (List.mem_append.mp hz).elim (h z) (g z)
theorem NmOk.sub {ns ms : List Int} (h : NmOk ns) (s : ∀ z ∈ ms, z ∈ ns) : NmOk ms := fun z hz => h z (s z hz)
theorem bd_inB {i : Int} (h : Bd i) : inB i = true := by
  unfold inB
  rw [Bool.and_eq_true, decide_eq_true_iff, decide_eq_true_iff]
  unfold Bd at h
  omega
def NewNums (K : PySem.W.Frag) (H : Hp) (st scr : Addr) (most : Nat) (Q : VK) : Prop := ∀ (H' : Hp) (p : Addr) (ns : List Int), Bt st H H' → DrAt H' st scr → H p = none → H' p = some (.lst (ns.map V.int)) → ns.length ≤ most → NmOk ns → Q (.ref p) H'
def sp__law_numbers (K : PySem.W.Frag) : Sp := fun vs H Q _ => ∃ (st scr : Addr) (most : Nat), vs = [.ref st, .int most] ∧ DrAt H st scr ∧ most ≤ 20 ∧ NewNums K H st scr most Q
theorem len__law_numbers {vs : List V} {H : Hp} {Q : VK} {E : XK} (h : sp__law_numbers K vs H Q E) : vs.length = 2 := by
  obtain ⟨_, _, _, rfl, _⟩ := h
  rfl
theorem ok__law_numbers {f : Addr} {fd : FuncData} {f__law_draw : Addr} {fd__law_draw : FuncData} {f__law_number : Addr} {fd__law_number : FuncData} (F : Fun K "_law_numbers" "_law_numbers" s__law_numbers f fd) (T : Gs K mg t_BOUND t_DIGITS t_LETTERS t_LONGEST_INTEGER t_MOST_TIMES a_MARKS a_SIGNS a_BadNumber a_BadText a_BadTurn a_ElseputError a_Reader a_Weaving) (c__law_draw : Cal P w K mg base CX0 1 "_law_draw" f__law_draw fd__law_draw ["_law_state_here", "_law_many"] (sp__law_draw K)) (c__law_number : Cal P w K mg base CX0 2 "_law_number" f__law_number fd__law_number ["_law_state_here"] (sp__law_number K)) : FnOk P w K mg base CX0 3 f fd ["_law_state_here", "_law_most"] (sp__law_numbers K) := by
  refine F.ok sc__law_numbers (fun vs H Q E h => len__law_numbers h) (fun cdv A outer s H vs Q E hr h => ?_)
  obtain ⟨st, scr, most, rfl, hd, m1, q⟩ := h
  refine ⟨_, (pss_cons (ps_set (i := 2) sc__law_numbers.nd rfl (.inl rfl) (pe_lst pa_nil)) (pss_cons (ps_for PassesOwn.never rfl (pi_range1 rfl T.z_range (pa_cons (pe_op op_subM (v_ 1) (pe_call c__law_draw.G (hr.mono (by first | decide | omega)) rfl c__law_draw.m c__law_draw.kp c__law_draw.b .nil pass0 (pa_cons (v_ 0) (pa_cons (pe_op (addK K) (v_ 1) pe_int) pa_nil)))) pa_nil)) (pg_name (i := 3) sc__law_numbers.nd rfl (.inl rfl)) (pss_one (ps_if (pt_c (eqK K hr.units) (pe_call c__law_draw.G (hr.mono (by first | decide | omega)) rfl c__law_draw.m c__law_draw.kp c__law_draw.b .nil pass0 (pa_cons (v_ 0) (pa_cons pe_int pa_nil))) pe_int) (pss_one (ps_expr (pe_bm PySem.F.plainAttrs_list PySem.F.slot_list_append PySem.F.type_list_append mt_append (v_ 2) (pa_cons (pe_callB call_abs (by rfl) T.z_abs (by decide +kernel) (pa_cons (pe_call c__law_number.G (hr.mono (by first | decide | omega)) rfl c__law_number.m c__law_number.kp c__law_number.b .nil pass0 (pa_cons (v_ 0) pa_nil)) pa_nil)) pa_nil)))) (pss_one (ps_expr (pe_bm PySem.F.plainAttrs_list PySem.F.slot_list_append PySem.F.type_list_append mt_append (v_ 2) (pa_cons (pe_call c__law_draw.G (hr.mono (by first | decide | omega)) rfl c__law_draw.m c__law_draw.kp c__law_draw.b .nil pass0 (pa_cons (v_ 0) (pa_cons pe_int pa_nil))) pa_nil))))))) (pss_one (ps_ret (v_ 2))))), ?_⟩
  refine ⟨Nat.zero_le _, fun p np => ?_⟩
  have pst : p ≠ st := hd.ne_new np
  have psc : p ≠ scr := hd.ne_scr np
  have s0 := same_new (o := .lst []) np
  have hd := hd.new s0
  have hp := upd_same (H := H) (a := p) (o := .lst [])
  have b0 := Bt.same (st := st) s0
  generalize upd H p (.lst []) = H1 at s0 hd hp b0 ⊢
  refine ⟨st, scr, _, rfl, hd, by omega, many_small (by omega) (by omega), fun r l r0 r1 hd2 => ?_⟩
  have b1 := b0.trans (Bt.st (st := st) (o := .lst l))
  have hp := (Bt.st (st := st) (H := H1) (o := .lst l)) _ _ pst hp
  generalize upd H1 st (.lst l) = H2 at hd2 b1 hp ⊢
  refine ⟨_, rfl, by omega, by omega, ?_⟩
  refine for_range (lo := 0) (n := ((most : Int) - r).toNat) (fun i σ' H' => (∃ y, σ' = [some (.ref st), some (.int most), some (.ref p), y]) ∧ Bt st H H' ∧ DrAt H' st scr ∧ ∃ ns : List Int, H' p = some (.lst (ns.map V.int)) ∧ ns.length = i ∧ NmOk ns) ⟨⟨_, rfl⟩, b1, hd2, [], hp, rfl, fun z hz => (nomatch hz)⟩ ?_ ?_
  · rintro i σ' H3 hi ⟨⟨y, rfl⟩, b3, hd3, ns, hp3, nl, ok⟩
    refine ⟨st, scr, 6, rfl, hd3, by decide, many_small (by decide) (by decide), fun x l x0 x1 hd4 => ?_⟩
    have b4 := b3.trans (Bt.st (st := st) (o := .lst l))
    have hp4 := (Bt.st (st := st) (H := H3) (o := .lst l)) _ _ pst hp3
    generalize upd H3 st (.lst l) = H4 at hd4 b4 hp4 ⊢
    have put : ∀ (H5 : Hp) (z : Int), Bt st H4 H5 → DrAt H5 st scr → ¬ z < 0 → inB z = true → Bt st H (upd H5 p (.lst (ns.map V.int ++ [.int z]))) ∧ DrAt (upd H5 p (.lst (ns.map V.int ++ [.int z]))) st scr ∧ ∃ ms : List Int, (upd H5 p (.lst (ns.map V.int ++ [.int z]))) p = some (.lst (ms.map V.int)) ∧ ms.length = i + 1 ∧ NmOk ms := fun H5 z b5 d5 z0 z1 => by
      refine ⟨fun b o n h => ?_, d5.at pst psc, ns ++ [z], ?_, ?_, ok.app fun y hy => ?_⟩
      · rw [upd_ne (ne_of_none h np)]
        exact (b4.trans b5) b o n h
      · rw [upd_same, List.map_append]
        rfl
      · rw [List.length_append, nl]
        rfl
      · rw [List.mem_singleton.mp hy]
        exact ⟨z0, z1⟩
    refine ite2 (fun c => ?_) (fun c => ?_)
    · refine ⟨.inl ⟨rfl, _, SqL.of hp4⟩, st, scr, rfl, hd4, fun l z bz hd5 => ?_⟩
      have hp5 := (Bt.st (st := st) (H := H4) (o := .lst l)) _ _ pst hp4
      have e0 : ¬ (if z < 0 then -z else z) < 0 := by
        by_cases c : z < 0
        · rw [if_pos c]; omega
        · rw [if_neg c]; exact c
      have e1 : inB (if z < 0 then -z else z) = true := by
        have := inB_bd (bd_inB bz)
        unfold inB
        rw [Bool.and_eq_true, decide_eq_true_iff, decide_eq_true_iff]
        by_cases c : z < 0
        · rw [if_pos c]; omega
        · rw [if_neg c]; omega
      exact ⟨z, rfl, p, _, _, rfl, rfl, hp5, line_lt (by rw [List.length_map]; omega), ⟨_, rfl⟩, put _ _ .st hd5 e0 e1⟩
    · refine ⟨.inl ⟨rfl, _, SqL.of hp4⟩, st, scr, 13, rfl, hd4, by decide, many_small (by decide) (by decide), fun z l z0 z1 hd5 => ?_⟩
      have hp5 := (Bt.st (st := st) (H := H4) (o := .lst l)) _ _ pst hp4
      refine ⟨p, _, _, rfl, rfl, hp5, line_lt (by rw [List.length_map]; omega), ⟨_, rfl⟩, put _ z .st hd5 (by omega) (bd_inB (by unfold Bd; omega))⟩
  · rintro σ' H3 ⟨⟨y, rfl⟩, b3, hd3, ns, hp3, nl, ok⟩
    exact q H3 p ns b3 hd3 np hp3 (by omega) ok
def sp__law_near (K : PySem.W.Frag) : Sp := fun vs H Q _ => ∃ (st scr p : Addr) (ns : List Int), vs = [.ref st, .ref p] ∧ DrAt H st scr ∧ H p = some (.lst (ns.map V.int)) ∧ p ≠ st ∧ ns.length ≤ 8 ∧ NmOk ns ∧ NewNums K H st scr 9 Q
theorem len__law_near {vs : List V} {H : Hp} {Q : VK} {E : XK} (h : sp__law_near K vs H Q E) : vs.length = 2 := by
  obtain ⟨_, _, _, _, rfl, _⟩ := h
  rfl
theorem ok__law_near {f : Addr} {fd : FuncData} {f__law_draw : Addr} {fd__law_draw : FuncData} {f__law_numbers : Addr} {fd__law_numbers : FuncData} (F : Fun K "_law_near" "_law_near" s__law_near f fd) (T : Gs K mg t_BOUND t_DIGITS t_LETTERS t_LONGEST_INTEGER t_MOST_TIMES a_MARKS a_SIGNS a_BadNumber a_BadText a_BadTurn a_ElseputError a_Reader a_Weaving) (c__law_draw : Cal P w K mg base CX0 1 "_law_draw" f__law_draw fd__law_draw ["_law_state_here", "_law_many"] (sp__law_draw K)) (c__law_numbers : Cal P w K mg base CX0 3 "_law_numbers" f__law_numbers fd__law_numbers ["_law_state_here", "_law_most"] (sp__law_numbers K)) : FnOk P w K mg base CX0 4 f fd ["_law_state_here", "_law_turns"] (sp__law_near K) := by
  refine F.ok sc__law_near (fun vs H Q E h => len__law_near h) (fun cdv A outer s H vs Q E hr h => ?_)
  obtain ⟨st, scr, p, ns, rfl, hd, hp, pst, l8, ok, q⟩ := h
  refine ⟨_, (pss_cons (ps_set (i := 2) sc__law_near.nd rfl (.inl rfl) (pe_call c__law_draw.G (hr.mono (by first | decide | omega)) rfl c__law_draw.m c__law_draw.kp c__law_draw.b .nil pass0 (pa_cons (v_ 0) (pa_cons pe_int pa_nil)))) (pss_cons (ps_set (i := 3) sc__law_near.nd rfl (.inl rfl) (pe_call c__law_draw.G (hr.mono (by first | decide | omega)) rfl c__law_draw.m c__law_draw.kp c__law_draw.b .nil pass0 (pa_cons (v_ 0) (pa_cons (pe_op (addK K) (pe_callB (lenK K) (by rfl) T.z_len PySem.boot_len (pa_cons (v_ 1) pa_nil)) pe_int) pa_nil)))) (pss_cons (ps_if (pt_c (eqK K hr.units) (v_ 2) pe_int) (pss_one (ps_ret (pe_callTy (listK K) (by rfl) T.z_list (by decide +kernel) (pa_cons (v_ 1) pa_nil)))) pss_nil) (pss_cons (ps_if (pt_c (eqK K hr.units) (v_ 2) pe_int) (pss_one (ps_ret (pe_slice (slK K) (v_ 1) po_none (po_some (v_ 3))))) pss_nil) (pss_cons (ps_if (PW.pt (pw_and (pt_c (eqK K hr.units) (v_ 2) pe_int) (pw_and1 (pt_c op_ltM (v_ 3) (pe_callB (lenK K) (by rfl) T.z_len PySem.boot_len (pa_cons (v_ 1) pa_nil)))))) (pss_one (ps_ret (pe_op (addK K) (pe_op (addK K) (pe_slice (slK K) (v_ 1) po_none (po_some (v_ 3))) (pe_lst (pa_cons (pe_call c__law_draw.G (hr.mono (by first | decide | omega)) rfl c__law_draw.m c__law_draw.kp c__law_draw.b .nil pass0 (pa_cons (v_ 0) (pa_cons pe_int pa_nil))) pa_nil))) (pe_slice (slK K) (v_ 1) (po_some (pe_op (addK K) (v_ 3) pe_int)) po_none)))) pss_nil) (pss_cons (ps_if (pt_c (eqK K hr.units) (v_ 2) pe_int) (pss_one (ps_ret (pe_op (addK K) (pe_op (addK K) (pe_slice (slK K) (v_ 1) po_none (po_some (v_ 3))) (pe_lst (pa_cons (pe_call c__law_draw.G (hr.mono (by first | decide | omega)) rfl c__law_draw.m c__law_draw.kp c__law_draw.b .nil pass0 (pa_cons (v_ 0) (pa_cons pe_int pa_nil))) pa_nil))) (pe_slice (slK K) (v_ 1) (po_some (v_ 3)) po_none)))) pss_nil) (pss_one (ps_ret (pe_call c__law_numbers.G (hr.mono (by first | decide | omega)) rfl c__law_numbers.m c__law_numbers.kp c__law_numbers.b .nil pass0 (pa_cons (v_ 0) (pa_cons pe_int pa_nil))))))))))), ?_⟩
  refine ⟨st, scr, 5, rfl, hd, by decide, many_small (by decide) (by decide), fun kd l k0 k1 hd1 => ?_⟩
  have b1 : Bt st H (upd H st (.lst l)) := Bt.st
  generalize upd H st (.lst l) = H1 at hd1 b1 ⊢
  refine .inl ⟨_, .inl (SqL.of (b1 _ _ pst hp)), ?_⟩
  rw [List.length_map]
  refine ⟨st, scr, _, rfl, hd1, by omega, many_small (by omega) (by omega), fun x l x0 x1 hd2 => ?_⟩
  have b2 := b1.trans (Bt.st (st := st) (o := .lst l))
  generalize upd H1 st (.lst l) = H2 at hd2 b2 ⊢
  clear b1 hd1
  obtain ⟨j, rfl⟩ : ∃ j : Nat, x = (j : Int) := ⟨x.toNat, by omega⟩
  have hp2 := b2 _ _ pst hp
  refine g_is [some (.ref st), some (.ref p), some (.int kd), some (.int j)] rfl ?_
  refine ite2 (fun c => ?_) (fun c => ?_)
  · refine ⟨p, ns.map V.int, rfl, .inl (SqL.of hp2), fun r nr => ?_⟩
    have s3 := same_new (o := .lst (ns.map V.int)) nr
    exact q _ r ns (b2.trans (Bt.same s3)) (hd2.new s3) (b2.free (hd2.ne_new nr) nr) upd_same (by omega) ok
  refine ite2 (fun c => ?_) (fun c => ?_)
  · refine ⟨j, rfl, .inl ⟨_, SqL.of hp2, fun r nr => ?_⟩⟩
    have s3 := same_new (o := .lst (ns.take j |>.map V.int)) nr
    rw [cutV_take _ (by omega), ← List.map_take]
    exact q _ r (ns.take j) (b2.trans (Bt.same s3)) (hd2.new s3) (b2.free (hd2.ne_new nr) nr) upd_same (by rw [List.length_take]; omega) (ok.sub fun z hz => List.mem_of_mem_take hz)
  have join : ∀ (d : Nat), d ≤ 1 → ∀ z0 : Int, ¬ z0 < 0 → inB z0 = true → NmOk (ns.take j ++ [z0] ++ ns.drop (j + d)) := fun d _ z0 h0 h1 => ((ok.sub fun z hz => List.mem_of_mem_take hz).app fun y hy => by rw [List.mem_singleton.mp hy]; exact ⟨h0, h1⟩).app (ok.sub fun z hz => List.mem_of_mem_drop hz)
  refine ite2 (fun c => ?_) (fun c => ?_)
  · refine .inl ⟨_, .inl (SqL.of hp2), ?_⟩
    rw [List.length_map]
    refine ite2 (fun c2 => ?_) (fun c2 => ?_)
    · have c2 : (j : Int) < ns.length := of_decide_eq_true c2
      refine ⟨j, rfl, .inl ⟨_, SqL.of hp2, fun r1 n1 => ?_⟩⟩
      rw [cutV_take _ (by omega), ← List.map_take, show ((j : Int)).toNat = j from rfl]
      have s3 := same_new (o := .lst ((ns.take j).map V.int)) n1
      have h1 := upd_same (H := H2) (a := r1) (o := .lst ((ns.take j).map V.int))
      have r1st : r1 ≠ st := hd2.ne_new n1
      have hd3 := hd2.new s3
      have b3 := b2.trans (Bt.same (st := st) s3)
      generalize upd H2 r1 (.lst ((ns.take j).map V.int)) = H3 at s3 h1 hd3 b3 ⊢
      refine ⟨st, scr, 13, rfl, hd3, by decide, many_small (by decide) (by decide), fun z l z0 z1 hd4 => ?_⟩
      have b4 := b3.trans (Bt.st (st := st) (o := .lst l))
      have h1 := (Bt.st (st := st) (H := H3) (o := .lst l)) _ _ r1st h1
      generalize upd H3 st (.lst l) = H4 at hd4 b4 h1 ⊢
      refine ⟨(by show 1 ≤ sizeLine; decide), fun r2 n2 => ?_⟩
      have s5 := same_new (o := .lst [.int z]) n2
      have h2 := upd_same (H := H4) (a := r2) (o := .lst [.int z])
      have hd5 := hd4.new s5
      have b5 := b4.trans (Bt.same (st := st) s5)
      have h1 := s5 _ _ h1
      generalize upd H4 r2 (.lst [.int z]) = H5 at s5 h1 h2 hd5 b5 ⊢
      refine .inl ⟨_, _, h1, h2, line_of (by rw [List.length_map, List.length_take]; show _ + 1 ≤ _; omega), fun r3 n3 => ?_⟩
      have e3 : (ns.take j).map V.int ++ [.int z] = (ns.take j ++ [z]).map V.int := by rw [List.map_append]; rfl
      rw [e3]
      have s6 := same_new (o := .lst ((ns.take j ++ [z]).map V.int)) n3
      have h3 := upd_same (H := H5) (a := r3) (o := .lst ((ns.take j ++ [z]).map V.int))
      have hd6 := hd5.new s6
      have b6 := b5.trans (Bt.same (st := st) s6)
      generalize upd H5 r3 (.lst ((ns.take j ++ [z]).map V.int)) = H6 at s6 h3 hd6 b6 ⊢
      refine ⟨(j : Int) + 1, rfl, .inl ⟨_, SqL.of (b6 _ _ pst hp), fun r4 n4 => ?_⟩⟩
      rw [cutV_drop _ (by omega), ← List.map_drop, show ((j : Int) + 1).toNat = j + 1 by omega]
      have s7 := same_new (o := .lst ((ns.drop (j + 1)).map V.int)) n4
      have h4 := upd_same (H := H6) (a := r4) (o := .lst ((ns.drop (j + 1)).map V.int))
      have hd7 := hd6.new s7
      have b7 := b6.trans (Bt.same (st := st) s7)
      have h3 := s7 _ _ h3
      generalize upd H6 r4 (.lst ((ns.drop (j + 1)).map V.int)) = H7 at s7 h3 h4 hd7 b7 ⊢
      have ll : (ns.take j ++ [z]).length + (ns.drop (j + 1)).length ≤ 9 := by rw [List.length_append, List.length_take, List.length_drop]; show _ + 1 + _ ≤ _; omega
      refine .inl ⟨_, _, h3, h4, line_of (by rw [List.length_map, List.length_map]; omega), fun r5 n5 => ?_⟩
      rw [← List.map_append]
      have s8 := same_new (o := .lst ((ns.take j ++ [z] ++ ns.drop (j + 1)).map V.int)) n5
      exact q _ r5 _ (b7.trans (Bt.same s8)) (hd7.new s8) (b7.free (hd7.ne_new n5) n5) upd_same (by rw [List.length_append]; omega) (join 1 (by omega) z (by omega) (bd_inB (by unfold Bd; omega)))
    refine ite2 (fun c4 => ?_) (fun c4 => ?_)
    · refine ⟨j, rfl, .inl ⟨_, SqL.of hp2, fun r1 n1 => ?_⟩⟩
      rw [cutV_take _ (by omega), ← List.map_take, show ((j : Int)).toNat = j from rfl]
      have s3 := same_new (o := .lst ((ns.take j).map V.int)) n1
      have h1 := upd_same (H := H2) (a := r1) (o := .lst ((ns.take j).map V.int))
      have r1st : r1 ≠ st := hd2.ne_new n1
      have hd3 := hd2.new s3
      have b3 := b2.trans (Bt.same (st := st) s3)
      generalize upd H2 r1 (.lst ((ns.take j).map V.int)) = H3 at s3 h1 hd3 b3 ⊢
      refine ⟨st, scr, 13, rfl, hd3, by decide, many_small (by decide) (by decide), fun z l z0 z1 hd4 => ?_⟩
      have b4 := b3.trans (Bt.st (st := st) (o := .lst l))
      have h1 := (Bt.st (st := st) (H := H3) (o := .lst l)) _ _ r1st h1
      generalize upd H3 st (.lst l) = H4 at hd4 b4 h1 ⊢
      refine ⟨(by show 1 ≤ sizeLine; decide), fun r2 n2 => ?_⟩
      have s5 := same_new (o := .lst [.int z]) n2
      have h2 := upd_same (H := H4) (a := r2) (o := .lst [.int z])
      have hd5 := hd4.new s5
      have b5 := b4.trans (Bt.same (st := st) s5)
      have h1 := s5 _ _ h1
      generalize upd H4 r2 (.lst [.int z]) = H5 at s5 h1 h2 hd5 b5 ⊢
      refine .inl ⟨_, _, h1, h2, line_of (by rw [List.length_map, List.length_take]; show _ + 1 ≤ _; omega), fun r3 n3 => ?_⟩
      have e3 : (ns.take j).map V.int ++ [.int z] = (ns.take j ++ [z]).map V.int := by rw [List.map_append]; rfl
      rw [e3]
      have s6 := same_new (o := .lst ((ns.take j ++ [z]).map V.int)) n3
      have h3 := upd_same (H := H5) (a := r3) (o := .lst ((ns.take j ++ [z]).map V.int))
      have hd6 := hd5.new s6
      have b6 := b5.trans (Bt.same (st := st) s6)
      generalize upd H5 r3 (.lst ((ns.take j ++ [z]).map V.int)) = H6 at s6 h3 hd6 b6 ⊢
      refine ⟨(j : Int), rfl, .inl ⟨_, SqL.of (b6 _ _ pst hp), fun r4 n4 => ?_⟩⟩
      rw [cutV_drop _ (by omega), ← List.map_drop, show ((j : Int)).toNat = j by omega]
      have s7 := same_new (o := .lst ((ns.drop (j)).map V.int)) n4
      have h4 := upd_same (H := H6) (a := r4) (o := .lst ((ns.drop (j)).map V.int))
      have hd7 := hd6.new s7
      have b7 := b6.trans (Bt.same (st := st) s7)
      have h3 := s7 _ _ h3
      generalize upd H6 r4 (.lst ((ns.drop (j)).map V.int)) = H7 at s7 h3 h4 hd7 b7 ⊢
      have ll : (ns.take j ++ [z]).length + (ns.drop (j)).length ≤ 9 := by rw [List.length_append, List.length_take, List.length_drop]; show _ + 1 + _ ≤ _; omega
      refine .inl ⟨_, _, h3, h4, line_of (by rw [List.length_map, List.length_map]; omega), fun r5 n5 => ?_⟩
      rw [← List.map_append]
      have s8 := same_new (o := .lst ((ns.take j ++ [z] ++ ns.drop (j)).map V.int)) n5
      exact q _ r5 _ (b7.trans (Bt.same s8)) (hd7.new s8) (b7.free (hd7.ne_new n5) n5) upd_same (by rw [List.length_append]; omega) (join 0 (by omega) z (by omega) (bd_inB (by unfold Bd; omega)))
    · exact ⟨st, scr, 8, rfl, hd2, by decide, fun H3 r ms b d n h l ok => q H3 r ms (b2.trans b) d (b2.free (hd2.ne_new n) n) h (by omega) ok⟩
  refine ite2 (fun c => absurd c (by decide)) (fun _ => ?_)
  refine ite2 (fun c4 => ?_) (fun c4 => ?_)
  · refine ⟨j, rfl, .inl ⟨_, SqL.of hp2, fun r1 n1 => ?_⟩⟩
    rw [cutV_take _ (by omega), ← List.map_take, show ((j : Int)).toNat = j from rfl]
    have s3 := same_new (o := .lst ((ns.take j).map V.int)) n1
    have h1 := upd_same (H := H2) (a := r1) (o := .lst ((ns.take j).map V.int))
    have r1st : r1 ≠ st := hd2.ne_new n1
    have hd3 := hd2.new s3
    have b3 := b2.trans (Bt.same (st := st) s3)
    generalize upd H2 r1 (.lst ((ns.take j).map V.int)) = H3 at s3 h1 hd3 b3 ⊢
    refine ⟨st, scr, 13, rfl, hd3, by decide, many_small (by decide) (by decide), fun z l z0 z1 hd4 => ?_⟩
    have b4 := b3.trans (Bt.st (st := st) (o := .lst l))
    have h1 := (Bt.st (st := st) (H := H3) (o := .lst l)) _ _ r1st h1
    generalize upd H3 st (.lst l) = H4 at hd4 b4 h1 ⊢
    refine ⟨(by show 1 ≤ sizeLine; decide), fun r2 n2 => ?_⟩
    have s5 := same_new (o := .lst [.int z]) n2
    have h2 := upd_same (H := H4) (a := r2) (o := .lst [.int z])
    have hd5 := hd4.new s5
    have b5 := b4.trans (Bt.same (st := st) s5)
    have h1 := s5 _ _ h1
    generalize upd H4 r2 (.lst [.int z]) = H5 at s5 h1 h2 hd5 b5 ⊢
    refine .inl ⟨_, _, h1, h2, line_of (by rw [List.length_map, List.length_take]; show _ + 1 ≤ _; omega), fun r3 n3 => ?_⟩
    have e3 : (ns.take j).map V.int ++ [.int z] = (ns.take j ++ [z]).map V.int := by rw [List.map_append]; rfl
    rw [e3]
    have s6 := same_new (o := .lst ((ns.take j ++ [z]).map V.int)) n3
    have h3 := upd_same (H := H5) (a := r3) (o := .lst ((ns.take j ++ [z]).map V.int))
    have hd6 := hd5.new s6
    have b6 := b5.trans (Bt.same (st := st) s6)
    generalize upd H5 r3 (.lst ((ns.take j ++ [z]).map V.int)) = H6 at s6 h3 hd6 b6 ⊢
    refine ⟨(j : Int), rfl, .inl ⟨_, SqL.of (b6 _ _ pst hp), fun r4 n4 => ?_⟩⟩
    rw [cutV_drop _ (by omega), ← List.map_drop, show ((j : Int)).toNat = j by omega]
    have s7 := same_new (o := .lst ((ns.drop (j)).map V.int)) n4
    have h4 := upd_same (H := H6) (a := r4) (o := .lst ((ns.drop (j)).map V.int))
    have hd7 := hd6.new s7
    have b7 := b6.trans (Bt.same (st := st) s7)
    have h3 := s7 _ _ h3
    generalize upd H6 r4 (.lst ((ns.drop (j)).map V.int)) = H7 at s7 h3 h4 hd7 b7 ⊢
    have ll : (ns.take j ++ [z]).length + (ns.drop (j)).length ≤ 9 := by rw [List.length_append, List.length_take, List.length_drop]; show _ + 1 + _ ≤ _; omega
    refine .inl ⟨_, _, h3, h4, line_of (by rw [List.length_map, List.length_map]; omega), fun r5 n5 => ?_⟩
    rw [← List.map_append]
    have s8 := same_new (o := .lst ((ns.take j ++ [z] ++ ns.drop (j)).map V.int)) n5
    exact q _ r5 _ (b7.trans (Bt.same s8)) (hd7.new s8) (b7.free (hd7.ne_new n5) n5) upd_same (by rw [List.length_append]; omega) (join 0 (by omega) z (by omega) (bd_inB (by unfold Bd; omega)))
  · exact ⟨st, scr, 8, rfl, hd2, by decide, fun H3 r ms b d n h l ok => q H3 r ms (b2.trans b) d (b2.free (hd2.ne_new n) n) h (by omega) ok⟩
def sp__law_less (K : PySem.W.Frag) : Sp := fun vs H Q _ => ∃ (p q : Addr) (ns ms : List Int), vs = [.ref p, .ref q] ∧ H p = some (.lst (ns.map V.int)) ∧ H q = some (.lst (ms.map V.int)) ∧ ns.length ≤ 1000 ∧ ms.length ≤ 1000 ∧ Q (.bl (wvLess ns ms)) H
theorem len__law_less {vs : List V} {H : Hp} {Q : VK} {E : XK} (h : sp__law_less K vs H Q E) : vs.length = 2 := by
  obtain ⟨_, _, _, _, rfl, _⟩ := h
  rfl
theorem lessI_at : ∀ {a b : List Int} {j : Nat} {x y : Int}, (∀ m, m < j → a[m]? = b[m]?) → a[j]? = some x → b[j]? = some y → x ≠ y → lessI a b = decide (x < y)
  | x :: a, y :: b, 0, _, _, _, h1, h2, n => by
    cases h1
    cases h2
    unfold lessI
    rw [if_neg n]
  | x :: a, y :: b, j + 1, _, _, h, h1, h2, n => by
    have e : x = y := Option.some.inj (h 0 (by omega))
    unfold lessI
    rw [if_pos e]
    exact lessI_at (fun m hm => h (m + 1) (by omega)) h1 h2 n
theorem lessI_same : ∀ a : List Int, lessI a a = false
  | [] => rfl
  | x :: a => by
    unfold lessI
    rw [if_pos rfl]
    exact lessI_same a
theorem ok__law_less {f : Addr} {fd : FuncData} (F : Fun K "_law_less" "_law_less" s__law_less f fd) (T : Gs K mg t_BOUND t_DIGITS t_LETTERS t_LONGEST_INTEGER t_MOST_TIMES a_MARKS a_SIGNS a_BadNumber a_BadText a_BadTurn a_ElseputError a_Reader a_Weaving) : FnOk P w K mg base CX0 1 f fd ["_law_first", "_law_second"] (sp__law_less K) := by
  refine F.ok sc__law_less (fun vs H Q E h => len__law_less h) (fun cdv A outer s H vs Q E hr h => ?_)
  obtain ⟨p, r, ns, ms, rfl, hp, hr0, l1, l2, q⟩ := h
  refine ⟨_, (pss_cons (ps_if (pt_c (neK K hr.units) (pe_callB (lenK K) (by rfl) T.z_len PySem.boot_len (pa_cons (v_ 0) pa_nil)) (pe_callB (lenK K) (by rfl) T.z_len PySem.boot_len (pa_cons (v_ 1) pa_nil))) (pss_one (ps_ret (pe_c op_ltM (pe_callB (lenK K) (by rfl) T.z_len PySem.boot_len (pa_cons (v_ 0) pa_nil)) (pe_callB (lenK K) (by rfl) T.z_len PySem.boot_len (pa_cons (v_ 1) pa_nil))))) pss_nil) (pss_cons (ps_for PassesOwn.never rfl (pi_range1 rfl T.z_range (pa_cons (pe_callB (lenK K) (by rfl) T.z_len PySem.boot_len (pa_cons (v_ 0) pa_nil)) pa_nil)) (pg_name (i := 2) sc__law_less.nd rfl (.inl rfl)) (pss_one (ps_if (pt_c (neK K hr.units) (e_x K (v_ 0) (v_ 2)) (e_x K (v_ 1) (v_ 2))) (pss_one (ps_ret (pe_c op_ltM (e_x K (v_ 0) (v_ 2)) (e_x K (v_ 1) (v_ 2))))) pss_nil))) (pss_one (ps_ret pe_bl)))), ?_⟩
  refine .inl ⟨_, .inl (SqL.of hp), .inl ⟨_, .inl (SqL.of hr0), ?_⟩⟩
  rw [List.length_map, List.length_map]
  unfold wvLess at q
  refine ite2 (fun c => ?_) (fun c => ?_)
  · have c : ¬ ns.length = ms.length := by
      have c : (!decide ((ns.length : Int) = ms.length)) = true := c
      rw [Bool.not_eq_true', decide_eq_false_iff_not] at c
      omega
    rw [if_neg c] at q
    refine .inl ⟨_, .inl (SqL.of hp), .inl ⟨_, .inl (SqL.of hr0), ?_⟩⟩
    rw [List.length_map, List.length_map]
    have e : decide ((ns.length : Int) < ms.length) = decide (ns.length < ms.length) := by
      rw [decide_eq_decide]
      omega
    rw [← e] at q
    exact q
  · have c : ns.length = ms.length := by
      have c : ¬ (!decide ((ns.length : Int) = ms.length)) = true := c
      rw [Bool.not_eq_true', decide_eq_false_iff_not] at c
      have := Decidable.not_not.mp c
      omega
    rw [if_pos c] at q
    refine .inl ⟨_, .inl (SqL.of hp), ?_⟩
    rw [List.length_map]
    refine ⟨_, rfl, by omega, by omega, ?_⟩
    refine for_range (lo := 0) (n := ns.length) (fun i σ' H' => (∃ y, σ' = [some (.ref p), some (.ref r), y]) ∧ H' = H ∧ ∀ m, m < i → ns[m]? = ms[m]?) ⟨⟨_, rfl⟩, rfl, fun m h => absurd h (by omega)⟩ ?_ ?_
    · rintro i σ' H' hi ⟨⟨y, rfl⟩, rfl, he⟩
      have e1 := List.getElem?_eq_getElem hi
      have e2 := List.getElem?_eq_getElem (show i < ms.length by omega)
      have a1 : atI (ns.map V.int) (0 + (i : Int)) = some (.int ns[i]) := by rw [Int.zero_add]; exact atI_nat (by rw [List.getElem?_map, e1]; rfl)
      have a2 : atI (ms.map V.int) (0 + (i : Int)) = some (.int ms[i]) := by rw [Int.zero_add]; exact atI_nat (by rw [List.getElem?_map, e2]; rfl)
      refine ⟨_, .inl (SqL.of hp), _, a1, _, .inl (SqL.of hr0), _, a2, ?_⟩
      refine ite2 (fun c2 => ?_) (fun c2 => ?_)
      · have c2 : ¬ ns[i] = ms[i] := by
          have c2 : (!decide (ns[i] = ms[i])) = true := c2
          rw [Bool.not_eq_true', decide_eq_false_iff_not] at c2
          exact c2
        refine ⟨_, .inl (SqL.of hp), _, a1, _, .inl (SqL.of hr0), _, a2, ?_⟩
        rw [lessI_at he e1 e2 c2] at q
        exact q
      · have c2 : ns[i] = ms[i] := by
          have c2 : ¬ (!decide (ns[i] = ms[i])) = true := c2
          rw [Bool.not_eq_true', decide_eq_false_iff_not] at c2
          exact Decidable.not_not.mp c2
        refine ⟨⟨_, rfl⟩, rfl, fun m hm => ?_⟩
        by_cases e : m = i
        · rw [e, e1, e2, c2]
        · exact he m (by omega)
    · rintro σ' H' ⟨⟨y, rfl⟩, rfl, he⟩
      have : ns = ms := List.ext_getElem? fun m => by
        by_cases hm : m < ns.length
        · exact he m hm
        · rw [List.getElem?_eq_none (by omega), List.getElem?_eq_none (by omega)]
      rw [this, lessI_same] at q
      exact q
end
section
variable {P : Program} {w : World} {K : PySem.W.Frag} {mg : Str → Option Value} {base : Heap}
variable {t_BOUND t_DIGITS t_LETTERS t_LONGEST_INTEGER t_MOST_TIMES : Tok} {a_MARKS a_SIGNS a_BadNumber a_BadText a_BadTurn a_ElseputError a_Reader a_Weaving : Addr}
/-! ### what is tried, and how it ends -/
inductive Out
  | wv (ns : List Int)
  | turn (i : Int)
  | num (i : Int)
  | text (c : Int)
def OutQ (K : PySem.W.Frag) (H : Hp) (Q : VK) : Out → Prop
  | .wv ns => ∀ (H' : Hp) (x : Addr), Same H H' → H x = none → WvAt K H' x ns → Q (.ref x) H'
  | .turn i => ∀ (H' : Hp) (t : Addr), Same H H' → H t = none → H' t = some (.tup [.str "refused", .bl true, .bl false, .bl false, .int i]) → Q (.ref t) H'
  | .num i => ∀ (H' : Hp) (t : Addr), Same H H' → H t = none → H' t = some (.tup [.str "refused", .bl false, .bl true, .bl false, .int i]) → Q (.ref t) H'
  | .text c => ∀ (H' : Hp) (t u : Addr), Same H H' → H t = none → H' u = some (.tup [.int 1, .int c]) → H' t = some (.tup [.str "refused", .bl false, .bl false, .bl true, .ref u]) → Q (.ref t) H'
def MakeO (ns : List Int) (o : Out) : Prop := match neg1 ns with | some i => o = .turn i | none => o = .wv ns
def TimesO (ns : List Int) (i : Int) (o : Out) : Prop := if 0 ≤ i ∧ i ≤ 1000 then o = .wv (repI ns i) else o = .num i
def ReadO (z : Str) (o : Out) : Prop := match splitL z.cps.toList 1 with
  | .error c => o = .text (c : Int)
  | .ok toks => (∃ i, i < toks.length ∧ (∀ m, m < i → (natO (tokAt toks m)).isSome = true) ∧ natO (tokAt toks i) = none ∧ o = .text (colAt toks ((z.length : Int) + 1) i)) ∨ ((∀ m, m < toks.length → (natO (tokAt toks m)).isSome = true) ∧ o = .wv (numsOf toks))
/-- what may be tried -/
def TryIs (K : PySem.W.Frag) (H : Hp) (d wv th : V) (o : Out) : Prop :=
  (∃ (p : Addr) (ns : List Int), d = .str "make" ∧ th = .ref p ∧ H p = some (.lst (ns.map V.int)) ∧ ns.length ≤ 100 ∧ (∀ z ∈ ns, z.natAbs < 2 ^ 200) ∧ MakeO ns o) ∨
  (∃ (a : Addr) (i : Int) (ns : List Int), (d = .str "behind" ∨ d = .str "ahead") ∧ wv = .ref a ∧ th = .int i ∧ WvAt K H a ns ∧ WvOk ns ∧ ns.length ≤ 1000 ∧ (i ≤ 1000 → i.toNat * ns.length ≤ 50000) ∧ i.natAbs < 2 ^ 200 ∧ TimesO ns i o) ∨
  (∃ z : Str, d = .str "read" ∧ th = .str z ∧ LineOk z ∧ ReadO z o)
def sp__law_try (K : PySem.W.Frag) : Sp := fun vs H Q _ => ∃ (d wv th : V) (o : Out), vs = [d, wv, th] ∧ TryIs K H d wv th o ∧ OutQ K H Q o
theorem len__law_try {vs : List V} {H : Hp} {Q : VK} {E : XK} (h : sp__law_try K vs H Q E) : vs.length = 3 := by
  obtain ⟨_, _, _, _, rfl, _⟩ := h
  rfl
theorem ok__law_try {f : Addr} {fd : FuncData} {f_Weaving___init__ : Addr} {fd_Weaving___init__ : FuncData} {f_Weaving_read : Addr} {fd_Weaving_read : FuncData} {p_Weaving_read : Addr} {f_Weaving___mul__ : Addr} {fd_Weaving___mul__ : FuncData} {f_Weaving___rmul__ : Addr} {fd_Weaving___rmul__ : FuncData} (F : Fun K "_law_try" "_law_try" s__law_try f fd) (T : Gs K mg t_BOUND t_DIGITS t_LETTERS t_LONGEST_INTEGER t_MOST_TIMES a_MARKS a_SIGNS a_BadNumber a_BadText a_BadTurn a_ElseputError a_Reader a_Weaving) (c_Weaving___init__ : CalI P w K mg base (L2.CX P w) 3 "Weaving" a_Weaving f_Weaving___init__ fd_Weaving___init__ ["self", "turns"] (sp_Weaving___init__ K)) (c_Weaving_read : CalS P w K mg base (L2.CX P w) 6 a_Weaving p_Weaving_read "read" f_Weaving_read fd_Weaving_read ["line"] (sp_Weaving_read K)) (c_Weaving___mul__ : CalOT P w K mg base (L2.CX P w) 5 a_Weaving .Mult f_Weaving___mul__ fd_Weaving___mul__ ["self", "times"] (sp_Weaving___mul__ K)) (c_Weaving___rmul__ : CalR P w K mg base (L2.CX P w) 6 a_Weaving f_Weaving___rmul__ fd_Weaving___rmul__ ["self", "times"] (sp_Weaving___rmul__ K)) : FnOk P w K mg base CX0 7 f fd ["_law_deed", "_law_weaving", "_law_thing"] (sp__law_try K) := by
  refine F.ok sc__law_try (fun vs H Q E h => len__law_try h) (fun cdv A outer s H vs Q E hr h => ?_)
  obtain ⟨d, wv, th, o, rfl, ht, q⟩ := h
  refine ⟨_, (pss_cons (ps_try_as (i := 3) rfl rfl sc__law_try.nd rfl rfl ⟨rfl, by decide +kernel, .inl T.g_ElseputError⟩ takes0 (fun W pn xe tk po => (pss_one (ps_if (pt_c (eqK K hr.units) (v_ 0) pe_str) (pss_one (ps_set (i := 4) sc__law_try.nd rfl (.inl rfl) (pe_makeS c_Weaving___init__.mkc c_Weaving___init__.G (hr.mono (by first | decide | omega)) rfl c_Weaving___init__.m c_Weaving___init__.b (fun σ => passAt tk σ) (pa_cons (v_ 2) pa_nil)))) (pss_one (ps_if (pt_c (eqK K hr.units) (v_ 0) pe_str) (pss_one (ps_set (i := 4) sc__law_try.nd rfl (.inl rfl) (pe_bopSI c_Weaving___mul__.op c_Weaving___mul__.G (hr.mono (by first | decide | omega)) c_Weaving___mul__.b (fun σ => passAt tk σ) (v_ 1) (v_ 2)))) (pss_one (ps_if (pt_c (eqK K hr.units) (v_ 0) pe_str) (pss_one (ps_set (i := 4) sc__law_try.nd rfl (.inl rfl) (pe_revS c_Weaving___rmul__.rv c_Weaving___rmul__.G (hr.mono (by first | decide | omega)) c_Weaving___rmul__.b (fun σ => passAt tk σ) (v_ 2) (v_ 1)))) (pss_one (ps_set (i := 4) sc__law_try.nd rfl (.inl rfl) (pe_smethS (pe_glob (v := .ref a_Weaving) rfl T.g_Weaving rfl) c_Weaving_read.rd c_Weaving_read.sm c_Weaving_read.G (hr.mono (by first | decide | omega)) c_Weaving_read.b (fun σ => passAt tk σ) (pa_cons (v_ 2) pa_nil))))))))))) (fun ea oe ecls ed epn hz hf => (pss_cons (ps_set (i := 5) sc__law_try.nd rfl (.inl rfl) pe_non) (Evl.pss_cut (ps_if (pt_t K (pe_callB (call_isX hz hf) (by rfl) T.z_isinstance (by decide +kernel) (pa_cons (v_ 3) (pa_cons (pe_glob (v := .ref a_BadTurn) rfl T.g_BadTurn rfl) pa_nil)))) (pss_one (ps_set (i := 5) sc__law_try.nd rfl (.inl rfl) (pe_xf T.x_BadTurn.xf (T.x_BadTurn.no _ (by decide)) hz hf (v_ 3)))) pss_nil) (Evl.pss_cut (ps_if (pt_t K (pe_callB (call_isX hz hf) (by rfl) T.z_isinstance (by decide +kernel) (pa_cons (v_ 3) (pa_cons (pe_glob (v := .ref a_BadNumber) rfl T.g_BadNumber rfl) pa_nil)))) (pss_one (ps_set (i := 5) sc__law_try.nd rfl (.inl rfl) (pe_xf T.x_BadNumber.xf (T.x_BadNumber.no _ (by decide)) hz hf (v_ 3)))) pss_nil) (Evl.pss_cut (ps_if (pt_t K (pe_callB (call_isX hz hf) (by rfl) T.z_isinstance (by decide +kernel) (pa_cons (v_ 3) (pa_cons (pe_glob (v := .ref a_BadText) rfl T.g_BadText rfl) pa_nil)))) (pss_one (ps_set (i := 5) sc__law_try.nd rfl (.inl rfl) (pe_tup (pa_cons (pe_xf T.x_BadText.xf (T.x_BadText.no _ (by decide)) hz hf (v_ 3)) (pa_cons (pe_xf T.x_BadText.xf (T.x_BadText.no _ (by decide)) hz hf (v_ 3)) pa_nil))))) pss_nil) (pss_one (ps_ret (pe_tup (pa_cons pe_str (pa_cons (pe_callB (call_isX hz hf) (by rfl) T.z_isinstance (by decide +kernel) (pa_cons (v_ 3) (pa_cons (pe_glob (v := .ref a_BadTurn) rfl T.g_BadTurn rfl) pa_nil))) (pa_cons (pe_callB (call_isX hz hf) (by rfl) T.z_isinstance (by decide +kernel) (pa_cons (v_ 3) (pa_cons (pe_glob (v := .ref a_BadNumber) rfl T.g_BadNumber rfl) pa_nil))) (pa_cons (pe_callB (call_isX hz hf) (by rfl) T.z_isinstance (by decide +kernel) (pa_cons (v_ 3) (pa_cons (pe_glob (v := .ref a_BadText) rfl T.g_BadText rfl) pa_nil))) (pa_cons (v_ 5) pa_nil)))))))))))))) (pss_one (ps_ret (v_ 4)))), ?_⟩
  rcases ht with ⟨p, ns, rfl, rfl, hp, l1, small, ho⟩ | ⟨a, i, ns, hd, rfl, rfl, hA, ok, l1, l2, hi, ho⟩ | ⟨z, rfl, rfl, hz, ho⟩
  · refine fun x dx nx nd ne => made_weaving nx nd ne T.n_Weaving (.inl (SqL.of hp)) (by omega) small ?_
    unfold MakeO at ho
    cases hb : neg1 ns with
    | some i =>
      rw [hb] at ho
      subst ho
      intro C d H1 hC s1 nd hd
      cases hC.symm.trans T.n_BadTurn
      refine ⟨true, T.m_BadTurn_ElseputError, fun _ e ne => ?_, fun h => nomatch h⟩
      refine ⟨fun σ' H' => H1 = H' ∧ σ' = [some (.str "make"), some wv, some (.ref p), some (.ref e), none, some (.int i)], ?_, ?_⟩
      · refine ⟨_, d, _, _, _, true, rfl, rfl, rfl, hd, T.x_BadTurn.is, fun u h => h, T.k_BadTurn_BadTurn, ?_⟩
        exact ⟨rfl, rfl, d, _, _, rfl, hd, rfl, rfl, rfl⟩
      rintro σ' H' ⟨rfl, rfl⟩
      refine ⟨fun σ' H' => H1 = H' ∧ σ' = [some (.str "make"), some wv, some (.ref p), some (.ref e), none, some (.int i)], ?_, ?_⟩
      · refine ⟨_, d, _, _, _, false, rfl, rfl, rfl, hd, T.x_BadTurn.is, fun u h => h, T.k_BadTurn_BadNumber, ?_⟩
        exact ⟨rfl, rfl⟩
      rintro σ' H' ⟨rfl, rfl⟩
      refine ⟨fun σ' H' => H1 = H' ∧ σ' = [some (.str "make"), some wv, some (.ref p), some (.ref e), none, some (.int i)], ?_, ?_⟩
      · refine ⟨_, d, _, _, _, false, rfl, rfl, rfl, hd, T.x_BadTurn.is, fun u h => h, T.k_BadTurn_BadText, ?_⟩
        exact ⟨rfl, rfl⟩
      rintro σ' H' ⟨rfl, rfl⟩
      refine ⟨_, d, _, _, _, true, rfl, rfl, rfl, hd, T.x_BadTurn.is, fun u h => h, T.k_BadTurn_BadTurn, ?_⟩
      refine ⟨_, d, _, _, _, false, rfl, rfl, rfl, hd, T.x_BadTurn.is, fun u h => h, T.k_BadTurn_BadNumber, ?_⟩
      refine ⟨_, d, _, _, _, false, rfl, rfl, rfl, hd, T.x_BadTurn.is, fun u h => h, T.k_BadTurn_BadText, ?_⟩
      refine ⟨(by show 5 ≤ sizeLine; decide), fun t nt => ?_⟩
      exact q _ t (s1.trans (same_new nt)) (Same.free s1 nt) upd_same
    | none =>
      rw [hb] at ho
      subst ho
      intro H1 s1 hw
      exact ⟨rfl, q H1 x s1 nx hw⟩
  · obtain ⟨C, dx, t, hC, ha, ht⟩ := id hA
    cases hC.symm.trans T.n_Weaving
    unfold TimesO at ho
    rcases hd with rfl | rfl
    · refine ⟨a, dx, _, i, rfl, rfl, ha, a, i, ns, rfl, hA, ok, l1, l2, hi, ?_⟩
      unfold TimesW Times
      by_cases hb : 0 ≤ i ∧ i ≤ 1000
      · rw [if_pos hb] at ho ⊢
        subst ho
        exact q
      · rw [if_neg hb] at ho ⊢
        subst ho
        intro C d H1 hC s1 nd hd
        cases hC.symm.trans T.n_BadNumber
        refine ⟨true, T.m_BadNumber_ElseputError, fun _ e ne => ?_, fun h => nomatch h⟩
        refine ⟨fun σ' H' => H1 = H' ∧ σ' = [some (.str "behind"), some (.ref a), some (.int i), some (.ref e), none, some .non], ?_, ?_⟩
        · refine ⟨_, d, _, _, _, false, rfl, rfl, rfl, hd, T.x_BadNumber.is, fun u h => h, T.k_BadNumber_BadTurn, ?_⟩
          exact ⟨rfl, rfl⟩
        rintro σ' H' ⟨rfl, rfl⟩
        refine ⟨fun σ' H' => H1 = H' ∧ σ' = [some (.str "behind"), some (.ref a), some (.int i), some (.ref e), none, some (.int i)], ?_, ?_⟩
        · refine ⟨_, d, _, _, _, true, rfl, rfl, rfl, hd, T.x_BadNumber.is, fun u h => h, T.k_BadNumber_BadNumber, ?_⟩
          exact ⟨rfl, rfl, d, _, _, rfl, hd, rfl, rfl, rfl⟩
        rintro σ' H' ⟨rfl, rfl⟩
        refine ⟨fun σ' H' => H1 = H' ∧ σ' = [some (.str "behind"), some (.ref a), some (.int i), some (.ref e), none, some (.int i)], ?_, ?_⟩
        · refine ⟨_, d, _, _, _, false, rfl, rfl, rfl, hd, T.x_BadNumber.is, fun u h => h, T.k_BadNumber_BadText, ?_⟩
          exact ⟨rfl, rfl⟩
        rintro σ' H' ⟨rfl, rfl⟩
        refine ⟨_, d, _, _, _, false, rfl, rfl, rfl, hd, T.x_BadNumber.is, fun u h => h, T.k_BadNumber_BadTurn, ?_⟩
        refine ⟨_, d, _, _, _, true, rfl, rfl, rfl, hd, T.x_BadNumber.is, fun u h => h, T.k_BadNumber_BadNumber, ?_⟩
        refine ⟨_, d, _, _, _, false, rfl, rfl, rfl, hd, T.x_BadNumber.is, fun u h => h, T.k_BadNumber_BadText, ?_⟩
        refine ⟨(by show 5 ≤ sizeLine; decide), fun t nt => ?_⟩
        exact q _ t (s1.trans (same_new nt)) (Same.free s1 nt) upd_same
    · refine ⟨a, dx, _, i, rfl, rfl, ha, a, i, ns, rfl, hA, ok, l1, l2, hi, ?_⟩
      unfold TimesW Times
      by_cases hb : 0 ≤ i ∧ i ≤ 1000
      · rw [if_pos hb] at ho ⊢
        subst ho
        exact q
      · rw [if_neg hb] at ho ⊢
        subst ho
        intro C d H1 hC s1 nd hd
        cases hC.symm.trans T.n_BadNumber
        refine ⟨true, T.m_BadNumber_ElseputError, fun _ e ne => ?_, fun h => nomatch h⟩
        refine ⟨fun σ' H' => H1 = H' ∧ σ' = [some (.str "ahead"), some (.ref a), some (.int i), some (.ref e), none, some .non], ?_, ?_⟩
        · refine ⟨_, d, _, _, _, false, rfl, rfl, rfl, hd, T.x_BadNumber.is, fun u h => h, T.k_BadNumber_BadTurn, ?_⟩
          exact ⟨rfl, rfl⟩
        rintro σ' H' ⟨rfl, rfl⟩
        refine ⟨fun σ' H' => H1 = H' ∧ σ' = [some (.str "ahead"), some (.ref a), some (.int i), some (.ref e), none, some (.int i)], ?_, ?_⟩
        · refine ⟨_, d, _, _, _, true, rfl, rfl, rfl, hd, T.x_BadNumber.is, fun u h => h, T.k_BadNumber_BadNumber, ?_⟩
          exact ⟨rfl, rfl, d, _, _, rfl, hd, rfl, rfl, rfl⟩
        rintro σ' H' ⟨rfl, rfl⟩
        refine ⟨fun σ' H' => H1 = H' ∧ σ' = [some (.str "ahead"), some (.ref a), some (.int i), some (.ref e), none, some (.int i)], ?_, ?_⟩
        · refine ⟨_, d, _, _, _, false, rfl, rfl, rfl, hd, T.x_BadNumber.is, fun u h => h, T.k_BadNumber_BadText, ?_⟩
          exact ⟨rfl, rfl⟩
        rintro σ' H' ⟨rfl, rfl⟩
        refine ⟨_, d, _, _, _, false, rfl, rfl, rfl, hd, T.x_BadNumber.is, fun u h => h, T.k_BadNumber_BadTurn, ?_⟩
        refine ⟨_, d, _, _, _, true, rfl, rfl, rfl, hd, T.x_BadNumber.is, fun u h => h, T.k_BadNumber_BadNumber, ?_⟩
        refine ⟨_, d, _, _, _, false, rfl, rfl, rfl, hd, T.x_BadNumber.is, fun u h => h, T.k_BadNumber_BadText, ?_⟩
        refine ⟨(by show 5 ≤ sizeLine; decide), fun t nt => ?_⟩
        exact q _ t (s1.trans (same_new nt)) (Same.free s1 nt) upd_same
  · refine ⟨rfl, z, rfl, hz, ?_⟩
    unfold ReadO at ho
    unfold ReadW
    cases hs : splitL z.cps.toList 1 with
    | error c =>
      rw [hs] at ho
      have ho : o = .text (c : Int) := ho
      subst ho
      intro C d H1 hC s1 nd hd
      cases hC.symm.trans T.n_BadText
      refine ⟨true, T.m_BadText_ElseputError, fun _ e ne => ?_, fun h => nomatch h⟩
      refine ⟨fun σ' H' => H1 = H' ∧ σ' = [some (.str "read"), some wv, some (.str z), some (.ref e), none, some .non], ?_, ?_⟩
      · refine ⟨_, d, _, _, _, false, rfl, rfl, rfl, hd, T.x_BadText.is, fun u h => h, T.k_BadText_BadTurn, ?_⟩
        exact ⟨rfl, rfl⟩
      rintro σ' H' ⟨rfl, rfl⟩
      refine ⟨fun σ' H' => H1 = H' ∧ σ' = [some (.str "read"), some wv, some (.str z), some (.ref e), none, some .non], ?_, ?_⟩
      · refine ⟨_, d, _, _, _, false, rfl, rfl, rfl, hd, T.x_BadText.is, fun u h => h, T.k_BadText_BadNumber, ?_⟩
        exact ⟨rfl, rfl⟩
      rintro σ' H' ⟨rfl, rfl⟩
      refine ⟨fun σ' H' => ∃ u, Same H1 H' ∧ H' u = some (.tup [.int 1, .int c]) ∧ σ' = [some (.str "read"), some wv, some (.str z), some (.ref e), none, some (.ref u)], ?_, ?_⟩
      · refine ⟨_, d, _, _, _, true, rfl, rfl, rfl, hd, T.x_BadText.is, fun u h => h, T.k_BadText_BadText, ?_⟩
        exact ⟨rfl, rfl, d, _, _, rfl, hd, rfl, rfl, rfl, d, _, _, rfl, hd, rfl, (by show 2 ≤ sizeLine; decide), fun u nu => ⟨u, same_new nu, upd_same, rfl⟩⟩
      rintro σ' H' ⟨u, s2, hu, rfl⟩
      have hd := s2 _ _ hd
      refine ⟨_, d, _, _, _, false, rfl, rfl, rfl, hd, T.x_BadText.is, fun u h => h, T.k_BadText_BadTurn, ?_⟩
      refine ⟨_, d, _, _, _, false, rfl, rfl, rfl, hd, T.x_BadText.is, fun u h => h, T.k_BadText_BadNumber, ?_⟩
      refine ⟨_, d, _, _, _, true, rfl, rfl, rfl, hd, T.x_BadText.is, fun u h => h, T.k_BadText_BadText, ?_⟩
      refine ⟨(by show 5 ≤ sizeLine; decide), fun t nt => ?_⟩
      have s3 := same_new (o := .tup [.str "refused", .bl false, .bl false, .bl true, .ref u]) nt
      exact q _ t u ((s1.trans s2).trans s3) (Same.free (s1.trans s2) nt) (s3 _ _ hu) upd_same
    | ok toks =>
      rw [hs] at ho
      refine ⟨fun i hi hm en => ?_, fun hm => ?_⟩
      · rcases ho with ⟨j, hj, hm2, en2, rfl⟩ | ⟨hm2, rfl⟩
        · have : i = j := by
            rcases Nat.lt_trichotomy i j with c | c | c
            · have := hm2 i c
              rw [en] at this
              cases this
            · exact c
            · have := hm j c
              rw [en2] at this
              cases this
          subst this
          intro C d H1 hC s1 nd hd
          cases hC.symm.trans T.n_BadText
          refine ⟨true, T.m_BadText_ElseputError, fun _ e ne => ?_, fun h => nomatch h⟩
          refine ⟨fun σ' H' => H1 = H' ∧ σ' = [some (.str "read"), some wv, some (.str z), some (.ref e), none, some .non], ?_, ?_⟩
          · refine ⟨_, d, _, _, _, false, rfl, rfl, rfl, hd, T.x_BadText.is, fun u h => h, T.k_BadText_BadTurn, ?_⟩
            exact ⟨rfl, rfl⟩
          rintro σ' H' ⟨rfl, rfl⟩
          refine ⟨fun σ' H' => H1 = H' ∧ σ' = [some (.str "read"), some wv, some (.str z), some (.ref e), none, some .non], ?_, ?_⟩
          · refine ⟨_, d, _, _, _, false, rfl, rfl, rfl, hd, T.x_BadText.is, fun u h => h, T.k_BadText_BadNumber, ?_⟩
            exact ⟨rfl, rfl⟩
          rintro σ' H' ⟨rfl, rfl⟩
          refine ⟨fun σ' H' => ∃ u, Same H1 H' ∧ H' u = some (.tup [.int 1, .int (colAt toks ((z.length : Int) + 1) i)]) ∧ σ' = [some (.str "read"), some wv, some (.str z), some (.ref e), none, some (.ref u)], ?_, ?_⟩
          · refine ⟨_, d, _, _, _, true, rfl, rfl, rfl, hd, T.x_BadText.is, fun u h => h, T.k_BadText_BadText, ?_⟩
            exact ⟨rfl, rfl, d, _, _, rfl, hd, rfl, rfl, rfl, d, _, _, rfl, hd, rfl, (by show 2 ≤ sizeLine; decide), fun u nu => ⟨u, same_new nu, upd_same, rfl⟩⟩
          rintro σ' H' ⟨u, s2, hu, rfl⟩
          have hd := s2 _ _ hd
          refine ⟨_, d, _, _, _, false, rfl, rfl, rfl, hd, T.x_BadText.is, fun u h => h, T.k_BadText_BadTurn, ?_⟩
          refine ⟨_, d, _, _, _, false, rfl, rfl, rfl, hd, T.x_BadText.is, fun u h => h, T.k_BadText_BadNumber, ?_⟩
          refine ⟨_, d, _, _, _, true, rfl, rfl, rfl, hd, T.x_BadText.is, fun u h => h, T.k_BadText_BadText, ?_⟩
          refine ⟨(by show 5 ≤ sizeLine; decide), fun t nt => ?_⟩
          have s3 := same_new (o := .tup [.str "refused", .bl false, .bl false, .bl true, .ref u]) nt
          exact q _ t u ((s1.trans s2).trans s3) (Same.free (s1.trans s2) nt) (s3 _ _ hu) upd_same
        · have := hm2 i hi
          rw [en] at this
          cases this
      · rcases ho with ⟨j, hj, hm2, en2, rfl⟩ | ⟨hm2, rfl⟩
        · have := hm j hj
          rw [en2] at this
          cases this
        · exact q
end
section
variable {P : Program} {w : World} {K : PySem.W.Frag} {mg : Str → Option Value} {base : Heap}
variable {t_BOUND t_DIGITS t_LETTERS t_LONGEST_INTEGER t_MOST_TIMES : Tok} {a_MARKS a_SIGNS a_BadNumber a_BadText a_BadTurn a_ElseputError a_Reader a_Weaving : Addr}
theorem drop_upd {H : Hp} {it : Addr} {o : HO} (h : H it = none) : ItX.dropH (upd H it o) it = H := by
  funext b
  unfold ItX.dropH
  by_cases e : b = it
  · rw [if_pos e, e, h]
  · rw [if_neg e, upd_ne e]
/-! ### a weaving looked at -/
def sp__law_shows (K : PySem.W.Frag) : Sp := fun vs H Q _ => ∃ (a p : Addr) (ns : List Int), vs = [.ref a, .ref p] ∧ WvAt K H a ns ∧ H p = some (.lst (ns.map V.int)) ∧ NmOk ns ∧ ns.length ≤ 2000 ∧ ∀ H', Same H H' → Q (.bl true) H'
theorem len__law_shows {vs : List V} {H : Hp} {Q : VK} {E : XK} (h : sp__law_shows K vs H Q E) : vs.length = 2 := by
  obtain ⟨_, _, _, rfl, _⟩ := h
  rfl
theorem wv_ins {H : Hp} {a C : Addr} {ns : List Int} (h : WvAt K H a ns) (hC : PySem.W.nsIn K mainGlobals "Weaving" = some (some (.ref C))) : ∃ dx fs, H a = some (.ins C dx fs) := by
  obtain ⟨C2, dx, t, h1, h2, _⟩ := h
  cases h1.symm.trans hC
  exact ⟨dx, _, h2⟩
theorem same_ints {H : Hp} {p q : Addr} {ns : List Int} {n : Nat} (h1 : H p = some (.lst (ns.map V.int))) (h2 : H q = some (.lst (ns.map V.int))) (l : ns.length ≤ 1000) : SameV K H (n + 2) (.ref p) (.ref q) :=
  .inr (.inr (.inl ⟨p, q, _, _, rfl, rfl, h1, h2, rfl, by rw [List.length_map]; exact l, fun i a b ha hb => by
    rw [ha] at hb
    cases hb
    rw [List.getElem?_map] at ha
    obtain ⟨z, _, rfl⟩ := Option.map_eq_some_iff.mp ha
    exact same_int z⟩))
theorem wvK_shaped (a : List Int) : SeqAt.shaped (ksD (wvK a)) = true := by
  have h1 := ksD_depth (wvK a)
  have h2 : ∀ a : List Int, PyData.canLayAll0 ((wvK a).map kD) = true := fun a => by
    induction a with
    | nil => simp [wvK, PyData.canLayAll0]
    | cons x a ih =>
      show PyData.canLayAll0 (.int x :: (wvK a).map kD) = true
      simp only [PyData.canLayAll0, PyData.canLay0, Bool.true_and]
      exact ih
  show ((ksD (wvK a)).canLay0 && decide ((ksD (wvK a)).depth ≤ 64)) = true
  rw [Bool.and_eq_true]
  refine ⟨?_, decide_eq_true (by omega)⟩
  unfold ksD
  simp only [PyData.canLay0, Bool.true_and, Bool.and_true]
  exact h2 a
theorem ok__law_shows {f : Addr} {fd : FuncData} {f__law_same : Addr} {fd__law_same : FuncData} {f_Weaving_text : Addr} {fd_Weaving_text : FuncData} {f_Weaving___len__ : Addr} {fd_Weaving___len__ : FuncData} {f_Weaving___iter__ : Addr} (F : Fun K "_law_shows" "_law_shows" s__law_shows f fd) (T : Gs K mg t_BOUND t_DIGITS t_LETTERS t_LONGEST_INTEGER t_MOST_TIMES a_MARKS a_SIGNS a_BadNumber a_BadText a_BadTurn a_ElseputError a_Reader a_Weaving) (c__law_same : Cal P w K mg base CX0 26 "_law_same" f__law_same fd__law_same ["_law_actual", "_law_due"] (sp__law_same K)) (c_Weaving_text : CalM P w K mg base CX0 1 a_Weaving "text" f_Weaving_text fd_Weaving_text ["self"] (sp_Weaving_text K)) (c_Weaving___len__ : CalL P w K mg base CX0 1 a_Weaving f_Weaving___len__ fd_Weaving___len__ ["self"] (sp_Weaving___len__ K)) (c_Weaving___iter__ : CalIt P w K mg base CX0 1 a_Weaving f_Weaving___iter__ (sp_Weaving___iter__ K)) : FnOk P w K mg base CX0 27 f fd ["_law_weaving", "_law_turns"] (sp__law_shows K) := by
  refine F.ok sc__law_shows (fun vs H Q E h => len__law_shows h) (fun cdv A outer s H vs Q E hr h => ?_)
  obtain ⟨a, p, ns, rfl, hA, hp, ok, l1, q⟩ := h
  obtain ⟨C, dx, t, hC, ha, ht⟩ := id hA
  cases hC.symm.trans T.n_Weaving
  refine ⟨_, (pss_cons (ps_if (PW.pt (pw_or (pt_not (pt_t K (pe_callB (isiK K) (by rfl) T.z_isinstance (by decide +kernel) (pa_cons (v_ 0) (pa_cons (pe_glob (v := .ref a_Weaving) rfl T.g_Weaving rfl) pa_nil))))) (pw_or1 (pt_c (neK K hr.units) (pe_callB (call_lenO c_Weaving___len__.le c_Weaving___len__.G (hr.mono (by first | decide | omega)) c_Weaving___len__.b) (by rfl) T.z_len PySem.boot_len (pa_cons (v_ 0) pa_nil)) (pe_callB (lenK K) (by rfl) T.z_len PySem.boot_len (pa_cons (v_ 1) pa_nil)))))) (pss_one (ps_ret pe_bl)) pss_nil) (pss_cons (ps_if (pt_c op_gtM (pe_callB (lenK K) (by rfl) T.z_len PySem.boot_len (pa_cons (v_ 1) pa_nil)) pe_int) (pss_one (ps_ret (pe_c (eqK K hr.units) (e_f K (v_ 0)) (pe_callTy (tupleK K) (by rfl) T.z_tuple (by decide +kernel) (pa_cons (v_ 1) pa_nil))))) pss_nil) (pss_cons (ps_if (PW.pt (pw_or (pt_not (pt_t K (pe_call c__law_same.G (hr.mono (by first | decide | omega)) rfl c__law_same.m c__law_same.kp c__law_same.b .nil pass0 (pa_cons (e_f K (v_ 0)) (pa_cons (pe_callTy (tupleK K) (by rfl) T.z_tuple (by decide +kernel) (pa_cons (v_ 1) pa_nil)) pa_nil))))) (pw_or1 (pt_not (pt_t K (pe_call c__law_same.G (hr.mono (by first | decide | omega)) rfl c__law_same.m c__law_same.kp c__law_same.b .nil pass0 (pa_cons (pe_lc (own := [("_law_one", 2)]) (g := gName 2) (by rfl) sc__law_shows.nd (pi_ownT c_Weaving___iter__.oi c_Weaving___iter__.F (hr.mono (by first | decide | omega)) pass0 (v_ 0)) (blkOk_by (N := ["_law_weaving", "_law_turns", "_law_one"]) (sc := defScope s__law_shows) (by decide +kernel)) (fun _ _ _ _ _ => pg_name (i := 2) sc__law_shows.nd rfl (Or.inl rfl)) (fun _ _ _ _ _ => pts_nil) (fun _ _ _ _ _ => (v_ 2))) (pa_cons (v_ 1) pa_nil)))))))) (pss_one (ps_ret pe_bl)) pss_nil) (pss_one (ps_ret (pe_call c__law_same.G (hr.mono (by first | decide | omega)) rfl c__law_same.m c__law_same.kp c__law_same.b .nil pass0 (pa_cons (pe_meth0 (v_ 0) c_Weaving_text.cl c_Weaving_text.me c_Weaving_text.G (hr.mono (by first | decide | omega)) c_Weaving_text.b .nil pass0) (pa_cons (pe_join pe_str (pe_lc (own := [("_law_one", 2)]) (g := gName 2) (by rfl) sc__law_shows.nd (pi_list (v_ 1)) (blkOk_by (N := ["_law_weaving", "_law_turns", "_law_one"]) (sc := defScope s__law_shows) (by decide +kernel)) (fun _ _ _ _ _ => pg_name (i := 2) sc__law_shows.nd rfl (Or.inl rfl)) (fun _ _ _ _ _ => pts_nil) (fun _ _ _ _ _ => (pe_callTy call_str_int (by rfl) T.z_str (by decide +kernel) (pa_cons (v_ 2) pa_nil))))) pa_nil)))))))), ?_⟩
  refine ⟨_, _, _, _, true, rfl, .own _, ty_ins ha T.cl_Weaving T.is_Weaving, kit_self, ?_⟩
  refine ite2 (fun e => nomatch e) (fun _ => ?_)
  refine ⟨a, dx, _, rfl, ha, a, ns, rfl, hA, _, rfl, by omega, by omega, ?_⟩
  refine .inl ⟨_, .inl (SqL.of hp), ?_⟩
  rw [List.length_map]
  refine ite2 (fun e => ?_) (fun _ => ?_)
  · have e : (!decide ((ns.length : Int) = (ns.length : Int))) = true := e
    rw [decide_eq_true rfl] at e
    cases e
  refine .inl ⟨_, .inl (SqL.of hp), ?_⟩
  rw [List.length_map]
  refine ite2 (fun c => ?_) (fun c => ?_)
  · refine ⟨a, a_Weaving, dx, _, _, rfl, ha, T.cl_Weaving, T.na_Weaving_turns, rfl, p, _, rfl, .inl ⟨SqL.of hp, fun l nl => ?_⟩⟩
    have s1 := same_new (o := .tup (ns.map V.int)) nl
    have dp1 : Dp K (upd H l (.tup (ns.map V.int))) (.ref t) (ksD (wvK ns)) := KyAt.dp ⟨t, rfl, by rw [wvK_vals]; exact SqT.same ht s1⟩
    have dp2 : Dp K (upd H l (.tup (ns.map V.int))) (.ref l) (ksD (wvK ns)) := KyAt.dp ⟨l, rfl, by rw [wvK_vals]; exact SqT.of upd_same⟩
    refine ⟨_, _, dp1, dp2, wvK_shaped _, wvK_shaped _, ?_⟩
    rw [ksD_eqv, decide_eq_true rfl]
    exact q _ s1
  have c : ¬ (100 : Int) < ns.length := of_decide_eq_false (Bool.eq_false_iff.mpr c)
  refine ⟨a, a_Weaving, dx, _, _, rfl, ha, T.cl_Weaving, T.na_Weaving_turns, rfl, p, _, rfl, .inl ⟨SqL.of hp, fun l nl => ?_⟩⟩
  have s1 := same_new (o := .tup (ns.map V.int)) nl
  refine ⟨_, _, rfl, same_tupN (n := 23) (SqT.same ht s1) (SqT.of upd_same) rfl (by rw [List.length_map]; omega) (fun i x y hx hy => ?_), ?_⟩
  · rw [hx] at hy
    cases hy
    rw [List.getElem?_map] at hx
    obtain ⟨z, _, rfl⟩ := Option.map_eq_some_iff.mp hx
    exact same_int z
  generalize upd H l (.tup (ns.map V.int)) = H1 at s1 ⊢
  refine ite2 (fun e => nomatch e) (fun _ => ?_)
  refine ⟨a, dx, _, rfl, s1 _ _ ha, fun m hm => ⟨a, ns, rfl, hA.same s1, fun t2 it ht2 nit hit => ⟨t2, it, rfl, upd_same, Nat.le_trans hm hit, ?_⟩⟩⟩
  rw [drop_upd nit]
  intro D nD
  refine lc_it (walk_tup (xs := ns.map V.int)) (fun j H2 => Same H1 H2 ∧ H2 D = some (.lst ((ns.take j).map V.int))) ⟨same_new nD, upd_same⟩ (fun _ _ _ h => SqT.same ht2 h.1) ?_ ?_
  · rintro j v H3 H4 hj ⟨s3, hD⟩ ⟨rfl, hv⟩
    have hv : (ns.map V.int)[j]? = some v := by
      first | exact hv | exact hv _ (SqT.same ht2 s3)
    rw [List.getElem?_map] at hv
    obtain ⟨u, eu, rfl⟩ := Option.map_eq_some_iff.mp hv
    refine ⟨rfl, ?_⟩
    refine ⟨_, hD, line_lt (by rw [List.length_map, List.length_take]; omega), fun b o hb => ?_, ?_⟩
    · rw [upd_ne (ne_of_none hb nD)]
      exact s3 _ _ hb
    · rw [upd_same, take_snoc eu, List.map_append]
      rfl
  rintro H2 ⟨s2, hD⟩
  rw [List.length_map, List.take_length] at hD
  have s12 := s1.trans s2
  refine ⟨_, _, rfl, same_ints (n := 22) hD (s12 _ _ hp) (by omega), ?_⟩
  refine ite2 (fun e => nomatch e) (fun _ => ?_)
  refine ⟨a, dx, _, rfl, s12 _ _ ha, rfl, a, ns, rfl, hA.same s12, by omega, fun z hz => (ok z hz).2, fun H3 s3 => ?_⟩
  have s13 := s12.trans s3
  refine ⟨⟨_, rfl⟩, p, rfl, ⟨_, SqL.of (s13 _ _ hp)⟩, fun D2 nD2 => ?_⟩
  refine lc_it (walk_list (xs := ns.map V.int)) (fun i H' => Same H3 H' ∧ H' D2 = some (.lst (((ns.take i).map numS).map V.str))) ⟨same_new nD2, upd_same⟩ (fun _ _ _ h => SqL.of (h.1 _ _ (s13 _ _ hp))) ?_ ?_
  · rintro i v H4 H5 hi ⟨sm, hD2⟩ ⟨rfl, hv⟩
    have hv : (ns.map V.int)[i]? = some v := by
      first | exact hv | exact hv _ (SqL.of (sm _ _ (s13 _ _ hp)))
    rw [List.getElem?_map] at hv
    obtain ⟨z, ez, rfl⟩ := Option.map_eq_some_iff.mp hv
    rw [List.length_map] at hi
    refine ⟨rfl, z, rfl, inB_log (ok z (List.mem_of_getElem? ez)).2, ?_⟩
    refine ⟨_, hD2, line_lt (by rw [List.length_map, List.length_map, List.length_take]; omega), fun b o hb => ?_, ?_⟩
    · rw [upd_ne (ne_of_none hb nD2)]
      exact sm _ _ hb
    · rw [upd_same, take_snoc ez, List.map_append, List.map_append]
      rfl
  · rintro H4 ⟨sm, hD2⟩
    rw [List.length_map, List.take_length] at hD2
    refine ⟨_, D2, ns.map numS, rfl, rfl, .inl (SqL.of hD2), ?_, ?_⟩
    · have hs := sum_le (f := fun z : Str => z.length) (B := 32) (l := ns.map numS) fun z hz => by
        obtain ⟨x, hx, rfl⟩ := List.mem_map.mp hz
        exact num_short (ok x hx).2
      rw [List.length_map] at hs ⊢
      rw [one_sp]
      have hs : ((ns.map numS).map (·.length)).sum ≤ ns.length * 32 := hs
      omega
    · rw [TL.join_eq]
      exact ⟨_, _, rfl, same_str _, q _ (s13.trans sm)⟩
end
section
variable {P : Program} {w : World} {K : PySem.W.Frag} {mg : Str → Option Value} {base : Heap}
variable {t_BOUND t_DIGITS t_LETTERS t_LONGEST_INTEGER t_MOST_TIMES : Tok} {a_MARKS a_SIGNS a_BadNumber a_BadText a_BadTurn a_ElseputError a_Reader a_Weaving : Addr}
/-! ### rows of objects -/
inductive All2 {α : Type} (R : V → α → Prop) : List V → List α → Prop
  | nil : All2 R [] []
  | cons {v : V} {a : α} {vs : List V} {as : List α} : R v a → All2 R vs as → All2 R (v :: vs) (a :: as)
theorem All2.imp {α : Type} {R R' : V → α → Prop} (f : ∀ v a, R v a → R' v a) {vs : List V} {as : List α} (h : All2 R vs as) : All2 R' vs as := by
  induction h with
  | nil => exact .nil
  | cons a _ ih => exact .cons (f _ _ a) ih
theorem All2.len {α : Type} {R : V → α → Prop} {vs : List V} {as : List α} (h : All2 R vs as) : vs.length = as.length := by
  induction h with
  | nil => rfl
  | cons _ _ ih => rw [List.length_cons, List.length_cons, ih]
theorem All2.snoc {α : Type} {R : V → α → Prop} {vs : List V} {as : List α} {v : V} {a : α} (h : All2 R vs as) (k : R v a) : All2 R (vs ++ [v]) (as ++ [a]) := by
  induction h with
  | nil => exact .cons k .nil
  | cons b _ ih => exact .cons b ih
theorem All2.app {α : Type} {R : V → α → Prop} {vs us : List V} {as bs : List α} (h : All2 R vs as) (k : All2 R us bs) : All2 R (vs ++ us) (as ++ bs) := by
  induction h with
  | nil => exact k
  | cons b _ ih => exact .cons b ih
theorem All2.at {α : Type} {R : V → α → Prop} {vs : List V} {as : List α} (h : All2 R vs as) : ∀ {i : Nat} {v : V}, vs[i]? = some v → ∃ a, as[i]? = some a ∧ R v a := by
  induction h with
  | nil => intro i v e; simp at e
  | @cons v a vs as h1 _ ih =>
    intro i u e
    cases i with
    | zero => cases e; exact ⟨a, rfl, h1⟩
    | succ i => exact ih e
theorem All2.to {α : Type} {R : V → α → Prop} {vs : List V} {as : List α} (h : All2 R vs as) {i : Nat} {a : α} (e : as[i]? = some a) : ∃ v, vs[i]? = some v ∧ R v a := by
  have l := h.len
  have il := (List.getElem?_eq_some_iff.mp e).1
  obtain ⟨b, e2, hb⟩ := h.at (List.getElem?_eq_getElem (show i < vs.length by omega))
  rw [e] at e2
  cases e2
  exact ⟨_, List.getElem?_eq_getElem (by omega), hb⟩
theorem All2.take {α : Type} {R : V → α → Prop} {vs : List V} {as : List α} (h : All2 R vs as) : ∀ n, All2 R (vs.take n) (as.take n) := by
  induction h with
  | nil => intro n; rw [List.take_nil, List.take_nil]; exact .nil
  | cons a _ ih =>
    intro n
    cases n with
    | zero => exact .nil
    | succ n => exact .cons a (ih n)
theorem All2.drop {α : Type} {R : V → α → Prop} {vs : List V} {as : List α} (h : All2 R vs as) : ∀ n, All2 R (vs.drop n) (as.drop n) := by
  induction h with
  | nil => intro n; rw [List.drop_nil, List.drop_nil]; exact .nil
  | cons a h ih =>
    intro n
    cases n with
    | zero => exact .cons a h
    | succ n => exact ih n
theorem All2.rev {α : Type} {R : V → α → Prop} {vs : List V} {as : List α} (h : All2 R vs as) : All2 R vs.reverse as.reverse := by
  induction h with
  | nil => exact .nil
  | cons a _ ih => rw [List.reverse_cons, List.reverse_cons]; exact ih.snoc a
/-! ### weavings in a row -/
theorem lessI_tri : ∀ {a b : List Int}, a.length = b.length → (decide (a = b) || lessI a b) = !lessI b a
  | [], [], _ => rfl
  | x :: a, y :: b, h => by
    have ih := lessI_tri (a := a) (b := b) (Nat.succ.inj h)
    unfold lessI
    by_cases e : x = y
    · subst e
      rw [if_pos rfl, if_pos rfl, ← ih]
      congr 1
      rw [decide_eq_decide, List.cons.injEq]
      exact ⟨fun h => h.2, fun h => ⟨rfl, h⟩⟩
    · rw [if_neg e, if_neg (Ne.symm e), decide_eq_false (fun h => e (List.cons.inj h).1), Bool.false_or]
      by_cases c : x < y
      · rw [decide_eq_true c, decide_eq_false (by omega)]
        rfl
      · rw [decide_eq_false c, decide_eq_true (by omega)]
        rfl
theorem wv_le (a b : List Int) : (decide (a = b) || wvLess a b) = !wvLess b a := by
  unfold wvLess
  by_cases e : a.length = b.length
  · rw [if_pos e, if_pos e.symm]
    exact lessI_tri e
  · rw [if_neg e, if_neg (Ne.symm e), decide_eq_false (fun h => e (congrArg _ h)), Bool.false_or]
    by_cases c : a.length < b.length
    · rw [decide_eq_true c, decide_eq_false (by omega)]
      rfl
    · rw [decide_eq_false c, decide_eq_true (by omega)]
      rfl
def wvLD (ns : List Int) : PyData := .list ((wvK ns).map kD)
theorem wvLD_dp {K : PySem.W.Frag} {H : Hp} {p : Addr} {ns : List Int} (h : H p = some (.lst (ns.map V.int))) : Dp K H (.ref p) (wvLD ns) :=
  .lst (SqL.of (by rw [← wvK_vals] at h; exact h)) (kVs_dp _)
theorem wvLD_eqv (a b : List Int) : PyData.eqv (wvLD a) (wvLD b) = decide (a = b) := by
  unfold wvLD
  simp only [PyData.eqv]
  rw [kDs_eqv, decide_eq_decide, wvK_inj]
theorem wvLD_shaped (a : List Int) : SeqAt.shaped (wvLD a) = true := by
  have h1 := ksD_depth (wvK a)
  have h2 := wvK_shaped a
  have h3 : ((ksD (wvK a)).canLay0 && decide ((ksD (wvK a)).depth ≤ 64)) = true := h2
  rw [Bool.and_eq_true] at h3
  show ((wvLD a).canLay0 && decide ((wvLD a).depth ≤ 64)) = true
  rw [Bool.and_eq_true]
  refine ⟨?_, decide_eq_true ?_⟩
  · have h4 := h3.1
    unfold wvLD
    unfold ksD at h4
    simp only [PyData.canLay0] at h4 ⊢
    exact h4
  · unfold wvLD
    unfold ksD at h1
    simp only [PyData.depth] at h1 ⊢
    omega
def WvI (K : PySem.W.Frag) (H : Hp) (v : V) (ns : List Int) : Prop := ∃ a, v = .ref a ∧ WvAt K H a ns
def RwI (H : Hp) (v : V) (ns : List Int) : Prop := ∃ p, v = .ref p ∧ H p = some (.lst (ns.map V.int))
theorem WvI.same {K : PySem.W.Frag} {H H' : Hp} {v : V} {ns : List Int} (h : WvI K H v ns) (s : Same H H') : WvI K H' v ns := by
  obtain ⟨a, e, h⟩ := h
  exact ⟨a, e, h.same s⟩
theorem RwI.same {H H' : Hp} {v : V} {ns : List Int} (h : RwI H v ns) (s : Same H H') : RwI H' v ns := by
  obtain ⟨a, e, h⟩ := h
  exact ⟨a, e, s _ _ h⟩
def NsOk (nss : List (List Int)) : Prop := nss.length ≤ 10 ∧ ∀ ns ∈ nss, NmOk ns ∧ ns.length ≤ 100
def sp__law_all_right (K : PySem.W.Frag) : Sp := fun vs H Q _ => ∃ (w r : Addr) (ws rs : List V) (nss : List (List Int)), vs = [.ref w, .ref r] ∧ H w = some (.lst ws) ∧ H r = some (.lst rs) ∧ All2 (WvI K H) ws nss ∧ All2 (RwI H) rs nss ∧ NsOk nss ∧ ∀ H', Same H H' → Q (.bl true) H'
theorem len__law_all_right {vs : List V} {H : Hp} {Q : VK} {E : XK} (h : sp__law_all_right K vs H Q E) : vs.length = 2 := by
  obtain ⟨_, _, _, _, _, rfl, _⟩ := h
  rfl
theorem ok__law_all_right {f : Addr} {fd : FuncData} {f__law_shows : Addr} {fd__law_shows : FuncData} {f__law_less : Addr} {fd__law_less : FuncData} {f__law_same : Addr} {fd__law_same : FuncData} {f_Weaving___eq__ : Addr} {fd_Weaving___eq__ : FuncData} {f_Weaving___lt__ : Addr} {fd_Weaving___lt__ : FuncData} {f_Weaving___le__ : Addr} {fd_Weaving___le__ : FuncData} (F : Fun K "_law_all_right" "_law_all_right" s__law_all_right f fd) (T : Gs K mg t_BOUND t_DIGITS t_LETTERS t_LONGEST_INTEGER t_MOST_TIMES a_MARKS a_SIGNS a_BadNumber a_BadText a_BadTurn a_ElseputError a_Reader a_Weaving) (c__law_shows : Cal P w K mg base CX0 27 "_law_shows" f__law_shows fd__law_shows ["_law_weaving", "_law_turns"] (sp__law_shows K)) (c__law_less : Cal P w K mg base CX0 1 "_law_less" f__law_less fd__law_less ["_law_first", "_law_second"] (sp__law_less K)) (c__law_same : Cal P w K mg base CX0 26 "_law_same" f__law_same fd__law_same ["_law_actual", "_law_due"] (sp__law_same K)) (c_Weaving___eq__ : CalCm P w K mg base CX0 1 a_Weaving .Eq f_Weaving___eq__ fd_Weaving___eq__ ["self", "other"] (sp_Weaving___eq__ K)) (c_Weaving___lt__ : CalCm P w K mg base CX0 1 a_Weaving .Lt f_Weaving___lt__ fd_Weaving___lt__ ["self", "other"] (sp_Weaving___lt__ K)) (c_Weaving___le__ : CalCm P w K mg base CX0 1 a_Weaving .LtE f_Weaving___le__ fd_Weaving___le__ ["self", "other"] (sp_Weaving___le__ K)) : FnOk P w K mg base CX0 28 f fd ["_law_weavings", "_law_rows"] (sp__law_all_right K) := by
  refine F.ok sc__law_all_right (fun vs H Q E h => len__law_all_right h) (fun cdv A outer s H vs Q E hr h => ?_)
  obtain ⟨w, r, ws, rs, nss, rfl, hw, hr0, hws, hrs, ⟨few, ok⟩, q⟩ := h
  refine ⟨_, (pss_cons (ps_for PassesOwn.never rfl (pi_range1 rfl T.z_range (pa_cons (pe_callB (lenK K) (by rfl) T.z_len PySem.boot_len (pa_cons (v_ 1) pa_nil)) pa_nil)) (pg_name (i := 2) sc__law_all_right.nd rfl (.inl rfl)) (pss_cons (ps_if (pt_not (pt_t K (pe_call c__law_shows.G (hr.mono (by first | decide | omega)) rfl c__law_shows.m c__law_shows.kp c__law_shows.b .nil pass0 (pa_cons (e_x K (v_ 0) (v_ 2)) (pa_cons (e_x K (v_ 1) (v_ 2)) pa_nil))))) (pss_one (ps_ret pe_bl)) pss_nil) (pss_one (ps_for PassesOwn.never rfl (pi_range1 rfl T.z_range (pa_cons (pe_callB (lenK K) (by rfl) T.z_len PySem.boot_len (pa_cons (v_ 1) pa_nil)) pa_nil)) (pg_name (i := 3) sc__law_all_right.nd rfl (.inl rfl)) (pss_cons (ps_set (i := 4) sc__law_all_right.nd rfl (.inl rfl) (pe_c (eqK K hr.units) (e_x K (v_ 1) (v_ 2)) (e_x K (v_ 1) (v_ 3)))) (pss_cons (ps_set (i := 5) sc__law_all_right.nd rfl (.inl rfl) (pe_call c__law_less.G (hr.mono (by first | decide | omega)) rfl c__law_less.m c__law_less.kp c__law_less.b .nil pass0 (pa_cons (e_x K (v_ 1) (v_ 2)) (pa_cons (e_x K (v_ 1) (v_ 3)) pa_nil)))) (pss_cons (ps_if (PW.pt (pw_or (pt_not (pt_t K (pe_call c__law_same.G (hr.mono (by first | decide | omega)) rfl c__law_same.m c__law_same.kp c__law_same.b .nil pass0 (pa_cons (pe_c (op_cmpO c_Weaving___eq__.cm c_Weaving___eq__.G (hr.mono (by first | decide | omega)) c_Weaving___eq__.b pass0) (e_x K (v_ 0) (v_ 2)) (e_x K (v_ 0) (v_ 3))) (pa_cons (v_ 4) pa_nil))))) (pw_or1 (pt_not (pt_t K (pe_call c__law_same.G (hr.mono (by first | decide | omega)) rfl c__law_same.m c__law_same.kp c__law_same.b .nil pass0 (pa_cons (pe_c (op_cmpO c_Weaving___lt__.cm c_Weaving___lt__.G (hr.mono (by first | decide | omega)) c_Weaving___lt__.b pass0) (e_x K (v_ 0) (v_ 2)) (e_x K (v_ 0) (v_ 3))) (pa_cons (v_ 5) pa_nil)))))))) (pss_one (ps_ret pe_bl)) pss_nil) (pss_one (ps_if (pt_not (pt_t K (pe_call c__law_same.G (hr.mono (by first | decide | omega)) rfl c__law_same.m c__law_same.kp c__law_same.b .nil pass0 (pa_cons (pe_c (op_cmpO c_Weaving___le__.cm c_Weaving___le__.G (hr.mono (by first | decide | omega)) c_Weaving___le__.b pass0) (e_x K (v_ 0) (v_ 2)) (e_x K (v_ 0) (v_ 3))) (pa_cons (pe_orM (v_ 4) (pe_one (v_ 5))) pa_nil))))) (pss_one (ps_ret pe_bl)) pss_nil))))))))) (pss_one (ps_ret pe_bl))), ?_⟩
  have wl := hws.len
  have rl := hrs.len
  have look : ∀ {H' : Hp} {k : Nat}, Same H H' → k < nss.length → ∃ (a p : Addr) (ns : List Int) , nss[k]? = some ns ∧ atI ws (0 + (k : Int)) = some (.ref a) ∧ atI rs (0 + (k : Int)) = some (.ref p) ∧ WvAt K H' a ns ∧ H' p = some (.lst (ns.map V.int)) ∧ NmOk ns ∧ ns.length ≤ 100 := fun {H' k} s hk => by
    have e := List.getElem?_eq_getElem hk
    obtain ⟨v, ev, a, rfl, ha⟩ := hws.to e
    obtain ⟨u, eu, p, rfl, hp⟩ := hrs.to e
    obtain ⟨o1, o2⟩ := ok _ (List.mem_of_getElem? e)
    exact ⟨a, p, _, e, by rw [Int.zero_add]; exact atI_nat ev, by rw [Int.zero_add]; exact atI_nat eu, ha.same s, s _ _ hp, o1, o2⟩
  refine .inl ⟨_, .inl (SqL.of hr0), _, rfl, by omega, by omega, ?_⟩
  refine for_range (lo := 0) (n := rs.length) (fun k σ' H' => (∃ y3 y4 y5 y6, σ' = [some (.ref w), some (.ref r), y3, y4, y5, y6]) ∧ Same H H') ⟨⟨_, _, _, _, rfl⟩, Same.refl _⟩ ?_ ?_
  · rintro k σ' H1 hk ⟨⟨y3, y4, y5, y6, rfl⟩, s1⟩
    obtain ⟨a, p, ns, ek, ea, ep, ha, hp, o1, o2⟩ := look s1 (show k < nss.length by omega)
    refine ⟨_, .inl (SqL.of (s1 _ _ hw)), _, ea, _, .inl (SqL.of (s1 _ _ hr0)), _, ep, a, p, ns, rfl, ha, hp, o1, by omega, fun H2 s2 => ?_⟩
    have s12 := s1.trans s2
    refine .inl ⟨_, .inl (SqL.of (s12 _ _ hr0)), _, rfl, by omega, by omega, ?_⟩
    refine for_range (lo := 0) (n := rs.length) (fun j σ' H' => (∃ y4 y5 y6, σ' = [some (.ref w), some (.ref r), some (.int (0 + (k : Int))), y4, y5, y6]) ∧ Same H H') ⟨⟨_, _, _, rfl⟩, s12⟩ ?_ ?_
    · rintro j σ' H3 hj ⟨⟨y4, y5, y6, rfl⟩, s3⟩
      obtain ⟨a, p, ns, ek, ea, ep, ha, hp, o1, o2⟩ := look s3 (show k < nss.length by omega)
      obtain ⟨b, u, ms, ej, eb, eu, hb, hu, o3, o4⟩ := look s3 (show j < nss.length by omega)
      refine ⟨_, .inl (SqL.of (s3 _ _ hr0)), _, ep, _, .inl (SqL.of (s3 _ _ hr0)), _, eu, ?_⟩
      refine ⟨_, _, wvLD_dp hp, wvLD_dp hu, wvLD_shaped _, wvLD_shaped _, ?_⟩
      rw [wvLD_eqv]
      refine ⟨_, .inl (SqL.of (s3 _ _ hr0)), _, ep, _, .inl (SqL.of (s3 _ _ hr0)), _, eu, p, u, ns, ms, rfl, hp, hu, by omega, by omega, ?_⟩
      refine g_is [some (.ref w), some (.ref r), some (.int (0 + (k : Int))), some (.int (0 + (j : Int))), some (.bl (decide (ns = ms))), some (.bl (wvLess ns ms))] rfl ?_
      obtain ⟨dxa, fsa, ia⟩ := wv_ins ha T.n_Weaving
      obtain ⟨dxb, fsb, ib⟩ := wv_ins hb T.n_Weaving
      refine ⟨_, .inl (SqL.of (s3 _ _ hw)), _, ea, _, .inl (SqL.of (s3 _ _ hw)), _, eb, a, b, _, _, _, _, rfl, rfl, ia, ib, a, b, ns, ms, rfl, ha, hb, fun H4 s4 => ?_⟩
      have s34 := s3.trans s4
      refine ⟨_, _, rfl, same_bl _, ?_⟩
      refine ite2 (fun e => nomatch e) (fun _ => ?_)
      refine ⟨_, .inl (SqL.of (s34 _ _ hw)), _, ea, _, .inl (SqL.of (s34 _ _ hw)), _, eb, a, b, _, _, _, _, rfl, rfl, s4 _ _ ia, s4 _ _ ib, a, b, ns, ms, rfl, ha.same s4, hb.same s4, fun H5 s5 => ?_⟩
      have s35 := s34.trans s5
      have s45 := s4.trans s5
      refine ⟨_, _, rfl, same_bl _, ?_⟩
      refine ite2 (fun e => nomatch e) (fun _ => ?_)
      refine ⟨_, .inl (SqL.of (s35 _ _ hw)), _, ea, _, .inl (SqL.of (s35 _ _ hw)), _, eb, a, b, _, _, _, _, rfl, rfl, s45 _ _ ia, s45 _ _ ib, a, b, ns, ms, rfl, ha.same s45, hb.same s45, fun H6 s6 => ?_⟩
      have s36 := s35.trans s6
      have le := wv_le ns ms
      cases hd : decide (ns = ms) with
      | true =>
        rw [hd] at le
        refine ⟨_, _, rfl, (show SameV K H6 24 (.bl (!wvLess ms ns)) (.bl true) by rw [← le]; exact same_bl _), ?_⟩
        exact ⟨⟨_, _, _, rfl⟩, s36⟩
      | false =>
        rw [hd, Bool.false_or] at le
        refine ⟨_, _, rfl, (show SameV K H6 24 (.bl (!wvLess ms ns)) (.bl (wvLess ns ms)) by rw [← le]; exact same_bl _), ?_⟩
        exact ⟨⟨_, _, _, rfl⟩, s36⟩
    · rintro σ' H3 ⟨⟨y4, y5, y6, rfl⟩, s3⟩
      exact ⟨⟨_, _, _, _, rfl⟩, s3⟩
  · rintro σ' H1 ⟨⟨y3, y4, y5, y6, rfl⟩, s1⟩
    exact q H1 s1
end
section
variable {P : Program} {w : World} {K : PySem.W.Frag} {mg : Str → Option Value} {base : Heap}
variable {t_BOUND t_DIGITS t_LETTERS t_LONGEST_INTEGER t_MOST_TIMES : Tok} {a_MARKS a_SIGNS a_BadNumber a_BadText a_BadTurn a_ElseputError a_Reader a_Weaving : Addr}
/-! ### many times, looked at -/
theorem WvAt.bt {K : PySem.W.Frag} {H H' : Hp} {st scr a : Addr} {ns : List Int} (d : DrAt H st scr) (b : Bt st H H') (h : WvAt K H a ns) : WvAt K H' a ns := by
  obtain ⟨C, dx, t, h1, h2, h3⟩ := h
  obtain ⟨l, hl⟩ := d.lst
  exact ⟨C, dx, t, h1, b _ _ (fun z => by rw [z, hl] at h2; cases h2) h2, SqT.bt h3 (fun xs => ⟨fun e => (by rw [hl] at e; cases e), fun o e => (by rw [hl] at e; cases e)⟩) b⟩
def timesL : List Int := [0, 2, 3, 1, 4, -1, 1001, 1000, 999, -100000000000000000000, 100000000000000000000]
theorem times_ok : ∀ i ∈ timesL, i.natAbs < 2 ^ 200 ∧ i.natAbs < 2 ^ 100 := by decide +kernel
def sp__law_times_right (K : PySem.W.Frag) : Sp := fun vs H Q _ => ∃ (st scr a p : Addr) (ns : List Int), vs = [.ref st, .ref a, .ref p] ∧ DrAt H st scr ∧ WvAt K H a ns ∧ H p = some (.lst (ns.map V.int)) ∧ p ≠ st ∧ NmOk ns ∧ ns.length ≤ 20 ∧ ∀ (H' : Hp), Bt st H H' → DrAt H' st scr → Q (.bl true) H'
theorem len__law_times_right {vs : List V} {H : Hp} {Q : VK} {E : XK} (h : sp__law_times_right K vs H Q E) : vs.length = 3 := by
  obtain ⟨_, _, _, _, _, rfl, _⟩ := h
  rfl
theorem ok__law_times_right {f : Addr} {fd : FuncData} {f__law_pick : Addr} {fd__law_pick : FuncData} {f__law_try : Addr} {fd__law_try : FuncData} {f__law_same : Addr} {fd__law_same : FuncData} {f__law_shows : Addr} {fd__law_shows : FuncData} {f_Weaving___init__ : Addr} {fd_Weaving___init__ : FuncData} (F : Fun K "_law_times_right" "_law_times_right" s__law_times_right f fd) (T : Gs K mg t_BOUND t_DIGITS t_LETTERS t_LONGEST_INTEGER t_MOST_TIMES a_MARKS a_SIGNS a_BadNumber a_BadText a_BadTurn a_ElseputError a_Reader a_Weaving) (c__law_pick : Cal P w K mg base CX0 2 "_law_pick" f__law_pick fd__law_pick ["_law_state_here", "_law_row"] (sp__law_pick K)) (c__law_try : Cal P w K mg base CX0 7 "_law_try" f__law_try fd__law_try ["_law_deed", "_law_weaving", "_law_thing"] (sp__law_try K)) (c__law_same : Cal P w K mg base CX0 26 "_law_same" f__law_same fd__law_same ["_law_actual", "_law_due"] (sp__law_same K)) (c__law_shows : Cal P w K mg base CX0 27 "_law_shows" f__law_shows fd__law_shows ["_law_weaving", "_law_turns"] (sp__law_shows K)) (c_Weaving___init__ : CalI P w K mg base (L2.CX P w) 3 "Weaving" a_Weaving f_Weaving___init__ fd_Weaving___init__ ["self", "turns"] (sp_Weaving___init__ K)) : FnOk P w K mg base CX0 28 f fd ["_law_state_here", "_law_weaving", "_law_turns"] (sp__law_times_right K) := by
  refine F.ok sc__law_times_right (fun vs H Q E h => len__law_times_right h) (fun cdv A outer s H vs Q E hr h => ?_)
  obtain ⟨st, scr, a, p, ns, rfl, hd, hA, hp, pst, ok, l20, q⟩ := h
  refine ⟨_, (pss_cons (ps_set (i := 3) sc__law_times_right.nd rfl (.inl rfl) (pe_call c__law_pick.G (hr.mono (by first | decide | omega)) rfl c__law_pick.m c__law_pick.kp c__law_pick.b .nil pass0 (pa_cons (v_ 0) (pa_cons (pe_lst (pa_cons pe_int (pa_cons pe_int (pa_cons pe_int (pa_cons pe_int (pa_cons pe_int (pa_cons (pe_un un_negM pe_int) (pa_cons pe_int (pa_cons pe_int (pa_cons pe_int (pa_cons (pe_un un_negM (pe_op op_powM pe_int pe_int)) (pa_cons (pe_op op_powM pe_int pe_int) pa_nil)))))))))))) pa_nil)))) (Evl.pss_cut (ps_if (pt_c op_gtM (v_ 3) pe_int) (pss_cons (ps_set (i := 2) sc__law_times_right.nd rfl (.inl rfl) (pe_slice (slK K) (v_ 2) po_none (po_some pe_int))) (pss_one (ps_set (i := 1) sc__law_times_right.nd rfl (.inl rfl) (pe_make c_Weaving___init__.mkc c_Weaving___init__.G (hr.mono (by first | decide | omega)) rfl c_Weaving___init__.m c_Weaving___init__.b .nil passL (pa_cons (pe_callTy (listK K) (by rfl) T.z_list (by decide +kernel) (pa_cons (v_ 2) pa_nil)) pa_nil))))) pss_nil) (pss_cons (ps_for PassesOwn.never rfl (pi_list (pe_lst (pa_cons pe_str (pa_cons pe_str pa_nil)))) (pg_name (i := 4) sc__law_times_right.nd rfl (.inl rfl)) (pss_cons (ps_set (i := 5) sc__law_times_right.nd rfl (.inl rfl) (pe_call c__law_try.G (hr.mono (by first | decide | omega)) rfl c__law_try.m c__law_try.kp c__law_try.b .nil pass0 (pa_cons (v_ 4) (pa_cons (v_ 1) (pa_cons (v_ 3) pa_nil))))) (pss_one (ps_if (PW.pt (pw_or (pt_c op_ltM (v_ 3) pe_int) (pw_or1 (pt_c op_gtM (v_ 3) pe_int)))) (pss_one (ps_if (pt_not (pt_t K (pe_call c__law_same.G (hr.mono (by first | decide | omega)) rfl c__law_same.m c__law_same.kp c__law_same.b .nil pass0 (pa_cons (v_ 5) (pa_cons (pe_tup (pa_cons pe_str (pa_cons pe_bl (pa_cons pe_bl (pa_cons pe_bl (pa_cons (v_ 3) pa_nil)))))) pa_nil))))) (pss_one (ps_ret pe_bl)) pss_nil)) (pss_one (ps_if (pt_not (pt_t K (pe_call c__law_shows.G (hr.mono (by first | decide | omega)) rfl c__law_shows.m c__law_shows.kp c__law_shows.b .nil pass0 (pa_cons (v_ 5) (pa_cons (pe_op op_rep (v_ 2) (v_ 3)) pa_nil))))) (pss_one (ps_ret pe_bl)) pss_nil)))))) (pss_one (ps_ret pe_bl))))), ?_⟩
  refine ⟨(by unfold CPow; decide), (by unfold CPow; decide), (by show 11 ≤ sizeLine; decide), fun m nm => ?_⟩
  have p20 : (10 : Int) ^ (20 : Int).toNat = 100000000000000000000 := by decide +kernel
  rw [p20]
  have mst : m ≠ st := hd.ne_new nm
  have s1 := same_new (o := .lst [.int 0, .int 2, .int 3, .int 1, .int 4, .int (-1), .int 1001, .int 1000, .int 999, .int (-100000000000000000000), .int 100000000000000000000]) nm
  have hm := upd_same (H := H) (a := m) (o := .lst [.int 0, .int 2, .int 3, .int 1, .int 4, .int (-1), .int 1001, .int 1000, .int 999, .int (-100000000000000000000), .int 100000000000000000000])
  have hd1 := hd.new s1
  have b1 := Bt.same (st := st) s1
  have hm : upd H m (.lst [.int 0, .int 2, .int 3, .int 1, .int 4, .int (-1), .int 1001, .int 1000, .int 999, .int (-100000000000000000000), .int 100000000000000000000]) m = some (.lst (timesL.map V.int)) := hm
  generalize upd H m (.lst [.int 0, .int 2, .int 3, .int 1, .int 4, .int (-1), .int 1001, .int 1000, .int 999, .int (-100000000000000000000), .int 100000000000000000000]) = H1 at s1 hm hd1 b1 ⊢
  refine ⟨st, scr, _, rfl, hd1, .inr ⟨m, _, rfl, hm, mst, by decide, by decide, fun dv l hdv hd2 => ?_⟩⟩
  obtain ⟨i, ei, rfl⟩ := List.mem_map.mp hdv
  obtain ⟨i1, i2⟩ := times_ok i ei
  have b2 := b1.trans (Bt.st (st := st) (o := .lst l))
  generalize upd H1 st (.lst l) = H2 at hd2 b2 ⊢
  have hA2 := hA.bt hd b2
  have hp2 := b2 _ _ pst hp
  refine g_is [some (.ref st), some (.ref a), some (.ref p), some (.int i), none, none] rfl ?_
  clear hdv hm mst b1 hd1 nm ei hA hp
  refine ⟨fun σ' H' => ∃ (a p : Addr) (ns : List Int), σ' = [some (.ref st), some (.ref a), some (.ref p), some (.int i), none, none] ∧ Same H2 H' ∧ WvAt K H' a ns ∧ H' p = some (.lst (ns.map V.int)) ∧ NmOk ns ∧ ns.length ≤ 20 ∧ (i ≤ 1000 → i.toNat * ns.length ≤ 1000), ?_, ?_⟩
  · refine ite2 (fun c => ?_) (fun c => ?_)
    · refine ⟨1, rfl, .inl ⟨_, SqL.of hp2, fun r nr => ?_⟩⟩
      rw [cutV_take _ (by decide), ← List.map_take, show ((1 : Int)).toNat = 1 from rfl]
      have s3 := same_new (o := .lst ((ns.take 1).map V.int)) nr
      have hr1 := upd_same (H := H2) (a := r) (o := .lst ((ns.take 1).map V.int))
      generalize upd H2 r (.lst ((ns.take 1).map V.int)) = H3 at s3 hr1 ⊢
      refine g_is [some (.ref st), some (.ref a), some (.ref r), some (.int i), none, none] rfl ?_
      refine ⟨r, _, rfl, .inl (SqL.of hr1), fun u nu => ?_⟩
      have s4 := same_new (o := .lst ((ns.take 1).map V.int)) nu
      have hu := upd_same (H := H3) (a := u) (o := .lst ((ns.take 1).map V.int))
      generalize upd H3 u (.lst ((ns.take 1).map V.int)) = H4 at s4 hu ⊢
      have ok1 : NmOk (ns.take 1) := ok.sub fun z hz => List.mem_of_mem_take hz
      have l1 : (ns.take 1).length ≤ 1 := by rw [List.length_take]; omega
      refine fun x dz nx nd ne => made_weaving nx nd ne T.n_Weaving (.inl (SqL.of hu)) (by omega) (ok1.wv (by omega)).small ?_
      rw [neg_none (ok1.wv (by omega)).pos]
      intro H5 s5 hw
      refine ⟨rfl, ?_⟩
      refine g_is [some (.ref st), some (.ref x), some (.ref r), some (.int i), none, none] rfl ?_
      refine ⟨x, r, ns.take 1, rfl, (s3.trans s4).trans s5, hw, s5 _ _ (s4 _ _ hr1), ok1, by omega, fun h => ?_⟩
      have h1 : i.toNat * (ns.take 1).length ≤ i.toNat * 1 := Nat.mul_le_mul_left _ l1
      omega
    · have c : ¬ 4 < i := of_decide_eq_false (Bool.eq_false_iff.mpr c)
      refine ⟨a, p, ns, rfl, Same.refl _, hA2, hp2, ok, l20, fun _ => ?_⟩
      have h1 : i.toNat * ns.length ≤ 4 * 20 := Nat.mul_le_mul (by omega) l20
      omega
  rintro σ' H3 ⟨a, p, ns, rfl, s3, hA, hp, ok, l20, lm⟩
  have b3 := b2.trans (Bt.same (st := st) s3)
  have hd3 := hd2.new s3
  clear hA2 hp2 s3 hd2 b2
  refine ⟨(by show 2 ≤ sizeLine; decide), fun L nL => ?_⟩
  have s4 := same_new (o := .lst [.str "behind", .str "ahead"]) nL
  have hL := upd_same (H := H3) (a := L) (o := .lst [.str "behind", .str "ahead"])
  have hA := hA.same s4
  have hp := s4 _ _ hp
  have b4 := b3.trans (Bt.same (st := st) s4)
  have hd4 := hd3.new s4
  generalize upd H3 L (.lst [.str "behind", .str "ahead"]) = H4 at hL hA hp b4 hd4 ⊢
  refine ⟨L, rfl, ⟨_, SqL.of hL⟩, ?_⟩
  refine for_list (K := K) (a := L) (xs := [.str "behind", .str "ahead"]) (fun j σ' H' => (∃ y4 y5, σ' = [some (.ref st), some (.ref a), some (.ref p), some (.int i), y4, y5]) ∧ Same H4 H') ⟨⟨_, _, rfl⟩, Same.refl _⟩ (fun j σ' H' _ h => SqL.of (h.2 _ _ hL)) ?_ ?_
  · rintro j v σ' H5 hj ⟨⟨y4, y5, rfl⟩, s5⟩
    have hv : v = .str "behind" ∨ v = .str "ahead" := by
      have := List.mem_of_getElem? hj
      simp only [List.mem_cons, List.not_mem_nil, or_false] at this
      exact this
    have hA5 := hA.same s5
    by_cases hb : 0 ≤ i ∧ i ≤ 1000
    · have okw := ok.wv (show ns.length ≤ 50000 by omega)
      have lr : (repI ns i).length ≤ 1000 := by unfold repI; rw [rep_len]; exact lm hb.2
      refine ⟨v, .ref a, .int i, .wv (repI ns i), rfl, .inr (.inl ⟨a, i, ns, hv, rfl, rfl, hA5, okw, by omega, fun h => by have := lm h; omega, i1, by unfold TimesO; rw [if_pos hb]⟩), fun H6 x s6 nx hw => ?_⟩
      have s56 := s5.trans s6
      refine g_is [some (.ref st), some (.ref a), some (.ref p), some (.int i), some v, some (.ref x)] rfl ?_
      refine ite2 (fun c => ?_) (fun c => ?_)
      · have c := of_decide_eq_true c
        omega
      refine ite2 (fun c => ?_) (fun c => ?_)
      · have c := of_decide_eq_true c
        omega
      refine ⟨p, i, _, rfl, rfl, s56 _ _ hp, by omega, by omega, by rw [List.length_map, Nat.mul_comm]; exact Nat.le_trans (lm hb.2) (by decide), fun r nr => ?_⟩
      have e2 : (List.replicate i.toNat (ns.map V.int)).flatten = (repI ns i).map V.int := rep_map ns _
      rw [e2]
      have s7 := same_new (o := .lst ((repI ns i).map V.int)) nr
      refine ⟨x, r, repI ns i, rfl, hw.same s7, upd_same, ok.sub fun z hz => mem_repI hz, by omega, fun H8 s8 => ?_⟩
      exact ⟨⟨_, _, rfl⟩, (s56.trans s7).trans s8⟩
    · refine ⟨v, .ref a, .int i, .num i, rfl, .inr (.inl ⟨a, i, ns, hv, rfl, rfl, hA5, ok.wv (by omega), by omega, fun h => by have := lm h; omega, i1, by unfold TimesO; rw [if_neg hb]⟩), fun H6 t s6 nt ht => ?_⟩
      have s56 := s5.trans s6
      refine g_is [some (.ref st), some (.ref a), some (.ref p), some (.int i), some v, some (.ref t)] rfl ?_
      refine ite2 (fun c => ?a) (fun c => ?b)
      case' a => refine ite2 (fun _ => ?_) (fun e => absurd rfl e)
      case' b => refine ite2 (fun c2 => ?_) (fun c2 => absurd ⟨by have := of_decide_eq_false (Bool.eq_false_iff.mpr c); omega, by have := of_decide_eq_false (Bool.eq_false_iff.mpr c2); omega⟩ hb)
      all_goals
        refine ⟨(by show 5 ≤ sizeLine; decide), fun u nu => ?_⟩
        have s7 := same_new (o := .tup [.str "refused", .bl false, .bl true, .bl false, .int i]) nu
        refine ⟨_, _, rfl, same_tupN (n := 23) (SqT.of (s7 _ _ ht)) (SqT.of upd_same) rfl (by show 5 ≤ 1000; decide) (fun m x y hx hy => ?_), ?_⟩
        · rw [hx] at hy
          cases hy
          match m, hx with
          | 0, hx => cases hx; exact same_str _
          | 1, hx => cases hx; exact same_bl _
          | 2, hx => cases hx; exact same_bl _
          | 3, hx => cases hx; exact same_bl _
          | 4, hx => cases hx; exact same_int _
        refine ite2 (fun e => nomatch e) (fun _ => ?_)
        exact ⟨⟨_, _, rfl⟩, s56.trans s7⟩
  · rintro σ' H5 ⟨⟨y4, y5, rfl⟩, s5⟩
    exact q H5 (b4.trans (Bt.same s5)) (hd4.new s5)
end
section
variable {P : Program} {w : World} {K : PySem.W.Frag} {mg : Str → Option Value} {base : Heap}
variable {t_BOUND t_DIGITS t_LETTERS t_LONGEST_INTEGER t_MOST_TIMES : Tok} {a_MARKS a_SIGNS a_BadNumber a_BadText a_BadTurn a_ElseputError a_Reader a_Weaving : Addr}
/-! ### a laid line is split into its pieces -/
def Laid (zs : List Str) (cs : List Nat) (z : Str) : Prop := ∃ (lead tail : Nat) (gs : List (Nat × List Nat)), cs = cols (1 + lead) gs ∧ gs.map (·.2) = zs.map (·.cps.toList) ∧ Apart gs ∧ z.cps.toList = List.replicate lead 32 ++ lay gs (List.replicate tail 32) ∧ z.length ≤ 10000
theorem Laid.len {zs : List Str} {cs : List Nat} {z : Str} (h : Laid zs cs z) : cs.length = zs.length := by
  obtain ⟨l, t, gs, rfl, h1, _⟩ := h
  have := congrArg List.length h1
  rw [List.length_map, List.length_map] at this
  rw [cols_len, this]
theorem cols_le : ∀ {gs : List (Nat × List Nat)} {c x : Nat}, x ∈ cols c gs → x ≤ c + (lay gs []).length
  | [], _, _, h => nomatch h
  | (g, p) :: r, c, x, h => by
    rw [lay, List.length_append, List.length_append, List.length_replicate]
    rcases List.mem_cons.mp h with e | h
    · omega
    · have := cols_le h
      omega
theorem Laid.le {zs : List Str} {cs : List Nat} {z : Str} (h : Laid zs cs z) : ∀ c ∈ cs, c ≤ 10001 := by
  obtain ⟨l, t, gs, rfl, _, _, h4, h5⟩ := h
  intro c hc
  have := cols_le hc
  have hl := congrArg List.length h4
  rw [lay_tail, List.length_append, List.length_append, List.length_replicate, List.length_replicate, len_cps] at hl
  omega
theorem Laid.split {zs : List Str} {cs : List Nat} {z : Str} (h : Laid zs cs z) (ht : ∀ s ∈ zs, Tok s.cps.toList) : splitL z.cps.toList 1 = .ok ((zs.map (·.cps.toList)).zip cs) := by
  obtain ⟨l, t, gs, rfl, h2, h3, h4, _⟩ := h
  rw [h4, splitL_spaces, split_lay h3, h2]
  intro x hx
  have : x.2 ∈ zs.map (·.cps.toList) := by
    rw [← h2]
    exact List.mem_map.mpr ⟨x, hx, rfl⟩
  obtain ⟨s, hs, e⟩ := List.mem_map.mp this
  rw [← e]
  exact ht s hs
theorem Laid.bad {us vs : List Str} {c : Nat} {cs : List Nat} {z : Str} (h : Laid (us ++ (⟨#[c]⟩ : Str) :: vs) cs z) (ht : ∀ s ∈ us, Tok s.cps.toList) (hc : Strange c) : ∃ e, splitL z.cps.toList 1 = .error e ∧ cs[us.length]? = some e := by
  obtain ⟨l, t, gs, rfl, h2, h3, h4, _⟩ := h
  rw [List.map_append, List.map_cons] at h2
  obtain ⟨xs, r, rfl, e1, e2⟩ := List.map_eq_append_iff.mp h2
  obtain ⟨⟨g, p⟩, ys, rfl, e3, e4⟩ := List.map_eq_cons_iff.mp e2
  have e3 : p = [c] := e3
  subst e3
  have hl : xs.length = us.length := by
    have := congrArg List.length e1
    rwa [List.length_map, List.length_map] at this
  obtain ⟨e, q1, q2⟩ := split_bad (t := t) (c := 1 + l) h3 (fun x hx => by
    have : x.2 ∈ us.map (·.cps.toList) := by
      rw [← e1]
      exact List.mem_map.mpr ⟨x, hx, rfl⟩
    obtain ⟨s, hs, e⟩ := List.mem_map.mp this
    rw [← e]
    exact ht s hs) hc
  refine ⟨e, ?_, by rw [← hl]; exact q2⟩
  rw [h4, splitL_spaces]
  exact q1
def tk (zs : List Str) (j : Nat) : List Nat := (zs[j]?.map (·.cps.toList)).getD []
theorem tokAt_zip {zs : List Str} {cs : List Nat} (h : cs.length = zs.length) (j : Nat) : tokAt ((zs.map (·.cps.toList)).zip cs) j = tk zs j := by
  unfold tokAt tk
  rw [← List.getElem?_map, List.map_fst_zip (by rw [List.length_map, h]; exact Nat.le_refl _), List.getElem?_map]
theorem zip_len {zs : List Str} {cs : List Nat} (h : cs.length = zs.length) : ((zs.map (·.cps.toList)).zip cs).length = zs.length := by
  rw [List.length_zip, List.length_map, h, Nat.min_self]
def colV (n : Nat) : V := .int (n : Int)
def colN (cs : List Nat) (k : Nat) (e : Int) : Int := (cs[k]?.map (fun n : Nat => (n : Int))).getD e
theorem colAt_zip {zs : List Str} {cs : List Nat} (h : cs.length = zs.length) (j : Nat) (e : Int) : colAt ((zs.map (·.cps.toList)).zip cs) e j = colN cs j e := by
  unfold colAt colN
  have : ((zs.map (·.cps.toList)).zip cs).map (·.2) = cs := List.map_snd_zip (by rw [List.length_map, h]; exact Nat.le_refl _)
  conv => rhs; rw [← this, List.getElem?_map, Option.map_map]
  rfl
/-! ### pieces of a line -/
abbrev strW : List Str := ["!", "A", "=", "-", ".", "\n", "&", "_", "+"]
abbrev poolW : List Str := ["-3", "-0", "007", "00", "a", "take", "<", "<=", ",", "(", "1000000000000000000000000000001"]
theorem str_one {z : Str} (h : z ∈ strW) : ∃ c, z = ⟨#[c]⟩ ∧ Strange c := by
  have all : ∀ z ∈ strW, (match z.cps.toList with | [c] => !isL c && !isD c && decide (c ≠ 32) && !inSM [c] | _ => false) = true := by decide +kernel
  have k := all z h
  cases e : z.cps.toList with
  | nil => rw [e] at k; cases k
  | cons c r =>
    rw [e] at k
    cases r with
    | cons d r => cases k
    | nil =>
      simp only [Bool.and_eq_true, Bool.not_eq_true', decide_eq_true_iff] at k
      exact ⟨c, str_eq.mpr (by rw [e]), k.1.1.1, k.1.1.2, k.1.2, k.2⟩
def tokB (p : List Nat) : Bool := match p with
  | [] => false
  | c :: r => (c :: r).all isL || (c :: r).all isD || (decide (c = 45) && !r.isEmpty && r.all isD) || inSM (c :: r)
theorem tokB_tok {p : List Nat} (h : tokB p = true) : Tok p := by
  cases p with
  | nil => cases h
  | cons c r =>
    have h : ((c :: r).all isL || (c :: r).all isD || (decide (c = 45) && !r.isEmpty && r.all isD) || inSM (c :: r)) = true := h
    rw [Bool.or_eq_true, Bool.or_eq_true, Bool.or_eq_true, Bool.and_eq_true, Bool.and_eq_true] at h
    rcases h with ((h | h) | ⟨⟨h1, h2⟩, h3⟩) | h
    · exact .word (by intro z; cases z) (List.all_eq_true.mp h)
    · exact .int (by intro z; cases z) (List.all_eq_true.mp h)
    · have h1 := of_decide_eq_true h1
      subst h1
      refine .neg (fun z => ?_) (List.all_eq_true.mp h3)
      rw [z] at h2
      cases h2
    · exact .sm h
theorem pool_tok : ∀ z ∈ poolW, tokB z.cps.toList = true := by decide +kernel
def chk (z : Str) : Bool := match PySem.intText? z with
  | none => true
  | some n => decide (n < 0) || !decide (numS n = z) || !decide (n ≤ 1000000000000000000000000000000)
theorem bad_chk : ∀ z ∈ poolW ++ strW, chk z = true := by decide +kernel
theorem bad_len : ∀ z ∈ poolW ++ strW, 0 < z.length ∧ z.length ≤ 32 := by decide +kernel
theorem nat_none {z : Str} (h : chk z = true) : natO z.cps.toList = none := by
  unfold natO
  cases e : rdI z.cps.toList with
  | none => rfl
  | some n =>
    obtain ⟨e1, e2⟩ := rdI_spec e
    rw [mkS_self] at e1
    have e3 := num_reads' (i := n) (Nat.le_trans (num_short e2) (by decide))
    rw [← e1] at e3
    unfold chk at h
    rw [e3] at h
    have h : (decide (n < 0) || !decide (numS n = z) || !decide (n ≤ 1000000000000000000000000000000)) = true := h
    rw [decide_eq_true (show numS n = z from e1.symm)] at h
    have := inB_bd e2
    by_cases c : n < 0
    · exact if_pos c
    · rw [decide_eq_false c, decide_eq_true (show n ≤ 1000000000000000000000000000000 by omega)] at h
      cases h
theorem nat_some {n : Int} (h : ¬ n < 0) (b : inB n = true) : natO (numS n).cps.toList = some n := by
  unfold natO
  rw [rdI_num b]
  exact if_neg h
theorem bad_not {ns : List Int} (ok : NmOk ns) {z : Str} (h : z ∈ poolW ++ strW) : z ∉ ns.map numS := fun hm => by
  obtain ⟨n, hn, rfl⟩ := List.mem_map.mp hm
  obtain ⟨o1, o2⟩ := ok n hn
  have := nat_none (bad_chk _ h)
  rw [nat_some o1 o2] at this
  cases this
def PartOk (ns : List Int) (z : Str) : Prop := z ∈ ns.map numS ∨ z ∈ poolW ++ strW
theorem part_len {ns : List Int} (ok : NmOk ns) {z : Str} (h : PartOk ns z) : 0 < z.length ∧ z.length ≤ 32 := by
  rcases h with h | h
  · obtain ⟨n, hn, rfl⟩ := List.mem_map.mp h
    refine ⟨?_, num_short (ok n hn).2⟩
    rw [← len_cps]
    exact List.length_pos_iff.mpr (tok_ne (num_tok n))
  · exact bad_len z h
theorem part_tok {ns : List Int} {z : Str} (h : PartOk ns z) (no : z ∉ strW) : Tok z.cps.toList := by
  rcases h with h | h
  · obtain ⟨n, hn, rfl⟩ := List.mem_map.mp h
    exact num_tok n
  · rcases List.mem_append.mp h with h | h
    · exact tokB_tok (pool_tok z h)
    · exact absurd h no
theorem line_strange {ns : List Int} {zs : List Str} {cs : List Nat} {line w : Str} {k : Nat} (L : Laid zs cs line) (hz : ∀ z ∈ zs, PartOk ns z) (e : zs[k]? = some w) (hw : w ∈ strW) (no : ∀ (m : Nat) (z : Str), m < k → zs[m]? = some z → z ∉ strW) : ∃ c, cs[k]? = some c ∧ ReadO line (.text (c : Int)) := by
  obtain ⟨hk, ew⟩ := List.getElem?_eq_some_iff.mp e
  have e1 : zs = zs.take k ++ w :: zs.drop (k + 1) := by
    rw [← ew, ← List.drop_eq_getElem_cons hk, List.take_append_drop]
  obtain ⟨c, rfl, sc⟩ := str_one hw
  rw [e1] at L
  obtain ⟨x, h1, h2⟩ := L.bad (fun s hs => by
    obtain ⟨m, hm, em⟩ := List.getElem_of_mem hs
    rw [List.length_take] at hm
    rw [List.getElem_take] at em
    have e2 : zs[m]? = some s := by rw [List.getElem?_eq_getElem (by omega), em]
    exact part_tok (hz s (List.mem_of_getElem? e2)) (no m s (by omega) e2)) sc
  rw [List.length_take, Nat.min_eq_left (by omega)] at h2
  refine ⟨x, h2, ?_⟩
  unfold ReadO
  rw [h1]
theorem line_bad {ns : List Int} {zs : List Str} {cs : List Nat} {line w : Str} {k : Nat} (ok : NmOk ns) (L : Laid zs cs line) (hz : ∀ z ∈ zs, PartOk ns z) (no : ∀ z ∈ zs, z ∉ strW) (e : zs[k]? = some w) (hw : w ∉ ns.map numS) (gd : ∀ (m : Nat) (z : Str), m < k → zs[m]? = some z → z ∈ ns.map numS) : ∃ c, cs[k]? = some c ∧ ReadO line (.text (c : Int)) := by
  obtain ⟨hk, ew⟩ := List.getElem?_eq_some_iff.mp e
  have sp := L.split fun s hs => part_tok (hz s hs) (no s hs)
  have cl := L.len
  have ec := List.getElem?_eq_getElem (show k < cs.length by omega)
  refine ⟨cs[k], ec, ?_⟩
  have at_ : ∀ (m : Nat) (z : Str), zs[m]? = some z → tokAt ((zs.map (·.cps.toList)).zip cs) m = z.cps.toList := fun m z h => by
    rw [tokAt_zip cl]
    unfold tk
    rw [h]
    rfl
  unfold ReadO
  rw [sp]
  refine .inl ⟨k, by rw [zip_len cl]; exact hk, fun m hm => ?_, ?_, ?_⟩
  · have em := List.getElem?_eq_getElem (show m < zs.length by omega)
    rw [at_ m _ em]
    obtain ⟨n, hn, en⟩ := List.mem_map.mp (gd m _ hm em)
    rw [← en, nat_some (ok n hn).1 (ok n hn).2]
    rfl
  · rw [at_ k w e]
    exact nat_none (bad_chk w ((hz w (List.mem_of_getElem? e)).resolve_left hw))
  · rw [colAt_zip cl]
    unfold colN
    rw [ec]
    rfl
theorem line_good {ns : List Int} {cs : List Nat} {line : Str} (ok : NmOk ns) (L : Laid (ns.map numS) cs line) : ReadO line (.wv ns) := by
  have sp := L.split fun s hs => by
    obtain ⟨n, _, rfl⟩ := List.mem_map.mp hs
    exact num_tok n
  have cl := L.len
  unfold ReadO
  rw [sp]
  have at_ : ∀ (m : Nat) (n : Int), ns[m]? = some n → tokAt (((ns.map numS).map (·.cps.toList)).zip cs) m = (numS n).cps.toList := fun m n h => by
    rw [tokAt_zip cl]
    unfold tk
    rw [List.getElem?_map, h]
    rfl
  refine .inr ⟨fun m hm => ?_, ?_⟩
  · rw [zip_len cl, List.length_map] at hm
    have em := List.getElem?_eq_getElem hm
    obtain ⟨o1, o2⟩ := ok _ (List.mem_of_getElem? em)
    rw [at_ m _ em, nat_some o1 o2]
    rfl
  · congr 1
    refine (List.ext_getElem? fun m => ?_).symm
    unfold numsOf
    have zl := zip_len cl
    rw [List.length_map] at zl
    by_cases hm : m < ns.length
    · have em := List.getElem?_eq_getElem hm
      have ez := List.getElem?_eq_getElem (show m < (((ns.map numS).map (·.cps.toList)).zip cs).length by omega)
      have e1 := at_ m _ em
      rw [tokAt_of ez] at e1
      rw [List.getElem?_map, ez, em]
      show some ((natO _).getD 0) = _
      obtain ⟨o1, o2⟩ := ok _ (List.mem_of_getElem? em)
      rw [e1, nat_some o1 o2]
      rfl
    · rw [List.getElem?_eq_none (by rw [List.length_map]; omega), List.getElem?_eq_none (by omega)]
theorem line_ok {ns : List Int} {zs : List Str} {cs : List Nat} {line : Str} (ok : NmOk ns) (L : Laid zs cs line) (hz : ∀ z ∈ zs, PartOk ns z) (few : zs.length ≤ 1000) : LineOk line := by
  obtain ⟨_, _, _, _, _, _, _, ll⟩ := id L
  refine ⟨ll, fun toks ht => ?_⟩
  have cl := L.len
  have no : ∀ z ∈ zs, z ∉ strW := by
    intro z hm hs
    obtain ⟨k0, hk0, ek0⟩ := List.getElem_of_mem hm
    have ex : ∃ k z, zs[k]? = some z ∧ z ∈ strW := ⟨k0, z, by rw [List.getElem?_eq_getElem hk0, ek0], hs⟩
    have first : ∀ (n k : Nat) (z : Str), k ≤ n → zs[k]? = some z → z ∈ strW → ∃ k z, zs[k]? = some z ∧ z ∈ strW ∧ ∀ (m : Nat) (y : Str), m < k → zs[m]? = some y → y ∉ strW := by
      intro n
      induction n with
      | zero => exact fun k z hk h1 h2 => ⟨k, z, h1, h2, fun m y hm => absurd hm (by omega)⟩
      | succ n ih =>
        intro k z hk h1 h2
        by_cases c : ∃ (m : Nat) (y : Str), m < k ∧ zs[m]? = some y ∧ y ∈ strW
        · obtain ⟨m, y, c1, c2, c3⟩ := c
          exact ih m y (by omega) c2 c3
        · exact ⟨k, z, h1, h2, fun m y hm e hs => c ⟨m, y, hm, e, hs⟩⟩
    obtain ⟨k, y, h1, h2⟩ := ex
    obtain ⟨k, y, h1, h2, h3⟩ := first k k y (Nat.le_refl _) h1 h2
    obtain ⟨c, _, h4⟩ := line_strange L hz h1 h2 h3
    unfold ReadO at h4
    rw [ht] at h4
    rcases h4 with ⟨i, hi, _, en, _⟩ | ⟨_, h⟩
    · obtain ⟨c2, h5, h6⟩ := (⟨k, h1, h2⟩ : ∃ k, zs[k]? = some y ∧ y ∈ strW)
      obtain ⟨x, rfl, sc⟩ := str_one h6
      obtain ⟨hk, ew⟩ := List.getElem?_eq_some_iff.mp h1
      have e1 : zs = zs.take k ++ (⟨#[x]⟩ : Str) :: zs.drop (k + 1) := by
        rw [← ew, ← List.drop_eq_getElem_cons hk, List.take_append_drop]
      rw [e1] at L
      obtain ⟨_, h7, _⟩ := L.bad (fun s hs => by
        obtain ⟨m, hm, em⟩ := List.getElem_of_mem hs
        rw [List.length_take] at hm
        rw [List.getElem_take] at em
        have e2 : zs[m]? = some s := by rw [List.getElem?_eq_getElem (by omega), em]
        exact part_tok (hz s (List.mem_of_getElem? e2)) (h3 m s (by omega) e2)) sc
      rw [ht] at h7
      cases h7
    · cases h
  have sp := L.split fun s hs => part_tok (hz s hs) (no s hs)
  rw [ht] at sp
  cases sp
  refine ⟨fun x hx => ?_, by rw [zip_len cl]; exact few, fun x hx => ?_⟩
  · obtain ⟨p, c⟩ := x
    obtain ⟨h1, h2⟩ := List.of_mem_zip hx
    obtain ⟨z, hz1, rfl⟩ := List.mem_map.mp h1
    have := L.le c h2
    have := (part_len ok (hz z hz1)).2
    exact ⟨by show z.cps.toList.length ≤ 1000; rw [len_cps]; omega, by show c ≤ 100000; omega⟩
  · obtain ⟨p, c⟩ := x
    obtain ⟨h1, h2⟩ := List.of_mem_zip hx
    obtain ⟨z, hz1, rfl⟩ := List.mem_map.mp h1
    exact part_tok (hz z hz1) (no z hz1)
/-! ### a weaving's text is a laid line -/
theorem join_cps : ∀ (z : Str) (r : List Str), (Str.join " " (z :: r)).cps.toList = z.cps.toList ++ lay (r.map fun y => (1, y.cps.toList)) []
  | z, [] => by
    show z.cps.toList = _
    rw [List.map_nil, lay, List.append_nil]
  | z, y :: r => by
    show ((z ++ " ") ++ Str.join " " (y :: r)).cps.toList = _
    rw [cps_add, cps_add, join_cps y r, List.map_cons, lay, List.append_assoc]
    rfl
theorem lay_len : ∀ {r : List Str}, (∀ y ∈ r, y.length ≤ 32) → (lay (r.map fun y => (1, y.cps.toList)) []).length ≤ r.length * 33
  | [], _ => Nat.zero_le _
  | y :: r, h => by
    have h1 := h y List.mem_cons_self
    have h2 := lay_len (r := r) fun z hz => h z (List.mem_cons_of_mem _ hz)
    rw [List.map_cons, lay, List.length_append, List.length_append, List.length_replicate, len_cps, List.length_cons]
    omega
theorem laid_gaps : ∀ {r : List Str} {g : Nat} {p : List Nat}, (∀ y ∈ r, 0 < y.length) → Apart ((g, p) :: r.map fun y => (1, y.cps.toList))
  | [], _, _, _ => trivial
  | y :: r, g, p, h => by
    refine ⟨fun e => absurd e (by decide), fun e => ?_, laid_gaps fun z hz => h z (List.mem_cons_of_mem _ hz)⟩
    have := h y List.mem_cons_self
    rw [← len_cps, e] at this
    exact absurd this (by decide)
theorem laid_text {ns : List Int} (ok : NmOk ns) (few : ns.length ≤ 100) : ∃ cs, Laid (ns.map numS) cs (wtxt ns) := by
  have pos : ∀ y ∈ ns.map numS, 0 < y.length := fun y hy => (part_len ok (.inl hy)).1
  have lens : ∀ y ∈ ns.map numS, y.length ≤ 32 := fun y hy => (part_len ok (.inl hy)).2
  have ml : (ns.map numS).length ≤ 100 := by rw [List.length_map]; exact few
  have len : (wtxt ns).length ≤ 10000 := by
    unfold wtxt
    cases e : ns.map numS with
    | nil => exact Nat.zero_le _
    | cons z r =>
      rw [e] at lens ml
      have h1 := lay_len (r := r) fun y hy => lens y (List.mem_cons_of_mem _ hy)
      have h2 := lens z List.mem_cons_self
      rw [← len_cps, join_cps, List.length_append, len_cps]
      rw [List.length_cons] at ml
      omega
  unfold wtxt at len ⊢
  cases e : ns.map numS with
  | nil =>
    rw [e] at len
    exact ⟨_, 0, 0, [], rfl, rfl, trivial, rfl, len⟩
  | cons z r =>
    rw [e] at len pos
    refine ⟨_, 0, 0, (0, z.cps.toList) :: r.map (fun y => (1, y.cps.toList)), rfl, ?_, laid_gaps fun y hy => pos y (List.mem_cons_of_mem _ hy), ?_, len⟩
    · rw [List.map_cons, List.map_cons, List.map_map]
      rfl
    · rw [join_cps, lay]
      rfl
end
section
variable {P : Program} {w : World} {K : PySem.W.Frag} {mg : Str → Option Value} {base : Heap}
variable {t_BOUND t_DIGITS t_LETTERS t_LONGEST_INTEGER t_MOST_TIMES : Tok} {a_MARKS a_SIGNS a_BadNumber a_BadText a_BadTurn a_ElseputError a_Reader a_Weaving : Addr}
/-! ### a line that is laid, and what is due -/
def iV (k : Nat) : V := .int (0 + (k : Int))
def idxs (f : Str → Bool) (zs : List Str) (n : Nat) : List Nat := (List.range n).filter fun m => f ((zs[m]?).getD Str.empty)
def isS (z : Str) : Bool := decide (z ∈ strW)
def notG (ns : List Int) (z : Str) : Bool := !decide (z ∈ ns.map numS)
theorem idxs_len {f : Str → Bool} {zs : List Str} {k : Nat} : (idxs f zs k).length ≤ k := by
  unfold idxs
  exact Nat.le_trans (List.length_filter_le _ _) (by rw [List.length_range]; exact Nat.le_refl _)
theorem idxs_yes {f : Str → Bool} {zs : List Str} {k : Nat} {z : Str} (e : zs[k]? = some z) (h : f z = true) : idxs f zs (k + 1) = idxs f zs k ++ [k] := by
  unfold idxs
  rw [List.range_succ, List.filter_append, List.filter_cons_of_pos (by rw [e]; exact h), List.filter_nil]
theorem idxs_no {f : Str → Bool} {zs : List Str} {k : Nat} {z : Str} (e : zs[k]? = some z) (h : f z = false) : idxs f zs (k + 1) = idxs f zs k := by
  unfold idxs
  rw [List.range_succ, List.filter_append, List.filter_cons_of_neg (by rw [e]; exact Bool.eq_false_iff.mp h), List.filter_nil, List.append_nil]
theorem idx_head {f : Nat → Bool} {n k : Nat} {r : List Nat} (h : (List.range n).filter f = k :: r) : k < n ∧ f k = true ∧ ∀ m, m < k → f m = false := by
  have hm : k ∈ (List.range n).filter f := by rw [h]; exact List.mem_cons_self
  obtain ⟨h1, h2⟩ := List.mem_filter.mp hm
  refine ⟨List.mem_range.mp h1, h2, fun m hk => ?_⟩
  cases c : f m with
  | false => rfl
  | true =>
    have hm2 : m ∈ (List.range n).filter f := List.mem_filter.mpr ⟨List.mem_range.mpr (by have := List.mem_range.mp h1; omega), c⟩
    have pw : ((List.range n).filter f).Pairwise (· < ·) := List.pairwise_lt_range.sublist List.filter_sublist
    rw [h] at pw hm2
    rcases List.mem_cons.mp hm2 with e | e
    · omega
    · have := (List.pairwise_cons.mp pw).1 m e
      omega
theorem idxs_nil {f : Str → Bool} {zs : List Str} (h : idxs f zs zs.length = []) : ∀ z ∈ zs, f z = false := by
  intro z hz
  obtain ⟨m, hm, e⟩ := List.getElem_of_mem hz
  unfold idxs at h
  rw [List.filter_eq_nil_iff] at h
  have := h m (List.mem_range.mpr hm)
  rw [List.getElem?_eq_getElem hm, e] at this
  exact Bool.eq_false_iff.mpr this
theorem idxs_head {f : Str → Bool} {zs : List Str} {k : Nat} {r : List Nat} (h : idxs f zs zs.length = k :: r) : ∃ z, zs[k]? = some z ∧ f z = true ∧ ∀ (m : Nat) (y : Str), m < k → zs[m]? = some y → f y = false := by
  obtain ⟨h1, h2, h3⟩ := idx_head h
  have e := List.getElem?_eq_getElem h1
  rw [e] at h2
  refine ⟨_, e, h2, fun m y hm ey => ?_⟩
  have := h3 m hm
  rw [ey] at this
  exact this
theorem line_fine {ns : List Int} {zs : List Str} (ok : NmOk ns) (gd : zs = ns.map numS ∨ ∃ z ∈ zs, z ∈ poolW ++ strW) (h : idxs isS zs zs.length ++ idxs (notG ns) zs zs.length = []) : zs = ns.map numS := by
  rcases gd with e | ⟨z, hz, hb⟩
  · exact e
  · have h2 := idxs_nil (List.append_eq_nil_iff.mp h).2 z hz
    unfold notG at h2
    rw [Bool.not_eq_false', decide_eq_true_iff] at h2
    exact absurd h2 (bad_not ok hb)
theorem line_due {ns : List Int} {zs : List Str} {cs : List Nat} {ln : Str} {k : Nat} {r : List Nat} (ok : NmOk ns) (L : Laid zs cs ln) (hz : ∀ z ∈ zs, PartOk ns z) (h : idxs isS zs zs.length ++ idxs (notG ns) zs zs.length = k :: r) : k < zs.length ∧ ∃ c, cs[k]? = some c ∧ ReadO ln (.text (c : Int)) := by
  cases e : idxs isS zs zs.length with
  | cons a t =>
    rw [e] at h
    injection h with h1 _
    subst h1
    obtain ⟨z, e1, e2, e3⟩ := idxs_head e
    refine ⟨(List.getElem?_eq_some_iff.mp e1).1, line_strange L hz e1 (of_decide_eq_true e2) fun m y hm ey => of_decide_eq_false (e3 m y hm ey)⟩
  | nil =>
    rw [e, List.nil_append] at h
    have no := idxs_nil e
    obtain ⟨z, e1, e2, e3⟩ := idxs_head h
    refine ⟨(List.getElem?_eq_some_iff.mp e1).1, line_bad ok L hz (fun y hy => of_decide_eq_false (no y hy)) e1 (fun hm => ?_) fun m y hm ey => ?_⟩
    · unfold notG at e2
      rw [decide_eq_true hm] at e2
      cases e2
    · have := e3 m y hm ey
      unfold notG at this
      rw [Bool.not_eq_false', decide_eq_true_iff] at this
      exact this
def sp__law_line_right (K : PySem.W.Frag) : Sp := fun vs H Q _ => ∃ (st scr p : Addr) (ns : List Int), vs = [.ref st, .ref p] ∧ DrAt H st scr ∧ H p = some (.lst (ns.map V.int)) ∧ p ≠ st ∧ NmOk ns ∧ ns.length ≤ 40 ∧ ∀ (H' : Hp), Bt st H H' → DrAt H' st scr → Q (.bl true) H'
theorem len__law_line_right {vs : List V} {H : Hp} {Q : VK} {E : XK} (h : sp__law_line_right K vs H Q E) : vs.length = 2 := by
  obtain ⟨_, _, _, _, rfl, _⟩ := h
  rfl
theorem ok__law_line_right {f : Addr} {fd : FuncData} {f__law_try : Addr} {fd__law_try : FuncData} {f__law_shows : Addr} {fd__law_shows : FuncData} {f__law_draw : Addr} {fd__law_draw : FuncData} {f__law_same : Addr} {fd__law_same : FuncData} {f__law_pick : Addr} {fd__law_pick : FuncData} (F : Fun K "_law_line_right" "_law_line_right" s__law_line_right f fd) (T : Gs K mg t_BOUND t_DIGITS t_LETTERS t_LONGEST_INTEGER t_MOST_TIMES a_MARKS a_SIGNS a_BadNumber a_BadText a_BadTurn a_ElseputError a_Reader a_Weaving) (c__law_try : Cal P w K mg base CX0 7 "_law_try" f__law_try fd__law_try ["_law_deed", "_law_weaving", "_law_thing"] (sp__law_try K)) (c__law_shows : Cal P w K mg base CX0 27 "_law_shows" f__law_shows fd__law_shows ["_law_weaving", "_law_turns"] (sp__law_shows K)) (c__law_draw : Cal P w K mg base CX0 1 "_law_draw" f__law_draw fd__law_draw ["_law_state_here", "_law_many"] (sp__law_draw K)) (c__law_same : Cal P w K mg base CX0 26 "_law_same" f__law_same fd__law_same ["_law_actual", "_law_due"] (sp__law_same K)) (c__law_pick : Cal P w K mg base CX0 2 "_law_pick" f__law_pick fd__law_pick ["_law_state_here", "_law_row"] (sp__law_pick K)) : FnOk P w K mg base CX0 28 f fd ["_law_state_here", "_law_turns"] (sp__law_line_right K) := by
  refine F.ok sc__law_line_right (fun vs H Q E h => len__law_line_right h) (fun cdv A outer s H vs Q E hr h => ?_)
  obtain ⟨st, scr, p, ns, rfl, hd, hp, pst, ok, l40, q⟩ := h
  refine ⟨_, (pss_cons (ps_set (i := 2) sc__law_line_right.nd rfl (.inr rfl) (pe_lst (pa_cons pe_str (pa_cons pe_str (pa_cons pe_str (pa_cons pe_str (pa_cons pe_str (pa_cons pe_str (pa_cons pe_str (pa_cons pe_str (pa_cons pe_str pa_nil))))))))))) (pss_cons (ps_set (i := 3) sc__law_line_right.nd rfl (.inr rfl) (pe_lc (own := [("_law_one", 12)]) (g := gName 12) (by rfl) sc__law_line_right.nd (pi_list (v_ 1)) (blkOk_by (N := ["_law_state_here", "_law_turns", "_law_strange", "_law_parts", "_law_good", "_law_k", "_law_line", "_law_columns", "_law_bad", "_law_told", "_law_at", "_law_pool", "_law_one"]) (sc := defScope s__law_line_right) (by decide +kernel)) (fun _ _ _ _ _ => pg_name (i := 12) sc__law_line_right.nd rfl (Or.inl rfl)) (fun _ _ _ _ _ => pts_nil) (fun _ _ _ _ _ => (pe_callTy call_str_int (by rfl) T.z_str (by decide +kernel) (pa_cons (v_ 12) pa_nil))))) (pss_cons (ps_set (i := 4) sc__law_line_right.nd rfl (.inr rfl) (pe_callTy (listK K) (by rfl) T.z_list (by decide +kernel) (pa_cons (v_ 3) pa_nil))) (pss_cons (ps_for PassesOwn.never rfl (pi_range1 rfl T.z_range (pa_cons (pe_op op_subM pe_int (pe_call c__law_draw.G (hr.mono (by first | decide | omega)) rfl c__law_draw.m c__law_draw.kp c__law_draw.b .nil pass0 (pa_cons (v_ 0) (pa_cons pe_int pa_nil)))) pa_nil)) (pg_name (i := 5) sc__law_line_right.nd rfl (.inl rfl)) (pss_cons (ps_set (i := 10) sc__law_line_right.nd rfl (.inl rfl) (pe_call c__law_draw.G (hr.mono (by first | decide | omega)) rfl c__law_draw.m c__law_draw.kp c__law_draw.b .nil pass0 (pa_cons (v_ 0) (pa_cons (pe_op (addK K) (pe_callB (lenK K) (by rfl) T.z_len PySem.boot_len (pa_cons (v_ 3) pa_nil)) pe_int) pa_nil)))) (pss_cons (ps_set (i := 11) sc__law_line_right.nd rfl (.inl rfl) (pe_lst (pa_cons pe_str (pa_cons pe_str (pa_cons pe_str (pa_cons pe_str (pa_cons pe_str (pa_cons pe_str (pa_cons pe_str (pa_cons pe_str (pa_cons pe_str (pa_cons pe_str (pa_cons (pe_callTy call_str_int (by rfl) T.z_str (by decide +kernel) (pa_cons (pe_op (addK K) (pe_op op_powM pe_int pe_int) pe_int) pa_nil)) pa_nil))))))))))))) (pss_one (ps_set (i := 3) sc__law_line_right.nd rfl (.inr rfl) (pe_op (addK K) (pe_op (addK K) (pe_slice (slK K) (v_ 3) po_none (po_some (v_ 10))) (pe_lst (pa_cons (pe_call c__law_pick.G (hr.mono (by first | decide | omega)) rfl c__law_pick.m c__law_pick.kp c__law_pick.b .nil pass0 (pa_cons (v_ 0) (pa_cons (pe_op (addK K) (v_ 11) (v_ 2)) pa_nil))) pa_nil))) (pe_slice (slK K) (v_ 3) (po_some (v_ 10)) po_none))))))) (pss_cons (ps_set (i := 6) sc__law_line_right.nd rfl (.inl rfl) (pe_op op_mulSM pe_str (pe_call c__law_draw.G (hr.mono (by first | decide | omega)) rfl c__law_draw.m c__law_draw.kp c__law_draw.b .nil pass0 (pa_cons (v_ 0) (pa_cons pe_int pa_nil))))) (pss_cons (ps_set (i := 7) sc__law_line_right.nd rfl (.inl rfl) (pe_lst pa_nil)) (pss_cons (ps_for PassesOwn.never rfl (pi_range1 rfl T.z_range (pa_cons (pe_callB (lenK K) (by rfl) T.z_len PySem.boot_len (pa_cons (v_ 3) pa_nil)) pa_nil)) (pg_name (i := 5) sc__law_line_right.nd rfl (.inl rfl)) (Evl.pss_cut (ps_if (pt_c op_gtM (v_ 5) pe_int) (pss_one (ps_set (i := 6) sc__law_line_right.nd rfl (.inl rfl) (pe_op (addK K) (v_ 6) (pe_op op_mulSM pe_str (pe_op (addK K) pe_int (pe_call c__law_draw.G (hr.mono (by first | decide | omega)) rfl c__law_draw.m c__law_draw.kp c__law_draw.b .nil pass0 (pa_cons (v_ 0) (pa_cons pe_int pa_nil)))))))) pss_nil) (pss_cons (ps_expr (pe_bm PySem.F.plainAttrs_list PySem.F.slot_list_append PySem.F.type_list_append mt_append (v_ 7) (pa_cons (pe_op (addK K) (pe_callB (lenK K) (by rfl) T.z_len PySem.boot_len (pa_cons (v_ 6) pa_nil)) pe_int) pa_nil))) (pss_one (ps_set (i := 6) sc__law_line_right.nd rfl (.inl rfl) (pe_op (addK K) (v_ 6) (e_x K (v_ 3) (v_ 5)))))))) (pss_cons (ps_set (i := 6) sc__law_line_right.nd rfl (.inl rfl) (pe_op (addK K) (v_ 6) (pe_op op_mulSM pe_str (pe_call c__law_draw.G (hr.mono (by first | decide | omega)) rfl c__law_draw.m c__law_draw.kp c__law_draw.b .nil pass0 (pa_cons (v_ 0) (pa_cons pe_int pa_nil)))))) (pss_cons (ps_setLc (i := 8) (own := [("_law_k", 5)]) (g := gName 5) (by rfl) sc__law_line_right.nd rfl rfl (sw_true rfl rfl rfl (by decide +kernel)) (pi_range1 rfl T.z_range (pa_cons (pe_callB (lenK K) (by rfl) T.z_len PySem.boot_len (pa_cons (v_ 3) pa_nil)) pa_nil)) (blkOk_by (N := ["_law_state_here", "_law_turns", "_law_strange", "_law_parts", "_law_good", "_law_k", "_law_line", "_law_columns", "_law_bad", "_law_told", "_law_at", "_law_pool", "_law_one"]) (sc := defScope s__law_line_right) (by decide +kernel)) (fun _ _ _ _ _ => pg_name (i := 5) sc__law_line_right.nd rfl (Or.inl rfl)) (fun _ _ _ _ _ => pts_one (pt_c (inK K) (e_x K (v_ 3) (v_ 5)) (v_ 2))) (fun _ _ _ _ _ => (v_ 5))) (pss_cons (ps_set (i := 8) sc__law_line_right.nd rfl (.inl rfl) (pe_op (addK K) (v_ 8) (pe_lc (own := [("_law_k", 5)]) (g := gName 5) (by rfl) sc__law_line_right.nd (pi_range1 rfl T.z_range (pa_cons (pe_callB (lenK K) (by rfl) T.z_len PySem.boot_len (pa_cons (v_ 3) pa_nil)) pa_nil)) (blkOk_by (N := ["_law_state_here", "_law_turns", "_law_strange", "_law_parts", "_law_good", "_law_k", "_law_line", "_law_columns", "_law_bad", "_law_told", "_law_at", "_law_pool", "_law_one"]) (sc := defScope s__law_line_right) (by decide +kernel)) (fun _ _ _ _ _ => pg_name (i := 5) sc__law_line_right.nd rfl (Or.inl rfl)) (fun _ _ _ _ _ => pts_one (pt_c (notInK K) (e_x K (v_ 3) (v_ 5)) (v_ 4))) (fun _ _ _ _ _ => (v_ 5))))) (pss_cons (ps_set (i := 9) sc__law_line_right.nd rfl (.inl rfl) (pe_call c__law_try.G (hr.mono (by first | decide | omega)) rfl c__law_try.m c__law_try.kp c__law_try.b .nil pass0 (pa_cons pe_str (pa_cons pe_non (pa_cons (v_ 6) pa_nil))))) (pss_cons (ps_if (pt_c op_gtM (pe_callB (lenK K) (by rfl) T.z_len PySem.boot_len (pa_cons (v_ 8) pa_nil)) pe_int) (pss_one (ps_ret (pe_call c__law_same.G (hr.mono (by first | decide | omega)) rfl c__law_same.m c__law_same.kp c__law_same.b .nil pass0 (pa_cons (v_ 9) (pa_cons (pe_tup (pa_cons pe_str (pa_cons pe_bl (pa_cons pe_bl (pa_cons pe_bl (pa_cons (pe_tup (pa_cons pe_int (pa_cons (e_x K (v_ 7) (e_x K (v_ 8) pe_int)) pa_nil))) pa_nil)))))) pa_nil))))) pss_nil) (pss_one (ps_ret (pe_call c__law_shows.G (hr.mono (by first | decide | omega)) rfl c__law_shows.m c__law_shows.kp c__law_shows.b .nil pass0 (pa_cons (v_ 9) (pa_cons (v_ 1) pa_nil))))))))))))))))), ?_⟩
  refine ⟨(by show 9 ≤ sizeLine; decide), fun S nS => ?_⟩
  have Sst : S ≠ st := hd.ne_new nS
  have s1 := same_new (o := .lst (strW.map V.str)) nS
  have hS := upd_same (H := H) (a := S) (o := .lst (strW.map V.str))
  have hd1 := hd.new s1
  have b1 := Bt.same (st := st) s1
  have hp := s1 _ _ hp
  change upd H S (.lst (strW.map V.str)) S = _ at hS
  show gName 2 (.ref S) _ (upd H S (.lst (strW.map V.str))) _
  generalize upd H S (.lst (strW.map V.str)) = H1 at s1 hS hd1 b1 hp ⊢
  refine g_is [some (.ref st), some (.ref p), some (.ref S), none, none, none, none, none, none, none, none, none, none] rfl ?_
  refine ⟨p, rfl, ⟨_, SqL.of hp⟩, fun D nD => ?_⟩
  have Dst : D ≠ st := hd1.ne_new nD
  refine lc_it (walk_list (xs := ns.map V.int)) (fun i H' => Same H1 H' ∧ H' D = some (.lst (((ns.take i).map numS).map V.str))) ⟨same_new nD, upd_same⟩ (fun _ _ _ h => SqL.of (h.1 _ _ hp)) ?_ ?_
  · rintro i v H4 H5 hi ⟨sm, hD2⟩ ⟨rfl, hv⟩
    have hv : (ns.map V.int)[i]? = some v := by
      first | exact hv | exact hv _ (SqL.of (sm _ _ hp))
    rw [List.getElem?_map] at hv
    obtain ⟨z, ez, rfl⟩ := Option.map_eq_some_iff.mp hv
    rw [List.length_map] at hi
    refine ⟨rfl, z, rfl, inB_log (ok z (List.mem_of_getElem? ez)).2, ?_⟩
    refine ⟨_, hD2, line_lt (by rw [List.length_map, List.length_map, List.length_take]; omega), fun b o hb => ?_, ?_⟩
    · rw [upd_ne (ne_of_none hb nD)]
      exact sm _ _ hb
    · rw [upd_same, take_snoc ez, List.map_append, List.map_append]
      rfl
  rintro H2 ⟨s2, hD⟩
  rw [List.length_map, List.take_length] at hD
  refine g_is [some (.ref st), some (.ref p), some (.ref S), some (.ref D), none, none, none, none, none, none, none, none, none] rfl ?_
  refine ⟨D, _, rfl, .inl (SqL.of hD), fun G nG => ?_⟩
  have s3 := same_new (o := .lst ((ns.map numS).map V.str)) nG
  have hG := upd_same (H := H2) (a := G) (o := .lst ((ns.map numS).map V.str))
  have hd3 := (hd1.new s2).new s3
  have Gst : G ≠ st := (hd1.new s2).ne_new nG
  have hD := s3 _ _ hD
  have s13 := s2.trans s3
  have hS := s13 _ _ hS
  have hp := s13 _ _ hp
  have b3 := b1.trans (Bt.same (st := st) s13)
  generalize upd H2 G (.lst ((ns.map numS).map V.str)) = H3 at hG hd3 hD hS hp b3 ⊢
  clear s1 s2 s3 s13 nG nD nS hd hd1 b1
  refine g_is [some (.ref st), some (.ref p), some (.ref S), some (.ref D), some (.ref G), none, none, none, none, none, none, none, none] rfl ?_
  refine ⟨st, scr, 3, rfl, hd3, by decide, many_small (by decide) (by decide), fun x l x0 x1 hd4 => ?_⟩
  have b4 := (Bt.st (st := st) (H := H3) (o := .lst l))
  have hS := b4 _ _ Sst hS
  have hG := b4 _ _ Gst hG
  have hD := b4 _ _ Dst hD
  have hp := b4 _ _ pst hp
  have b4 := b3.trans b4
  generalize upd H3 st (.lst l) = H4 at hd4 b4 hS hG hD hp ⊢
  clear b3 hd3
  refine ⟨_, rfl, by omega, by omega, ?_⟩
  refine for_range (lo := 0) (n := ((2 : Int) - x).toNat) (fun i σ' H' => ∃ (P : Addr) (zs : List Str) (y5 y10 y11 : Option V), σ' = [some (.ref st), some (.ref p), some (.ref S), some (.ref P), some (.ref G), y5, none, none, none, none, y10, y11, none] ∧ Bt st H4 H' ∧ DrAt H' st scr ∧ H' P = some (.lst (zs.map V.str)) ∧ P ≠ st ∧ zs.length ≤ 40 + i ∧ (∀ z ∈ zs, PartOk ns z) ∧ (zs = ns.map numS ∨ ∃ z ∈ zs, z ∈ poolW ++ strW)) ⟨D, ns.map numS, _, _, _, rfl, Bt.refl st H4, hd4, hD, Dst, by rw [List.length_map]; omega, fun z hz => .inl hz, .inl rfl⟩ ?_ ?_
  · rintro i σ' H5 hi ⟨P, zs, y5, y10, y11, rfl, b5, hd5, hP, Pst, zl, hz, gd⟩
    refine .inl ⟨_, .inl (SqL.of hP), ?_⟩
    rw [List.length_map]
    refine ⟨st, scr, _, rfl, hd5, by omega, many_small (by omega) (by omega), fun a0 l a1 a2 hd6 => ?_⟩
    have b6 := b5.trans (Bt.st (st := st) (o := .lst l))
    have hP := (Bt.st (st := st) (H := H5) (o := .lst l)) _ _ Pst hP
    generalize upd H5 st (.lst l) = H6 at hd6 b6 hP ⊢
    obtain ⟨j, rfl⟩ : ∃ j : Nat, a0 = (j : Int) := ⟨a0.toNat, by omega⟩
    refine g_is [some (.ref st), some (.ref p), some (.ref S), some (.ref P), some (.ref G), some (.int (0 + (i : Int))), none, none, none, none, some (.int j), y11, none] rfl ?_
    refine ⟨(by unfold CPow; decide), _, rfl, (by decide +kernel), (by show 11 ≤ sizeLine; decide), fun W nW => ?_⟩
    have eW : ([.str "-3", .str "-0", .str "007", .str "00", .str "a", .str "take", .str "<", .str "<=", .str ",", .str "(", .str ((toString ((10 : Int) ^ (30 : Int).toNat + 1) : String) : Str)] : List V) = poolW.map V.str := by
      have : ((toString ((10 : Int) ^ (30 : Int).toNat + 1) : String) : Str) = "1000000000000000000000000000001" := by decide +kernel
      rw [this]
      rfl
    rw [eW]
    have s7 := same_new (o := .lst (poolW.map V.str)) nW
    have hW := upd_same (H := H6) (a := W) (o := .lst (poolW.map V.str))
    have hd7 := hd6.new s7
    have b7 := b6.trans (Bt.same (st := st) s7)
    have hP := s7 _ _ hP
    generalize upd H6 W (.lst (poolW.map V.str)) = H7 at hW hd7 b7 hP ⊢
    refine g_is [some (.ref st), some (.ref p), some (.ref S), some (.ref P), some (.ref G), some (.int (0 + (i : Int))), none, none, none, none, some (.int j), some (.ref W), none] rfl ?_
    refine ⟨j, rfl, .inl ⟨_, SqL.of hP, fun r1 n1 => ?_⟩⟩
    rw [cutV_take _ (by omega), ← List.map_take, show ((j : Int)).toNat = j from rfl]
    have r1st : r1 ≠ st := hd7.ne_new n1
    have s8 := same_new (o := .lst ((zs.take j).map V.str)) n1
    have h1 := upd_same (H := H7) (a := r1) (o := .lst ((zs.take j).map V.str))
    have hd8 := hd7.new s8
    have b8 := b7.trans (Bt.same (st := st) s8)
    have hP := s8 _ _ hP
    have hW := s8 _ _ hW
    generalize upd H7 r1 (.lst ((zs.take j).map V.str)) = H8 at h1 hd8 b8 hP hW ⊢
    refine .inl ⟨_, _, hW, b8 _ _ Sst hS, line_of (by decide), fun r2 n2 => ?_⟩
    rw [← List.map_append]
    have r2st : r2 ≠ st := hd8.ne_new n2
    have s9 := same_new (o := .lst ((poolW ++ strW).map V.str)) n2
    have h2 := upd_same (H := H8) (a := r2) (o := .lst ((poolW ++ strW).map V.str))
    have hd9 := hd8.new s9
    have b9 := b8.trans (Bt.same (st := st) s9)
    have hP := s9 _ _ hP
    have h1 := s9 _ _ h1
    generalize upd H8 r2 (.lst ((poolW ++ strW).map V.str)) = H9 at h1 h2 hd9 b9 hP ⊢
    refine ⟨st, scr, _, rfl, hd9, .inr ⟨r2, _, rfl, h2, r2st, by decide, by decide, fun dv l hdv hd10 => ?_⟩⟩
    obtain ⟨zn, hzn, rfl⟩ := List.mem_map.mp hdv
    have b10 := b9.trans (Bt.st (st := st) (o := .lst l))
    have hP := (Bt.st (st := st) (H := H9) (o := .lst l)) _ _ Pst hP
    have h1 := (Bt.st (st := st) (H := H9) (o := .lst l)) _ _ r1st h1
    generalize upd H9 st (.lst l) = H10 at hd10 b10 hP h1 ⊢
    refine ⟨(by show 1 ≤ sizeLine; decide), fun r3 n3 => ?_⟩
    have s11 := same_new (o := .lst [.str zn]) n3
    have h3 := upd_same (H := H10) (a := r3) (o := .lst [.str zn])
    have hd11 := hd10.new s11
    have b11 := b10.trans (Bt.same (st := st) s11)
    have hP := s11 _ _ hP
    have h1 := s11 _ _ h1
    generalize upd H10 r3 (.lst [.str zn]) = H11 at h1 h3 hd11 b11 hP ⊢
    refine .inl ⟨_, _, h1, h3, line_of (by rw [List.length_map, List.length_take]; show _ + 1 ≤ _; omega), fun r4 n4 => ?_⟩
    have e4 : (zs.take j).map V.str ++ [.str zn] = (zs.take j ++ [zn]).map V.str := by rw [List.map_append]; rfl
    rw [e4]
    have s12 := same_new (o := .lst ((zs.take j ++ [zn]).map V.str)) n4
    have h4 := upd_same (H := H11) (a := r4) (o := .lst ((zs.take j ++ [zn]).map V.str))
    have hd12 := hd11.new s12
    have b12 := b11.trans (Bt.same (st := st) s12)
    have hP := s12 _ _ hP
    generalize upd H11 r4 (.lst ((zs.take j ++ [zn]).map V.str)) = H12 at h4 hd12 b12 hP ⊢
    refine ⟨j, rfl, .inl ⟨_, SqL.of hP, fun r5 n5 => ?_⟩⟩
    rw [cutV_drop _ (by omega), ← List.map_drop, show ((j : Int)).toNat = j from rfl]
    have s13 := same_new (o := .lst ((zs.drop j).map V.str)) n5
    have h5 := upd_same (H := H12) (a := r5) (o := .lst ((zs.drop j).map V.str))
    have hd13 := hd12.new s13
    have b13 := b12.trans (Bt.same (st := st) s13)
    have h4 := s13 _ _ h4
    generalize upd H12 r5 (.lst ((zs.drop j).map V.str)) = H13 at h4 h5 hd13 b13 ⊢
    have ll : (zs.take j ++ [zn]).length + (zs.drop j).length ≤ zs.length + 1 := by rw [List.length_append, List.length_take, List.length_drop]; show _ + 1 + _ ≤ _; omega
    refine .inl ⟨_, _, h4, h5, line_of (by rw [List.length_map, List.length_map]; omega), fun r6 n6 => ?_⟩
    rw [← List.map_append]
    have s14 := same_new (o := .lst ((zs.take j ++ [zn] ++ zs.drop j).map V.str)) n6
    refine ⟨r6, zs.take j ++ [zn] ++ zs.drop j, _, _, _, rfl, b13.trans (Bt.same s14), hd13.new s14, upd_same, hd13.ne_new n6, by rw [List.length_append]; omega, fun z hzz => ?_, .inr ⟨zn, ?_, hzn⟩⟩
    · rcases List.mem_append.mp hzz with h | h
      · rcases List.mem_append.mp h with h | h
        · exact hz z (List.mem_of_mem_take h)
        · rw [List.mem_singleton.mp h]
          exact .inr hzn
      · exact hz z (List.mem_of_mem_drop h)
    · exact List.mem_append.mpr (.inl (List.mem_append.mpr (.inr (List.mem_singleton.mpr rfl))))
  rintro σ' H5 ⟨P, zs, y5, y10, y11, rfl, b5, hd5, hP, Pst, zl, hz, gd⟩
  have zl : zs.length ≤ 42 := by omega
  have hS := b5 _ _ Sst hS
  have hG := b5 _ _ Gst hG
  have hp := b5 _ _ pst hp
  have b5 := b4.trans b5
  clear b4 hd4 hD
  have e32 : ∀ k : Int, (repS " " k).cps.toList = List.replicate k.toNat 32 := fun k => repS1
  have l32 : ∀ k : Int, (repS " " k).length = k.toNat := fun k => by rw [← len_cps, e32, List.length_replicate]
  refine ⟨st, scr, _, rfl, hd5, by decide, many_small (by decide) (by decide), fun ld l ld0 ld1 hd6 => ?_⟩
  have b6 := (Bt.st (st := st) (H := H5) (o := .lst l))
  have hS := b6 _ _ Sst hS
  have hG := b6 _ _ Gst hG
  have hp := b6 _ _ pst hp
  have hP := b6 _ _ Pst hP
  have b6 := b5.trans b6
  generalize upd H5 st (.lst l) = H6 at hd6 b6 hS hG hp hP ⊢
  refine ⟨by omega, by omega, by decide, ?_⟩
  refine g_is [some (.ref st), some (.ref p), some (.ref S), some (.ref P), some (.ref G), y5, some (.str (repS " " ld)), none, none, none, y10, y11, none] rfl ?_
  refine ⟨Nat.zero_le _, fun c nc => ?_⟩
  have cst : c ≠ st := hd6.ne_new nc
  have csc : c ≠ scr := hd6.ne_scr nc
  have s7 := same_new (o := .lst []) nc
  have hc := upd_same (H := H6) (a := c) (o := .lst [])
  have hd7 := hd6.new s7
  have b7 := b6.trans (Bt.same (st := st) s7)
  have cS : c ≠ S := (ne_of_none hS nc).symm
  have cG : c ≠ G := (ne_of_none hG nc).symm
  have cp : c ≠ p := (ne_of_none hp nc).symm
  have cP : c ≠ P := (ne_of_none hP nc).symm
  have hS := s7 _ _ hS
  have hG := s7 _ _ hG
  have hp := s7 _ _ hp
  have hP := s7 _ _ hP
  have c0 : H c = none := b6.free cst nc
  generalize upd H6 c (.lst []) = H7 at hc hd7 b7 hS hG hp hP ⊢
  clear b5 hd5 b6 hd6 s7 nc
  refine g_is [some (.ref st), some (.ref p), some (.ref S), some (.ref P), some (.ref G), y5, some (.str (repS " " ld)), some (.ref c), none, none, y10, y11, none] rfl ?_
  refine .inl ⟨_, .inl (SqL.of hP), ?_⟩
  rw [List.length_map]
  refine ⟨_, rfl, by omega, by omega, ?_⟩
  refine for_range (lo := 0) (n := zs.length) (fun i σ' H' => ∃ (line : Str) (y5 : Option V) (gs : List (Nat × List Nat)), σ' = [some (.ref st), some (.ref p), some (.ref S), some (.ref P), some (.ref G), y5, some (.str line), some (.ref c), none, none, y10, y11, none] ∧ (∀ b o, b ≠ st → b ≠ c → H7 b = some o → H' b = some o) ∧ DrAt H' st scr ∧
    H' c = some (.lst ((cols (1 + ld.toNat) gs).map colV)) ∧ gs.map (·.2) = (zs.take i).map (·.cps.toList) ∧ Apart gs ∧ line.cps.toList = List.replicate ld.toNat 32 ++ lay gs [] ∧ line.length ≤ 2 + 40 * i) ?_ ?_ ?_
  · refine ⟨_, _, [], rfl, fun b o _ _ h => h, hd7, hc, rfl, trivial, ?_, ?_⟩
    · rw [e32]
      exact (List.append_nil _).symm
    · rw [l32]
      omega
  · rintro i σ' H' hi ⟨line, y5, gs, rfl, kp, hd, hc, hgs, hap, hline, hll⟩
    obtain ⟨zi, hzi⟩ : ∃ zi, zs[i]? = some zi := ⟨zs[i], List.getElem?_eq_getElem hi⟩
    obtain ⟨zi0, zi1⟩ := part_len ok (hz zi (List.mem_of_getElem? hzi))
    have ezi : atI (zs.map V.str) (0 + (i : Int)) = some (.str zi) := by rw [Int.zero_add]; exact atI_nat (by rw [List.getElem?_map, hzi]; rfl)
    have hgl : gs.length = i := by
      have := congrArg List.length hgs
      rw [List.length_map, List.length_map, List.length_take] at this
      omega
    refine ⟨fun σ' H3 => ∃ (line2 : Str) (g : Nat), σ' = [some (.ref st), some (.ref p), some (.ref S), some (.ref P), some (.ref G), some (.int (0 + (i : Int))), some (.str line2), some (.ref c), none, none, y10, y11, none] ∧ Bt st H' H3 ∧ DrAt H3 st scr ∧ line2.cps.toList = line.cps.toList ++ List.replicate g 32 ∧ line2.length = line.length + g ∧ g ≤ 2 ∧ (0 < i → 0 < g), ?_, ?_⟩
    · refine ite2 (fun e1 => ?_) (fun e1 => ?_)
      · refine ⟨st, scr, _, rfl, hd, by decide, many_small (by decide) (by decide), fun g0 l' g1 g2 hd' => ?_⟩
        have b8 := (Bt.st (st := st) (H := H') (o := .lst l'))
        generalize upd H' st (.lst l') = H8 at hd' b8 ⊢
        refine ⟨by omega, by omega, by decide, ?_⟩
        refine ⟨line_of (by rw [l32]; omega), ?_⟩
        refine ⟨line ++ repS " " (1 + g0), (1 + g0).toNat, rfl, b8, hd', by rw [cps_add, e32], by rw [len_add, l32], by omega, fun _ => by omega⟩
      · have e1 : ¬ (0 : Int) < 0 + i := of_decide_eq_false (Bool.eq_false_iff.mpr e1)
        exact ⟨line, 0, rfl, Bt.refl st H', hd, by rw [List.replicate_zero, List.append_nil], rfl, by omega, fun h => absurd h (by omega)⟩
    rintro σ' H3 ⟨line2, g, rfl, b3, hd3, hl2, ll2, g2, gpos⟩
    have hc3 := b3 _ _ cst hc
    have hP3 := b3 _ _ Pst (kp _ _ Pst cP.symm hP)
    have hcl : (cols (1 + ld.toNat) gs).length = i := by rw [cols_len]; exact hgl
    refine ⟨.inl ⟨rfl, _, SqL.of hc3⟩, line_of (by omega), c, _, _, rfl, rfl, hc3, line_lt (by rw [List.length_map, hcl]; omega), ?_⟩
    refine ⟨_, .inl (SqL.of (by rw [upd_ne cP.symm]; exact hP3)), _, ezi, ?_⟩
    refine ⟨line_of (by omega), ?_⟩
    refine ⟨line2 ++ zi, _, gs ++ [(g, zi.cps.toList)], rfl, fun b o h1 h2 h => ?_, hd3.at cst csc, ?_, ?_, apart_snoc hap ?_ (fun x hx e => ?_), ?_, ?_⟩
    · rw [upd_ne h2]
      exact b3 _ _ h1 (kp b o h1 h2 h)
    · rw [upd_same, cols_snoc, List.map_append]
      have : colV (1 + ld.toNat + (lay gs []).length + g) = V.int ((line2.length : Int) + 1) := by
        have : line.length = ld.toNat + (lay gs []).length := by rw [← len_cps, hline, List.length_append, List.length_replicate]
        show V.int _ = _
        congr 1
        omega
      rw [← this]
      rfl
    · rw [List.map_append, hgs, take_snoc hzi, List.map_append]
      rfl
    · intro e
      have := len_cps zi
      rw [e] at this
      have : zi.length = 0 := this.symm
      omega
    · exfalso
      have : 0 < gs.length := by
        cases gs with
        | nil => cases hx
        | cons a r => exact Nat.succ_pos _
      have := gpos (by omega)
      omega
    · rw [cps_add, hl2, hline, lay_snoc, List.append_assoc, List.append_assoc]
    · rw [len_add, ll2]
      omega
  rintro σ' H' ⟨line, y5, gs, rfl, kp, hd, hc, hgs, hap, hline, hll⟩
  have hS := kp _ _ Sst cS.symm hS
  have hG := kp _ _ Gst cG.symm hG
  have hp := kp _ _ pst cp.symm hp
  have hP := kp _ _ Pst cP.symm hP
  have b8 : Bt st H H' := fun b o n h => kp b o n (ne_of_none h c0) (b7 b o n h)
  clear kp b7 hd7
  refine ⟨st, scr, _, rfl, hd, by decide, many_small (by decide) (by decide), fun tl l' t0 t1 hd9 => ?_⟩
  have b9 := (Bt.st (st := st) (H := H') (o := .lst l'))
  have hS := b9 _ _ Sst hS
  have hG := b9 _ _ Gst hG
  have hp := b9 _ _ pst hp
  have hP := b9 _ _ Pst hP
  have hc := b9 _ _ cst hc
  have b9 := b8.trans b9
  generalize upd H' st (.lst l') = H9 at hd9 b9 hS hG hp hP hc ⊢
  clear b8 hd
  refine ⟨by omega, by omega, by decide, ?_⟩
  refine ⟨line_of (by rw [l32]; omega), ?_⟩
  have L : Laid zs (cols (1 + ld.toNat) gs) (line ++ repS " " tl) := by
    refine ⟨ld.toNat, tl.toNat, gs, rfl, by rw [hgs, List.take_length], hap, ?_, ?_⟩
    · rw [cps_add, hline, e32, lay_tail (t := List.replicate tl.toNat 32), List.append_assoc]
    · rw [len_add, l32]
      omega
  generalize cols (1 + ld.toNat) gs = cs at L hc
  generalize line ++ repS " " tl = ln at L ⊢
  clear hgs hap hline hll e32 l32
  refine g_is [some (.ref st), some (.ref p), some (.ref S), some (.ref P), some (.ref G), y5, some (.str ln), some (.ref c), none, none, y10, y11, none] rfl ?_
  refine .inl ⟨_, .inl (SqL.of hP), _, rfl, by rw [List.length_map]; omega, by rw [List.length_map]; omega, fun A nA => ?_⟩
  rw [List.length_map]
  refine lc_it (walk_range (lo := 0) (n := zs.length)) (fun k H' => Same H9 H' ∧ H' A = some (.lst ((idxs isS zs k).map iV))) ⟨same_new nA, upd_same⟩ (fun _ _ _ _ => True.intro) ?_ ?_
  · rintro k v H4 H5 hk ⟨sm, hD⟩ ⟨rfl, ev⟩
    have ev : v = .int (0 + (k : Int)) := ev
    subst ev
    have ek := List.getElem?_eq_getElem hk
    have aP : atI (zs.map V.str) (0 + (k : Int)) = some (.str zs[k]) := by rw [Int.zero_add]; exact atI_nat (by rw [List.getElem?_map, ek]; rfl)
    refine ⟨rfl, _, .inl (SqL.of (sm _ _ hP)), _, aP, _, .inl (SqL.of (sm _ _ hS)), rfl, flat_strs, ?_⟩
    have il := idxs_len (f := isS) (zs := zs) (k := k)
    refine ite2 (fun c => ?_) (fun c => ?_)
    · have c : isS zs[k] = true := by
        have c : inV (.str zs[k]) (strW.map V.str) = true := c
        rw [inV_str] at c
        exact c
      refine ⟨_, hD, line_lt (by rw [List.length_map]; omega), fun b o hb => ?_, ?_⟩
      · rw [upd_ne (ne_of_none hb nA)]
        exact sm _ _ hb
      · rw [upd_same, idxs_yes ek c, List.map_append]
        rfl
    · have c : isS zs[k] = false := by
        have c : ¬ inV (.str zs[k]) (strW.map V.str) = true := c
        rw [inV_str] at c
        exact Bool.eq_false_iff.mpr c
      rw [idxs_no ek c]
      exact ⟨sm, hD⟩
  rintro H10 ⟨s10, hA⟩
  have hd10 := hd9.new s10
  have hS := s10 _ _ hS
  have hG := s10 _ _ hG
  have hp := s10 _ _ hp
  have hP := s10 _ _ hP
  have hc := s10 _ _ hc
  have b10 := b9.trans (Bt.same (st := st) s10)
  clear b9 hd9 s10 nA
  refine g_is [some (.ref st), some (.ref p), some (.ref S), some (.ref P), some (.ref G), y5, some (.str ln), some (.ref c), some (.ref A), none, y10, y11, none] rfl ?_
  refine .inl ⟨_, .inl (SqL.of hP), _, rfl, by rw [List.length_map]; omega, by rw [List.length_map]; omega, fun C nC => ?_⟩
  rw [List.length_map]
  refine lc_it (walk_range (lo := 0) (n := zs.length)) (fun k H' => Same H10 H' ∧ H' C = some (.lst ((idxs (notG ns) zs k).map iV))) ⟨same_new nC, upd_same⟩ (fun _ _ _ _ => True.intro) ?_ ?_
  · rintro k v H4 H5 hk ⟨sm, hD⟩ ⟨rfl, ev⟩
    have ev : v = .int (0 + (k : Int)) := ev
    subst ev
    have ek := List.getElem?_eq_getElem hk
    have aP : atI (zs.map V.str) (0 + (k : Int)) = some (.str zs[k]) := by rw [Int.zero_add]; exact atI_nat (by rw [List.getElem?_map, ek]; rfl)
    refine ⟨rfl, _, .inl (SqL.of (sm _ _ hP)), _, aP, _, .inl (SqL.of (sm _ _ hG)), rfl, flat_strs, ?_⟩
    have il := idxs_len (f := (notG ns)) (zs := zs) (k := k)
    refine ite2 (fun c => ?_) (fun c => ?_)
    · have c : (notG ns) zs[k] = true := by
        have c : (!inV (.str zs[k]) ((ns.map numS).map V.str)) = true := c
        rw [inV_str] at c
        exact c
      refine ⟨_, hD, line_lt (by rw [List.length_map]; omega), fun b o hb => ?_, ?_⟩
      · rw [upd_ne (ne_of_none hb nC)]
        exact sm _ _ hb
      · rw [upd_same, idxs_yes ek c, List.map_append]
        rfl
    · have c : (notG ns) zs[k] = false := by
        have c : ¬ (!inV (.str zs[k]) ((ns.map numS).map V.str)) = true := c
        rw [inV_str] at c
        exact Bool.eq_false_iff.mpr c
      rw [idxs_no ek c]
      exact ⟨sm, hD⟩
  rintro H11 ⟨s11, hC⟩
  have hd11 := hd10.new s11
  have hA := s11 _ _ hA
  have hp := s11 _ _ hp
  have hP := s11 _ _ hP
  have hc := s11 _ _ hc
  have b11 := b10.trans (Bt.same (st := st) s11)
  clear b10 hd10 s11 nC hS hG
  have il1 := idxs_len (f := isS) (zs := zs) (k := zs.length)
  have il2 := idxs_len (f := notG ns) (zs := zs) (k := zs.length)
  refine .inl ⟨_, _, hA, hC, line_of (by rw [List.length_map, List.length_map]; omega), fun B nB => ?_⟩
  rw [← List.map_append]
  have s12 := same_new (o := .lst ((idxs isS zs zs.length ++ idxs (notG ns) zs zs.length).map iV)) nB
  have hB := upd_same (H := H11) (a := B) (o := .lst ((idxs isS zs zs.length ++ idxs (notG ns) zs zs.length).map iV))
  have hd12 := hd11.new s12
  have hp := s12 _ _ hp
  have hc := s12 _ _ hc
  have b12 := b11.trans (Bt.same (st := st) s12)
  generalize upd H11 B (.lst ((idxs isS zs zs.length ++ idxs (notG ns) zs zs.length).map iV)) = H12 at hB hd12 hp hc b12 ⊢
  clear s12 nB hA hC hd11 b11
  refine g_is [some (.ref st), some (.ref p), some (.ref S), some (.ref P), some (.ref G), y5, some (.str ln), some (.ref c), some (.ref B), none, y10, y11, none] rfl ?_
  have lok := line_ok ok L hz (by omega)
  cases hbad : idxs isS zs zs.length ++ idxs (notG ns) zs zs.length with
  | nil =>
    rw [hbad] at hB
    have e := line_fine ok gd hbad
    subst e
    refine ⟨_, _, _, .wv ns, rfl, .inr (.inr ⟨ln, rfl, rfl, lok, line_good ok L⟩), fun H13 x s13 nx hw => ?_⟩
    refine g_is [some (.ref st), some (.ref p), some (.ref S), some (.ref P), some (.ref G), y5, some (.str ln), some (.ref c), some (.ref B), some (.ref x), y10, y11, none] rfl ?_
    refine .inl ⟨_, .inl (SqL.of (s13 _ _ hB)), ?_⟩
    refine ⟨x, p, ns, rfl, hw, s13 _ _ hp, ok, by omega, fun H14 s14 => ?_⟩
    exact q H14 (b12.trans (Bt.same (s13.trans s14))) (hd12.new (s13.trans s14))
  | cons k r =>
    rw [hbad] at hB
    obtain ⟨hk, cn, ec, ro⟩ := line_due ok L hz hbad
    refine ⟨_, _, _, .text (cn : Int), rfl, .inr (.inr ⟨ln, rfl, rfl, lok, ro⟩), fun H13 t u s13 nt hu ht => ?_⟩
    refine g_is [some (.ref st), some (.ref p), some (.ref S), some (.ref P), some (.ref G), y5, some (.str ln), some (.ref c), some (.ref B), some (.ref t), y10, y11, none] rfl ?_
    have hB := s13 _ _ hB
    have hc := s13 _ _ hc
    refine .inl ⟨_, .inl (SqL.of hB), ?_⟩
    refine ite2 (fun c => ?_) (fun c => ?_)
    · have b0 : atI ((k :: r).map iV) (0 : Int) = some (.int (0 + (k : Int))) := atI_nat (j := 0) rfl
      have c0 : atI (cs.map colV) (0 + (k : Int)) = some (.int (cn : Int)) := by rw [Int.zero_add]; exact atI_nat (by rw [List.getElem?_map, ec]; rfl)
      refine ⟨_, .inl (SqL.of hB), _, b0, _, .inl (SqL.of hc), _, c0, (by show 2 ≤ sizeLine; decide), fun v nv => ?_⟩
      have s14 := same_new (o := .tup [.int 1, .int (cn : Int)]) nv
      have hv := upd_same (H := H13) (a := v) (o := .tup [.int 1, .int (cn : Int)])
      generalize upd H13 v (.tup [.int 1, .int (cn : Int)]) = H14 at s14 hv ⊢
      refine ⟨(by show 5 ≤ sizeLine; decide), fun w nw => ?_⟩
      have s15 := same_new (o := .tup [.str "refused", .bl false, .bl false, .bl true, .ref v]) nw
      have hw := upd_same (H := H14) (a := w) (o := .tup [.str "refused", .bl false, .bl false, .bl true, .ref v])
      generalize upd H14 w (.tup [.str "refused", .bl false, .bl false, .bl true, .ref v]) = H15 at s15 hw ⊢
      have s145 := s14.trans s15
      refine ⟨_, _, rfl, same_tupN (n := 23) (SqT.of (s145 _ _ ht)) (SqT.of hw) rfl (by show 5 ≤ 1000; decide) (fun m x y hx hy => ?_), ?_⟩
      · match m, hx, hy with
        | 0, hx, hy => cases hx; cases hy; exact same_str _
        | 1, hx, hy => cases hx; cases hy; exact same_bl _
        | 2, hx, hy => cases hx; cases hy; exact same_bl _
        | 3, hx, hy => cases hx; cases hy; exact same_bl _
        | 4, hx, hy =>
          cases hx
          cases hy
          refine same_tupN (n := 22) (SqT.of (s145 _ _ hu)) (SqT.of (s15 _ _ hv)) rfl (by show 2 ≤ 1000; decide) (fun m x y hx hy => ?_)
          rw [hx] at hy
          cases hy
          match m, hx with
          | 0, hx => cases hx; exact same_int _
          | 1, hx => cases hx; exact same_int _
      exact q H15 (b12.trans (Bt.same (s13.trans s145))) (hd12.new (s13.trans s145))
    · have c : ¬ (0 : Int) < (((k :: r).map iV).length : Int) := of_decide_eq_false (Bool.eq_false_iff.mpr c)
      rw [List.map_cons, List.length_cons] at c
      omega
end
section
variable {P : Program} {w : World} {K : PySem.W.Frag} {mg : Str → Option Value} {base : Heap}
variable {t_BOUND t_DIGITS t_LETTERS t_LONGEST_INTEGER t_MOST_TIMES : Tok} {a_MARKS a_SIGNS a_BadNumber a_BadText a_BadTurn a_ElseputError a_Reader a_Weaving : Addr}
theorem WvAt.btl {K : PySem.W.Frag} {H H' : Hp} {s a : Addr} {l : List V} {ns : List Int} (h : WvAt K H a ns) (hl : H s = some (.lst l)) (b : Bt s H H') : WvAt K H' a ns := by
  obtain ⟨C, dx, t, h1, h2, h3⟩ := h
  exact ⟨C, dx, t, h1, b _ _ (fun z => by rw [z, hl] at h2; cases h2) h2, SqT.bt h3 (fun xs => ⟨fun e => (by rw [hl] at e; cases e), fun o e => (by rw [hl] at e; cases e)⟩) b⟩
theorem WvAt.bti {K : PySem.W.Frag} {H H' : Hp} {b a C dx : Addr} {fs : List (Str × V)} {ns : List Int} (h : WvAt K H a ns) (hb : H b = some (.ins C dx fs)) (ne : a ≠ b) (s : Bt b H H') : WvAt K H' a ns := by
  obtain ⟨C2, dx2, t, h1, h2, h3⟩ := h
  exact ⟨C2, dx2, t, h1, s _ _ ne h2, SqT.bt h3 (fun xs => ⟨fun e => (by rw [hb] at e; cases e), fun o e => (by rw [hb] at e; cases e)⟩) s⟩
theorem WvAt.some {K : PySem.W.Frag} {H : Hp} {a : Addr} {ns : List Int} (h : WvAt K H a ns) : ∃ o, H a = some o := by
  obtain ⟨_, _, _, _, h, _⟩ := h
  exact ⟨_, h⟩
/-- the world behind the three weavings -/
structure Wd (K : PySem.W.Frag) (H : Hp) (st scr R p1 p2 p3 a1 a2 a3 W : Addr) (m1 m2 m3 : List Int) : Prop where
  dr : DrAt H st scr
  r : H R = some (.lst [.ref p1, .ref p2, .ref p3])
  w : H W = some (.lst [.ref a1, .ref a2, .ref a3])
  h1 : H p1 = some (.lst (m1.map V.int))
  h2 : H p2 = some (.lst (m2.map V.int))
  h3 : H p3 = some (.lst (m3.map V.int))
  w1 : WvAt K H a1 m1
  w2 : WvAt K H a2 m2
  w3 : WvAt K H a3 m3
  nR : R ≠ st
  nW : W ≠ st
  n1 : p1 ≠ st
  n2 : p2 ≠ st
  n3 : p3 ≠ st
theorem Wd.same {K : PySem.W.Frag} {H H' : Hp} {st scr R p1 p2 p3 a1 a2 a3 W : Addr} {m1 m2 m3 : List Int} (h : Wd K H st scr R p1 p2 p3 a1 a2 a3 W m1 m2 m3) (s : Same H H') : Wd K H' st scr R p1 p2 p3 a1 a2 a3 W m1 m2 m3 :=
  ⟨h.dr.new s, s _ _ h.r, s _ _ h.w, s _ _ h.h1, s _ _ h.h2, s _ _ h.h3, h.w1.same s, h.w2.same s, h.w3.same s, h.nR, h.nW, h.n1, h.n2, h.n3⟩
theorem Wd.bt {K : PySem.W.Frag} {H H' : Hp} {st scr R p1 p2 p3 a1 a2 a3 W : Addr} {m1 m2 m3 : List Int} (h : Wd K H st scr R p1 p2 p3 a1 a2 a3 W m1 m2 m3) (s : Bt st H H') (d : DrAt H' st scr) : Wd K H' st scr R p1 p2 p3 a1 a2 a3 W m1 m2 m3 :=
  ⟨d, s _ _ h.nR h.r, s _ _ h.nW h.w, s _ _ h.n1 h.h1, s _ _ h.n2 h.h2, s _ _ h.n3 h.h3, h.w1.bt h.dr s, h.w2.bt h.dr s, h.w3.bt h.dr s, h.nR, h.nW, h.n1, h.n2, h.n3⟩
theorem DrAt.bti {H H' : Hp} {st scr b C dx : Addr} {fs : List (Str × V)} (d : DrAt H st scr) (hb : H b = some (.ins C dx fs)) (s : Bt b H H') : DrAt H' st scr := by
  obtain ⟨ns, i, v, m, c, e1, e2, h⟩ := d
  exact ⟨ns, i, v, m, c, s _ _ (ne_of e1 hb (by intro z; cases z)) e1, s _ _ (ne_of e2 hb (by intro z; cases z)) e2, h⟩
theorem ints_ne {H : Hp} {p R x : Addr} {m : List Int} {l : List V} (hp : H p = some (.lst (m.map V.int))) (hR : H R = some (.lst (.ref x :: l))) : p ≠ R := fun e => by
  rw [e, hR] at hp
  cases m with
  | nil => cases hp
  | cons y m => cases hp
theorem rep_two (m : List Int) : repI m 2 = m ++ m := by
  unfold repI
  show (List.replicate 2 m).flatten = _
  simp
theorem neg_head {ns : List Int} {z : Int} (h : neg1 ns = some z) : ∃ r, ns.filter (fun i => decide (i < 0)) = z :: r := by
  unfold neg1 at h
  rw [← List.head?_filter] at h
  cases e : ns.filter (fun i => decide (i < 0)) with
  | nil => rw [e] at h; cases h
  | cons a r =>
    rw [e] at h
    cases h
    exact ⟨r, rfl⟩
theorem neg_any {ns : List Int} (h : ∃ z ∈ ns, z < 0) : ∃ z, neg1 ns = some z := by
  cases e : neg1 ns with
  | some z => exact ⟨z, rfl⟩
  | none =>
    obtain ⟨z, hz, hn⟩ := h
    unfold neg1 at e
    rw [List.find?_eq_none] at e
    exact absurd (decide_eq_true hn) (e z hz)
theorem Wd.all {H : Hp} {st scr R p1 p2 p3 a1 a2 a3 W : Addr} {m1 m2 m3 : List Int} (wd : Wd K H st scr R p1 p2 p3 a1 a2 a3 W m1 m2 m3) : All2 (WvI K H) [.ref a1, .ref a2, .ref a3] [m1, m2, m3] ∧ All2 (RwI H) [.ref p1, .ref p2, .ref p3] [m1, m2, m3] :=
  ⟨.cons ⟨a1, rfl, wd.w1⟩ (.cons ⟨a2, rfl, wd.w2⟩ (.cons ⟨a3, rfl, wd.w3⟩ .nil)), .cons ⟨p1, rfl, wd.h1⟩ (.cons ⟨p2, rfl, wd.h2⟩ (.cons ⟨p3, rfl, wd.h3⟩ .nil))⟩
theorem ns_three {m1 m2 m3 : List Int} (o1 : NmOk m1) (o2 : NmOk m2) (o3 : NmOk m3) (l1 : m1.length ≤ 100) (l2 : m2.length ≤ 100) (l3 : m3.length ≤ 100) : NsOk [m1, m2, m3] := ⟨(by show 3 ≤ 10; decide), fun ns hm => by
  simp only [List.mem_cons, List.not_mem_nil, or_false] at hm
  rcases hm with rfl | rfl | rfl
  · exact ⟨o1, l1⟩
  · exact ⟨o2, l2⟩
  · exact ⟨o3, l3⟩⟩
theorem ok_law {f : Addr} {fd : FuncData} {f__law_state : Addr} {fd__law_state : FuncData} {f__law_numbers : Addr} {fd__law_numbers : FuncData} {f__law_draw : Addr} {fd__law_draw : FuncData} {f__law_near : Addr} {fd__law_near : FuncData} {f__law_all_right : Addr} {fd__law_all_right : FuncData} {f__law_shows : Addr} {fd__law_shows : FuncData} {f__law_same : Addr} {fd__law_same : FuncData} {f__law_line_right : Addr} {fd__law_line_right : FuncData} {f__law_times_right : Addr} {fd__law_times_right : FuncData} {f__law_try : Addr} {fd__law_try : FuncData} {f_Weaving___init__ : Addr} {fd_Weaving___init__ : FuncData} {f_Weaving_without : Addr} {fd_Weaving_without : FuncData} {f_Weaving___add__ : Addr} {fd_Weaving___add__ : FuncData} {f_Weaving___iadd__ : Addr} {fd_Weaving___iadd__ : FuncData} {f_Weaving___mul__ : Addr} {fd_Weaving___mul__ : FuncData} (F : Fun K "law" "law" s_law f fd) (T : Gs K mg t_BOUND t_DIGITS t_LETTERS t_LONGEST_INTEGER t_MOST_TIMES a_MARKS a_SIGNS a_BadNumber a_BadText a_BadTurn a_ElseputError a_Reader a_Weaving) (c__law_state : Cal P w K mg base CX0 1 "_law_state" f__law_state fd__law_state ["_law_script"] (sp__law_state K)) (c__law_numbers : Cal P w K mg base CX0 3 "_law_numbers" f__law_numbers fd__law_numbers ["_law_state_here", "_law_most"] (sp__law_numbers K)) (c__law_draw : Cal P w K mg base CX0 1 "_law_draw" f__law_draw fd__law_draw ["_law_state_here", "_law_many"] (sp__law_draw K)) (c__law_near : Cal P w K mg base CX0 4 "_law_near" f__law_near fd__law_near ["_law_state_here", "_law_turns"] (sp__law_near K)) (c__law_all_right : Cal P w K mg base CX0 28 "_law_all_right" f__law_all_right fd__law_all_right ["_law_weavings", "_law_rows"] (sp__law_all_right K)) (c__law_shows : Cal P w K mg base CX0 27 "_law_shows" f__law_shows fd__law_shows ["_law_weaving", "_law_turns"] (sp__law_shows K)) (c__law_same : Cal P w K mg base CX0 26 "_law_same" f__law_same fd__law_same ["_law_actual", "_law_due"] (sp__law_same K)) (c__law_line_right : Cal P w K mg base CX0 28 "_law_line_right" f__law_line_right fd__law_line_right ["_law_state_here", "_law_turns"] (sp__law_line_right K)) (c__law_times_right : Cal P w K mg base CX0 28 "_law_times_right" f__law_times_right fd__law_times_right ["_law_state_here", "_law_weaving", "_law_turns"] (sp__law_times_right K)) (c__law_try : Cal P w K mg base CX0 7 "_law_try" f__law_try fd__law_try ["_law_deed", "_law_weaving", "_law_thing"] (sp__law_try K)) (c_Weaving___init__ : CalI P w K mg base (L2.CX P w) 3 "Weaving" a_Weaving f_Weaving___init__ fd_Weaving___init__ ["self", "turns"] (sp_Weaving___init__ K)) (c_Weaving_without : CalM P w K mg base (L2.CX P w) 5 a_Weaving "without" f_Weaving_without fd_Weaving_without ["self", "writer"] (sp_Weaving_without K)) (c_Weaving___add__ : CalO P w K mg base (L2.CX P w) 5 a_Weaving .Add f_Weaving___add__ fd_Weaving___add__ ["self", "other"] (sp_Weaving___add__ K)) (c_Weaving___iadd__ : CalInp P w K mg base CX0 1 a_Weaving .Add f_Weaving___iadd__ fd_Weaving___iadd__ ["self", "other"] (sp_Weaving___iadd__ K)) (c_Weaving___mul__ : CalOT P w K mg base (L2.CX P w) 5 a_Weaving .Mult f_Weaving___mul__ fd_Weaving___mul__ ["self", "times"] (sp_Weaving___mul__ K)) : FnOk P w K mg base CX0 80 f fd ["_law_script"] (sp_law K) := by
  refine F.ok sc_law (fun vs H Q E h => len_law h) (fun cdv A outer s H vs Q E hr h => ?_)
  obtain ⟨a, ns0, rfl, hS, hl, q⟩ := h
  refine ⟨_, (pss_cons (ps_set (i := 1) sc_law.nd rfl (.inl rfl) (pe_call c__law_state.G (hr.mono (by first | decide | omega)) rfl c__law_state.m c__law_state.kp c__law_state.b .nil pass0 (pa_cons (v_ 0) pa_nil))) (pss_cons (ps_set (i := 2) sc_law.nd rfl (.inl rfl) (pe_call c__law_numbers.G (hr.mono (by first | decide | omega)) rfl c__law_numbers.m c__law_numbers.kp c__law_numbers.b .nil pass0 (pa_cons (v_ 1) (pa_cons pe_int pa_nil)))) (pss_cons (ps_set (i := 3) sc_law.nd rfl (.inl rfl) (pe_lst (pa_cons (v_ 2) (pa_cons (pe_call c__law_near.G (hr.mono (by first | decide | omega)) rfl c__law_near.m c__law_near.kp c__law_near.b .nil pass0 (pa_cons (v_ 1) (pa_cons (v_ 2) pa_nil))) (pa_cons (pe_call c__law_near.G (hr.mono (by first | decide | omega)) rfl c__law_near.m c__law_near.kp c__law_near.b .nil pass0 (pa_cons (v_ 1) (pa_cons (v_ 2) pa_nil))) pa_nil))))) (pss_cons (ps_set (i := 4) sc_law.nd rfl (.inl rfl) (pe_callTy (listK K) (by rfl) T.z_list (by decide +kernel) (pa_cons (v_ 2) pa_nil))) (pss_cons (ps_set (i := 5) sc_law.nd rfl (.inl rfl) (pe_lst (pa_cons (pe_make c_Weaving___init__.mkc c_Weaving___init__.G (hr.mono (by first | decide | omega)) rfl c_Weaving___init__.m c_Weaving___init__.b .nil passL (pa_cons (v_ 4) pa_nil)) (pa_cons (pe_make c_Weaving___init__.mkc c_Weaving___init__.G (hr.mono (by first | decide | omega)) rfl c_Weaving___init__.m c_Weaving___init__.b .nil passL (pa_cons (pe_callTy (listK K) (by rfl) T.z_list (by decide +kernel) (pa_cons (e_x K (v_ 3) pe_int) pa_nil)) pa_nil)) (pa_cons (pe_make c_Weaving___init__.mkc c_Weaving___init__.G (hr.mono (by first | decide | omega)) rfl c_Weaving___init__.m c_Weaving___init__.b .nil passL (pa_cons (pe_callTy (listK K) (by rfl) T.z_list (by decide +kernel) (pa_cons (e_x K (v_ 3) pe_int) pa_nil)) pa_nil)) pa_nil))))) (pss_cons (ps_expr (pe_bm PySem.F.plainAttrs_list PySem.F.slot_list_append PySem.F.type_list_append mt_append (v_ 4) (pa_cons pe_int pa_nil))) (pss_cons (ps_expr (pe_bm0 PySem.F.plainAttrs_list PySem.F.slot_list_reverse PySem.F.type_list_reverse mt_reverseL (v_ 4))) (pss_cons (ps_if (pt_not (pt_t K (pe_call c__law_all_right.G (hr.mono (by first | decide | omega)) rfl c__law_all_right.m c__law_all_right.kp c__law_all_right.b .nil pass0 (pa_cons (v_ 5) (pa_cons (v_ 3) pa_nil))))) (pss_one (ps_ret pe_bl)) pss_nil) (pss_cons (ps_asg (v_ 5) (pg_unl (by rfl) (pgs_cons (pg_name (i := 14) sc_law.nd rfl (.inl rfl)) (pgs_cons (pg_name (i := 9) sc_law.nd rfl (.inl rfl)) (pgs_cons (pg_name (i := 15) sc_law.nd rfl (.inl rfl)) pgs_nil))))) (pss_cons (ps_if (PW.pt (pw_or (pt_not (pt_t K (pe_call c__law_shows.G (hr.mono (by first | decide | omega)) rfl c__law_shows.m c__law_shows.kp c__law_shows.b .nil pass0 (pa_cons (pe_op (op_own c_Weaving___add__.op c_Weaving___add__.G (hr.mono (by first | decide | omega)) c_Weaving___add__.b passL) (v_ 14) (v_ 9)) (pa_cons (pe_op (addK K) (e_x K (v_ 3) pe_int) (e_x K (v_ 3) pe_int)) pa_nil))))) (pw_or1 (pt_not (pt_t K (pe_call c__law_shows.G (hr.mono (by first | decide | omega)) rfl c__law_shows.m c__law_shows.kp c__law_shows.b .nil pass0 (pa_cons (pe_op (op_own c_Weaving___add__.op c_Weaving___add__.G (hr.mono (by first | decide | omega)) c_Weaving___add__.b passL) (v_ 9) (v_ 9)) (pa_cons (pe_op (addK K) (e_x K (v_ 3) pe_int) (e_x K (v_ 3) pe_int)) pa_nil)))))))) (pss_one (ps_ret pe_bl)) pss_nil) (pss_cons (ps_for PassesOwn.never rfl (pi_list (pe_op (addK K) (pe_lst (pa_cons (pe_call c__law_draw.G (hr.mono (by first | decide | omega)) rfl c__law_draw.m c__law_draw.kp c__law_draw.b .nil pass0 (pa_cons (v_ 1) (pa_cons pe_int pa_nil))) pa_nil)) (pe_slice (slK K) (v_ 2) po_none (po_some pe_int)))) (pg_name (i := 6) sc_law.nd rfl (.inr rfl)) (pss_one (ps_if (pt_not (pt_t K (pe_call c__law_shows.G (hr.mono (by first | decide | omega)) rfl c__law_shows.m c__law_shows.kp c__law_shows.b .nil pass0 (pa_cons (pe_meth (v_ 14) c_Weaving_without.cl c_Weaving_without.me c_Weaving_without.G (hr.mono (by first | decide | omega)) c_Weaving_without.b .nil passL (pa_cons (v_ 6) pa_nil)) (pa_cons (pe_lc (own := [("_law_turn", 16)]) (g := gName 16) (by rfl) sc_law.nd (pi_list (v_ 2)) (blkOk_by (N := ["_law_script", "_law_state_here", "_law_first", "_law_rows", "_law_handed", "_law_weavings", "_law_writer", "_law_joined", "_law_alias", "_law_two", "_law_row", "_law_spot", "_law_below", "_law_lowest", "_law_one", "_law_three", "_law_turn"]) (sc := defScope s_law) (by decide +kernel)) (fun _ _ _ _ _ => pg_name (i := 16) sc_law.nd rfl (Or.inl rfl)) (fun _ _ _ _ _ => pts_one (pt_c (neK K hr.units) (v_ 16) (v_ 6))) (fun _ _ _ _ _ => (v_ 16))) pa_nil))))) (pss_one (ps_ret pe_bl)) pss_nil))) (pss_cons (ps_if (PW.pt (pw_or (pt_not (pt_t K (pe_call c__law_times_right.G (hr.mono (by first | decide | omega)) rfl c__law_times_right.m c__law_times_right.kp c__law_times_right.b .nil pass0 (pa_cons (v_ 1) (pa_cons (v_ 14) (pa_cons (e_x K (v_ 3) pe_int) pa_nil)))))) (pw_or1 (pt_not (pt_t K (pe_call c__law_times_right.G (hr.mono (by first | decide | omega)) rfl c__law_times_right.m c__law_times_right.kp c__law_times_right.b .nil pass0 (pa_cons (v_ 1) (pa_cons (v_ 9) (pa_cons (e_x K (v_ 3) pe_int) pa_nil))))))))) (pss_one (ps_ret pe_bl)) pss_nil) (pss_cons (ps_set (i := 7) sc_law.nd rfl (.inl rfl) (pe_op (op_own c_Weaving___add__.op c_Weaving___add__.G (hr.mono (by first | decide | omega)) c_Weaving___add__.b passL) (v_ 14) (v_ 9))) (pss_cons (ps_augO (i := 7) sc_law.nd rfl (.inl rfl) c_Weaving___iadd__.ip c_Weaving___iadd__.G (hr.mono (by first | decide | omega)) c_Weaving___iadd__.b (fun σ pins H s e s' I h => pass0 pins σ H s e s' I h) (v_ 15)) (pss_cons (ps_if (PW.pt (pw_or (pt_not (pt_t K (pe_call c__law_shows.G (hr.mono (by first | decide | omega)) rfl c__law_shows.m c__law_shows.kp c__law_shows.b .nil pass0 (pa_cons (v_ 7) (pa_cons (pe_op (addK K) (pe_op (addK K) (e_x K (v_ 3) pe_int) (e_x K (v_ 3) pe_int)) (e_x K (v_ 3) pe_int)) pa_nil))))) (pw_or1 (pt_not (pt_t K (pe_call c__law_all_right.G (hr.mono (by first | decide | omega)) rfl c__law_all_right.m c__law_all_right.kp c__law_all_right.b .nil pass0 (pa_cons (v_ 5) (pa_cons (v_ 3) pa_nil)))))))) (pss_one (ps_ret pe_bl)) pss_nil) (pss_cons (ps_set (i := 8) sc_law.nd rfl (.inl rfl) (v_ 9)) (pss_cons (ps_augO (i := 9) sc_law.nd rfl (.inl rfl) c_Weaving___iadd__.ip c_Weaving___iadd__.G (hr.mono (by first | decide | omega)) c_Weaving___iadd__.b (fun σ pins H s e s' I h => pass0 pins σ H s e s' I h) (v_ 15)) (pss_cons (ps_asg (pe_op (addK K) (e_x K (v_ 3) pe_int) (e_x K (v_ 3) pe_int)) (pg_sub (v_ 3) pe_int set_list)) (pss_cons (ps_if (PW.pt (pw_or (pt_not (pt_t K (pe_call c__law_shows.G (hr.mono (by first | decide | omega)) rfl c__law_shows.m c__law_shows.kp c__law_shows.b .nil pass0 (pa_cons (v_ 8) (pa_cons (e_x K (v_ 3) pe_int) pa_nil))))) (pw_or1 (pt_not (pt_t K (pe_call c__law_all_right.G (hr.mono (by first | decide | omega)) rfl c__law_all_right.m c__law_all_right.kp c__law_all_right.b .nil pass0 (pa_cons (pe_lst (pa_cons (v_ 14) (pa_cons (v_ 9) (pa_cons (v_ 15) pa_nil)))) (pa_cons (v_ 3) pa_nil)))))))) (pss_one (ps_ret pe_bl)) pss_nil) (pss_cons (ps_if (pt_not (pt_t K (pe_call c__law_shows.G (hr.mono (by first | decide | omega)) rfl c__law_shows.m c__law_shows.kp c__law_shows.b .nil pass0 (pa_cons (pe_meth (v_ 9) c_Weaving_without.cl c_Weaving_without.me c_Weaving_without.G (hr.mono (by first | decide | omega)) c_Weaving_without.b .nil passL (pa_cons pe_int pa_nil)) (pa_cons (pe_lc (own := [("_law_turn", 16)]) (g := gName 16) (by rfl) sc_law.nd (pi_list (e_x K (v_ 3) pe_int)) (blkOk_by (N := ["_law_script", "_law_state_here", "_law_first", "_law_rows", "_law_handed", "_law_weavings", "_law_writer", "_law_joined", "_law_alias", "_law_two", "_law_row", "_law_spot", "_law_below", "_law_lowest", "_law_one", "_law_three", "_law_turn"]) (sc := defScope s_law) (by decide +kernel)) (fun _ _ _ _ _ => pg_name (i := 16) sc_law.nd rfl (Or.inl rfl)) (fun _ _ _ _ _ => pts_one (pt_c (neK K hr.units) (v_ 16) pe_int)) (fun _ _ _ _ _ => (v_ 16))) pa_nil))))) (pss_one (ps_ret pe_bl)) pss_nil) (pss_cons (ps_if (pt_not (pt_t K (pe_call c__law_shows.G (hr.mono (by first | decide | omega)) rfl c__law_shows.m c__law_shows.kp c__law_shows.b .nil pass0 (pa_cons (pe_op (op_ownI c_Weaving___mul__.op c_Weaving___mul__.G (hr.mono (by first | decide | omega)) c_Weaving___mul__.b passL) (v_ 9) pe_int) (pa_cons (pe_op (addK K) (e_x K (v_ 3) pe_int) (e_x K (v_ 3) pe_int)) pa_nil))))) (pss_one (ps_ret pe_bl)) pss_nil) (pss_cons (ps_for PassesOwn.never rfl (pi_list (v_ 3)) (pg_name (i := 10) sc_law.nd rfl (.inl rfl)) (pss_one (ps_if (pt_not (pt_t K (pe_call c__law_shows.G (hr.mono (by first | decide | omega)) rfl c__law_shows.m c__law_shows.kp c__law_shows.b .nil pass0 (pa_cons (pe_call c__law_try.G (hr.mono (by first | decide | omega)) rfl c__law_try.m c__law_try.kp c__law_try.b .nil pass0 (pa_cons pe_str (pa_cons pe_non (pa_cons (pe_join pe_str (pe_lc (own := [("_law_turn", 16)]) (g := gName 16) (by rfl) sc_law.nd (pi_list (v_ 10)) (blkOk_by (N := ["_law_script", "_law_state_here", "_law_first", "_law_rows", "_law_handed", "_law_weavings", "_law_writer", "_law_joined", "_law_alias", "_law_two", "_law_row", "_law_spot", "_law_below", "_law_lowest", "_law_one", "_law_three", "_law_turn"]) (sc := defScope s_law) (by decide +kernel)) (fun _ _ _ _ _ => pg_name (i := 16) sc_law.nd rfl (Or.inl rfl)) (fun _ _ _ _ _ => pts_nil) (fun _ _ _ _ _ => (pe_callTy call_str_int (by rfl) T.z_str (by decide +kernel) (pa_cons (v_ 16) pa_nil))))) pa_nil)))) (pa_cons (v_ 10) pa_nil))))) (pss_one (ps_ret pe_bl)) pss_nil))) (pss_cons (ps_set (i := 11) sc_law.nd rfl (.inl rfl) (pe_call c__law_draw.G (hr.mono (by first | decide | omega)) rfl c__law_draw.m c__law_draw.kp c__law_draw.b .nil pass0 (pa_cons (v_ 1) (pa_cons (pe_op (addK K) (pe_callB (lenK K) (by rfl) T.z_len PySem.boot_len (pa_cons (v_ 2) pa_nil)) pe_int) pa_nil)))) (pss_cons (ps_set (i := 12) sc_law.nd rfl (.inl rfl) (pe_op (addK K) (pe_op (addK K) (pe_slice (slK K) (v_ 2) po_none (po_some (v_ 11))) (pe_lst (pa_cons (pe_op op_subM (pe_un un_negM pe_int) (pe_call c__law_draw.G (hr.mono (by first | decide | omega)) rfl c__law_draw.m c__law_draw.kp c__law_draw.b .nil pass0 (pa_cons (v_ 1) (pa_cons pe_int pa_nil)))) pa_nil))) (pe_slice (slK K) (v_ 2) (po_some (v_ 11)) po_none))) (Evl.pss_cut (ps_if (pt_c (eqK K hr.units) (pe_call c__law_draw.G (hr.mono (by first | decide | omega)) rfl c__law_draw.m c__law_draw.kp c__law_draw.b .nil pass0 (pa_cons (v_ 1) (pa_cons pe_int pa_nil))) pe_int) (pss_cons (ps_set (i := 11) sc_law.nd rfl (.inl rfl) (pe_call c__law_draw.G (hr.mono (by first | decide | omega)) rfl c__law_draw.m c__law_draw.kp c__law_draw.b .nil pass0 (pa_cons (v_ 1) (pa_cons (pe_op (addK K) (pe_callB (lenK K) (by rfl) T.z_len PySem.boot_len (pa_cons (v_ 12) pa_nil)) pe_int) pa_nil)))) (pss_one (ps_set (i := 12) sc_law.nd rfl (.inl rfl) (pe_op (addK K) (pe_op (addK K) (pe_slice (slK K) (v_ 12) po_none (po_some (v_ 11))) (pe_lst (pa_cons (pe_un un_negM pe_int) pa_nil))) (pe_slice (slK K) (v_ 12) (po_some (v_ 11)) po_none))))) pss_nil) (pss_cons (ps_set (i := 13) sc_law.nd rfl (.inl rfl) (e_x K (pe_lc (own := [("_law_turn", 16)]) (g := gName 16) (by rfl) sc_law.nd (pi_list (v_ 12)) (blkOk_by (N := ["_law_script", "_law_state_here", "_law_first", "_law_rows", "_law_handed", "_law_weavings", "_law_writer", "_law_joined", "_law_alias", "_law_two", "_law_row", "_law_spot", "_law_below", "_law_lowest", "_law_one", "_law_three", "_law_turn"]) (sc := defScope s_law) (by decide +kernel)) (fun _ _ _ _ _ => pg_name (i := 16) sc_law.nd rfl (Or.inl rfl)) (fun _ _ _ _ _ => pts_one (pt_c op_ltM (v_ 16) pe_int)) (fun _ _ _ _ _ => (v_ 16))) pe_int)) (pss_cons (ps_if (pt_not (pt_t K (pe_call c__law_same.G (hr.mono (by first | decide | omega)) rfl c__law_same.m c__law_same.kp c__law_same.b .nil pass0 (pa_cons (pe_call c__law_try.G (hr.mono (by first | decide | omega)) rfl c__law_try.m c__law_try.kp c__law_try.b .nil pass0 (pa_cons pe_str (pa_cons pe_non (pa_cons (v_ 12) pa_nil)))) (pa_cons (pe_tup (pa_cons pe_str (pa_cons pe_bl (pa_cons pe_bl (pa_cons pe_bl (pa_cons (v_ 13) pa_nil)))))) pa_nil))))) (pss_one (ps_ret pe_bl)) pss_nil) (pss_one (ps_ret (pe_andM (pe_call c__law_line_right.G (hr.mono (by first | decide | omega)) rfl c__law_line_right.m c__law_line_right.kp c__law_line_right.b .nil pass0 (pa_cons (v_ 1) (pa_cons (v_ 2) pa_nil))) (pe_one (pe_call c__law_line_right.G (hr.mono (by first | decide | omega)) rfl c__law_line_right.m c__law_line_right.kp c__law_line_right.b .nil pass0 (pa_cons (v_ 1) (pa_cons (e_x K (v_ 3) pe_int) pa_nil)))))))))))))))))))))))))))))))))), ?_⟩
  refine ⟨a, ns0, rfl, hS, hl, fun H1 st scr s1 n1 n2 d1 => ?_⟩
  refine ⟨st, scr, 8, rfl, d1, by decide, fun H2 p1 m1 b2 d2 np1 hp1 l1 ok1 => ?_⟩
  have p1st : p1 ≠ st := d1.ne_new np1
  refine g_is [some (.ref a), some (.ref st), some (.ref p1), none, none, none, none, none, none, none, none, none, none, none, none, none, none] rfl ?_
  refine ⟨st, scr, p1, m1, rfl, d2, hp1, p1st, l1, ok1, fun H3 p2 m2 b3 d3 np2 hp2 l2 ok2 => ?_⟩
  have p2st : p2 ≠ st := d2.ne_new np2
  have hp1 := b3 _ _ p1st hp1
  refine ⟨st, scr, p1, m1, rfl, d3, hp1, p1st, l1, ok1, fun H4 p3 m3 b4 d4 np3 hp3 l3 ok3 => ?_⟩
  have p3st : p3 ≠ st := d3.ne_new np3
  have hp1 := b4 _ _ p1st hp1
  have hp2 := b4 _ _ p2st hp2
  clear b2 b3 b4 np1 np2 np3 s1 n1 n2 d1 d2 d3 hS
  refine ⟨(by show 3 ≤ sizeLine; decide), fun R nR => ?_⟩
  have Rst : R ≠ st := d4.ne_new nR
  have s5 := same_new (o := .lst [.ref p1, .ref p2, .ref p3]) nR
  have hR := upd_same (H := H4) (a := R) (o := .lst [.ref p1, .ref p2, .ref p3])
  have d5 := d4.new s5
  have hp1 := s5 _ _ hp1
  have hp2 := s5 _ _ hp2
  have hp3 := s5 _ _ hp3
  generalize upd H4 R (.lst [.ref p1, .ref p2, .ref p3]) = H5 at s5 hR d5 hp1 hp2 hp3 ⊢
  clear s5 nR d4
  refine g_is [some (.ref a), some (.ref st), some (.ref p1), some (.ref R), none, none, none, none, none, none, none, none, none, none, none, none, none] rfl ?_
  refine ⟨p1, _, rfl, .inl (SqL.of hp1), fun h nh => ?_⟩
  have hst : h ≠ st := d5.ne_new nh
  have hsc : h ≠ scr := d5.ne_scr nh
  have hh1 : p1 ≠ h := ne_of_none hp1 nh
  have hh2 : p2 ≠ h := ne_of_none hp2 nh
  have hh3 : p3 ≠ h := ne_of_none hp3 nh
  have hhR : R ≠ h := ne_of_none hR nh
  have s6 := same_new (o := .lst (m1.map V.int)) nh
  have hh := upd_same (H := H5) (a := h) (o := .lst (m1.map V.int))
  have d6 := d5.new s6
  have hp1 := s6 _ _ hp1
  have hp2 := s6 _ _ hp2
  have hp3 := s6 _ _ hp3
  have hR := s6 _ _ hR
  generalize upd H5 h (.lst (m1.map V.int)) = H6 at s6 hh d6 hp1 hp2 hp3 hR ⊢
  clear s6 nh d5
  refine g_is [some (.ref a), some (.ref st), some (.ref p1), some (.ref R), some (.ref h), none, none, none, none, none, none, none, none, none, none, none, none] rfl ?_
  have i1 : atI [V.ref p1, .ref p2, .ref p3] (1 : Int) = some (.ref p2) := rfl
  have i2 : atI [V.ref p1, .ref p2, .ref p3] (2 : Int) = some (.ref p3) := rfl
  refine fun a1 dz1 nx1 nd1 ne1 => made_weaving nx1 nd1 ne1 T.n_Weaving (.inl (SqL.of hh)) (by omega) (ok1.wv (by omega)).small ?_
  rw [neg_none (ok1.wv (by omega)).pos]
  intro H7 s7 w1
  refine ⟨rfl, ?_⟩
  refine ⟨_, .inl (SqL.of (s7 _ _ hR)), _, i1, p2, _, rfl, .inl (SqL.of (s7 _ _ hp2)), fun u2 nu2 => ?_⟩
  have s8 := same_new (o := .lst (m2.map V.int)) nu2
  have hu2 := upd_same (H := H7) (a := u2) (o := .lst (m2.map V.int))
  generalize upd H7 u2 (.lst (m2.map V.int)) = H8 at s8 hu2 ⊢
  refine fun a2 dz2 nx2 nd2 ne2 => made_weaving nx2 nd2 ne2 T.n_Weaving (.inl (SqL.of hu2)) (by omega) (ok2.wv (by omega)).small ?_
  rw [neg_none (ok2.wv (by omega)).pos]
  intro H9 s9 w2
  refine ⟨rfl, ?_⟩
  have s79 := s8.trans s9
  have s69 := s7.trans s79
  refine ⟨_, .inl (SqL.of (s69 _ _ hR)), _, i2, p3, _, rfl, .inl (SqL.of (s69 _ _ hp3)), fun u3 nu3 => ?_⟩
  have s10 := same_new (o := .lst (m3.map V.int)) nu3
  have hu3 := upd_same (H := H9) (a := u3) (o := .lst (m3.map V.int))
  generalize upd H9 u3 (.lst (m3.map V.int)) = H10 at s10 hu3 ⊢
  refine fun a3 dz3 nx3 nd3 ne3 => made_weaving nx3 nd3 ne3 T.n_Weaving (.inl (SqL.of hu3)) (by omega) (ok3.wv (by omega)).small ?_
  rw [neg_none (ok3.wv (by omega)).pos]
  intro H11 s11 w3
  refine ⟨rfl, ?_⟩
  have s9b := s10.trans s11
  have s6b := s69.trans s9b
  have a12 : a1 ≠ a2 := by
    obtain ⟨o, e⟩ := w1.some
    exact ne_of_none (s8 _ _ e) nx2
  have a13 : a1 ≠ a3 := by
    obtain ⟨o, e⟩ := w1.some
    exact ne_of_none (s10 _ _ (s79 _ _ e)) nx3
  have a23 : a2 ≠ a3 := by
    obtain ⟨o, e⟩ := w2.some
    exact ne_of_none (s10 _ _ e) nx3
  have w1 := w1.same (s79.trans s9b)
  have w2 := w2.same s9b
  have hh := s6b _ _ hh
  have hp1 := s6b _ _ hp1
  have hp2 := s6b _ _ hp2
  have hp3 := s6b _ _ hp3
  have hR := s6b _ _ hR
  have d11 := d6.new s6b
  clear s7 s8 s9 s79 s69 s10 s11 s9b s6b hu2 hu3 nu2 nu3 nx1 nx2 nx3 nd1 nd2 nd3 ne1 ne2 ne3 d6 i1 i2
  refine ⟨(by show 3 ≤ sizeLine; decide), fun W nW => ?_⟩
  have Wst : W ≠ st := d11.ne_new nW
  have Wh : W ≠ h := (ne_of_none hh nW).symm
  have s12 := same_new (o := .lst [.ref a1, .ref a2, .ref a3]) nW
  have hW := upd_same (H := H11) (a := W) (o := .lst [.ref a1, .ref a2, .ref a3])
  have d12 := d11.new s12
  have hp1 := s12 _ _ hp1
  have hp2 := s12 _ _ hp2
  have hp3 := s12 _ _ hp3
  have hR := s12 _ _ hR
  have hh := s12 _ _ hh
  have w1 := w1.same s12
  have w2 := w2.same s12
  have w3 := w3.same s12
  generalize upd H11 W (.lst [.ref a1, .ref a2, .ref a3]) = H12 at hW d12 hp1 hp2 hp3 hR hh w1 w2 w3 ⊢
  clear s12 nW d11
  refine g_is [some (.ref a), some (.ref st), some (.ref p1), some (.ref R), some (.ref h), some (.ref W), none, none, none, none, none, none, none, none, none, none, none] rfl ?_
  refine ⟨.inl ⟨rfl, _, SqL.of hh⟩, h, _, _, rfl, rfl, hh, line_lt (by rw [List.length_map]; omega), ?_⟩
  have b13 : Bt h H12 (upd H12 h (.lst (m1.map V.int ++ [.int 3]))) := Bt.st
  have hk := upd_same (H := H12) (a := h) (o := .lst (m1.map V.int ++ [.int 3]))
  have d13 := d12.at (o := .lst (m1.map V.int ++ [.int 3])) hst hsc
  generalize upd H12 h (.lst (m1.map V.int ++ [.int 3])) = H13 at b13 hk d13 ⊢
  refine ⟨.inl ⟨rfl, _, SqL.of hk⟩, h, _, rfl, rfl, hk, ?_⟩
  have b14 := b13.trans (Bt.st (st := h) (o := .lst (m1.map V.int ++ [V.int 3]).reverse))
  have d14 := d13.at (o := .lst (m1.map V.int ++ [V.int 3]).reverse) hst hsc
  generalize upd H13 h (.lst (m1.map V.int ++ [V.int 3]).reverse) = H14 at b14 d14 ⊢
  have wd : Wd K H14 st scr R p1 p2 p3 a1 a2 a3 W m1 m2 m3 := ⟨d14, b14 _ _ hhR hR, b14 _ _ Wh hW, b14 _ _ hh1 hp1, b14 _ _ hh2 hp2, b14 _ _ hh3 hp3, w1.btl hh b14, w2.btl hh b14, w3.btl hh b14, Rst, Wst, p1st, p2st, p3st⟩
  clear b13 b14 d13 d14 hk hp1 hp2 hp3 hR hW w1 w2 w3 hh d12
  have okk : NsOk [m1, m2, m3] := ⟨(by show 3 ≤ 10; decide), fun ns hm => by
    simp only [List.mem_cons, List.not_mem_nil, or_false] at hm
    rcases hm with rfl | rfl | rfl
    · exact ⟨ok1, by omega⟩
    · exact ⟨ok2, by omega⟩
    · exact ⟨ok3, by omega⟩⟩
  have all : ∀ {H : Hp}, Wd K H st scr R p1 p2 p3 a1 a2 a3 W m1 m2 m3 → All2 (WvI K H) [.ref a1, .ref a2, .ref a3] [m1, m2, m3] ∧ All2 (RwI H) [.ref p1, .ref p2, .ref p3] [m1, m2, m3] := fun {H} wd => ⟨.cons ⟨a1, rfl, wd.w1⟩ (.cons ⟨a2, rfl, wd.w2⟩ (.cons ⟨a3, rfl, wd.w3⟩ .nil)), .cons ⟨p1, rfl, wd.h1⟩ (.cons ⟨p2, rfl, wd.h2⟩ (.cons ⟨p3, rfl, wd.h3⟩ .nil))⟩
  have i0 : atI [V.ref p1, .ref p2, .ref p3] (0 : Int) = some (.ref p1) := rfl
  have i1 : atI [V.ref p1, .ref p2, .ref p3] (1 : Int) = some (.ref p2) := rfl
  have i2 : atI [V.ref p1, .ref p2, .ref p3] (2 : Int) = some (.ref p3) := rfl
  have v1 := ok1.wv (show m1.length ≤ 50000 by omega)
  have v2 := ok2.wv (show m2.length ≤ 50000 by omega)
  have v3 := ok3.wv (show m3.length ≤ 50000 by omega)
  have ins : ∀ {H : Hp} {b : Addr} {ns : List Int}, WvAt K H b ns → ∃ dx fs, H b = some (.ins a_Weaving dx fs) := fun {H b ns} w => wv_ins w T.n_Weaving
  refine ⟨W, R, _, _, _, rfl, wd.w, wd.r, (all wd).1, (all wd).2, okk, fun H15 s15 => ?_⟩
  have wd := wd.same s15
  clear s15
  refine ⟨W, _, rfl, SqL.of wd.w, rfl, _, _, rfl, ?_⟩
  refine g_is [some (.ref a), some (.ref st), some (.ref p1), some (.ref R), some (.ref h), some (.ref W), none, none, none, none, none, none, none, none, some (.ref a1), none, none] rfl ?_
  refine ⟨_, _, rfl, ?_⟩
  refine g_is [some (.ref a), some (.ref st), some (.ref p1), some (.ref R), some (.ref h), some (.ref W), none, none, none, some (.ref a2), none, none, none, none, some (.ref a1), none, none] rfl ?_
  refine ⟨_, _, rfl, ?_⟩
  refine g_is [some (.ref a), some (.ref st), some (.ref p1), some (.ref R), some (.ref h), some (.ref W), none, none, none, some (.ref a2), none, none, none, none, some (.ref a1), some (.ref a3), none] rfl ?_
  refine ⟨rfl, ?_⟩
  obtain ⟨da, fa, ia1⟩ := ins wd.w1
  obtain ⟨db, fb, ia2⟩ := ins wd.w2
  refine ⟨a1, a2, _, _, _, _, rfl, rfl, ia1, ia2, a1, a2, m1, m2, rfl, wd.w1, wd.w2, v1, v2, fun H16 x s16 nx hx => ?_⟩
  have ia2 := s16 _ _ ia2
  have wd := wd.same s16
  clear s16 nx
  refine ⟨_, .inl (SqL.of wd.r), _, i0, _, .inl (SqL.of wd.r), _, i1, .inl ⟨_, _, wd.h1, wd.h2, line_of (by rw [List.length_map, List.length_map]; omega), fun r nr => ?_⟩⟩
  rw [← List.map_append]
  have s17 := same_new (o := .lst ((m1 ++ m2).map V.int)) nr
  have hr1 := upd_same (H := H16) (a := r) (o := .lst ((m1 ++ m2).map V.int))
  have wd := wd.same s17
  have hx := hx.same s17
  have ia2 := s17 _ _ ia2
  generalize upd H16 r (.lst ((m1 ++ m2).map V.int)) = H17 at hr1 wd hx ia2 ⊢
  refine ⟨x, r, m1 ++ m2, rfl, hx, hr1, ok1.app ok2, by rw [List.length_append]; omega, fun H18 s18 => ?_⟩
  have wd := wd.same s18
  have ia2 := s18 _ _ ia2
  clear hr1 hx s17 s18 nr
  refine ite2 (fun e => nomatch e) (fun _ => ?_)
  refine ⟨a2, a2, _, _, _, _, rfl, rfl, ia2, ia2, a2, a2, m2, m2, rfl, wd.w2, wd.w2, v2, v2, fun H19 x s19 nx hx => ?_⟩
  have wd := wd.same s19
  clear s19 nx ia2
  refine ⟨_, .inl (SqL.of wd.r), _, i1, _, .inl (SqL.of wd.r), _, i1, .inl ⟨_, _, wd.h2, wd.h2, line_of (by rw [List.length_map]; omega), fun r nr => ?_⟩⟩
  rw [← List.map_append]
  have s20 := same_new (o := .lst ((m2 ++ m2).map V.int)) nr
  have hr1 := upd_same (H := H19) (a := r) (o := .lst ((m2 ++ m2).map V.int))
  have wd := wd.same s20
  have hx := hx.same s20
  generalize upd H19 r (.lst ((m2 ++ m2).map V.int)) = H20 at hr1 wd hx ⊢
  refine ⟨x, r, m2 ++ m2, rfl, hx, hr1, ok2.app ok2, by rw [List.length_append]; omega, fun H21 s21 => ?_⟩
  have wd := wd.same s21
  clear hr1 hx s20 s21 nr
  refine ite2 (fun e => nomatch e) (fun _ => ?_)
  refine ⟨st, scr, 13, rfl, wd.dr, by decide, many_small (by decide) (by decide), fun wz l wz0 wz1 d22 => ?_⟩
  have wd := wd.bt .st d22
  clear d22
  generalize upd H21 st (.lst l) = H22 at wd ⊢
  refine ⟨(by show 1 ≤ sizeLine; decide), fun L1 nL1 => ?_⟩
  have s23 := same_new (o := .lst [.int wz]) nL1
  have hL1 := upd_same (H := H22) (a := L1) (o := .lst [.int wz])
  have wd := wd.same s23
  clear s23
  generalize upd H22 L1 (.lst [.int wz]) = H23 at hL1 wd ⊢
  refine ⟨2, rfl, .inl ⟨_, SqL.of wd.h1, fun L2 nL2 => ?_⟩⟩
  rw [cutV_take _ (by decide), ← List.map_take, show ((2 : Int)).toNat = 2 from rfl]
  have s24 := same_new (o := .lst ((m1.take 2).map V.int)) nL2
  have hL2 := upd_same (H := H23) (a := L2) (o := .lst ((m1.take 2).map V.int))
  have wd := wd.same s24
  have hL1 := s24 _ _ hL1
  clear s24
  generalize upd H23 L2 (.lst ((m1.take 2).map V.int)) = H24 at hL1 hL2 wd ⊢
  refine .inl ⟨_, _, hL1, hL2, line_of (by rw [List.length_map, List.length_take]; show 1 + _ ≤ _; omega), fun L3 nL3 => ?_⟩
  have s25 := same_new (o := .lst ((wz :: m1.take 2).map V.int)) nL3
  have hL3 := upd_same (H := H24) (a := L3) (o := .lst ((wz :: m1.take 2).map V.int))
  have wd := wd.same s25
  have e25 : ([.int wz] ++ (m1.take 2).map V.int : List V) = (wz :: m1.take 2).map V.int := rfl
  rw [e25]
  clear s25 hL1 hL2
  generalize upd H24 L3 (.lst ((wz :: m1.take 2).map V.int)) = H25 at hL3 wd ⊢
  refine ⟨L3, rfl, ⟨_, SqL.of hL3⟩, ?_⟩
  refine for_list (K := K) (a := L3) (xs := (wz :: m1.take 2).map V.int) (fun i σ' H' => (∃ y, σ' = [some (.ref a), some (.ref st), some (.ref p1), some (.ref R), some (.ref h), some (.ref W), y, none, none, some (.ref a2), none, none, none, none, some (.ref a1), some (.ref a3), none]) ∧ Same H25 H') ⟨⟨_, rfl⟩, Same.refl _⟩ (fun i σ' H' _ h => SqL.of (h.2 _ _ hL3)) ?_ ?_
  · rintro i v σ' H26 hi ⟨⟨y, rfl⟩, s26⟩
    rw [List.getElem?_map] at hi
    obtain ⟨w, _, rfl⟩ := Option.map_eq_some_iff.mp hi
    have wd := wd.same s26
    obtain ⟨_, da, tu, hC, ia1, _⟩ := id wd.w1
    cases hC.symm.trans T.n_Weaving
    refine ⟨a1, _, _, rfl, ia1, rfl, a1, w, m1, rfl, wd.w1, v1, fun H27 x s27 nx hx => ?_⟩
    have wd := wd.same s27
    refine ⟨p1, rfl, ⟨_, SqL.of wd.h1⟩, fun D nD => ?_⟩
    have fl := List.length_filter_le (fun z => !decide (z = w)) m1
    refine lc_it (walk_list (xs := m1.map V.int)) (fun i H' => Same H27 H' ∧ H' D = some (.lst (((m1.take i).filter fun z => !decide (z = w)).map V.int))) ⟨same_new nD, upd_same⟩ (fun _ _ _ h => SqL.of (h.1 _ _ wd.h1)) ?_ ?_
    · rintro i v H28 H29 hi ⟨sm, hD⟩ ⟨rfl, hv⟩
      have hv : (m1.map V.int)[i]? = some v := by
        first | exact hv | exact hv _ (SqL.of (sm _ _ wd.h1))
      rw [List.getElem?_map] at hv
      obtain ⟨z, ez, rfl⟩ := Option.map_eq_some_iff.mp hv
      refine ⟨rfl, ?_⟩
      refine ite2 (fun c => ?_) (fun c => ?_)
      · refine ⟨_, hD, line_lt (by rw [List.length_map]; have := List.length_filter_le (fun z => !decide (z = w)) (m1.take i); rw [List.length_take] at this; omega), fun b o hb => ?_, ?_⟩
        · rw [upd_ne (ne_of_none hb nD)]
          exact sm _ _ hb
        · rw [upd_same, take_snoc ez, List.filter_append, List.filter_cons_of_pos (by exact c), List.map_append]
          rfl
      · refine ⟨sm, ?_⟩
        rw [take_snoc ez, List.filter_append, List.filter_cons_of_neg (by exact c), List.filter_nil, List.append_nil]
        exact hD
    rintro H28 ⟨sm, hD⟩
    rw [List.length_map, List.take_length] at hD
    refine ⟨x, D, _, rfl, hx.same sm, hD, ok1.sub fun z hz => (List.mem_filter.mp hz).1, by omega, fun H29 s29 => ?_⟩
    exact ⟨⟨_, rfl⟩, ((s26.trans s27).trans sm).trans s29⟩
  rintro σ' H26 ⟨⟨y, rfl⟩, s26⟩
  have wd := wd.same s26
  clear s26 hL3
  refine ⟨_, .inl (SqL.of wd.r), _, i0, st, scr, a1, p1, m1, rfl, wd.dr, wd.w1, wd.h1, wd.n1, ok1, by omega, fun H27 b27 d27 => ?_⟩
  have wd := wd.bt b27 d27
  clear b27 d27
  refine ite2 (fun e => nomatch e) (fun _ => ?_)
  refine ⟨_, .inl (SqL.of wd.r), _, i1, st, scr, a2, p2, m2, rfl, wd.dr, wd.w2, wd.h2, wd.n2, ok2, by omega, fun H28 b28 d28 => ?_⟩
  have wd := wd.bt b28 d28
  clear b28 d28
  refine ite2 (fun e => nomatch e) (fun _ => ?_)
  obtain ⟨da, fa, ia1⟩ := ins wd.w1
  obtain ⟨db, fb, ia2⟩ := ins wd.w2
  refine ⟨a1, a2, _, _, _, _, rfl, rfl, ia1, ia2, a1, a2, m1, m2, rfl, wd.w1, wd.w2, v1, v2, fun H29 jn s29 nj hj => ?_⟩
  clear ia1 ia2
  refine g_is [some (.ref a), some (.ref st), some (.ref p1), some (.ref R), some (.ref h), some (.ref W), y, some (.ref jn), none, some (.ref a2), none, none, none, none, some (.ref a1), some (.ref a3), none] rfl ?_
  obtain ⟨dj, fj, ij⟩ := ins hj
  have l12 : (m1 ++ m2).length ≤ 17 := by rw [List.length_append]; omega
  have l23 : (m2 ++ m3).length ≤ 18 := by rw [List.length_append]; omega
  have j3 : jn ≠ a3 := by
    obtain ⟨o, e⟩ := wd.w3.some
    exact (ne_of_none e nj).symm
  refine ⟨jn, rfl, _, _, ij, jn, a3, m1 ++ m2, m3, rfl, hj, wd.w3.same s29, j3, (ok1.app ok2).wv (by omega), v3, fun H30 b30 hj => ?_⟩
  refine g_is [some (.ref a), some (.ref st), some (.ref p1), some (.ref R), some (.ref h), some (.ref W), y, some (.ref jn), none, some (.ref a2), none, none, none, none, some (.ref a1), some (.ref a3), none] rfl ?_
  have wd := wd.same (fun b o hb => b30 _ _ (ne_of_none hb nj) (s29 _ _ hb))
  clear b30 s29 nj ij j3
  refine ⟨_, .inl (SqL.of wd.r), _, i0, _, .inl (SqL.of wd.r), _, i1, .inl ⟨_, _, wd.h1, wd.h2, line_of (by rw [List.length_map, List.length_map]; omega), fun r nr => ?_⟩⟩
  rw [← List.map_append]
  have s31 := same_new (o := .lst ((m1 ++ m2).map V.int)) nr
  have hr1 := upd_same (H := H30) (a := r) (o := .lst ((m1 ++ m2).map V.int))
  have wd := wd.same s31
  have hj := hj.same s31
  generalize upd H30 r (.lst ((m1 ++ m2).map V.int)) = H31 at hr1 wd hj ⊢
  refine ⟨_, .inl (SqL.of wd.r), _, i2, .inl ⟨_, _, hr1, wd.h3, line_of (by rw [List.length_map, List.length_map]; omega), fun r2 nr2 => ?_⟩⟩
  rw [← List.map_append]
  have s32 := same_new (o := .lst ((m1 ++ m2 ++ m3).map V.int)) nr2
  have hr2 := upd_same (H := H31) (a := r2) (o := .lst ((m1 ++ m2 ++ m3).map V.int))
  have wd := wd.same s32
  have hj := hj.same s32
  generalize upd H31 r2 (.lst ((m1 ++ m2 ++ m3).map V.int)) = H32 at hr2 wd hj ⊢
  refine ⟨jn, r2, m1 ++ m2 ++ m3, rfl, hj, hr2, (ok1.app ok2).app ok3, by rw [List.length_append]; omega, fun H33 s33 => ?_⟩
  have wd := wd.same s33
  clear s31 s32 s33 hr1 hr2 hj nr nr2
  refine ite2 (fun e => nomatch e) (fun _ => ?_)
  refine ⟨W, R, _, _, _, rfl, wd.w, wd.r, (all wd).1, (all wd).2, okk, fun H34 s34 => ?_⟩
  have wd := wd.same s34
  clear s34
  refine ite2 (fun e => nomatch e) (fun _ => ?_)
  obtain ⟨db, fb, ia2⟩ := ins wd.w2
  refine ⟨a2, rfl, _, _, ia2, a2, a3, m2, m3, rfl, wd.w2, wd.w3, a23, v2, v3, fun H35 b35 w2 => ?_⟩
  refine g_is [some (.ref a), some (.ref st), some (.ref p1), some (.ref R), some (.ref h), some (.ref W), y, some (.ref jn), some (.ref a2), some (.ref a2), none, none, none, none, some (.ref a1), some (.ref a3), none] rfl ?_
  have kl : ∀ (p : Addr) (l : List V), H34 p = some (.lst l) → H35 p = some (.lst l) := fun p l e => b35 _ _ (ne_of e ia2 (by intro z; cases z)) e
  have dr := wd.dr.bti ia2 b35
  have w1 := wd.w1.bti ia2 a12 b35
  have w3 := wd.w3.bti ia2 a23.symm b35
  have hR := kl _ _ wd.r
  have h1 := kl _ _ wd.h1
  have h2 := kl _ _ wd.h2
  have h3 := kl _ _ wd.h3
  obtain ⟨_, n1, n2, n3⟩ : True ∧ p1 ≠ st ∧ p2 ≠ st ∧ p3 ≠ st := ⟨trivial, p1st, p2st, p3st⟩
  clear kl ia2 b35 wd
  refine ⟨_, .inl (SqL.of hR), _, i1, _, .inl (SqL.of hR), _, i2, .inl ⟨_, _, h2, h3, line_of (by rw [List.length_map, List.length_map]; omega), fun r nr => ?_⟩⟩
  rw [← List.map_append]
  have s36 := same_new (o := .lst ((m2 ++ m3).map V.int)) nr
  have hr1 := upd_same (H := H35) (a := r) (o := .lst ((m2 ++ m3).map V.int))
  have rst : r ≠ st := dr.ne_new nr
  have dr := dr.new s36
  have w1 := w1.same s36
  have w2 := w2.same s36
  have w3 := w3.same s36
  have hR := s36 _ _ hR
  have h1 := s36 _ _ h1
  have h3 := s36 _ _ h3
  clear nr h2
  generalize upd H35 r (.lst ((m2 ++ m3).map V.int)) = H36 at hr1 dr w1 w2 w3 hR h1 h3 ⊢
  refine ⟨R, _, 1, 1, rfl, rfl, hR, rfl, ?_⟩
  have Rsc : R ≠ scr := by
    obtain ⟨ns, i, v, m, c, e1, e2, _⟩ := dr
    exact (ints_ne e2 hR).symm
  have bR : Bt R H36 (upd H36 R (.lst ([V.ref p1, .ref p2, .ref p3].set 1 (.ref r)))) := Bt.st
  have hR2 : upd H36 R (.lst ([V.ref p1, .ref p2, .ref p3].set 1 (.ref r))) R = some (.lst [.ref p1, .ref r, .ref p3]) := upd_same
  have dr := dr.at (o := .lst ([V.ref p1, .ref p2, .ref p3].set 1 (.ref r))) Rst Rsc
  have w1 := w1.btl hR bR
  have w2 := w2.btl hR bR
  have w3 := w3.btl hR bR
  have h1 := bR _ _ (ints_ne h1 hR) h1
  have h2 := bR _ _ (ints_ne hr1 hR) hr1
  have h3 := bR _ _ (ints_ne h3 hR) h3
  generalize upd H36 R (.lst ([V.ref p1, .ref p2, .ref p3].set 1 (.ref r))) = H37 at hR2 dr w1 w2 w3 h1 h2 h3 ⊢
  clear bR hR hr1 i0 i1 i2 all okk
  have ok23 := ok2.app ok3
  have v23 := ok23.wv (show (m2 ++ m3).length ≤ 50000 by omega)
  generalize m2 ++ m3 = m at w2 h2 l23 ok23 v23 ⊢
  have j1 : atI [V.ref p1, .ref r, .ref p3] (1 : Int) = some (.ref r) := rfl
  refine ⟨_, .inl (SqL.of hR2), _, j1, a2, r, m, rfl, w2, h2, ok23, by omega, fun H38 s38 => ?_⟩
  refine ite2 (fun e => nomatch e) (fun _ => ?_)
  refine ⟨(by show 3 ≤ sizeLine; decide), fun W2 nW2 => ?_⟩
  have s39 := same_new (o := .lst [.ref a1, .ref a2, .ref a3]) nW2
  have s39 := s38.trans s39
  have wd : Wd K (upd H38 W2 (.lst [.ref a1, .ref a2, .ref a3])) st scr R p1 r p3 a1 a2 a3 W2 m1 m m3 := ⟨dr.new s39, s39 _ _ hR2, upd_same, s39 _ _ h1, s39 _ _ h2, s39 _ _ h3, w1.same s39, w2.same s39, w3.same s39, Rst, (dr.new s38).ne_new nW2, p1st, rst, p3st⟩
  clear s38 s39 nW2 hR2 h1 h2 h3 w1 w2 w3 dr
  generalize upd H38 W2 (.lst [.ref a1, .ref a2, .ref a3]) = H39 at wd ⊢
  refine ⟨W2, R, _, _, _, rfl, wd.w, wd.r, wd.all.1, wd.all.2, ns_three ok1 ok23 ok3 (by omega) (by omega) (by omega), fun H40 s40 => ?_⟩
  have wd := wd.same s40
  clear s40
  refine ite2 (fun e => nomatch e) (fun _ => ?_)
  obtain ⟨_, db, tu, hC, ia2, _⟩ := id wd.w2
  cases hC.symm.trans T.n_Weaving
  refine ⟨a2, _, _, rfl, ia2, rfl, a2, 3, m, rfl, wd.w2, v23, fun H41 x s41 nx hx => ?_⟩
  have wd := wd.same s41
  clear s41 nx ia2
  refine ⟨_, .inl (SqL.of wd.r), _, j1, r, rfl, ⟨_, SqL.of wd.h2⟩, fun D nD => ?_⟩
  have fl := List.length_filter_le (fun z => !decide (z = 3)) m
  refine lc_it (walk_list (xs := m.map V.int)) (fun i H' => Same H41 H' ∧ H' D = some (.lst (((m.take i).filter fun z => !decide (z = 3)).map V.int))) ⟨same_new nD, upd_same⟩ (fun _ _ _ h => SqL.of (h.1 _ _ wd.h2)) ?_ ?_
  · rintro i v Hx Hy hi ⟨sm, hD⟩ ⟨rfl, hv⟩
    have hv : (m.map V.int)[i]? = some v := by
      first | exact hv | exact hv _ (SqL.of (sm _ _ wd.h2))
    rw [List.getElem?_map] at hv
    obtain ⟨z, ez, rfl⟩ := Option.map_eq_some_iff.mp hv
    refine ⟨rfl, ?_⟩
    refine ite2 (fun c => ?_) (fun c => ?_)
    · refine ⟨_, hD, line_lt (by rw [List.length_map]; have := List.length_filter_le (fun z => !decide (z = 3)) (m.take i); rw [List.length_take] at this; omega), fun b o hb => ?_, ?_⟩
      · rw [upd_ne (ne_of_none hb nD)]
        exact sm _ _ hb
      · rw [upd_same, take_snoc ez, List.filter_append, List.filter_cons_of_pos (by exact c), List.map_append]
        rfl
    · refine ⟨sm, ?_⟩
      rw [take_snoc ez, List.filter_append, List.filter_cons_of_neg (by exact c), List.filter_nil, List.append_nil]
      exact hD
  rintro H42 ⟨sm, hD⟩
  rw [List.length_map, List.take_length] at hD
  refine ⟨x, D, _, rfl, hx.same sm, hD, ok23.sub fun z hz => (List.mem_filter.mp hz).1, by omega, fun H43 s43 => ?_⟩
  have wd := (wd.same sm).same s43
  clear sm s43 hD hx nD fl
  refine ite2 (fun e => nomatch e) (fun _ => ?_)
  obtain ⟨db, fb, ia2⟩ := ins wd.w2
  refine ⟨a2, _, _, 2, rfl, rfl, ia2, a2, 2, m, rfl, wd.w2, v23, by omega, fun _ => (by show 2 * m.length ≤ 50000; omega), by decide, ?_⟩
  unfold TimesW Times
  rw [if_pos (by decide), rep_two]
  intro H44 x s44 nx hx
  have wd := wd.same s44
  clear s44 nx ia2
  refine ⟨_, .inl (SqL.of wd.r), _, j1, _, .inl (SqL.of wd.r), _, j1, .inl ⟨_, _, wd.h2, wd.h2, line_of (by rw [List.length_map]; omega), fun u nu => ?_⟩⟩
  rw [← List.map_append]
  have s45 := same_new (o := .lst ((m ++ m).map V.int)) nu
  have hu := upd_same (H := H44) (a := u) (o := .lst ((m ++ m).map V.int))
  have wd := wd.same s45
  have hx := hx.same s45
  generalize upd H44 u (.lst ((m ++ m).map V.int)) = H45 at hu wd hx ⊢
  refine ⟨x, u, m ++ m, rfl, hx, hu, ok23.app ok23, by rw [List.length_append]; omega, fun H46 s46 => ?_⟩
  have wd := wd.same s46
  clear s45 s46 hu hx nu
  refine ite2 (fun e => nomatch e) (fun _ => ?_)
  refine ⟨R, rfl, ⟨_, SqL.of wd.r⟩, ?_⟩
  refine for_list (K := K) (a := R) (xs := [.ref p1, .ref r, .ref p3]) (fun i σ' H' => (∃ y10, σ' = [some (.ref a), some (.ref st), some (.ref p1), some (.ref R), some (.ref h), some (.ref W), y, some (.ref jn), some (.ref a2), some (.ref a2), y10, none, none, none, some (.ref a1), some (.ref a3), none]) ∧ Same H46 H') ⟨⟨_, rfl⟩, Same.refl _⟩ (fun i σ' H' _ h => SqL.of (h.2 _ _ wd.r)) ?_ ?_
  · rintro i v σ' H47 hi ⟨⟨y10, rfl⟩, s47⟩
    have wd := wd.same s47
    obtain ⟨p, ms, rfl, hpm, okm, lm⟩ : ∃ (p : Addr) (ms : List Int), v = .ref p ∧ H47 p = some (.lst (ms.map V.int)) ∧ NmOk ms ∧ ms.length ≤ 18 := by
      have := List.mem_of_getElem? hi
      simp only [List.mem_cons, List.not_mem_nil, or_false] at this
      rcases this with rfl | rfl | rfl
      · exact ⟨p1, m1, rfl, wd.h1, ok1, by omega⟩
      · exact ⟨r, m, rfl, wd.h2, ok23, by omega⟩
      · exact ⟨p3, m3, rfl, wd.h3, ok3, by omega⟩
    refine ⟨⟨_, rfl⟩, p, rfl, ⟨_, SqL.of hpm⟩, fun D2 nD2 => ?_⟩
    refine lc_it (walk_list (xs := ms.map V.int)) (fun i H' => Same H47 H' ∧ H' D2 = some (.lst (((ms.take i).map numS).map V.str))) ⟨same_new nD2, upd_same⟩ (fun _ _ _ h => SqL.of (h.1 _ _ hpm)) ?_ ?_
    · rintro i v Hx Hy hi ⟨sm, hD2⟩ ⟨rfl, hv⟩
      have hv : (ms.map V.int)[i]? = some v := by
        first | exact hv | exact hv _ (SqL.of (sm _ _ hpm))
      rw [List.getElem?_map] at hv
      obtain ⟨z, ez, rfl⟩ := Option.map_eq_some_iff.mp hv
      rw [List.length_map] at hi
      refine ⟨rfl, z, rfl, inB_log (okm z (List.mem_of_getElem? ez)).2, ?_⟩
      refine ⟨_, hD2, line_lt (by rw [List.length_map, List.length_map, List.length_take]; omega), fun b o hb => ?_, ?_⟩
      · rw [upd_ne (ne_of_none hb nD2)]
        exact sm _ _ hb
      · rw [upd_same, take_snoc ez, List.map_append, List.map_append]
        rfl
    rintro H48 ⟨sm, hD2⟩
    rw [List.length_map, List.take_length] at hD2
    refine ⟨_, D2, ms.map numS, rfl, rfl, .inl (SqL.of hD2), ?_, ?_⟩
    · have hs := sum_le (f := fun z : Str => z.length) (B := 32) (l := ms.map numS) fun z hz => by
        obtain ⟨x, hx, rfl⟩ := List.mem_map.mp hz
        exact num_short (okm x hx).2
      rw [List.length_map] at hs ⊢
      rw [one_sp]
      have hs : ((ms.map numS).map (·.length)).sum ≤ ms.length * 32 := hs
      omega
    rw [TL.join_eq]
    obtain ⟨cs, L⟩ := laid_text okm (by omega)
    have lok := line_ok okm L (fun z hz => .inl hz) (by rw [List.length_map]; omega)
    refine ⟨_, _, _, .wv ms, rfl, .inr (.inr ⟨wtxt ms, rfl, rfl, lok, line_good okm L⟩), fun H49 x s49 nx hw => ?_⟩
    refine ⟨x, p, ms, rfl, hw, s49 _ _ (sm _ _ hpm), okm, by omega, fun H50 s50 => ?_⟩
    exact ⟨⟨_, rfl⟩, ((s47.trans sm).trans s49).trans s50⟩
  rintro σ' H47 ⟨⟨y10, rfl⟩, s47⟩
  have wd := wd.same s47
  clear s47
  refine .inl ⟨_, .inl (SqL.of wd.h1), ?_⟩
  rw [List.length_map]
  refine ⟨st, scr, _, rfl, wd.dr, by omega, many_small (by omega) (by omega), fun sp l sp0 sp1 d48 => ?_⟩
  have wd := wd.bt .st d48
  generalize upd H47 st (.lst l) = H48 at wd ⊢
  obtain ⟨j, rfl⟩ : ∃ j : Nat, sp = (j : Int) := ⟨sp.toNat, by omega⟩
  refine g_is [some (.ref a), some (.ref st), some (.ref p1), some (.ref R), some (.ref h), some (.ref W), y, some (.ref jn), some (.ref a2), some (.ref a2), y10, some (.int j), none, none, some (.ref a1), some (.ref a3), none] rfl ?_
  refine ⟨j, rfl, .inl ⟨_, SqL.of wd.h1, fun r1 nr1 => ?_⟩⟩
  rw [cutV_take _ (by omega), ← List.map_take, show ((j : Int)).toNat = j from rfl]
  have s49 := same_new (o := .lst ((m1.take j).map V.int)) nr1
  have hr1 := upd_same (H := H48) (a := r1) (o := .lst ((m1.take j).map V.int))
  have r1st : r1 ≠ st := wd.dr.ne_new nr1
  have wd := wd.same s49
  clear s49 nr1 d48
  generalize upd H48 r1 (.lst ((m1.take j).map V.int)) = H49 at hr1 wd ⊢
  refine ⟨st, scr, 4, rfl, wd.dr, by decide, many_small (by decide) (by decide), fun dz l dz0 dz1 d50 => ?_⟩
  have hr1 := (Bt.st (st := st) (H := H49) (o := .lst l)) _ _ r1st hr1
  have wd := wd.bt .st d50
  clear d50
  generalize upd H49 st (.lst l) = H50 at hr1 wd ⊢
  refine ⟨(by show 1 ≤ sizeLine; decide), fun r2 nr2 => ?_⟩
  have s51 := same_new (o := .lst [.int (-1 - dz)]) nr2
  have hr2 := upd_same (H := H50) (a := r2) (o := .lst [.int (-1 - dz)])
  have wd := wd.same s51
  have hr1 := s51 _ _ hr1
  generalize upd H50 r2 (.lst [.int (-1 - dz)]) = H51 at hr1 hr2 wd ⊢
  refine .inl ⟨_, _, hr1, hr2, line_of (by rw [List.length_map, List.length_take]; show _ + 1 ≤ _; omega), fun r3 nr3 => ?_⟩
  have e3 : (m1.take j).map V.int ++ [.int (-1 - dz)] = (m1.take j ++ [-1 - dz]).map V.int := by rw [List.map_append]; rfl
  rw [e3]
  have s52 := same_new (o := .lst ((m1.take j ++ [-1 - dz]).map V.int)) nr3
  have hr3 := upd_same (H := H51) (a := r3) (o := .lst ((m1.take j ++ [-1 - dz]).map V.int))
  have wd := wd.same s52
  generalize upd H51 r3 (.lst ((m1.take j ++ [-1 - dz]).map V.int)) = H52 at hr3 wd ⊢
  refine ⟨j, rfl, .inl ⟨_, SqL.of wd.h1, fun r4 nr4 => ?_⟩⟩
  rw [cutV_drop _ (by omega), ← List.map_drop, show ((j : Int)).toNat = j from rfl]
  have s53 := same_new (o := .lst ((m1.drop j).map V.int)) nr4
  have hr4 := upd_same (H := H52) (a := r4) (o := .lst ((m1.drop j).map V.int))
  have wd := wd.same s53
  have hr3 := s53 _ _ hr3
  generalize upd H52 r4 (.lst ((m1.drop j).map V.int)) = H53 at hr3 hr4 wd ⊢
  have ll : (m1.take j ++ [-1 - dz]).length + (m1.drop j).length ≤ 9 := by rw [List.length_append, List.length_take, List.length_drop]; show _ + 1 + _ ≤ _; omega
  refine .inl ⟨_, _, hr3, hr4, line_of (by rw [List.length_map, List.length_map]; omega), fun B nB => ?_⟩
  rw [← List.map_append]
  have Bst : B ≠ st := wd.dr.ne_new nB
  have s54 := same_new (o := .lst ((m1.take j ++ [-1 - dz] ++ m1.drop j).map V.int)) nB
  have hB := upd_same (H := H53) (a := B) (o := .lst ((m1.take j ++ [-1 - dz] ++ m1.drop j).map V.int))
  have wd := wd.same s54
  clear s51 s52 s53 s54 nr2 nr3 nr4 nB hr1 hr2 hr3 hr4
  generalize upd H53 B (.lst ((m1.take j ++ [-1 - dz] ++ m1.drop j).map V.int)) = H54 at hB wd ⊢
  have bl : (m1.take j ++ [-1 - dz] ++ m1.drop j).length ≤ 9 := by rw [List.length_append]; exact ll
  have bn : ∃ z ∈ m1.take j ++ [-1 - dz] ++ m1.drop j, z < 0 := ⟨-1 - dz, List.mem_append.mpr (.inl (List.mem_append.mpr (.inr (List.mem_singleton.mpr rfl)))), by omega⟩
  have bs : ∀ z ∈ m1.take j ++ [-1 - dz] ++ m1.drop j, z.natAbs < 2 ^ 200 := fun z hz => by
    rcases List.mem_append.mp hz with hz | hz
    · rcases List.mem_append.mp hz with hz | hz
      · exact v1.small z (List.mem_of_mem_take hz)
      · rw [List.mem_singleton.mp hz]
        exact Nat.lt_of_le_of_lt (show (-1 - dz).natAbs ≤ 10 by omega) (by decide +kernel)
    · exact v1.small z (List.mem_of_mem_drop hz)
  generalize m1.take j ++ [-1 - dz] ++ m1.drop j = bw at hB bl bn bs ⊢
  refine g_is [some (.ref a), some (.ref st), some (.ref p1), some (.ref R), some (.ref h), some (.ref W), y, some (.ref jn), some (.ref a2), some (.ref a2), y10, some (.int j), some (.ref B), none, some (.ref a1), some (.ref a3), none] rfl ?_
  refine ⟨fun σ' H' => ∃ (B : Addr) (y11 : Option V) (bw : List Int), σ' = [some (.ref a), some (.ref st), some (.ref p1), some (.ref R), some (.ref h), some (.ref W), y, some (.ref jn), some (.ref a2), some (.ref a2), y10, y11, some (.ref B), none, some (.ref a1), some (.ref a3), none] ∧ Wd K H' st scr R p1 r p3 a1 a2 a3 W2 m1 m m3 ∧ H' B = some (.lst (bw.map V.int)) ∧ bw.length ≤ 10 ∧ (∃ z ∈ bw, z < 0) ∧ ∀ z ∈ bw, z.natAbs < 2 ^ 200, ?_, ?_⟩
  · refine ⟨st, scr, 2, rfl, wd.dr, by decide, many_small (by decide) (by decide), fun c2 l c20 c21 d55 => ?_⟩
    have hB := (Bt.st (st := st) (H := H54) (o := .lst l)) _ _ Bst hB
    have wd := wd.bt .st d55
    clear d55
    generalize upd H54 st (.lst l) = H55 at hB wd ⊢
    refine ite2 (fun c => ?_) (fun c => ⟨B, _, bw, rfl, wd, hB, by omega, bn, bs⟩)
    refine .inl ⟨_, .inl (SqL.of hB), ?_⟩
    rw [List.length_map]
    refine ⟨st, scr, _, rfl, wd.dr, by omega, many_small (by omega) (by omega), fun sp l sp0 sp1 d56 => ?_⟩
    have hB := (Bt.st (st := st) (H := H55) (o := .lst l)) _ _ Bst hB
    have wd := wd.bt .st d56
    clear d56
    generalize upd H55 st (.lst l) = H56 at hB wd ⊢
    obtain ⟨j, rfl⟩ : ∃ j : Nat, sp = (j : Int) := ⟨sp.toNat, by omega⟩
    refine g_is [some (.ref a), some (.ref st), some (.ref p1), some (.ref R), some (.ref h), some (.ref W), y, some (.ref jn), some (.ref a2), some (.ref a2), y10, some (.int j), some (.ref B), none, some (.ref a1), some (.ref a3), none] rfl ?_
    refine ⟨j, rfl, .inl ⟨_, SqL.of hB, fun r1 nr1 => ?_⟩⟩
    rw [cutV_take _ (by omega), ← List.map_take, show ((j : Int)).toNat = j from rfl]
    have s57 := same_new (o := .lst ((bw.take j).map V.int)) nr1
    have hr1 := upd_same (H := H56) (a := r1) (o := .lst ((bw.take j).map V.int))
    have wd := wd.same s57
    have hB := s57 _ _ hB
    generalize upd H56 r1 (.lst ((bw.take j).map V.int)) = H57 at hr1 wd hB ⊢
    refine ⟨(by show 1 ≤ sizeLine; decide), fun r2 nr2 => ?_⟩
    have s58 := same_new (o := .lst [.int (-7)]) nr2
    have hr2 := upd_same (H := H57) (a := r2) (o := .lst [.int (-7)])
    have wd := wd.same s58
    have hr1 := s58 _ _ hr1
    have hB := s58 _ _ hB
    generalize upd H57 r2 (.lst [.int (-7)]) = H58 at hr1 hr2 wd hB ⊢
    refine .inl ⟨_, _, hr1, hr2, line_of (by rw [List.length_map, List.length_take]; show _ + 1 ≤ _; omega), fun r3 nr3 => ?_⟩
    have e3 : (bw.take j).map V.int ++ [.int (-7)] = (bw.take j ++ [-7]).map V.int := by rw [List.map_append]; rfl
    rw [e3]
    have s59 := same_new (o := .lst ((bw.take j ++ [-7]).map V.int)) nr3
    have hr3 := upd_same (H := H58) (a := r3) (o := .lst ((bw.take j ++ [-7]).map V.int))
    have wd := wd.same s59
    have hB := s59 _ _ hB
    generalize upd H58 r3 (.lst ((bw.take j ++ [-7]).map V.int)) = H59 at hr3 wd hB ⊢
    refine ⟨j, rfl, .inl ⟨_, SqL.of hB, fun r4 nr4 => ?_⟩⟩
    rw [cutV_drop _ (by omega), ← List.map_drop, show ((j : Int)).toNat = j from rfl]
    have s60 := same_new (o := .lst ((bw.drop j).map V.int)) nr4
    have hr4 := upd_same (H := H59) (a := r4) (o := .lst ((bw.drop j).map V.int))
    have wd := wd.same s60
    have hr3 := s60 _ _ hr3
    generalize upd H59 r4 (.lst ((bw.drop j).map V.int)) = H60 at hr3 hr4 wd ⊢
    have ll : (bw.take j ++ [-7]).length + (bw.drop j).length ≤ 10 := by rw [List.length_append, List.length_take, List.length_drop]; show _ + 1 + _ ≤ _; omega
    refine .inl ⟨_, _, hr3, hr4, line_of (by rw [List.length_map, List.length_map]; omega), fun B2 nB2 => ?_⟩
    rw [← List.map_append]
    have s61 := same_new (o := .lst ((bw.take j ++ [-7] ++ bw.drop j).map V.int)) nB2
    refine ⟨B2, _, bw.take j ++ [-7] ++ bw.drop j, rfl, wd.same s61, upd_same, by rw [List.length_append]; exact ll, ⟨-7, List.mem_append.mpr (.inl (List.mem_append.mpr (.inr (List.mem_singleton.mpr rfl)))), by decide⟩, fun z hz => ?_⟩
    rcases List.mem_append.mp hz with hz | hz
    · rcases List.mem_append.mp hz with hz | hz
      · exact bs z (List.mem_of_mem_take hz)
      · rw [List.mem_singleton.mp hz]
        decide
    · exact bs z (List.mem_of_mem_drop hz)
  clear hB bl bn bs wd
  rintro σ' H55 ⟨B, y11, bw, rfl, wd, hB, bl, bn, bs⟩
  obtain ⟨z0, ez0⟩ := neg_any bn
  obtain ⟨rest, efil⟩ := neg_head ez0
  refine ⟨B, rfl, ⟨_, SqL.of hB⟩, fun D nD => ?_⟩
  have fl := List.length_filter_le (fun z : Int => decide (z < 0)) bw
  refine lc_it (walk_list (xs := bw.map V.int)) (fun i H' => Same H55 H' ∧ H' D = some (.lst (((bw.take i).filter fun z => decide (z < 0)).map V.int))) ⟨same_new nD, upd_same⟩ (fun _ _ _ h => SqL.of (h.1 _ _ hB)) ?_ ?_
  · rintro i v Hx Hy hi ⟨sm, hD⟩ ⟨rfl, hv⟩
    have hv : (bw.map V.int)[i]? = some v := by
      first | exact hv | exact hv _ (SqL.of (sm _ _ hB))
    rw [List.getElem?_map] at hv
    obtain ⟨z, ez, rfl⟩ := Option.map_eq_some_iff.mp hv
    refine ⟨rfl, ?_⟩
    refine ite2 (fun c => ?_) (fun c => ?_)
    · refine ⟨_, hD, line_lt (by rw [List.length_map]; have := List.length_filter_le (fun z : Int => decide (z < 0)) (bw.take i); rw [List.length_take] at this; omega), fun b o hb => ?_, ?_⟩
      · rw [upd_ne (ne_of_none hb nD)]
        exact sm _ _ hb
      · rw [upd_same, take_snoc ez, List.filter_append, List.filter_cons_of_pos (by exact c), List.map_append]
        rfl
    · refine ⟨sm, ?_⟩
      rw [take_snoc ez, List.filter_append, List.filter_cons_of_neg (by exact c), List.filter_nil, List.append_nil]
      exact hD
  rintro H56 ⟨sm, hD⟩
  rw [List.length_map, List.take_length, efil] at hD
  have wd := wd.same sm
  have hB := sm _ _ hB
  clear sm nD fl
  have a0 : atI ((z0 :: rest).map V.int) (0 : Int) = some (.int z0) := atI_nat (j := 0) rfl
  refine ⟨_, .inl (SqL.of hD), _, a0, ?_⟩
  refine g_is [some (.ref a), some (.ref st), some (.ref p1), some (.ref R), some (.ref h), some (.ref W), y, some (.ref jn), some (.ref a2), some (.ref a2), y10, y11, some (.ref B), some (.int z0), some (.ref a1), some (.ref a3), none] rfl ?_
  refine ⟨_, _, _, .turn z0, rfl, .inl ⟨B, bw, rfl, rfl, hB, by omega, bs, by unfold MakeO; rw [ez0]⟩, fun H57 t s57 nt ht => ?_⟩
  have wd := wd.same s57
  refine ⟨(by show 5 ≤ sizeLine; decide), fun u nu => ?_⟩
  have s58 := same_new (o := .tup [.str "refused", .bl true, .bl false, .bl false, .int z0]) nu
  have wd := wd.same s58
  refine ⟨_, _, rfl, same_tupN (n := 23) (SqT.of (s58 _ _ ht)) (SqT.of upd_same) rfl (by show 5 ≤ 1000; decide) (fun k x y hx hy => ?_), ?_⟩
  · rw [hx] at hy
    cases hy
    match k, hx with
    | 0, hx => cases hx; exact same_str _
    | 1, hx => cases hx; exact same_bl _
    | 2, hx => cases hx; exact same_bl _
    | 3, hx => cases hx; exact same_bl _
    | 4, hx => cases hx; exact same_int _
  generalize upd H57 u (.tup [.str "refused", .bl true, .bl false, .bl false, .int z0]) = H58 at wd ⊢
  refine ite2 (fun e => nomatch e) (fun _ => ?_)
  refine ⟨st, scr, p1, m1, rfl, wd.dr, wd.h1, wd.n1, ok1, by omega, fun H59 b59 d59 => ?_⟩
  have wd := wd.bt b59 d59
  refine ⟨_, .inl (SqL.of wd.r), _, j1, st, scr, r, m, rfl, wd.dr, wd.h2, wd.n2, ok23, by omega, fun H60 b60 d60 => ?_⟩
  exact q H60
end
theorem all_mk {l : PySem.W.OpenLaw} {w : World} {K : PySem.W.Frag} {h : Heap} {mg : Str → Option Value} {fa : Addr} {t_BOUND t_DIGITS t_LETTERS t_LONGEST_INTEGER t_MOST_TIMES : Tok} {a_MARKS a_SIGNS a_BadNumber a_BadText a_BadTurn a_ElseputError a_Reader a_Weaving : Addr} {f_run_end f_token_end f_split_line f_in_bound f_check_times f_is_integer f__law_state f__law_draw f__law_pick f__law_number f__law_is_int f__law_same f__law_numbers f__law_near f__law_less f_Weaving___init__ f_Reader___init__ f_Reader_at_end f_Reader_ahead f_Reader__refuse f_Reader__take_if f_Reader_take_natural f_Weaving_read f_Weaving___mul__ f_Weaving___rmul__ f__law_try f_Weaving_text f_Weaving___len__ f_Weaving___iter__ f__law_shows f_Weaving___eq__ f_Weaving___lt__ f_Weaving___le__ f__law_all_right f__law_times_right f__law_line_right f_Weaving_without f_Weaving___add__ f_Weaving___iadd__ f_law : Addr} {od_run_end an_run_end : Option Addr} {sl_run_end : Array (Option Value)} {oc_run_end kV_run_end dc_run_end pm_run_end cd_run_end ct_run_end : Value} {od_token_end an_token_end : Option Addr} {sl_token_end : Array (Option Value)} {oc_token_end kV_token_end dc_token_end pm_token_end cd_token_end ct_token_end : Value} {od_split_line an_split_line : Option Addr} {sl_split_line : Array (Option Value)} {oc_split_line kV_split_line dc_split_line pm_split_line cd_split_line ct_split_line : Value} {od_in_bound an_in_bound : Option Addr} {sl_in_bound : Array (Option Value)} {oc_in_bound kV_in_bound dc_in_bound pm_in_bound cd_in_bound ct_in_bound : Value} {od_check_times an_check_times : Option Addr} {sl_check_times : Array (Option Value)} {oc_check_times kV_check_times dc_check_times pm_check_times cd_check_times ct_check_times : Value} {od_is_integer an_is_integer : Option Addr} {sl_is_integer : Array (Option Value)} {oc_is_integer kV_is_integer dc_is_integer pm_is_integer cd_is_integer ct_is_integer : Value} {od__law_state an__law_state : Option Addr} {sl__law_state : Array (Option Value)} {oc__law_state kV__law_state dc__law_state pm__law_state cd__law_state ct__law_state : Value} {od__law_draw an__law_draw : Option Addr} {sl__law_draw : Array (Option Value)} {oc__law_draw kV__law_draw dc__law_draw pm__law_draw cd__law_draw ct__law_draw : Value} {od__law_pick an__law_pick : Option Addr} {sl__law_pick : Array (Option Value)} {oc__law_pick kV__law_pick dc__law_pick pm__law_pick cd__law_pick ct__law_pick : Value} {od__law_number an__law_number : Option Addr} {sl__law_number : Array (Option Value)} {oc__law_number kV__law_number dc__law_number pm__law_number cd__law_number ct__law_number : Value} {od__law_is_int an__law_is_int : Option Addr} {sl__law_is_int : Array (Option Value)} {oc__law_is_int kV__law_is_int dc__law_is_int pm__law_is_int cd__law_is_int ct__law_is_int : Value} {od__law_same an__law_same : Option Addr} {sl__law_same : Array (Option Value)} {oc__law_same kV__law_same dc__law_same pm__law_same cd__law_same ct__law_same : Value} {od__law_numbers an__law_numbers : Option Addr} {sl__law_numbers : Array (Option Value)} {oc__law_numbers kV__law_numbers dc__law_numbers pm__law_numbers cd__law_numbers ct__law_numbers : Value} {od__law_near an__law_near : Option Addr} {sl__law_near : Array (Option Value)} {oc__law_near kV__law_near dc__law_near pm__law_near cd__law_near ct__law_near : Value} {od__law_less an__law_less : Option Addr} {sl__law_less : Array (Option Value)} {oc__law_less kV__law_less dc__law_less pm__law_less cd__law_less ct__law_less : Value} {od_Weaving___init__ an_Weaving___init__ : Option Addr} {sl_Weaving___init__ : Array (Option Value)} {oc_Weaving___init__ kV_Weaving___init__ dc_Weaving___init__ pm_Weaving___init__ cd_Weaving___init__ ct_Weaving___init__ : Value} {od_Reader___init__ an_Reader___init__ : Option Addr} {sl_Reader___init__ : Array (Option Value)} {oc_Reader___init__ kV_Reader___init__ dc_Reader___init__ pm_Reader___init__ cd_Reader___init__ ct_Reader___init__ : Value} {dT_Reader___init__ : Addr} {dd_Reader___init__ : Option Addr} {ds_Reader___init__ : Array Value} {dn_Reader___init__ : Nat} {dl_Reader___init__ : Array (Option Value)} {od_Reader_at_end an_Reader_at_end : Option Addr} {sl_Reader_at_end : Array (Option Value)} {oc_Reader_at_end kV_Reader_at_end dc_Reader_at_end pm_Reader_at_end cd_Reader_at_end ct_Reader_at_end : Value} {od_Reader_ahead an_Reader_ahead : Option Addr} {sl_Reader_ahead : Array (Option Value)} {oc_Reader_ahead kV_Reader_ahead dc_Reader_ahead pm_Reader_ahead cd_Reader_ahead ct_Reader_ahead : Value} {od_Reader__refuse an_Reader__refuse : Option Addr} {sl_Reader__refuse : Array (Option Value)} {oc_Reader__refuse kV_Reader__refuse dc_Reader__refuse pm_Reader__refuse cd_Reader__refuse ct_Reader__refuse : Value} {od_Reader__take_if an_Reader__take_if : Option Addr} {sl_Reader__take_if : Array (Option Value)} {oc_Reader__take_if kV_Reader__take_if dc_Reader__take_if pm_Reader__take_if cd_Reader__take_if ct_Reader__take_if : Value} {od_Reader_take_natural an_Reader_take_natural : Option Addr} {sl_Reader_take_natural : Array (Option Value)} {oc_Reader_take_natural kV_Reader_take_natural dc_Reader_take_natural pm_Reader_take_natural cd_Reader_take_natural ct_Reader_take_natural : Value} {p_Weaving_read : Addr} {r_Weaving_read : List Value} {od_Weaving_read an_Weaving_read : Option Addr} {sl_Weaving_read : Array (Option Value)} {oc_Weaving_read kV_Weaving_read dc_Weaving_read pm_Weaving_read cd_Weaving_read ct_Weaving_read : Value} {ra_Weaving___mul__ : Addr} {fo_Weaving___mul__ ro_Weaving___mul__ : Option Value} {od_Weaving___mul__ an_Weaving___mul__ : Option Addr} {sl_Weaving___mul__ : Array (Option Value)} {oc_Weaving___mul__ kV_Weaving___mul__ dc_Weaving___mul__ pm_Weaving___mul__ cd_Weaving___mul__ ct_Weaving___mul__ : Value} {ga_Weaving___rmul__ : Addr} {od_Weaving___rmul__ an_Weaving___rmul__ : Option Addr} {sl_Weaving___rmul__ : Array (Option Value)} {oc_Weaving___rmul__ kV_Weaving___rmul__ dc_Weaving___rmul__ pm_Weaving___rmul__ cd_Weaving___rmul__ ct_Weaving___rmul__ : Value} {od__law_try an__law_try : Option Addr} {sl__law_try : Array (Option Value)} {oc__law_try kV__law_try dc__law_try pm__law_try cd__law_try ct__law_try : Value} {od_Weaving_text an_Weaving_text : Option Addr} {sl_Weaving_text : Array (Option Value)} {oc_Weaving_text kV_Weaving_text dc_Weaving_text pm_Weaving_text cd_Weaving_text ct_Weaving_text : Value} {od_Weaving___len__ an_Weaving___len__ : Option Addr} {sl_Weaving___len__ : Array (Option Value)} {oc_Weaving___len__ kV_Weaving___len__ dc_Weaving___len__ pm_Weaving___len__ cd_Weaving___len__ ct_Weaving___len__ : Value} {od_Weaving___iter__ an_Weaving___iter__ : Option Addr} {sl_Weaving___iter__ : Array (Option Value)} {oc_Weaving___iter__ kV_Weaving___iter__ dc_Weaving___iter__ pm_Weaving___iter__ cd_Weaving___iter__ ct_Weaving___iter__ : Value} {od__law_shows an__law_shows : Option Addr} {sl__law_shows : Array (Option Value)} {oc__law_shows kV__law_shows dc__law_shows pm__law_shows cd__law_shows ct__law_shows : Value} {od_Weaving___eq__ an_Weaving___eq__ : Option Addr} {sl_Weaving___eq__ : Array (Option Value)} {oc_Weaving___eq__ kV_Weaving___eq__ dc_Weaving___eq__ pm_Weaving___eq__ cd_Weaving___eq__ ct_Weaving___eq__ : Value} {od_Weaving___lt__ an_Weaving___lt__ : Option Addr} {sl_Weaving___lt__ : Array (Option Value)} {oc_Weaving___lt__ kV_Weaving___lt__ dc_Weaving___lt__ pm_Weaving___lt__ cd_Weaving___lt__ ct_Weaving___lt__ : Value} {od_Weaving___le__ an_Weaving___le__ : Option Addr} {sl_Weaving___le__ : Array (Option Value)} {oc_Weaving___le__ kV_Weaving___le__ dc_Weaving___le__ pm_Weaving___le__ cd_Weaving___le__ ct_Weaving___le__ : Value} {od__law_all_right an__law_all_right : Option Addr} {sl__law_all_right : Array (Option Value)} {oc__law_all_right kV__law_all_right dc__law_all_right pm__law_all_right cd__law_all_right ct__law_all_right : Value} {od__law_times_right an__law_times_right : Option Addr} {sl__law_times_right : Array (Option Value)} {oc__law_times_right kV__law_times_right dc__law_times_right pm__law_times_right cd__law_times_right ct__law_times_right : Value} {od__law_line_right an__law_line_right : Option Addr} {sl__law_line_right : Array (Option Value)} {oc__law_line_right kV__law_line_right dc__law_line_right pm__law_line_right cd__law_line_right ct__law_line_right : Value} {od_Weaving_without an_Weaving_without : Option Addr} {sl_Weaving_without : Array (Option Value)} {oc_Weaving_without kV_Weaving_without dc_Weaving_without pm_Weaving_without cd_Weaving_without ct_Weaving_without : Value} {od_Weaving___add__ an_Weaving___add__ : Option Addr} {sl_Weaving___add__ : Array (Option Value)} {oc_Weaving___add__ kV_Weaving___add__ dc_Weaving___add__ pm_Weaving___add__ cd_Weaving___add__ ct_Weaving___add__ : Value} {od_Weaving___iadd__ an_Weaving___iadd__ : Option Addr} {sl_Weaving___iadd__ : Array (Option Value)} {oc_Weaving___iadd__ kV_Weaving___iadd__ dc_Weaving___iadd__ pm_Weaving___iadd__ cd_Weaving___iadd__ ct_Weaving___iadd__ : Value} {od_law an_law : Option Addr} {sl_law : Array (Option Value)} {oc_law kV_law dc_law pm_law cd_law ct_law : Value} {od_MARKS : Option Addr} {its_MARKS : Array Value} {n_MARKS : Nat} {sl_MARKS : Array (Option Value)} {od_SIGNS : Option Addr} {its_SIGNS : Array Value} {n_SIGNS : Nat} {sl_SIGNS : Array (Option Value)} {f_BadNumber N_BadNumber cc_BadNumber cda_BadNumber : Addr} {nm_BadNumber q_BadNumber : Str} {bs_BadNumber bm_BadNumber : List Value} {sn_BadNumber : List Str} {sub_BadNumber : List Value} {ab_BadNumber : Bool} {col_BadNumber : Option Bool} {dd_BadNumber : Option Addr} {e0_BadNumber e1_BadNumber e2_BadNumber e3_BadNumber e5_BadNumber : Option Value} {oc_BadNumber doc_BadNumber pm_BadNumber ct_BadNumber ccl_BadNumber cl_BadNumber : Value} {od_BadNumber cdd_BadNumber cld_BadNumber : Option Addr} {osl_BadNumber ccs_BadNumber csl_BadNumber : Array (Option Value)} {vs_BadNumber : Array Value} {file_BadNumber : Str} {tf_BadNumber : Tok} {cdD_BadNumber : ClassData} {f_BadText N_BadText cc_BadText cda_BadText : Addr} {nm_BadText q_BadText : Str} {bs_BadText bm_BadText : List Value} {sn_BadText : List Str} {sub_BadText : List Value} {ab_BadText : Bool} {col_BadText : Option Bool} {dd_BadText : Option Addr} {e0_BadText e1_BadText e2_BadText e3_BadText e5_BadText : Option Value} {oc_BadText doc_BadText pm_BadText ct_BadText ccl_BadText cl_BadText : Value} {od_BadText cdd_BadText cld_BadText : Option Addr} {osl_BadText ccs_BadText csl_BadText : Array (Option Value)} {vs_BadText : Array Value} {file_BadText : Str} {tf_BadText : Tok} {cdD_BadText : ClassData} {f_BadTurn N_BadTurn cc_BadTurn cda_BadTurn : Addr} {nm_BadTurn q_BadTurn : Str} {bs_BadTurn bm_BadTurn : List Value} {sn_BadTurn : List Str} {sub_BadTurn : List Value} {ab_BadTurn : Bool} {col_BadTurn : Option Bool} {dd_BadTurn : Option Addr} {e0_BadTurn e1_BadTurn e2_BadTurn e3_BadTurn e5_BadTurn : Option Value} {oc_BadTurn doc_BadTurn pm_BadTurn ct_BadTurn ccl_BadTurn cl_BadTurn : Value} {od_BadTurn cdd_BadTurn cld_BadTurn : Option Addr} {osl_BadTurn ccs_BadTurn csl_BadTurn : Array (Option Value)} {vs_BadTurn : Array Value} {file_BadTurn : Str} {tf_BadTurn : Tok} {cdD_BadTurn : ClassData} (X : K.In h) (G : h.Ns mainGlobals mg) (hfa : mg "law" = some (.ref fa))
    (g_Reader : PySem.W.nsIn K mainGlobals "Reader" = some (some (.ref a_Reader)))
    (pg_Reader : PySem.W.plainGet K a_Reader Str.empty = true)
    (hx_Reader : PySem.W.hasDictIn K a_Reader = true)
    (po_Reader : PySem.W.plainOver K a_Reader = true)
    (st_Reader : PySem.W.findIn K (.ref a_Reader) "__setattr__" = some (some (.builtin "object.__setattr__")))
    (rr_Reader : PySem.W.readsIn K a_Reader (.type "type") = true)
    (rg_Reader : PySem.W.specialIn K (.ref a_Reader) "__getattribute__" = some (some (.builtin "type.__getattribute__")))
    (mi_Reader : PySem.W.makesIn K a_Reader = true)
    (ko_Reader : PySem.W.keepIn K (.ref a_Reader) = true)
    (sf_Reader : PySem.W.selfFirst K a_Reader = true)
    (na_Reader__at : PySem.W.findIn K (.ref a_Reader) "_at" = some none)
    (na_Reader__end : PySem.W.findIn K (.ref a_Reader) "_end" = some none)
    (na_Reader__number : PySem.W.findIn K (.ref a_Reader) "_number" = some none)
    (na_Reader__parts : PySem.W.findIn K (.ref a_Reader) "_parts" = some none)
    (g_Weaving : PySem.W.nsIn K mainGlobals "Weaving" = some (some (.ref a_Weaving)))
    (pg_Weaving : PySem.W.plainGet K a_Weaving Str.empty = true)
    (hx_Weaving : PySem.W.hasDictIn K a_Weaving = true)
    (po_Weaving : PySem.W.plainOver K a_Weaving = true)
    (st_Weaving : PySem.W.findIn K (.ref a_Weaving) "__setattr__" = some (some (.builtin "object.__setattr__")))
    (rr_Weaving : PySem.W.readsIn K a_Weaving (.type "type") = true)
    (rg_Weaving : PySem.W.specialIn K (.ref a_Weaving) "__getattribute__" = some (some (.builtin "type.__getattribute__")))
    (mi_Weaving : PySem.W.makesIn K a_Weaving = true)
    (ko_Weaving : PySem.W.keepIn K (.ref a_Weaving) = true)
    (sf_Weaving : PySem.W.selfFirst K a_Weaving = true)
    (hcl_Weaving : PySem.W.findIn K (.ref a_Weaving) "__class__" = some (some (.builtin "object.__class__")))
    (hn_Weaving : PySem.W.specialIn K (.builtin "object.__class__") "__get__" = some (some (.builtin "getset_descriptor.__get__")))
    (ht_Weaving : PySem.W.takesIn K (.builtin "object.__class__") = some true)
    (hm_Weaving : PySem.W.mroIn K a_Weaving (.type "object") = some true)
    (na_Weaving__many : PySem.W.findIn K (.ref a_Weaving) "_many" = some none)
    (na_Weaving_turns : PySem.W.findIn K (.ref a_Weaving) "turns" = some none)
    (a_run_end : PySem.W.nsIn K mainGlobals "run_end" = some (some (.ref f_run_end)))
    (l_run_end : K.lookup f_run_end = some ⟨oc_run_end, od_run_end, .func (PySem.W.fnOf "run_end" "run_end" (defArgs s_run_end) (defBody s_run_end) (defScope s_run_end) .none kV_run_end dc_run_end pm_run_end an_run_end cd_run_end ct_run_end), sl_run_end⟩)
    (c_run_end : PySem.W.codeIn K cd_run_end "run_end" = true)
    (k_run_end : PySem.W.keepIn K (.ref f_run_end) = true)
    (a_token_end : PySem.W.nsIn K mainGlobals "token_end" = some (some (.ref f_token_end)))
    (l_token_end : K.lookup f_token_end = some ⟨oc_token_end, od_token_end, .func (PySem.W.fnOf "token_end" "token_end" (defArgs s_token_end) (defBody s_token_end) (defScope s_token_end) .none kV_token_end dc_token_end pm_token_end an_token_end cd_token_end ct_token_end), sl_token_end⟩)
    (c_token_end : PySem.W.codeIn K cd_token_end "token_end" = true)
    (k_token_end : PySem.W.keepIn K (.ref f_token_end) = true)
    (a_split_line : PySem.W.nsIn K mainGlobals "split_line" = some (some (.ref f_split_line)))
    (l_split_line : K.lookup f_split_line = some ⟨oc_split_line, od_split_line, .func (PySem.W.fnOf "split_line" "split_line" (defArgs s_split_line) (defBody s_split_line) (defScope s_split_line) .none kV_split_line dc_split_line pm_split_line an_split_line cd_split_line ct_split_line), sl_split_line⟩)
    (c_split_line : PySem.W.codeIn K cd_split_line "split_line" = true)
    (k_split_line : PySem.W.keepIn K (.ref f_split_line) = true)
    (a_in_bound : PySem.W.nsIn K mainGlobals "in_bound" = some (some (.ref f_in_bound)))
    (l_in_bound : K.lookup f_in_bound = some ⟨oc_in_bound, od_in_bound, .func (PySem.W.fnOf "in_bound" "in_bound" (defArgs s_in_bound) (defBody s_in_bound) (defScope s_in_bound) .none kV_in_bound dc_in_bound pm_in_bound an_in_bound cd_in_bound ct_in_bound), sl_in_bound⟩)
    (c_in_bound : PySem.W.codeIn K cd_in_bound "in_bound" = true)
    (k_in_bound : PySem.W.keepIn K (.ref f_in_bound) = true)
    (a_check_times : PySem.W.nsIn K mainGlobals "check_times" = some (some (.ref f_check_times)))
    (l_check_times : K.lookup f_check_times = some ⟨oc_check_times, od_check_times, .func (PySem.W.fnOf "check_times" "check_times" (defArgs s_check_times) (defBody s_check_times) (defScope s_check_times) .none kV_check_times dc_check_times pm_check_times an_check_times cd_check_times ct_check_times), sl_check_times⟩)
    (c_check_times : PySem.W.codeIn K cd_check_times "check_times" = true)
    (k_check_times : PySem.W.keepIn K (.ref f_check_times) = true)
    (a_is_integer : PySem.W.nsIn K mainGlobals "is_integer" = some (some (.ref f_is_integer)))
    (l_is_integer : K.lookup f_is_integer = some ⟨oc_is_integer, od_is_integer, .func (PySem.W.fnOf "is_integer" "is_integer" (defArgs s_is_integer) (defBody s_is_integer) (defScope s_is_integer) .none kV_is_integer dc_is_integer pm_is_integer an_is_integer cd_is_integer ct_is_integer), sl_is_integer⟩)
    (c_is_integer : PySem.W.codeIn K cd_is_integer "is_integer" = true)
    (k_is_integer : PySem.W.keepIn K (.ref f_is_integer) = true)
    (a__law_state : PySem.W.nsIn K mainGlobals "_law_state" = some (some (.ref f__law_state)))
    (l__law_state : K.lookup f__law_state = some ⟨oc__law_state, od__law_state, .func (PySem.W.fnOf "_law_state" "_law_state" (defArgs s__law_state) (defBody s__law_state) (defScope s__law_state) .none kV__law_state dc__law_state pm__law_state an__law_state cd__law_state ct__law_state), sl__law_state⟩)
    (c__law_state : PySem.W.codeIn K cd__law_state "_law_state" = true)
    (k__law_state : PySem.W.keepIn K (.ref f__law_state) = true)
    (a__law_draw : PySem.W.nsIn K mainGlobals "_law_draw" = some (some (.ref f__law_draw)))
    (l__law_draw : K.lookup f__law_draw = some ⟨oc__law_draw, od__law_draw, .func (PySem.W.fnOf "_law_draw" "_law_draw" (defArgs s__law_draw) (defBody s__law_draw) (defScope s__law_draw) .none kV__law_draw dc__law_draw pm__law_draw an__law_draw cd__law_draw ct__law_draw), sl__law_draw⟩)
    (c__law_draw : PySem.W.codeIn K cd__law_draw "_law_draw" = true)
    (k__law_draw : PySem.W.keepIn K (.ref f__law_draw) = true)
    (a__law_pick : PySem.W.nsIn K mainGlobals "_law_pick" = some (some (.ref f__law_pick)))
    (l__law_pick : K.lookup f__law_pick = some ⟨oc__law_pick, od__law_pick, .func (PySem.W.fnOf "_law_pick" "_law_pick" (defArgs s__law_pick) (defBody s__law_pick) (defScope s__law_pick) .none kV__law_pick dc__law_pick pm__law_pick an__law_pick cd__law_pick ct__law_pick), sl__law_pick⟩)
    (c__law_pick : PySem.W.codeIn K cd__law_pick "_law_pick" = true)
    (k__law_pick : PySem.W.keepIn K (.ref f__law_pick) = true)
    (a__law_number : PySem.W.nsIn K mainGlobals "_law_number" = some (some (.ref f__law_number)))
    (l__law_number : K.lookup f__law_number = some ⟨oc__law_number, od__law_number, .func (PySem.W.fnOf "_law_number" "_law_number" (defArgs s__law_number) (defBody s__law_number) (defScope s__law_number) .none kV__law_number dc__law_number pm__law_number an__law_number cd__law_number ct__law_number), sl__law_number⟩)
    (c__law_number : PySem.W.codeIn K cd__law_number "_law_number" = true)
    (k__law_number : PySem.W.keepIn K (.ref f__law_number) = true)
    (a__law_is_int : PySem.W.nsIn K mainGlobals "_law_is_int" = some (some (.ref f__law_is_int)))
    (l__law_is_int : K.lookup f__law_is_int = some ⟨oc__law_is_int, od__law_is_int, .func (PySem.W.fnOf "_law_is_int" "_law_is_int" (defArgs s__law_is_int) (defBody s__law_is_int) (defScope s__law_is_int) .none kV__law_is_int dc__law_is_int pm__law_is_int an__law_is_int cd__law_is_int ct__law_is_int), sl__law_is_int⟩)
    (c__law_is_int : PySem.W.codeIn K cd__law_is_int "_law_is_int" = true)
    (k__law_is_int : PySem.W.keepIn K (.ref f__law_is_int) = true)
    (a__law_same : PySem.W.nsIn K mainGlobals "_law_same" = some (some (.ref f__law_same)))
    (l__law_same : K.lookup f__law_same = some ⟨oc__law_same, od__law_same, .func (PySem.W.fnOf "_law_same" "_law_same" (defArgs s__law_same) (defBody s__law_same) (defScope s__law_same) .none kV__law_same dc__law_same pm__law_same an__law_same cd__law_same ct__law_same), sl__law_same⟩)
    (c__law_same : PySem.W.codeIn K cd__law_same "_law_same" = true)
    (k__law_same : PySem.W.keepIn K (.ref f__law_same) = true)
    (a__law_numbers : PySem.W.nsIn K mainGlobals "_law_numbers" = some (some (.ref f__law_numbers)))
    (l__law_numbers : K.lookup f__law_numbers = some ⟨oc__law_numbers, od__law_numbers, .func (PySem.W.fnOf "_law_numbers" "_law_numbers" (defArgs s__law_numbers) (defBody s__law_numbers) (defScope s__law_numbers) .none kV__law_numbers dc__law_numbers pm__law_numbers an__law_numbers cd__law_numbers ct__law_numbers), sl__law_numbers⟩)
    (c__law_numbers : PySem.W.codeIn K cd__law_numbers "_law_numbers" = true)
    (k__law_numbers : PySem.W.keepIn K (.ref f__law_numbers) = true)
    (a__law_near : PySem.W.nsIn K mainGlobals "_law_near" = some (some (.ref f__law_near)))
    (l__law_near : K.lookup f__law_near = some ⟨oc__law_near, od__law_near, .func (PySem.W.fnOf "_law_near" "_law_near" (defArgs s__law_near) (defBody s__law_near) (defScope s__law_near) .none kV__law_near dc__law_near pm__law_near an__law_near cd__law_near ct__law_near), sl__law_near⟩)
    (c__law_near : PySem.W.codeIn K cd__law_near "_law_near" = true)
    (k__law_near : PySem.W.keepIn K (.ref f__law_near) = true)
    (a__law_less : PySem.W.nsIn K mainGlobals "_law_less" = some (some (.ref f__law_less)))
    (l__law_less : K.lookup f__law_less = some ⟨oc__law_less, od__law_less, .func (PySem.W.fnOf "_law_less" "_law_less" (defArgs s__law_less) (defBody s__law_less) (defScope s__law_less) .none kV__law_less dc__law_less pm__law_less an__law_less cd__law_less ct__law_less), sl__law_less⟩)
    (c__law_less : PySem.W.codeIn K cd__law_less "_law_less" = true)
    (k__law_less : PySem.W.keepIn K (.ref f__law_less) = true)
    (fa_Weaving___init__ : PySem.W.findIn K (.ref a_Weaving) "__init__" = some (some (.ref f_Weaving___init__)))
    (fn_Weaving___init__ : PySem.W.isFn K (.ref f_Weaving___init__) = true)
    (l_Weaving___init__ : K.lookup f_Weaving___init__ = some ⟨oc_Weaving___init__, od_Weaving___init__, .func (PySem.W.fnOf "__init__" "Weaving.__init__" (defArgs s_Weaving___init__) (defBody s_Weaving___init__) (defScope s_Weaving___init__) .none kV_Weaving___init__ dc_Weaving___init__ pm_Weaving___init__ an_Weaving___init__ cd_Weaving___init__ ct_Weaving___init__), sl_Weaving___init__⟩)
    (c_Weaving___init__ : PySem.W.codeIn K cd_Weaving___init__ "Weaving.__init__" = true)
    (k_Weaving___init__ : PySem.W.keepIn K (.ref f_Weaving___init__) = true)
    (fa_Reader___init__ : PySem.W.findIn K (.ref a_Reader) "__init__" = some (some (.ref f_Reader___init__)))
    (fn_Reader___init__ : PySem.W.isFn K (.ref f_Reader___init__) = true)
    (l_Reader___init__ : K.lookup f_Reader___init__ = some ⟨oc_Reader___init__, od_Reader___init__, .func (PySem.W.fnOf "__init__" "Reader.__init__" (defArgs s_Reader___init__) (defBody s_Reader___init__) (defScope s_Reader___init__) (.ref dT_Reader___init__) kV_Reader___init__ dc_Reader___init__ pm_Reader___init__ an_Reader___init__ cd_Reader___init__ ct_Reader___init__), sl_Reader___init__⟩)
    (ld_Reader___init__ : K.lookup dT_Reader___init__ = some ⟨.type "tuple", dd_Reader___init__, .seq ds_Reader___init__ dn_Reader___init__, dl_Reader___init__⟩)
    (v_d_Reader___init__ : Vals [(.int 1)] ds_Reader___init__.toList)
    (c_Reader___init__ : PySem.W.codeIn K cd_Reader___init__ "Reader.__init__" = true)
    (k_Reader___init__ : PySem.W.keepIn K (.ref f_Reader___init__) = true)
    (fa_Reader_at_end : PySem.W.findIn K (.ref a_Reader) "at_end" = some (some (.ref f_Reader_at_end)))
    (fn_Reader_at_end : PySem.W.isFn K (.ref f_Reader_at_end) = true)
    (l_Reader_at_end : K.lookup f_Reader_at_end = some ⟨oc_Reader_at_end, od_Reader_at_end, .func (PySem.W.fnOf "at_end" "Reader.at_end" (defArgs s_Reader_at_end) (defBody s_Reader_at_end) (defScope s_Reader_at_end) .none kV_Reader_at_end dc_Reader_at_end pm_Reader_at_end an_Reader_at_end cd_Reader_at_end ct_Reader_at_end), sl_Reader_at_end⟩)
    (c_Reader_at_end : PySem.W.codeIn K cd_Reader_at_end "Reader.at_end" = true)
    (k_Reader_at_end : PySem.W.keepIn K (.ref f_Reader_at_end) = true)
    (fa_Reader_ahead : PySem.W.findIn K (.ref a_Reader) "ahead" = some (some (.ref f_Reader_ahead)))
    (fn_Reader_ahead : PySem.W.isFn K (.ref f_Reader_ahead) = true)
    (l_Reader_ahead : K.lookup f_Reader_ahead = some ⟨oc_Reader_ahead, od_Reader_ahead, .func (PySem.W.fnOf "ahead" "Reader.ahead" (defArgs s_Reader_ahead) (defBody s_Reader_ahead) (defScope s_Reader_ahead) .none kV_Reader_ahead dc_Reader_ahead pm_Reader_ahead an_Reader_ahead cd_Reader_ahead ct_Reader_ahead), sl_Reader_ahead⟩)
    (c_Reader_ahead : PySem.W.codeIn K cd_Reader_ahead "Reader.ahead" = true)
    (k_Reader_ahead : PySem.W.keepIn K (.ref f_Reader_ahead) = true)
    (fa_Reader__refuse : PySem.W.findIn K (.ref a_Reader) "_refuse" = some (some (.ref f_Reader__refuse)))
    (fn_Reader__refuse : PySem.W.isFn K (.ref f_Reader__refuse) = true)
    (l_Reader__refuse : K.lookup f_Reader__refuse = some ⟨oc_Reader__refuse, od_Reader__refuse, .func (PySem.W.fnOf "_refuse" "Reader._refuse" (defArgs s_Reader__refuse) (defBody s_Reader__refuse) (defScope s_Reader__refuse) .none kV_Reader__refuse dc_Reader__refuse pm_Reader__refuse an_Reader__refuse cd_Reader__refuse ct_Reader__refuse), sl_Reader__refuse⟩)
    (c_Reader__refuse : PySem.W.codeIn K cd_Reader__refuse "Reader._refuse" = true)
    (k_Reader__refuse : PySem.W.keepIn K (.ref f_Reader__refuse) = true)
    (fa_Reader__take_if : PySem.W.findIn K (.ref a_Reader) "_take_if" = some (some (.ref f_Reader__take_if)))
    (fn_Reader__take_if : PySem.W.isFn K (.ref f_Reader__take_if) = true)
    (l_Reader__take_if : K.lookup f_Reader__take_if = some ⟨oc_Reader__take_if, od_Reader__take_if, .func (PySem.W.fnOf "_take_if" "Reader._take_if" (defArgs s_Reader__take_if) (defBody s_Reader__take_if) (defScope s_Reader__take_if) .none kV_Reader__take_if dc_Reader__take_if pm_Reader__take_if an_Reader__take_if cd_Reader__take_if ct_Reader__take_if), sl_Reader__take_if⟩)
    (c_Reader__take_if : PySem.W.codeIn K cd_Reader__take_if "Reader._take_if" = true)
    (k_Reader__take_if : PySem.W.keepIn K (.ref f_Reader__take_if) = true)
    (fa_Reader_take_natural : PySem.W.findIn K (.ref a_Reader) "take_natural" = some (some (.ref f_Reader_take_natural)))
    (fn_Reader_take_natural : PySem.W.isFn K (.ref f_Reader_take_natural) = true)
    (l_Reader_take_natural : K.lookup f_Reader_take_natural = some ⟨oc_Reader_take_natural, od_Reader_take_natural, .func (PySem.W.fnOf "take_natural" "Reader.take_natural" (defArgs s_Reader_take_natural) (defBody s_Reader_take_natural) (defScope s_Reader_take_natural) .none kV_Reader_take_natural dc_Reader_take_natural pm_Reader_take_natural an_Reader_take_natural cd_Reader_take_natural ct_Reader_take_natural), sl_Reader_take_natural⟩)
    (c_Reader_take_natural : PySem.W.codeIn K cd_Reader_take_natural "Reader.take_natural" = true)
    (k_Reader_take_natural : PySem.W.keepIn K (.ref f_Reader_take_natural) = true)
    (sg_Weaving_read : PySem.W.findCls K (.ref a_Weaving) (.type "type") "read" = some (.get (.builtin "staticmethod.__get__") (.ref p_Weaving_read) .none (.ref a_Weaving)))
    (sr_Weaving_read : PySem.W.recIn K p_Weaving_read "staticmethod" = some (.ref f_Weaving_read :: r_Weaving_read))
    (l_Weaving_read : K.lookup f_Weaving_read = some ⟨oc_Weaving_read, od_Weaving_read, .func (PySem.W.fnOf "read" "Weaving.read" (defArgs s_Weaving_read) (defBody s_Weaving_read) (defScope s_Weaving_read) .none kV_Weaving_read dc_Weaving_read pm_Weaving_read an_Weaving_read cd_Weaving_read ct_Weaving_read), sl_Weaving_read⟩)
    (c_Weaving_read : PySem.W.codeIn K cd_Weaving_read "Weaving.read" = true)
    (k_Weaving_read : PySem.W.keepIn K (.ref f_Weaving_read) = true)
    (rh_Weaving___mul__ : PySem.W.findIn K (.ref a_Weaving) "__rmul__" = some (some (.ref ra_Weaving___mul__)))
    (rf_Weaving___mul__ : PySem.W.findIn K (.type "int") "__mul__" = some fo_Weaving___mul__)
    (rr_Weaving___mul__ : PySem.W.findIn K (.type "int") "__rmul__" = some ro_Weaving___mul__)
    (rs_Weaving___mul__ : PySem.W.subIn K (.type "int") (.ref a_Weaving) = some false)
    (fa_Weaving___mul__ : PySem.W.findIn K (.ref a_Weaving) "__mul__" = some (some (.ref f_Weaving___mul__)))
    (fn_Weaving___mul__ : PySem.W.isFn K (.ref f_Weaving___mul__) = true)
    (l_Weaving___mul__ : K.lookup f_Weaving___mul__ = some ⟨oc_Weaving___mul__, od_Weaving___mul__, .func (PySem.W.fnOf "__mul__" "Weaving.__mul__" (defArgs s_Weaving___mul__) (defBody s_Weaving___mul__) (defScope s_Weaving___mul__) .none kV_Weaving___mul__ dc_Weaving___mul__ pm_Weaving___mul__ an_Weaving___mul__ cd_Weaving___mul__ ct_Weaving___mul__), sl_Weaving___mul__⟩)
    (c_Weaving___mul__ : PySem.W.codeIn K cd_Weaving___mul__ "Weaving.__mul__" = true)
    (k_Weaving___mul__ : PySem.W.keepIn K (.ref f_Weaving___mul__) = true)
    (rm_Weaving___rmul__ : PySem.W.findIn K (.ref a_Weaving) "__mul__" = some (some (.ref ga_Weaving___rmul__)))
    (rs_Weaving___rmul__ : PySem.W.subIn K (.ref a_Weaving) (.type "int") = some false)
    (fa_Weaving___rmul__ : PySem.W.findIn K (.ref a_Weaving) "__rmul__" = some (some (.ref f_Weaving___rmul__)))
    (fn_Weaving___rmul__ : PySem.W.isFn K (.ref f_Weaving___rmul__) = true)
    (l_Weaving___rmul__ : K.lookup f_Weaving___rmul__ = some ⟨oc_Weaving___rmul__, od_Weaving___rmul__, .func (PySem.W.fnOf "__rmul__" "Weaving.__rmul__" (defArgs s_Weaving___rmul__) (defBody s_Weaving___rmul__) (defScope s_Weaving___rmul__) .none kV_Weaving___rmul__ dc_Weaving___rmul__ pm_Weaving___rmul__ an_Weaving___rmul__ cd_Weaving___rmul__ ct_Weaving___rmul__), sl_Weaving___rmul__⟩)
    (c_Weaving___rmul__ : PySem.W.codeIn K cd_Weaving___rmul__ "Weaving.__rmul__" = true)
    (k_Weaving___rmul__ : PySem.W.keepIn K (.ref f_Weaving___rmul__) = true)
    (a__law_try : PySem.W.nsIn K mainGlobals "_law_try" = some (some (.ref f__law_try)))
    (l__law_try : K.lookup f__law_try = some ⟨oc__law_try, od__law_try, .func (PySem.W.fnOf "_law_try" "_law_try" (defArgs s__law_try) (defBody s__law_try) (defScope s__law_try) .none kV__law_try dc__law_try pm__law_try an__law_try cd__law_try ct__law_try), sl__law_try⟩)
    (c__law_try : PySem.W.codeIn K cd__law_try "_law_try" = true)
    (k__law_try : PySem.W.keepIn K (.ref f__law_try) = true)
    (fa_Weaving_text : PySem.W.findIn K (.ref a_Weaving) "text" = some (some (.ref f_Weaving_text)))
    (fn_Weaving_text : PySem.W.isFn K (.ref f_Weaving_text) = true)
    (l_Weaving_text : K.lookup f_Weaving_text = some ⟨oc_Weaving_text, od_Weaving_text, .func (PySem.W.fnOf "text" "Weaving.text" (defArgs s_Weaving_text) (defBody s_Weaving_text) (defScope s_Weaving_text) .none kV_Weaving_text dc_Weaving_text pm_Weaving_text an_Weaving_text cd_Weaving_text ct_Weaving_text), sl_Weaving_text⟩)
    (c_Weaving_text : PySem.W.codeIn K cd_Weaving_text "Weaving.text" = true)
    (k_Weaving_text : PySem.W.keepIn K (.ref f_Weaving_text) = true)
    (fa_Weaving___len__ : PySem.W.findIn K (.ref a_Weaving) "__len__" = some (some (.ref f_Weaving___len__)))
    (fn_Weaving___len__ : PySem.W.isFn K (.ref f_Weaving___len__) = true)
    (l_Weaving___len__ : K.lookup f_Weaving___len__ = some ⟨oc_Weaving___len__, od_Weaving___len__, .func (PySem.W.fnOf "__len__" "Weaving.__len__" (defArgs s_Weaving___len__) (defBody s_Weaving___len__) (defScope s_Weaving___len__) .none kV_Weaving___len__ dc_Weaving___len__ pm_Weaving___len__ an_Weaving___len__ cd_Weaving___len__ ct_Weaving___len__), sl_Weaving___len__⟩)
    (c_Weaving___len__ : PySem.W.codeIn K cd_Weaving___len__ "Weaving.__len__" = true)
    (k_Weaving___len__ : PySem.W.keepIn K (.ref f_Weaving___len__) = true)
    (fa_Weaving___iter__ : PySem.W.findIn K (.ref a_Weaving) "__iter__" = some (some (.ref f_Weaving___iter__)))
    (fn_Weaving___iter__ : PySem.W.isFn K (.ref f_Weaving___iter__) = true)
    (l_Weaving___iter__ : K.lookup f_Weaving___iter__ = some ⟨oc_Weaving___iter__, od_Weaving___iter__, .func (PySem.W.fnOf "__iter__" "Weaving.__iter__" (defArgs s_Weaving___iter__) (defBody s_Weaving___iter__) (defScope s_Weaving___iter__) .none kV_Weaving___iter__ dc_Weaving___iter__ pm_Weaving___iter__ an_Weaving___iter__ cd_Weaving___iter__ ct_Weaving___iter__), sl_Weaving___iter__⟩)
    (c_Weaving___iter__ : PySem.W.codeIn K cd_Weaving___iter__ "Weaving.__iter__" = true)
    (k_Weaving___iter__ : PySem.W.keepIn K (.ref f_Weaving___iter__) = true)
    (a__law_shows : PySem.W.nsIn K mainGlobals "_law_shows" = some (some (.ref f__law_shows)))
    (l__law_shows : K.lookup f__law_shows = some ⟨oc__law_shows, od__law_shows, .func (PySem.W.fnOf "_law_shows" "_law_shows" (defArgs s__law_shows) (defBody s__law_shows) (defScope s__law_shows) .none kV__law_shows dc__law_shows pm__law_shows an__law_shows cd__law_shows ct__law_shows), sl__law_shows⟩)
    (c__law_shows : PySem.W.codeIn K cd__law_shows "_law_shows" = true)
    (k__law_shows : PySem.W.keepIn K (.ref f__law_shows) = true)
    (fa_Weaving___eq__ : PySem.W.findIn K (.ref a_Weaving) "__eq__" = some (some (.ref f_Weaving___eq__)))
    (fn_Weaving___eq__ : PySem.W.isFn K (.ref f_Weaving___eq__) = true)
    (l_Weaving___eq__ : K.lookup f_Weaving___eq__ = some ⟨oc_Weaving___eq__, od_Weaving___eq__, .func (PySem.W.fnOf "__eq__" "Weaving.__eq__" (defArgs s_Weaving___eq__) (defBody s_Weaving___eq__) (defScope s_Weaving___eq__) .none kV_Weaving___eq__ dc_Weaving___eq__ pm_Weaving___eq__ an_Weaving___eq__ cd_Weaving___eq__ ct_Weaving___eq__), sl_Weaving___eq__⟩)
    (c_Weaving___eq__ : PySem.W.codeIn K cd_Weaving___eq__ "Weaving.__eq__" = true)
    (k_Weaving___eq__ : PySem.W.keepIn K (.ref f_Weaving___eq__) = true)
    (fa_Weaving___lt__ : PySem.W.findIn K (.ref a_Weaving) "__lt__" = some (some (.ref f_Weaving___lt__)))
    (fn_Weaving___lt__ : PySem.W.isFn K (.ref f_Weaving___lt__) = true)
    (l_Weaving___lt__ : K.lookup f_Weaving___lt__ = some ⟨oc_Weaving___lt__, od_Weaving___lt__, .func (PySem.W.fnOf "__lt__" "Weaving.__lt__" (defArgs s_Weaving___lt__) (defBody s_Weaving___lt__) (defScope s_Weaving___lt__) .none kV_Weaving___lt__ dc_Weaving___lt__ pm_Weaving___lt__ an_Weaving___lt__ cd_Weaving___lt__ ct_Weaving___lt__), sl_Weaving___lt__⟩)
    (c_Weaving___lt__ : PySem.W.codeIn K cd_Weaving___lt__ "Weaving.__lt__" = true)
    (k_Weaving___lt__ : PySem.W.keepIn K (.ref f_Weaving___lt__) = true)
    (fa_Weaving___le__ : PySem.W.findIn K (.ref a_Weaving) "__le__" = some (some (.ref f_Weaving___le__)))
    (fn_Weaving___le__ : PySem.W.isFn K (.ref f_Weaving___le__) = true)
    (l_Weaving___le__ : K.lookup f_Weaving___le__ = some ⟨oc_Weaving___le__, od_Weaving___le__, .func (PySem.W.fnOf "__le__" "Weaving.__le__" (defArgs s_Weaving___le__) (defBody s_Weaving___le__) (defScope s_Weaving___le__) .none kV_Weaving___le__ dc_Weaving___le__ pm_Weaving___le__ an_Weaving___le__ cd_Weaving___le__ ct_Weaving___le__), sl_Weaving___le__⟩)
    (c_Weaving___le__ : PySem.W.codeIn K cd_Weaving___le__ "Weaving.__le__" = true)
    (k_Weaving___le__ : PySem.W.keepIn K (.ref f_Weaving___le__) = true)
    (a__law_all_right : PySem.W.nsIn K mainGlobals "_law_all_right" = some (some (.ref f__law_all_right)))
    (l__law_all_right : K.lookup f__law_all_right = some ⟨oc__law_all_right, od__law_all_right, .func (PySem.W.fnOf "_law_all_right" "_law_all_right" (defArgs s__law_all_right) (defBody s__law_all_right) (defScope s__law_all_right) .none kV__law_all_right dc__law_all_right pm__law_all_right an__law_all_right cd__law_all_right ct__law_all_right), sl__law_all_right⟩)
    (c__law_all_right : PySem.W.codeIn K cd__law_all_right "_law_all_right" = true)
    (k__law_all_right : PySem.W.keepIn K (.ref f__law_all_right) = true)
    (a__law_times_right : PySem.W.nsIn K mainGlobals "_law_times_right" = some (some (.ref f__law_times_right)))
    (l__law_times_right : K.lookup f__law_times_right = some ⟨oc__law_times_right, od__law_times_right, .func (PySem.W.fnOf "_law_times_right" "_law_times_right" (defArgs s__law_times_right) (defBody s__law_times_right) (defScope s__law_times_right) .none kV__law_times_right dc__law_times_right pm__law_times_right an__law_times_right cd__law_times_right ct__law_times_right), sl__law_times_right⟩)
    (c__law_times_right : PySem.W.codeIn K cd__law_times_right "_law_times_right" = true)
    (k__law_times_right : PySem.W.keepIn K (.ref f__law_times_right) = true)
    (a__law_line_right : PySem.W.nsIn K mainGlobals "_law_line_right" = some (some (.ref f__law_line_right)))
    (l__law_line_right : K.lookup f__law_line_right = some ⟨oc__law_line_right, od__law_line_right, .func (PySem.W.fnOf "_law_line_right" "_law_line_right" (defArgs s__law_line_right) (defBody s__law_line_right) (defScope s__law_line_right) .none kV__law_line_right dc__law_line_right pm__law_line_right an__law_line_right cd__law_line_right ct__law_line_right), sl__law_line_right⟩)
    (c__law_line_right : PySem.W.codeIn K cd__law_line_right "_law_line_right" = true)
    (k__law_line_right : PySem.W.keepIn K (.ref f__law_line_right) = true)
    (fa_Weaving_without : PySem.W.findIn K (.ref a_Weaving) "without" = some (some (.ref f_Weaving_without)))
    (fn_Weaving_without : PySem.W.isFn K (.ref f_Weaving_without) = true)
    (l_Weaving_without : K.lookup f_Weaving_without = some ⟨oc_Weaving_without, od_Weaving_without, .func (PySem.W.fnOf "without" "Weaving.without" (defArgs s_Weaving_without) (defBody s_Weaving_without) (defScope s_Weaving_without) .none kV_Weaving_without dc_Weaving_without pm_Weaving_without an_Weaving_without cd_Weaving_without ct_Weaving_without), sl_Weaving_without⟩)
    (c_Weaving_without : PySem.W.codeIn K cd_Weaving_without "Weaving.without" = true)
    (k_Weaving_without : PySem.W.keepIn K (.ref f_Weaving_without) = true)
    (fa_Weaving___add__ : PySem.W.findIn K (.ref a_Weaving) "__add__" = some (some (.ref f_Weaving___add__)))
    (fn_Weaving___add__ : PySem.W.isFn K (.ref f_Weaving___add__) = true)
    (l_Weaving___add__ : K.lookup f_Weaving___add__ = some ⟨oc_Weaving___add__, od_Weaving___add__, .func (PySem.W.fnOf "__add__" "Weaving.__add__" (defArgs s_Weaving___add__) (defBody s_Weaving___add__) (defScope s_Weaving___add__) .none kV_Weaving___add__ dc_Weaving___add__ pm_Weaving___add__ an_Weaving___add__ cd_Weaving___add__ ct_Weaving___add__), sl_Weaving___add__⟩)
    (c_Weaving___add__ : PySem.W.codeIn K cd_Weaving___add__ "Weaving.__add__" = true)
    (k_Weaving___add__ : PySem.W.keepIn K (.ref f_Weaving___add__) = true)
    (fa_Weaving___iadd__ : PySem.W.findIn K (.ref a_Weaving) "__iadd__" = some (some (.ref f_Weaving___iadd__)))
    (fn_Weaving___iadd__ : PySem.W.isFn K (.ref f_Weaving___iadd__) = true)
    (l_Weaving___iadd__ : K.lookup f_Weaving___iadd__ = some ⟨oc_Weaving___iadd__, od_Weaving___iadd__, .func (PySem.W.fnOf "__iadd__" "Weaving.__iadd__" (defArgs s_Weaving___iadd__) (defBody s_Weaving___iadd__) (defScope s_Weaving___iadd__) .none kV_Weaving___iadd__ dc_Weaving___iadd__ pm_Weaving___iadd__ an_Weaving___iadd__ cd_Weaving___iadd__ ct_Weaving___iadd__), sl_Weaving___iadd__⟩)
    (c_Weaving___iadd__ : PySem.W.codeIn K cd_Weaving___iadd__ "Weaving.__iadd__" = true)
    (k_Weaving___iadd__ : PySem.W.keepIn K (.ref f_Weaving___iadd__) = true)
    (a_law : PySem.W.nsIn K mainGlobals "law" = some (some (.ref f_law)))
    (l_law : K.lookup f_law = some ⟨oc_law, od_law, .func (PySem.W.fnOf "law" "law" (defArgs s_law) (defBody s_law) (defScope s_law) .none kV_law dc_law pm_law an_law cd_law ct_law), sl_law⟩)
    (c_law : PySem.W.codeIn K cd_law "law" = true)
    (k_law : PySem.W.keepIn K (.ref f_law) = true)
    (z_NotImplemented : PySem.W.nsIn K mainGlobals "NotImplemented" = some none)
    (z_abs : PySem.W.nsIn K mainGlobals "abs" = some none)
    (z_bool : PySem.W.nsIn K mainGlobals "bool" = some none)
    (z_dict : PySem.W.nsIn K mainGlobals "dict" = some none)
    (z_int : PySem.W.nsIn K mainGlobals "int" = some none)
    (z_isinstance : PySem.W.nsIn K mainGlobals "isinstance" = some none)
    (z_iter : PySem.W.nsIn K mainGlobals "iter" = some none)
    (z_len : PySem.W.nsIn K mainGlobals "len" = some none)
    (z_list : PySem.W.nsIn K mainGlobals "list" = some none)
    (z_range : PySem.W.nsIn K mainGlobals "range" = some none)
    (z_staticmethod : PySem.W.nsIn K mainGlobals "staticmethod" = some none)
    (z_str : PySem.W.nsIn K mainGlobals "str" = some none)
    (z_super : PySem.W.nsIn K mainGlobals "super" = some none)
    (z_tuple : PySem.W.nsIn K mainGlobals "tuple" = some none)
    (g_BOUND : PySem.W.nsIn K mainGlobals "BOUND" = some (some (.int 1000000000000000000000000000000 t_BOUND)))
    (g_DIGITS : PySem.W.nsIn K mainGlobals "DIGITS" = some (some (.str "0123456789" t_DIGITS)))
    (g_LETTERS : PySem.W.nsIn K mainGlobals "LETTERS" = some (some (.str "abcdefghijklmnopqrstuvwxyz" t_LETTERS)))
    (g_LONGEST_INTEGER : PySem.W.nsIn K mainGlobals "LONGEST_INTEGER" = some (some (.int 32 t_LONGEST_INTEGER)))
    (g_MOST_TIMES : PySem.W.nsIn K mainGlobals "MOST_TIMES" = some (some (.int 1000 t_MOST_TIMES)))
    (g_MARKS : PySem.W.nsIn K mainGlobals "MARKS" = some (some (.ref a_MARKS)))
    (l_MARKS : K.lookup a_MARKS = some ⟨.type "tuple", od_MARKS, .seq its_MARKS n_MARKS, sl_MARKS⟩)
    (v_MARKS : Vals [(.str "("), (.str ")"), (.str ","), (.str ";"), (.str ":")] its_MARKS.toList)
    (g_SIGNS : PySem.W.nsIn K mainGlobals "SIGNS" = some (some (.ref a_SIGNS)))
    (l_SIGNS : K.lookup a_SIGNS = some ⟨.type "tuple", od_SIGNS, .seq its_SIGNS n_SIGNS, sl_SIGNS⟩)
    (v_SIGNS : Vals [(.str "<"), (.str "<="), (.str "=="), (.str "!="), (.str ">="), (.str ">")] its_SIGNS.toList)
    (g_BadNumber : PySem.W.nsIn K mainGlobals "BadNumber" = some (some (.ref a_BadNumber)))
    (g_BadText : PySem.W.nsIn K mainGlobals "BadText" = some (some (.ref a_BadText)))
    (g_BadTurn : PySem.W.nsIn K mainGlobals "BadTurn" = some (some (.ref a_BadTurn)))
    (g_ElseputError : PySem.W.nsIn K mainGlobals "ElseputError" = some (some (.ref a_ElseputError)))
    (st_any : PySem.W.nsIn K PySem.cStatics "thirdparty.any" = some none)
    (htop : (l.prog.main.scope.names.lookup ("super" : Str)).isSome = false)
    (xc_BadNumber : K.lookup a_BadNumber = some (excClassObj nm_BadNumber q_BadNumber a_BadNumber N_BadNumber bs_BadNumber bm_BadNumber true sn_BadNumber sub_BadNumber ab_BadNumber col_BadNumber dd_BadNumber e0_BadNumber e1_BadNumber e2_BadNumber e3_BadNumber e5_BadNumber "ValueError.__new__"))
    (ref_BadNumber : PySem.HandSPX.refsVE bm_BadNumber = true)
    (sa_BadNumber : PySem.W.findIn K (.ref a_BadNumber) "__setattr__" = some (some (.builtin "object.__setattr__")))
    (eb_BadNumber : PySem.W.subIn K (.ref a_BadNumber) (.type "BaseException") = some true)
    (ty_BadNumber : PySem.W.typeIn K (.ref a_BadNumber) = some (.type "type"))
    (kC_BadNumber : PySem.W.keepIn K (.ref a_BadNumber) = true)
    (iC_BadNumber : PySem.W.findIn K (.ref a_BadNumber) "__init__" = some (some (.ref f_BadNumber)))
    (tI_BadNumber : PySem.W.typeIn K (.ref f_BadNumber) = some (.type "function"))
    (sup_BadNumber : PySem.W.ks_superIn K a_BadNumber a_BadNumber "__init__" = some (some (.builtin "ValueError.__init__")))
    (sv_BadNumber : PySem.W.subIn K (.ref a_BadNumber) (.type "ValueError") = some true)
    (mro_BadNumber : PySem.W.mroIn K a_BadNumber (.ref a_BadNumber) = some true)
    (no0_BadNumber : PySem.W.findIn K (.ref a_BadNumber) "value" = some none)
    (ga_BadNumber : PySem.W.findIn K (.ref a_BadNumber) "__getattribute__" = some (some (.builtin "BaseException.__getattribute__")))
    (gg_BadNumber : PySem.W.findIn K (.ref a_BadNumber) "__getattr__" = some none)
    (hd_BadNumber : PySem.W.hasDictIn K a_BadNumber = true)
    (hcl_BadNumber : PySem.W.findIn K (.ref a_BadNumber) "__class__" = some (some (.builtin "object.__class__")))
    (hn_BadNumber : PySem.W.specialIn K (.builtin "object.__class__") "__get__" = some (some (.builtin "getset_descriptor.__get__")))
    (ht_BadNumber : PySem.W.takesIn K (.builtin "object.__class__") = some true)
    (hm_BadNumber : PySem.W.mroIn K a_BadNumber (.type "object") = some true)
    (lf_BadNumber : K.lookup f_BadNumber = some ⟨oc_BadNumber, od_BadNumber, .func (PySem.W.fnX "__init__" "BadNumber.__init__" (defArgs s_BadNumber) (defBody s_BadNumber) (defScope s_BadNumber) [("__class__", cc_BadNumber)] .none .none doc_BadNumber pm_BadNumber none (.ref cda_BadNumber) ct_BadNumber), osl_BadNumber⟩)
    (cd_BadNumber : PySem.W.codeIn K (.ref cda_BadNumber) "BadNumber.__init__" = true)
    (lc_BadNumber : K.lookup cda_BadNumber = some ⟨ccl_BadNumber, cdd_BadNumber, .fields vs_BadNumber, ccs_BadNumber⟩)
    (v2_BadNumber : vs_BadNumber[2]? = some (.str file_BadNumber tf_BadNumber))
    (fe_BadNumber : ((l.prog.main.file : Str) == file_BadNumber) = true)
    (lcc_BadNumber : K.lookup cc_BadNumber = some ⟨cl_BadNumber, cld_BadNumber, .cell (some (.ref a_BadNumber)), csl_BadNumber⟩)
    (hD_BadNumber : PySem.W.clsIn K a_BadNumber = some cdD_BadNumber)
    (xc_BadText : K.lookup a_BadText = some (excClassObj nm_BadText q_BadText a_BadText N_BadText bs_BadText bm_BadText true sn_BadText sub_BadText ab_BadText col_BadText dd_BadText e0_BadText e1_BadText e2_BadText e3_BadText e5_BadText "ValueError.__new__"))
    (ref_BadText : PySem.HandSPX.refsVE bm_BadText = true)
    (sa_BadText : PySem.W.findIn K (.ref a_BadText) "__setattr__" = some (some (.builtin "object.__setattr__")))
    (eb_BadText : PySem.W.subIn K (.ref a_BadText) (.type "BaseException") = some true)
    (ty_BadText : PySem.W.typeIn K (.ref a_BadText) = some (.type "type"))
    (kC_BadText : PySem.W.keepIn K (.ref a_BadText) = true)
    (iC_BadText : PySem.W.findIn K (.ref a_BadText) "__init__" = some (some (.ref f_BadText)))
    (tI_BadText : PySem.W.typeIn K (.ref f_BadText) = some (.type "function"))
    (sup_BadText : PySem.W.ks_superIn K a_BadText a_BadText "__init__" = some (some (.builtin "ValueError.__init__")))
    (sv_BadText : PySem.W.subIn K (.ref a_BadText) (.type "ValueError") = some true)
    (mro_BadText : PySem.W.mroIn K a_BadText (.ref a_BadText) = some true)
    (no0_BadText : PySem.W.findIn K (.ref a_BadText) "line" = some none)
    (no1_BadText : PySem.W.findIn K (.ref a_BadText) "column" = some none)
    (ga_BadText : PySem.W.findIn K (.ref a_BadText) "__getattribute__" = some (some (.builtin "BaseException.__getattribute__")))
    (gg_BadText : PySem.W.findIn K (.ref a_BadText) "__getattr__" = some none)
    (hd_BadText : PySem.W.hasDictIn K a_BadText = true)
    (hcl_BadText : PySem.W.findIn K (.ref a_BadText) "__class__" = some (some (.builtin "object.__class__")))
    (hn_BadText : PySem.W.specialIn K (.builtin "object.__class__") "__get__" = some (some (.builtin "getset_descriptor.__get__")))
    (ht_BadText : PySem.W.takesIn K (.builtin "object.__class__") = some true)
    (hm_BadText : PySem.W.mroIn K a_BadText (.type "object") = some true)
    (lf_BadText : K.lookup f_BadText = some ⟨oc_BadText, od_BadText, .func (PySem.W.fnX "__init__" "BadText.__init__" (defArgs s_BadText) (defBody s_BadText) (defScope s_BadText) [("__class__", cc_BadText)] .none .none doc_BadText pm_BadText none (.ref cda_BadText) ct_BadText), osl_BadText⟩)
    (cd_BadText : PySem.W.codeIn K (.ref cda_BadText) "BadText.__init__" = true)
    (lc_BadText : K.lookup cda_BadText = some ⟨ccl_BadText, cdd_BadText, .fields vs_BadText, ccs_BadText⟩)
    (v2_BadText : vs_BadText[2]? = some (.str file_BadText tf_BadText))
    (fe_BadText : ((l.prog.main.file : Str) == file_BadText) = true)
    (lcc_BadText : K.lookup cc_BadText = some ⟨cl_BadText, cld_BadText, .cell (some (.ref a_BadText)), csl_BadText⟩)
    (hD_BadText : PySem.W.clsIn K a_BadText = some cdD_BadText)
    (xc_BadTurn : K.lookup a_BadTurn = some (excClassObj nm_BadTurn q_BadTurn a_BadTurn N_BadTurn bs_BadTurn bm_BadTurn true sn_BadTurn sub_BadTurn ab_BadTurn col_BadTurn dd_BadTurn e0_BadTurn e1_BadTurn e2_BadTurn e3_BadTurn e5_BadTurn "ValueError.__new__"))
    (ref_BadTurn : PySem.HandSPX.refsVE bm_BadTurn = true)
    (sa_BadTurn : PySem.W.findIn K (.ref a_BadTurn) "__setattr__" = some (some (.builtin "object.__setattr__")))
    (eb_BadTurn : PySem.W.subIn K (.ref a_BadTurn) (.type "BaseException") = some true)
    (ty_BadTurn : PySem.W.typeIn K (.ref a_BadTurn) = some (.type "type"))
    (kC_BadTurn : PySem.W.keepIn K (.ref a_BadTurn) = true)
    (iC_BadTurn : PySem.W.findIn K (.ref a_BadTurn) "__init__" = some (some (.ref f_BadTurn)))
    (tI_BadTurn : PySem.W.typeIn K (.ref f_BadTurn) = some (.type "function"))
    (sup_BadTurn : PySem.W.ks_superIn K a_BadTurn a_BadTurn "__init__" = some (some (.builtin "ValueError.__init__")))
    (sv_BadTurn : PySem.W.subIn K (.ref a_BadTurn) (.type "ValueError") = some true)
    (mro_BadTurn : PySem.W.mroIn K a_BadTurn (.ref a_BadTurn) = some true)
    (no0_BadTurn : PySem.W.findIn K (.ref a_BadTurn) "writer" = some none)
    (ga_BadTurn : PySem.W.findIn K (.ref a_BadTurn) "__getattribute__" = some (some (.builtin "BaseException.__getattribute__")))
    (gg_BadTurn : PySem.W.findIn K (.ref a_BadTurn) "__getattr__" = some none)
    (hd_BadTurn : PySem.W.hasDictIn K a_BadTurn = true)
    (hcl_BadTurn : PySem.W.findIn K (.ref a_BadTurn) "__class__" = some (some (.builtin "object.__class__")))
    (hn_BadTurn : PySem.W.specialIn K (.builtin "object.__class__") "__get__" = some (some (.builtin "getset_descriptor.__get__")))
    (ht_BadTurn : PySem.W.takesIn K (.builtin "object.__class__") = some true)
    (hm_BadTurn : PySem.W.mroIn K a_BadTurn (.type "object") = some true)
    (lf_BadTurn : K.lookup f_BadTurn = some ⟨oc_BadTurn, od_BadTurn, .func (PySem.W.fnX "__init__" "BadTurn.__init__" (defArgs s_BadTurn) (defBody s_BadTurn) (defScope s_BadTurn) [("__class__", cc_BadTurn)] .none .none doc_BadTurn pm_BadTurn none (.ref cda_BadTurn) ct_BadTurn), osl_BadTurn⟩)
    (cd_BadTurn : PySem.W.codeIn K (.ref cda_BadTurn) "BadTurn.__init__" = true)
    (lc_BadTurn : K.lookup cda_BadTurn = some ⟨ccl_BadTurn, cdd_BadTurn, .fields vs_BadTurn, ccs_BadTurn⟩)
    (v2_BadTurn : vs_BadTurn[2]? = some (.str file_BadTurn tf_BadTurn))
    (fe_BadTurn : ((l.prog.main.file : Str) == file_BadTurn) = true)
    (lcc_BadTurn : K.lookup cc_BadTurn = some ⟨cl_BadTurn, cld_BadTurn, .cell (some (.ref a_BadTurn)), csl_BadTurn⟩)
    (hD_BadTurn : PySem.W.clsIn K a_BadTurn = some cdD_BadTurn)
    (mb_ElseputError : PySem.W.subIn K (.ref a_ElseputError) (.type "BaseException") = some true)
    (md_ElseputError : PySem.W.hasDictIn K a_ElseputError = true)
    (mt_ElseputError : PySem.W.typeIn K (.ref a_ElseputError) = some (.type "type"))
    (ms_BadNumber_ElseputError : PySem.W.subIn K (.ref a_BadNumber) (.ref a_ElseputError) = some true)
    (ms_BadText_ElseputError : PySem.W.subIn K (.ref a_BadText) (.ref a_ElseputError) = some true)
    (ms_BadTurn_ElseputError : PySem.W.subIn K (.ref a_BadTurn) (.ref a_ElseputError) = some true)
    (kit_BadNumber_BadTurn : PySem.W.kitOne K (.ref a_BadNumber) (.ref a_BadTurn) = some false)
    (kit_BadNumber_BadNumber : PySem.W.kitOne K (.ref a_BadNumber) (.ref a_BadNumber) = some true)
    (kit_BadNumber_BadText : PySem.W.kitOne K (.ref a_BadNumber) (.ref a_BadText) = some false)
    (kit_BadText_BadTurn : PySem.W.kitOne K (.ref a_BadText) (.ref a_BadTurn) = some false)
    (kit_BadText_BadNumber : PySem.W.kitOne K (.ref a_BadText) (.ref a_BadNumber) = some false)
    (kit_BadText_BadText : PySem.W.kitOne K (.ref a_BadText) (.ref a_BadText) = some true)
    (kit_BadTurn_BadTurn : PySem.W.kitOne K (.ref a_BadTurn) (.ref a_BadTurn) = some true)
    (kit_BadTurn_BadNumber : PySem.W.kitOne K (.ref a_BadTurn) (.ref a_BadNumber) = some false)
    (kit_BadTurn_BadText : PySem.W.kitOne K (.ref a_BadTurn) (.ref a_BadText) = some false)
    : ∃ fd : FuncData, (∀ (s : Shared) (v : Value), BindsTo s fd ⟨[v], []⟩ [("_law_script", v)]) ∧ ∀ base : Heap, K.In base → base.Ns mainGlobals mg → FnOk l.prog w K mg base CX0 80 fa fd ["_law_script"] (spLaw K) := by
  have e := hfa.symm.trans (PySem.W.mg_of X G a_law)
  cases e
  have XK_BadNumber : ExK K a_BadNumber f_BadNumber ["value"] := exk_mk xc_BadNumber ref_BadNumber sa_BadNumber eb_BadNumber ty_BadNumber kC_BadNumber sup_BadNumber sv_BadNumber mro_BadNumber iC_BadNumber tI_BadNumber (fun f hf => by simp only [List.mem_cons, List.not_mem_nil, or_false] at hf; subst hf; exact no0_BadNumber) ga_BadNumber gg_BadNumber hd_BadNumber hcl_BadNumber hn_BadNumber ht_BadNumber hm_BadNumber
  have XK_BadText : ExK K a_BadText f_BadText ["line", "column"] := exk_mk xc_BadText ref_BadText sa_BadText eb_BadText ty_BadText kC_BadText sup_BadText sv_BadText mro_BadText iC_BadText tI_BadText (fun f hf => by simp only [List.mem_cons, List.not_mem_nil, or_false] at hf; rcases hf with rfl | rfl; exact no0_BadText; exact no1_BadText) ga_BadText gg_BadText hd_BadText hcl_BadText hn_BadText ht_BadText hm_BadText
  have XK_BadTurn : ExK K a_BadTurn f_BadTurn ["writer"] := exk_mk xc_BadTurn ref_BadTurn sa_BadTurn eb_BadTurn ty_BadTurn kC_BadTurn sup_BadTurn sv_BadTurn mro_BadTurn iC_BadTurn tI_BadTurn (fun f hf => by simp only [List.mem_cons, List.not_mem_nil, or_false] at hf; subst hf; exact no0_BadTurn) ga_BadTurn gg_BadTurn hd_BadTurn hcl_BadTurn hn_BadTurn ht_BadTurn hm_BadTurn
  have T : Gs K mg t_BOUND t_DIGITS t_LETTERS t_LONGEST_INTEGER t_MOST_TIMES a_MARKS a_SIGNS a_BadNumber a_BadText a_BadTurn a_ElseputError a_Reader a_Weaving := { z_NotImplemented := PySem.W.mg_none_of X G z_NotImplemented, z_abs := PySem.W.mg_none_of X G z_abs, z_bool := PySem.W.mg_none_of X G z_bool, z_dict := PySem.W.mg_none_of X G z_dict, z_int := PySem.W.mg_none_of X G z_int, z_isinstance := PySem.W.mg_none_of X G z_isinstance, z_iter := PySem.W.mg_none_of X G z_iter, z_len := PySem.W.mg_none_of X G z_len, z_list := PySem.W.mg_none_of X G z_list, z_range := PySem.W.mg_none_of X G z_range, z_staticmethod := PySem.W.mg_none_of X G z_staticmethod, z_str := PySem.W.mg_none_of X G z_str, z_super := PySem.W.mg_none_of X G z_super, z_tuple := PySem.W.mg_none_of X G z_tuple, g_BOUND := PySem.W.mg_of X G g_BOUND, g_DIGITS := PySem.W.mg_of X G g_DIGITS, g_LETTERS := PySem.W.mg_of X G g_LETTERS, g_LONGEST_INTEGER := PySem.W.mg_of X G g_LONGEST_INTEGER, g_MOST_TIMES := PySem.W.mg_of X G g_MOST_TIMES, g_MARKS := PySem.W.mg_of X G g_MARKS, g_SIGNS := PySem.W.mg_of X G g_SIGNS, g_BadNumber := PySem.W.mg_of X G g_BadNumber, g_BadText := PySem.W.mg_of X G g_BadText, g_BadTurn := PySem.W.mg_of X G g_BadTurn, g_ElseputError := PySem.W.mg_of X G g_ElseputError, g_Reader := PySem.W.mg_of X G g_Reader, g_Weaving := PySem.W.mg_of X G g_Weaving, q_MARKS := fun _ => .inr ⟨_, _, _, l_MARKS, rfl, rfl, (by have e : _ = its_MARKS.size := v_MARKS.length.trans Array.length_toList; rw [← e]; decide), v_MARKS⟩, q_SIGNS := fun _ => .inr ⟨_, _, _, l_SIGNS, rfl, rfl, (by have e : _ = its_SIGNS.size := v_SIGNS.length.trans Array.length_toList; rw [← e]; decide), v_SIGNS⟩, n_ElseputError := g_ElseputError, n_BadNumber := g_BadNumber, n_BadText := g_BadText, n_BadTurn := g_BadTurn, n_Reader := g_Reader, n_Weaving := g_Weaving, x_BadNumber := ⟨XK_BadNumber.no, XK_BadNumber.xf, XK_BadNumber.is⟩, x_BadText := ⟨XK_BadText.no, XK_BadText.xf, XK_BadText.is⟩, x_BadTurn := ⟨XK_BadTurn.no, XK_BadTurn.xf, XK_BadTurn.is⟩, cl_Reader := ⟨pg_Reader, hx_Reader, po_Reader, st_Reader⟩, rd_Reader := ⟨rr_Reader, rg_Reader⟩, na_Reader__at := na_Reader__at, na_Reader__end := na_Reader__end, na_Reader__number := na_Reader__number, na_Reader__parts := na_Reader__parts, cl_Weaving := ⟨pg_Weaving, hx_Weaving, po_Weaving, st_Weaving⟩, rd_Weaving := ⟨rr_Weaving, rg_Weaving⟩, is_Weaving := ⟨hcl_Weaving, hn_Weaving, ht_Weaving, hm_Weaving⟩, na_Weaving__many := na_Weaving__many, na_Weaving_turns := na_Weaving_turns, m_BadNumber_ElseputError := PySem.W.exm_ref mb_ElseputError md_ElseputError mt_ElseputError ms_BadNumber_ElseputError, m_BadText_ElseputError := PySem.W.exm_ref mb_ElseputError md_ElseputError mt_ElseputError ms_BadText_ElseputError, m_BadTurn_ElseputError := PySem.W.exm_ref mb_ElseputError md_ElseputError mt_ElseputError ms_BadTurn_ElseputError, k_BadNumber_BadTurn := kit_BadNumber_BadTurn, k_BadNumber_BadNumber := kit_BadNumber_BadNumber, k_BadNumber_BadText := kit_BadNumber_BadText, k_BadText_BadTurn := kit_BadText_BadTurn, k_BadText_BadNumber := kit_BadText_BadNumber, k_BadText_BadText := kit_BadText_BadText, k_BadTurn_BadTurn := kit_BadTurn_BadTurn, k_BadTurn_BadNumber := kit_BadTurn_BadNumber, k_BadTurn_BadText := kit_BadTurn_BadText }
  have F_run_end := fun_mk (st := s_run_end) l_run_end c_run_end k_run_end
  have b_run_end := F_run_end.binds (ps := ["line", "at", "characters"]) fun _ _ _ _ _ _ us hl => match us, hl with | [_, _, _], _ => rfl
  have F_token_end := fun_mk (st := s_token_end) l_token_end c_token_end k_token_end
  have b_token_end := F_token_end.binds (ps := ["line", "at"]) fun _ _ _ _ _ _ us hl => match us, hl with | [_, _], _ => rfl
  have F_split_line := fun_mk (st := s_split_line) l_split_line c_split_line k_split_line
  have b_split_line := F_split_line.binds (ps := ["line", "number"]) fun _ _ _ _ _ _ us hl => match us, hl with | [_, _], _ => rfl
  have F_in_bound := fun_mk (st := s_in_bound) l_in_bound c_in_bound k_in_bound
  have b_in_bound := F_in_bound.binds (ps := ["value"]) fun _ _ _ _ _ _ us hl => match us, hl with | [_], _ => rfl
  have F_check_times := fun_mk (st := s_check_times) l_check_times c_check_times k_check_times
  have b_check_times := F_check_times.binds (ps := ["times"]) fun _ _ _ _ _ _ us hl => match us, hl with | [_], _ => rfl
  have F_is_integer := fun_mk (st := s_is_integer) l_is_integer c_is_integer k_is_integer
  have b_is_integer := F_is_integer.binds (ps := ["token"]) fun _ _ _ _ _ _ us hl => match us, hl with | [_], _ => rfl
  have F__law_state := fun_mk (st := s__law_state) l__law_state c__law_state k__law_state
  have b__law_state := F__law_state.binds (ps := ["_law_script"]) fun _ _ _ _ _ _ us hl => match us, hl with | [_], _ => rfl
  have F__law_draw := fun_mk (st := s__law_draw) l__law_draw c__law_draw k__law_draw
  have b__law_draw := F__law_draw.binds (ps := ["_law_state_here", "_law_many"]) fun _ _ _ _ _ _ us hl => match us, hl with | [_, _], _ => rfl
  have F__law_pick := fun_mk (st := s__law_pick) l__law_pick c__law_pick k__law_pick
  have b__law_pick := F__law_pick.binds (ps := ["_law_state_here", "_law_row"]) fun _ _ _ _ _ _ us hl => match us, hl with | [_, _], _ => rfl
  have F__law_number := fun_mk (st := s__law_number) l__law_number c__law_number k__law_number
  have b__law_number := F__law_number.binds (ps := ["_law_state_here"]) fun _ _ _ _ _ _ us hl => match us, hl with | [_], _ => rfl
  have F__law_is_int := fun_mk (st := s__law_is_int) l__law_is_int c__law_is_int k__law_is_int
  have b__law_is_int := F__law_is_int.binds (ps := ["_law_thing"]) fun _ _ _ _ _ _ us hl => match us, hl with | [_], _ => rfl
  have F__law_same := fun_mk (st := s__law_same) l__law_same c__law_same k__law_same
  have b__law_same := F__law_same.binds (ps := ["_law_actual", "_law_due"]) fun _ _ _ _ _ _ us hl => match us, hl with | [_, _], _ => rfl
  have F__law_numbers := fun_mk (st := s__law_numbers) l__law_numbers c__law_numbers k__law_numbers
  have b__law_numbers := F__law_numbers.binds (ps := ["_law_state_here", "_law_most"]) fun _ _ _ _ _ _ us hl => match us, hl with | [_, _], _ => rfl
  have F__law_near := fun_mk (st := s__law_near) l__law_near c__law_near k__law_near
  have b__law_near := F__law_near.binds (ps := ["_law_state_here", "_law_turns"]) fun _ _ _ _ _ _ us hl => match us, hl with | [_, _], _ => rfl
  have F__law_less := fun_mk (st := s__law_less) l__law_less c__law_less k__law_less
  have b__law_less := F__law_less.binds (ps := ["_law_first", "_law_second"]) fun _ _ _ _ _ _ us hl => match us, hl with | [_, _], _ => rfl
  have F_Weaving___init__ := fun_mk (st := s_Weaving___init__) l_Weaving___init__ c_Weaving___init__ k_Weaving___init__
  have b_Weaving___init__ := F_Weaving___init__.binds (ps := ["self", "turns"]) fun _ _ _ _ _ _ us hl => match us, hl with | [_, _], _ => rfl
  have F_Reader___init__ := fund_mk (st := s_Reader___init__) (dvs := [(.int 1)]) l_Reader___init__ c_Reader___init__ k_Reader___init__ ld_Reader___init__ v_d_Reader___init__ (by simp)
  have b_Reader___init__ := F_Reader___init__.binds1 (ps := ["self", "line", "number"]) 2 0 (by simp) (by rfl) fun _ _ _ _ _ _ _ us its hu hi => match us, hu, its, hi with | [_, _], _, [_], _ => ⟨_, rfl, rfl⟩
  have F_Reader_at_end := fun_mk (st := s_Reader_at_end) l_Reader_at_end c_Reader_at_end k_Reader_at_end
  have b_Reader_at_end := F_Reader_at_end.binds (ps := ["self"]) fun _ _ _ _ _ _ us hl => match us, hl with | [_], _ => rfl
  have F_Reader_ahead := fun_mk (st := s_Reader_ahead) l_Reader_ahead c_Reader_ahead k_Reader_ahead
  have b_Reader_ahead := F_Reader_ahead.binds (ps := ["self"]) fun _ _ _ _ _ _ us hl => match us, hl with | [_], _ => rfl
  have F_Reader__refuse := fun_mk (st := s_Reader__refuse) l_Reader__refuse c_Reader__refuse k_Reader__refuse
  have b_Reader__refuse := F_Reader__refuse.binds (ps := ["self"]) fun _ _ _ _ _ _ us hl => match us, hl with | [_], _ => rfl
  have F_Reader__take_if := fun_mk (st := s_Reader__take_if) l_Reader__take_if c_Reader__take_if k_Reader__take_if
  have b_Reader__take_if := F_Reader__take_if.binds (ps := ["self", "fits"]) fun _ _ _ _ _ _ us hl => match us, hl with | [_, _], _ => rfl
  have F_Reader_take_natural := fun_mk (st := s_Reader_take_natural) l_Reader_take_natural c_Reader_take_natural k_Reader_take_natural
  have b_Reader_take_natural := F_Reader_take_natural.binds (ps := ["self"]) fun _ _ _ _ _ _ us hl => match us, hl with | [_], _ => rfl
  have F_Weaving_read := fun_mk (st := s_Weaving_read) l_Weaving_read c_Weaving_read k_Weaving_read
  have b_Weaving_read := F_Weaving_read.binds (ps := ["line"]) fun _ _ _ _ _ _ us hl => match us, hl with | [_], _ => rfl
  have F_Weaving___mul__ := fun_mk (st := s_Weaving___mul__) l_Weaving___mul__ c_Weaving___mul__ k_Weaving___mul__
  have b_Weaving___mul__ := F_Weaving___mul__.binds (ps := ["self", "times"]) fun _ _ _ _ _ _ us hl => match us, hl with | [_, _], _ => rfl
  have F_Weaving___rmul__ := fun_mk (st := s_Weaving___rmul__) l_Weaving___rmul__ c_Weaving___rmul__ k_Weaving___rmul__
  have b_Weaving___rmul__ := F_Weaving___rmul__.binds (ps := ["self", "times"]) fun _ _ _ _ _ _ us hl => match us, hl with | [_, _], _ => rfl
  have F__law_try := fun_mk (st := s__law_try) l__law_try c__law_try k__law_try
  have b__law_try := F__law_try.binds (ps := ["_law_deed", "_law_weaving", "_law_thing"]) fun _ _ _ _ _ _ us hl => match us, hl with | [_, _, _], _ => rfl
  have F_Weaving_text := fun_mk (st := s_Weaving_text) l_Weaving_text c_Weaving_text k_Weaving_text
  have b_Weaving_text := F_Weaving_text.binds (ps := ["self"]) fun _ _ _ _ _ _ us hl => match us, hl with | [_], _ => rfl
  have F_Weaving___len__ := fun_mk (st := s_Weaving___len__) l_Weaving___len__ c_Weaving___len__ k_Weaving___len__
  have b_Weaving___len__ := F_Weaving___len__.binds (ps := ["self"]) fun _ _ _ _ _ _ us hl => match us, hl with | [_], _ => rfl
  have F_Weaving___iter__ := fun_mk (st := s_Weaving___iter__) l_Weaving___iter__ c_Weaving___iter__ k_Weaving___iter__
  have b_Weaving___iter__ := F_Weaving___iter__.binds (ps := ["self"]) fun _ _ _ _ _ _ us hl => match us, hl with | [_], _ => rfl
  have F__law_shows := fun_mk (st := s__law_shows) l__law_shows c__law_shows k__law_shows
  have b__law_shows := F__law_shows.binds (ps := ["_law_weaving", "_law_turns"]) fun _ _ _ _ _ _ us hl => match us, hl with | [_, _], _ => rfl
  have F_Weaving___eq__ := fun_mk (st := s_Weaving___eq__) l_Weaving___eq__ c_Weaving___eq__ k_Weaving___eq__
  have b_Weaving___eq__ := F_Weaving___eq__.binds (ps := ["self", "other"]) fun _ _ _ _ _ _ us hl => match us, hl with | [_, _], _ => rfl
  have F_Weaving___lt__ := fun_mk (st := s_Weaving___lt__) l_Weaving___lt__ c_Weaving___lt__ k_Weaving___lt__
  have b_Weaving___lt__ := F_Weaving___lt__.binds (ps := ["self", "other"]) fun _ _ _ _ _ _ us hl => match us, hl with | [_, _], _ => rfl
  have F_Weaving___le__ := fun_mk (st := s_Weaving___le__) l_Weaving___le__ c_Weaving___le__ k_Weaving___le__
  have b_Weaving___le__ := F_Weaving___le__.binds (ps := ["self", "other"]) fun _ _ _ _ _ _ us hl => match us, hl with | [_, _], _ => rfl
  have F__law_all_right := fun_mk (st := s__law_all_right) l__law_all_right c__law_all_right k__law_all_right
  have b__law_all_right := F__law_all_right.binds (ps := ["_law_weavings", "_law_rows"]) fun _ _ _ _ _ _ us hl => match us, hl with | [_, _], _ => rfl
  have F__law_times_right := fun_mk (st := s__law_times_right) l__law_times_right c__law_times_right k__law_times_right
  have b__law_times_right := F__law_times_right.binds (ps := ["_law_state_here", "_law_weaving", "_law_turns"]) fun _ _ _ _ _ _ us hl => match us, hl with | [_, _, _], _ => rfl
  have F__law_line_right := fun_mk (st := s__law_line_right) l__law_line_right c__law_line_right k__law_line_right
  have b__law_line_right := F__law_line_right.binds (ps := ["_law_state_here", "_law_turns"]) fun _ _ _ _ _ _ us hl => match us, hl with | [_, _], _ => rfl
  have F_Weaving_without := fun_mk (st := s_Weaving_without) l_Weaving_without c_Weaving_without k_Weaving_without
  have b_Weaving_without := F_Weaving_without.binds (ps := ["self", "writer"]) fun _ _ _ _ _ _ us hl => match us, hl with | [_, _], _ => rfl
  have F_Weaving___add__ := fun_mk (st := s_Weaving___add__) l_Weaving___add__ c_Weaving___add__ k_Weaving___add__
  have b_Weaving___add__ := F_Weaving___add__.binds (ps := ["self", "other"]) fun _ _ _ _ _ _ us hl => match us, hl with | [_, _], _ => rfl
  have F_Weaving___iadd__ := fun_mk (st := s_Weaving___iadd__) l_Weaving___iadd__ c_Weaving___iadd__ k_Weaving___iadd__
  have b_Weaving___iadd__ := F_Weaving___iadd__.binds (ps := ["self", "other"]) fun _ _ _ _ _ _ us hl => match us, hl with | [_, _], _ => rfl
  have F_law := fun_mk (st := s_law) l_law c_law k_law
  have b_law := F_law.binds (ps := ["_law_script"]) fun _ _ _ _ _ _ us hl => match us, hl with | [_], _ => rfl
  refine ⟨PySem.W.fnOf "law" "law" (defArgs s_law) (defBody s_law) (defScope s_law) .none kV_law dc_law pm_law an_law cd_law ct_law, fun s v => .of_eq rfl, fun base _ _ => ?_⟩
  have C_BadNumber : CalE l.prog w K mg base 1 "BadNumber" a_BadNumber f_BadNumber _ ["self", "value"] okx_BadNumber fs_BadNumber ["value"] := ⟨ok_BadNumber XK_BadNumber lf_BadNumber cd_BadNumber lc_BadNumber v2_BadNumber fe_BadNumber lcc_BadNumber hD_BadNumber (PySem.W.mg_none_of X G z_super) st_any htop, .all fun us hl => (match us, hl with | [_, _], _ => rfl), XK_BadNumber, PySem.W.mg_of X G g_BadNumber⟩
  have C_BadText : CalE l.prog w K mg base 1 "BadText" a_BadText f_BadText _ ["self", "line", "column"] okx_BadText fs_BadText ["line", "column"] := ⟨ok_BadText XK_BadText lf_BadText cd_BadText lc_BadText v2_BadText fe_BadText lcc_BadText hD_BadText (PySem.W.mg_none_of X G z_super) st_any htop, .all fun us hl => (match us, hl with | [_, _, _], _ => rfl), XK_BadText, PySem.W.mg_of X G g_BadText⟩
  have C_BadTurn : CalE l.prog w K mg base 1 "BadTurn" a_BadTurn f_BadTurn _ ["self", "writer"] okx_BadTurn fs_BadTurn ["writer"] := ⟨ok_BadTurn XK_BadTurn lf_BadTurn cd_BadTurn lc_BadTurn v2_BadTurn fe_BadTurn lcc_BadTurn hD_BadTurn (PySem.W.mg_none_of X G z_super) st_any htop, .all fun us hl => (match us, hl with | [_, _], _ => rfl), XK_BadTurn, PySem.W.mg_of X G g_BadTurn⟩
  have C_run_end : Cal l.prog w K mg base CX0 1 "run_end" f_run_end _ ["line", "at", "characters"] (sp_run_end K) := ⟨ok_run_end F_run_end T, b_run_end, k_run_end, PySem.W.mg_of X G a_run_end⟩
  have C_token_end : Cal l.prog w K mg base CX0 2 "token_end" f_token_end _ ["line", "at"] (sp_token_end K) := ⟨ok_token_end F_token_end T C_run_end, b_token_end, k_token_end, PySem.W.mg_of X G a_token_end⟩
  have C_split_line : Cal l.prog w K mg base (L2.CX l.prog w) 3 "split_line" f_split_line _ ["line", "number"] (sp_split_line K) := ⟨ok_split_line F_split_line T C_token_end C_BadText, b_split_line, k_split_line, PySem.W.mg_of X G a_split_line⟩
  have C_in_bound : Cal l.prog w K mg base CX0 1 "in_bound" f_in_bound _ ["value"] (sp_in_bound K) := ⟨ok_in_bound F_in_bound T, b_in_bound, k_in_bound, PySem.W.mg_of X G a_in_bound⟩
  have C_check_times : Cal l.prog w K mg base (L2.CX l.prog w) 3 "check_times" f_check_times _ ["times"] (sp_check_times K) := ⟨ok_check_times F_check_times T C_BadNumber, b_check_times, k_check_times, PySem.W.mg_of X G a_check_times⟩
  have C_is_integer : Cal l.prog w K mg base CX0 2 "is_integer" f_is_integer _ ["token"] (sp_is_integer K) := ⟨ok_is_integer F_is_integer T C_in_bound, b_is_integer, k_is_integer, PySem.W.mg_of X G a_is_integer⟩
  have C__law_state : Cal l.prog w K mg base CX0 1 "_law_state" f__law_state _ ["_law_script"] (sp__law_state K) := ⟨ok__law_state F__law_state T, b__law_state, k__law_state, PySem.W.mg_of X G a__law_state⟩
  have C__law_draw : Cal l.prog w K mg base CX0 1 "_law_draw" f__law_draw _ ["_law_state_here", "_law_many"] (sp__law_draw K) := ⟨ok__law_draw F__law_draw T, b__law_draw, k__law_draw, PySem.W.mg_of X G a__law_draw⟩
  have C__law_pick : Cal l.prog w K mg base CX0 2 "_law_pick" f__law_pick _ ["_law_state_here", "_law_row"] (sp__law_pick K) := ⟨ok__law_pick F__law_pick T C__law_draw, b__law_pick, k__law_pick, PySem.W.mg_of X G a__law_pick⟩
  have C__law_number : Cal l.prog w K mg base CX0 2 "_law_number" f__law_number _ ["_law_state_here"] (sp__law_number K) := ⟨ok__law_number F__law_number T C__law_draw, b__law_number, k__law_number, PySem.W.mg_of X G a__law_number⟩
  have C__law_is_int : Cal l.prog w K mg base CX0 1 "_law_is_int" f__law_is_int _ ["_law_thing"] (sp__law_is_int K) := ⟨ok__law_is_int F__law_is_int T, b__law_is_int, k__law_is_int, PySem.W.mg_of X G a__law_is_int⟩
  have C__law_same : Cal l.prog w K mg base CX0 26 "_law_same" f__law_same _ ["_law_actual", "_law_due"] (sp__law_same K) := ⟨ok__law_same F__law_same T C__law_is_int b__law_same k__law_same (PySem.W.mg_of X G a__law_same), b__law_same, k__law_same, PySem.W.mg_of X G a__law_same⟩
  have C__law_numbers : Cal l.prog w K mg base CX0 3 "_law_numbers" f__law_numbers _ ["_law_state_here", "_law_most"] (sp__law_numbers K) := ⟨ok__law_numbers F__law_numbers T C__law_draw C__law_number, b__law_numbers, k__law_numbers, PySem.W.mg_of X G a__law_numbers⟩
  have C__law_near : Cal l.prog w K mg base CX0 4 "_law_near" f__law_near _ ["_law_state_here", "_law_turns"] (sp__law_near K) := ⟨ok__law_near F__law_near T C__law_draw C__law_numbers, b__law_near, k__law_near, PySem.W.mg_of X G a__law_near⟩
  have C__law_less : Cal l.prog w K mg base CX0 1 "_law_less" f__law_less _ ["_law_first", "_law_second"] (sp__law_less K) := ⟨ok__law_less F__law_less T, b__law_less, k__law_less, PySem.W.mg_of X G a__law_less⟩
  have C_Weaving___init__ : CalI l.prog w K mg base (L2.CX l.prog w) 3 "Weaving" a_Weaving f_Weaving___init__ _ ["self", "turns"] (sp_Weaving___init__ K) := ⟨⟨ok_Weaving___init__ F_Weaving___init__ T C_BadTurn, b_Weaving___init__⟩, ⟨mi_Weaving, fa_Weaving___init__, fn_Weaving___init__, ko_Weaving⟩, PySem.W.mg_of X G g_Weaving⟩
  have C_Reader___init__ : CalID l.prog w K mg base (L2.CX l.prog w) 4 "Reader" a_Reader f_Reader___init__ _ ["self", "line", "number"] [(.int 1)] (sp_Reader___init__ K) := ⟨ok_Reader___init__ F_Reader___init__ T C_split_line, b_Reader___init__, ⟨mi_Reader, fa_Reader___init__, fn_Reader___init__, ko_Reader⟩, PySem.W.mg_of X G g_Reader⟩
  have C_Reader_at_end : CalM l.prog w K mg base CX0 1 a_Reader "at_end" f_Reader_at_end _ ["self"] (sp_Reader_at_end K) := ⟨⟨ok_Reader_at_end F_Reader_at_end T, b_Reader_at_end⟩, ⟨pg_Reader, hx_Reader, po_Reader, st_Reader⟩, ⟨fa_Reader_at_end, fn_Reader_at_end, k_Reader_at_end⟩⟩
  have C_Reader_ahead : CalM l.prog w K mg base CX0 2 a_Reader "ahead" f_Reader_ahead _ ["self"] (sp_Reader_ahead K) := ⟨⟨ok_Reader_ahead F_Reader_ahead T C_Reader_at_end, b_Reader_ahead⟩, ⟨pg_Reader, hx_Reader, po_Reader, st_Reader⟩, ⟨fa_Reader_ahead, fn_Reader_ahead, k_Reader_ahead⟩⟩
  have C_Reader__refuse : CalM l.prog w K mg base (L2.CX l.prog w) 3 a_Reader "_refuse" f_Reader__refuse _ ["self"] (sp_Reader__refuse K) := ⟨⟨ok_Reader__refuse F_Reader__refuse T C_Reader_at_end C_BadText, b_Reader__refuse⟩, ⟨pg_Reader, hx_Reader, po_Reader, st_Reader⟩, ⟨fa_Reader__refuse, fn_Reader__refuse, k_Reader__refuse⟩⟩
  have C_Reader__take_if : CalM l.prog w K mg base (L2.CX l.prog w) 4 a_Reader "_take_if" f_Reader__take_if _ ["self", "fits"] (sp_Reader__take_if K) := ⟨⟨ok_Reader__take_if F_Reader__take_if T C_Reader_ahead C_Reader__refuse, b_Reader__take_if⟩, ⟨pg_Reader, hx_Reader, po_Reader, st_Reader⟩, ⟨fa_Reader__take_if, fn_Reader__take_if, k_Reader__take_if⟩⟩
  have C_Reader_take_natural : CalM l.prog w K mg base (L2.CX l.prog w) 5 a_Reader "take_natural" f_Reader_take_natural _ ["self"] (sp_Reader_take_natural K) := ⟨⟨ok_Reader_take_natural F_Reader_take_natural T C_is_integer C_Reader_ahead C_Reader__take_if, b_Reader_take_natural⟩, ⟨pg_Reader, hx_Reader, po_Reader, st_Reader⟩, ⟨fa_Reader_take_natural, fn_Reader_take_natural, k_Reader_take_natural⟩⟩
  have C_Weaving_read : CalS l.prog w K mg base (L2.CX l.prog w) 6 a_Weaving p_Weaving_read "read" f_Weaving_read _ ["line"] (sp_Weaving_read K) := ⟨⟨ok_Weaving_read F_Weaving_read T C_Reader___init__ C_Weaving___init__ C_Reader_at_end C_Reader_take_natural, b_Weaving_read⟩, ⟨rr_Weaving, rg_Weaving⟩, ⟨sg_Weaving_read, ⟨_, sr_Weaving_read⟩, k_Weaving_read⟩⟩
  have C_Weaving___mul__ : CalOT l.prog w K mg base (L2.CX l.prog w) 5 a_Weaving .Mult f_Weaving___mul__ _ ["self", "times"] (sp_Weaving___mul__ K) := ⟨⟨ok_Weaving___mul__ F_Weaving___mul__ T C_check_times C_Weaving___init__, b_Weaving___mul__⟩, ⟨⟨sf_Weaving, fa_Weaving___mul__, fn_Weaving___mul__⟩, ⟨_, rh_Weaving___mul__, .inr ⟨_, rfl⟩⟩, ⟨_, rf_Weaving___mul__⟩, ⟨_, rr_Weaving___mul__⟩, rs_Weaving___mul__⟩⟩
  have C_Weaving___rmul__ : CalR l.prog w K mg base (L2.CX l.prog w) 6 a_Weaving f_Weaving___rmul__ _ ["self", "times"] (sp_Weaving___rmul__ K) := ⟨⟨ok_Weaving___rmul__ F_Weaving___rmul__ T C_Weaving___mul__, b_Weaving___rmul__⟩, ⟨sf_Weaving, ⟨_, rm_Weaving___rmul__⟩, fa_Weaving___rmul__, fn_Weaving___rmul__, rs_Weaving___rmul__⟩⟩
  have C__law_try : Cal l.prog w K mg base CX0 7 "_law_try" f__law_try _ ["_law_deed", "_law_weaving", "_law_thing"] (sp__law_try K) := ⟨ok__law_try F__law_try T C_Weaving___init__ C_Weaving_read C_Weaving___mul__ C_Weaving___rmul__, b__law_try, k__law_try, PySem.W.mg_of X G a__law_try⟩
  have C_Weaving_text : CalM l.prog w K mg base CX0 1 a_Weaving "text" f_Weaving_text _ ["self"] (sp_Weaving_text K) := ⟨⟨ok_Weaving_text F_Weaving_text T, b_Weaving_text⟩, ⟨pg_Weaving, hx_Weaving, po_Weaving, st_Weaving⟩, ⟨fa_Weaving_text, fn_Weaving_text, k_Weaving_text⟩⟩
  have C_Weaving___len__ : CalL l.prog w K mg base CX0 1 a_Weaving f_Weaving___len__ _ ["self"] (sp_Weaving___len__ K) := ⟨⟨ok_Weaving___len__ F_Weaving___len__ T, b_Weaving___len__⟩, ⟨fa_Weaving___len__, fn_Weaving___len__⟩⟩
  have C_Weaving___iter__ : CalIt l.prog w K mg base CX0 1 a_Weaving f_Weaving___iter__ (sp_Weaving___iter__ K) := ⟨ok_Weaving___iter__ F_Weaving___iter__ b_Weaving___iter__ T, ⟨fa_Weaving___iter__, fn_Weaving___iter__⟩⟩
  have C__law_shows : Cal l.prog w K mg base CX0 27 "_law_shows" f__law_shows _ ["_law_weaving", "_law_turns"] (sp__law_shows K) := ⟨ok__law_shows F__law_shows T C__law_same C_Weaving_text C_Weaving___len__ C_Weaving___iter__, b__law_shows, k__law_shows, PySem.W.mg_of X G a__law_shows⟩
  have C_Weaving___eq__ : CalCm l.prog w K mg base CX0 1 a_Weaving .Eq f_Weaving___eq__ _ ["self", "other"] (sp_Weaving___eq__ K) := ⟨⟨ok_Weaving___eq__ F_Weaving___eq__ T, b_Weaving___eq__⟩, ⟨fa_Weaving___eq__, fn_Weaving___eq__⟩⟩
  have C_Weaving___lt__ : CalCm l.prog w K mg base CX0 1 a_Weaving .Lt f_Weaving___lt__ _ ["self", "other"] (sp_Weaving___lt__ K) := ⟨⟨ok_Weaving___lt__ F_Weaving___lt__ T, b_Weaving___lt__⟩, ⟨fa_Weaving___lt__, fn_Weaving___lt__⟩⟩
  have C_Weaving___le__ : CalCm l.prog w K mg base CX0 1 a_Weaving .LtE f_Weaving___le__ _ ["self", "other"] (sp_Weaving___le__ K) := ⟨⟨ok_Weaving___le__ F_Weaving___le__ T, b_Weaving___le__⟩, ⟨fa_Weaving___le__, fn_Weaving___le__⟩⟩
  have C__law_all_right : Cal l.prog w K mg base CX0 28 "_law_all_right" f__law_all_right _ ["_law_weavings", "_law_rows"] (sp__law_all_right K) := ⟨ok__law_all_right F__law_all_right T C__law_shows C__law_less C__law_same C_Weaving___eq__ C_Weaving___lt__ C_Weaving___le__, b__law_all_right, k__law_all_right, PySem.W.mg_of X G a__law_all_right⟩
  have C__law_times_right : Cal l.prog w K mg base CX0 28 "_law_times_right" f__law_times_right _ ["_law_state_here", "_law_weaving", "_law_turns"] (sp__law_times_right K) := ⟨ok__law_times_right F__law_times_right T C__law_pick C__law_try C__law_same C__law_shows C_Weaving___init__, b__law_times_right, k__law_times_right, PySem.W.mg_of X G a__law_times_right⟩
  have C__law_line_right : Cal l.prog w K mg base CX0 28 "_law_line_right" f__law_line_right _ ["_law_state_here", "_law_turns"] (sp__law_line_right K) := ⟨ok__law_line_right F__law_line_right T C__law_try C__law_shows C__law_draw C__law_same C__law_pick, b__law_line_right, k__law_line_right, PySem.W.mg_of X G a__law_line_right⟩
  have C_Weaving_without : CalM l.prog w K mg base (L2.CX l.prog w) 5 a_Weaving "without" f_Weaving_without _ ["self", "writer"] (sp_Weaving_without K) := ⟨⟨ok_Weaving_without F_Weaving_without T C_Weaving___init__, b_Weaving_without⟩, ⟨pg_Weaving, hx_Weaving, po_Weaving, st_Weaving⟩, ⟨fa_Weaving_without, fn_Weaving_without, k_Weaving_without⟩⟩
  have C_Weaving___add__ : CalO l.prog w K mg base (L2.CX l.prog w) 5 a_Weaving .Add f_Weaving___add__ _ ["self", "other"] (sp_Weaving___add__ K) := ⟨⟨ok_Weaving___add__ F_Weaving___add__ T C_Weaving___init__, b_Weaving___add__⟩, ⟨sf_Weaving, fa_Weaving___add__, fn_Weaving___add__⟩⟩
  have C_Weaving___iadd__ : CalInp l.prog w K mg base CX0 1 a_Weaving .Add f_Weaving___iadd__ _ ["self", "other"] (sp_Weaving___iadd__ K) := ⟨⟨ok_Weaving___iadd__ F_Weaving___iadd__ T, b_Weaving___iadd__⟩, ⟨sf_Weaving, fa_Weaving___iadd__, fn_Weaving___iadd__⟩⟩
  exact ok_law F_law T C__law_state C__law_numbers C__law_draw C__law_near C__law_all_right C__law_shows C__law_same C__law_line_right C__law_times_right C__law_try C_Weaving___init__ C_Weaving_without C_Weaving___add__ C_Weaving___iadd__ C_Weaving___mul__
theorem walk {l : PySem.W.OpenLaw} {q : Program} {loose : List Str} {XP : (Str → Option Value) → Heap → Prop} {YP : World → Heap → Prop} {d : DefRec} {K : Params → PySem.W.Frag} (hn : l.most = some 63) (hdf : d.params.defaults = [])
    (hY : ∀ (w : World) (h : Heap), YP w h → (K w.params).In h)
    (F : ∀ (w : World) (mg : Str → Option Value) (fa : Addr) (h : Heap), (K w.params).In h → h.Ns mainGlobals mg → mg d.name = some (.ref fa) →
      ∃ fd : FuncData, (∀ (s : Shared) (u : Value), BindsTo s fd ⟨[u], []⟩ [("_law_script", u)]) ∧ ∀ base : Heap, (K w.params).In base → base.Ns mainGlobals mg → FnOk l.prog w (K w.params) mg base CX0 80 fa fd ["_law_script"] (spLaw (K w.params))) :
    PySem.W.WalkO q loose XP YP l.row.toRowW d [] (fun f vs => PySem.call f vs) :=
  L2.walk_of (n := 63) (k := 80) (x := "_law_script") (CX := fun _ => CX0) (sp := fun w => spLaw (K w.params)) hn (by decide) hdf ⟨rfl, by decide, by decide⟩ hY F (fun _ _ a ns hl _ hS => ⟨a, ns, rfl, hS, hl, fun _ => rfl⟩) fun _ _ _ _ _ z => z
end K44
open PySem PySem.W PySem.Calls PyProof.Rows
namespace K44
open PySem PySem.W PyProof.Rows HeadRun El
set_option maxRecDepth 100000
set_option maxHeartbeats 0
abbrev tR : OpenRow := OpenLaw.row PySem.Challenge.rw_elseput_k44_weavings_as_values
def tq : Program := { PySem.Challenge.pw_elseput_k44_weavings_as_values with main := { PySem.Challenge.pw_elseput_k44_weavings_as_values.main with body := [topS 40] } }
def tl0 : List PySem.Str := [PySem.Str.ofString "_wall", PySem.Str.ofString "__name__", PySem.Str.ofString "ElseputError", PySem.Str.ofString "BadNumber", PySem.Str.ofString "BadText", PySem.Str.ofString "BadTurn", PySem.Str.ofString "LETTERS", PySem.Str.ofString "DIGITS", PySem.Str.ofString "SIGNS", PySem.Str.ofString "MARKS", PySem.Str.ofString "split_line", PySem.Str.ofString "token_end", PySem.Str.ofString "run_end", PySem.Str.ofString "BOUND", PySem.Str.ofString "MOST_TIMES", PySem.Str.ofString "in_bound", PySem.Str.ofString "check_times", PySem.Str.ofString "LONGEST_INTEGER", PySem.Str.ofString "is_integer", PySem.Str.ofString "Reader", PySem.Str.ofString "Weaving", PySem.Str.ofString "_law_state", PySem.Str.ofString "_law_draw", PySem.Str.ofString "_law_pick", PySem.Str.ofString "_law_number", PySem.Str.ofString "_law_is_int", PySem.Str.ofString "_law_same", PySem.Str.ofString "_law_numbers", PySem.Str.ofString "_law_near", PySem.Str.ofString "_law_less", PySem.Str.ofString "_law_try", PySem.Str.ofString "_law_shows", PySem.Str.ofString "_law_all_right", PySem.Str.ofString "_law_times_right", PySem.Str.ofString "_law_line_right"]
def tl : List PySem.Str := tl0
local macro_rules | `(tactic| o_head $H) => `(tactic| (exfalso; assumption))
theorem t0 (hf : False) : tR.Holds := by k_head
noncomputable def tas : List Nat := (t0.heap_1 (PySem.W.aWorld 1).params).map (·.1)
theorem tep (P : Params) : placesAre tas (t0.heap_1 P) = true := by kernel_rfl
theorem tek : ∀ P, tas = (t0.heap_1 P).map (·.1) := fun P => places_ok tas (t0.heap_1 P) (tep P)
theorem tA (w : World) : TopLooks tR tq tl 30000 w := by
  intro os
  kernel_rfl
theorem tC (w : World) : TopObjs tR t0.heap_1 tas 30000 w := by
  intro os
  kernel_rfl
end K44
set_option maxRecDepth 100000 in
set_option maxHeartbeats 0 in
theorem PySem.Challenge.cw_elseput_k44_weavings_as_values_holds : PySem.Challenge.rw_elseput_k44_weavings_as_values.Holds := by
  w_on; o_law
  refine El.head_tiny (r := K44.tR) (q := K44.tq) (loose := K44.tl) (K := K44.t0.heap_1) (as := K44.tas) (ek := K44.tek) 30000 K44.tA K44.tC (by kernel_rfl) (fun s => by kernel_rfl) (by rfl) (by rfl) (by rfl) (by rfl) (by first | assumption | decide +kernel) (by decide +kernel) ⟨rfl, rfl, rfl, rfl, rfl, by decide +kernel⟩ ?hw ?hc
  case hw => w_witness2
  case hc =>
  k_fill
  refine K44.walk (l := PySem.Challenge.rw_elseput_k44_weavings_as_values) rfl rfl (fun w h Y => PySem.W.kIn_of Y) ?F
  case F =>
    intro w mg fa h KX G hmg
    refine' K44.all_mk KX G hmg ?g_Reader ?pg_Reader ?hx_Reader ?po_Reader ?st_Reader ?rr_Reader ?rg_Reader ?mi_Reader ?ko_Reader ?sf_Reader ?na_Reader__at ?na_Reader__end ?na_Reader__number ?na_Reader__parts ?g_Weaving ?pg_Weaving ?hx_Weaving ?po_Weaving ?st_Weaving ?rr_Weaving ?rg_Weaving ?mi_Weaving ?ko_Weaving ?sf_Weaving ?hcl_Weaving ?hn_Weaving ?ht_Weaving ?hm_Weaving ?na_Weaving__many ?na_Weaving_turns ?a_run_end ?l_run_end ?c_run_end ?k_run_end ?a_token_end ?l_token_end ?c_token_end ?k_token_end ?a_split_line ?l_split_line ?c_split_line ?k_split_line ?a_in_bound ?l_in_bound ?c_in_bound ?k_in_bound ?a_check_times ?l_check_times ?c_check_times ?k_check_times ?a_is_integer ?l_is_integer ?c_is_integer ?k_is_integer ?a__law_state ?l__law_state ?c__law_state ?k__law_state ?a__law_draw ?l__law_draw ?c__law_draw ?k__law_draw ?a__law_pick ?l__law_pick ?c__law_pick ?k__law_pick ?a__law_number ?l__law_number ?c__law_number ?k__law_number ?a__law_is_int ?l__law_is_int ?c__law_is_int ?k__law_is_int ?a__law_same ?l__law_same ?c__law_same ?k__law_same ?a__law_numbers ?l__law_numbers ?c__law_numbers ?k__law_numbers ?a__law_near ?l__law_near ?c__law_near ?k__law_near ?a__law_less ?l__law_less ?c__law_less ?k__law_less ?fa_Weaving___init__ ?fn_Weaving___init__ ?l_Weaving___init__ ?c_Weaving___init__ ?k_Weaving___init__ ?fa_Reader___init__ ?fn_Reader___init__ ?l_Reader___init__ ?ld_Reader___init__ ?v_d_Reader___init__ ?c_Reader___init__ ?k_Reader___init__ ?fa_Reader_at_end ?fn_Reader_at_end ?l_Reader_at_end ?c_Reader_at_end ?k_Reader_at_end ?fa_Reader_ahead ?fn_Reader_ahead ?l_Reader_ahead ?c_Reader_ahead ?k_Reader_ahead ?fa_Reader__refuse ?fn_Reader__refuse ?l_Reader__refuse ?c_Reader__refuse ?k_Reader__refuse ?fa_Reader__take_if ?fn_Reader__take_if ?l_Reader__take_if ?c_Reader__take_if ?k_Reader__take_if ?fa_Reader_take_natural ?fn_Reader_take_natural ?l_Reader_take_natural ?c_Reader_take_natural ?k_Reader_take_natural ?sg_Weaving_read ?sr_Weaving_read ?l_Weaving_read ?c_Weaving_read ?k_Weaving_read ?rh_Weaving___mul__ ?rf_Weaving___mul__ ?rr_Weaving___mul__ ?rs_Weaving___mul__ ?fa_Weaving___mul__ ?fn_Weaving___mul__ ?l_Weaving___mul__ ?c_Weaving___mul__ ?k_Weaving___mul__ ?rm_Weaving___rmul__ ?rs_Weaving___rmul__ ?fa_Weaving___rmul__ ?fn_Weaving___rmul__ ?l_Weaving___rmul__ ?c_Weaving___rmul__ ?k_Weaving___rmul__ ?a__law_try ?l__law_try ?c__law_try ?k__law_try ?fa_Weaving_text ?fn_Weaving_text ?l_Weaving_text ?c_Weaving_text ?k_Weaving_text ?fa_Weaving___len__ ?fn_Weaving___len__ ?l_Weaving___len__ ?c_Weaving___len__ ?k_Weaving___len__ ?fa_Weaving___iter__ ?fn_Weaving___iter__ ?l_Weaving___iter__ ?c_Weaving___iter__ ?k_Weaving___iter__ ?a__law_shows ?l__law_shows ?c__law_shows ?k__law_shows ?fa_Weaving___eq__ ?fn_Weaving___eq__ ?l_Weaving___eq__ ?c_Weaving___eq__ ?k_Weaving___eq__ ?fa_Weaving___lt__ ?fn_Weaving___lt__ ?l_Weaving___lt__ ?c_Weaving___lt__ ?k_Weaving___lt__ ?fa_Weaving___le__ ?fn_Weaving___le__ ?l_Weaving___le__ ?c_Weaving___le__ ?k_Weaving___le__ ?a__law_all_right ?l__law_all_right ?c__law_all_right ?k__law_all_right ?a__law_times_right ?l__law_times_right ?c__law_times_right ?k__law_times_right ?a__law_line_right ?l__law_line_right ?c__law_line_right ?k__law_line_right ?fa_Weaving_without ?fn_Weaving_without ?l_Weaving_without ?c_Weaving_without ?k_Weaving_without ?fa_Weaving___add__ ?fn_Weaving___add__ ?l_Weaving___add__ ?c_Weaving___add__ ?k_Weaving___add__ ?fa_Weaving___iadd__ ?fn_Weaving___iadd__ ?l_Weaving___iadd__ ?c_Weaving___iadd__ ?k_Weaving___iadd__ ?a_law ?l_law ?c_law ?k_law ?z_NotImplemented ?z_abs ?z_bool ?z_dict ?z_int ?z_isinstance ?z_iter ?z_len ?z_list ?z_range ?z_staticmethod ?z_str ?z_super ?z_tuple ?g_BOUND ?g_DIGITS ?g_LETTERS ?g_LONGEST_INTEGER ?g_MOST_TIMES ?g_MARKS ?l_MARKS ?v_MARKS ?g_SIGNS ?l_SIGNS ?v_SIGNS ?g_BadNumber ?g_BadText ?g_BadTurn ?g_ElseputError ?st_any ?htop ?xc_BadNumber ?ref_BadNumber ?sa_BadNumber ?eb_BadNumber ?ty_BadNumber ?kC_BadNumber ?iC_BadNumber ?tI_BadNumber ?sup_BadNumber ?sv_BadNumber ?mro_BadNumber ?no0_BadNumber ?ga_BadNumber ?gg_BadNumber ?hd_BadNumber ?hcl_BadNumber ?hn_BadNumber ?ht_BadNumber ?hm_BadNumber ?lf_BadNumber ?cd_BadNumber ?lc_BadNumber ?v2_BadNumber ?fe_BadNumber ?lcc_BadNumber ?hD_BadNumber ?xc_BadText ?ref_BadText ?sa_BadText ?eb_BadText ?ty_BadText ?kC_BadText ?iC_BadText ?tI_BadText ?sup_BadText ?sv_BadText ?mro_BadText ?no0_BadText ?no1_BadText ?ga_BadText ?gg_BadText ?hd_BadText ?hcl_BadText ?hn_BadText ?ht_BadText ?hm_BadText ?lf_BadText ?cd_BadText ?lc_BadText ?v2_BadText ?fe_BadText ?lcc_BadText ?hD_BadText ?xc_BadTurn ?ref_BadTurn ?sa_BadTurn ?eb_BadTurn ?ty_BadTurn ?kC_BadTurn ?iC_BadTurn ?tI_BadTurn ?sup_BadTurn ?sv_BadTurn ?mro_BadTurn ?no0_BadTurn ?ga_BadTurn ?gg_BadTurn ?hd_BadTurn ?hcl_BadTurn ?hn_BadTurn ?ht_BadTurn ?hm_BadTurn ?lf_BadTurn ?cd_BadTurn ?lc_BadTurn ?v2_BadTurn ?fe_BadTurn ?lcc_BadTurn ?hD_BadTurn ?mb_ElseputError ?md_ElseputError ?mt_ElseputError ?ms_BadNumber_ElseputError ?ms_BadText_ElseputError ?ms_BadTurn_ElseputError ?kit_BadNumber_BadTurn ?kit_BadNumber_BadNumber ?kit_BadNumber_BadText ?kit_BadText_BadTurn ?kit_BadText_BadNumber ?kit_BadText_BadText ?kit_BadTurn_BadTurn ?kit_BadTurn_BadNumber ?kit_BadTurn_BadText
    (case g_Reader => k_is)
    (case pg_Reader => k_is)
    (case hx_Reader => k_is)
    (case po_Reader => k_is)
    (case st_Reader => k_is)
    (case rr_Reader => k_is)
    (case rg_Reader => k_is)
    (case mi_Reader => k_is)
    (case ko_Reader => k_is)
    (case sf_Reader => k_is)
    (case na_Reader__at => k_is)
    (case na_Reader__end => k_is)
    (case na_Reader__number => k_is)
    (case na_Reader__parts => k_is)
    (case g_Weaving => k_is)
    (case pg_Weaving => k_is)
    (case hx_Weaving => k_is)
    (case po_Weaving => k_is)
    (case st_Weaving => k_is)
    (case rr_Weaving => k_is)
    (case rg_Weaving => k_is)
    (case mi_Weaving => k_is)
    (case ko_Weaving => k_is)
    (case sf_Weaving => k_is)
    (case hcl_Weaving => k_is)
    (case hn_Weaving => k_is)
    (case ht_Weaving => k_is)
    (case hm_Weaving => k_is)
    (case na_Weaving__many => k_is)
    (case na_Weaving_turns => k_is)
    (case a_run_end => k_is)
    (case l_run_end => k_is)
    (case c_run_end => k_is)
    (case k_run_end => k_is)
    (case a_token_end => k_is)
    (case l_token_end => k_is)
    (case c_token_end => k_is)
    (case k_token_end => k_is)
    (case a_split_line => k_is)
    (case l_split_line => k_is)
    (case c_split_line => k_is)
    (case k_split_line => k_is)
    (case a_in_bound => k_is)
    (case l_in_bound => k_is)
    (case c_in_bound => k_is)
    (case k_in_bound => k_is)
    (case a_check_times => k_is)
    (case l_check_times => k_is)
    (case c_check_times => k_is)
    (case k_check_times => k_is)
    (case a_is_integer => k_is)
    (case l_is_integer => k_is)
    (case c_is_integer => k_is)
    (case k_is_integer => k_is)
    (case a__law_state => k_is)
    (case l__law_state => k_is)
    (case c__law_state => k_is)
    (case k__law_state => k_is)
    (case a__law_draw => k_is)
    (case l__law_draw => k_is)
    (case c__law_draw => k_is)
    (case k__law_draw => k_is)
    (case a__law_pick => k_is)
    (case l__law_pick => k_is)
    (case c__law_pick => k_is)
    (case k__law_pick => k_is)
    (case a__law_number => k_is)
    (case l__law_number => k_is)
    (case c__law_number => k_is)
    (case k__law_number => k_is)
    (case a__law_is_int => k_is)
    (case l__law_is_int => k_is)
    (case c__law_is_int => k_is)
    (case k__law_is_int => k_is)
    (case a__law_same => k_is)
    (case l__law_same => k_is)
    (case c__law_same => k_is)
    (case k__law_same => k_is)
    (case a__law_numbers => k_is)
    (case l__law_numbers => k_is)
    (case c__law_numbers => k_is)
    (case k__law_numbers => k_is)
    (case a__law_near => k_is)
    (case l__law_near => k_is)
    (case c__law_near => k_is)
    (case k__law_near => k_is)
    (case a__law_less => k_is)
    (case l__law_less => k_is)
    (case c__law_less => k_is)
    (case k__law_less => k_is)
    (case fa_Weaving___init__ => k_is)
    (case fn_Weaving___init__ => k_is)
    (case l_Weaving___init__ => k_is)
    (case c_Weaving___init__ => k_is)
    (case k_Weaving___init__ => k_is)
    (case fa_Reader___init__ => k_is)
    (case fn_Reader___init__ => k_is)
    (case l_Reader___init__ => k_is)
    (case ld_Reader___init__ => k_is)
    (case v_d_Reader___init__ => (repeat' first | exact .nil | refine .cons ⟨_, rfl⟩ ?_))
    (case c_Reader___init__ => k_is)
    (case k_Reader___init__ => k_is)
    (case fa_Reader_at_end => k_is)
    (case fn_Reader_at_end => k_is)
    (case l_Reader_at_end => k_is)
    (case c_Reader_at_end => k_is)
    (case k_Reader_at_end => k_is)
    (case fa_Reader_ahead => k_is)
    (case fn_Reader_ahead => k_is)
    (case l_Reader_ahead => k_is)
    (case c_Reader_ahead => k_is)
    (case k_Reader_ahead => k_is)
    (case fa_Reader__refuse => k_is)
    (case fn_Reader__refuse => k_is)
    (case l_Reader__refuse => k_is)
    (case c_Reader__refuse => k_is)
    (case k_Reader__refuse => k_is)
    (case fa_Reader__take_if => k_is)
    (case fn_Reader__take_if => k_is)
    (case l_Reader__take_if => k_is)
    (case c_Reader__take_if => k_is)
    (case k_Reader__take_if => k_is)
    (case fa_Reader_take_natural => k_is)
    (case fn_Reader_take_natural => k_is)
    (case l_Reader_take_natural => k_is)
    (case c_Reader_take_natural => k_is)
    (case k_Reader_take_natural => k_is)
    (case sg_Weaving_read => k_is)
    (case sr_Weaving_read => k_is)
    (case l_Weaving_read => k_is)
    (case c_Weaving_read => k_is)
    (case k_Weaving_read => k_is)
    (case rh_Weaving___mul__ => k_is)
    (case rf_Weaving___mul__ => k_is)
    (case rr_Weaving___mul__ => k_is)
    (case rs_Weaving___mul__ => k_is)
    (case fa_Weaving___mul__ => k_is)
    (case fn_Weaving___mul__ => k_is)
    (case l_Weaving___mul__ => k_is)
    (case c_Weaving___mul__ => k_is)
    (case k_Weaving___mul__ => k_is)
    (case rm_Weaving___rmul__ => k_is)
    (case rs_Weaving___rmul__ => k_is)
    (case fa_Weaving___rmul__ => k_is)
    (case fn_Weaving___rmul__ => k_is)
    (case l_Weaving___rmul__ => k_is)
    (case c_Weaving___rmul__ => k_is)
    (case k_Weaving___rmul__ => k_is)
    (case a__law_try => k_is)
    (case l__law_try => k_is)
    (case c__law_try => k_is)
    (case k__law_try => k_is)
    (case fa_Weaving_text => k_is)
    (case fn_Weaving_text => k_is)
    (case l_Weaving_text => k_is)
    (case c_Weaving_text => k_is)
    (case k_Weaving_text => k_is)
    (case fa_Weaving___len__ => k_is)
    (case fn_Weaving___len__ => k_is)
    (case l_Weaving___len__ => k_is)
    (case c_Weaving___len__ => k_is)
    (case k_Weaving___len__ => k_is)
    (case fa_Weaving___iter__ => k_is)
    (case fn_Weaving___iter__ => k_is)
    (case l_Weaving___iter__ => k_is)
    (case c_Weaving___iter__ => k_is)
    (case k_Weaving___iter__ => k_is)
    (case a__law_shows => k_is)
    (case l__law_shows => k_is)
    (case c__law_shows => k_is)
    (case k__law_shows => k_is)
    (case fa_Weaving___eq__ => k_is)
    (case fn_Weaving___eq__ => k_is)
    (case l_Weaving___eq__ => k_is)
    (case c_Weaving___eq__ => k_is)
    (case k_Weaving___eq__ => k_is)
    (case fa_Weaving___lt__ => k_is)
    (case fn_Weaving___lt__ => k_is)
    (case l_Weaving___lt__ => k_is)
    (case c_Weaving___lt__ => k_is)
    (case k_Weaving___lt__ => k_is)
    (case fa_Weaving___le__ => k_is)
    (case fn_Weaving___le__ => k_is)
    (case l_Weaving___le__ => k_is)
    (case c_Weaving___le__ => k_is)
    (case k_Weaving___le__ => k_is)
    (case a__law_all_right => k_is)
    (case l__law_all_right => k_is)
    (case c__law_all_right => k_is)
    (case k__law_all_right => k_is)
    (case a__law_times_right => k_is)
    (case l__law_times_right => k_is)
    (case c__law_times_right => k_is)
    (case k__law_times_right => k_is)
    (case a__law_line_right => k_is)
    (case l__law_line_right => k_is)
    (case c__law_line_right => k_is)
    (case k__law_line_right => k_is)
    (case fa_Weaving_without => k_is)
    (case fn_Weaving_without => k_is)
    (case l_Weaving_without => k_is)
    (case c_Weaving_without => k_is)
    (case k_Weaving_without => k_is)
    (case fa_Weaving___add__ => k_is)
    (case fn_Weaving___add__ => k_is)
    (case l_Weaving___add__ => k_is)
    (case c_Weaving___add__ => k_is)
    (case k_Weaving___add__ => k_is)
    (case fa_Weaving___iadd__ => k_is)
    (case fn_Weaving___iadd__ => k_is)
    (case l_Weaving___iadd__ => k_is)
    (case c_Weaving___iadd__ => k_is)
    (case k_Weaving___iadd__ => k_is)
    (case a_law => k_is)
    (case l_law => k_is)
    (case c_law => k_is)
    (case k_law => k_is)
    (case z_NotImplemented => k_is)
    (case z_abs => k_is)
    (case z_bool => k_is)
    (case z_dict => k_is)
    (case z_int => k_is)
    (case z_isinstance => k_is)
    (case z_iter => k_is)
    (case z_len => k_is)
    (case z_list => k_is)
    (case z_range => k_is)
    (case z_staticmethod => k_is)
    (case z_str => k_is)
    (case z_super => k_is)
    (case z_tuple => k_is)
    (case g_BOUND => k_is)
    (case g_DIGITS => k_is)
    (case g_LETTERS => k_is)
    (case g_LONGEST_INTEGER => k_is)
    (case g_MOST_TIMES => k_is)
    (case g_MARKS => k_is)
    (case l_MARKS => k_is)
    (case v_MARKS => (repeat' first | exact .nil | refine .cons ⟨_, rfl⟩ ?_))
    (case g_SIGNS => k_is)
    (case l_SIGNS => k_is)
    (case v_SIGNS => (repeat' first | exact .nil | refine .cons ⟨_, rfl⟩ ?_))
    (case g_BadNumber => k_is)
    (case g_BadText => k_is)
    (case g_BadTurn => k_is)
    (case g_ElseputError => k_is)
    (case st_any => k_is)
    (case htop => first | rfl | decide +kernel | k_is)
    (case xc_BadNumber => k_is)
    (case ref_BadNumber => first | rfl | decide +kernel | k_is)
    (case sa_BadNumber => k_is)
    (case eb_BadNumber => k_is)
    (case ty_BadNumber => k_is)
    (case kC_BadNumber => k_is)
    (case iC_BadNumber => k_is)
    (case tI_BadNumber => k_is)
    (case sup_BadNumber => ks_is)
    (case sv_BadNumber => k_is)
    (case mro_BadNumber => k_is)
    (case no0_BadNumber => k_is)
    (case ga_BadNumber => k_is)
    (case gg_BadNumber => k_is)
    (case hd_BadNumber => k_is)
    (case hcl_BadNumber => k_is)
    (case hn_BadNumber => k_is)
    (case ht_BadNumber => k_is)
    (case hm_BadNumber => k_is)
    (case lf_BadNumber => k_is)
    (case cd_BadNumber => k_is)
    (case lc_BadNumber => k_is)
    (case v2_BadNumber => first | rfl | decide +kernel | k_is)
    (case fe_BadNumber => first | rfl | decide +kernel | k_is)
    (case lcc_BadNumber => k_is)
    (case hD_BadNumber => k_is)
    (case xc_BadText => k_is)
    (case ref_BadText => first | rfl | decide +kernel | k_is)
    (case sa_BadText => k_is)
    (case eb_BadText => k_is)
    (case ty_BadText => k_is)
    (case kC_BadText => k_is)
    (case iC_BadText => k_is)
    (case tI_BadText => k_is)
    (case sup_BadText => ks_is)
    (case sv_BadText => k_is)
    (case mro_BadText => k_is)
    (case no0_BadText => k_is)
    (case no1_BadText => k_is)
    (case ga_BadText => k_is)
    (case gg_BadText => k_is)
    (case hd_BadText => k_is)
    (case hcl_BadText => k_is)
    (case hn_BadText => k_is)
    (case ht_BadText => k_is)
    (case hm_BadText => k_is)
    (case lf_BadText => k_is)
    (case cd_BadText => k_is)
    (case lc_BadText => k_is)
    (case v2_BadText => first | rfl | decide +kernel | k_is)
    (case fe_BadText => first | rfl | decide +kernel | k_is)
    (case lcc_BadText => k_is)
    (case hD_BadText => k_is)
    (case xc_BadTurn => k_is)
    (case ref_BadTurn => first | rfl | decide +kernel | k_is)
    (case sa_BadTurn => k_is)
    (case eb_BadTurn => k_is)
    (case ty_BadTurn => k_is)
    (case kC_BadTurn => k_is)
    (case iC_BadTurn => k_is)
    (case tI_BadTurn => k_is)
    (case sup_BadTurn => ks_is)
    (case sv_BadTurn => k_is)
    (case mro_BadTurn => k_is)
    (case no0_BadTurn => k_is)
    (case ga_BadTurn => k_is)
    (case gg_BadTurn => k_is)
    (case hd_BadTurn => k_is)
    (case hcl_BadTurn => k_is)
    (case hn_BadTurn => k_is)
    (case ht_BadTurn => k_is)
    (case hm_BadTurn => k_is)
    (case lf_BadTurn => k_is)
    (case cd_BadTurn => k_is)
    (case lc_BadTurn => k_is)
    (case v2_BadTurn => first | rfl | decide +kernel | k_is)
    (case fe_BadTurn => first | rfl | decide +kernel | k_is)
    (case lcc_BadTurn => k_is)
    (case hD_BadTurn => k_is)
    (case mb_ElseputError => k_is)
    (case md_ElseputError => k_is)
    (case mt_ElseputError => k_is)
    (case ms_BadNumber_ElseputError => k_is)
    (case ms_BadText_ElseputError => k_is)
    (case ms_BadTurn_ElseputError => k_is)
    (case kit_BadNumber_BadTurn => kit_is)
    (case kit_BadNumber_BadNumber => kit_is)
    (case kit_BadNumber_BadText => kit_is)
    (case kit_BadText_BadTurn => kit_is)
    (case kit_BadText_BadNumber => kit_is)
    (case kit_BadText_BadText => kit_is)
    (case kit_BadTurn_BadTurn => kit_is)
    (case kit_BadTurn_BadNumber => kit_is)
    (case kit_BadTurn_BadText => kit_is)
